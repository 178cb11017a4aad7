/-
  Behind a crash of the tape the log that is opened has a beginning of the records, and all that stood fast. WalCrashes returns true for every input, and its arguments read as before.
  Condition: none but those that the form of every such statement bears by itself (each string within the reach).
-/
import Derived.Test.YtfbelaalmdcaaaaRows
import Derived.ProofKit
import Derived.OpenShut
import Derived.ShutString
import Derived.SizedLaws
import Derived.JoinedCond
import Derived.Test.YtfbelaalmdcaaaaK16
import Derived.Test.YtfbelaalmdcaaaaK15

/-
  The walk of WalCrashes.
-/
namespace Go.Proofs.Ytfbelaalmdcaaaa.walCrashes
open Go.RowKit
set_option linter.unusedVariables false

set_option maxRecDepth 8000 in
set_option maxHeartbeats 3200000 in
theorem no (room : Int) (v : Value) (keep : Int) (w : World) (hf : Calls Try.prog 8 #[v] w (fun e w' => e = .returned (.bool false) ∧ w = w')) (hf' : ∀ x, Below w.heap.size w x → Calls Try.prog 8 #[v] x (fun e w' => e = .returned (.bool false) ∧ x = w')) :
    Calls Try.prog 3 #[.int .i64 room, v, .int .i64 keep] w fun e w' => e = .returned (.bool true) ∧ Below w.heap.size w w' := by
  have HF := hide hf'
  clear hf hf'
  go_enter Try.func3, Try.ntmps3
  go_wp2_with fail
  refine (awake9_any w).mono ?_
  rintro e w1 ⟨rfl, hb1⟩
  have HB := hide hb1
  clear hb1
  go_wp2_with fail
  refine (HF.out w1 HB.out).mono ?_
  rintro e w2 ⟨rfl, rfl⟩
  go_wp2_with fail
  refine (awake9_any w1).mono ?_
  rintro e w3 ⟨rfl, hb3⟩
  have HB3 := hide (HB.out.trans (hb3.mono HB.out.size))
  clear hb3 HB
  go_wp2
  go_ret
  exact ⟨rfl, HB3.out⟩
set_option maxRecDepth 8000 in
set_option maxHeartbeats 3200000 in
theorem yes (room : Int) (v : Value) (cs : List Wc) (keep : Int) (w : World) (hs : Scr w v cs) (hl : cs.length ≤ 100) (hf : ∀ x, Below w.heap.size w x → Calls Try.prog 8 #[v] x (fun e w' => e = .returned (.bool true) ∧ x = w')) :
    Calls Try.prog 3 #[.int .i64 room, v, .int .i64 keep] w fun e w' => e = .returned (.bool true) ∧ Below w.heap.size w w' := by
  have HF := hide hf
  have HS := hide hs
  clear hf hs
  go_enter Try.func3, Try.ntmps3
  go_wp2_with fail
  refine (awake9_any w).mono ?_
  rintro e w1 ⟨rfl, hb1⟩
  have HB := hide hb1
  clear hb1
  go_wp2_with fail
  refine (HF.out w1 HB.out).mono ?_
  rintro e w2 ⟨rfl, rfl⟩
  go_wp2_with fail
  refine (played9_at room v cs w w1 HS.out hl HB.out).mono ?_
  rintro e w2 ⟨gt, gl, g, rfl, h2⟩
  have H2 := hide h2
  clear h2 HB HF
  go_wp2_with fail
  refine (krecs9 H2.out).mono ?_
  rintro e w3 ⟨ga, ns, rfl, hri, -⟩
  have H3 := hide (And.intro hri (H2.out.since hri.bel))
  clear hri H2
  go_wp2_with fail
  refine (kdur9 H3.out.2).mono ?_
  rintro e w4 ⟨rfl, h4⟩
  obtain ⟨gb, t1, t2, t3, t4, t5⟩ := h4.tape
  have H4 := hide (And.intro h4 (And.intro t1 (And.intro t2 (And.intro t3 (And.intro t4 t5)))))
  clear h4 t1 t2 t3 t4 t5
  go_wp2_with fail
  refine (crash8_any gt gb g.t keep w4 H4.out.2.1 H4.out.1.ok.tok).mono ?_
  rintro e w5 ⟨rfl, ht5, hT5⟩
  have H5 := hide (show TpAt w5 gt gb (g.t.crash keep) ∧ (∀ k, (w2.heap.size ≤ k ∧ k < w3.heap.size) → k < w5.heap.size ∧ w5.heap[k]? = w3.heap[k]?) ∧ Below w.heap.size w w5 from ⟨ht5, fun k hk => ⟨Nat.lt_of_lt_of_le (H4.out.1.stay k hk).1 hT5.size, (hT5.block k (H4.out.1.stay k hk).1 (fun e => H4.out.2.2.2.2.1 (by rw [← e]; exact hk)) (fun e => H4.out.2.2.2.2.2 (by rw [← e]; exact hk))).trans (H4.out.1.stay k hk).2⟩, H4.out.1.bel.trans (hT5.below H4.out.2.2.1 H4.out.2.2.2.1 H4.out.1.bel.size)⟩)
  clear ht5 hT5
  go_wp2_with fail
  refine (kopen9 _ w3 w w5 gt gb (g.t.crash keep) 0 H5.out.1 (g.t.crash_ok H4.out.1.ok.tok keep) H4.out.2.2.1 H4.out.2.2.2.1 ⟨H4.out.2.2.2.2.1, H4.out.2.2.2.2.2⟩ H5.out.2.1 H5.out.2.2 (by decide)).mono ?_
  rintro e w6 ⟨gm, rfl, h6⟩
  have H6 := hide h6
  clear h6 H5
  go_wp2_with fail
  refine (krecs9 H6.out).mono ?_
  rintro e w7 ⟨ga2, ns2, rfl, hri2, h7⟩
  obtain ⟨i, m1, m2, m3, m4⟩ := g.crashed H4.out.1.ok keep 0
  have hfew := few_recs g H4.out.1.ok
  have hon := H4.out.1.ok.on
  have hil : (Lg.open (g.t.crash keep) 0).l.length = i := by rw [m3, List.length_take]; omega
  have hnl : ns.length = g.l.length := H3.out.1.len
  have R2 := hri2.rs
  rw [hil] at R2
  have hn2 : ns2.length = i := by have := hri2.len; rw [hil] at this; exact this
  have HL := hide (rlist_any (.slice (some ⟨ga2, 0, none⟩) i i) (.slice (some ⟨ga, 0, none⟩) i g.l.length) ns2 (ns.take i) w7 (by rw [hn2] at R2; exact R2.1) ((H3.out.1.stay (fun k hk => h7.stay k hk)).first (by omega)) (by
    rw [R2.2, m3]
    have e := H3.out.1.rs.2
    rw [← e]
    simp [msR, List.map_take]) (by omega))
  have HSTAY := hide (H3.out.1.stay (fun k hk => h7.stay k hk))
  have H7 := hide h7
  rw [hil]
  have hig : (i : Int) ≤ (g.l.length : Int) := by omega
  have HM := hide (And.intro m4 hil)
  clear m1 m2 m3 m4 hri2 R2 hn2 h7 hil
  go_wp2_with fail
  refine HL.out.mono ?_
  rintro e w8 ⟨rfl, hb8⟩
  have H8 := hide (H7.out.later hb8)
  by_cases he : i = g.l.length
  · have ie : ((i : Int) == (g.l.length : Int)) = true := by simp [he]
    clear hb8 HL H7 H4 H3
    go_wp2
    go_ret
    exact ⟨rfl, H8.out.bel⟩
  · have ie : ((i : Int) == (g.l.length : Int)) = false := by rw [beq_eq_false_iff_ne]; omega
    have hlt : i < ns.length := by omega
    obtain ⟨b, off, eb, hbl, hrg, _, _⟩ := HSTAY.out.at hlt
    injection eb with eb
    injection eb with eb1 eb2
    subst eb1 eb2
    have hcl : w8.cell? ⟨ga, i * 14 + 1, none⟩ = some (.int .u64 ((ns.getD i rcZ).1.l : Int)) := by
      have e := rangeAt_below hrg hb8 hbl 1 _ rfl
      rwa [show 0 + i * 14 + 1 = i * 14 + 1 by omega] at e
    have hgl : (ns.getD i rcZ).1 = g.l.getD i Rec.zero := by rw [← H3.out.1.rs.2, msR_get]
    rw [hgl] at hcl
    have hdu := HM.out.1 (by omega)
    have hil2 : (i : Int) < (g.l.length : Int) := by omega
    generalize (g.l.getD i Rec.zero).l = L at *
    have hdu2 : (g.du : Int) < (L : Int) := by omega
    clear hb8 HL H7 H4 H3 HSTAY hrg hgl
    go_wp2
    go_ret
    exact ⟨rfl, H8.out.bel⟩
theorem walk (room : Int) (v : Value) (cs : List Wc) (keep : Int) (w : World) (_ : (Lit.int .i64 room).wf = true) (h1 : RowsIn wcA Wc.zero 17 w v cs) (_ : cs.length ≤ maxLen) (h3 : ∀ c ∈ cs, c.fits ∧ RcIn w c.m.1 c.m.2.1 c.m.2.2) (h4 : ∀ a len cap, v = .slice a len cap → len ≤ cap) (_ : (Lit.int .i64 keep).wf = true) :
    Calls Try.prog 3 #[.int .i64 room, v, .int .i64 keep] w fun e w' => e = .returned (.bool true) ∧ Below w.heap.size w w' := by
  rcases few9_two v cs w ⟨h1, h3, h4⟩ with ⟨hl, hf⟩ | hf
  · exact yes room v cs keep w ⟨h1, h3, h4⟩ hl hf
  · exact no room v keep w (hf w (Below.refl _ _)) hf
end Go.Proofs.Ytfbelaalmdcaaaa.walCrashes

namespace Go.Proofs.Ytfbelaalmdcaaaa.walCrashes
open Go.ChangeShapes Go.WideShapes Go.ChangeAt Go.RowKit
open Go.ChangeMaps (open_string shut_string)
set_option linter.unusedVariables false

theorem laidOut : laidOutB Try.prog = true := by kernel_rfl
theorem own : ownKnob Try.prog.godebug = none := by kernel_rfl

set_option maxRecDepth 100000 in
theorem lifted (os : Os) (started : os.Started) (H : Type) (enc : TypeId × Value → H) :
    ReturnsInHanded {} Try.checked os 3 .any (Rows.walCrashesSpec.pre6 enc Try.prog Try.f3 Rows.walCrashesRow.domain false) (Rows.walCrashesSpec.post enc Try.prog Try.f3 false true false false) := by
  refine returnsInHanded_of_change_sized (C := Try.checked) own started (by kernel_rfl) Try.func3
    (ChangeSpec.witness6 (enc := enc) (C := Try.checked) false ⟨#[], #[.int .i64 0, .slice none 0 0, .int .i64 0], []⟩ 8 (by kernel_rfl) (by kernel_rfl) (by kernel_rfl) (by kernel_rfl)) ?_
  intro W base args ds gs before hval0 hW hcnd hsz0 _
  have hval : ∀ (j : Nat) t v, Try.f3.params[j]? = some t → args[j]? = some v → Value.okWide Try.prog W .any base t v := hval0
  have hsz : (DataW.weightsEach Try.prog (Try.f3.params.toList ++ Rows.walCrashesSpec.plain.varTypes Try.prog) (ds ++ gs)).all (· ≤ reachBytes) = true := hsz0
  have hW' := hW
  obtain ⟨p, q, hA0, hV, rfl, hfz, hnd⟩ := hW
  have hA : DataW.TrodAll enc Try.prog W 0 (fun _ => true) true Try.f3.params.toList args.toList ds p := hA0
  rw [Try.params3] at hA hval hsz
  obtain ⟨v0, vs0, d0, ds0, p0, q0, hargs, rfl, rfl, h0, r0⟩ := trodAll_cons hA
  obtain ⟨v1, vs1, d1, ds1, p1, q1, rfl, rfl, rfl, h1, r1⟩ := trodAll_cons r0
  obtain ⟨v2, vs2, d2, ds2, p2, q2, rfl, rfl, rfl, h2, r2⟩ := trodAll_cons r1
  obtain ⟨rfl, rfl, rfl⟩ := trodAll_nil r2
  obtain rfl : args = #[v0, v1, v2] := by cases args; simp_all
  obtain ⟨rfl, rfl⟩ := trodVars_none hV
  obtain ⟨a0, rfl, rfl, rfl, w0⟩ := open_int Try.underlying3 (hval 0 3 v0 rfl rfl) h0
  have k1 := h1
  have lt1 := trod_places h1
  obtain ⟨a2, rfl, rfl, rfl, w2⟩ := open_int Try.underlying3 (hval 2 3 v2 rfl rfl) h2
  obtain ⟨m1, w1a, w1b, w1c, w1d⟩ := op_wcs (hval 1 22 v1 rfl rfl) h1
  clear hA0 hval0 hsz0 hsz
  refine (walk a0 v1 m1 a2 W w0 w1a w1b w1c w1d w2).mono fun e W' ⟨he, bel⟩ => ?_
  subst he
  exact ⟨_, rfl, _, _, _, [], _, [], hW', trodAll_mk1 (shut_bool Try.underlying4 _), (trodAll_cons_mk (shut_int Try.underlying3 w0) (trodAll_cons_mk (Below.trod laidOut (by kernel_rfl) (of_decide_eq_true (by kernel_rfl)) k1 bel lt1) (trodAll_cons_mk (shut_int Try.underlying3 w2) trodAll_mk0))), rfl, bel.frame _, fun h => by cases h⟩

theorem over : Rows.walCrashesRow.holds Try.pinned (OpenSpec.ofChange Rows.walCrashesSpec) :=
  OpenClaim.holds_of_wide 3 Try.f3 rfl rfl rfl rfl rfl rfl rfl ⟨rfl, rfl, rfl, rfl, rfl⟩ rfl rfl rfl rfl rfl (by kernel_rfl) Try.func3 (by kernel_rfl)
    (of_decide_eq_true (by kernel_rfl)) (by unfold Func.isWrapper; first | (rw [if_pos (by decide +kernel)]; kernel_rfl) | (rw [if_neg (by decide +kernel)]; exact ⟨rfl, rfl⟩))
    (fun os started H enc _ => lifted os started H enc)

/-- THE STATEMENT. -/
theorem proved : Rows.WalCrashesSaid := over
end Go.Proofs.Ytfbelaalmdcaaaa.walCrashes
namespace Go.Proofs.Ytfbelaalmdcaaaa
theorem walCrashes_proved : Rows.WalCrashesSaid := walCrashes.proved
end Go.Proofs.Ytfbelaalmdcaaaa
