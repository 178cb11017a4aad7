/-
  What is held back can be had, record by record, whatever was done ahead. WalHolds returns true for every input, and its arguments read as before.
  Condition: none but those that the form of every such statement bears by itself (each string within the reach).
-/
import Derived.Test.YtfbelaalmdcaaaaRows
import Derived.ProofKit
import Derived.OpenShut
import Derived.ShutString
import Derived.SizedLaws
import Derived.JoinedCond
import Derived.Test.YtfbelaalmdcaaaaK16

/-
  The walk of WalHolds.
-/
namespace Go.Proofs.Ytfbelaalmdcaaaa.walHolds
open Go.RowKit
set_option linter.unusedVariables false

/-- What is held back, as the log's block has it. -/
def heldOf (gl : Nat) (w : World) : Nat := match w.cell? ⟨gl, 7, none⟩ with
  | some (.int _ v) => v.toNat
  | _ => 0
theorem heldOf_is {P : Nat → Prop} {wp w0 w : World} {gt gl : Nat} {g : Lg} (h : K9 P wp w0 w gt gl g) : heldOf gl w = g.hd := by
  obtain ⟨F, ⟨gc, gb, a, cap, ms, wa, wc, hL, _⟩, _⟩ := h.la
  unfold heldOf
  rw [hL.c7]
  simp
theorem held_yes (g : Lg) (ok : g.ok) (hh : 27 ≤ g.hd) (hc : g.c < maxL) : g.appE cmR 0 (-27) = 0 ∧ g.num 0 = g.c + 1 ∧ g.hold (-27) = g.hd - 27 := by
  have hn : g.num 0 = g.c + 1 := by unfold Lg.num; omega
  have hh2 : g.hold (-27) = g.hd - 27 := by unfold Lg.hold; omega
  refine ⟨?_, hn, hh2⟩
  have hfull : full g.c 0 (decide ((-27 : Int) < 0)) = false := by
    have e : decide ((-27 : Int) < 0) = true := by decide
    unfold full
    rw [e]
    simp
    omega
  have hr : (cmR.put (g.num 0)).right := by
    rw [hn]
    exact cmR_right _ (by omega) (by unfold maxP; unfold maxL at hc; omega)
  have hq : ¬ g.t.m < g.used + (frameB (cmR.put (g.num 0))).length + g.hold (-27) := by
    rw [cmR_len, hh2]
    have := ok.room
    omega
  unfold Lg.appE
  rw [if_neg (by decide), if_neg (by rw [hfull]; decide), if_neg (fun h => h hr), if_neg hq]
theorem held_full (g : Lg) (ok : g.ok) (hc : ¬ g.c < maxL) : g.appE cmR 0 (-27) = 7 ∧ g.c = maxL := by
  have ht := ok.top
  refine ⟨?_, by omega⟩
  unfold Lg.appE
  rw [if_neg (by decide), if_pos]
  have e : g.c = maxL := by omega
  unfold full
  rw [e]
  simp
set_option maxRecDepth 8000 in
set_option maxHeartbeats 3200000 in
theorem no (room : Int) (v : Value) (w : World) (hf : ∀ x, Below w.heap.size w x → Calls Try.prog 8 #[v] x (fun e w' => e = .returned (.bool false) ∧ x = w')) :
    Calls Try.prog 4 #[.int .i64 room, v] w fun e w' => e = .returned (.bool true) ∧ Below w.heap.size w w' := by
  have HF := hide hf
  clear hf
  go_enter Try.func4, Try.ntmps4
  go_wp2_with fail
  refine (awake9_any w).mono ?_
  rintro e w1 ⟨rfl, hb1⟩
  have HB := hide hb1
  clear hb1
  go_wp2_with fail
  refine (HF.out w1 HB.out).mono ?_
  rintro e w2 ⟨rfl, rfl⟩
  go_wp2_with fail
  refine (awake9_any w1).mono ?_
  rintro e w3 ⟨rfl, hb3⟩
  have HB3 := hide (HB.out.trans (hb3.mono HB.out.size))
  clear hb3 HB
  go_wp2
  go_ret
  exact ⟨rfl, HB3.out⟩
set_option maxRecDepth 8000 in
set_option maxHeartbeats 3200000 in
theorem yes (room : Int) (v : Value) (cs : List Wc) (w : World) (hs : Scr w v cs) (hl : cs.length ≤ 100) (hf : ∀ x, Below w.heap.size w x → Calls Try.prog 8 #[v] x (fun e w' => e = .returned (.bool true) ∧ x = w')) :
    Calls Try.prog 4 #[.int .i64 room, v] w fun e w' => e = .returned (.bool true) ∧ Below w.heap.size w w' := by
  have HF := hide hf
  have HS := hide hs
  clear hf hs
  go_enter Try.func4, Try.ntmps4
  go_wp2_with fail
  refine (awake9_any w).mono ?_
  rintro e w1 ⟨rfl, hb1⟩
  have HB := hide hb1
  clear hb1
  go_wp2_with fail
  refine (HF.out w1 HB.out).mono ?_
  rintro e w2 ⟨rfl, rfl⟩
  clear HF
  go_wp2_with fail
  refine (played9_at room v cs w w1 HS.out hl HB.out).mono ?_
  rintro e w2 ⟨gt, gl, g, rfl, h2⟩
  have H2 := hide h2
  clear h2 HB
  go_wp2
  go_loopw [7] (fun _ wr => ∃ g, Hid (K9 NoP w w wr gt gl g)) (fun _ wr => heldOf gl wr)
  case atStart => exact ⟨g, H2⟩
  case round =>
    obtain ⟨g, HK⟩ := hrel
    clear H2
    go_wp2_with fail
    refine (kheld9 HK.out).mono ?_
    rintro e w3 ⟨rfl, h3⟩
    have H3 := hide h3
    have HHD := hide (heldOf_is HK.out)
    clear h3 HK
    by_cases hh : 27 ≤ g.hd
    · have ih : (27 : Int) ≤ (g.hd : Int) := by omega
      have hsm : g.hd ≤ 65536 := by
        have h1 := H3.out.ok.room
        have h2 := H3.out.ok.tok.room
        omega
      go_wp2_with fail
      refine (kheld9 H3.out).mono ?_
      rintro e w4 ⟨rfl, h4⟩
      have H4 := hide h4
      clear h4 H3
      go_wp2_with fail
      refine (commit9_any w4).mono ?_
      rintro e w5 ⟨rfl, hb5⟩
      have H5 := hide (H4.out.later hb5)
      clear hb5 H4
      have T := hide (kapp9 H5.out cmR _ _ 0 (-27) cmR_fits (rckn (w := w5) rfl rfl) (by decide) (by decide))
      by_cases hc : g.c < maxL
      · obtain ⟨q1, q2, q3⟩ := held_yes g H5.out.ok hh hc
        have hy := g.app_yes cmR 0 (-27) q1
        rw [hy.1, hy.2, q1, q2, q3] at T
        have HCM := hide hc
        clear hy q1 q2 q3 hc
        go_wp2_with fail
        refine T.out.mono ?_
        rintro e w6 ⟨rfl, h6⟩
        have H6 := hide h6
        clear h6 T H5
        have T := hide (kheld9 H6.out)
        have e3 : ((g.hd - 27 : Nat) : Int) = (g.hd : Int) - 27 := by omega
        simp only [e3] at T
        go_wp2_with fail
        refine T.out.mono ?_
        rintro e w7 ⟨rfl, h7⟩
        have H7 := hide h7
        clear h7 T H6
        have T := hide (klast9 H7.out)
        simp only at T
        go_wp2_with fail
        refine T.out.mono ?_
        rintro e w8 ⟨rfl, h8⟩
        have H8 := hide h8
        clear h8 T H7
        go_wp2
        go_roundw
        case rel => exact ⟨_, H8⟩
        case measure =>
          rw [heldOf_is H8.out, HHD.out]
          show g.hd - 27 < g.hd
          omega
      · obtain ⟨q1, q2⟩ := held_full g H5.out.ok hc
        have hy := g.app_no cmR 0 (-27) (by rw [q1]; decide)
        rw [hy.1, hy.2, q1] at T
        clear hy q1 hc
        go_wp2_with fail
        refine T.out.mono ?_
        rintro e w6 ⟨rfl, h6⟩
        have H6 := hide h6
        clear h6 T H5
        have T := hide (klast9 H6.out)
        have e4 : (g.c : Int) = 4611686018427387904 := by rw [q2]; rfl
        rw [e4] at T
        clear q2 e4
        go_wp2_with fail
        refine T.out.mono ?_
        rintro e w7 ⟨rfl, h7⟩
        have H7 := hide h7
        clear h7 T H6
        go_wp2
        go_ret
        exact ⟨rfl, H7.out.bel⟩
    · have ih : ¬ (27 : Int) ≤ (g.hd : Int) := by omega
      have T := hide (kleft9 H3.out)
      have hnn : (0 : Int) ≤ (g.t.m : Int) - (g.used : Int) - (g.hd : Int) := by
        have h1 := H3.out.ok.room
        omega
      obtain ⟨L, hL⟩ : ∃ L, L = (g.t.m : Int) - (g.used : Int) - (g.hd : Int) := ⟨_, rfl⟩
      rw [← hL] at T hnn
      clear hL
      go_wp2_with fail
      refine T.out.mono ?_
      rintro e w4 ⟨rfl, h4⟩
      have H4 := hide h4
      clear h4 T H3
      go_wp2
      go_ret
      exact ⟨rfl, H4.out.bel⟩
theorem walk (room : Int) (v : Value) (cs : List Wc) (w : World) (_ : (Lit.int .i64 room).wf = true) (h1 : RowsIn wcA Wc.zero 17 w v cs) (_ : cs.length ≤ maxLen) (h3 : ∀ c ∈ cs, c.fits ∧ RcIn w c.m.1 c.m.2.1 c.m.2.2) (h4 : ∀ a len cap, v = .slice a len cap → len ≤ cap) :
    Calls Try.prog 4 #[.int .i64 room, v] w fun e w' => e = .returned (.bool true) ∧ Below w.heap.size w w' := by
  rcases few9_two v cs w ⟨h1, h3, h4⟩ with ⟨hl, hf⟩ | hf
  · exact yes room v cs w ⟨h1, h3, h4⟩ hl hf
  · exact no room v w hf
end Go.Proofs.Ytfbelaalmdcaaaa.walHolds

namespace Go.Proofs.Ytfbelaalmdcaaaa.walHolds
open Go.ChangeShapes Go.WideShapes Go.ChangeAt Go.RowKit
open Go.ChangeMaps (open_string shut_string)
set_option linter.unusedVariables false

theorem laidOut : laidOutB Try.prog = true := by kernel_rfl
theorem own : ownKnob Try.prog.godebug = none := by kernel_rfl

set_option maxRecDepth 100000 in
theorem lifted (os : Os) (started : os.Started) (H : Type) (enc : TypeId × Value → H) :
    ReturnsInHanded {} Try.checked os 4 .any (Rows.walHoldsSpec.pre6 enc Try.prog Try.f4 Rows.walHoldsRow.domain false) (Rows.walHoldsSpec.post enc Try.prog Try.f4 false true false false) := by
  refine returnsInHanded_of_change_sized (C := Try.checked) own started (by kernel_rfl) Try.func4
    (ChangeSpec.witness6 (enc := enc) (C := Try.checked) false ⟨#[], #[.int .i64 0, .slice none 0 0], []⟩ 8 (by kernel_rfl) (by kernel_rfl) (by kernel_rfl) (by kernel_rfl)) ?_
  intro W base args ds gs before hval0 hW hcnd hsz0 _
  have hval : ∀ (j : Nat) t v, Try.f4.params[j]? = some t → args[j]? = some v → Value.okWide Try.prog W .any base t v := hval0
  have hsz : (DataW.weightsEach Try.prog (Try.f4.params.toList ++ Rows.walHoldsSpec.plain.varTypes Try.prog) (ds ++ gs)).all (· ≤ reachBytes) = true := hsz0
  have hW' := hW
  obtain ⟨p, q, hA0, hV, rfl, hfz, hnd⟩ := hW
  have hA : DataW.TrodAll enc Try.prog W 0 (fun _ => true) true Try.f4.params.toList args.toList ds p := hA0
  rw [Try.params4] at hA hval hsz
  obtain ⟨v0, vs0, d0, ds0, p0, q0, hargs, rfl, rfl, h0, r0⟩ := trodAll_cons hA
  obtain ⟨v1, vs1, d1, ds1, p1, q1, rfl, rfl, rfl, h1, r1⟩ := trodAll_cons r0
  obtain ⟨rfl, rfl, rfl⟩ := trodAll_nil r1
  obtain rfl : args = #[v0, v1] := by cases args; simp_all
  obtain ⟨rfl, rfl⟩ := trodVars_none hV
  obtain ⟨a0, rfl, rfl, rfl, w0⟩ := open_int Try.underlying3 (hval 0 3 v0 rfl rfl) h0
  have k1 := h1
  have lt1 := trod_places h1
  obtain ⟨m1, w1a, w1b, w1c, w1d⟩ := op_wcs (hval 1 22 v1 rfl rfl) h1
  clear hA0 hval0 hsz0 hsz
  refine (walk a0 v1 m1 W w0 w1a w1b w1c w1d).mono fun e W' ⟨he, bel⟩ => ?_
  subst he
  exact ⟨_, rfl, _, _, _, [], _, [], hW', trodAll_mk1 (shut_bool Try.underlying4 _), (trodAll_cons_mk (shut_int Try.underlying3 w0) (trodAll_cons_mk (Below.trod laidOut (by kernel_rfl) (of_decide_eq_true (by kernel_rfl)) k1 bel lt1) trodAll_mk0)), rfl, bel.frame _, fun h => by cases h⟩

theorem over : Rows.walHoldsRow.holds Try.pinned (OpenSpec.ofChange Rows.walHoldsSpec) :=
  OpenClaim.holds_of_wide 4 Try.f4 rfl rfl rfl rfl rfl rfl rfl ⟨rfl, rfl, rfl, rfl, rfl⟩ rfl rfl rfl rfl rfl (by kernel_rfl) Try.func4 (by kernel_rfl)
    (of_decide_eq_true (by kernel_rfl)) (by unfold Func.isWrapper; first | (rw [if_pos (by decide +kernel)]; kernel_rfl) | (rw [if_neg (by decide +kernel)]; exact ⟨rfl, rfl⟩))
    (fun os started H enc _ => lifted os started H enc)

/-- THE STATEMENT. -/
theorem proved : Rows.WalHoldsSaid := over
end Go.Proofs.Ytfbelaalmdcaaaa.walHolds
namespace Go.Proofs.Ytfbelaalmdcaaaa
theorem walHolds_proved : Rows.WalHoldsSaid := walHolds.proved
end Go.Proofs.Ytfbelaalmdcaaaa
