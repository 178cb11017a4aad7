/-
  FrameBehind: records that stand behind others, with greater LSNs, are scanned behind them. FrameBehind returns true for every input whose texts and numbers are together of bulk at most 1048576, and its arguments read as before.
  Condition: the bulk named above; at greater inputs an append in the statement itself can pass the size that the model bears.
-/
import Derived.Shelf.Abstract
import Derived.WalkKit
import Derived.TacticsInMore
import Derived.OpenShut
import Derived.Test.YtgobegpmojkhaaaRows
import Derived.ProofKit
import Derived.ShutString
import Derived.SizedLaws
import Derived.JoinedCond
import Derived.Test.YtgobegpmojkhaaaK05
import Derived.Test.YtgobegpmojkhaaaK10

/-
  The walk of FrameBehind: where the lists are of bulk at most 1048576 it returns true, and turns nothing that was there.
-/
namespace Go.Proofs.Ytgobegpmojkhaaa.frameBehind
open Go.RowKit Go.Shelf
set_option linter.unusedVariables false

theorem rc_one {w : World} {v : Value} {ms : List (Rec × Value × Value)} (h : RsIn w v ms) : ∀ m ∈ ms, ∀ u ∈ (rcF m).toList, u.oneCell' = true := fun m hm u hu => by
  obtain ⟨⟨e1, k1, h1, -⟩, ⟨e2, k2, h2, -⟩⟩ := (h.2 m hm).2
  unfold rcF rcA at hu
  rw [h1, h2] at hu
  simp at hu
  rcases hu with h | h | h | h | h | h | h | h | h | h | h | h | h | h <;> (subst h; rfl)

theorem msR_append (a b : List (Rec × Value × Value)) : msR (a ++ b) = msR a ++ msR b := by simp [msR]
theorem rise_less : ∀ (rs : List Rec) (a b : Nat), b ≤ a → Rise a rs → Rise b rs
  | [], _, _, _, _ => trivial
  | r :: rs, a, b, h, hr => ⟨hr.1, by have := hr.2.1; omega, hr.2.2⟩
theorem rise_parts : ∀ (rs ss : List Rec) (a : Nat), Rise a (rs ++ ss) → Rise a rs ∧ Rise 0 ss
  | [], ss, a, h => ⟨trivial, rise_less ss a 0 (Nat.zero_le _) h⟩
  | r :: rs, ss, a, h => by
    have h2 := rise_parts rs ss r.l h.2.2
    exact ⟨⟨h.1, h.2.1, h2.1⟩, h2.2⟩

set_option maxRecDepth 100000 in
set_option maxHeartbeats 6400000 in
theorem core (va vb : Value) (ms ns : List (Rec × Value × Value)) (w : World) (ha : RsIn w va ms) (hb : RsIn w vb ns) (la : ms.length ≤ 1048576) (lb : ns.length ≤ 1048576)
    (ca : ∀ a len cap, va = .slice a len cap → len ≤ cap ∧ (a = none → cap = 0)) (cb : ∀ a len cap, vb = .slice a len cap → len ≤ cap ∧ (a = none → cap = 0)) :
    Calls Try.prog 8 #[va, vb] w fun e w' => e = .returned (.bool true) ∧ Below w.heap.size w w' := by
  have HA := hide ha
  have HB := hide hb
  have HCA := hide ca
  have HCB := hide cb
  obtain ⟨⟨aa, cpa, rfl, -⟩, -⟩ := ha
  obtain ⟨⟨ab, cpb, rfl, -⟩, -⟩ := hb
  clear ca cb
  refine (callsIn_wide (n := 3)).1 ?_
  refine callsIn_of_wp Try.func8 rfl trivial ?_ rfl
  simp only [Try.ntmps8, List.size_toArray, List.length_cons, List.length_nil, Nat.reduceAdd, Nat.reduceSub, Array.replicate_succ, Array.replicate_zero, List.push_toArray, List.append_toArray, List.nil_append, List.cons_append]
  gi_wp2_with fail
  refine ⟨trivial, (callsIn_wide.2 (awake7_any _)).mono ?_⟩
  rintro e w1 ⟨rfl, hb1⟩
  have HD1 := hide hb1
  clear hb1
  have hbx : Below w1.heap.size w1 (w1.alloc (.cells #[] 28)) := (Below.refl _ _).alloc (Nat.le_refl _) _
  have HDX := hide (HD1.out.trans (hbx.mono HD1.out.size))
  obtain ⟨v2, w2, r2, o2, g2⟩ := run_append_rows rcF rcZ 14 (fun _ => rfl) (by decide) (w1.alloc (.cells #[] 28)) w.heap.size 44 44 28 zeroA 160 Try.underlying44 infoRc3 rfl (.slice (some ⟨w1.heap.size, 0, none⟩) 0 0) 0 [] (World.ownsRow_lit w1 #[] 0 HD1.out.size (Nat.zero_le _) rfl) (.slice aa ms.length cpa) ms (HA.out.below HDX.out).1 (fun a len cap h => (HCA.out a len cap h).2) (rc_one HA.out) (by unfold maxLen; omega) (by omega) HDX.out.size
  have hd2 := HDX.out.grown g2 HDX.out.size (fun k hk => by
    simp only [Value.ownBlock, Option.some.injEq] at hk
    have := HD1.out.size
    omega)
  rw [Nat.zero_add, List.nil_append] at o2
  obtain ⟨v3, w3, r3, o3, g3⟩ := run_append_rows rcF rcZ 14 (fun _ => rfl) (by decide) w2 w.heap.size 44 44 28 zeroA 160 Try.underlying44 infoRc3 rfl v2 ms.length _ o2 (.slice ab ns.length cpb) ns (HB.out.below hd2).1 (fun a len cap h => (HCB.out a len cap h).2) (rc_one HB.out) (by unfold maxLen; omega) (by omega) hd2.size
  have hd3 := hd2.grown g3 hd2.size (fun k hk => (o2.lt k hk).1)
  have HD3 := hide hd3
  have hi3 : RsIn w3 v3 (ms ++ ns) := by
    refine ⟨own_rows rcF rcZ 14 (fun _ => rfl) (base := w.heap.size) (e := 28) ?_, fun m hm => ?_⟩
    · rw [List.length_append, List.flatMap_append]
      exact o3
    · rcases List.mem_append.1 hm with h | h
      · exact ⟨(HA.out.2 m h).1, (HA.out.2 m h).2.below hd3⟩
      · exact ⟨(HB.out.2 m h).1, (HB.out.2 m h).2.below hd3⟩
  have HRT := hide (lright_any v3 (ms ++ ns) w3 hi3 (by rw [List.length_append]; unfold maxLen; omega))
  obtain ⟨a2, c2, hv2⟩ := own_shape5 o2
  obtain ⟨a3, c3, hv3⟩ := own_shape5 o3
  subst hv2 hv3
  have HR2 := hide r2
  have HR3 := hide r3
  clear hbx HDX r2 r3 o2 o3 g2 g3 hd2 hd3 hi3
  gi_wp2_with (first | (refine wpListIn_append_run rfl (.tmp 17) (.tmp 18) 44 rfl _ _ _ rfl rfl HR2.out ?_) | (refine wpListIn_append_run rfl (.tmp 19) (.tmp 20) 44 rfl _ _ _ rfl rfl HR3.out ?_))
  refine ⟨trivial, (callsIn_wide.2 HRT.out).mono ?_⟩
  rintro e w4 ⟨q, rfl, hq, hb4⟩
  have HD4 := hide (HD3.out.trans (hb4.mono HD3.out.size))
  clear HR2 HR3 HRT HD3 HD1 hb4
  cases q with
  | false =>
    clear hq
    gi_wp2_with fail
    refine ⟨trivial, (callsIn_wide.2 (awake7_any _)).mono ?_⟩
    rintro e w5 ⟨rfl, hb5⟩
    have d5 := HD4.out.trans (hb5.mono HD4.out.size)
    clear HD4 hb5
    gi_wp2
    go_ret
    exact ⟨rfl, d5⟩
  | true =>
    obtain ⟨hri, h100⟩ := hq rfl
    rw [msR_append] at hri
    obtain ⟨hra, hrb⟩ := rise_parts _ _ 0 hri
    rw [List.length_append] at h100
    have HRI := hide hri
    have HFA : Hid ((framesB (msR ms)).length ≤ 100600) := by
      have h1 := frames_few (msR ms) (rise_right _ 0 hra)
      have h2 : (msR ms).length = ms.length := by simp [msR]
      unfold Hid
      omega
    have HFB : Hid ((framesB (msR ns)).length ≤ 100600) := by
      have h1 := frames_few (msR ns) (rise_right _ 0 hrb)
      have h2 : (msR ns).length = ns.length := by simp [msR]
      unfold Hid
      omega
    have HLA := hide (laid_any _ ms w4 (HA.out.below HD4.out) hra (by omega))
    have HLB := hide (fun w5 (h : Below w.heap.size w w5) => laid_any _ ns w5 (HB.out.below h) hrb (by omega))
    clear hq hri hra hrb
    gi_wp2_with fail
    refine ⟨trivial, (callsIn_wide.2 HLA.out).mono ?_⟩
    rintro e w5 ⟨vo, ve, rfl, hld⟩
    have HD5 := hide (HD4.out.trans (hld.bel.mono HD4.out.size))
    obtain ⟨ao, co, rfl, hco, hBo⟩ := shape_isB hld.out
    obtain ⟨ae, ce, rfl⟩ := own_shape5 hld.ends
    have HBO := hide hBo
    clear hld hBo HLA HD4
    gi_wp2_with fail
    refine ⟨trivial, (callsIn_wide.2 (HLB.out w5 HD5.out)).mono ?_⟩
    rintro e w6 ⟨vp, vq, rfl, hld⟩
    have HD6 := hide (HD5.out.trans (hld.bel.mono HD5.out.size))
    obtain ⟨ap, cp, rfl, hcp, hBp⟩ := shape_isB hld.out
    obtain ⟨aq, cq, rfl⟩ := own_shape5 hld.ends
    have HBP := hide hBp
    have HBO6 := hide (HBO.out.below hld.bel)
    have HNP : Hid ((framesB (msR ns)).length = 0 → ap = none ∧ cp = 0) := fun h => by
      have h1 := framesB_long (msR ns)
      have h2 : msR ns = [] := List.eq_nil_of_length_eq_zero (by omega)
      have h3 := hld.nil h2
      injection h3 with h4 h5 h6
      exact ⟨h4, h6⟩
    clear hld hBp HLB HD5 HBO
    obtain ⟨a7, c7, w7, r7, hB7, hc7, hb7⟩ := run_append_full w6 30 30 5 Try.underlying30 info8 ao (framesB (msR ms)).length (framesB (msR ms)) HBO6.out ap (framesB (msR ns)).length cp (framesB (msR ns)) HBP.out HNP.out (by have := HFA.out; have := HFB.out; omega)
    have HD7 := hide (HD6.out.trans (hb7.mono HD6.out.size))
    have HSC := hide (scan7_any a7 _ c7 _ w7 hB7 (by have := HFA.out; have := HFB.out; omega) hc7)
    have hsc : scanL (framesB (msR ms) ++ framesB (msR ns)) = (msR ms ++ msR ns, (framesB (msR ms)).length + (framesB (msR ns)).length) := by
      have h := scan_end (bs := framesB (msR ms) ++ framesB (msR ns)) (y := []) (rs := msR ms ++ msR ns) (by rw [framesB_append, List.append_nil]) HRI.out (.inl head_nil)
      rw [framesB_append, List.length_append] at h
      exact h
    unfold ScanAns at HSC
    rw [hsc] at HSC
    simp only [decide_true] at HSC
    have HR7 := hide r7
    have hfa := HFA.out
    have hfb := HFB.out
    clear hsc r7 hB7 hb7 HBO6 HBP HNP HFA HFB HD6
    generalize (framesB (msR ms)).length = lo at *
    generalize (framesB (msR ns)).length = lp at *
    gi_wp2_with (refine wpListIn_append_run rfl (.tmp 50) (.tmp 51) 30 rfl _ _ _ rfl rfl HR7.out ?_)
    refine ⟨trivial, (callsIn_wide.2 HSC.out).mono ?_⟩
    rintro e w8 ⟨v8, ms8, rfl, hms8, hown8, hgot8, hb8⟩
    have HD8 := hide (HD7.out.trans (hb8.mono HD7.out.size))
    have HI8 := hide (RsIn.own hown8 hgot8)
    have h8 : ms8.length = ms.length + ns.length := by
      have := congrArg List.length hms8
      simpa [msR] using this
    have HM8 := hide hms8
    have HA8 := hide (HA.out.below HD8.out)
    have HB8 := hide (HB.out.below HD8.out)
    have hla : ms.length ≤ 100 := by omega
    have hlb : ns.length ≤ 100 := by omega
    rcases hown8.2 with ⟨hv8, h0⟩ | ⟨g8, c8, cur8, hv8, -, -, hc8, -⟩
    · subst hv8
      have hm0 : ms = [] := List.eq_nil_of_length_eq_zero (by omega)
      have hn0 : ns = [] := List.eq_nil_of_length_eq_zero (by omega)
      subst hm0 hn0
      have HL1 := hide (rlist_any (.slice none 0 0) _ [] [] w8 (RsIn.empty _ _ _) HA8.out rfl (by simp))
      have HL2 := hide (fun x (hx : Below w.heap.size w x) => rlist_any (.slice none 0 0) _ [] [] x (RsIn.empty _ _ _) (HB.out.below hx) rfl (by simp))
      simp only [List.length_nil] at HL1 HL2 ⊢
      clear hown8 hgot8 hb8 hms8 h8 HSC HR7 HD7 h0 HI8 HM8
      gi_wp2_with fail
      refine ⟨trivial, (callsIn_wide.2 HL1.out).mono ?_⟩
      rintro e w9 ⟨rfl, hb9⟩
      have HD9 := hide (HD8.out.trans (hb9.mono HD8.out.size))
      clear hb9 HD8 HL1
      gi_wp2_with fail
      refine ⟨trivial, (callsIn_wide.2 (HL2.out w9 HD9.out)).mono ?_⟩
      rintro e w10 ⟨rfl, hb10⟩
      have d10 := HD9.out.trans (hb10.mono HD9.out.size)
      clear hb10 HD9 HL2
      gi_wp2
      go_ret
      exact ⟨rfl, d10⟩
    · subst hv8
      rw [h8] at HI8 hc8 ⊢
      have hm1 : msR (ms8.take ms.length) = msR ms := by
        rw [msR_take, HM8.out]
        exact List.take_left' (by simp [msR])
      have hm2 : msR (ms8.drop ms.length) = msR ns := by
        have e : msR (ms8.drop ms.length) = (msR ms8).drop ms.length := by simp [msR, List.map_drop]
        rw [e, HM8.out]
        exact List.drop_left' (by simp [msR])
      have HL1 := hide (rlist_any _ _ (ms8.take ms.length) ms w8 (HI8.out.first (i := ms.length) (by omega)) HA8.out hm1 (by rw [List.length_take]; omega))
      have HL2 := hide (fun x (hx : Below w8.heap.size w8 x) => rlist_any _ _ (ms8.drop ms.length) ns x ((HI8.out.rest (i := ms.length) (by omega) ns.length (c8 - ms.length) (by omega)).below hx) (HB8.out.below hx) hm2 (by rw [List.length_drop]; omega))
      have HL3 : Hid (c8 = ms.length → ∀ x (_ : Below w8.heap.size w8 x) a c, Calls Try.prog 18 #[.slice a 0 c, .slice ab ns.length cpb] x fun e w' => e = .returned (.bool true) ∧ Below x.heap.size x w') := fun h x hx a c => by
        have hn0 : ns = [] := List.eq_nil_of_length_eq_zero (by omega)
        subst hn0
        exact rlist_any _ _ [] [] x (RsIn.empty _ _ _) (HB8.out.below hx) rfl (by simp)
      clear hown8 hgot8 hb8 hms8 h8 HSC HR7 HD7 HI8 HM8 hm1 hm2 HA8 HB8
      gi_wp2_with fail
      refine ⟨trivial, (callsIn_wide.2 HL1.out).mono ?_⟩
      rintro e w9 ⟨rfl, hb9⟩
      have HD9 := hide (HD8.out.trans (hb9.mono HD8.out.size))
      have HB9 := hide hb9
      clear hb9 HD8 HL1
      have i1 : (ms.length : Int) ≤ (c8 : Int) := by omega
      by_cases hcc : c8 = ms.length
      · have HL4 := hide (HL3.out hcc)
        have hn0 : ns.length = 0 := by omega
        rw [hn0] at HL4
        clear HL2 HL3
        gi_wp2_with fail
        refine ⟨trivial, (callsIn_wide.2 (HL4.out w9 HB9.out _ _)).mono ?_⟩
        rintro e w10 ⟨rfl, hb10⟩
        have d10 := HD9.out.trans (hb10.mono HD9.out.size)
        clear hb10 HD9 HB9
        gi_wp2
        go_ret
        exact ⟨rfl, d10⟩
      · simp only [Nat.zero_add] at HL2
        clear HL3
        gi_wp2_with fail
        refine ⟨trivial, (callsIn_wide.2 (HL2.out w9 HB9.out)).mono ?_⟩
        rintro e w10 ⟨rfl, hb10⟩
        have d10 := HD9.out.trans (hb10.mono HD9.out.size)
        clear hb10 HD9 HB9
        gi_wp2
        go_ret
        exact ⟨rfl, d10⟩

theorem walk (va : Value) (ms : List (Rec × Value × Value)) (vb : Value) (ns : List (Rec × Value × Value)) (w : World) (ha : RsIn w va ms) (la : ms.length ≤ 1048576) (ca : ∀ a len cap, va = .slice a len cap → len ≤ cap ∧ (a = none → cap = 0))
    (hb : RsIn w vb ns) (lb : ns.length ≤ 1048576) (cb : ∀ a len cap, vb = .slice a len cap → len ≤ cap ∧ (a = none → cap = 0)) :
    Calls Try.prog 8 #[va, vb] w fun e w' => e = .returned (.bool true) ∧ Below w.heap.size w w' := core va vb ms ns w ha hb la lb ca cb
end Go.Proofs.Ytgobegpmojkhaaa.frameBehind

namespace Go.Proofs.Ytgobegpmojkhaaa.frameBehind
open Go.ChangeShapes Go.WideShapes Go.ChangeAt Go.RowKit
open Go.ChangeMaps (open_string shut_string)
set_option linter.unusedVariables false

theorem laidOut : laidOutB Try.prog = true := by kernel_rfl
theorem own : ownKnob Try.prog.godebug = none := by kernel_rfl

set_option maxRecDepth 100000 in
theorem contract (H : Type) (enc : TypeId × Value → H) (W : World) (base : Nat) (args : Array Value) (ds gs : List (DataW H)) (before : List MemPlace)
    (hval : ∀ (j : Nat) t v, Try.f8.params[j]? = some t → args[j]? = some v → Value.okWide Try.prog W .any base t v)
    (hW : DataW.Whole enc Try.prog Try.f8.params.toList Rows.frameBehindSpec.vars false W args.toList ds gs before) (hk : Rows.uptoSmall H (ds ++ gs) = true) :
    Calls Try.prog 8 args W fun e W' => ∃ v, e = .returned v ∧ Rows.frameBehindSpec.post enc Try.prog Try.f8 false true false false W args v W' := by
  have hW' := hW
  obtain ⟨p, q, hA0, hV, rfl, hfz, hnd⟩ := hW
  have hA : DataW.TrodAll enc Try.prog W 0 (fun _ => true) true Try.f8.params.toList args.toList ds p := hA0
  rw [Try.params8] at hA hval
  obtain ⟨v0, vs0, d0, ds0, p0, q0, hargs, rfl, rfl, h0, r0⟩ := trodAll_cons hA
  obtain ⟨v1, vs1, d1, ds1, p1, q1, rfl, rfl, rfl, h1, r1⟩ := trodAll_cons r0
  obtain ⟨rfl, rfl, rfl⟩ := trodAll_nil r1
  obtain rfl : args = #[v0, v1] := by cases args; simp_all
  obtain ⟨rfl, rfl⟩ := trodVars_none hV
  have k0 := h0
  have lt0 := trod_places h0
  have k1 := h1
  have lt1 := trod_places h1
  clear hA0
  have hb : Rows.uptoBulkAll (H := H) [d0, d1] ≤ 1048576 := of_decide_eq_true hk
  simp only [Rows.uptoBulkAll] at hb
  obtain ⟨m0, w0a, w0b, w0c⟩ := op_recs_few (N := 1048576) (hval 0 44 v0 rfl rfl) h0 (fun len cap hf => by have := hf.small; omega)
  obtain ⟨m1, w1a, w1b, w1c⟩ := op_recs_few (N := 1048576) (hval 1 44 v1 rfl rfl) h1 (fun len cap hf => by have := hf.small; omega)
  clear hb hk
  refine (walk v0 m0 v1 m1 W w0a w0b w0c w1a w1b w1c).mono fun e W' ⟨he, bel⟩ => ?_
  subst he
  exact ⟨_, rfl, _, _, _, [], _, [], hW', trodAll_mk1 (shut_bool Try.underlying4 _), (trodAll_cons_mk (Below.trod laidOut (by kernel_rfl) (of_decide_eq_true (by kernel_rfl)) k0 bel lt0) (trodAll_cons_mk (Below.trod laidOut (by kernel_rfl) (of_decide_eq_true (by kernel_rfl)) k1 bel lt1) trodAll_mk0)), rfl, bel.frame _, fun h => by cases h⟩

set_option maxRecDepth 100000 in
theorem lifted (os : Os) (started : os.Started) (H : Type) (enc : TypeId × Value → H) (F : Stop.Interp) :
    ReturnsInHanded {} Try.checked os 8 .any ((Rows.OpenSpec.upto Rows.frameBehindSpec).pre6 enc Try.prog Try.f8 Rows.frameBehindUptoRow.domain false) (((Rows.OpenSpec.upto Rows.frameBehindSpec).at F).post enc Try.prog Try.f8 false true false false) := by
  refine returnsInHanded_of_cond (C := Try.checked) (s := Rows.OpenSpec.upto Rows.frameBehindSpec) (k := Rows.uptoSmall) rfl own started (by kernel_rfl) Try.func8
    (OpenSpec.witness (enc := enc) (C := Try.checked) (s := Rows.OpenSpec.upto Rows.frameBehindSpec) (k := Rows.uptoSmall) rfl false ⟨#[], #[.slice none 0 0, .slice none 0 0], []⟩ 8 (by kernel_rfl) (by kernel_rfl) (by kernel_rfl)
      (x := ([.nil, .nil], [], [])) (by kernel_rfl) rfl (by kernel_rfl)) ?_
  intro W base args ds gs before hval hW _ hk _
  exact contract H enc W base args ds gs before hval hW hk

/-- THE STATEMENT. -/
theorem proved : Rows.FrameBehindUptoSaid :=
  OpenClaim.holds_of_cond 8 Try.f8 rfl rfl rfl rfl rfl rfl rfl ⟨rfl, rfl, rfl, rfl, rfl⟩ rfl rfl rfl rfl rfl (by kernel_rfl) Try.func8 (by kernel_rfl)
    (of_decide_eq_true (by kernel_rfl)) (by unfold Func.isWrapper; first | (rw [if_pos (by decide +kernel)]; kernel_rfl) | (rw [if_neg (by decide +kernel)]; exact ⟨rfl, rfl⟩))
    (fun os started H enc _ F => lifted os started H enc F)
end Go.Proofs.Ytgobegpmojkhaaa.frameBehind
namespace Go.Proofs.Ytgobegpmojkhaaa
theorem frameBehind_proved : Rows.FrameBehindUptoSaid := frameBehind.proved
end Go.Proofs.Ytgobegpmojkhaaa
