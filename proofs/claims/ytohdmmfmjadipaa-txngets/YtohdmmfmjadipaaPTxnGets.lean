/-
  Of any records Get, Last and Good answer what the document's own do: the first record of a number, with lists of its own, a transaction's last number, and whether they are a log. TxnGets returns true for every input, and its arguments read as before.
  Condition: none but those that the form of every such statement bears by itself (each string within the reach).
-/
import Derived.Test.YtohdmmfmjadipaaRows
import Derived.ProofKit
import Derived.OpenShut
import Derived.ShutString
import Derived.SizedLaws
import Derived.JoinedCond
import Derived.Test.YtohdmmfmjadipaaK10
import Derived.Test.YtohdmmfmjadipaaK09
import Derived.Test.YtohdmmfmjadipaaK14
import Derived.Test.YtohdmmfmjadipaaK03

set_option maxRecDepth 8000
set_option maxHeartbeats 25600000
namespace Go.Proofs.Ytohdmmfmjadipaa.txnGets
open Go.RowKit
set_option linter.unusedVariables false
theorem both_get {l : List Rec} {n : Nat} {a b : Rec} {p q : Bool} (h1 : (p = true /\ Qtp l n = some a) ∨ (p = false /\ Qtp l n = none /\ a = Rec.zero)) (h2 : (q = true /\ Qtp l n = some b) ∨ (q = false /\ Qtp l n = none /\ b = Rec.zero)) : p = q /\ a = b := by
  rcases h1 with ⟨e1, h1⟩ | ⟨e1, h1, z1⟩ <;> rcases h2 with ⟨e2, h2⟩ | ⟨e2, h2, z2⟩
  · rw [h1] at h2; injection h2 with h2; exact ⟨by rw [e1, e2], h2⟩
  · rw [h1] at h2; cases h2
  · rw [h1] at h2; cases h2
  · exact ⟨by rw [e1, e2], by rw [z1, z2]⟩
theorem walk (v0 : Value) (ms : List (Rec × Value × Value)) (a1 t : Int) (W : World) (ha : Qil W v0 ms) (hb : ms.length <= maxLen) (hc : ∀ a len cap, v0 = .slice a len cap -> len <= cap) (hs : ∀ m ∈ ms, m.1.small) (hw : (Lit.int .u64 a1).wf = true) (hw2 : (Lit.int .i64 t).wf = true) :
    Calls Try.prog 3 #[v0, .int .u64 a1, .int .i64 t] W fun e w' => e = .returned (.bool true) /\ Below W.heap.size W w' := by
  obtain ⟨n, rfl⟩ := Qgd hw; clear hw hw2; have HAW := Qd (fun w => awake15 w); have HRS := Qd ha; have HC := Qd hc; have HSM0 := Qd hs; obtain ⟨⟨aa, ca, rfl, -⟩, -⟩ := ha; clear hc hs; have hb' : ms.length <= 9223372036854775807 := hb; clear hb
  by_cases hbig : 300 < ms.length
  · obtain ⟨ln, hln⟩ : ∃ ln, ln = ms.length := ⟨_, rfl⟩; rw [<- hln] at hbig hb' HRS HC |-; clear hln; have i1 : (ln : Int) > 300 := by omega
    go_enter Try.func3, Try.ntmps3; go_wp2_with fail; refine (HAW.out W).mono ?_; rintro e w1 ⟨rfl, hb1⟩; have H1 := Qd hb1; clear hb1; go_wp2_with fail; refine (HAW.out w1).mono ?_; rintro e w2 ⟨rfl, hb2⟩; have H2 := Qd (H1.out.trans (hb2.mono H1.out.size)); clear hb2 H1; go_wp2; go_ret; exact ⟨rfl, H2.out⟩
  · have HL : Hid (LogIn W (.slice aa ms.length ca) ms) := ⟨HRS.out, by omega, HC.out⟩; have HGE := Qd (fun w (h : Below W.heap.size W w) => get15_any _ ms n w (HL.out.below h) HSM0.out); have HRG := Qd (fun w (h : Below W.heap.size W w) => rget15 _ ms n w (HL.out.below h)); have HLA := Qd (fun w (h : Below W.heap.size W w) => last15 _ ms t w (HL.out.below h)); have HRL := Qd (fun w (h : Below W.heap.size W w) => rlast15 _ ms t w (HL.out.below h)); have HGO := Qd (fun w (h : Below W.heap.size W w) => Qov _ ms w (HL.out.below h)); have HRO := Qd (fun w (h : Below W.heap.size W w) => rgood15 _ ms w (HL.out.below h)); obtain ⟨ln, hln⟩ : ∃ ln, ln = ms.length := ⟨_, rfl⟩; rw [<- hln] at hbig hb' HRS HC HL HGE HRG HLA HRL HGO HRO |-; clear hln HRS HC HSM0 HL; have i1 : ¬ (ln : Int) > 300 := by omega
    generalize Qfd (msR ms) t = la at *; generalize Qrq 0 (msR ms) = go at *; go_enter Try.func3, Try.ntmps3; go_wp2_with fail; refine (HAW.out W).mono ?_; rintro e w1 ⟨rfl, hb1⟩; have H1 := Qd hb1; clear hb1 HAW; go_wp2_with fail; refine (HGE.out w1 H1.out).mono ?_; rintro e w2 ⟨⟨r, va, vb⟩, q, rfl, hcase, hfit, hin, hb2⟩; have H2 := Qd (H1.out.trans (hb2.mono H1.out.size)); have HC1 := Qd hcase; have HF1 := Qd hfit; have HI1 : Hid (Qhd w2 r va vb) := hin; have hone : (rcF (r, va, vb)).all (·.oneCell') = true := Qjw hin; obtain ⟨rc, hrc⟩ : ∃ rc, rc = rcF (r, va, vb) := ⟨_, rfl⟩; have HRC := Qd hrc; rw [<- hrc] at hone |-; have hz : rc.size = 14 := by rw [hrc]; rfl
    have hinf : (Try.prog.info? 30).map (·.size) = some rc.size := by rw [hz]; exact Qv
    clear hb2 H1 HGE hcase hfit hin hrc; have hb3 : Below w2.heap.size w2 (w2.alloc (.cells Qaa 30)) := (Below.refl _ _).alloc (Nat.le_refl _) _; obtain ⟨g3, hg3⟩ : ∃ g, g = w2.heap.size := ⟨_, rfl⟩; have HG3 := Qd hg3
    have HZ : Hid (Qb (w2.alloc (.cells Qaa 30)) g3 30 Qaa /\ Below w2.heap.size w2 (w2.alloc (.cells Qaa 30)) /\ w2.heap.size <= g3) := by
      rw [hg3]; exact ⟨Qb.new w2 _ _, hb3, Nat.le_refl _⟩
    clear hb3 hg3; go_wp2_with (refine Qc rfl 30 (.tmp 7) (.tmp 23) rfl g3 Qaa rc ?h1 rfl HZ.out.1 hinf hz.symm hone ?_; (case h1 => rw [HG3.out]; rfl); intro w4 hr4 hk4 hrow4; refine Qha ?_); have hb4 := hk4 _ _ HZ.out.2.1 HZ.out.2.2; have H4 : Hid (Qb w4 g3 30 rc /\ Below w2.heap.size w2 w4) := ⟨hr4, hb4⟩; clear hr4 hk4 hrow4 hb4 HZ; refine Qj ?_; rw [<- HG3.out]; go_wp2_with fail; refine (HRG.out w4 (H2.out.trans (H4.out.2.mono H2.out.size))).mono ?_; rintro e w5 ⟨⟨r', ua, ub⟩, q', rfl, hcase, hfit, hin, hb5⟩; obtain ⟨e1, e2⟩ := both_get HC1.out hcase; have e2' : r = r' := e2; subst e1 e2'; have HI2 : Hid (Qhd w5 r ua ub) := hin; have hone2 : (rcF (r, ua, ub)).all (·.oneCell') = true := Qjw hin; obtain ⟨rd, hrd⟩ : ∃ rd, rd = rcF (r, ua, ub) := ⟨_, rfl⟩; have HRD := Qd hrd; rw [<- hrd] at hone2 |-; have hz2 : rd.size = 14 := by rw [hrd]; rfl
    have hinf2 : (Try.prog.info? 30).map (·.size) = some rd.size := by rw [hz2]; exact Qv
    have H5 : Hid (Qb w5 g3 30 rc /\ Below w2.heap.size w2 w5) := ⟨H4.out.1.later hb5, H4.out.2.trans (hb5.mono H4.out.2.size)⟩; clear hcase hfit hin hb5 e2 hrd H4 HRG HC1; have hb6 : Below w5.heap.size w5 (w5.alloc (.cells Qaa 30)) := (Below.refl _ _).alloc (Nat.le_refl _) _; obtain ⟨g6, hg6⟩ : ∃ g, g = w5.heap.size := ⟨_, rfl⟩; have HG6 := Qd hg6
    have HZ : Hid (Qb (w5.alloc (.cells Qaa 30)) g6 30 Qaa /\ Qb (w5.alloc (.cells Qaa 30)) g3 30 rc /\ Below w5.heap.size w5 (w5.alloc (.cells Qaa 30)) /\ w5.heap.size <= g6 /\ g3 ≠ g6) := by
      rw [hg6]; exact ⟨Qb.new w5 _ _, H5.out.1.later hb6, hb6, Nat.le_refl _, Nat.ne_of_lt H5.out.1.lt⟩
    clear hb6 hg6; go_wp2_with (refine Qc rfl 30 (.tmp 9) (.tmp 29) rfl g6 Qaa rd ?h1 rfl HZ.out.1 hinf2 hz2.symm hone2 ?_; (case h1 => rw [HG6.out]; rfl); intro w7 hr7 hk7 hrow7; refine Qha ?_); have hb7 := hk7 _ _ HZ.out.2.2.1 HZ.out.2.2.2.1; have H7 : Hid (Qb w7 g6 30 rd /\ Qb w7 g3 30 rc) := ⟨hr7, hrow7 g3 _ _ HZ.out.2.2.2.2 HZ.out.2.1⟩; have HB7 : Hid (Below W.heap.size W w7) := H2.out.trans ((H5.out.2.trans (hb7.mono H5.out.2.size)).mono H2.out.size); have HSM := Qd (Qyw r r va vb ua ub w7 true (Qd ⟨fun _ => rfl, fun _ => rfl⟩) HF1.out HF1.out (HI1.out.below (H5.out.2.trans (hb7.mono H5.out.2.size))) (HI2.out.below hb7)); rw [show rcA r va vb = rc from HRC.out.symm, show rcA r ua ub = rd from HRD.out.symm] at HSM; clear hr7 hk7 hrow7 hb7 HZ H5 HI1 HI2 HF1; refine Qj ?_; rw [<- HG6.out]; clear HG6 HG3 HRC HRD; go_wp2_with (first | (refine Qe rfl 30 (.tmp 7) rfl g3 rfl rc H7.out.2 _ Try.underlying30 rfl hinf ?_) | (refine Qe rfl 30 (.tmp 9) rfl g6 rfl rd H7.out.1 _ Try.underlying30 rfl hinf2 ?_)); refine HSM.out.mono ?_; rintro e w8 ⟨rfl, hb8⟩; have H8 := Qd (HB7.out.trans (hb8.mono HB7.out.size)); clear hb8 H7 HSM HB7 hone hone2 hz hz2 hinf hinf2; go_wp2_with fail; refine (HLA.out w8 H8.out).mono ?_; rintro e w9 ⟨rfl, hb9⟩; have H9 := Qd (H8.out.trans (hb9.mono H8.out.size)); clear hb9 H8 HLA; go_wp2_with fail; refine (HRL.out w9 H9.out).mono ?_; rintro e w10 ⟨rfl, hb10⟩; have H10 := Qd (H9.out.trans (hb10.mono H9.out.size)); clear hb10 H9 HRL; go_wp2_with fail; refine (HGO.out w10 H10.out).mono ?_; rintro e w11 ⟨rfl, hb11⟩; have H11 := Qd (H10.out.trans (hb11.mono H10.out.size)); clear hb11 H10 HGO; go_wp2_with fail; refine (HRO.out w11 H11.out).mono ?_; rintro e w12 ⟨rfl, hb12⟩; have H12 := Qd (H11.out.trans (hb12.mono H11.out.size)); clear hb12 H11 HRO; go_wp2; go_ret; exact ⟨rfl, H12.out⟩
end Go.Proofs.Ytohdmmfmjadipaa.txnGets
namespace Go.Proofs.Ytohdmmfmjadipaa.txnGets
open Go.ChangeShapes Go.WideShapes Go.ChangeAt Go.RowKit
open Go.ChangeMaps (open_string shut_string)
set_option linter.unusedVariables false

theorem Qmw : laidOutB Try.prog = true := by kernel_rfl
theorem own : ownKnob Try.prog.godebug = none := by kernel_rfl

set_option maxRecDepth 100000 in
theorem lifted (os : Os) (started : os.Started) (H : Type) (enc : TypeId × Value -> H) :
    ReturnsInHanded {} Try.checked os 3 .any (Rows.txnGetsSpec.pre6 enc Try.prog Try.f3 Rows.txnGetsRow.domain false) (Rows.txnGetsSpec.post enc Try.prog Try.f3 false true false false) := by
  refine returnsInHanded_of_change_sized (C := Try.checked) own started (by kernel_rfl) Try.func3
    (ChangeSpec.witness6 (enc := enc) (C := Try.checked) false ⟨#[], #[.slice none 0 0, .int .u64 0, .int .i64 0], []⟩ 8 (by kernel_rfl) (by kernel_rfl) (by kernel_rfl) (by kernel_rfl)) ?_
  intro W base args ds gs before hval0 hW hcnd hsz0 _
  have hval : ∀ (j : Nat) t v, Try.f3.params[j]? = some t -> args[j]? = some v -> Value.okWide Try.prog W .any base t v := hval0
  have hsz : (DataW.weightsEach Try.prog (Try.f3.params.toList ++ Rows.txnGetsSpec.plain.varTypes Try.prog) (ds ++ gs)).all (· <= reachBytes) = true := hsz0
  have hW' := hW
  obtain ⟨p, q, hA0, hV, rfl, hfz, hnd⟩ := hW
  have hA : DataW.TrodAll enc Try.prog W 0 (fun _ => true) true Try.f3.params.toList args.toList ds p := hA0
  rw [Try.params3] at hA hval hsz
  obtain ⟨v0, vs0, d0, ds0, p0, q0, hargs, rfl, rfl, h0, r0⟩ := trodAll_cons hA
  obtain ⟨v1, vs1, d1, ds1, p1, q1, rfl, rfl, rfl, h1, r1⟩ := trodAll_cons r0
  obtain ⟨v2, vs2, d2, ds2, p2, q2, rfl, rfl, rfl, h2, r2⟩ := trodAll_cons r1
  obtain ⟨rfl, rfl, rfl⟩ := trodAll_nil r2
  obtain rfl : args = #[v0, v1, v2] := by cases args; simp_all
  obtain ⟨rfl, rfl⟩ := trodVars_none hV
  have k0 := h0
  have lt0 := Qxp h0
  obtain ⟨a1, rfl, rfl, rfl, w1⟩ := open_int Try.underlying23 (hval 1 23 v1 rfl rfl) h1
  obtain ⟨a2, rfl, rfl, rfl, w2⟩ := open_int Try.underlying3 (hval 2 3 v2 rfl rfl) h2
  obtain ⟨m0, w0a, w0b, w0c, w0d⟩ := Qkw (hval 0 22 v0 rfl rfl) h0 (Qax hsz (j := 0) (t := 22) rfl rfl)
  clear hA0 hval0 hsz0 hsz
  refine (walk v0 m0 a1 a2 W w0a w0b w0c w0d w1 w2).mono fun e W' ⟨he, bel⟩ => ?_
  subst he
  exact ⟨_, rfl, _, _, _, [], _, [], hW', trodAll_mk1 (shut_bool Try.underlying4 _), (trodAll_cons_mk (Below.trod Qmw (by kernel_rfl) (of_decide_eq_true (by kernel_rfl)) k0 bel lt0) (trodAll_cons_mk (shut_int Try.underlying23 w1) (trodAll_cons_mk (shut_int Try.underlying3 w2) trodAll_mk0))), rfl, bel.frame _, fun h => by cases h⟩

theorem over : Rows.txnGetsRow.holds Try.pinned (OpenSpec.ofChange Rows.txnGetsSpec) :=
  OpenClaim.holds_of_wide 3 Try.f3 rfl rfl rfl rfl rfl rfl rfl ⟨rfl, rfl, rfl, rfl, rfl⟩ rfl rfl rfl rfl rfl (by kernel_rfl) Try.func3 (by kernel_rfl)
    (of_decide_eq_true (by kernel_rfl)) (by unfold Func.isWrapper; first | (rw [if_pos (by decide +kernel)]; kernel_rfl) | (rw [if_neg (by decide +kernel)]; exact ⟨rfl, rfl⟩))
    (fun os started H enc _ => lifted os started H enc)

/-- THE STATEMENT. -/
theorem proved : Rows.TxnGetsSaid := over
end Go.Proofs.Ytohdmmfmjadipaa.txnGets
namespace Go.Proofs.Ytohdmmfmjadipaa
theorem txnGets_proved : Rows.TxnGetsSaid := txnGets.proved
end Go.Proofs.Ytohdmmfmjadipaa
