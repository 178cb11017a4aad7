/-
  Any logs are merged as the document says, or refused with the error that it says. MergeAll returns true for every input, and its arguments read as before.
  Condition: none but those that the form of every such statement bears by itself (each string within the reach).
-/
import Derived.Test.YtdjhcbiejpjkmaaRows
import Derived.ProofKit
import Derived.OpenShut
import Derived.ShutString
import Derived.SizedLaws
import Derived.JoinedCond
import Derived.Test.YtdjhcbiejpjkmaaK07

set_option maxRecDepth 8000
set_option maxHeartbeats 25600000
namespace Go.Proofs.Ytdjhcbiejpjkmaa.mergeAll
open Go.RowKit
set_option linter.unusedVariables false
theorem walk (v0 : Value) (us : List Lu) (W : World) (ha : Qqda W v0 us) (hb : us.length <= maxLen) :
    Calls Try.prog 3 #[v0] W fun e w' => e = .returned (.bool true) /\ Below W.heap.size W w' := by
  obtain ⟨au, cu, rfl, _⟩ := id ha.1
  obtain ⟨q, hq⟩ : ∃ q : Bool, q = true ↔ Qxda us := by
    classical
    exact ⟨decide (Qxda us), decide_eq_true_iff⟩
  have HFW := Qc (fun x (hx : Below W.heap.size W x) => few17 x _ us q hq (ha.below hx) hb); have HAW := Qc (fun x => awake17 x)
  cases q
  · clear ha hb hq; generalize us.length = ln at *; go_enter Try.func3, Try.ntmps3; go_wp2_with fail; refine (HAW.out W).mono ?_; rintro e w1 ⟨rfl, hb1⟩; have H1 := Qc hb1; clear hb1; go_wp2_with fail; refine (HFW.out w1 H1.out).mono ?_; rintro e w2 ⟨rfl, rfl⟩; go_wp2_with fail; refine (HAW.out w2).mono ?_; rintro e w3 ⟨rfl, hb3⟩; have H3 := Qc (H1.out.trans (hb3.mono H1.out.size)); clear hb3 H1 HFW HAW; go_wp2; go_ret; exact ⟨rfl, H3.out⟩
  · have hP : Qxda us := hq.1 rfl; have hL := ha.few hP; have HAL := Qc (fun x (hx : Below W.heap.size W x) => all17 x _ us (hL.below hx)); have HRA := Qc (fun x (hx : Below W.heap.size W x) => rall17 x _ us (hL.below hx)); have HU : Hid (∀ u ∈ us, u.2.length <= 1000) := fun u hu => (hL.2 u hu).1.few
    clear ha hb hq hP hL; generalize us.length = ln at *; go_enter Try.func3, Try.ntmps3; go_wp2_with fail; refine (HAW.out W).mono ?_; rintro e w1 ⟨rfl, hb1⟩; have H1 := Qc hb1; clear hb1 HAW; go_wp2_with fail; refine (HFW.out w1 H1.out).mono ?_; rintro e w2 ⟨rfl, rfl⟩; clear HFW; go_wp2_with fail; refine (HAL.out w2 H1.out).mono ?_; rintro e w3 hans; obtain ⟨E, O, ht, v3, out3, rfl, h3, hO3, hb3⟩ := hans.tells; have H3 := Qc (H1.out.trans (hb3.mono H1.out.size)); have HT := Qc ht; obtain ⟨a3, c3, rfl, _⟩ := id h3.1; have HS := Qc (And.intro h3 hO3); have h9 := ht.few HU.out; rw [<- hO3, Qyba] at h9; have HOL := Qc h9; obtain ⟨l3, hl3⟩ : ∃ l, l = out3.length := ⟨_, rfl⟩; rw [<- hl3] at HS |-; clear hans ht h3 hO3 hb3 H1 HAL h9 hl3; go_wp2_with fail; refine (HRA.out w3 H3.out).mono ?_; rintro e w4 hans; obtain ⟨E2, O2, ht, v4, out4, rfl, h4, hO4, hb4⟩ := hans.tells; obtain ⟨rfl, rfl⟩ := HT.out.one ht; have H4 := Qc (H3.out.trans (hb4.mono H3.out.size)); obtain ⟨a4, c4, rfl, _⟩ := id h4.1; have HSA := Qc (same17 w4 _ _ out3 out4 (HS.out.1.below hb4) h4 (HS.out.2.trans hO4.symm) (by have := HOL.out; omega)); obtain ⟨l4, hl4⟩ : ∃ l, l = out4.length := ⟨_, rfl⟩; rw [<- hl4] at HSA |-; clear hans ht h4 hO4 hb4 H3 HRA HS HT HOL HU hl4; go_wp2_with fail; refine HSA.out.mono ?_; rintro e w5 ⟨rfl, hb5⟩; have H5 := Qc (H4.out.trans (hb5.mono H4.out.size)); clear hb5 H4 HSA; go_wp2; go_ret; exact ⟨rfl, H5.out⟩
end Go.Proofs.Ytdjhcbiejpjkmaa.mergeAll
namespace Go.Proofs.Ytdjhcbiejpjkmaa.mergeAll
open Go.ChangeShapes Go.WideShapes Go.ChangeAt Go.RowKit
open Go.ChangeMaps (open_string shut_string)
set_option linter.unusedVariables false

theorem laidOut : laidOutB Try.prog = true := by kernel_rfl
theorem own : ownKnob Try.prog.godebug = none := by kernel_rfl

set_option maxRecDepth 100000 in
theorem lifted (os : Os) (started : os.Started) (H : Type) (enc : TypeId × Value -> H) :
    ReturnsInHanded {} Try.checked os 3 .any (Rows.mergeAllSpec.pre6 enc Try.prog Try.f3 Rows.mergeAllRow.domain false) (Rows.mergeAllSpec.post enc Try.prog Try.f3 false true false false) := by
  refine returnsInHanded_of_change_sized (C := Try.checked) own started (by kernel_rfl) Try.func3
    (ChangeSpec.witness6 (enc := enc) (C := Try.checked) false ⟨#[], #[.slice none 0 0], []⟩ 8 (by kernel_rfl) (by kernel_rfl) (by kernel_rfl) (by kernel_rfl)) ?_
  intro W base args ds gs before hval0 hW hcnd hsz0 _
  have hval : ∀ (j : Nat) t v, Try.f3.params[j]? = some t -> args[j]? = some v -> Value.okWide Try.prog W .any base t v := hval0
  have hsz : (DataW.weightsEach Try.prog (Try.f3.params.toList ++ Rows.mergeAllSpec.plain.varTypes Try.prog) (ds ++ gs)).all (· <= reachBytes) = true := hsz0
  have hW' := hW
  obtain ⟨p, q, hA0, hV, rfl, hfz, hnd⟩ := hW
  have hA : DataW.TrodAll enc Try.prog W 0 (fun _ => true) true Try.f3.params.toList args.toList ds p := hA0
  rw [Try.params3] at hA hval hsz
  obtain ⟨v0, vs0, d0, ds0, p0, q0, hargs, rfl, rfl, h0, r0⟩ := trodAll_cons hA
  obtain ⟨rfl, rfl, rfl⟩ := trodAll_nil r0
  obtain rfl : args = #[v0] := by cases args; simp_all
  obtain ⟨rfl, rfl⟩ := trodVars_none hV
  have k0 := h0
  have lt0 := Qqv h0
  obtain ⟨m0, w0a, w0b⟩ := op_logs (hval 0 22 v0 rfl rfl) h0
  clear hA0 hval0 hsz0 hsz
  refine (walk v0 m0 W w0a w0b).mono fun e W' ⟨he, bel⟩ => ?_
  subst he
  exact ⟨_, rfl, _, _, _, [], _, [], hW', trodAll_mk1 (shut_bool Try.underlying4 _), (trodAll_cons_mk (Below.trod laidOut (by kernel_rfl) (of_decide_eq_true (by kernel_rfl)) k0 bel lt0) trodAll_mk0), rfl, bel.frame _, fun h => by cases h⟩

theorem over : Rows.mergeAllRow.holds Try.pinned (OpenSpec.ofChange Rows.mergeAllSpec) :=
  OpenClaim.holds_of_wide 3 Try.f3 rfl rfl rfl rfl rfl rfl rfl ⟨rfl, rfl, rfl, rfl, rfl⟩ rfl rfl rfl rfl rfl (by kernel_rfl) Try.func3 (by kernel_rfl)
    (of_decide_eq_true (by kernel_rfl)) (by unfold Func.isWrapper; first | (rw [if_pos (by decide +kernel)]; kernel_rfl) | (rw [if_neg (by decide +kernel)]; exact ⟨rfl, rfl⟩))
    (fun os started H enc _ => lifted os started H enc)

/-- THE STATEMENT. -/
theorem proved : Rows.MergeAllSaid := over
end Go.Proofs.Ytdjhcbiejpjkmaa.mergeAll
namespace Go.Proofs.Ytdjhcbiejpjkmaa
theorem mergeAll_proved : Rows.MergeAllSaid := mergeAll.proved
end Go.Proofs.Ytdjhcbiejpjkmaa
