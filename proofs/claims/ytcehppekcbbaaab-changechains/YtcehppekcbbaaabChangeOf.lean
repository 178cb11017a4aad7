/-
  The contract of package change's Of.
-/
import Derived.Test.YtcehppekcbbaaabChangeInv
namespace Go.Proofs.Ytcehppekcbbaaab
open Go.RowKit
set_option linter.unusedVariables false

def kindI (fu tu : Bool) : Int := match fu, tu with | false, _ => 1 | true, false => 3 | true, true => 2
set_option maxHeartbeats 400000 in
theorem kindOf_any (fu : Bool) (fv : ByteArray) (tu : Bool) (tv : ByteArray) (w : World) :
    Calls Try.prog 10 #[.agg (ceA fu fv), .agg (ceA tu tv)] w fun e w' => e = .returned (.int .i64 (kindI fu tu)) ∧ Below w.heap.size w w' := by
  obtain ⟨r0, r1, hb0⟩ := two_new w (ceA fu fv) (ceA tu tv) 26 26
  have c0 := r0.cell 0 (.bool fu) rfl
  have c1 := r1.cell 0 (.bool tu) rfl
  clear r0 r1
  cases fu <;> cases tu
  all_goals
    go_enter Try.func10, Try.ntmps10
    go_wp2
    go_ret
    exact ⟨rfl, hb0⟩

/-- A page of two cells. -/
def twoPg (fu : Bool) (fv : ByteArray) (tu : Bool) (tv : ByteArray) : Pg := ⟨0, fun i => match i with | 0 => fu | 1 => tu | _ => false, fun i => match i with | 0 => fv | 1 => tv | _ => ⟨#[]⟩⟩
theorem twoPg_right (fu : Bool) (fv : ByteArray) (tu : Bool) (tv : ByteArray) : (twoPg fu fv tu tv).right ↔ cellOk fu fv ∧ cellOk tu tv := by
  constructor
  · intro h
    exact ⟨h.2 0 (by omega), h.2 1 (by omega)⟩
  · rintro ⟨h1, h2⟩
    refine ⟨Nat.zero_le _, fun i hi => ?_⟩
    match i with
    | 0 => exact h1
    | 1 => exact h2
    | i + 2 => exact ⟨Nat.zero_le _, fun _ => rfl⟩

set_option maxRecDepth 4000 in
set_option maxHeartbeats 400000 in
theorem rightTwo_at (fu : Bool) (fv : ByteArray) (tu : Bool) (tv : ByteArray) (w : World) (r : Bool) (Hr : Hid (decide (cellOk fu fv ∧ cellOk tu tv) = r)) :
    Calls Try.prog 9 #[.agg (ceA fu fv), .agg (ceA tu tv)] w fun e w' => e = .returned (.bool r) ∧ Below w.heap.size w w' := by
  obtain ⟨r0, r1, hb0⟩ := two_new w (ceA fu fv) (ceA tu tv) 26 26
  have H0 := hide (And.intro r0 (And.intro r1 hb0))
  clear r0 r1 hb0
  have R := fun w => right_any (twoPg fu fv tu tv) w
  have er : decide (twoPg fu fv tu tv).right = r := by rw [← Hr.out]; exact decide_eq_decide.2 (twoPg_right fu fv tu tv)
  have ep : pgA (twoPg fu fv tu tv) = #[.int .u64 0, .bool fu, .string fv, .bool tu, .string tv, .bool false, .string ⟨#[]⟩, .bool false, .string ⟨#[]⟩, .bool false, .string ⟨#[]⟩, .bool false, .string ⟨#[]⟩, .bool false, .string ⟨#[]⟩, .bool false, .string ⟨#[]⟩] := rfl
  rw [er, ep] at R
  have HR := hide R
  clear R er ep Hr
  go_enter Try.func9, Try.ntmps9
  go_wp2_with (first | (refine wpList_load_at rfl 26 (.tmp 2) rfl w.heap.size rfl (ceA fu fv) H0.out.1 _ Try.underlying26 rfl infoCe ?_) | (refine wpList_load_at rfl 26 (.tmp 3) rfl (w.heap.size + 1) rfl (ceA tu tv) H0.out.2.1 _ Try.underlying26 rfl infoCe ?_; simp only [ceA]))
  refine (HR.out _).mono ?_
  rintro e w1 ⟨rfl, hb1⟩
  have d1 := H0.out.2.2.trans (hb1.mono H0.out.2.2.size)
  clear hb1 H0 HR
  go_wp2
  go_ret
  exact ⟨rfl, d1⟩
end Go.Proofs.Ytcehppekcbbaaab
