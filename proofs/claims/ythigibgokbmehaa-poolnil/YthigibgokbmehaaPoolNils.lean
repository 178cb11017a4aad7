/-
  The contracts of package pool's calls over texts, of a nil pool and of the zero one. (gen11/nils.py)
-/
import Derived.Test.YthigibgokbmehaaPoolMem
import Derived.Test.YthigibgokbmehaaPackMath
import Derived.Test.YthigibgokbmehaaProg
import Derived.Deep.QuietTactic
import Derived.BigQuiet
import Derived.BigRegion
namespace Go.Proofs.Ythigibgokbmehaa
open Go.RowKit
set_option linter.unusedVariables false

/-- No pool, or the zero one. -/
def No11 (w : World) (v : Value) : Prop := v = .pointer none ∨ ∃ g, v = .pointer (some ⟨g, 0, none⟩) ∧ RowAt w g 66 #[.slice none 0 0, .int .i64 0]
theorem No11.shape {w : World} {v : Value} (h : No11 w v) : ∃ q, v = .pointer q := by
  rcases h with rfl | ⟨g, rfl, _⟩ <;> exact ⟨_, rfl⟩
theorem No11.later {w x : World} {v : Value} (h : No11 w v) (hb : Below w.heap.size w x) : No11 x v := by
  rcases h with rfl | ⟨g, rfl, h⟩
  · exact .inl rfl
  · exact .inr ⟨g, rfl, h.later hb⟩
section
variable {w : World} {q : Option Addr}
set_option maxRecDepth 4000 in
set_option maxHeartbeats 400000 in
theorem size11_no (h : No11 w (.pointer q)) : Calls Try.prog 57 #[.pointer q] w fun e w' => e = .returned (.int .i64 0) ∧ w = w' := by
  rcases h with h | ⟨g, h, hr⟩
  · injection h with h
    subst h
    go_enter Try.func57, Try.ntmps57
    go_wp2
    go_ret
    exact ⟨rfl, rfl⟩
  · injection h with h
    subst h
    have c0 := hr.cell 0 _ rfl
    clear hr
    go_enter Try.func57, Try.ntmps57
    go_wp2
    go_ret
    exact ⟨rfl, rfl⟩
set_option maxRecDepth 4000 in
set_option maxHeartbeats 400000 in
theorem find11_no (id : Int) (h : No11 w (.pointer q)) : Calls Try.prog 54 #[.pointer q, .int .i64 id] w fun e w' => e = .returned (.pointer none) ∧ w = w' := by
  have H := hide h
  clear h
  go_enter Try.func54, Try.ntmps54
  go_wp2_with fail
  refine (size11_no H.out).mono ?_
  rintro e w1 ⟨rfl, rfl⟩
  go_wp2
  go_loopw [9] (fun i wr => i = .int .i64 0 ∧ wr = w) (fun _ _ => 0)
  case atStart => exact ⟨rfl, rfl⟩
  case round =>
    obtain ⟨rfl, rfl⟩ := hrel
    go_wp2
    go_ret
    exact ⟨rfl, rfl⟩
set_option maxRecDepth 4000 in
set_option maxHeartbeats 400000 in
theorem gap11_no  (h : No11 w (.pointer q)) : Calls Try.prog 59 #[.pointer q] w fun e w' => e = .returned (.pointer none) ∧ w = w' := by
  have H := hide h
  clear h
  go_enter Try.func59, Try.ntmps59
  go_wp2_with fail
  refine (size11_no H.out).mono ?_
  rintro e w1 ⟨rfl, rfl⟩
  go_wp2
  go_loopw [7] (fun i wr => i = .int .i64 0 ∧ wr = w) (fun _ _ => 0)
  case atStart => exact ⟨rfl, rfl⟩
  case round =>
    obtain ⟨rfl, rfl⟩ := hrel
    go_wp2
    go_ret
    exact ⟨rfl, rfl⟩
set_option maxRecDepth 4000 in
set_option maxHeartbeats 400000 in
theorem victim11_no  (h : No11 w (.pointer q)) : Calls Try.prog 26 #[.pointer q] w fun e w' => e = .returned (.tuple #[.int .i64 0, .int .i64 8]) ∧ w = w' := by
  have H := hide h
  clear h
  go_enter Try.func26, Try.ntmps26
  go_wp2_with fail
  refine (size11_no H.out).mono ?_
  rintro e w1 ⟨rfl, rfl⟩
  go_wp2
  go_loopw [8] (fun i wr => i = .int .i64 0 ∧ wr = w) (fun _ _ => 0)
  case atStart => exact ⟨rfl, rfl⟩
  case round =>
    obtain ⟨rfl, rfl⟩ := hrel
    go_wp2
    go_ret2
    exact ⟨rfl, rfl⟩
set_option maxRecDepth 4000 in
set_option maxHeartbeats 400000 in
theorem get11_no (id : Int) (h : No11 w (.pointer q)) : Calls Try.prog 17 #[.pointer q, .int .i64 id] w fun e w' => e = .returned (.tuple #[.string ⟨#[]⟩, .bool false]) ∧ w = w' := by
  have H := hide h
  clear h
  go_enter Try.func17, Try.ntmps17
  go_wp2_with fail
  refine (find11_no id H.out).mono ?_
  rintro e w1 ⟨rfl, rfl⟩
  go_wp2
  go_ret2
  exact ⟨rfl, rfl⟩
set_option maxRecDepth 4000 in
set_option maxHeartbeats 400000 in
theorem clean11_no (id : Int) (h : No11 w (.pointer q)) : Calls Try.prog 31 #[.pointer q, .int .i64 id] w fun e w' => e = .returned (.int .i64 5) ∧ w = w' := by
  have H := hide h
  clear h
  go_enter Try.func31, Try.ntmps31
  go_wp2_with fail
  refine (find11_no id H.out).mono ?_
  rintro e w1 ⟨rfl, rfl⟩
  go_wp2
  go_ret
  exact ⟨rfl, rfl⟩
set_option maxRecDepth 4000 in
set_option maxHeartbeats 400000 in
theorem fix11_no (id : Int) (h : No11 w (.pointer q)) : Calls Try.prog 34 #[.pointer q, .int .i64 id] w fun e w' => e = .returned (.int .i64 5) ∧ w = w' := by
  have H := hide h
  clear h
  go_enter Try.func34, Try.ntmps34
  go_wp2_with fail
  refine (find11_no id H.out).mono ?_
  rintro e w1 ⟨rfl, rfl⟩
  go_wp2
  go_ret
  exact ⟨rfl, rfl⟩
set_option maxRecDepth 4000 in
set_option maxHeartbeats 400000 in
theorem unfix11_no (id : Int) (h : No11 w (.pointer q)) : Calls Try.prog 27 #[.pointer q, .int .i64 id] w fun e w' => e = .returned (.int .i64 5) ∧ w = w' := by
  have H := hide h
  clear h
  go_enter Try.func27, Try.ntmps27
  go_wp2_with fail
  refine (find11_no id H.out).mono ?_
  rintro e w1 ⟨rfl, rfl⟩
  go_wp2
  go_ret
  exact ⟨rfl, rfl⟩
set_option maxRecDepth 4000 in
set_option maxHeartbeats 400000 in
theorem drop11_no (id : Int) (h : No11 w (.pointer q)) : Calls Try.prog 28 #[.pointer q, .int .i64 id] w fun e w' => e = .returned (.int .i64 5) ∧ w = w' := by
  have H := hide h
  clear h
  go_enter Try.func28, Try.ntmps28
  go_wp2_with fail
  refine (find11_no id H.out).mono ?_
  rintro e w1 ⟨rfl, rfl⟩
  go_wp2
  go_ret
  exact ⟨rfl, rfl⟩
set_option maxRecDepth 4000 in
set_option maxHeartbeats 400000 in
theorem set11_no (id : Int) (s : ByteArray) (r : Int) (h : No11 w (.pointer q)) : Calls Try.prog 32 #[.pointer q, .int .i64 id, .string s, .int .u64 r] w fun e w' => e = .returned (.int .i64 5) ∧ w = w' := by
  have H := hide h
  clear h
  go_enter Try.func32, Try.ntmps32
  go_wp2_with fail
  refine (find11_no id H.out).mono ?_
  rintro e w1 ⟨rfl, rfl⟩
  go_wp2
  go_ret
  exact ⟨rfl, rfl⟩
set_option maxRecDepth 4000 in
set_option maxHeartbeats 400000 in
theorem rec11_no (id : Int) (h : No11 w (.pointer q)) : Calls Try.prog 33 #[.pointer q, .int .i64 id] w fun e w' => e = .returned (.tuple #[.int .u64 0, .bool false]) ∧ w = w' := by
  have H := hide h
  clear h
  go_enter Try.func33, Try.ntmps33
  go_wp2_with fail
  refine (find11_no id H.out).mono ?_
  rintro e w1 ⟨rfl, rfl⟩
  go_wp2
  go_ret2
  exact ⟨rfl, rfl⟩
set_option maxRecDepth 4000 in
set_option maxHeartbeats 400000 in
theorem full11_no  (h : No11 w (.pointer q)) : Calls Try.prog 35 #[.pointer q] w fun e w' => e = .returned (.bool true) ∧ w = w' := by
  have H := hide h
  clear h
  go_enter Try.func35, Try.ntmps35
  go_wp2_with fail
  refine (gap11_no H.out).mono ?_
  rintro e w1 ⟨rfl, rfl⟩
  go_wp2
  go_ret
  exact ⟨rfl, rfl⟩
set_option maxRecDepth 4000 in
set_option maxHeartbeats 400000 in
theorem put11_no (id : Int) (s : ByteArray) (h : No11 w (.pointer q)) : Calls Try.prog 30 #[.pointer q, .int .i64 id, .string s] w fun e w' => e = .returned (.int .i64 (if id < 0 ∨ 32 ≤ id then 1 else 8)) ∧ w = w' := by
  have H := hide h
  clear h
  by_cases g1 : id < 0
  · rw [if_pos (.inl g1)]
    go_enter Try.func30, Try.ntmps30
    go_wp2
    go_ret
    exact ⟨rfl, rfl⟩
  by_cases g2 : 32 ≤ id
  · rw [if_pos (.inr g2)]
    go_enter Try.func30, Try.ntmps30
    go_wp2
    go_ret
    exact ⟨rfl, rfl⟩
  rw [if_neg (by omega)]
  go_enter Try.func30, Try.ntmps30
  go_wp2_with fail
  refine (find11_no id H.out).mono ?_
  rintro e w1 ⟨rfl, rfl⟩
  go_wp2_with fail
  refine (gap11_no H.out).mono ?_
  rintro e w1 ⟨rfl, rfl⟩
  go_wp2
  go_ret
  exact ⟨rfl, rfl⟩
set_option maxRecDepth 4000 in
set_option maxHeartbeats 400000 in
theorem pages11_no  (h : No11 w (.pointer q)) : Calls Try.prog 20 #[.pointer q] w fun e w' => e = .returned (.slice none 0 0) ∧ w = w' := by
  have H := hide h
  clear h
  go_enter Try.func20, Try.ntmps20
  go_wp2
  go_loopw [3, 5] (fun v i wr => ∃ j : Nat, j ≤ 32 ∧ v = .slice none 0 0 ∧ i = .int .i64 j ∧ wr = w) (fun _ i _ => 32 - (intOf i).toNat)
  case atStart => exact ⟨0, by omega, rfl, rfl, rfl⟩
  case round =>
    obtain ⟨j, hj, rfl, rfl, rfl⟩ := hrel
    by_cases hlt : j < 32
    · have i1 : (j : Int) < 32 := by omega
      go_wp2_with fail
      refine (find11_no (j : Int) H.out).mono ?_
      rintro e w1 ⟨rfl, rfl⟩
      go_wp2
      go_roundw
      case rel => exact ⟨j + 1, by omega, rfl, by go_num, by first | rfl | trivial⟩
      case measure => simp [intOf]; omega
    · have i1 : ¬ (j : Int) < 32 := by omega
      go_wp2
      go_ret
      exact ⟨rfl, rfl⟩
set_option maxRecDepth 4000 in
set_option maxHeartbeats 400000 in
theorem dirty11_no  (h : No11 w (.pointer q)) : Calls Try.prog 23 #[.pointer q] w fun e w' => e = .returned (.slice none 0 0) ∧ w = w' := by
  have H := hide h
  clear h
  go_enter Try.func23, Try.ntmps23
  go_wp2
  go_loopw [3, 7] (fun v i wr => ∃ j : Nat, j ≤ 32 ∧ v = .slice none 0 0 ∧ i = .int .i64 j ∧ wr = w) (fun _ i _ => 32 - (intOf i).toNat)
  case atStart => exact ⟨0, by omega, rfl, rfl, rfl⟩
  case round =>
    obtain ⟨j, hj, rfl, rfl, rfl⟩ := hrel
    by_cases hlt : j < 32
    · have i1 : (j : Int) < 32 := by omega
      go_wp2_with fail
      refine (rec11_no (j : Int) H.out).mono ?_
      rintro e w1 ⟨rfl, rfl⟩
      go_wp2
      go_roundw
      case rel => exact ⟨j + 1, by omega, rfl, by go_num, by first | rfl | trivial⟩
      case measure => simp [intOf]; omega
    · have i1 : ¬ (j : Int) < 32 := by omega
      go_wp2
      go_ret
      exact ⟨rfl, rfl⟩
end
end Go.Proofs.Ythigibgokbmehaa
