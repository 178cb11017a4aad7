/-
  The walk of PoolNil: it returns true, and turns nothing that was there. (gen11/nilwalk.py)
-/
import Derived.Test.YthigibgokbmehaaPoolAwake
import Derived.Test.YthigibgokbmehaaPoolNils
import Derived.Test.YthigibgokbmehaaPoolArgs
namespace Go.Proofs.Ythigibgokbmehaa.poolNil
open Go.RowKit
set_option linter.unusedVariables false

set_option maxRecDepth 4000 in
set_option maxHeartbeats 1600000 in
theorem walk_true_a (k i : Int) (s : ByteArray) (n : Int) (w : World) (g1 : i < 0) :
    Calls Try.prog 8 #[.agg #[.int .i64 k, .int .i64 i, .string s, .int .u64 n], .bool true] w fun e w' => e = .returned (.bool true) ∧ Below w.heap.size w w' := by
  have h0 := RowAt.new w 30 #[.int .i64 k, .int .i64 i, .string s, .int .u64 n]
  have hb0 : Below w.heap.size w (w.alloc (.cells #[.int .i64 k, .int .i64 i, .string s, .int .u64 n] 30)) := (Below.refl _ _).alloc (Nat.le_refl _) _
  have H0 := hide (And.intro h0 hb0)
  clear h0 hb0
  go_enter Try.func8, Try.ntmps8
  go_wp2_with fail
  refine (awake11_any _).mono ?_
  rintro e w1 ⟨rfl, hb1⟩
  have H1 := hide (And.intro (H0.out.1.later hb1) (H0.out.2.trans (hb1.mono H0.out.2.size)))
  clear hb1 H0
  have hN := RowAt.new w1 66 #[.slice none 0 0, .int .i64 0]
  have hbN : Below w1.heap.size w1 (w1.alloc (.cells #[.slice none 0 0, .int .i64 0] 66)) := (Below.refl _ _).alloc (Nat.le_refl _) _
  have H2 := hide (And.intro (H1.out.1.later hbN) (And.intro (H1.out.2.trans (hbN.mono H1.out.2.size)) (show No11 _ (.pointer (some ⟨w1.heap.size, 0, none⟩)) from .inr ⟨_, rfl, hN⟩)))
  clear hN hbN H1
  have c1 := H2.out.1.cell 1 _ rfl
  have c2 := H2.out.1.cell 2 _ rfl
  have c3 := H2.out.1.cell 3 _ rfl
  go_wp2_with fail
  refine (get11_no i H2.out.2.2).mono ?_
  rintro e w2 ⟨rfl, rfl⟩
  go_wp2_with fail
  refine (victim11_no H2.out.2.2).mono ?_
  rintro e w2 ⟨rfl, rfl⟩
  go_wp2_with fail
  refine (rec11_no i H2.out.2.2).mono ?_
  rintro e w2 ⟨rfl, rfl⟩
  go_wp2_with fail
  have T := put11_no i s H2.out.2.2
  rw [if_pos (.inl g1)] at T
  refine T.mono ?_
  rintro e w2 ⟨rfl, rfl⟩
  clear T
  go_wp2_with fail
  refine (set11_no i s n H2.out.2.2).mono ?_
  rintro e w2 ⟨rfl, rfl⟩
  go_wp2_with fail
  refine (clean11_no i H2.out.2.2).mono ?_
  rintro e w2 ⟨rfl, rfl⟩
  go_wp2_with fail
  refine (fix11_no i H2.out.2.2).mono ?_
  rintro e w2 ⟨rfl, rfl⟩
  go_wp2_with fail
  refine (unfix11_no i H2.out.2.2).mono ?_
  rintro e w2 ⟨rfl, rfl⟩
  go_wp2_with fail
  refine (drop11_no i H2.out.2.2).mono ?_
  rintro e w2 ⟨rfl, rfl⟩
  go_wp2_with fail
  refine (dirty11_no H2.out.2.2).mono ?_
  rintro e w2 ⟨rfl, rfl⟩
  go_wp2_with fail
  refine (pages11_no H2.out.2.2).mono ?_
  rintro e w2 ⟨rfl, rfl⟩
  go_wp2_with fail
  refine (full11_no H2.out.2.2).mono ?_
  rintro e w2 ⟨rfl, rfl⟩
  go_wp2
  go_ret
  exact ⟨rfl, H2.out.2.1⟩
set_option maxRecDepth 4000 in
set_option maxHeartbeats 1600000 in
theorem walk_true_b (k i : Int) (s : ByteArray) (n : Int) (w : World) (g1 : ¬ i < 0) (g2 : 32 ≤ i) :
    Calls Try.prog 8 #[.agg #[.int .i64 k, .int .i64 i, .string s, .int .u64 n], .bool true] w fun e w' => e = .returned (.bool true) ∧ Below w.heap.size w w' := by
  have h0 := RowAt.new w 30 #[.int .i64 k, .int .i64 i, .string s, .int .u64 n]
  have hb0 : Below w.heap.size w (w.alloc (.cells #[.int .i64 k, .int .i64 i, .string s, .int .u64 n] 30)) := (Below.refl _ _).alloc (Nat.le_refl _) _
  have H0 := hide (And.intro h0 hb0)
  clear h0 hb0
  go_enter Try.func8, Try.ntmps8
  go_wp2_with fail
  refine (awake11_any _).mono ?_
  rintro e w1 ⟨rfl, hb1⟩
  have H1 := hide (And.intro (H0.out.1.later hb1) (H0.out.2.trans (hb1.mono H0.out.2.size)))
  clear hb1 H0
  have hN := RowAt.new w1 66 #[.slice none 0 0, .int .i64 0]
  have hbN : Below w1.heap.size w1 (w1.alloc (.cells #[.slice none 0 0, .int .i64 0] 66)) := (Below.refl _ _).alloc (Nat.le_refl _) _
  have H2 := hide (And.intro (H1.out.1.later hbN) (And.intro (H1.out.2.trans (hbN.mono H1.out.2.size)) (show No11 _ (.pointer (some ⟨w1.heap.size, 0, none⟩)) from .inr ⟨_, rfl, hN⟩)))
  clear hN hbN H1
  have c1 := H2.out.1.cell 1 _ rfl
  have c2 := H2.out.1.cell 2 _ rfl
  have c3 := H2.out.1.cell 3 _ rfl
  go_wp2_with fail
  refine (get11_no i H2.out.2.2).mono ?_
  rintro e w2 ⟨rfl, rfl⟩
  go_wp2_with fail
  refine (victim11_no H2.out.2.2).mono ?_
  rintro e w2 ⟨rfl, rfl⟩
  go_wp2_with fail
  refine (rec11_no i H2.out.2.2).mono ?_
  rintro e w2 ⟨rfl, rfl⟩
  go_wp2_with fail
  have T := put11_no i s H2.out.2.2
  rw [if_pos (.inr g2)] at T
  refine T.mono ?_
  rintro e w2 ⟨rfl, rfl⟩
  clear T
  go_wp2_with fail
  refine (set11_no i s n H2.out.2.2).mono ?_
  rintro e w2 ⟨rfl, rfl⟩
  go_wp2_with fail
  refine (clean11_no i H2.out.2.2).mono ?_
  rintro e w2 ⟨rfl, rfl⟩
  go_wp2_with fail
  refine (fix11_no i H2.out.2.2).mono ?_
  rintro e w2 ⟨rfl, rfl⟩
  go_wp2_with fail
  refine (unfix11_no i H2.out.2.2).mono ?_
  rintro e w2 ⟨rfl, rfl⟩
  go_wp2_with fail
  refine (drop11_no i H2.out.2.2).mono ?_
  rintro e w2 ⟨rfl, rfl⟩
  go_wp2_with fail
  refine (dirty11_no H2.out.2.2).mono ?_
  rintro e w2 ⟨rfl, rfl⟩
  go_wp2_with fail
  refine (pages11_no H2.out.2.2).mono ?_
  rintro e w2 ⟨rfl, rfl⟩
  go_wp2_with fail
  refine (full11_no H2.out.2.2).mono ?_
  rintro e w2 ⟨rfl, rfl⟩
  go_wp2
  go_ret
  exact ⟨rfl, H2.out.2.1⟩
set_option maxRecDepth 4000 in
set_option maxHeartbeats 1600000 in
theorem walk_true_c (k i : Int) (s : ByteArray) (n : Int) (w : World) (g1 : ¬ i < 0) (g2 : ¬ 32 ≤ i) :
    Calls Try.prog 8 #[.agg #[.int .i64 k, .int .i64 i, .string s, .int .u64 n], .bool true] w fun e w' => e = .returned (.bool true) ∧ Below w.heap.size w w' := by
  have h0 := RowAt.new w 30 #[.int .i64 k, .int .i64 i, .string s, .int .u64 n]
  have hb0 : Below w.heap.size w (w.alloc (.cells #[.int .i64 k, .int .i64 i, .string s, .int .u64 n] 30)) := (Below.refl _ _).alloc (Nat.le_refl _) _
  have H0 := hide (And.intro h0 hb0)
  clear h0 hb0
  go_enter Try.func8, Try.ntmps8
  go_wp2_with fail
  refine (awake11_any _).mono ?_
  rintro e w1 ⟨rfl, hb1⟩
  have H1 := hide (And.intro (H0.out.1.later hb1) (H0.out.2.trans (hb1.mono H0.out.2.size)))
  clear hb1 H0
  have hN := RowAt.new w1 66 #[.slice none 0 0, .int .i64 0]
  have hbN : Below w1.heap.size w1 (w1.alloc (.cells #[.slice none 0 0, .int .i64 0] 66)) := (Below.refl _ _).alloc (Nat.le_refl _) _
  have H2 := hide (And.intro (H1.out.1.later hbN) (And.intro (H1.out.2.trans (hbN.mono H1.out.2.size)) (show No11 _ (.pointer (some ⟨w1.heap.size, 0, none⟩)) from .inr ⟨_, rfl, hN⟩)))
  clear hN hbN H1
  have c1 := H2.out.1.cell 1 _ rfl
  have c2 := H2.out.1.cell 2 _ rfl
  have c3 := H2.out.1.cell 3 _ rfl
  go_wp2_with fail
  refine (get11_no i H2.out.2.2).mono ?_
  rintro e w2 ⟨rfl, rfl⟩
  go_wp2_with fail
  refine (victim11_no H2.out.2.2).mono ?_
  rintro e w2 ⟨rfl, rfl⟩
  go_wp2_with fail
  refine (rec11_no i H2.out.2.2).mono ?_
  rintro e w2 ⟨rfl, rfl⟩
  go_wp2_with fail
  have T := put11_no i s H2.out.2.2
  rw [if_neg (by omega)] at T
  refine T.mono ?_
  rintro e w2 ⟨rfl, rfl⟩
  clear T
  go_wp2_with fail
  refine (set11_no i s n H2.out.2.2).mono ?_
  rintro e w2 ⟨rfl, rfl⟩
  go_wp2_with fail
  refine (clean11_no i H2.out.2.2).mono ?_
  rintro e w2 ⟨rfl, rfl⟩
  go_wp2_with fail
  refine (fix11_no i H2.out.2.2).mono ?_
  rintro e w2 ⟨rfl, rfl⟩
  go_wp2_with fail
  refine (unfix11_no i H2.out.2.2).mono ?_
  rintro e w2 ⟨rfl, rfl⟩
  go_wp2_with fail
  refine (drop11_no i H2.out.2.2).mono ?_
  rintro e w2 ⟨rfl, rfl⟩
  go_wp2_with fail
  refine (dirty11_no H2.out.2.2).mono ?_
  rintro e w2 ⟨rfl, rfl⟩
  go_wp2_with fail
  refine (pages11_no H2.out.2.2).mono ?_
  rintro e w2 ⟨rfl, rfl⟩
  go_wp2_with fail
  refine (full11_no H2.out.2.2).mono ?_
  rintro e w2 ⟨rfl, rfl⟩
  go_wp2
  go_ret
  exact ⟨rfl, H2.out.2.1⟩
set_option maxRecDepth 4000 in
set_option maxHeartbeats 1600000 in
theorem walk_false_a (k i : Int) (s : ByteArray) (n : Int) (w : World) (g1 : i < 0) :
    Calls Try.prog 8 #[.agg #[.int .i64 k, .int .i64 i, .string s, .int .u64 n], .bool false] w fun e w' => e = .returned (.bool true) ∧ Below w.heap.size w w' := by
  have h0 := RowAt.new w 30 #[.int .i64 k, .int .i64 i, .string s, .int .u64 n]
  have hb0 : Below w.heap.size w (w.alloc (.cells #[.int .i64 k, .int .i64 i, .string s, .int .u64 n] 30)) := (Below.refl _ _).alloc (Nat.le_refl _) _
  have H0 := hide (And.intro h0 hb0)
  clear h0 hb0
  go_enter Try.func8, Try.ntmps8
  go_wp2_with fail
  refine (awake11_any _).mono ?_
  rintro e w1 ⟨rfl, hb1⟩
  have H1 := hide (And.intro (H0.out.1.later hb1) (H0.out.2.trans (hb1.mono H0.out.2.size)))
  clear hb1 H0
  have H2 := hide (And.intro H1.out.1 (And.intro H1.out.2 (show No11 w1 (.pointer none) from .inl rfl)))
  clear H1
  have c1 := H2.out.1.cell 1 _ rfl
  have c2 := H2.out.1.cell 2 _ rfl
  have c3 := H2.out.1.cell 3 _ rfl
  go_wp2_with fail
  refine (get11_no i H2.out.2.2).mono ?_
  rintro e w2 ⟨rfl, rfl⟩
  go_wp2_with fail
  refine (victim11_no H2.out.2.2).mono ?_
  rintro e w2 ⟨rfl, rfl⟩
  go_wp2_with fail
  refine (rec11_no i H2.out.2.2).mono ?_
  rintro e w2 ⟨rfl, rfl⟩
  go_wp2_with fail
  have T := put11_no i s H2.out.2.2
  rw [if_pos (.inl g1)] at T
  refine T.mono ?_
  rintro e w2 ⟨rfl, rfl⟩
  clear T
  go_wp2_with fail
  refine (set11_no i s n H2.out.2.2).mono ?_
  rintro e w2 ⟨rfl, rfl⟩
  go_wp2_with fail
  refine (clean11_no i H2.out.2.2).mono ?_
  rintro e w2 ⟨rfl, rfl⟩
  go_wp2_with fail
  refine (fix11_no i H2.out.2.2).mono ?_
  rintro e w2 ⟨rfl, rfl⟩
  go_wp2_with fail
  refine (unfix11_no i H2.out.2.2).mono ?_
  rintro e w2 ⟨rfl, rfl⟩
  go_wp2_with fail
  refine (drop11_no i H2.out.2.2).mono ?_
  rintro e w2 ⟨rfl, rfl⟩
  go_wp2_with fail
  refine (dirty11_no H2.out.2.2).mono ?_
  rintro e w2 ⟨rfl, rfl⟩
  go_wp2_with fail
  refine (pages11_no H2.out.2.2).mono ?_
  rintro e w2 ⟨rfl, rfl⟩
  go_wp2_with fail
  refine (full11_no H2.out.2.2).mono ?_
  rintro e w2 ⟨rfl, rfl⟩
  go_wp2
  go_ret
  exact ⟨rfl, H2.out.2.1⟩
set_option maxRecDepth 4000 in
set_option maxHeartbeats 1600000 in
theorem walk_false_b (k i : Int) (s : ByteArray) (n : Int) (w : World) (g1 : ¬ i < 0) (g2 : 32 ≤ i) :
    Calls Try.prog 8 #[.agg #[.int .i64 k, .int .i64 i, .string s, .int .u64 n], .bool false] w fun e w' => e = .returned (.bool true) ∧ Below w.heap.size w w' := by
  have h0 := RowAt.new w 30 #[.int .i64 k, .int .i64 i, .string s, .int .u64 n]
  have hb0 : Below w.heap.size w (w.alloc (.cells #[.int .i64 k, .int .i64 i, .string s, .int .u64 n] 30)) := (Below.refl _ _).alloc (Nat.le_refl _) _
  have H0 := hide (And.intro h0 hb0)
  clear h0 hb0
  go_enter Try.func8, Try.ntmps8
  go_wp2_with fail
  refine (awake11_any _).mono ?_
  rintro e w1 ⟨rfl, hb1⟩
  have H1 := hide (And.intro (H0.out.1.later hb1) (H0.out.2.trans (hb1.mono H0.out.2.size)))
  clear hb1 H0
  have H2 := hide (And.intro H1.out.1 (And.intro H1.out.2 (show No11 w1 (.pointer none) from .inl rfl)))
  clear H1
  have c1 := H2.out.1.cell 1 _ rfl
  have c2 := H2.out.1.cell 2 _ rfl
  have c3 := H2.out.1.cell 3 _ rfl
  go_wp2_with fail
  refine (get11_no i H2.out.2.2).mono ?_
  rintro e w2 ⟨rfl, rfl⟩
  go_wp2_with fail
  refine (victim11_no H2.out.2.2).mono ?_
  rintro e w2 ⟨rfl, rfl⟩
  go_wp2_with fail
  refine (rec11_no i H2.out.2.2).mono ?_
  rintro e w2 ⟨rfl, rfl⟩
  go_wp2_with fail
  have T := put11_no i s H2.out.2.2
  rw [if_pos (.inr g2)] at T
  refine T.mono ?_
  rintro e w2 ⟨rfl, rfl⟩
  clear T
  go_wp2_with fail
  refine (set11_no i s n H2.out.2.2).mono ?_
  rintro e w2 ⟨rfl, rfl⟩
  go_wp2_with fail
  refine (clean11_no i H2.out.2.2).mono ?_
  rintro e w2 ⟨rfl, rfl⟩
  go_wp2_with fail
  refine (fix11_no i H2.out.2.2).mono ?_
  rintro e w2 ⟨rfl, rfl⟩
  go_wp2_with fail
  refine (unfix11_no i H2.out.2.2).mono ?_
  rintro e w2 ⟨rfl, rfl⟩
  go_wp2_with fail
  refine (drop11_no i H2.out.2.2).mono ?_
  rintro e w2 ⟨rfl, rfl⟩
  go_wp2_with fail
  refine (dirty11_no H2.out.2.2).mono ?_
  rintro e w2 ⟨rfl, rfl⟩
  go_wp2_with fail
  refine (pages11_no H2.out.2.2).mono ?_
  rintro e w2 ⟨rfl, rfl⟩
  go_wp2_with fail
  refine (full11_no H2.out.2.2).mono ?_
  rintro e w2 ⟨rfl, rfl⟩
  go_wp2
  go_ret
  exact ⟨rfl, H2.out.2.1⟩
set_option maxRecDepth 4000 in
set_option maxHeartbeats 1600000 in
theorem walk_false_c (k i : Int) (s : ByteArray) (n : Int) (w : World) (g1 : ¬ i < 0) (g2 : ¬ 32 ≤ i) :
    Calls Try.prog 8 #[.agg #[.int .i64 k, .int .i64 i, .string s, .int .u64 n], .bool false] w fun e w' => e = .returned (.bool true) ∧ Below w.heap.size w w' := by
  have h0 := RowAt.new w 30 #[.int .i64 k, .int .i64 i, .string s, .int .u64 n]
  have hb0 : Below w.heap.size w (w.alloc (.cells #[.int .i64 k, .int .i64 i, .string s, .int .u64 n] 30)) := (Below.refl _ _).alloc (Nat.le_refl _) _
  have H0 := hide (And.intro h0 hb0)
  clear h0 hb0
  go_enter Try.func8, Try.ntmps8
  go_wp2_with fail
  refine (awake11_any _).mono ?_
  rintro e w1 ⟨rfl, hb1⟩
  have H1 := hide (And.intro (H0.out.1.later hb1) (H0.out.2.trans (hb1.mono H0.out.2.size)))
  clear hb1 H0
  have H2 := hide (And.intro H1.out.1 (And.intro H1.out.2 (show No11 w1 (.pointer none) from .inl rfl)))
  clear H1
  have c1 := H2.out.1.cell 1 _ rfl
  have c2 := H2.out.1.cell 2 _ rfl
  have c3 := H2.out.1.cell 3 _ rfl
  go_wp2_with fail
  refine (get11_no i H2.out.2.2).mono ?_
  rintro e w2 ⟨rfl, rfl⟩
  go_wp2_with fail
  refine (victim11_no H2.out.2.2).mono ?_
  rintro e w2 ⟨rfl, rfl⟩
  go_wp2_with fail
  refine (rec11_no i H2.out.2.2).mono ?_
  rintro e w2 ⟨rfl, rfl⟩
  go_wp2_with fail
  have T := put11_no i s H2.out.2.2
  rw [if_neg (by omega)] at T
  refine T.mono ?_
  rintro e w2 ⟨rfl, rfl⟩
  clear T
  go_wp2_with fail
  refine (set11_no i s n H2.out.2.2).mono ?_
  rintro e w2 ⟨rfl, rfl⟩
  go_wp2_with fail
  refine (clean11_no i H2.out.2.2).mono ?_
  rintro e w2 ⟨rfl, rfl⟩
  go_wp2_with fail
  refine (fix11_no i H2.out.2.2).mono ?_
  rintro e w2 ⟨rfl, rfl⟩
  go_wp2_with fail
  refine (unfix11_no i H2.out.2.2).mono ?_
  rintro e w2 ⟨rfl, rfl⟩
  go_wp2_with fail
  refine (drop11_no i H2.out.2.2).mono ?_
  rintro e w2 ⟨rfl, rfl⟩
  go_wp2_with fail
  refine (dirty11_no H2.out.2.2).mono ?_
  rintro e w2 ⟨rfl, rfl⟩
  go_wp2_with fail
  refine (pages11_no H2.out.2.2).mono ?_
  rintro e w2 ⟨rfl, rfl⟩
  go_wp2_with fail
  refine (full11_no H2.out.2.2).mono ?_
  rintro e w2 ⟨rfl, rfl⟩
  go_wp2
  go_ret
  exact ⟨rfl, H2.out.2.1⟩
theorem walk (c : Pc) (z : Bool) (w : World) (hf : c.fits) :
    Calls Try.prog 8 #[.agg (pcA c), .bool z] w fun e w' => e = .returned (.bool true) ∧ Below w.heap.size w w' := by
  obtain ⟨k, i, s, n⟩ := c
  by_cases g1 : i < 0
  · cases z
    · exact walk_false_a k i s n w g1
    · exact walk_true_a k i s n w g1
  by_cases g2 : 32 ≤ i
  · cases z
    · exact walk_false_b k i s n w g1 g2
    · exact walk_true_b k i s n w g1 g2
  cases z
  · exact walk_false_c k i s n w g1 g2
  · exact walk_true_c k i s n w g1 g2
end Go.Proofs.Ythigibgokbmehaa.poolNil
