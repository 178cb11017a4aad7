/-
  The contract of quaysidelaw11.lengths. (gen11/texts.py)
-/
import Derived.Test.YthigibgokbmehaaPoolKeptI
import Derived.Test.YthigibgokbmehaaPoolTexts
namespace Go.Proofs.Ythigibgokbmehaa
open Go.RowKit
set_option linter.unusedVariables false

section
variable {w0 x : World} {g gr b : Nat} {p : Po}
set_option maxRecDepth 4000 in
set_option maxHeartbeats 800000 in
theorem lengths11_1 (i : Int) (s : ByteArray) (n : Int) (hs : s.size ≤ maxLen) (hb : b ≤ 100000) (h : K11i w0 x g gr p b) : Calls Try.prog 16 #[.pointer (some ⟨g, 0, none⟩), .agg #[.int .i64 1, .int .i64 i, .string s, .int .u64 n]] x fun e y => e = .returned (.tuple #[.int .i64 (p.didI 1), .int .i64 (p.didE 1 i)]) ∧ K11i w0 y g gr (p.did 1 i (.int .i64 (s.size : Int)) n) (b + 1) ∧ Tn (FP g gr) x y := by
  have hN := RowAt.new x 30 #[.int .i64 1, .int .i64 i, .string s, .int .u64 n]
  have hbN : Below x.heap.size x (x.alloc (.cells #[.int .i64 1, .int .i64 i, .string s, .int .u64 n] 30)) := (Below.refl _ _).alloc (Nat.le_refl _) _
  have c0 := hN.cell 0 _ rfl
  have c1 := hN.cell 1 _ rfl
  have c2 := hN.cell 2 _ rfl
  have c3 := hN.cell 3 _ rfl
  have H := hide (And.intro (h.later hbN) (Tn.of_below (F := FP g gr) hbN))
  clear h hbN hN
  go_enter Try.func16, Try.ntmps16
  go_wp2_with fail
  refine (kget11i i H.out.1).mono ?_
  rintro e y ⟨_, rfl, -, h3, ht⟩
  have H3 := hide (And.intro (h3.mono (c := b + 1) (by omega)) (H.out.2.then ht))
  clear h3 ht H c0 c1 c2 c3
  go_wp2
  go_ret2
  exact ⟨rfl, H3.out.1, H3.out.2⟩
set_option maxRecDepth 4000 in
set_option maxHeartbeats 800000 in
theorem lengths11_2 (i : Int) (s : ByteArray) (n : Int) (hs : s.size ≤ maxLen) (hb : b ≤ 100000) (h : K11i w0 x g gr p b) : Calls Try.prog 16 #[.pointer (some ⟨g, 0, none⟩), .agg #[.int .i64 2, .int .i64 i, .string s, .int .u64 n]] x fun e y => e = .returned (.tuple #[.int .i64 (p.didI 2), .int .i64 (p.didE 2 i)]) ∧ K11i w0 y g gr (p.did 2 i (.int .i64 (s.size : Int)) n) (b + 1) ∧ Tn (FP g gr) x y := by
  have hN := RowAt.new x 30 #[.int .i64 2, .int .i64 i, .string s, .int .u64 n]
  have hbN : Below x.heap.size x (x.alloc (.cells #[.int .i64 2, .int .i64 i, .string s, .int .u64 n] 30)) := (Below.refl _ _).alloc (Nat.le_refl _) _
  have c0 := hN.cell 0 _ rfl
  have c1 := hN.cell 1 _ rfl
  have c2 := hN.cell 2 _ rfl
  have c3 := hN.cell 3 _ rfl
  have H := hide (And.intro (h.later hbN) (Tn.of_below (F := FP g gr) hbN))
  clear h hbN hN
  go_enter Try.func16, Try.ntmps16
  go_wp2_with fail
  refine (kput11i i (s.size : Int) H.out.1).mono ?_
  rintro e y ⟨rfl, h3, ht⟩
  have H3 := hide (And.intro (h3.mono (c := b + 1) (by omega)) (H.out.2.then ht))
  clear h3 ht H c0 c1 c2 c3
  go_wp2
  go_ret2
  exact ⟨rfl, H3.out.1, H3.out.2⟩
set_option maxRecDepth 4000 in
set_option maxHeartbeats 800000 in
theorem lengths11_3 (i : Int) (s : ByteArray) (n : Int) (hs : s.size ≤ maxLen) (hb : b ≤ 100000) (h : K11i w0 x g gr p b) : Calls Try.prog 16 #[.pointer (some ⟨g, 0, none⟩), .agg #[.int .i64 3, .int .i64 i, .string s, .int .u64 n]] x fun e y => e = .returned (.tuple #[.int .i64 (p.didI 3), .int .i64 (p.didE 3 i)]) ∧ K11i w0 y g gr (p.did 3 i (.int .i64 (s.size : Int)) n) (b + 1) ∧ Tn (FP g gr) x y := by
  have hN := RowAt.new x 30 #[.int .i64 3, .int .i64 i, .string s, .int .u64 n]
  have hbN : Below x.heap.size x (x.alloc (.cells #[.int .i64 3, .int .i64 i, .string s, .int .u64 n] 30)) := (Below.refl _ _).alloc (Nat.le_refl _) _
  have c0 := hN.cell 0 _ rfl
  have c1 := hN.cell 1 _ rfl
  have c2 := hN.cell 2 _ rfl
  have c3 := hN.cell 3 _ rfl
  have H := hide (And.intro (h.later hbN) (Tn.of_below (F := FP g gr) hbN))
  clear h hbN hN
  go_enter Try.func16, Try.ntmps16
  go_wp2_with fail
  refine (kset11i i (s.size : Int) n H.out.1).mono ?_
  rintro e y ⟨rfl, h3, ht⟩
  have H3 := hide (And.intro (h3.mono (c := b + 1) (by omega)) (H.out.2.then ht))
  clear h3 ht H c0 c1 c2 c3
  go_wp2
  go_ret2
  exact ⟨rfl, H3.out.1, H3.out.2⟩
set_option maxRecDepth 4000 in
set_option maxHeartbeats 800000 in
theorem lengths11_4 (i : Int) (s : ByteArray) (n : Int) (hs : s.size ≤ maxLen) (hb : b ≤ 100000) (h : K11i w0 x g gr p b) : Calls Try.prog 16 #[.pointer (some ⟨g, 0, none⟩), .agg #[.int .i64 4, .int .i64 i, .string s, .int .u64 n]] x fun e y => e = .returned (.tuple #[.int .i64 (p.didI 4), .int .i64 (p.didE 4 i)]) ∧ K11i w0 y g gr (p.did 4 i (.int .i64 (s.size : Int)) n) (b + 1) ∧ Tn (FP g gr) x y := by
  have hN := RowAt.new x 30 #[.int .i64 4, .int .i64 i, .string s, .int .u64 n]
  have hbN : Below x.heap.size x (x.alloc (.cells #[.int .i64 4, .int .i64 i, .string s, .int .u64 n] 30)) := (Below.refl _ _).alloc (Nat.le_refl _) _
  have c0 := hN.cell 0 _ rfl
  have c1 := hN.cell 1 _ rfl
  have c2 := hN.cell 2 _ rfl
  have c3 := hN.cell 3 _ rfl
  have H := hide (And.intro (h.later hbN) (Tn.of_below (F := FP g gr) hbN))
  clear h hbN hN
  go_enter Try.func16, Try.ntmps16
  go_wp2_with fail
  refine (kclean11i i H.out.1).mono ?_
  rintro e y ⟨rfl, h3, ht⟩
  have H3 := hide (And.intro (h3.mono (c := b + 1) (by omega)) (H.out.2.then ht))
  clear h3 ht H c0 c1 c2 c3
  go_wp2
  go_ret2
  exact ⟨rfl, H3.out.1, H3.out.2⟩
set_option maxRecDepth 4000 in
set_option maxHeartbeats 800000 in
theorem lengths11_5 (i : Int) (s : ByteArray) (n : Int) (hs : s.size ≤ maxLen) (hb : b ≤ 100000) (h : K11i w0 x g gr p b) : Calls Try.prog 16 #[.pointer (some ⟨g, 0, none⟩), .agg #[.int .i64 5, .int .i64 i, .string s, .int .u64 n]] x fun e y => e = .returned (.tuple #[.int .i64 (p.didI 5), .int .i64 (p.didE 5 i)]) ∧ K11i w0 y g gr (p.did 5 i (.int .i64 (s.size : Int)) n) (b + 1) ∧ Tn (FP g gr) x y := by
  have hN := RowAt.new x 30 #[.int .i64 5, .int .i64 i, .string s, .int .u64 n]
  have hbN : Below x.heap.size x (x.alloc (.cells #[.int .i64 5, .int .i64 i, .string s, .int .u64 n] 30)) := (Below.refl _ _).alloc (Nat.le_refl _) _
  have c0 := hN.cell 0 _ rfl
  have c1 := hN.cell 1 _ rfl
  have c2 := hN.cell 2 _ rfl
  have c3 := hN.cell 3 _ rfl
  have H := hide (And.intro (h.later hbN) (Tn.of_below (F := FP g gr) hbN))
  clear h hbN hN
  go_enter Try.func16, Try.ntmps16
  go_wp2_with fail
  refine (kfix11i i hb H.out.1).mono ?_
  rintro e y ⟨rfl, h3, ht⟩
  have H3 := hide (And.intro (h3.mono (c := b + 1) (by omega)) (H.out.2.then ht))
  clear h3 ht H c0 c1 c2 c3
  go_wp2
  go_ret2
  exact ⟨rfl, H3.out.1, H3.out.2⟩
set_option maxRecDepth 4000 in
set_option maxHeartbeats 800000 in
theorem lengths11_6 (i : Int) (s : ByteArray) (n : Int) (hs : s.size ≤ maxLen) (hb : b ≤ 100000) (h : K11i w0 x g gr p b) : Calls Try.prog 16 #[.pointer (some ⟨g, 0, none⟩), .agg #[.int .i64 6, .int .i64 i, .string s, .int .u64 n]] x fun e y => e = .returned (.tuple #[.int .i64 (p.didI 6), .int .i64 (p.didE 6 i)]) ∧ K11i w0 y g gr (p.did 6 i (.int .i64 (s.size : Int)) n) (b + 1) ∧ Tn (FP g gr) x y := by
  have hN := RowAt.new x 30 #[.int .i64 6, .int .i64 i, .string s, .int .u64 n]
  have hbN : Below x.heap.size x (x.alloc (.cells #[.int .i64 6, .int .i64 i, .string s, .int .u64 n] 30)) := (Below.refl _ _).alloc (Nat.le_refl _) _
  have c0 := hN.cell 0 _ rfl
  have c1 := hN.cell 1 _ rfl
  have c2 := hN.cell 2 _ rfl
  have c3 := hN.cell 3 _ rfl
  have H := hide (And.intro (h.later hbN) (Tn.of_below (F := FP g gr) hbN))
  clear h hbN hN
  go_enter Try.func16, Try.ntmps16
  go_wp2_with fail
  refine (kunfix11i i hb H.out.1).mono ?_
  rintro e y ⟨rfl, h3, ht⟩
  have H3 := hide (And.intro (h3.mono (c := b + 1) (by omega)) (H.out.2.then ht))
  clear h3 ht H c0 c1 c2 c3
  go_wp2
  go_ret2
  exact ⟨rfl, H3.out.1, H3.out.2⟩
set_option maxRecDepth 4000 in
set_option maxHeartbeats 800000 in
theorem lengths11_7 (i : Int) (s : ByteArray) (n : Int) (hs : s.size ≤ maxLen) (hb : b ≤ 100000) (h : K11i w0 x g gr p b) : Calls Try.prog 16 #[.pointer (some ⟨g, 0, none⟩), .agg #[.int .i64 7, .int .i64 i, .string s, .int .u64 n]] x fun e y => e = .returned (.tuple #[.int .i64 (p.didI 7), .int .i64 (p.didE 7 i)]) ∧ K11i w0 y g gr (p.did 7 i (.int .i64 (s.size : Int)) n) (b + 1) ∧ Tn (FP g gr) x y := by
  have hN := RowAt.new x 30 #[.int .i64 7, .int .i64 i, .string s, .int .u64 n]
  have hbN : Below x.heap.size x (x.alloc (.cells #[.int .i64 7, .int .i64 i, .string s, .int .u64 n] 30)) := (Below.refl _ _).alloc (Nat.le_refl _) _
  have c0 := hN.cell 0 _ rfl
  have c1 := hN.cell 1 _ rfl
  have c2 := hN.cell 2 _ rfl
  have c3 := hN.cell 3 _ rfl
  have H := hide (And.intro (h.later hbN) (Tn.of_below (F := FP g gr) hbN))
  clear h hbN hN
  go_enter Try.func16, Try.ntmps16
  go_wp2_with fail
  refine (kvic11i  H.out.1).mono ?_
  rintro e y ⟨rfl, h3, ht⟩
  have H3 := hide (And.intro (h3.mono (c := b + 1) (by omega)) (H.out.2.then ht))
  clear h3 ht H c0 c1 c2 c3
  go_wp2
  go_ret2
  exact ⟨rfl, H3.out.1, H3.out.2⟩
set_option maxRecDepth 4000 in
set_option maxHeartbeats 800000 in
theorem lengths11_8 (i : Int) (s : ByteArray) (n : Int) (hs : s.size ≤ maxLen) (hb : b ≤ 100000) (h : K11i w0 x g gr p b) : Calls Try.prog 16 #[.pointer (some ⟨g, 0, none⟩), .agg #[.int .i64 8, .int .i64 i, .string s, .int .u64 n]] x fun e y => e = .returned (.tuple #[.int .i64 (p.didI 8), .int .i64 (p.didE 8 i)]) ∧ K11i w0 y g gr (p.did 8 i (.int .i64 (s.size : Int)) n) (b + 1) ∧ Tn (FP g gr) x y := by
  have hN := RowAt.new x 30 #[.int .i64 8, .int .i64 i, .string s, .int .u64 n]
  have hbN : Below x.heap.size x (x.alloc (.cells #[.int .i64 8, .int .i64 i, .string s, .int .u64 n] 30)) := (Below.refl _ _).alloc (Nat.le_refl _) _
  have c0 := hN.cell 0 _ rfl
  have c1 := hN.cell 1 _ rfl
  have c2 := hN.cell 2 _ rfl
  have c3 := hN.cell 3 _ rfl
  have H := hide (And.intro (h.later hbN) (Tn.of_below (F := FP g gr) hbN))
  clear h hbN hN
  go_enter Try.func16, Try.ntmps16
  go_wp2_with fail
  refine (kdrop11i i H.out.1).mono ?_
  rintro e y ⟨rfl, h3, ht⟩
  have H3 := hide (And.intro (h3.mono (c := b + 1) (by omega)) (H.out.2.then ht))
  clear h3 ht H c0 c1 c2 c3
  go_wp2
  go_ret2
  exact ⟨rfl, H3.out.1, H3.out.2⟩
set_option maxRecDepth 4000 in
set_option maxHeartbeats 800000 in
theorem lengths11_0 (k : Int) (i : Int) (s : ByteArray) (n : Int) (hs : s.size ≤ maxLen) (k1 : ¬ k = 1) (k2 : ¬ k = 2) (k3 : ¬ k = 3) (k4 : ¬ k = 4) (k5 : ¬ k = 5) (k6 : ¬ k = 6) (k7 : ¬ k = 7) (k8 : ¬ k = 8) (hb : b ≤ 100000) (h : K11i w0 x g gr p b) : Calls Try.prog 16 #[.pointer (some ⟨g, 0, none⟩), .agg #[.int .i64 k, .int .i64 i, .string s, .int .u64 n]] x fun e y => e = .returned (.tuple #[.int .i64 (p.didI k), .int .i64 (p.didE k i)]) ∧ K11i w0 y g gr (p.did k i (.int .i64 (s.size : Int)) n) (b + 1) ∧ Tn (FP g gr) x y := by
  have hN := RowAt.new x 30 #[.int .i64 k, .int .i64 i, .string s, .int .u64 n]
  have hbN : Below x.heap.size x (x.alloc (.cells #[.int .i64 k, .int .i64 i, .string s, .int .u64 n] 30)) := (Below.refl _ _).alloc (Nat.le_refl _) _
  have c0 := hN.cell 0 _ rfl
  have c1 := hN.cell 1 _ rfl
  have c2 := hN.cell 2 _ rfl
  have c3 := hN.cell 3 _ rfl
  have H := hide (And.intro (h.later hbN) (Tn.of_below (F := FP g gr) hbN))
  clear h hbN hN
  go_enter Try.func16, Try.ntmps16
  go_wp2
  go_ret2
  unfold Po.didI Po.didE Po.did
  simp only [k1, k2, k3, k4, k5, k6, k7, k8, if_false]
  exact ⟨rfl, H.out.1.mono (by omega), H.out.2⟩
theorem lengths11 (k i : Int) (s : ByteArray) (n : Int) (hs : s.size ≤ maxLen) (hb : b ≤ 100000) (h : K11i w0 x g gr p b) : Calls Try.prog 16 #[.pointer (some ⟨g, 0, none⟩), .agg #[.int .i64 k, .int .i64 i, .string s, .int .u64 n]] x fun e y => e = .returned (.tuple #[.int .i64 (p.didI k), .int .i64 (p.didE k i)]) ∧ K11i w0 y g gr (p.did k i (.int .i64 (s.size : Int)) n) (b + 1) ∧ Tn (FP g gr) x y := by
  by_cases k1 : k = 1
  · subst k1
    exact lengths11_1 i s n hs hb h
  by_cases k2 : k = 2
  · subst k2
    exact lengths11_2 i s n hs hb h
  by_cases k3 : k = 3
  · subst k3
    exact lengths11_3 i s n hs hb h
  by_cases k4 : k = 4
  · subst k4
    exact lengths11_4 i s n hs hb h
  by_cases k5 : k = 5
  · subst k5
    exact lengths11_5 i s n hs hb h
  by_cases k6 : k = 6
  · subst k6
    exact lengths11_6 i s n hs hb h
  by_cases k7 : k = 7
  · subst k7
    exact lengths11_7 i s n hs hb h
  by_cases k8 : k = 8
  · subst k8
    exact lengths11_8 i s n hs hb h
  exact lengths11_0 k i s n hs k1 k2 k3 k4 k5 k6 k7 k8 hb h
end
end Go.Proofs.Ythigibgokbmehaa
