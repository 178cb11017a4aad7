/-
  How many bytes a record has: plain facts.
-/
import Derived.Test.YtmapgfakfeddmaaRecCut
namespace Go.Proofs.Ytmapgfakfeddmaa
open Go.RowKit
set_option linter.unusedVariables false

theorem mayB_len {q : Prop} [Decidable q] {b : List UInt8} : (mayB q b).length = if q then b.length else 0 := by
  unfold mayB
  split <;> rfl
theorem chB_len (c : Ch) : (chB c).length = 6 + c.o.size + c.n.size := by
  unfold chB
  simp only [List.length_append, beB_length, textB_length, data_length]
  omega
/-- The bytes of a record that is no checkpoint's. -/
theorem rec_room (r : Rec) (h : r.right) (h8 : r.k ≠ 8) : 21 ≤ (recB r).length ∧ (recB r).length ≤ 75 ∧ ((r.k = 3 ∨ r.k = 4 ∨ r.k = 5 ∨ r.k = 7) → (recB r).length = 21) := by
  have e : (recB r).length = 21 + ((if r.k ≤ 2 then (chB r.c).length else 0) + ((if r.k = 2 then 8 else 0) + (if r.k = 6 then 1 else 0))) := by
    unfold recB
    simp only [List.length_append, beB_length, mayB_len]
    rw [if_neg h8]
    omega
  rw [e, chB_len]
  have hc : r.k ≤ 2 → r.c.o.size ≤ 20 ∧ r.c.n.size ≤ 20 := fun hk => by
    have := (h.ch hk).1
    omega
  by_cases h2 : r.k ≤ 2
  · have := hc h2
    rw [if_pos h2]
    split <;> split <;> exact ⟨by omega, by omega, fun hk => by omega⟩
  · rw [if_neg h2]
    split <;> split <;> exact ⟨by omega, by omega, fun hk => by omega⟩
/-- All bytes together are few. -/
theorem txB_len (x : Tx) : (txB x).length = 29 := by
  unfold txB
  simp only [List.length_append, beB_length]
theorem diB_len (d : Di) : (diB d).length = 10 := by
  unfold diB
  simp only [List.length_append, beB_length]
theorem flat_len {α : Type} (f : α → List UInt8) (n : Nat) (hf : ∀ x, (f x).length = n) : ∀ xs : List α, (xs.flatMap f).length = xs.length * n
  | [] => by simp
  | x :: xs => by
    rw [List.flatMap_cons, List.length_append, hf, flat_len f n hf xs, List.length_cons]
    rw [Nat.add_mul, Nat.one_mul, Nat.add_comm]
theorem checkB_len (b : Nat) (ts : List Tx) (ds : List Di) : (checkB b ts ds).length = 10 + ts.length * 29 + ds.length * 10 := by
  unfold checkB txsB disB
  simp only [List.length_append, beB_length, flat_len txB 29 txB_len, flat_len diB 10 diB_len]
  omega
theorem rec_few (r : Rec) (h : r.right) : (recB r).length ≤ 1000 := by
  by_cases h8 : r.k = 8
  · have hr := h.check h8
    have e : (recB r).length = 21 + (checkB r.b r.ts r.ds).length := by
      unfold recB
      simp only [List.length_append, beB_length, mayB_len]
      rw [if_neg (by omega), if_neg (by omega), if_neg (by omega), if_pos h8]
      omega
    rw [e, checkB_len]
    have := hr.1
    have := hr.2.1
    omega
  · have := (rec_room r h h8).2.1
    omega
/-- Right records are alike just if their bytes are. -/
theorem rec_inj {a b : Rec} (ha : a.right) (hb : b.right) (h : recB a = recB b) : a = b := by
  have h1 := dec_enc a ha
  rw [h, dec_enc b hb] at h1
  exact (Prod.mk.inj h1).1.symm
end Go.Proofs.Ytmapgfakfeddmaa
