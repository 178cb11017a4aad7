/-
  A record's cells, and the contract of quaysideref06.Own.
-/
import Derived.Test.YtmapgfakfeddmaaRecLoad
import Derived.Test.YtmapgfakfeddmaaChangeRefRight
import Derived.Test.YtmapgfakfeddmaaChEq
namespace Go.Proofs.Ytmapgfakfeddmaa
open Go.RowKit
set_option linter.unusedVariables false

theorem zero_fits : Ch.zero.fits := ⟨by decide, by decide, by decide, by show (0 : Nat) ≤ maxLen; omega, by show (0 : Nat) ≤ maxLen; omega⟩
theorem rcright_at (c : Ch) (w : World) (r : Bool) (Hr : Hid (decide c.right = r)) :
    Calls Try.prog 27 #[.agg (chA c)] w fun e w' => e = .returned (.bool r) ∧ Below w.heap.size w w' := by
  rw [← Hr.out]
  exact rcright_any c w
theorem zero_list : (⟨#[]⟩ : ByteArray).toList = [] := by
  rw [ByteArray.toList_eq]
theorem list_zero (s : ByteArray) (h : s.toList = []) : s = ⟨#[]⟩ := size0 s ((empty_iff s).1 (by rw [h]; rfl))
theorem ch_zero (c : Ch) (f1 : c.k = 0) (f2 : c.pg = 0) (f3 : c.sl = 0) (f4 : c.o.toList = []) (f5 : c.n.toList = []) : c = Ch.zero := by
  obtain ⟨k, pg, sl, o, n⟩ := c
  simp only at f1 f2 f3 f4 f5
  rw [f1, f2, f3, list_zero o f4, list_zero n f5]
  rfl
theorem rc_cells {x : World} {g : Nat} {r : Rec} {va vb : Value} (h : RowAt x g 28 (rcA r va vb)) :
    x.cell? ⟨g, 0, none⟩ = some (.int .i64 r.k) ∧ x.cell? ⟨g, 1, none⟩ = some (.int .u64 (r.l : Int)) ∧ x.cell? ⟨g, 2, none⟩ = some (.int .i64 r.t) ∧ x.cell? ⟨g, 3, none⟩ = some (.int .u64 (r.p : Int)) ∧ x.cell? ⟨g, 9, none⟩ = some (.int .u64 (r.n : Int)) ∧ x.cell? ⟨g, 10, none⟩ = some (.int .i64 r.s) ∧ x.cell? ⟨g, 11, none⟩ = some (.int .u64 (r.b : Int)) ∧ x.cell? ⟨g, 12, none⟩ = some va ∧ x.cell? ⟨g, 13, none⟩ = some vb :=
  ⟨h.cell 0 _ rfl, h.cell 1 _ rfl, h.cell 2 _ rfl, h.cell 3 _ rfl, h.cell 9 _ rfl, h.cell 10 _ rfl, h.cell 11 _ rfl, h.cell 12 _ rfl, h.cell 13 _ rfl⟩
theorem rc_chg {x : World} {g : Nat} {r : Rec} {va vb : Value} (h : RowAt x g 28 (rcA r va vb)) :
    x.cell? ⟨g, 4, none⟩ = some (.int .i64 r.c.k) ∧ x.cell? ⟨g, 5, none⟩ = some (.int .i64 r.c.pg) ∧ x.cell? ⟨g, 6, none⟩ = some (.int .i64 r.c.sl) ∧ x.cell? ⟨g, 7, none⟩ = some (.string r.c.o) ∧ x.cell? ⟨g, 8, none⟩ = some (.string r.c.n) :=
  ⟨h.cell 4 _ rfl, h.cell 5 _ rfl, h.cell 6 _ rfl, h.cell 7 _ rfl, h.cell 8 _ rfl⟩
theorem rc_change {x : World} {g : Nat} {r : Rec} {va vb : Value} (h : RowAt x g 28 (rcA r va vb)) : x.rangeAt g 4 (chA r.c).toList := by
  intro j v hv
  have hj : j < 5 := (List.getElem?_eq_some_iff.1 hv).1
  refine h.cell (4 + j) v ?_
  rw [← hv, Array.getElem?_toList]
  match j, hj with
  | 0, _ => rfl
  | 1, _ => rfl
  | 2, _ => rfl
  | 3, _ => rfl
  | 4, _ => rfl

set_option maxHeartbeats 400000 in
theorem own_at (k : Int) (w : World) (q : Bool) (Hq : Hid (decide (1 ≤ k ∧ k ≤ 6) = q)) :
    Calls Try.prog 26 #[.int .i64 k] w fun e w' => e = .returned (.bool q) ∧ w = w' := by
  by_cases h1 : 1 ≤ k
  · by_cases h2 : k ≤ 6
    · obtain rfl : q = true := by rw [← Hq.out]; exact decide_eq_true ⟨h1, h2⟩
      clear Hq
      go_enter Try.func26, Try.ntmps26
      go_wp2
      go_ret
      exact ⟨rfl, rfl⟩
    · obtain rfl : q = false := by rw [← Hq.out]; exact decide_eq_false (by omega)
      clear Hq
      go_enter Try.func26, Try.ntmps26
      go_wp2
      go_ret
      exact ⟨rfl, rfl⟩
  · obtain rfl : q = false := by rw [← Hq.out]; exact decide_eq_false (by omega)
    clear Hq
    go_enter Try.func26, Try.ntmps26
    go_wp2
    go_ret
    exact ⟨rfl, rfl⟩
end Go.Proofs.Ytmapgfakfeddmaa
