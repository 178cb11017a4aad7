/-
  Records that a machine can have, and == of the rows of their lists.
-/
import Derived.Test.YtmapgfakfeddmaaRecMem
import Derived.Test.YtmapgfakfeddmaaChEq
namespace Go.Proofs.Ytmapgfakfeddmaa
open Go.RowKit
set_option linter.unusedVariables false

def Tx.fits (x : Tx) : Prop := (Lit.int .i64 x.t).wf = true ∧ (Lit.int .i64 x.s).wf = true ∧ (Lit.int .u64 (x.f : Int)).wf = true ∧ (Lit.int .u64 (x.l : Int)).wf = true ∧ (Lit.int .u64 (x.n : Int)).wf = true
def Di.fits (d : Di) : Prop := (Lit.int .i64 d.p).wf = true ∧ (Lit.int .u64 (d.r : Int)).wf = true
/-- What every record that comes in keeps to. -/
structure Rec.fits (r : Rec) : Prop where
  c : r.c.fits
  tl : r.ts.length ≤ maxLen
  dl : r.ds.length ≤ maxLen
  ts : ∀ x ∈ r.ts, x.fits
  ds : ∀ d ∈ r.ds, d.fits

def litsT (x : Tx) : List Lit := [.int .i64 x.t, .int .i64 x.s, .int .u64 (x.f : Int), .int .u64 (x.l : Int), .int .u64 (x.n : Int)]
def litsD (d : Di) : List Lit := [.int .i64 d.p, .int .u64 (d.r : Int)]
theorem litsT_iff (x y : Tx) : litsT x = litsT y ↔ x = y := by
  unfold litsT
  simp only [List.cons.injEq, and_true, Lit.int.injEq, true_and, Int.ofNat_inj]
  constructor
  · rintro ⟨h1, h2, h3, h4, h5⟩
    cases x
    cases y
    simp_all
  · rintro rfl
    exact ⟨rfl, rfl, rfl, rfl, rfl⟩
theorem litsD_iff (x y : Di) : litsD x = litsD y ↔ x = y := by
  unfold litsD
  simp only [List.cons.injEq, and_true, Lit.int.injEq, true_and, Int.ofNat_inj]
  constructor
  · rintro ⟨h1, h2⟩
    cases x
    cases y
    simp_all
  · rintro rfl
    exact ⟨rfl, rfl⟩

theorem lits_tx (x : Tx) (h : x.fits) : Try.prog.keyLits 2 65 (txA x).toList = some (litsT x) := by
  have e0 : Try.prog.cellsOf 3 = 1 := by kernel_rfl
  have e1 : Try.prog.cellsOf 22 = 1 := by kernel_rfl
  have e2 : Try.prog.cellsOf 65 = 5 := by kernel_rfl
  obtain ⟨h1, h2, h3, h4, h5⟩ := h
  simp [Program.keyLits, Try.underlying65, Try.underlying3, Try.underlying22, e0, e1, e2, txA, litsT, h1, h2, h3, h4, h5]
theorem lits_di (x : Di) (h : x.fits) : Try.prog.keyLits 2 67 (diA x).toList = some (litsD x) := by
  have e0 : Try.prog.cellsOf 3 = 1 := by kernel_rfl
  have e1 : Try.prog.cellsOf 22 = 1 := by kernel_rfl
  have e2 : Try.prog.cellsOf 67 = 2 := by kernel_rfl
  obtain ⟨h1, h2⟩ := h
  simp [Program.keyLits, Try.underlying67, Try.underlying3, Try.underlying22, e0, e1, e2, diA, litsD, h1, h2]

theorem run_tx_neq (x y : Tx) (hx : x.fits) (hy : y.fits) (q : Bool) (hq : q = false ↔ x = y) (w : World) : (binOp .neq 65 (.agg (txA x)) (.agg (txA y))).run Try.prog w = .ok (.bool q) w := by
  obtain ⟨r, hr, hiff⟩ := run_equalIn_deep (P := Try.prog) 9998 2 65 (by kernel_rfl) w 2 2 (.agg (txA x)) (.agg (txA y)) (litsT x) (litsT y) (by kernel_rfl) (by kernel_rfl) (lits_tx x hx) (lits_tx y hy)
  rw [litsT_iff, ← hq] at hiff
  have e : r = !q := by cases r <;> cases q <;> simp_all
  rw [e] at hr
  have hr2 : (Op.equal 65 (.agg (txA x)) (.agg (txA y))).run Try.prog w = .ok (!q) w := hr
  simp [binOp, hr2]
theorem run_di_neq (x y : Di) (hx : x.fits) (hy : y.fits) (q : Bool) (hq : q = false ↔ x = y) (w : World) : (binOp .neq 67 (.agg (diA x)) (.agg (diA y))).run Try.prog w = .ok (.bool q) w := by
  obtain ⟨r, hr, hiff⟩ := run_equalIn_deep (P := Try.prog) 9998 2 67 (by kernel_rfl) w 2 2 (.agg (diA x)) (.agg (diA y)) (litsD x) (litsD y) (by kernel_rfl) (by kernel_rfl) (lits_di x hx) (lits_di y hy)
  rw [litsD_iff, ← hq] at hiff
  have e : r = !q := by cases r <;> cases q <;> simp_all
  rw [e] at hr
  have hr2 : (Op.equal 67 (.agg (diA x)) (.agg (diA y))).run Try.prog w = .ok (!q) w := hr
  simp [binOp, hr2]
theorem tx_guard (op : BinOp) (x y : Operand) (c d : Tx) (w : World) : (eqGuard op 65 x y (.agg (txA c)) (.agg (txA d))).run Try.prog w = .ok () w := run_eqGuard_agg (P := Try.prog) w op 65 x y (txA c) (txA d) (by kernel_rfl)
theorem di_guard (op : BinOp) (x y : Operand) (c d : Di) (w : World) : (eqGuard op 67 x y (.agg (diA c)) (.agg (diA d))).run Try.prog w = .ok () w := run_eqGuard_agg (P := Try.prog) w op 67 x y (diA c) (diA d) (by kernel_rfl)

theorem getD_mem {α : Type} (xs : List α) (i : Nat) (z : α) (h : i < xs.length) : xs.getD i z ∈ xs := by
  rw [List.getD_eq_getElem?_getD, List.getElem?_eq_getElem h]
  exact List.getElem_mem h
theorem list_same {α : Type} {xs ys : List α} {z : α} (hl : xs.length = ys.length) (h : ∀ i, i < xs.length → xs.getD i z = ys.getD i z) : xs = ys := by
  apply List.ext_getElem hl
  intro i h1 h2
  have := h i h1
  rwa [List.getD_eq_getElem?_getD, List.getD_eq_getElem?_getD, List.getElem?_eq_getElem h1, List.getElem?_eq_getElem h2] at this

/-- A struct out of a row, by its value in every world that holds it. -/
theorem load_tx (y : World) (b k : Nat) (x : Tx) (h : y.rangeAt b k (txA x).toList) : (Instr.loadAt 65 (.pointer (some ⟨b, k, none⟩))).run Try.prog y = .ok (.agg (txA x)) y := by
  have h1 := run_loadAt_mid (P := Try.prog) y b k 65 (txA x).toList _ h Try.underlying65 rfl (by rw [infoTx]; rfl)
  rwa [Array.toArray_toList] at h1
theorem load_di (y : World) (b k : Nat) (x : Di) (h : y.rangeAt b k (diA x).toList) : (Instr.loadAt 67 (.pointer (some ⟨b, k, none⟩))).run Try.prog y = .ok (.agg (diA x)) y := by
  have h1 := run_loadAt_mid (P := Try.prog) y b k 67 (diA x).toList _ h Try.underlying67 rfl (by rw [infoDi]; rfl)
  rwa [Array.toArray_toList] at h1
end Go.Proofs.Ytmapgfakfeddmaa
