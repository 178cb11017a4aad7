/-
  Pages that are kept in memory while a statement goes on.
-/
import Derived.Test.YtcehppekcbbaaabPageMem
namespace Go.Proofs.Ytcehppekcbbaaab
open Go.RowKit
set_option linter.unusedVariables false

theorem kept_later {w x y : World} {g : Nat} {p : Pg} (h : PgAt x g p ∧ Below g w x ∧ g < x.heap.size) (hb : Below x.heap.size x y) : PgAt y g p ∧ Below g w y ∧ g < y.heap.size :=
  ⟨h.1.below hb h.2.2, h.2.1.trans (hb.mono (Nat.le_of_lt h.2.2)), Nat.lt_of_lt_of_le h.2.2 hb.size⟩

/-- Two pages that came in, and lie side by side. -/
def Pair (w : World) (g k : Nat) (p q : Pg) (x : World) : Prop := PgAt x g p ∧ PgAt x k q ∧ Below g w x ∧ g < k ∧ k < x.heap.size
theorem Pair.later {w x y : World} {g k : Nat} {p q : Pg} (h : Pair w g k p q x) (hb : Below x.heap.size x y) : Pair w g k p q y :=
  ⟨h.1.below hb (Nat.lt_trans h.2.2.2.1 h.2.2.2.2), h.2.1.below hb h.2.2.2.2, h.2.2.1.trans (hb.mono (Nat.le_of_lt (Nat.lt_trans h.2.2.2.1 h.2.2.2.2))), h.2.2.2.1, Nat.lt_of_lt_of_le h.2.2.2.2 hb.size⟩
theorem Pair.drew {w x : World} {g k : Nat} {p q : Pg} (h : Pair w g k p q x) : Pair w g k p q x.drew := ⟨h.1, h.2.1, below_dn h.2.2.1 1, h.2.2.2⟩
theorem Pair.new (w : World) (p q : Pg) : Pair w w.heap.size (w.heap.size + 1) p q ((w.alloc (.cells (pgA p) 29)).alloc (.cells (pgA q) 29)) := by
  have hz : w.heap.size < (w.alloc (.cells (pgA p) 29)).heap.size := by simp
  have e : (w.alloc (.cells (pgA p) 29)).heap.size = w.heap.size + 1 := by simp
  refine ⟨PgAt.alloc (show PgAt (w.alloc (.cells (pgA p) 29)) w.heap.size p from heap_alloc_new w _) hz _, ?_, ?_, by omega, by simp⟩
  · have h := heap_alloc_new (w.alloc (.cells (pgA p) 29)) (.cells (pgA q) 29)
    rw [e] at h
    exact h
  · exact ((Below.refl _ _).alloc (Nat.le_refl _) _).alloc (by simp) _

theorem PgAt.lt {w : World} {b : Nat} {p : Pg} (h : PgAt w b p) : b < w.heap.size := (Array.getElem?_eq_some_iff.1 h).1

/-- A page that a call keeps in memory of its own. -/
def Kept (B : Nat) (w : World) (g : Nat) (p : Pg) (x : World) : Prop := PgAt x g p ∧ Below B w x ∧ B ≤ g
theorem Kept.later {B g : Nat} {w x y : World} {p : Pg} (h : Kept B w g p x) (hb : Below x.heap.size x y) : Kept B w g p y :=
  ⟨h.1.below hb h.1.lt, h.2.1.trans (hb.mono (Nat.le_trans h.2.2 (Nat.le_of_lt h.1.lt))), h.2.2⟩
theorem Kept.drew {B g : Nat} {w x : World} {p : Pg} (h : Kept B w g p x) : Kept B w g p x.drew := ⟨h.1, below_dn h.2.1 1, h.2.2⟩

/-- One operation by its value. -/
theorem wpList_val {P : Program} {ops : Array Oper} {rest : List Oper} {o : Oper} {a : Act} {w : World} {Q : Exit → Act → World → Prop} (hw : Region.wanted o (yielded ops a.tmps) = true) (v : Value) (hv : (execOp a.eval o).run P w = .ok (.value v) w)
    (h : wpList P ops Q rest (a.put o.dst v) w) : wpList P ops Q (o :: rest) a w :=
  wpList_step fun K hK => by
    simp only [hw, if_true]
    unfold Oper.wp
    rw [hv]
    exact hK _ _ h
theorem wpList_binop {P : Program} {ops : Array Oper} {rest : List Oper} {o : Oper} {a : Act} {w : World} {Q : Exit → Act → World → Prop} (hw : Region.wanted o (yielded ops a.tmps) = true) (op : BinOp) (t r : TypeId) (x y : Operand) (ho : o.op = .binOp op t x y r) (u v z : Value) (hu : a.eval x = u) (hv : a.eval y = v) (hg : (eqGuard op t x y u v).run P w = .ok () w)
    (hz : (binOp op t u v).run P w = .ok z w) (h : wpList P ops Q rest (a.put o.dst z) w) : wpList P ops Q (o :: rest) a w :=
  wpList_val hw z (by unfold execOp; simp only [ho, hu, hv, Sem.run_bind, hg, hz, Result.andThen_ok, Sem.run_pure]) h
end Go.Proofs.Ytcehppekcbbaaab
