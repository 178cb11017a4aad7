/-
  Structs in memory, each a block of its own: how they are loaded and stored. Of no program.
-/
import Derived.WalkSpells
import Derived.Laws.OwnMore
import Derived.Laws.ResultCell
import Derived.Laws.Tables
import Derived.Deep.Draws
namespace Go.Proofs.Ytmlbghloddiflaa
open Go.RowKit
set_option linter.unusedVariables false

/-- A block that holds a struct's cells. -/
def RowAt (w : World) (b : Nat) (t : TypeId) (cs : Array Value) : Prop := w.heap[b]? = some (.cells cs t (0, 0))
theorem RowAt.below {w w' : World} {b B : Nat} {t : TypeId} {cs : Array Value} (h : RowAt w b t cs) (hb : Below B w w') (hB : b < B) : RowAt w' b t cs := (hb.block b hB).trans h
theorem RowAt.lt {w : World} {b : Nat} {t : TypeId} {cs : Array Value} (h : RowAt w b t cs) : b < w.heap.size := (Array.getElem?_eq_some_iff.1 h).1
theorem RowAt.later {w w' : World} {b : Nat} {t : TypeId} {cs : Array Value} (h : RowAt w b t cs) (hb : Below w.heap.size w w') : RowAt w' b t cs := h.below hb h.lt
theorem RowAt.cell {w : World} {b : Nat} {t : TypeId} {cs : Array Value} (h : RowAt w b t cs) (j : Nat) (v : Value) (hv : cs[j]? = some v) : w.cell? ⟨b, j, none⟩ = some v := by
  rw [cell_of_row w b j _ _ (0, 0) h]
  exact hv
theorem RowAt.free {w : World} {b : Nat} {t : TypeId} {cs : Array Value} (h : RowAt w b t cs) (j : Nat) : w.frozen? ⟨b, j, none⟩ = false := frozen_of_row w b j _ _ h
theorem RowAt.other {w : World} {b : Nat} {t : TypeId} {cs : Array Value} (h : RowAt w b t cs) (a : Addr) (v : Value) (hn : b ≠ a.block) : RowAt (w.setCell a v) b t cs := (heap_setCell_other w a b v hn).trans h
theorem RowAt.set {w : World} {b : Nat} {t : TypeId} {cs : Array Value} (h : RowAt w b t cs) (j : Nat) (v : Value) : RowAt (w.setCell ⟨b, j, none⟩ v) b t (cs.setIfInBounds j v) := heap_setCell_same w b j _ _ v h
theorem RowAt.new (w : World) (t : TypeId) (cs : Array Value) : RowAt (w.alloc (.cells cs t)) w.heap.size t cs := heap_alloc_new w _

section
variable {P : Program} {ops : Array Oper} {rest : List Oper} {o : Oper} {a : Act} {w : World} {Q : Exit → Act → World → Prop}

theorem wpList_load_at (hw : Region.wanted o (yielded ops a.tmps) = true) (t : TypeId) (x : Operand) (ho : o.op = .load t x) (g : Nat) (hx : a.eval x = .pointer (some ⟨g, 0, none⟩)) (cs : Array Value) (hg : RowAt w g t cs) (d : TypeDesc)
    (hu : P.underlying t = some d) (hd : (match d with | .struct _ | .array _ _ => true | _ => false) = true) (hi : (P.info? t).map (·.size) = some cs.size) (h : wpList P ops Q rest (a.put o.dst (.agg cs)) w) : wpList P ops Q (o :: rest) a w :=
  wpList_step fun K hK => by
    simp only [hw, if_true]
    exact wp_load_row t x ho g hx t cs (0, 0) d hg hu hd hi (hK _ _ h)

theorem wpList_store_at (hgd : o.guard = none) (t : TypeId) (x y : Operand) (ho : o.op = .store t x y) (g : Nat) (c0 cs : Array Value) (hx : a.eval x = .pointer (some ⟨g, 0, none⟩)) (hy : a.eval y = .agg cs) (hg : RowAt w g t c0)
    (hi : (P.info? t).map (·.size) = some cs.size) (hz : c0.size = cs.size) (h1 : cs.all (·.oneCell') = true)
    (h : ∀ w2, RowAt w2 g t cs → (∀ B w0, Below B w0 w → B ≤ g → Below B w0 w2) → (∀ k t' c', k ≠ g → RowAt w k t' c' → RowAt w2 k t' c') → wpList P ops Q rest (a.put o.dst undef) w2) : wpList P ops Q (o :: rest) a w := by
  refine wpList_store_row hgd t x y ho g cs hx hy t c0 hg hi hz h1 (h _ ?_ (fun B w0 hb hB => ?_) (fun k t' c' hk hr => ?_))
  · exact setRow_heap w g c0 cs t (0, 0) hg
  · exact ⟨hb.1, hb.2, hb.3, by simp [World.setRow]; exact hb.4, fun k hk => (setRow_other w g k _ (by omega)).trans (hb.5 k hk)⟩
  · exact (setRow_other w g k _ hk).trans hr

theorem res_at {fn : Func} {p u : Tmp} {t : TypeId} (h : fn.results = #[.cell p t, .tmp u]) (tmps : Array Value) (w : World) (g : Nat) (cs : Array Value) (d : TypeDesc) (hp : tmps.getD p undef = .pointer (some ⟨g, 0, none⟩)) (hg : RowAt w g t cs)
    (hu : P.underlying t = some d) (hd : (match d with | .struct _ | .array _ _ => true | _ => false) = true) (hi : (P.info? t).map (·.size) = some cs.size) :
    (results fn tmps).run P w = .ok (.tuple #[.agg cs, tmps.getD u undef]) w := by
  have h1 := run_loadVar_row (P := P) w g t t cs (0, 0) d hg hu hd hi
  rw [results_cell_tmp h, hp]
  simp only [asAddr, Sem.run_pure, Result.andThen_ok, h1]

theorem results_cells {fn : Func} {p q : Tmp} {t : TypeId} (h : fn.results = #[.cell p t, .cell q t]) (tmps : Array Value) (P : Program) (w : World) :
    (results fn tmps).run P w =
      ((asAddr (tmps.getD p undef)).run P w).andThen fun a w₁ => ((loadVar t a).run P w₁).andThen fun v w₂ => ((asAddr (tmps.getD q undef)).run P w₂).andThen fun b w₃ => ((loadVar t b).run P w₃).andThen fun u w₄ => .ok (.tuple #[v, u]) w₄ := by
  simp only [results, h]
  simp [Sem.run_bind, Result.andThen]
theorem res_two {fn : Func} {p q : Tmp} {t : TypeId} (h : fn.results = #[.cell p t, .cell q t]) (tmps : Array Value) (w : World) (g k : Nat) (cs ds : Array Value) (d : TypeDesc) (hp : tmps.getD p undef = .pointer (some ⟨g, 0, none⟩)) (hq : tmps.getD q undef = .pointer (some ⟨k, 0, none⟩)) (hg : RowAt w g t cs) (hk : RowAt w k t ds)
    (hu : P.underlying t = some d) (hd : (match d with | .struct _ | .array _ _ => true | _ => false) = true) (hi : (P.info? t).map (·.size) = some cs.size) (hj : (P.info? t).map (·.size) = some ds.size) :
    (results fn tmps).run P w = .ok (.tuple #[.agg cs, .agg ds]) w := by
  have h1 := run_loadVar_row (P := P) w g t t cs (0, 0) d hg hu hd hi
  have h2 := run_loadVar_row (P := P) w k t t ds (0, 0) d hk hu hd hj
  rw [results_cells h, hp, hq]
  simp only [asAddr, Sem.run_pure, Result.andThen_ok, h1, h2]
end

theorem gen_w {Q : World → Prop} (H : World → Prop) {x : World} (h : H x) (k : ∀ y, H y → Q y) : Q x := k x h

theorem empty_iff (s : ByteArray) : s.toList.isEmpty = true ↔ s.size = 0 := by
  rw [ByteArray.toList_eq]
  obtain ⟨⟨l⟩⟩ := s
  cases l <;> simp [ByteArray.size]
theorem lt_alloc {w : World} {b : Nat} (hb : b < w.heap.size) (o : Obj) : b < (w.alloc o).heap.size := by
  simp
  omega
theorem below_dn {B : Nat} {w w' : World} (h : Below B w w') (k : Nat) : Below B w (w'.drewN k) := ⟨h.1, h.2, h.3, h.4, h.5⟩
theorem gen_world {Q : World → Prop} (H : World → Prop) {x : World} (h : H x) (k : ∀ y, H y → Q y) : Q x := k x h
theorem gen_calls {P : Program} {f : FuncId} {args : Array Value} {Q : Ending → World → Prop} (H : World → Prop) {x : World} (h : H x) (k : ∀ y, H y → Calls P f args y Q) : Calls P f args x Q := k x h
theorem gen_wp {P : Program} {c : Code} {Q : Exit → Act → World → Prop} {a : Act} (H : World → Prop) {x : World} (h : H x) (k : ∀ y, H y → Code.wp P c Q a y) : Code.wp P c Q a x := k x h
/-- One operation by its value. -/
theorem wpList_val {P : Program} {ops : Array Oper} {rest : List Oper} {o : Oper} {a : Act} {w : World} {Q : Exit → Act → World → Prop} (hw : Region.wanted o (yielded ops a.tmps) = true) (v : Value) (hv : (execOp a.eval o).run P w = .ok (.value v) w)
    (h : wpList P ops Q rest (a.put o.dst v) w) : wpList P ops Q (o :: rest) a w :=
  wpList_step fun K hK => by
    simp only [hw, if_true]
    unfold Oper.wp
    rw [hv]
    exact hK _ _ h
theorem wpList_binop {P : Program} {ops : Array Oper} {rest : List Oper} {o : Oper} {a : Act} {w : World} {Q : Exit → Act → World → Prop} (hw : Region.wanted o (yielded ops a.tmps) = true) (op : BinOp) (t r : TypeId) (x y : Operand) (ho : o.op = .binOp op t x y r) (u v z : Value) (hu : a.eval x = u) (hv : a.eval y = v) (hg : (eqGuard op t x y u v).run P w = .ok () w)
    (hz : (binOp op t u v).run P w = .ok z w) (h : wpList P ops Q rest (a.put o.dst z) w) : wpList P ops Q (o :: rest) a w :=
  wpList_val hw z (by unfold execOp; simp only [ho, hu, hv, Sem.run_bind, hg, hz, Result.andThen_ok, Sem.run_pure]) h
end Go.Proofs.Ytmlbghloddiflaa
