/-
  Pages in memory: how they are read, loaded and stored.
-/
import Derived.Test.YtcehppekcbbaaabProg
import Derived.Test.YtcehppekcbbaaabPageMath
import Derived.WalkSpells
import Derived.Laws.OwnMore
import Derived.Laws.ResultCell
import Derived.Laws.Tables
import Derived.Deep.Draws
namespace Go.Proofs.Ytcehppekcbbaaab
open Go.RowKit
set_option linter.unusedVariables false

/-- A page in memory. -/
def PgAt (w : World) (b : Nat) (p : Pg) : Prop := w.heap[b]? = some (.cells (pgA p) 29 (0, 0))
theorem PgAt.lsn {w : World} {b : Nat} {p : Pg} (h : PgAt w b p) : w.cell? ⟨b, 0, none⟩ = some (.int .u64 p.l) := by
  rw [cell_of_row w b 0 _ _ (0, 0) h]
  rfl
theorem PgAt.used {w : World} {b : Nat} {p : Pg} (h : PgAt w b p) (i : Nat) (hi : i < 8) : w.cell? ⟨b, 1 + i * 2, none⟩ = some (.bool (p.u i)) := by
  rw [cell_of_row w b (1 + i * 2) _ _ (0, 0) h]
  exact pgA_used p i hi
theorem PgAt.val {w : World} {b : Nat} {p : Pg} (h : PgAt w b p) (i : Nat) (hi : i < 8) : w.cell? ⟨b, 1 + i * 2 + 1, none⟩ = some (.string (p.s i)) := by
  rw [cell_of_row w b (1 + i * 2 + 1) _ _ (0, 0) h]
  exact pgA_val p i hi
theorem PgAt.below {w w' : World} {b B : Nat} {p : Pg} (h : PgAt w b p) (hb : Below B w w') (hB : b < B) : PgAt w' b p := (hb.block b hB).trans h

theorem empty_iff (s : ByteArray) : s.toList.isEmpty = true ↔ s.size = 0 := by
  rw [ByteArray.toList_eq]
  obtain ⟨⟨l⟩⟩ := s
  cases l <;> simp [ByteArray.size]
theorem PgAt.alloc {w : World} {b : Nat} {p : Pg} (h : PgAt w b p) (hb : b < w.heap.size) (o : Obj) : PgAt (w.alloc o) b p := h.below ((Below.refl w.heap.size w).alloc (Nat.le_refl _) o) hb
theorem lt_alloc {w : World} {b : Nat} (hb : b < w.heap.size) (o : Obj) : b < (w.alloc o).heap.size := by
  simp
  omega
theorem load_page {b : Nat} {p : Pg} (x : World) (h : PgAt x b p) : (Instr.loadAt 29 (.pointer (some ⟨b, 0, none⟩))).run Try.prog x = .ok (.agg (pgA p)) x := by
  have h1 := run_loadVar_row (P := Try.prog) x b 29 29 (pgA p) (0, 0) _ h Try.underlying29 rfl (by show _ = some 17; kernel_rfl)
  simp only [Instr.loadAt, Instr.sureAddr, Sem.run_bind, Sem.run_pure, Result.andThen_ok, h1]

/-- All cells of a page. -/
theorem PgAt.all {x : World} {b : Nat} {p : Pg} (h : PgAt x b p) : x.cell? ⟨b, 0, none⟩ = some (.int .u64 p.l) ∧ x.cell? ⟨b, 1, none⟩ = some (.bool (p.u 0)) ∧ x.cell? ⟨b, 2, none⟩ = some (.string (p.s 0)) ∧ x.cell? ⟨b, 3, none⟩ = some (.bool (p.u 1)) ∧ x.cell? ⟨b, 4, none⟩ = some (.string (p.s 1)) ∧ x.cell? ⟨b, 5, none⟩ = some (.bool (p.u 2)) ∧ x.cell? ⟨b, 6, none⟩ = some (.string (p.s 2)) ∧ x.cell? ⟨b, 7, none⟩ = some (.bool (p.u 3)) ∧ x.cell? ⟨b, 8, none⟩ = some (.string (p.s 3)) ∧ x.cell? ⟨b, 9, none⟩ = some (.bool (p.u 4)) ∧ x.cell? ⟨b, 10, none⟩ = some (.string (p.s 4)) ∧ x.cell? ⟨b, 11, none⟩ = some (.bool (p.u 5)) ∧ x.cell? ⟨b, 12, none⟩ = some (.string (p.s 5)) ∧ x.cell? ⟨b, 13, none⟩ = some (.bool (p.u 6)) ∧ x.cell? ⟨b, 14, none⟩ = some (.string (p.s 6)) ∧ x.cell? ⟨b, 15, none⟩ = some (.bool (p.u 7)) ∧ x.cell? ⟨b, 16, none⟩ = some (.string (p.s 7)) :=
  ⟨h.lsn, h.used 0 (by omega), h.val 0 (by omega), h.used 1 (by omega), h.val 1 (by omega), h.used 2 (by omega), h.val 2 (by omega), h.used 3 (by omega), h.val 3 (by omega), h.used 4 (by omega), h.val 4 (by omega), h.used 5 (by omega), h.val 5 (by omega), h.used 6 (by omega), h.val 6 (by omega), h.used 7 (by omega), h.val 7 (by omega)⟩

theorem pg_drew {w : World} {b : Nat} {p : Pg} (h : PgAt w b p) : PgAt w.drew b p := h

theorem res_page {fn : Func} {p u : Tmp} (h : fn.results = #[.cell p 29, .tmp u]) (tmps : Array Value) (w : World) (g : Nat) (q : Pg) (hp : tmps.getD p undef = .pointer (some ⟨g, 0, none⟩)) (hg : PgAt w g q) :
    (results fn tmps).run Try.prog w = .ok (.tuple #[.agg (pgA q), tmps.getD u undef]) w := by
  have h1 := run_loadVar_row (P := Try.prog) w g 29 29 (pgA q) (0, 0) _ hg Try.underlying29 rfl (by show _ = some 17; kernel_rfl)
  rw [results_cell_tmp h, hp]
  simp only [asAddr, Sem.run_pure, Result.andThen_ok, h1]

theorem ne_list2 (s : ByteArray) (l : List UInt8) (h : l ≠ s.data.toList) : ((⟨l.toArray⟩ : ByteArray).toList == s.toList) = false := by
  rw [beq_eq_false_iff_ne]
  intro e
  apply h
  have e1 : ∀ b : ByteArray, b.toList = b.data.toList := fun b => ByteArray.toList_eq b
  rw [e1, e1] at e
  exact e

theorem pgA_one (q : Pg) : (pgA q).all (·.oneCell') = true := by simp [pgA, Value.oneCell']

/-- A page stored over another one. -/
theorem wpList_store_page {ops : Array Oper} {rest : List Oper} {o : Oper} {a : Act} {w : World} {Q : Exit → Act → World → Prop} (hgd : o.guard = none) (x y : Operand) (ho : o.op = .store 29 x y)
    (g : Nat) (q0 q : Pg) (hx : a.eval x = .pointer (some ⟨g, 0, none⟩)) (hy : a.eval y = .agg (pgA q)) (hg : PgAt w g q0)
    (h : ∀ w2, PgAt w2 g q → (∀ B w0, Below B w0 w → B ≤ g → Below B w0 w2) → wpList Try.prog ops Q rest (a.put o.dst undef) w2) : wpList Try.prog ops Q (o :: rest) a w := by
  have hi : (Try.prog.info? 29).map (·.size) = some (pgA q).size := by show _ = some 17; kernel_rfl
  refine wpList_store_row hgd 29 x y ho g (pgA q) hx hy 29 (pgA q0) hg hi rfl (pgA_one q) (h _ ?_ fun B w0 hb hB => ?_)
  · exact setRow_heap w g (pgA q0) (pgA q) 29 (0, 0) hg
  · exact ⟨hb.1, hb.2, hb.3, by simp [World.setRow]; exact hb.4, fun k hk => (setRow_other w g k _ (by omega)).trans (hb.5 k hk)⟩

theorem below_dn {B : Nat} {w w' : World} (h : Below B w w') (k : Nat) : Below B w (w'.drewN k) := ⟨h.1, h.2, h.3, h.4, h.5⟩

theorem gen_world {Q : World → Prop} (H : World → Prop) {x : World} (h : H x) (k : ∀ y, H y → Q y) : Q x := k x h

theorem PgAt.free {w : World} {b : Nat} {p : Pg} (h : PgAt w b p) (j : Nat) : w.frozen? ⟨b, j, none⟩ = false := frozen_of_row w b j _ _ h
theorem PgAt.other {w : World} {b : Nat} {p : Pg} (h : PgAt w b p) (a : Addr) (v : Value) (hn : b ≠ a.block) : PgAt (w.setCell a v) b p := (heap_setCell_other w a b v hn).trans h

theorem gen_calls {P : Program} {f : FuncId} {args : Array Value} {Q : Ending → World → Prop} (H : World → Prop) {x : World} (h : H x) (k : ∀ y, H y → Calls P f args y Q) : Calls P f args x Q := k x h

theorem gen_wp {P : Program} {c : Code} {Q : Exit → Act → World → Prop} {a : Act} (H : World → Prop) {x : World} (h : H x) (k : ∀ y, H y → Code.wp P c Q a y) : Code.wp P c Q a x := k x h

/-- A page that is loaded, under a guard or not. -/
theorem wpList_load_page {ops : Array Oper} {rest : List Oper} {o : Oper} {a : Act} {w : World} {Q : Exit → Act → World → Prop} (hw : Region.wanted o (yielded ops a.tmps) = true) (x : Operand) (ho : o.op = .load 29 x)
    (g : Nat) (hx : a.eval x = .pointer (some ⟨g, 0, none⟩)) (q : Pg) (hg : PgAt w g q) (h : wpList Try.prog ops Q rest (a.put o.dst (.agg (pgA q))) w) : wpList Try.prog ops Q (o :: rest) a w :=
  wpList_step fun K hK => by
    simp only [hw, if_true]
    exact wp_load_row 29 x ho g hx 29 (pgA q) (0, 0) _ hg Try.underlying29 rfl (by show _ = some 17; kernel_rfl) (hK _ _ h)
end Go.Proofs.Ytcehppekcbbaaab
