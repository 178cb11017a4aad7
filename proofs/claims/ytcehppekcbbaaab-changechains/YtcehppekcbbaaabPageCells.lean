/-
  Eight cells as one value, and a cell: how they are loaded and indexed.
-/
import Derived.Test.YtcehppekcbbaaabPageMem
import Derived.Test.YtcehppekcbbaaabRowMem
import Derived.Deep.MidRow
namespace Go.Proofs.Ytcehppekcbbaaab
open Go.RowKit
set_option linter.unusedVariables false

/-- A cell's cells. -/
def ceA (u : Bool) (s : ByteArray) : Array Value := #[.bool u, .string s]
theorem infoCe : (Try.prog.info? 26).map (·.size) = some 2 := by kernel_rfl
theorem ceA_one (u : Bool) (s : ByteArray) : (ceA u s).all (·.oneCell') = true := by simp [ceA, Value.oneCell']

/-- The eight cells of a page, as a value. -/
def csA (p : Pg) : Array Value := #[.bool (p.u 0), .string (p.s 0), .bool (p.u 1), .string (p.s 1), .bool (p.u 2), .string (p.s 2), .bool (p.u 3), .string (p.s 3), .bool (p.u 4), .string (p.s 4), .bool (p.u 5), .string (p.s 5), .bool (p.u 6), .string (p.s 6), .bool (p.u 7), .string (p.s 7)]
theorem infoCs : (Try.prog.info? 27).map (·.size) = some 16 := by kernel_rfl
theorem csA_one (p : Pg) : (csA p).all (·.oneCell') = true := by simp [csA, Value.oneCell']
theorem csA_ext (p : Pg) : ((pgA p).extract 1 (1 + 16)).toList = (csA p).toList := by simp [pgA, csA]
theorem same_csA {p q : Pg} (h : p.same q) : csA p = csA q := by
  apply Array.ext'
  rw [← csA_ext, ← csA_ext, same_pgA h]
theorem csA_len (p : Pg) : (Try.prog.info? 27).map (·.size) = some (csA p).toList.length := infoCs
theorem csA_used (p : Pg) (i : Nat) (h : i < 8) : (csA p)[i * 2]? = some (.bool (p.u i)) := by
  rcases lt8 h with rfl | rfl | rfl | rfl | rfl | rfl | rfl | rfl <;> rfl
theorem csA_val (p : Pg) (i : Nat) (h : i < 8) : (csA p)[i * 2 + 1]? = some (.string (p.s i)) := by
  rcases lt8 h with rfl | rfl | rfl | rfl | rfl | rfl | rfl | rfl <;> rfl

theorem load_cs {b : Nat} {p : Pg} (x : World) (h : PgAt x b p) : (Instr.loadAt 27 (.pointer (some ⟨b, 1, none⟩))).run Try.prog x = .ok (.agg (csA p)) x := by
  have hr := World.rangeAt_of_block h 1 16
  rw [csA_ext] at hr
  have h1 := run_loadAt_mid (P := Try.prog) x b 1 27 _ _ hr Try.underlying27 rfl (csA_len p)
  rwa [Array.toArray_toList] at h1

/-- A page's eight cells that are loaded, under a guard or not. -/
theorem wpList_load_cs {ops : Array Oper} {rest : List Oper} {o : Oper} {a : Act} {w : World} {Q : Exit → Act → World → Prop} (hw : Region.wanted o (yielded ops a.tmps) = true) (x : Operand) (ho : o.op = .load 27 x)
    (g : Nat) (hx : a.eval x = .pointer (some ⟨g, 1, none⟩)) (q : Pg) (hg : PgAt w g q) (h : wpList Try.prog ops Q rest (a.put o.dst (.agg (csA q))) w) : wpList Try.prog ops Q (o :: rest) a w :=
  wpList_step fun K hK => by
    simp only [hw, if_true]
    unfold Oper.wp execOp
    simp only [ho, hx, Sem.run_bind, load_cs w hg, Result.andThen_ok, Sem.run_pure]
    exact hK _ _ h

theorem run_index_cs (p : Pg) (j : Nat) (hj : j < 8) (w : World) : (Instr.index 27 (.agg (csA p)) (.int .i64 (j : Int))).run Try.prog w = .ok (.agg (ceA (p.u j) (p.s j))) w := by
  rcases lt8 hj with rfl | rfl | rfl | rfl | rfl | rfl | rfl | rfl <;> kernel_rfl

/-- One of eight cells. -/
theorem wpList_index_cs {ops : Array Oper} {rest : List Oper} {o : Oper} {a : Act} {w : World} {Q : Exit → Act → World → Prop} (hw : Region.wanted o (yielded ops a.tmps) = true) (x y : Operand) (ho : o.op = .index 27 x y)
    (p : Pg) (j : Nat) (hj : j < 8) (hx : a.eval x = .agg (csA p)) (hy : a.eval y = .int .i64 (j : Int)) (h : wpList Try.prog ops Q rest (a.put o.dst (.agg (ceA (p.u j) (p.s j)))) w) : wpList Try.prog ops Q (o :: rest) a w :=
  wpList_step fun K hK => by
    simp only [hw, if_true]
    unfold Oper.wp execOp
    simp only [ho, hx, hy, Sem.run_bind, run_index_cs p j hj w, Result.andThen_ok, Sem.run_pure]
    exact hK _ _ h
end Go.Proofs.Ytcehppekcbbaaab
