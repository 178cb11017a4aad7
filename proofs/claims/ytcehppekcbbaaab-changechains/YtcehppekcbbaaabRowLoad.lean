/-
  A struct's block that is loaded; a page's cell that is stored.
-/
import Derived.Test.YtcehppekcbbaaabChangeIn
namespace Go.Proofs.Ytcehppekcbbaaab
open Go.RowKit
set_option linter.unusedVariables false

theorem load_row {P : Program} {b : Nat} {t : TypeId} {cs : Array Value} {d : TypeDesc} (x : World) (h : RowAt x b t cs) (hu : P.underlying t = some d) (hd : (match d with | .struct _ | .array _ _ => true | _ => false) = true) (hi : (P.info? t).map (·.size) = some cs.size) :
    (Instr.loadAt t (.pointer (some ⟨b, 0, none⟩))).run P x = .ok (.agg cs) x := by
  have h1 := run_loadVar_row (P := P) x b t t cs (0, 0) d h hu hd hi
  simp only [Instr.loadAt, Instr.sureAddr, Sem.run_bind, Sem.run_pure, Result.andThen_ok, h1]

theorem put_cell {x : World} {g i : Nat} {p : Pg} (h : PgAt x g p) (hi : i < 8) (u : Bool) (s : ByteArray) : PgAt ((x.setCell ⟨g, 1 + i * 2, none⟩ (.bool u)).setCell ⟨g, 1 + i * 2 + 1, none⟩ (.string s)) g (p.put p.l i u s) := by
  have h1 := heap_setCell_same x g (1 + i * 2) _ _ (.bool u) h
  have h2 := heap_setCell_same _ g (1 + i * 2 + 1) _ _ (.string s) h1
  rw [pgA_set _ i hi] at h2
  exact h2

/-- A cell stored into a page. -/
theorem wpList_store_ce {ops : Array Oper} {rest : List Oper} {o : Oper} {a : Act} {w : World} {Q : Exit → Act → World → Prop} (hgd : o.guard = none) (x y : Operand) (ho : o.op = .store 26 x y)
    (g i : Nat) (hi : i < 8) (p : Pg) (u : Bool) (s : ByteArray) (hx : a.eval x = .pointer (some ⟨g, 1 + i * 2, none⟩)) (hy : a.eval y = .agg (ceA u s)) (hg : PgAt w g p)
    (h : ∀ w2, PgAt w2 g (p.put p.l i u s) → (∀ B w0, Below B w0 w → B ≤ g → Below B w0 w2) → (∀ k t' c', k ≠ g → RowAt w k t' c' → RowAt w2 k t' c') → wpList Try.prog ops Q rest (a.put o.dst undef) w2) : wpList Try.prog ops Q (o :: rest) a w := by
  have q1 := hg.used i hi
  have q2 := hg.val i hi
  have s1 := hg.free (1 + i * 2)
  have s2 := hg.free (1 + i * 2 + 1)
  have h2 := h _ (put_cell hg hi u s) (fun B w0 hb hB => ((hb.setCell (by exact hB) _).setCell (by exact hB) _)) (fun k t' c' hk hr => (hr.other _ _ hk).other _ _ hk)
  refine wpList_step fun K hK => ?_
  have hw : Region.wanted o (yielded ops a.tmps) = true := by unfold Region.wanted; rw [hgd]
  simp only [hw, if_true]
  have hK2 := hK _ _ h2
  clear h h2 hK hg
  unfold Oper.wp execOp
  simp only [ho, hx, hy, ceA]
  go_simp
  exact hK2
end Go.Proofs.Ytcehppekcbbaaab
