/-
  'copy' from a string into a row of the call's own, as a law for the walk; the noughts behind what was copied.
-/
import Derived.Test.YtdcnfkndjjgobabPackMath
import Derived.Lib.BufferWrite
namespace Go.Proofs.Ytdcnfkndjjgobab
open Go.RowKit
set_option linter.unusedVariables false

/-- 'copy(dst, s)' from a string of just dst's length, dst at the head of a row of the call's own. -/
theorem wpList_copy_str {P : Program} {w : World} {ops : Array Oper} {rest : List Oper} {o : Oper} {a : Act} {Q : Exit → Act → World → Prop} (hgd : o.guard = none) (d x : Operand) (dT sT : TypeId)
    (ho : o.op = .call { callee := .builtin .copy, args := #[d, x], argTypes := #[dT, sT] }) (elem : TypeId) (hu : P.underlying dT = some (.slice elem)) (hsz : (P.info? elem).map (·.size) = some 1)
    (g cap : Nat) (s : ByteArray) (hd : a.eval d = .slice (some ⟨g, 0, none⟩) s.size cap) (hx : a.eval x = .string s) (cur : List Value) (t : TypeId) (hg : w.heap[g]? = some (.cells cur.toArray t (0, 0))) (hfit : s.size ≤ cur.length)
    (B : Nat) (w0 : World) (hb : Below B w0 w) (hBg : B ≤ g)
    (h : ∀ w', Hid (w'.heap[g]? = some (.cells (splice cur 0 (toV s.data.toList)).toArray t (0, 0))) → Below B w0 w' → wpList P ops Q rest (a.put o.dst (goInt s.size)) w') :
    wpList P ops Q (o :: rest) a w := by
  have hrun := Lib.run_copy_row_string (P := P) w dT sT o.type elem g 0 s.size cap s cur.toArray t hu hsz hg (Nat.le_refl _) (by simpa using hfit)
  refine wpList_plain hgd fun K hK => ?_
  unfold Oper.wp execOp
  simp only [ho, resolve, invoke, builtin, Sem.run_bind, Sem.run_pure, Result.andThen_ok, List.map_toArray, List.map_cons, List.map_nil, hd, hx, hrun]
  refine hK _ _ (h _ ?_ (below_setRow hb hBg _))
  have e : (splice cur 0 (toV s.data.toList)).toArray = (cur.toArray.toList.take 0 ++ Lib.byteCells s.data.toList ++ cur.toArray.toList.drop (0 + s.size)).toArray := by
    rw [splice_zero, toV_length, data_length, List.take_zero, List.nil_append, Nat.zero_add]
    rfl
  rw [e]
  exact setRow_heap w g _ _ t _ hg

theorem zeros {w : World} {g n m : Nat} {e : TypeId} {bs : List UInt8} (hb : bs.length = n) (h : w.heap[g]? = some (.cells (splice (zrow (n + m)) 0 (toV bs)).toArray e (0, 0))) (i : Nat) (h1 : n ≤ i) (h2 : i < n + m) :
    w.cell? ⟨g, i, none⟩ = some (.int .u8 0) := by
  rw [cell_of_row w g i _ e (0, 0) h, splice_zero]
  simp only [List.getElem?_toArray]
  rw [List.getElem?_append_right (by rw [toV_length]; omega), List.getElem?_drop, toV_length, hb]
  have e1 : n + (i - n) = i := by omega
  rw [e1, zrow, List.getElem?_replicate, if_pos h2]

end Go.Proofs.Ytdcnfkndjjgobab
