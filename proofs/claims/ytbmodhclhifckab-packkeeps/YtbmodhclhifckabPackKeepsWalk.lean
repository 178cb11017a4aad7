/-
  The walk of PackKeeps: it returns true, and turns nothing that was there.
-/
import Derived.Test.YtbmodhclhifckabPackAwake
import Derived.Test.YtbmodhclhifckabPackPutText
import Derived.Lib.BufferWrite
import Derived.OpenShut
namespace Go.Proofs.Ytbmodhclhifckab.packKeeps
open Go.RowKit
set_option linter.unusedVariables false

/-- 'copy(dst, s)' from a string of just dst's length, dst at the head of a row of the call's own. -/
theorem wpList_copy_str {P : Program} {w : World} {ops : Array Oper} {rest : List Oper} {o : Oper} {a : Act} {Q : Exit → Act → World → Prop} (hgd : o.guard = none) (d x : Operand) (dT sT : TypeId)
    (ho : o.op = .call { callee := .builtin .copy, args := #[d, x], argTypes := #[dT, sT] }) (elem : TypeId) (hu : P.underlying dT = some (.slice elem)) (hsz : (P.info? elem).map (·.size) = some 1)
    (g cap : Nat) (s : ByteArray) (hd : a.eval d = .slice (some ⟨g, 0, none⟩) s.size cap) (hx : a.eval x = .string s) (cur : List Value) (t : TypeId) (hg : w.heap[g]? = some (.cells cur.toArray t (0, 0))) (hfit : s.size ≤ cur.length)
    (B : Nat) (w0 : World) (hb : Below B w0 w) (hBg : B ≤ g)
    (h : ∀ w', Hid (w'.heap[g]? = some (.cells (splice cur 0 (toV s.data.toList)).toArray t (0, 0))) → Below B w0 w' → wpList P ops Q rest (a.put o.dst (goInt s.size)) w') :
    wpList P ops Q (o :: rest) a w := by
  have hrun := Lib.run_copy_row_string (P := P) w dT sT o.type elem g 0 s.size cap s cur.toArray t hu hsz hg (Nat.le_refl _) (by simpa using hfit)
  refine wpList_plain hgd fun K hK => ?_
  unfold Oper.wp execOp
  simp only [ho, resolve, invoke, builtin, Sem.run_bind, Sem.run_pure, Result.andThen_ok, List.map_toArray, List.map_cons, List.map_nil, hd, hx, hrun]
  refine hK _ _ (h _ ?_ (below_setRow hb hBg _))
  have e : (splice cur 0 (toV s.data.toList)).toArray = (cur.toArray.toList.take 0 ++ Lib.byteCells s.data.toList ++ cur.toArray.toList.drop (0 + s.size)).toArray := by
    rw [splice_zero, toV_length, data_length, List.take_zero, List.nil_append, Nat.zero_add]
    rfl
  rw [e]
  exact setRow_heap w g _ _ t _ hg

theorem zeros {w : World} {g n m : Nat} {e : TypeId} {bs : List UInt8} (hb : bs.length = n) (h : w.heap[g]? = some (.cells (splice (zrow (n + m)) 0 (toV bs)).toArray e (0, 0))) (i : Nat) (h1 : n ≤ i) (h2 : i < n + m) :
    w.cell? ⟨g, i, none⟩ = some (.int .u8 0) := by
  rw [cell_of_row w g i _ e (0, 0) h, splice_zero]
  simp only [List.getElem?_toArray]
  rw [List.getElem?_append_right (by rw [toV_length]; omega), List.getElem?_drop, toV_length, hb]
  have e1 : n + (i - n) = i := by omega
  rw [e1, zrow, List.getElem?_replicate, if_pos h2]

theorem ab_size : ByteArray.size ⟨#[97, 98]⟩ = 2 := rfl

set_option maxHeartbeats 800000 in
theorem walk_one (s : ByteArray) (n : Nat) (w : World) (hs : s.size ≤ 140737488351232) (hn : n < 256 ^ 8) :
    Calls Try.prog 3 #[.string s, .int .u64 n] w fun e w' => e = .returned (.bool true) ∧ Below w.heap.size w w' := by
  have hmk : ∀ w, (Instr.makeSlice 24 (.int .i64 (s.size : Int)) (.int .i64 ((s.size : Int) + 20))).run Try.prog w = .ok (.slice (some ⟨w.heap.size, 0, none⟩) s.size (s.size + 20)) (w.alloc (.cells (zrow (s.size + 20)).toArray 5)) :=
    fun w => run_mk (P := Try.prog) 24 5 Try.underlying24 info8 s.size 20 (by omega) w
  go_enter Try.func3, Try.ntmps3
  go_wp2_with fail
  refine (awake_any _).mono ?_
  rintro e w1 ⟨rfl, hb1⟩
  have hrow : (w1.alloc (.cells (zrow (s.size + 20)).toArray 5)).heap[w1.heap.size]? = some (.cells (zrow (s.size + 20)).toArray 5 (0, 0)) := heap_alloc_new w1 _
  go_wp2_with (refine wpList_copy_str rfl (.tmp 20) (.tmp 21) 24 9 rfl 5 Try.underlying24 info8s w1.heap.size (s.size + 20) s rfl rfl (zrow (s.size + 20)) 5 hrow (by rw [zrow_length]; omega) w1.heap.size w1 ((Below.refl _ _).alloc (Nat.le_refl _) _) (Nat.le_refl _) ?_)
  intro w2 HR hb2
  clear hrow hmk
  have hown := owns_spliced (base := w1.heap.size) (data_length s) (Nat.le_refl _) (show s.size + 20 ≤ 281474976710656 by omega) HR.out
  have hB2 := hown.isB (data_length s)
  have hlt2 := (hown.lt _ rfl).2
  go_wp2_with fail
  refine (put_ok _ _ _ 8 n s.data.toList _ hB2 (by omega) (by omega) (by omega) hn).mono ?_
  rintro e w3 ⟨rfl, hx3, hb3⟩
  have hlt3 := (hx3.lt _ rfl).2
  have P := puttext_ok (some ⟨w1.heap.size, 0, none⟩) s.size (s.size + 20) s.data.toList ⟨#[97, 98]⟩ w3 (hB2.below hb3) (by omega) (by decide)
  rw [ab_size] at P
  have HP := hide P
  clear P
  go_wp2_with fail
  refine HP.out.mono ?_
  rintro e w4 ⟨rfl, hy4, hb4⟩
  have hx4 := ownsRow_below hx3 hb4
  have HR4 : w4.heap[w1.heap.size]? = some (.cells (splice (zrow (s.size + 20)) 0 (toV s.data.toList)).toArray 5 (0, 0)) :=
    (hb4.block w1.heap.size (by omega)).trans ((hb3.block w1.heap.size hlt2).trans HR.out)
  have hzero : ∀ i, s.size ≤ i → i < s.size + 20 → w4.cell? ⟨w1.heap.size, i, none⟩ = some (.int .u8 0) := zeros (data_length s) HR4
  have hB4 := (hB2.below hb3).below hb4
  obtain ⟨qx, cx⟩ : ∃ q : Nat, w4.cell? ⟨w2.heap.size, 0, none⟩ = some (.int .u8 (q : Int)) := ⟨_, (hx4.cellAt 0 (by omega)).trans (toV_get _ 0 (by rw [List.length_append, beB_length]; omega))⟩
  obtain ⟨qy, cy⟩ : ∃ q : Nat, w4.cell? ⟨w3.heap.size, 0, none⟩ = some (.int .u8 (q : Int)) := ⟨_, (hy4.cellAt 0 (by omega)).trans (toV_get _ 0 (by rw [List.length_append, textB_length]; omega))⟩
  have fx : w4.frozen? ⟨w2.heap.size, 0, none⟩ = false := hx4.frozenAt 0
  have fy : w4.frozen? ⟨w3.heap.size, 0, none⟩ = false := hy4.frozenAt 0
  have hcv : ∀ u v, (convert 24 9 (.slice (some ⟨w1.heap.size, 0, none⟩) s.size (s.size + 20))).run Try.prog ((w4.setCell ⟨w2.heap.size, 0, none⟩ u).setCell ⟨w3.heap.size, 0, none⟩ v) = .ok (.string s) ((w4.setCell ⟨w2.heap.size, 0, none⟩ u).setCell ⟨w3.heap.size, 0, none⟩ v) := by
    intro u v
    have hbb : Below (w1.heap.size + 1) w4 ((w4.setCell ⟨w2.heap.size, 0, none⟩ u).setCell ⟨w3.heap.size, 0, none⟩ v) := ((Below.refl _ _).setCell (by exact hlt2) u).setCell (by show w1.heap.size + 1 ≤ w3.heap.size; omega) v
    have h := run_toString (P := Try.prog) ((w4.setCell ⟨w2.heap.size, 0, none⟩ u).setCell ⟨w3.heap.size, 0, none⟩ v) 24 9 5 Try.underlying24 Try.underlying5 Try.underlying9 (some ⟨w1.heap.size, 0, none⟩) s.size (s.size + 20) s.data.toList (hB4.later hbb (by intro b off hh; cases hh; exact Nat.lt_succ_self _))
    rw [mk_self] at h
    exact h
  have c2 := hb1.trans (hb2.mono hb1.size)
  have c3 := c2.trans (hb3.mono c2.size)
  have c4 := c3.trans (hb4.mono c3.size)
  have hw1 := hb1.size
  clear HP HR HR4 hown hB2 hx3 hx4 hy4 hB4 hb2 hb3 hb4 c2 c3
  go_wp2
  go_loop [11] (fun i => ∃ j : Nat, s.size ≤ j ∧ j ≤ s.size + 20 ∧ i = .int .i64 j) (fun i => s.size + 20 - (intOf i).toNat)
  case atStart => exact ⟨s.size, Nat.le_refl _, by omega, rfl⟩
  case round =>
    obtain ⟨j, hj1, hj2, rfl⟩ := hrel
    by_cases hlt : j < s.size + 20
    · have hz := hzero j hj1 hlt
      clear hcv hzero
      go_wp2
      go_round
      case rel => exact ⟨j + 1, by omega, by omega, by go_num⟩
      case measure => simp [intOf]; omega
    · clear hzero
      go_wp2
      go_ret
      refine ⟨rfl, ?_⟩
      exact (c4.setCell (by show w.heap.size ≤ w2.heap.size; omega) _).setCell (by show w.heap.size ≤ w3.heap.size; omega) _

theorem walk (a0 : ByteArray) (a1 : Int) (z0 : a0.size ≤ 140737488351232) (w1 : (Lit.int .u64 a1).wf = true) (w : World) :
    Calls Try.prog 3 #[.string a0, .int .u64 a1] w fun e w' => e = .returned (.bool true) ∧ Below w.heap.size w w' := by
  have b1 := bounds_u64 w1
  obtain ⟨n, rfl⟩ := Int.eq_ofNat_of_zero_le b1.1
  have e : 256 ^ 8 = 18446744073709551616 := by decide
  exact walk_one a0 n w z0 (by omega)
end Go.Proofs.Ytbmodhclhifckab.packKeeps
