/-
  Bytes and texts put behind the bytes of a conversion, or of a row of the call's own: by cells. Of no program.
-/
import Derived.Test.YtkdlmblkckmhaaaPackMath
import Derived.Test.YtkdlmblkckmhaaaAppendB
import Derived.Lib.ConvBytes
import Derived.Lib.AppendStr
import Derived.ArgAppend
namespace Go.Proofs.Ytkdlmblkckmhaaa
open Go.RowKit
set_option linter.unusedVariables false

theorem wpList_append_run {P : Program} {ops : Array Oper} {rest : List Oper} {o : Oper} {a : Act} {w w' : World} {Q : Exit → Act → World → Prop} (hgd : o.guard = none) (s x : Operand) (t u : TypeId) (hop : o.op = Op.call { callee := Callee.builtin Builtin.append, args := #[s, x], argTypes := #[t, u] })
    (vs vx v' : Value) (hs : a.eval s = vs) (hx : a.eval x = vx) (hrun : (Builtin.append_ #[t, u] o.type #[vs, vx]).run P w = .ok v' w') (h : wpList P ops Q rest (a.put o.dst v') w') : wpList P ops Q (o :: rest) a w := by
  refine wpList_plain hgd fun K hK => ?_
  unfold Oper.wp
  simp [execOp, hop, resolve, invoke, builtin, hs, hx, hrun, Result.andThen]
  exact hK _ _ h

/-- Bytes in a block, with room behind them that may be written. -/
structure BufC (w : World) (base g n cap : Nat) (bs : List UInt8) : Prop where
  low : base ≤ g
  lt : g < w.heap.size
  room : n ≤ cap
  len : bs.length = n
  cell : ∀ j, j < n → w.cell? ⟨g, j, none⟩ = some (.int .u8 ((bs.getD j 0).toNat : Int))
  free : ∀ j, j < cap → (w.cell? ⟨g, j, none⟩).isSome = true ∧ w.frozen? ⟨g, j, none⟩ = false
theorem BufC.isB {w : World} {base g n cap : Nat} {bs : List UInt8} (h : BufC w base g n cap bs) : IsB w (some ⟨g, 0, none⟩) n bs :=
  ⟨h.len, fun _ => ⟨g, 0, rfl, h.lt, fun j hj => by rw [Nat.zero_add]; exact h.cell j hj⟩⟩
theorem BufC.below {w x : World} {base g n cap : Nat} {bs : List UInt8} (h : BufC w base g n cap bs) (hb : Below w.heap.size w x) : BufC x base g n cap bs := by
  have hc : ∀ j, x.cell? ⟨g, j, none⟩ = w.cell? ⟨g, j, none⟩ := fun j => hb.cell (p := ⟨g, j, none⟩) h.lt
  have hf : ∀ j, x.frozen? ⟨g, j, none⟩ = w.frozen? ⟨g, j, none⟩ := fun j => World.frozen?_of_block (a := ⟨g, j, none⟩) (hb.block g h.lt)
  exact ⟨h.low, Nat.lt_of_lt_of_le h.lt hb.size, h.room, h.len, fun j hj => (hc j).trans (h.cell j hj), fun j hj => by rw [hc, hf]; exact h.free j hj⟩
theorem bufC_conv (w : World) (e : TypeId) (s : ByteArray) : BufC (Lib.bytesWorld w e s) w.heap.size w.heap.size s.size (grownCap w s.size 0 e) s.data.toList := by
  have hge := grownCap_ge w s.size 0 e
  have hsz : (Lib.bytesCells w e s).size = grownCap w s.size 0 e := by
    have h1 : s.data.size = s.size := rfl
    simp only [Lib.bytesCells, Array.size_append, Array.size_map, Array.size_replicate, h1]
    omega
  have hat := Lib.bytesWorld_at_new w e s
  rw [hsz] at hat
  refine ⟨Nat.le_refl _, by rw [Lib.bytesWorld_size]; omega, hge, data_length s, fun j hj => Lib.bytesWorld_cell w e s j hj, fun j hj => ⟨?_, ?_⟩⟩
  · rw [cell_of_row _ _ _ _ _ _ hat, Array.getElem?_eq_getElem (by rw [hsz]; exact hj)]
    rfl
  · simp only [World.frozen?, hat, Bool.and_eq_false_iff, decide_eq_false_iff_not]
    left
    omega
theorem bufC_own {w : World} {base n : Nat} {e : TypeId} {v : Value} {bs : List UInt8} (h : w.ownsRow base e 1 v n (toV bs)) (hn : 0 < n) : ∃ g cap, v = .slice (some ⟨g, 0, none⟩) n cap ∧ BufC w base g n cap bs := by
  have hl : bs.length = n := by
    have := h.1
    rw [toV_length] at this
    omega
  rcases h.2 with ⟨_, h0⟩ | ⟨g, cap, cur, rfl, hb, hg, hnc, _, hcs, _⟩
  · omega
  · refine ⟨g, cap, rfl, hb, (h.lt g rfl).2, hnc, hl, fun j hj => (h.cellAt j (by omega)).trans (toV_get bs j (by omega)), fun j hj => ⟨?_, h.frozenAt j⟩⟩
    rw [cell_of_row _ _ _ _ _ _ hg, Array.getElem?_eq_getElem (by omega)]
    rfl
theorem below_setCells {B b : Nat} : ∀ (vs : List Value) (o : Nat) (w : World), B ≤ b → Below B w (w.setCells b o vs)
  | [], _, w, _ => Below.refl _ _
  | v :: vs, o, w, h => ((Below.refl B w).setCell (p := ⟨b, o, none⟩) h v).trans (below_setCells vs (o + 1) _ h)
theorem BufC.put {w : World} {base g n cap : Nat} {bs ys : List UInt8} (h : BufC w base g n cap bs) (hr : n + ys.length ≤ cap) : BufC (w.setCells g n (toV ys)) base g (n + ys.length) cap (bs ++ ys) := by
  have hb := below_setCells (B := 0) (b := g) (toV ys) n w (Nat.zero_le _)
  have hin := World.cell?_setCells_in g (toV ys) n w (fun j hj => (h.free (n + j) (by rw [toV_length] at hj; omega)).1)
  refine ⟨h.low, Nat.lt_of_lt_of_le h.lt hb.size, hr, by rw [List.length_append, h.len], fun j hj => ?_, fun j hj => ⟨?_, by rw [World.frozen?_setCells]; exact (h.free j hj).2⟩⟩
  · by_cases hjn : j < n
    · rw [World.cell?_setCells_out g (toV ys) n w _ (fun _ _ => .inl hjn), h.cell j hjn]
      rw [List.getD_eq_getElem?_getD, List.getD_eq_getElem?_getD, List.getElem?_append_left (by rw [h.len]; exact hjn)]
    · obtain ⟨k, rfl⟩ : ∃ k, j = n + k := ⟨j - n, by omega⟩
      have hk : k < ys.length := by omega
      rw [hin k (by rw [toV_length]; exact hk)]
      have e : (bs ++ ys).getD (n + k) 0 = ys.getD k 0 := by
        rw [List.getD_eq_getElem?_getD, List.getD_eq_getElem?_getD, List.getElem?_append_right (by rw [h.len]; omega), h.len]
        congr 2
        omega
      rw [e]
      have h2 := toV_get ys k hk
      rw [List.getElem?_eq_getElem (by rw [toV_length]; exact hk)] at h2
      exact h2
  · by_cases hjn : n ≤ j ∧ j < n + ys.length
    · obtain ⟨k, rfl⟩ : ∃ k, j = n + k := ⟨j - n, by omega⟩
      rw [hin k (by rw [toV_length]; omega)]
      rfl
    · rw [World.cell?_setCells_out g (toV ys) n w _ (fun _ _ => by rw [toV_length]; show j < n ∨ n + ys.length ≤ j; omega)]
      exact (h.free j hj).1

section
variable {P : Program} (w : World) (t e : TypeId) (ht : P.underlying t = some (.slice e)) (hi : (P.info? e).map (fun i => (i.zero, i.size, i.bytes)) = some (some (.int .u8 0), 1, 1))
include ht hi
theorem run_append_c (ty : TypeId) {base g n cap : Nat} {bs : List UInt8} (h : BufC w base g n cap bs) (b2 off2 m c : Nat) (ys : List UInt8) (hY : IsB w (some ⟨b2, off2, none⟩) m ys) (hm : 0 < n + m) (hz : n + m ≤ 140737488355328) (hb : base ≤ w.heap.size) :
    ∃ g' cap' w', (Builtin.append_ #[t, t] ty #[.slice (some ⟨g, 0, none⟩) n cap, .slice (some ⟨b2, off2, none⟩) m c]).run P w = .ok (.slice (some ⟨g', 0, none⟩) (n + m) cap') w' ∧ BufC w' base g' (n + m) cap' (bs ++ ys) ∧ Below base w w' := by
  obtain ⟨i, hi0, hi1⟩ := Option.map_eq_some_iff.1 hi
  simp only [Prod.mk.injEq] at hi1
  have hyl := hY.1
  by_cases hr : n + m ≤ cap
  · have hrun := run_append_room_cells (P := P) w t ty e i ht hi0 g 0 n cap ⟨b2, off2, none⟩ m c (toV ys) (by rw [toV_length, hyl, hi1.2.1, Nat.mul_one]) (isB_cells hY) (toV_one ys) hr
      (fun j hj => by rw [toV_length] at hj; rw [hi1.2.1, Nat.mul_one, Nat.zero_add]; exact (h.free (n + j) (by omega)).1) (fun j hj => by rw [toV_length] at hj; rw [hi1.2.1, Nat.mul_one, Nat.zero_add]; exact (h.free (n + j) (by omega)).2)
    rw [hi1.2.1, Nat.mul_one, Nat.zero_add] at hrun
    have hp := h.put (ys := ys) (by omega)
    rw [hyl] at hp
    exact ⟨g, cap, _, hrun, hp, below_setCells _ _ _ h.low⟩
  · obtain ⟨v', w', hrun, r1, r2⟩ := run_append_arg_grows (P := P) w t ty e i (.int .u8 0) 1 1 ht hi0 hi1.1 hi1.2.1 hi1.2.2 rfl (by omega) ⟨g, 0, none⟩ n cap (toV bs) (by rw [toV_length, h.len, Nat.mul_one]) (isB_cells h.isB) ⟨b2, off2, none⟩ m c (toV ys) (by rw [toV_length, hyl, Nat.mul_one]) (isB_cells hY) (by omega) (by unfold maxLen; omega) (by omega)
    rw [← toV_append] at r1
    obtain ⟨g', cap', rfl, hB⟩ := bufC_own r1 hm
    exact ⟨g', cap', w', hrun, ⟨Nat.le_trans hb hB.low, hB.lt, hB.room, hB.len, hB.cell, hB.free⟩, ⟨r2.os, r2.tape, r2.output, r2.size, fun k hk => r2.block k (Nat.lt_of_lt_of_le hk hb) (by simp)⟩⟩
theorem run_append_cs (u ty : TypeId) (hu : P.underlying u = some .string) {base g n cap : Nat} {bs : List UInt8} (h : BufC w base g n cap bs) (s : ByteArray) (hm : 0 < n + s.size) (hz : n + s.size ≤ 140737488355328) (hb : base ≤ w.heap.size) :
    ∃ g' cap' w', (Builtin.append_ #[t, u] ty #[.slice (some ⟨g, 0, none⟩) n cap, .string s]).run P w = .ok (.slice (some ⟨g', 0, none⟩) (n + s.size) cap') w' ∧ BufC w' base g' (n + s.size) cap' (bs ++ s.data.toList) ∧ Below base w w' := by
  obtain ⟨i, hi0, hi1⟩ := Option.map_eq_some_iff.1 hi
  simp only [Prod.mk.injEq] at hi1
  have hsl := data_length s
  have hst0 : Lib.strCells s = toV s.data.toList := by
    have := toV_str [] s
    simpa [toV] using this
  by_cases hr : n + s.size ≤ cap
  · have hf := Lib.run_firstCells_string (P := P) w 1 s
    have hst := run_storeCells_cells (P := P) g n (Lib.strCells s) 0 w (fun j hj => by rw [Lib.strCells_length] at hj; exact (h.free (n + 0 + j) (by omega)).1) (fun j hj => by rw [Lib.strCells_length] at hj; exact (h.free (n + 0 + j) (by omega)).2) (Lib.strCells_oneCell s)
    simp only [Nat.add_zero] at hst
    have hrun : (Builtin.append_ #[t, u] ty #[.slice (some ⟨g, 0, none⟩) n cap, .string s]).run P w = .ok (.slice (some ⟨g, 0, none⟩) (n + s.size) cap) (w.setCells g n (Lib.strCells s)) := by
      simp [Builtin.append_, run_underlying ht, run_underlying hu, sizeOf, typeInfo, hi0, hi1.2.1, Builtin.lenOf, hr, hf, Addr.add_lit, hst]
    rw [hst0] at hrun
    have hp := h.put (ys := s.data.toList) (by omega)
    rw [hsl] at hp
    exact ⟨g, cap, _, hrun, hp, below_setCells _ _ _ h.low⟩
  · have hr2 := Lib.run_append_grow_string (P := P) w t u ty e i (.int .u8 0) ht hu hi0 hi1.1 ⟨g, 0, none⟩ n cap (toV bs) (by rw [toV_length, h.len, hi1.2.1, Nat.mul_one]) (isB_cells h.isB) s (by omega) (by omega) (by rw [hi1.2.2]; exact growslice_fits (by omega) (by omega))
    have hge := grownCap_ge w (n + s.size) cap e
    have hcm : grownCap w (n + s.size) cap e ≤ maxLen := grownCap_le_maxLen w (n + s.size) cap e (by unfold maxLen; omega)
    refine ⟨w.heap.size, _, _, hr2, ?_, ?_⟩
    · have hown : (w.drew.alloc (.cells ((toV bs).toArray ++ (Lib.strCells s).toArray ++ Builtin.zeroCells (Value.int .u8 0).cells (grownCap w (n + s.size) cap e - (n + s.size))) e)).ownsRow w.heap.size e 1 (.slice (some ⟨w.heap.size, 0, none⟩) (n + s.size) (grownCap w (n + s.size) cap e)) (n + s.size) (toV (bs ++ s.data.toList)) := by
        have hlen : (toV (bs ++ s.data.toList)).length = n + s.size := by rw [toV_length, List.length_append, h.len, hsl]
        refine ⟨by rw [hlen, Nat.mul_one], .inr ⟨w.heap.size, _, _, rfl, Nat.le_refl _, heap_alloc_new w.drew _, hge, hcm, ?_, ?_⟩⟩
        · have hz1 : (Value.int IntKind.u8 0).cells.size = 1 := rfl
          simp only [Array.size_append, List.size_toArray, size_zeroCells, hz1, toV_length, h.len, Lib.strCells_length]
          omega
        · simp only [Array.toList_append, List.append_assoc]
          rw [← List.append_assoc, hst0, ← toV_append, Nat.mul_one, ← hlen]
          exact List.take_left
      obtain ⟨g', cap', hv, hB⟩ := bufC_own hown hm
      injection hv with h1 h2 h3
      injection h1 with h4
      injection h4 with h5
      subst h5 h3
      exact ⟨Nat.le_trans hb hB.low, hB.lt, hB.room, hB.len, hB.cell, hB.free⟩
    · exact ⟨rfl, rfl, rfl, by simp, fun k hk => heap_alloc_old w.drew _ (show k < w.drew.heap.size from Nat.lt_of_lt_of_le hk hb)⟩
end
end Go.Proofs.Ytkdlmblkckmhaaa
