/-
  Parts of a block: an array or a struct loaded out of the middle of a row, and stored into it. Of no program.
-/
import Derived.Test.YtmlbghloddiflaaRowMem
import Derived.Laws.CopyRow
import Derived.Deep.MidRow
namespace Go.Proofs.Ytmlbghloddiflaa
open Go.RowKit
set_option linter.unusedVariables false

/-- These cells lie in a row from a place on. -/
def Lies (cs : Array Value) (o : Nat) (vs : List Value) : Prop := ∀ j, j < vs.length → cs[o + j]? = vs[j]?
/-- A row with these cells laid into it from a place on. -/
def partA (cs : Array Value) (o : Nat) (vs : List Value) : Array Value := (cs.toList.take o ++ vs ++ cs.toList.drop (o + vs.length)).toArray
theorem partA_size (cs : Array Value) (o : Nat) (vs : List Value) (h : o + vs.length ≤ cs.size) : (partA cs o vs).size = cs.size := by
  unfold partA
  rw [List.size_toArray, List.length_append, List.length_append, List.length_take, List.length_drop, Array.length_toList]
  omega
theorem partA_in (cs : Array Value) (o : Nat) (vs : List Value) (h : o + vs.length ≤ cs.size) (j : Nat) (hj : j < vs.length) : (partA cs o vs)[o + j]? = vs[j]? := by
  unfold partA
  have hl : (cs.toList.take o).length = o := by rw [List.length_take, Array.length_toList]; omega
  rw [List.getElem?_toArray, List.append_assoc, List.getElem?_append_right (by omega), hl, Nat.add_sub_cancel_left, List.getElem?_append_left hj]
theorem partA_out (cs : Array Value) (o : Nat) (vs : List Value) (h : o + vs.length ≤ cs.size) (k : Nat) (hk : k < o ∨ o + vs.length ≤ k) : (partA cs o vs)[k]? = cs[k]? := by
  unfold partA
  have hl : (cs.toList.take o).length = o := by rw [List.length_take, Array.length_toList]; omega
  rw [List.getElem?_toArray, List.append_assoc]
  rcases hk with hk | hk
  · rw [List.getElem?_append_left (by omega), List.getElem?_take_of_lt hk, Array.getElem?_toList]
  · rw [List.getElem?_append_right (by omega), List.getElem?_append_right (by omega), hl, List.getElem?_drop, ← Array.getElem?_toList]
    congr 1
    omega
theorem Lies.same (cs : Array Value) (o : Nat) (vs : List Value) (h : o + vs.length ≤ cs.size) : Lies (partA cs o vs) o vs := fun j hj => partA_in cs o vs h j hj
theorem Lies.apart {cs : Array Value} {o' : Nat} {us : List Value} (h : Lies cs o' us) (o : Nat) (vs : List Value) (hf : o + vs.length ≤ cs.size) (ha : o' + us.length ≤ o ∨ o + vs.length ≤ o') : Lies (partA cs o vs) o' us := fun j hj => by
  rw [partA_out cs o vs hf (o' + j) (by omega)]
  exact h j hj
theorem Lies.set {cs : Array Value} {o : Nat} {us : List Value} (h : Lies cs o us) (k : Nat) (v : Value) (ha : k < o ∨ o + us.length ≤ k) : Lies (cs.setIfInBounds k v) o us := fun j hj => by
  rw [Array.getElem?_setIfInBounds_ne (by omega)]
  exact h j hj
theorem Lies.ext {cs : Array Value} {o : Nat} {vs : List Value} (h : Lies cs o vs) (n : Nat) (hn : vs.length = n) (hf : o + n ≤ cs.size) : cs.extract o (o + n) = vs.toArray := by
  subst hn
  apply Array.ext'
  apply List.ext_getElem?
  intro j
  by_cases hj : j < vs.length
  · have h1 := h j hj
    rw [Array.getElem?_toList, Array.getElem?_extract, if_pos (by omega), h1]
  · rw [List.getElem?_eq_none (by rw [Array.length_toList, Array.size_extract]; omega), List.getElem?_eq_none (by simpa using hj)]
theorem Lies.left {cs : Array Value} {o : Nat} {us vs : List Value} (h : Lies cs o (us ++ vs)) : Lies cs o us := fun j hj => by
  rw [h j (by rw [List.length_append]; omega), List.getElem?_append_left hj]
theorem Lies.cell {cs : Array Value} {o : Nat} {vs : List Value} (h : Lies cs o vs) (j : Nat) (v : Value) (hv : vs[j]? = some v) : cs[o + j]? = some v := by
  rw [h j (List.getElem?_eq_some_iff.1 hv).1, hv]

section
variable {P : Program} {ops : Array Oper} {rest : List Oper} {o : Oper} {a : Act} {w : World} {Q : Exit → Act → World → Prop}

theorem load_part (w : World) (t ty : TypeId) (g off n : Nat) (cs : Array Value) (hg : RowAt w g t cs) (d : TypeDesc) (hu : P.underlying ty = some d) (hd : d.isRow = true) (hi : (P.info? ty).map (·.size) = some n) (hf : off + n ≤ cs.size) :
    (Instr.loadAt ty (.pointer (some ⟨g, off, none⟩))).run P w = .ok (.agg (cs.extract off (off + n))) w := by
  have h1 := run_loadAt_mid (P := P) w g off ty (cs.extract off (off + n)).toList d (World.rangeAt_of_block hg off n) hu hd (by rw [Array.length_toList, Array.size_extract, hi]; congr 1; omega)
  rwa [Array.toArray_toList] at h1

theorem wpList_load_part (hw : Region.wanted o (yielded ops a.tmps) = true) (ty : TypeId) (x : Operand) (ho : o.op = .load ty x) (g off n : Nat) (hx : a.eval x = .pointer (some ⟨g, off, none⟩)) (t : TypeId) (cs : Array Value) (hg : RowAt w g t cs) (d : TypeDesc)
    (hu : P.underlying ty = some d) (hd : d.isRow = true) (hi : (P.info? ty).map (·.size) = some n) (hf : off + n ≤ cs.size) (v : Array Value) (hv : cs.extract off (off + n) = v) (h : wpList P ops Q rest (a.put o.dst (.agg v)) w) : wpList P ops Q (o :: rest) a w :=
  wpList_step fun K hK => by
    simp only [hw, if_true]
    unfold Oper.wp execOp
    simp only [ho, hx, Sem.run_bind, load_part w t ty g off n cs hg d hu hd hi hf, Result.andThen_ok, Sem.run_pure]
    rw [hv]
    exact hK _ _ h

/-- A load that may be taken first, by what it answers. -/
theorem yieldsIf_load_run {S : World → Prop} (hw : Region.wanted o (yielded ops a.tmps) = true) (ty : TypeId) (x : Operand) (ho : o.op = .load ty x) (u : Value) (hu : a.eval x = u) (v : Value) (hv : ∀ y, S y → (Instr.loadAt ty u).run P y = .ok v y) : YieldsIf P ops S o v a :=
  .inl ⟨hw, fun y hy => by
    unfold execOp
    simp only [ho, hu, Sem.run_bind, hv y hy, Result.andThen_ok, Sem.run_pure]⟩
/-- A call as one step of a region that draws its order. -/
theorem step_call10 {K : Act → World → Prop} {E : Prop} (hg : o.guard = none) (f : FuncId) (args : Array Value) (he : (execOp a.eval o).run P w = .ok (.enter f args) w)
    (hc : Calls P f args w fun e w' => ∃ v, e = .returned v ∧ K (a.put o.dst v) w') : if Region.wanted o (yielded ops a.tmps) = true then Oper.wp P o a w K Q else E := by
  have hw : Region.wanted o (yielded ops a.tmps) = true := by simp [Region.wanted, hg]
  rw [if_pos hw]
  unfold Oper.wp
  rw [he, Oper.upon_enter]
  refine hc.mono ?_
  rintro e w' ⟨v, rfl, h⟩
  exact h

theorem store_part (w : World) (t ty : TypeId) (g off : Nat) (c0 cs : Array Value) (hg : RowAt w g t c0) (hi : (P.info? ty).map (·.size) = some cs.size) (hf : off + cs.size ≤ c0.size) (h1 : cs.all (·.oneCell') = true) :
    (Instr.storeAt ty (.pointer (some ⟨g, off, none⟩)) (.agg cs)).run P w = .ok () (w.setRow g (partA c0 off cs.toList)) := by
  have hs := run_storeCells_at P g off t cs.toList 0 c0 w hg (by rw [Array.length_toList]; omega) (fun v hv => (Array.all_eq_true_iff_forall_mem.1 h1) v (by simpa using hv))
  have hsv : (storeVar ty ⟨g, off, none⟩ (.agg cs)).run P w = .ok () (w.setRow g (partA c0 off cs.toList)) := by
    cases hq : P.info? ty with
    | none => simp [hq] at hi
    | some i =>
      have hz : cs.size = i.size := by simp [hq] at hi; omega
      simp only [Nat.add_zero] at hs
      simp [storeVar, sizeOf, typeInfo, hq, Value.cells, hz, hs, partA]
  simp only [Instr.storeAt, Instr.sureAddr, Sem.run_bind, Sem.run_pure, Result.andThen_ok, hsv]

/-- Only one block was turned. -/
structure Only (g : Nat) (w w' : World) : Prop where
  os : w'.os = w.os
  tape : w'.tape = w.tape
  output : w'.output = w.output
  size : w.heap.size = w'.heap.size
  block : ∀ k, k ≠ g → w'.heap[k]? = w.heap[k]?
theorem only_setRow (w : World) (g : Nat) (cs : Array Value) : Only g w (w.setRow g cs) := ⟨rfl, rfl, rfl, by simp [World.setRow], fun k hk => setRow_other w g k _ hk⟩
theorem Only.below {g B : Nat} {w0 w w' : World} (p : Only g w w') (h : Below B w0 w) (hB : B ≤ g) : Below B w0 w' :=
  ⟨p.os.trans h.1, p.tape.trans h.2, p.output.trans h.3, Nat.le_trans h.4 (Nat.le_of_eq p.size), fun k hk => (p.block k (by omega)).trans (h.5 k hk)⟩
theorem Only.row {g k : Nat} {w w' : World} {t : TypeId} {cs : Array Value} (p : Only g w w') (h : RowAt w k t cs) (hk : k ≠ g) : RowAt w' k t cs := (p.block k hk).trans h

theorem wpList_store_part (hgd : o.guard = none) (ty : TypeId) (x y : Operand) (ho : o.op = .store ty x y) (g off : Nat) (t : TypeId) (c0 cs : Array Value) (hx : a.eval x = .pointer (some ⟨g, off, none⟩)) (hy : a.eval y = .agg cs) (hg : RowAt w g t c0)
    (hi : (P.info? ty).map (·.size) = some cs.size) (hf : off + cs.size ≤ c0.size) (h1 : cs.all (·.oneCell') = true)
    (h : ∀ w2, RowAt w2 g t (partA c0 off cs.toList) → Only g w w2 → wpList P ops Q rest (a.put o.dst undef) w2) : wpList P ops Q (o :: rest) a w :=
  wpList_plain hgd fun K hK => by
    unfold Oper.wp execOp
    simp only [ho, hx, hy, Sem.run_bind, store_part w t ty g off c0 cs hg hi hf h1, Result.andThen_ok, Sem.run_pure]
    exact hK _ _ (h _ (setRow_heap w g c0 _ t (0, 0) hg) (only_setRow w g _))

variable {K : Act → World → Prop} {E : Prop}
/-- .. as one step of a region that draws its order. -/
theorem step_store_part (hgd : o.guard = none) (ty : TypeId) (x y : Operand) (ho : o.op = .store ty x y) (g off : Nat) (t : TypeId) (c0 cs : Array Value) (hx : a.eval x = .pointer (some ⟨g, off, none⟩)) (hy : a.eval y = .agg cs) (hg : RowAt w g t c0)
    (hi : (P.info? ty).map (·.size) = some cs.size) (hf : off + cs.size ≤ c0.size) (h1 : cs.all (·.oneCell') = true)
    (h : ∀ w2, RowAt w2 g t (partA c0 off cs.toList) → Only g w w2 → K (a.put o.dst undef) w2) : if Region.wanted o (yielded ops a.tmps) = true then Oper.wp P o a w K Q else E := by
  have hw : Region.wanted o (yielded ops a.tmps) = true := by simp [Region.wanted, hgd]
  rw [if_pos hw]
  unfold Oper.wp execOp
  simp only [ho, hx, hy, Sem.run_bind, store_part w t ty g off c0 cs hg hi hf h1, Result.andThen_ok, Sem.run_pure]
  exact h _ (setRow_heap w g c0 _ t (0, 0) hg) (only_setRow w g _)
theorem step_load_part (hw : Region.wanted o (yielded ops a.tmps) = true) (ty : TypeId) (x : Operand) (ho : o.op = .load ty x) (g off n : Nat) (hx : a.eval x = .pointer (some ⟨g, off, none⟩)) (t : TypeId) (cs : Array Value) (hg : RowAt w g t cs) (d : TypeDesc)
    (hu : P.underlying ty = some d) (hd : d.isRow = true) (hi : (P.info? ty).map (·.size) = some n) (hf : off + n ≤ cs.size) (v : Array Value) (hv : cs.extract off (off + n) = v) (h : K (a.put o.dst (.agg v)) w) : if Region.wanted o (yielded ops a.tmps) = true then Oper.wp P o a w K Q else E := by
  rw [if_pos hw]
  unfold Oper.wp execOp
  simp only [ho, hx, Sem.run_bind, load_part w t ty g off n cs hg d hu hd hi hf, Result.andThen_ok, Sem.run_pure]
  rw [hv]
  exact h
end
end Go.Proofs.Ytmlbghloddiflaa
