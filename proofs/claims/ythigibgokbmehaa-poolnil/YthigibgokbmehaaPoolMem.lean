/-
  A pool in memory: its block, and the row of its frames.
-/
import Derived.Test.YthigibgokbmehaaPoolMath
import Derived.Test.YthigibgokbmehaaRowPart
import Derived.Test.YthigibgokbmehaaFoot
namespace Go.Proofs.Ythigibgokbmehaa
open Go.RowKit
set_option linter.unusedVariables false

/-- A frame as the code has it, and as the document has it. -/
def frL (f : Fr) : List Value := [.bool f.u, .int .i64 f.id, f.x, .bool f.m, .int .i64 (f.f : Int), .int .u64 f.r]
def dfL (f : Fr) : List Value := [.int .i64 (if f.u = true then f.id else -1), f.x, .bool f.m, .int .i64 (f.f : Int), .bool (decide (f.r ≠ 0)), .int .u64 f.r]
/-- The row of the frames. -/
structure FB (L : Fr → List Value) (cs : Array Value) (p : Po) : Prop where
  six : ∀ f, (L f).length = 6
  size : 6 * p.n ≤ cs.size
  lie : ∀ i, i < p.n → Lies cs (i * 6) (L (p.fr i))
theorem frL_len (f : Fr) : (frL f).length = 6 := rfl
theorem frL_one (f : Fr) (hx : f.x.oneCell' = true) : (frL f).toArray.all (·.oneCell') = true := by
  obtain ⟨a, b, x, c, d, e⟩ := f
  have hx' : x.oneCell' = true := hx
  simp only [frL, List.all_toArray, List.all_cons, List.all_nil, hx', Bool.and_true, Bool.true_and]
  rfl
theorem dfL_one (f : Fr) (hx : f.x.oneCell' = true) : (dfL f).toArray.all (·.oneCell') = true := by
  obtain ⟨a, b, x, c, d, e⟩ := f
  have hx' : x.oneCell' = true := hx
  simp only [dfL, List.all_toArray, List.all_cons, List.all_nil, hx', Bool.and_true, Bool.true_and]
  rfl
theorem dfL_len (f : Fr) : (dfL f).length = 6 := rfl
section
variable {L : Fr → List Value} {cs ds : Array Value} {p : Po}
theorem FB.cell (h : FB L cs p) {i : Nat} (hi : i < p.n) (j : Nat) (v : Value) (hv : (L (p.fr i))[j]? = some v) : cs[i * 6 + j]? = some v := (h.lie i hi).cell j v hv
/-- A frame turned. -/
theorem FB.put (h : FB L cs p) {i : Nat} (hi : i < p.n) (f : Fr) (hs : ds.size = cs.size) (hl : Lies ds (i * 6) (L f)) (ho : ∀ k, k < i * 6 ∨ i * 6 + 6 ≤ k → ds[k]? = cs[k]?) : FB L ds (p.set i f) := by
  refine ⟨h.six, by rw [hs]; exact h.size, fun k hk => ?_⟩
  have hk' : k < p.n := hk
  by_cases e : k = i
  · rw [e, Po.set_same]
    exact hl
  · rw [Po.set_ne _ _ _ _ e]
    intro j hj
    rw [h.six] at hj
    rw [ho (k * 6 + j) (by omega)]
    exact h.lie k hk' j (by rw [h.six]; exact hj)
/-- One cell of a frame turned. -/
theorem FB.one (h : FB L cs p) {i : Nat} (hi : i < p.n) (j : Nat) (v : Value) (f : Fr) (hj : j < 6) (hf : L f = (L (p.fr i)).set j v) : FB L (cs.setIfInBounds (i * 6 + j) v) (p.set i f) := by
  refine h.put hi f Array.size_setIfInBounds ?_ ?_
  · intro k hk
    rw [h.six] at hk
    have hs := h.size
    have h6 := h.six (p.fr i)
    rw [hf, List.getElem?_set]
    by_cases e : j = k
    · subst e
      rw [if_pos rfl, if_pos (by rw [h6]; exact hj), Array.getElem?_setIfInBounds_self_of_lt (by omega)]
    · rw [if_neg e, Array.getElem?_setIfInBounds_ne (by omega)]
      exact h.lie i hi k (by rw [h6]; exact hk)
  · intro k hk
    exact Array.getElem?_setIfInBounds_ne (by omega)
/-- Two cells of a frame turned. -/
theorem FB.two {q : Po} (h : FB L cs q) {i : Nat} (hi : i < q.n) (j k : Nat) (u v : Value) (f : Fr) (hj : j < 6) (hk : k < 6) (hf : L f = ((L (q.fr i)).set j u).set k v) : FB L ((cs.setIfInBounds (i * 6 + j) u).setIfInBounds (i * 6 + k) v) (q.set i f) := by
  refine h.put hi f (by rw [Array.size_setIfInBounds, Array.size_setIfInBounds]) ?_ ?_
  · intro m hm
    rw [h.six] at hm
    have hs := h.size
    have h6 := h.six (q.fr i)
    rw [hf, List.getElem?_set]
    by_cases e : k = m
    · subst e
      rw [if_pos rfl, if_pos (by rw [List.length_set, h6]; exact hk), Array.getElem?_setIfInBounds_self_of_lt (by rw [Array.size_setIfInBounds]; omega)]
    · rw [if_neg e, Array.getElem?_setIfInBounds_ne (by omega), List.getElem?_set]
      by_cases e2 : j = m
      · subst e2
        rw [if_pos rfl, if_pos (by rw [h6]; exact hj), Array.getElem?_setIfInBounds_self_of_lt (by omega)]
      · rw [if_neg e2, Array.getElem?_setIfInBounds_ne (by omega)]
        exact h.lie i hi m (by rw [h6]; exact hm)
  · intro m hm
    rw [Array.getElem?_setIfInBounds_ne (by omega), Array.getElem?_setIfInBounds_ne (by omega)]
theorem FB.hand (h : FB L cs p) (k : Nat) : FB L cs { p with h := k } := ⟨h.six, h.size, h.lie⟩
end

/-- A pool: its block g, the row gr of its frames. -/
def PAt (L : Fr → List Value) (tp tf : TypeId) (w : World) (g gr : Nat) (p : Po) : Prop :=
  ∃ cap cs, RowAt w g tp #[.slice (some ⟨gr, 0, none⟩) p.n cap, .int .i64 (p.h : Int)] ∧ RowAt w gr tf cs ∧ FB L cs p ∧ p.n ≤ cap ∧ cap ≤ maxLen ∧ tp ≠ tf
def FP (g gr k : Nat) : Prop := k = g ∨ k = gr
section
variable {L : Fr → List Value} {tp tf : TypeId} {w x : World} {g gr : Nat} {p : Po}
theorem PAt.keep (h : PAt L tp tf w g gr p) (h1 : x.heap[g]? = w.heap[g]?) (h2 : x.heap[gr]? = w.heap[gr]?) : PAt L tp tf x g gr p := by
  obtain ⟨cap, cs, a, b, c⟩ := h
  exact ⟨cap, cs, h1.trans a, h2.trans b, c⟩
theorem PAt.lt (h : PAt L tp tf w g gr p) : g < w.heap.size ∧ gr < w.heap.size := by
  obtain ⟨cap, cs, a, b, c⟩ := h
  exact ⟨a.lt, b.lt⟩
theorem PAt.later (h : PAt L tp tf w g gr p) (q : Below w.heap.size w x) : PAt L tp tf x g gr p := h.keep (q.block _ h.lt.1) (q.block _ h.lt.2)
theorem PAt.apart (h : PAt L tp tf w g gr p) : g ≠ gr := by
  obtain ⟨cap, cs, a, b, c⟩ := h
  intro e
  subst e
  exact c.2.2.2 (row_kind a b)
/-- What other blocks' turning leaves. -/
theorem PAt.turn {F : Nat → Prop} (h : PAt L tp tf w g gr p) (q : Tn F w x) (h1 : ¬ F g) (h2 : ¬ F gr) : PAt L tp tf x g gr p := h.keep (q.block _ h.lt.1 h1) (q.block _ h.lt.2 h2)
/-- One cell of a frame stored. -/
theorem PAt.one (h : PAt L tp tf w g gr p) {i : Nat} (hi : i < p.n) (j : Nat) (v : Value) (f : Fr) (hj : j < 6) (hf : L f = (L (p.fr i)).set j v) : PAt L tp tf (w.setCell ⟨gr, i * 6 + j, none⟩ v) g gr (p.set i f) := by
  have hne := h.apart
  obtain ⟨cap, cs, a, b, c, d⟩ := h
  exact ⟨cap, _, a.other _ _ hne, b.set _ _, c.one hi j v f hj hf, d⟩
theorem PAt.hand (h : PAt L tp tf w g gr p) (k : Nat) : PAt L tp tf (w.setCell ⟨g, 1, none⟩ (.int .i64 (k : Int))) g gr { p with h := k } := by
  have hne := h.apart
  obtain ⟨cap, cs, a, b, c, d⟩ := h
  refine ⟨cap, _, ?_, b.other _ _ (fun e => hne e.symm), c.hand k, d⟩
  have := a.set 1 (.int .i64 (k : Int))
  simpa using this
theorem PAt.same (h : PAt L tp tf w g gr p) {i : Nat} {f : Fr} (hf : p.fr i = f) : PAt L tp tf w g gr (p.set i f) := by
  have : p.set i f = p := by
    unfold Po.set
    obtain ⟨a, b, c, d⟩ := p
    congr 1
    funext k
    by_cases e : k = i
    · rw [if_pos e, e]; exact hf.symm
    · rw [if_neg e]
  rw [this]
  exact h
theorem PAt.c0 (h : PAt L tp tf w g gr p) : ∃ cap, w.cell? ⟨g, 0, none⟩ = some (.slice (some ⟨gr, 0, none⟩) p.n cap) ∧ w.cell? ⟨g, 1, none⟩ = some (.int .i64 (p.h : Int)) ∧ p.n ≤ cap ∧ cap ≤ maxLen := by
  obtain ⟨cap, cs, a, b, c, d⟩ := h
  exact ⟨cap, a.cell 0 _ rfl, a.cell 1 _ rfl, d.1, d.2.1⟩
theorem PAt.cell (h : PAt L tp tf w g gr p) {i : Nat} (hi : i < p.n) (j : Nat) (v : Value) (hv : (L (p.fr i))[j]? = some v) : w.cell? ⟨gr, i * 6 + j, none⟩ = some v := by
  obtain ⟨cap, cs, a, b, c, d⟩ := h
  exact b.cell _ v (c.cell hi j v hv)
theorem PAt.free (h : PAt L tp tf w g gr p) (j : Nat) : w.frozen? ⟨gr, j, none⟩ = false ∧ w.frozen? ⟨g, j, none⟩ = false := by
  obtain ⟨cap, cs, a, b, c, d⟩ := h
  exact ⟨b.free j, a.free j⟩
end
theorem PAt.six {tp tf : TypeId} {w : World} {g gr : Nat} {p : Po} (h : PAt frL tp tf w g gr p) {i : Nat} (hi : i < p.n) :
    w.cell? ⟨gr, i * 6, none⟩ = some (.bool (p.fr i).u) ∧ w.cell? ⟨gr, i * 6 + 1, none⟩ = some (.int .i64 (p.fr i).id) ∧ w.cell? ⟨gr, i * 6 + 2, none⟩ = some (p.fr i).x ∧ w.cell? ⟨gr, i * 6 + 3, none⟩ = some (.bool (p.fr i).m) ∧ w.cell? ⟨gr, i * 6 + 4, none⟩ = some (.int .i64 ((p.fr i).f : Int)) ∧ w.cell? ⟨gr, i * 6 + 5, none⟩ = some (.int .u64 (p.fr i).r) :=
  ⟨h.cell hi 0 _ rfl, h.cell hi 1 _ rfl, h.cell hi 2 _ rfl, h.cell hi 3 _ rfl, h.cell hi 4 _ rfl, h.cell hi 5 _ rfl⟩
theorem PAt.drewN {L : Fr → List Value} {tp tf : TypeId} {w : World} {g gr : Nat} {p : Po} (h : PAt L tp tf w g gr p) (n : Nat) : PAt L tp tf (w.drewN n) g gr p := h.keep rfl rfl
theorem Tn.drewN {F : Nat → Prop} {w x : World} (p : Tn F w x) (n : Nat) : Tn F w (x.drewN n) := ⟨p.os, p.tape, p.output, p.size, p.block⟩
theorem Tn.of_only {F : Nat → Prop} {w x : World} {g : Nat} (q : Only g w x) (h : F g) : Tn F w x := ⟨q.os, q.tape, q.output, Nat.le_of_eq q.size, fun k hk hn => q.block k (fun e => hn (by rw [e]; exact h))⟩
/-- What a call of a pool's may turn. -/
theorem PAt.tn {L : Fr → List Value} {tp tf : TypeId} {w : World} {g gr : Nat} {p : Po} (h : PAt L tp tf w g gr p) (j : Nat) (v : Value) : Tn (FP g gr) w (w.setCell ⟨gr, j, none⟩ v) := (Tn.refl _ w).set gr j v (.inr rfl)
theorem Po.set_set (p : Po) (i : Nat) (f f' : Fr) : (p.set i f).set i f' = p.set i f' := by
  unfold Po.set
  congr 1
  funext k
  by_cases e : k = i
  · simp [e]
  · simp [e]
/-- A frame stored whole. -/
theorem FB.part {L : Fr → List Value} {cs : Array Value} {p : Po} (h : FB L cs p) {i : Nat} (hi : i < p.n) (f : Fr) : FB L (partA cs (i * 6) (L f)) (p.set i f) := by
  have h6 := h.six f
  have hs := h.size
  have hf : i * 6 + (L f).length ≤ cs.size := by omega
  exact h.put hi f (partA_size _ _ _ hf) (Lies.same _ _ _ hf) (fun k hk => partA_out _ _ _ hf k (by omega))
end Go.Proofs.Ythigibgokbmehaa
