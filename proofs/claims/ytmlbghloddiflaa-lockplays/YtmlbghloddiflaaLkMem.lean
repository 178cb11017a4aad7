/-
  A list of locks in memory: its row, with room behind it.
-/
import Derived.Test.YtmlbghloddiflaaLockNext
import Derived.Test.YtmlbghloddiflaaRowPart
import Derived.Test.YtmlbghloddiflaaRegionHand
import Derived.Test.YtmlbghloddiflaaListHand
import Derived.Test.YtmlbghloddiflaaFoot
import Derived.Test.YtmlbghloddiflaaPackMath
import Derived.Test.YtmlbghloddiflaaProg
import Derived.ArgAppend
import Derived.Laws.IdiomCopy
namespace Go.Proofs.Ytmlbghloddiflaa
open Go.RowKit
set_option linter.unusedVariables false

def hdL (h : Hd) : List Value := [.int .i64 h.w, .int .i64 h.x, .int .i64 h.m]
def hdA (h : Hd) : Array Value := #[.int .i64 h.w, .int .i64 h.x, .int .i64 h.m]
def flatH (l : List Hd) : List Value := l.flatMap hdL
def hdZ : Hd := ⟨0, 0, 0⟩
theorem flatH_len : ∀ l : List Hd, (flatH l).length = l.length * 3
  | [] => rfl
  | h :: l => by
    have := flatH_len l
    unfold flatH at this ⊢
    rw [List.flatMap_cons, List.length_append, this, List.length_cons]
    show 3 + _ = _
    omega
theorem flatH_append (l m : List Hd) : flatH (l ++ m) = flatH l ++ flatH m := List.flatMap_append
theorem flatH_one (h : Hd) : flatH [h] = hdL h := by simp [flatH]
theorem flatH_get : ∀ (l : List Hd) (i j : Nat) (h : Hd), l[i]? = some h → j < 3 → (flatH l)[i * 3 + j]? = (hdL h)[j]?
  | [], i, j, h, e, _ => by simp at e
  | k :: l, 0, j, h, e, hj => by
    simp at e
    subst e
    have : flatH (k :: l) = hdL k ++ flatH l := by simp [flatH]
    rw [this, Nat.zero_mul, Nat.zero_add, List.getElem?_append_left hj]
  | k :: l, i + 1, j, h, e, hj => by
    simp at e
    have : flatH (k :: l) = hdL k ++ flatH l := by simp [flatH]
    rw [this, List.getElem?_append_right (by show 3 ≤ _; omega)]
    have h2 := flatH_get l i j h e hj
    have h3 : (i + 1) * 3 + j - (hdL k).length = i * 3 + j := by show (i + 1) * 3 + j - 3 = _; omega
    rw [h3]
    exact h2
theorem hdL_one (h : Hd) : ∀ u ∈ hdL h, u.oneCell' = true := by
  intro u hu
  simp only [hdL, List.mem_cons, List.not_mem_nil, or_false] at hu
  rcases hu with rfl | rfl | rfl <;> rfl
theorem flatH_ones (l : List Hd) : ∀ u ∈ flatH l, u.oneCell' = true := by
  intro u hu
  obtain ⟨h, _, hu⟩ := List.mem_flatMap.1 hu
  exact hdL_one h u hu
theorem flatH_take (l : List Hd) (i : Nat) : (flatH l).take (i * 3) = flatH (l.take i) := by
  by_cases hi : i ≤ l.length
  · conv => lhs; rw [← List.take_append_drop i l, flatH_append]
    rw [List.take_append_of_le_length (by rw [flatH_len, List.length_take]; omega), List.take_of_length_le (by rw [flatH_len, List.length_take]; omega)]
  · rw [List.take_of_length_le (by rw [flatH_len]; omega), List.take_of_length_le (by omega)]
theorem flatH_drop (l : List Hd) (i : Nat) : (flatH l).drop (i * 3) = flatH (l.drop i) := by
  by_cases hi : i ≤ l.length
  · conv => lhs; rw [← List.take_append_drop i l, flatH_append]
    have e : (flatH (l.take i)).length = i * 3 := by rw [flatH_len, List.length_take]; omega
    rw [← e, List.drop_left]
  · rw [List.drop_of_length_le (by rw [flatH_len]; omega), List.drop_of_length_le (by omega)]
    rfl
/-- Where a list lies: its block, its room. -/
structure Sl where
  b : Option Nat
  c : Nat
def adr (o : Option Nat) : Option Addr := o.map fun b => ⟨b, 0, none⟩
def slV (s : Sl) (n : Nat) : Value := .slice (adr s.b) n s.c
def Sl.nil : Sl := ⟨none, 0⟩
/-- A list of locks in a row of its own. -/
def HB (w : World) (s : Sl) (l : List Hd) : Prop :=
  (s.b = none ∧ l = [] ∧ s.c = 0) ∨ ∃ b cs, s.b = some b ∧ RowAt w b 46 cs ∧ cs.size = s.c * 3 ∧ l.length ≤ s.c ∧ 0 < s.c ∧ s.c ≤ maxLen ∧ ∀ j u, (flatH l)[j]? = some u → w.cell? ⟨b, j, none⟩ = some u
/-- Its block. -/
def ofS (s : Sl) (k : Nat) : Prop := s.b = some k
theorem HB.nil (w : World) : HB w Sl.nil [] := .inl ⟨rfl, rfl, rfl⟩
section
variable {w x : World} {s : Sl} {l : List Hd}
theorem HB.keep (h : HB w s l) (hb : ∀ b, s.b = some b → x.heap[b]? = w.heap[b]?) : HB x s l := by
  rcases h with h | ⟨b, cs, h1, h2, h3, h4, h5, h6, h7⟩
  · exact .inl h
  · have e := hb b h1
    exact .inr ⟨b, cs, h1, e.trans h2, h3, h4, h5, h6, fun j u hu => (World.cell?_of_block (a := ⟨b, j, none⟩) e).trans (h7 j u hu)⟩
theorem HB.lt (h : HB w s l) {b : Nat} (hb : s.b = some b) : b < w.heap.size := by
  rcases h with h | ⟨b', cs, h1, h2, _⟩
  · rw [h.1] at hb; cases hb
  · rw [h1] at hb
    injection hb with hb
    subst hb
    exact h2.lt
theorem HB.later (h : HB w s l) (p : Below w.heap.size w x) : HB x s l := h.keep (fun b hb => p.block b (h.lt hb))
theorem HB.turn {F : Nat → Prop} (h : HB w s l) (p : Tn F w x) (hn : ∀ b, s.b = some b → ¬ F b) : HB x s l := h.keep (fun b hb => p.block b (h.lt hb) (hn b hb))
theorem HB.cap (h : HB w s l) : l.length ≤ s.c ∧ s.c ≤ maxLen := by
  rcases h with ⟨_, rfl, h3⟩ | ⟨b, cs, h1, h2, h3, h4, h5, h6, h7⟩
  · rw [h3]; exact ⟨Nat.le_refl _, Nat.zero_le _⟩
  · exact ⟨h4, h6⟩
/-- One of it. -/
theorem HB.at (h : HB w s l) {i : Nat} {k : Hd} (hi : l[i]? = some k) : ∃ b, s.b = some b ∧ b < w.heap.size ∧ w.cell? ⟨b, i * 3, none⟩ = some (.int .i64 k.w) ∧ w.cell? ⟨b, i * 3 + 1, none⟩ = some (.int .i64 k.x) ∧ w.cell? ⟨b, i * 3 + 2, none⟩ = some (.int .i64 k.m) := by
  rcases h with ⟨_, rfl, _⟩ | ⟨b, cs, h1, h2, h3, h4, h5, h6, h7⟩
  · simp at hi
  · exact ⟨b, h1, h2.lt, h7 _ _ (flatH_get l i 0 k hi (by omega)), h7 _ _ (flatH_get l i 1 k hi (by omega)), h7 _ _ (flatH_get l i 2 k hi (by omega))⟩
theorem HB.fresh {base n : Nat} {v : Value} (hn : n = l.length) (hp : 0 < n) (ho : w.ownsRow base 46 3 v n (flatH l)) : ∃ s : Sl, v = slV s n ∧ HB w s l ∧ ∀ k, s.b = some k → base ≤ k := by
  subst hn
  rcases ho.2 with ⟨rfl, h0⟩ | ⟨g, cap, cur, rfl, h1, h2, h3, h4, h5, h6⟩
  · omega
  · refine ⟨⟨some g, cap⟩, rfl, .inr ⟨g, cur, rfl, h2, h5, h3, by show 0 < cap; omega, h4, fun j u hu => ?_⟩, fun k hk => by injection hk with hk; omega⟩
    rw [cell_of_row w g j _ _ (0, 0) h2]
    rw [← h6] at hu
    rw [← Array.getElem?_toList]
    rw [List.getElem?_take] at hu
    split at hu
    · exact hu
    · cases hu
end
theorem infoH : (Try.prog.info? 46).map (fun i => (i.zero, i.size, i.bytes)) = some (some (.agg #[.int .i64 0, .int .i64 0, .int .i64 0]), 3, 24) := by kernel_rfl
theorem infoHs : (Try.prog.info? 46).map (·.size) = some 3 := by kernel_rfl
theorem setCells_row : ∀ (vs : List Value) (o : Nat) (w : World) (b : Nat) (t : TypeId) (cs : Array Value), RowAt w b t cs → ∃ ds, RowAt (w.setCells b o vs) b t ds ∧ ds.size = cs.size
  | [], _, w, b, t, cs, h => ⟨cs, h, rfl⟩
  | v :: vs, o, w, b, t, cs, h => by
    obtain ⟨ds, h1, h2⟩ := setCells_row vs (o + 1) (w.setCell ⟨b, o, none⟩ v) b t _ (h.set o v)
    exact ⟨ds, h1, by rw [h2]; simp⟩
theorem setCells_tn : ∀ (vs : List Value) (o : Nat) (w : World) (b : Nat) (F : Nat → Prop), F b → Tn F w (w.setCells b o vs)
  | [], _, w, _, F, _ => Tn.refl F w
  | v :: vs, o, w, b, F, h => ((Tn.refl F w).set b o v h).then (setCells_tn vs (o + 1) _ b F h)
/-- 'copy' of elements of some cells each. -/
theorem run_copy_many {P : Program} (w : World) (dT sT ty elem : TypeId) (k : Nat) (b o dLen dCap : Nat) (a : Addr) (sLen sCap : Nat) (cs : List Value)
    (hu : P.underlying dT = some (.slice elem)) (hs : (P.info? elem).map (·.size) = some k) (hn : cs.length = Nat.min sLen dLen * k)
    (hsrc : ∀ j v, cs[j]? = some v → w.cell? (a.add j) = some v) (hc : ∀ j, j < cs.length → (w.cell? ⟨b, o + j, none⟩).isSome = true) (hf : ∀ j, j < cs.length → w.frozen? ⟨b, o + j, none⟩ = false) (h1 : ∀ v ∈ cs, v.oneCell' = true) :
    (Builtin.copy_ #[dT, sT] ty #[.slice (some ⟨b, o, none⟩) dLen dCap, .slice (some a) sLen sCap]).run P w = .ok (goInt (Nat.min sLen dLen)) (w.setCells b o cs) := by
  have hl := run_loadCells_list (P := P) w a cs hsrc
  have hst := run_storeCells_cells (P := P) b o cs 0 w (by simpa using hc) (by simpa using hf) h1
  cases hq : P.info? elem with
  | none => simp [hq] at hs
  | some i =>
    have hi : i.size = k := by simpa [hq] using hs
    simp [Builtin.copy_, run_underlying hu, Builtin.lenOf, Builtin.firstCells, sizeOf, typeInfo, hq, hi, ← hn, hl, hst]
/-- What is behind a list of locks that is laid into its row anew. -/
theorem HB.laid {w w' : World} {s : Sl} {l l' : List Hd} {b : Nat} {cs : Array Value} (hb : s.b = some b) (hr : RowAt w' b 46 cs) (hs : cs.size = s.c * 3) (hl : l'.length ≤ s.c) (h0 : 0 < s.c) (hm : s.c ≤ maxLen) (hc : ∀ j u, (flatH l')[j]? = some u → w'.cell? ⟨b, j, none⟩ = some u) : HB w' s l' := .inr ⟨b, cs, hb, hr, hs, hl, h0, hm, hc⟩
theorem some_of_row {w : World} {b : Nat} {t : TypeId} {cs : Array Value} (h : RowAt w b t cs) {j : Nat} (hj : j < cs.size) : (w.cell? ⟨b, j, none⟩).isSome = true := by
  rw [cell_of_row w b j _ _ (0, 0) h, Array.getElem?_eq_getElem hj]
  rfl
end Go.Proofs.Ytmlbghloddiflaa
