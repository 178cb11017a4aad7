/-
  The table of locks in memory: its block of 288 places, each with two lists in rows of their own.
-/
import Derived.Test.YtmlbghloddiflaaLkMem
namespace Go.Proofs.Ytmlbghloddiflaa
open Go.RowKit
set_option linter.unusedVariables false

/-- The lists, slot by slot: a thing's locks, its row. -/
def Pt.sl (p : Pt) (s : Nat) : List Hd := if s % 2 = 0 then p.had (s / 2) else p.row (s / 2)
theorem sl_had (p : Pt) (x : Nat) : p.sl (x * 2) = p.had x := by
  unfold Pt.sl
  rw [if_pos (by omega), show x * 2 / 2 = x by omega]
theorem sl_row (p : Pt) (x : Nat) : p.sl (x * 2 + 1) = p.row x := by
  unfold Pt.sl
  rw [if_neg (by omega), show (x * 2 + 1) / 2 = x by omega]
theorem sl_setHad (p : Pt) (x : Nat) (l : List Hd) (s : Nat) : (p.setHad x l).sl s = if s = x * 2 then l else p.sl s := by
  unfold Pt.sl Pt.setHad setF
  by_cases h : s % 2 = 0
  · rw [if_pos h, if_pos h]
    show (if s / 2 = x then l else p.had (s / 2)) = _
    by_cases e : s / 2 = x
    · rw [if_pos e, if_pos (by omega)]
    · rw [if_neg e, if_neg (by omega)]
  · rw [if_neg h, if_neg h, if_neg (by omega)]
theorem sl_setRow (p : Pt) (x : Nat) (l : List Hd) (s : Nat) : (p.setRow x l).sl s = if s = x * 2 + 1 then l else p.sl s := by
  unfold Pt.sl Pt.setRow setF
  by_cases h : s % 2 = 0
  · rw [if_pos h, if_pos h, if_neg (by omega)]
  · rw [if_neg h, if_neg h]
    show (if s / 2 = x then l else p.row (s / 2)) = _
    by_cases e : s / 2 = x
    · rw [if_pos e, if_pos (by omega)]
    · rw [if_neg e, if_neg (by omega)]
def tabA (L : Nat → List Hd) (S : Nat → Sl) : Array Value := Array.ofFn (n := 576) fun s => slV (S s.1) (L s.1).length
theorem tabA_get (L : Nat → List Hd) (S : Nat → Sl) {s : Nat} (hs : s < 576) : (tabA L S)[s]? = some (slV (S s) (L s).length) := by
  unfold tabA
  rw [Array.getElem?_ofFn, dif_pos hs]
def setS (S : Nat → Sl) (s : Nat) (v : Sl) : Nat → Sl := fun t => if t = s then v else S t
theorem tabA_set (L L' : Nat → List Hd) (S : Nat → Sl) {s : Nat} (hs : s < 576) (v : Sl) (l : List Hd) (hL : ∀ t, L' t = if t = s then l else L t) : (tabA L S).setIfInBounds s (slV v l.length) = tabA L' (setS S s v) := by
  apply Array.ext_getElem?
  intro t
  by_cases ht : t < 576
  · rw [tabA_get _ _ ht, Array.getElem?_setIfInBounds, hL]
    unfold setS
    by_cases e : s = t
    · subst e
      rw [if_pos rfl, if_pos (by unfold tabA; simp; exact hs), if_pos rfl, if_pos rfl]
    · rw [if_neg e, tabA_get _ _ ht, if_neg (fun q => e q.symm), if_neg (fun q => e q.symm)]
  · rw [Array.getElem?_eq_none (by unfold tabA; simp; omega), Array.getElem?_eq_none (by unfold tabA; simp; omega)]
/-- A table: its block g, where its lists lie. -/
structure TAt (w : World) (g : Nat) (p : Pt) (S : Nat → Sl) : Prop where
  row : RowAt w g 35 (tabA p.sl S)
  has : ∀ s, s < 576 → HB w (S s) (p.sl s)
  one : ∀ s t b, s < 576 → t < 576 → (S s).b = some b → (S t).b = some b → s = t
/-- Its blocks. -/
def FT (g : Nat) (S : Nat → Sl) (k : Nat) : Prop := k = g ∨ ∃ s, s < 576 ∧ (S s).b = some k
section
variable {w x : World} {g : Nat} {p : Pt} {S : Nat → Sl}
theorem TAt.off (h : TAt w g p S) {s : Nat} (hs : s < 576) : (S s).b ≠ some g := fun e => by
  rcases h.has s hs with ⟨h1, _⟩ | ⟨b, cs, h1, h2, _⟩
  · rw [h1] at e; cases e
  · rw [h1] at e
    injection e with e
    subst e
    exact absurd (row_kind h.row h2) (by decide)
theorem TAt.lt (h : TAt w g p S) {k : Nat} (hk : FT g S k) : k < w.heap.size := by
  rcases hk with rfl | ⟨s, hs, e⟩
  · exact h.row.lt
  · exact (h.has s hs).lt e
theorem TAt.keep (h : TAt w g p S) (hb : ∀ k, FT g S k → x.heap[k]? = w.heap[k]?) : TAt x g p S :=
  ⟨(hb g (.inl rfl)).trans h.row, fun s hs => (h.has s hs).keep (fun b e => hb b (.inr ⟨s, hs, e⟩)), h.one⟩
theorem TAt.later (h : TAt w g p S) (q : Below w.heap.size w x) : TAt x g p S := h.keep (fun k hk => q.block k (h.lt hk))
theorem TAt.turn {F : Nat → Prop} (h : TAt w g p S) (q : Tn F w x) (hn : ∀ k, FT g S k → ¬ F k) : TAt x g p S := h.keep (fun k hk => q.block k (h.lt hk) (hn k hk))
theorem TAt.drew (h : TAt w g p S) : TAt w.drew g p S := h.keep (fun _ _ => rfl)
theorem TAt.cell (h : TAt w g p S) {s : Nat} (hs : s < 576) : w.cell? ⟨g, s, none⟩ = some (slV (S s) (p.sl s).length) := h.row.cell s _ (tabA_get _ _ hs)
theorem TAt.had (h : TAt w g p S) {x : Nat} (hx : x < 288) : w.cell? ⟨g, x * 2, none⟩ = some (slV (S (x * 2)) (p.had x).length) := by
  have := h.cell (s := x * 2) (by omega)
  rwa [sl_had] at this
theorem TAt.rows (h : TAt w g p S) {x : Nat} (hx : x < 288) : w.cell? ⟨g, x * 2 + 1, none⟩ = some (slV (S (x * 2 + 1)) (p.row x).length) := by
  have := h.cell (s := x * 2 + 1) (by omega)
  rwa [sl_row] at this
theorem TAt.hadB (h : TAt w g p S) {x : Nat} (hx : x < 288) : HB w (S (x * 2)) (p.had x) := by
  have := h.has (x * 2) (by omega)
  rwa [sl_had] at this
theorem TAt.rowB (h : TAt w g p S) {x : Nat} (hx : x < 288) : HB w (S (x * 2 + 1)) (p.row x) := by
  have := h.has (x * 2 + 1) (by omega)
  rwa [sl_row] at this
end
/-- Behind a call: the table anew, in its own blocks and new ones; nothing else has turned. -/
def Aft (w : World) (g : Nat) (S : Nat → Sl) (p' : Pt) (w' : World) : Prop := ∃ S', TAt w' g p' S' ∧ Tn (FT g S) w w' ∧ ∀ k, FT g S' k → FT g S k ∨ w.heap.size ≤ k
theorem Aft.same {w x : World} {g : Nat} {p : Pt} {S : Nat → Sl} (h : TAt w g p S) (q : Below w.heap.size w x) : Aft w g S p x := ⟨S, h.later q, Tn.of_below q, fun k hk => .inl hk⟩
/-- .. one list alone has another place. -/
def Aft1 (s : Nat) (w : World) (g : Nat) (S : Nat → Sl) (p' : Pt) (w' : World) : Prop := ∃ S', TAt w' g p' S' ∧ Tn (FT g S) w w' ∧ (∀ k, FT g S' k → FT g S k ∨ w.heap.size ≤ k) ∧ ∀ t, t ≠ s → S' t = S t
theorem Aft1.aft {s : Nat} {w x : World} {g : Nat} {p : Pt} {S : Nat → Sl} (h : Aft1 s w g S p x) : Aft w g S p x := by
  obtain ⟨S', a, b, c, _⟩ := h
  exact ⟨S', a, b, c⟩
theorem Aft1.same {s : Nat} {w x : World} {g : Nat} {p : Pt} {S : Nat → Sl} (h : TAt w g p S) (q : Below w.heap.size w x) : Aft1 s w g S p x := ⟨S, h.later q, Tn.of_below q, fun k hk => .inl hk, fun _ _ => rfl⟩
theorem Aft1.first {s : Nat} {w v x : World} {g : Nat} {p' : Pt} {S : Nat → Sl} (q : Below w.heap.size w v) (h2 : Aft1 s v g S p' x) : Aft1 s w g S p' x := by
  obtain ⟨S'', a, b, c, d⟩ := h2
  refine ⟨S'', a, (Tn.of_below q).then b, fun k hk => ?_, d⟩
  rcases c k hk with h | h
  · exact .inl h
  · exact .inr (Nat.le_trans q.size h)
theorem Aft1.trans {s : Nat} {w x y : World} {g : Nat} {S : Nat → Sl} {p' p'' : Pt} (h : Aft1 s w g S p' x) (h2 : ∀ S', TAt x g p' S' → Aft1 s x g S' p'' y) : Aft1 s w g S p'' y := by
  obtain ⟨S', h3, h4, h5, h5'⟩ := h
  obtain ⟨S'', h6, h7, h8, h8'⟩ := h2 S' h3
  refine ⟨S'', h6, h4.trans h7 h5, fun k hk => ?_, fun t ht => (h8' t ht).trans (h5' t ht)⟩
  rcases h8 k hk with h9 | h9
  · exact h5 k h9
  · exact .inr (Nat.le_trans h4.size h9)
/-- No block of it holds numbers alone. -/
theorem TAt.kind {w : World} {g : Nat} {p : Pt} {S : Nat → Sl} (h : TAt w g p S) {k : Nat} (hk : FT g S k) : ∃ t cs, RowAt w k t cs ∧ (t = 35 ∨ t = 46) := by
  rcases hk with rfl | ⟨s, hs, e⟩
  · exact ⟨_, _, h.row, .inl rfl⟩
  · rcases h.has s hs with ⟨h1, _⟩ | ⟨b, cs, h1, h2, _⟩
    · rw [h1] at e; cases e
    · rw [h1] at e
      injection e with e
      subst e
      exact ⟨_, _, h2, .inr rfl⟩
/-- One list laid anew, and told in the table. -/
theorem TAt.put {w w1 : World} {g : Nat} {p p' : Pt} {S : Nat → Sl} (h : TAt w g p S) {s : Nat} (hs : s < 576) (v : Sl) (l : List Hd) (hp : ∀ t, p'.sl t = if t = s then l else p.sl t) (hl : HB w1 v l) (ht : Tn (ofS (S s)) w w1) (hv : ∀ q, v.b = some q → (S s).b = some q ∨ w.heap.size ≤ q) :
    Aft1 s w g S p' (w1.setCell ⟨g, s, none⟩ (slV v l.length)) := by
  have hg : ¬ ofS (S s) g := h.off hs
  have hr1 : RowAt w1 g 35 (tabA p.sl S) := ht.row h.row hg
  have hr2 := hr1.set s (slV v l.length)
  rw [tabA_set p.sl p'.sl S hs v l hp] at hr2
  have hT : Tn (FT g S) w (w1.setCell ⟨g, s, none⟩ (slV v l.length)) := (ht.weak (fun k hk => .inr ⟨s, hs, hk⟩)).set g s _ (.inl rfl)
  have hvg : v.b ≠ some g := fun e => by
    rcases hv g e with h1 | h1
    · exact hg h1
    · have := h.row.lt; omega
  refine ⟨setS S s v, ⟨hr2, fun t htt => ?_, fun t u b htt hu e1 e2 => ?_⟩, hT, fun k hk => ?_, fun t ht => if_neg ht⟩
  · unfold setS
    rw [hp]
    by_cases e : t = s
    · rw [if_pos e, if_pos e]
      exact hl.keep (fun b hb => heap_setCell_other w1 ⟨g, s, none⟩ b _ (fun e => hvg (by rw [hb, show b = g from e])))
    · rw [if_neg e, if_neg e]
      refine ((h.has t htt).turn ht (fun b hb hf => e (h.one t s b htt hs hb hf))).keep (fun b hb => heap_setCell_other w1 ⟨g, s, none⟩ b _ (fun e2 => h.off htt (by rw [hb, show b = g from e2])))
  · have key : ∀ t b, t < 576 → t ≠ s → (S t).b = some b → v.b ≠ some b := fun t b htt hne e e3 => by
      rcases hv b e3 with h1 | h1
      · exact hne (h.one t s b htt hs e h1)
      · have := (h.has t htt).lt e
        omega
    unfold setS at e1 e2
    by_cases a1 : t = s
    · rw [if_pos a1] at e1
      by_cases a2 : u = s
      · rw [a1, a2]
      · rw [if_neg a2] at e2
        exact absurd e1 (key u b hu a2 e2)
    · rw [if_neg a1] at e1
      by_cases a2 : u = s
      · rw [if_pos a2] at e2
        exact absurd e2 (key t b htt a1 e1)
      · rw [if_neg a2] at e2
        exact h.one t u b htt hu e1 e2
  · rcases hk with rfl | ⟨t, htt, e⟩
    · exact .inl (.inl rfl)
    · unfold setS at e
      by_cases a1 : t = s
      · rw [if_pos a1] at e
        rcases hv k e with h1 | h1
        · exact .inl (.inr ⟨s, hs, h1⟩)
        · exact .inr h1
      · rw [if_neg a1] at e
        exact .inl (.inr ⟨t, htt, e⟩)
theorem Aft.trans {w x y : World} {g : Nat} {S : Nat → Sl} {p' p'' : Pt} (h : Aft w g S p' x) (h2 : ∀ S', TAt x g p' S' → Aft x g S' p'' y) : Aft w g S p'' y := by
  obtain ⟨S', h3, h4, h5⟩ := h
  obtain ⟨S'', h6, h7, h8⟩ := h2 S' h3
  refine ⟨S'', h6, h4.trans h7 h5, fun k hk => ?_⟩
  rcases h8 k hk with h9 | h9
  · exact h5 k h9
  · exact .inr (Nat.le_trans h4.size h9)
theorem Aft.later {w x y : World} {g : Nat} {S : Nat → Sl} {p' : Pt} (h : Aft w g S p' x) (q : Below x.heap.size x y) : Aft w g S p' y := h.trans (fun S' h' => Aft.same h' q)
theorem Aft.first {w v x : World} {g : Nat} {p' : Pt} {S : Nat → Sl} (q : Below w.heap.size w v) (h2 : Aft v g S p' x) : Aft w g S p' x := by
  obtain ⟨S'', a, b, c⟩ := h2
  refine ⟨S'', a, (Tn.of_below q).then b, fun k hk => ?_⟩
  rcases c k hk with h | h
  · exact .inl h
  · exact .inr (Nat.le_trans q.size h)
/-- How many there are at each thing. -/
def Pt.le (p : Pt) (n : Nat) : Prop := ∀ x, x < 288 → (p.had x).length + (p.row x).length ≤ n
end Go.Proofs.Ytmlbghloddiflaa
