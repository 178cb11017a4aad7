/-
  The document's Decode: the reader, the record that is read, the answer.
-/
import Derived.Test.YtmapgfakfeddmaaRecDec
import Derived.Test.YtmapgfakfeddmaaRecRefRight6
namespace Go.Proofs.Ytmapgfakfeddmaa
open Go.RowKit
set_option linter.unusedVariables false

def zrA : Array Value := #[.int .i64 0, .int .u64 0, .int .i64 0, .int .u64 0, .int .i64 0, .int .i64 0, .int .i64 0, .string ⟨#[]⟩, .string ⟨#[]⟩, .int .u64 0, .int .i64 0, .int .u64 0, .slice none 0 0, .slice none 0 0]
/-- The reader's block, the record's, the answer's, and structs beside them. -/
structure DK (w y : World) (gr g gx : Nat) (b : ByteArray) (s : St) (r : Rec) (va vb : Value) (l : List (Nat × TypeId × Array Value)) : Prop where
  rd : RdAt y g b s
  xr : RowAt y gx 28 (rcA r va vb)
  zr : RowAt y gr 28 #[.int .i64 0, .int .u64 0, .int .i64 0, .int .u64 0, .int .i64 0, .int .i64 0, .int .i64 0, .string ⟨#[]⟩, .string ⟨#[]⟩, .int .u64 0, .int .i64 0, .int .u64 0, .slice none 0 0, .slice none 0 0]
  bel : Below w.heap.size w y
  got : GotIn w.heap.size y r va vb
  has : Has y l
/-- Where these lie. -/
structure Lie (w : World) (gr g gx : Nat) : Prop where
  a : w.heap.size ≤ gr
  b : w.heap.size ≤ g
  c : w.heap.size ≤ gx
  d : gr ≠ g
  e : gx ≠ g
  f : gr ≠ gx
theorem own_type {y : World} {base n sz k : Nat} {e t : TypeId} {v : Value} {xs : List Value} {cs : Array Value} (h : y.ownsRow base e sz v n xs) (hr : RowAt y k t cs) (ht : t ≠ e) : v.ownBlock ≠ some k := fun hk => by
  rcases h.2 with ⟨h1, _⟩ | ⟨g, cap, cur, h1, h2, h3, -⟩
  · subst h1
    cases hk
  · subst h1
    simp only [Value.ownBlock, Option.some.injEq] at hk
    subst hk
    have h5 := hr.symm.trans h3
    simp only [Option.some.injEq, Obj.cells.injEq] at h5
    exact ht h5.2.1
theorem below_grown {w y z : World} {g : Nat} (h : Below w.heap.size w y) (hg : y.grownBy z (some g)) (hge : w.heap.size ≤ g) : Below w.heap.size w z :=
  ⟨hg.os.trans h.os, hg.tape.trans h.tape, hg.output.trans h.output, Nat.le_trans h.size hg.size, fun k hk => (hg.block k (Nat.lt_of_lt_of_le hk h.size) (fun e => by cases e; omega)).trans (h.block k hk)⟩
theorem DK.step {w y z : World} {gr g gx : Nat} {b : ByteArray} {s s' : St} {r : Rec} {va vb : Value} {l : List (Nat × TypeId × Array Value)} (h : DK w y gr g gx b s r va vb l) (L : Lie w gr g gx) (hl : Off g l) (hr : RdAt z g b s') (hg : y.grownBy z (some g)) : DK w z gr g gx b s' r va vb l := by
  obtain ⟨k, h1, _⟩ := h.rd
  exact ⟨hr, row_grown h.xr hg L.e, row_grown h.zr hg L.d, below_grown h.bel hg L.b, ⟨h.got.1.kept hg (.inr (own_type h.got.1 h1 (by decide))), h.got.2.kept hg (.inr (own_type h.got.2 h1 (by decide)))⟩, has_grown hg hl h.has⟩
theorem rd_other {y : World} {g k : Nat} {b : ByteArray} {s : St} (h : RdAt y g b s) (hk : k ≠ g) (j : Nat) (u : Value) : RdAt (y.setCell ⟨k, j, none⟩ u) g b s := by
  obtain ⟨p, h1, h2⟩ := h
  exact ⟨p, h1.other _ _ (fun e => hk e.symm), h2⟩
theorem has_other {y : World} {k j : Nat} {u : Value} : ∀ {l : List (Nat × TypeId × Array Value)}, Off k l → Has y l → Has (y.setCell ⟨k, j, none⟩ u) l
  | [], _, _ => trivial
  | e :: l, ha, hh => ⟨hh.1.other _ _ (ha e (by simp)), has_other (fun e he => ha e (by simp [he])) hh.2⟩
/-- A field of the record is written. -/
theorem DK.set {w y : World} {gr g gx : Nat} {b : ByteArray} {s : St} {r : Rec} {va vb : Value} {l : List (Nat × TypeId × Array Value)} (h : DK w y gr g gx b s r va vb l) (L : Lie w gr g gx) (hl : Off gx l) (j : Nat) (u : Value) (r' : Rec) (hs : (rcA r va vb).setIfInBounds j u = rcA r' va vb) (ht : r'.ts = r.ts) (hd : r'.ds = r.ds) : DK w (y.setCell ⟨gx, j, none⟩ u) gr g gx b s r' va vb l := by
  have hg := grown_set (g := gx) (j := j) u (grown_refl y (some gx))
  refine ⟨rd_other h.rd L.e j u, ?_, h.zr.other _ _ L.f, h.bel.set1 L.c j u, ⟨?_, ?_⟩, has_other hl h.has⟩
  · rw [← hs]
    exact h.xr.set j u
  · rw [ht]
    exact h.got.1.kept hg (.inr (own_type h.got.1 h.xr (by decide)))
  · rw [hd]
    exact h.got.2.kept hg (.inr (own_type h.got.2 h.xr (by decide)))
theorem rd_later {y z : World} {g : Nat} {b : ByteArray} {s : St} (h : RdAt y g b s) (hb : Below y.heap.size y z) : RdAt z g b s := by
  obtain ⟨p, h1, h2⟩ := h
  exact ⟨p, h1.later hb, h2⟩
theorem DK.later {w y z : World} {gr g gx : Nat} {b : ByteArray} {s : St} {r : Rec} {va vb : Value} {l : List (Nat × TypeId × Array Value)} (h : DK w y gr g gx b s r va vb l) (hb : Below y.heap.size y z) : DK w z gr g gx b s r va vb l :=
  ⟨rd_later h.rd hb, h.xr.later hb, h.zr.later hb, h.bel.trans (hb.mono h.bel.size), h.got.below hb, h.has.later hb⟩
/-- What the answer is. -/
def Ans (w : World) (bs : List UInt8) (e : Ending) (w' : World) : Prop := (∃ va vb, e = .returned (.tuple #[.agg (rcA (decR bs).1 va vb), .int .i64 (decR bs).2]) ∧ GotIn w.heap.size w' (decR bs).1 va vb) ∧ Below w.heap.size w w'
theorem rright6_at' (r : Rec) (va vb : Value) (w : World) (q : Bool) (Hq : Hid (q = true ↔ r.right)) (hf : r.c.fits) (hin : RcIn w r va vb) :
    Calls Try.prog 14 #[.agg (rcA r va vb)] w fun e w' => e = .returned (.bool q) ∧ Below w.heap.size w w' := by
  have e : r.rightB = q := by
    have h1 := Hq.out
    have h2 := rightB_iff (r := r)
    cases q
    · cases h : r.rightB
      · rfl
      · exact absurd (h1.2 (h2.1 h)) (by simp)
    · exact h2.2 (h1.1 rfl)
  rw [← e]
  exact rright6_any r va vb w hf hin
theorem itS_add {α : Type} (p : St → α × St) : ∀ m n s, itS p (m + n) s = itS p n (itS p m s)
  | 0, n, s => by rw [Nat.zero_add]; rfl
  | m + 1, n, s => by
    rw [show m + 1 + n = (m + n) + 1 by omega]
    exact itS_add p m n (p s).2
theorem pin_good {s : St} (h : ¬ ((pNum 1 s).2.e = 0 ∧ ((pNum 1 s).1 < 1 ∨ 8 < (pNum 1 s).1))) : pIn 1 8 s = pNum 1 s := by
  unfold pIn
  rw [if_neg h]
end Go.Proofs.Ytmapgfakfeddmaa
