/-
  What a call may turn: the blocks of a thing, and what is new. Of no program.
-/
import Derived.Test.YtmlbghloddiflaaTapeMath
namespace Go.Proofs.Ytmlbghloddiflaa
open Go.RowKit
set_option linter.unusedVariables false

/-- One block. -/
def Is (g k : Nat) : Prop := k = g
/-- Only blocks of F, and what is new, was turned. -/
structure Tn (F : Nat → Prop) (w w' : World) : Prop where
  os : w'.os = w.os
  tape : w'.tape = w.tape
  output : w'.output = w.output
  size : w.heap.size ≤ w'.heap.size
  block : ∀ k, k < w.heap.size → ¬ F k → w'.heap[k]? = w.heap[k]?
theorem Tn.refl (F : Nat → Prop) (w : World) : Tn F w w := ⟨rfl, rfl, rfl, Nat.le_refl _, fun _ _ _ => rfl⟩
theorem Tn.trans {F G : Nat → Prop} {w x y : World} (p : Tn F w x) (q : Tn G x y) (h : ∀ k, G k → F k ∨ w.heap.size ≤ k) : Tn F w y :=
  ⟨q.os.trans p.os, q.tape.trans p.tape, q.output.trans p.output, Nat.le_trans p.size q.size, fun k hk hn => (q.block k (Nat.lt_of_lt_of_le hk p.size) (fun hg => by
    rcases h k hg with h1 | h1
    · exact hn h1
    · omega)).trans (p.block k hk hn)⟩
theorem Tn.then {F : Nat → Prop} {w x y : World} (p : Tn F w x) (q : Tn F x y) : Tn F w y := p.trans q (fun k h => .inl h)
theorem Tn.set {F : Nat → Prop} {w x : World} (p : Tn F w x) (g j : Nat) (v : Value) (h : F g) : Tn F w (x.setCell ⟨g, j, none⟩ v) :=
  ⟨p.os, p.tape, p.output, Nat.le_trans p.size ((Below.refl 0 x).setCell (Nat.zero_le _) v).size, fun i hi hn => (heap_setCell_other x ⟨g, j, none⟩ i v (fun e => hn (by rw [e]; exact h))).trans (p.block i hi hn)⟩
theorem Tn.drew {F : Nat → Prop} {w x : World} (p : Tn F w x) : Tn F w x.drew := ⟨p.os, p.tape, p.output, p.size, p.block⟩
theorem Tn.later {F : Nat → Prop} {w x y : World} (p : Tn F w x) (q : Below x.heap.size x y) : Tn F w y :=
  ⟨q.os.trans p.os, q.tape.trans p.tape, q.output.trans p.output, Nat.le_trans p.size q.size, fun i hi hn => (q.block i (Nat.lt_of_lt_of_le hi p.size)).trans (p.block i hi hn)⟩
theorem Tn.of_below {F : Nat → Prop} {w x : World} (q : Below w.heap.size w x) : Tn F w x := (Tn.refl F w).later q
theorem Tn.of_but {F : Nat → Prop} {w x : World} {g : Nat} (q : But g w x) (h : F g) : Tn F w x := ⟨q.os, q.tape, q.output, q.size, fun k hk hn => q.block k hk (fun e => hn (by rw [e]; exact h))⟩
theorem Tn.of_grown {F : Nat → Prop} {w x : World} {row : Option Nat} (q : w.grownBy x row) (h : ∀ k, row = some k → F k) : Tn F w x := ⟨q.os, q.tape, q.output, q.size, fun k hk hn => q.block k hk (fun e => hn (h k e.symm))⟩
theorem Tn.weak {F G : Nat → Prop} {w x : World} (p : Tn F w x) (h : ∀ k, F k → G k) : Tn G w x := ⟨p.os, p.tape, p.output, p.size, fun k hk hn => p.block k hk (fun e => hn (h k e))⟩
theorem Tn.below {F : Nat → Prop} {n : Nat} {w x : World} (p : Tn F w x) (h : ∀ k, F k → n ≤ k) (hs : n ≤ w.heap.size) : Below n w x := ⟨p.os, p.tape, p.output, p.size, fun i hi => p.block i (by omega) (fun hf => by have := h i hf; omega)⟩
theorem Tn.row {F : Nat → Prop} {w x : World} {k : Nat} {t : TypeId} {cs : Array Value} (p : Tn F w x) (hr : RowAt w k t cs) (h : ¬ F k) : RowAt x k t cs := (p.block k hr.lt h).trans hr
theorem row_kind {w : World} {k : Nat} {t u : TypeId} {cs ds : Array Value} (h : RowAt w k t cs) (h2 : RowAt w k u ds) : t = u := by
  have h3 : w.heap[k]? = some (.cells cs t (0, 0)) := h
  have h4 : w.heap[k]? = some (.cells ds u (0, 0)) := h2
  rw [h3] at h4
  injection h4 with h4
  injection h4 with _ h5
end Go.Proofs.Ytmlbghloddiflaa
