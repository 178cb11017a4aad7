/-
  The code's tape in memory: its block, and the row of its bytes. What its calls may turn.
-/
import Derived.Test.YtkdlmblkckmhaaaTapeMath
import Derived.Test.YtkdlmblkckmhaaaPackMath
import Derived.Test.YtkdlmblkckmhaaaAppendO
import Derived.Test.YtkdlmblkckmhaaaProg
import Derived.RegionTactic
import Derived.BigRegion
import Derived.Laws.IdiomCopy
namespace Go.Proofs.Ytkdlmblkckmhaaa
open Go.RowKit
set_option linter.unusedVariables false

/-- Only these two blocks, and what is new, was turned. -/
structure Turn (g h : Nat) (w w' : World) : Prop where
  os : w'.os = w.os
  tape : w'.tape = w.tape
  output : w'.output = w.output
  size : w.heap.size ≤ w'.heap.size
  block : ∀ k, k < w.heap.size → k ≠ g → k ≠ h → w'.heap[k]? = w.heap[k]?
theorem Turn.refl (g h : Nat) (w : World) : Turn g h w w := ⟨rfl, rfl, rfl, Nat.le_refl _, fun _ _ _ _ => rfl⟩
theorem Turn.trans {g h : Nat} {w x y : World} (p : Turn g h w x) (q : Turn g h x y) : Turn g h w y :=
  ⟨q.os.trans p.os, q.tape.trans p.tape, q.output.trans p.output, Nat.le_trans p.size q.size, fun i hi h1 h2 => (q.block i (Nat.lt_of_lt_of_le hi p.size) h1 h2).trans (p.block i hi h1 h2)⟩
theorem Turn.set {g h : Nat} {w x : World} (p : Turn g h w x) (j : Nat) (v : Value) : Turn g h w (x.setCell ⟨g, j, none⟩ v) :=
  ⟨p.os, p.tape, p.output, Nat.le_trans p.size ((Below.refl 0 x).setCell (Nat.zero_le _) v).size, fun i hi h1 h2 => (heap_setCell_other x ⟨g, j, none⟩ i v h1).trans (p.block i hi h1 h2)⟩
theorem Turn.drew {g h : Nat} {w x : World} (p : Turn g h w x) : Turn g h w x.drew := ⟨p.os, p.tape, p.output, p.size, p.block⟩
theorem Turn.below {g h n : Nat} {w x : World} (p : Turn g h w x) (h1 : n ≤ g) (h2 : n ≤ h) (hs : n ≤ w.heap.size) : Below n w x :=
  ⟨p.os, p.tape, p.output, p.size, fun i hi => p.block i (by omega) (by omega) (by omega)⟩
theorem Turn.of_below {g h : Nat} {w x : World} (p : Below w.heap.size w x) : Turn g h w x := ⟨p.os, p.tape, p.output, p.size, fun i hi _ _ => p.block i hi⟩
theorem Turn.row {g h k : Nat} {w x : World} {t : TypeId} {cs : Array Value} (p : Turn g h w x) (hr : RowAt w k t cs) (h1 : k ≠ g) (h2 : k ≠ h) : RowAt x k t cs := (p.block k hr.lt h1 h2).trans hr
theorem Turn.grown {g h : Nat} {w x y : World} {row : Option Nat} (p : Turn g h w x) (q : x.grownBy y row) (hr : ∀ k, row = some k → k = h ∨ w.heap.size ≤ k) : Turn g h w y :=
  ⟨q.os.trans p.os, q.tape.trans p.tape, q.output.trans p.output, Nat.le_trans p.size q.size, fun i hi h1 h2 => (q.block i (Nat.lt_of_lt_of_le hi p.size) (fun e => by
    rcases hr i e.symm with h3 | h3
    · exact h2 h3
    · omega)).trans (p.block i hi h1 h2)⟩

/-- The code's tape: its block, the row of its bytes. -/
def TpV (w : World) (gt gb cap : Nat) (a : Option Addr) (t : Tp) : Prop :=
  RowAt w gt 32 #[.slice a t.b.size cap, .int .i64 (t.f : Int), .int .u64 (t.s : Int), .int .i64 (t.m : Int)] ∧ w.ownsRow 0 5 1 (.slice a t.b.size cap) t.b.size (toV t.b.data.toList) ∧ (a = none ∧ gb = gt ∨ a = some ⟨gb, 0, none⟩)
def TpAt (w : World) (gt gb : Nat) (t : Tp) : Prop := ∃ cap a, TpV w gt gb cap a t

theorem row_apart {w : World} {g k : Nat} {t u : TypeId} {cs ds : Array Value} (h : RowAt w g t cs) (h2 : w.heap[k]? = some (.cells ds u (0, 0))) (hne : t ≠ u) : g ≠ k := by
  intro e
  subst e
  have h3 : w.heap[g]? = some (.cells cs t (0, 0)) := h
  rw [h3] at h2
  injection h2 with h2
  injection h2 with _ h4
  exact hne h4
theorem TpV.own {w : World} {gt gb cap : Nat} {a : Option Addr} {t : Tp} (h : TpV w gt gb cap a t) : (a = none ∧ gb = gt ∧ t.b.size = 0 ∧ cap = 0) ∨ (a = some ⟨gb, 0, none⟩ ∧ gt ≠ gb ∧ gb < w.heap.size ∧ t.b.size ≤ cap ∧ cap ≤ maxLen ∧ ∃ cur, w.heap[gb]? = some (.cells cur 5 (0, 0)) ∧ cur.size = cap ∧ cur.toList.take t.b.size = toV t.b.data.toList) := by
  obtain ⟨h1, h2, h3⟩ := h
  rcases h2.2 with ⟨e, h4⟩ | ⟨g, c, cur, e, _, hg, hc, hm, hs, ht⟩
  · injection e with e1 e2 e3
    subst e1 e3
    rcases h3 with ⟨_, h5⟩ | h5
    · exact .inl ⟨rfl, h5, h4, rfl⟩
    · cases h5
  · injection e with e1 e2 e3
    subst e1 e3
    rcases h3 with ⟨h5, _⟩ | h5
    · cases h5
    · injection h5 with h5
      injection h5 with h5
      subst h5
      exact .inr ⟨rfl, row_apart h1 hg (by decide), (Array.getElem?_eq_some_iff.1 hg).1, hc, hm, cur, hg, by simpa using hs, by simpa using ht⟩
/-- A tape that is kept. -/
theorem TpV.keep {w x : World} {gt gb cap : Nat} {a : Option Addr} {t : Tp} (h : TpV w gt gb cap a t) (h1 : x.heap[gt]? = w.heap[gt]?) (h2 : x.heap[gb]? = w.heap[gb]?) : TpV x gt gb cap a t := by
  refine ⟨h1.trans h.1, ⟨h.2.1.1, ?_⟩, h.2.2⟩
  rcases h.2.1.2 with h4 | ⟨g, c, cur, e, hb, hg, hc⟩
  · exact .inl h4
  · refine .inr ⟨g, c, cur, e, hb, ?_, hc⟩
    rcases h.2.2 with ⟨h5, _⟩ | h5
    · subst h5
      cases e
    · subst h5
      injection e with e1
      injection e1 with e1
      injection e1 with e1
      subst e1
      rw [h2]
      exact hg
theorem TpV.lt {w : World} {gt gb cap : Nat} {a : Option Addr} {t : Tp} (h : TpV w gt gb cap a t) : gt < w.heap.size ∧ gb < w.heap.size := by
  have h1 := h.1.lt
  rcases h.own with ⟨_, h2, _⟩ | ⟨_, _, h2, _⟩
  · exact ⟨h1, by omega⟩
  · exact ⟨h1, h2⟩
theorem TpAt.lt {w : World} {gt gb : Nat} {t : Tp} (h : TpAt w gt gb t) : gt < w.heap.size ∧ gb < w.heap.size := by
  obtain ⟨_, _, h⟩ := h
  exact h.lt
theorem TpAt.keep {w x : World} {gt gb : Nat} {t : Tp} (h : TpAt w gt gb t) (h1 : x.heap[gt]? = w.heap[gt]?) (h2 : x.heap[gb]? = w.heap[gb]?) : TpAt x gt gb t := by
  obtain ⟨c, a, h⟩ := h
  exact ⟨c, a, h.keep h1 h2⟩
theorem TpAt.later {w x : World} {gt gb : Nat} {t : Tp} (h : TpAt w gt gb t) (hb : Below w.heap.size w x) : TpAt x gt gb t := h.keep (hb.block _ h.lt.1) (hb.block _ h.lt.2)
/-- Another tape's calls leave a tape. -/
theorem TpAt.turn {w x : World} {gt gb ht hb : Nat} {t : Tp} (h : TpAt w gt gb t) (p : Turn ht hb w x) (h1 : gt ≠ ht) (h2 : gt ≠ hb) (h3 : gb ≠ ht) (h4 : gb ≠ hb) : TpAt x gt gb t := h.keep (p.block _ h.lt.1 h1 h2) (p.block _ h.lt.2 h3 h4)
/-- A struct of another kind isn't among a tape's blocks. -/
theorem TpAt.apart {w : World} {gt gb k : Nat} {t : Tp} {u : TypeId} {cs : Array Value} (h : TpAt w gt gb t) (hr : RowAt w k u cs) (h1 : u ≠ 32) (h2 : u ≠ 5) : k ≠ gt ∧ k ≠ gb := by
  obtain ⟨c, a, h⟩ := h
  have h3 : k ≠ gt := row_apart hr h.1 h1
  refine ⟨h3, ?_⟩
  rcases h.own with ⟨_, h4, _⟩ | ⟨_, _, _, _, _, cur, hg, _⟩
  · rw [h4]
    exact h3
  · exact row_apart hr hg h2
end Go.Proofs.Ytkdlmblkckmhaaa
