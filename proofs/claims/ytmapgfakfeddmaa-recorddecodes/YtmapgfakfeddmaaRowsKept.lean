/-
  Structs that a call keeps in memory while it goes on. Of no program.
-/
import Derived.Test.YtmapgfakfeddmaaRowMem
namespace Go.Proofs.Ytmapgfakfeddmaa
open Go.RowKit
set_option linter.unusedVariables false

/-- Blocks that hold these structs. -/
def Has (x : World) : List (Nat × TypeId × Array Value) → Prop
  | [] => True
  | e :: l => RowAt x e.1 e.2.1 e.2.2 ∧ Has x l
theorem Has.later {x y : World} (hb : Below x.heap.size x y) : ∀ {l : List (Nat × TypeId × Array Value)}, Has x l → Has y l
  | [], _ => trivial
  | _ :: _, h => ⟨h.1.later hb, h.2.later hb⟩
theorem Has.drew {x : World} : ∀ {l : List (Nat × TypeId × Array Value)}, Has x l → Has x.drew l
  | [], _ => trivial
  | _ :: _, h => ⟨h.1, h.2.drew⟩
/-- They are kept, and what was there at the call is as it was. -/
def Keeps (w x : World) (l : List (Nat × TypeId × Array Value)) : Prop := Has x l ∧ Below w.heap.size w x
theorem Keeps.later {w x y : World} {l : List (Nat × TypeId × Array Value)} (h : Keeps w x l) (hb : Below x.heap.size x y) : Keeps w y l := ⟨h.1.later hb, h.2.trans (hb.mono h.2.size)⟩
theorem Keeps.drew {w x : World} {l : List (Nat × TypeId × Array Value)} (h : Keeps w x l) : Keeps w x.drew l := ⟨h.1.drew, ⟨h.2.1, h.2.2, h.2.3, h.2.4, h.2.5⟩⟩
theorem Keeps.more {w x y : World} {l : List (Nat × TypeId × Array Value)} (h : Keeps w x l) (hb : Below x.heap.size x y) {b : Nat} {t : TypeId} {cs : Array Value} (hr : RowAt y b t cs) : Keeps w y ((b, t, cs) :: l) :=
  ⟨⟨hr, h.1.later hb⟩, (h.later hb).2⟩
/-- A struct laid into a new block. -/
theorem Keeps.laid {w x y : World} {l : List (Nat × TypeId × Array Value)} (h : Keeps w x l) {o : Obj} {t : TypeId} {cs : Array Value} (hr : RowAt y x.heap.size t cs) (hk : ∀ B w0, Below B w0 (x.alloc o) → B ≤ x.heap.size → Below B w0 y) : Keeps w y ((x.heap.size, t, cs) :: l) :=
  h.more (hk _ _ ((Below.refl x.heap.size x).alloc (Nat.le_refl _) _) (Nat.le_refl _)) hr
theorem Keeps.one (w : World) (t : TypeId) (cs : Array Value) : Keeps w (w.alloc (.cells cs t)) [(w.heap.size, t, cs)] :=
  ⟨⟨RowAt.new w t cs, trivial⟩, (Below.refl w.heap.size w).alloc (Nat.le_refl _) _⟩
theorem Keeps.two (w : World) (t t2 : TypeId) (cs ds : Array Value) : Keeps w ((w.alloc (.cells cs t)).alloc (.cells ds t2)) [(w.heap.size + 1, t2, ds), (w.heap.size, t, cs)] := by
  have e1 : (w.alloc (.cells cs t)).heap.size = w.heap.size + 1 := by simp
  have h := (Keeps.one w t cs).more ((Below.refl _ (w.alloc (.cells cs t))).alloc (Nat.le_refl _) (.cells ds t2)) (RowAt.new (w.alloc (.cells cs t)) t2 ds)
  rw [e1] at h
  exact h
theorem Keeps.three (w : World) (t t2 t3 : TypeId) (cs ds es : Array Value) : Keeps w (((w.alloc (.cells cs t)).alloc (.cells ds t2)).alloc (.cells es t3)) [(w.heap.size + 1 + 1, t3, es), (w.heap.size + 1, t2, ds), (w.heap.size, t, cs)] := by
  have e1 : ((w.alloc (.cells cs t)).alloc (.cells ds t2)).heap.size = w.heap.size + 1 + 1 := by simp
  have h := (Keeps.two w t t2 cs ds).more ((Below.refl _ ((w.alloc (.cells cs t)).alloc (.cells ds t2))).alloc (Nat.le_refl _) (.cells es t3)) (RowAt.new ((w.alloc (.cells cs t)).alloc (.cells ds t2)) t3 es)
  rw [e1] at h
  exact h
end Go.Proofs.Ytmapgfakfeddmaa
