/-
  A tape: its bytes, how many stand fast, its room, how many went. Of no program.
-/
import Derived.Test.YtmlbghloddiflaaRowMem
namespace Go.Proofs.Ytmlbghloddiflaa
open Go.RowKit
set_option linter.unusedVariables false

structure Tp where
  b : ByteArray
  f : Nat
  m : Nat
  s : Nat
/-- What every tape keeps to. -/
structure Tp.ok (t : Tp) : Prop where
  fast : t.f ≤ t.b.size
  few : t.b.size ≤ t.m
  room : t.m ≤ 65536
  went : t.s < 18446744073709551616
def Tp.new (r : Int) : Tp := ⟨⟨#[]⟩, 0, (max 0 (min r 65536)).toNat, 0⟩
def Tp.app (t : Tp) (x : ByteArray) : Tp × Int := if t.m < t.b.size + x.size then (t, 7) else ({ t with b := t.b ++ x }, 0)
def Tp.sync (t : Tp) : Tp := { t with f := t.b.size }
def Tp.cut (t : Tp) (n : Int) : Tp × Int := if n < 0 ∨ (t.f : Int) < n then (t, 1) else (⟨t.b.extract n.toNat t.b.size, t.f - n.toNat, t.m, (t.s + n.toNat) % 18446744073709551616⟩, 0)
def Tp.chop (t : Tp) (n : Int) : Tp × Int := if n < 0 ∨ (t.b.size : Int) < n then (t, 1) else ({ t with b := t.b.extract 0 n.toNat, f := min t.f n.toNat }, 0)
/-- How many of them are left. -/
def Tp.left (t : Tp) (k : Int) : Nat := t.f + (max 0 (min k ((t.b.size : Int) - (t.f : Int)))).toNat
def Tp.crash (t : Tp) (k : Int) : Tp := { t with b := t.b.extract 0 (t.left k), f := t.left k }

theorem Tp.left_le (t : Tp) (h : t.ok) (k : Int) : t.f ≤ t.left k ∧ t.left k ≤ t.b.size := by
  have := h.fast
  unfold Tp.left
  omega
theorem ext_size (b : ByteArray) (i j : Nat) (h : j ≤ b.size) : (b.extract i j).size = j - i := by rw [ByteArray.size_extract]; omega
theorem Tp.new_ok (r : Int) : (Tp.new r).ok := ⟨Nat.le_refl _, Nat.zero_le _, by unfold Tp.new; simp only; omega, by unfold Tp.new; simp only; omega⟩
theorem Tp.app_ok (t : Tp) (h : t.ok) (x : ByteArray) : (t.app x).1.ok := by
  unfold Tp.app
  by_cases g : t.m < t.b.size + x.size
  · rw [if_pos g]
    exact h
  · rw [if_neg g]
    have z : (t.b ++ x).size = t.b.size + x.size := ByteArray.size_append
    exact ⟨by show t.f ≤ (t.b ++ x).size; have := h.fast; omega, by show (t.b ++ x).size ≤ t.m; omega, h.room, h.went⟩
theorem Tp.sync_ok (t : Tp) (h : t.ok) : t.sync.ok := ⟨Nat.le_refl _, h.few, h.room, h.went⟩
theorem Tp.cut_ok (t : Tp) (h : t.ok) (n : Int) : (t.cut n).1.ok := by
  unfold Tp.cut
  by_cases g : n < 0 ∨ (t.f : Int) < n
  · rw [if_pos g]
    exact h
  · rw [if_neg g]
    have z := ext_size t.b n.toNat t.b.size (Nat.le_refl _)
    have := h.fast
    have := h.few
    exact ⟨by show t.f - n.toNat ≤ (t.b.extract n.toNat t.b.size).size; omega, by show (t.b.extract n.toNat t.b.size).size ≤ t.m; omega, h.room, Nat.mod_lt _ (by omega)⟩
theorem Tp.chop_ok (t : Tp) (h : t.ok) (n : Int) : (t.chop n).1.ok := by
  unfold Tp.chop
  by_cases g : n < 0 ∨ (t.b.size : Int) < n
  · rw [if_pos g]
    exact h
  · rw [if_neg g]
    have z := ext_size t.b 0 n.toNat (by omega)
    have := h.few
    exact ⟨by show min t.f n.toNat ≤ (t.b.extract 0 n.toNat).size; omega, by show (t.b.extract 0 n.toNat).size ≤ t.m; omega, h.room, h.went⟩
theorem Tp.crash_ok (t : Tp) (h : t.ok) (k : Int) : (t.crash k).ok := by
  have hl := t.left_le h k
  have z := ext_size t.b 0 (t.left k) hl.2
  have := h.few
  exact ⟨by show t.left k ≤ (t.b.extract 0 (t.left k)).size; omega, by show (t.b.extract 0 (t.left k)).size ≤ t.m; omega, h.room, h.went⟩

/-! ### What a call may turn -/
/-- Only this block, and what is new, was turned. -/
structure But (g : Nat) (w w' : World) : Prop where
  os : w'.os = w.os
  tape : w'.tape = w.tape
  output : w'.output = w.output
  size : w.heap.size ≤ w'.heap.size
  block : ∀ k, k < w.heap.size → k ≠ g → w'.heap[k]? = w.heap[k]?
theorem But.refl (g : Nat) (w : World) : But g w w := ⟨rfl, rfl, rfl, Nat.le_refl _, fun _ _ _ => rfl⟩
theorem But.trans {g : Nat} {w x y : World} (h : But g w x) (k : But g x y) : But g w y :=
  ⟨k.os.trans h.os, k.tape.trans h.tape, k.output.trans h.output, Nat.le_trans h.size k.size, fun i hi hn => (k.block i (Nat.lt_of_lt_of_le hi h.size) hn).trans (h.block i hi hn)⟩
theorem But.set {g : Nat} {w x : World} (h : But g w x) (j : Nat) (v : Value) : But g w (x.setCell ⟨g, j, none⟩ v) :=
  ⟨h.os, h.tape, h.output, Nat.le_trans h.size ((Below.refl 0 x).setCell (Nat.zero_le _) v).size, fun i hi hn => (heap_setCell_other x ⟨g, j, none⟩ i v hn).trans (h.block i hi hn)⟩
theorem But.drew {g : Nat} {w x : World} (h : But g w x) : But g w x.drew := ⟨h.os, h.tape, h.output, h.size, h.block⟩
theorem But.below {g n : Nat} {w x : World} (h : But g w x) (hn : n ≤ g) (hs : n ≤ w.heap.size) : Below n w x :=
  ⟨h.os, h.tape, h.output, h.size, fun i hi => h.block i (by omega) (by omega)⟩
theorem But.row {g k : Nat} {w x : World} {t : TypeId} {cs : Array Value} (h : But g w x) (hr : RowAt w k t cs) (hn : k ≠ g) : RowAt x k t cs := (h.block k hr.lt hn).trans hr
end Go.Proofs.Ytmlbghloddiflaa
