/-
  Records in memory.
-/
import Derived.Test.YtmapgfakfeddmaaRecMath
import Derived.Test.YtmapgfakfeddmaaChMem
import Derived.Test.YtmapgfakfeddmaaRowsKept
import Derived.Deep.MidRow
namespace Go.Proofs.Ytmapgfakfeddmaa
open Go.RowKit
set_option linter.unusedVariables false

/-- A record's cells: its two lists as the values that lie there. -/
def rcA (r : Rec) (va vb : Value) : Array Value := #[.int .i64 r.k, .int .u64 (r.l : Int), .int .i64 r.t, .int .u64 (r.p : Int), .int .i64 r.c.k, .int .i64 r.c.pg, .int .i64 r.c.sl, .string r.c.o, .string r.c.n, .int .u64 (r.n : Int), .int .i64 r.s, .int .u64 (r.b : Int), va, vb]
def txA (x : Tx) : Array Value := #[.int .i64 x.t, .int .i64 x.s, .int .u64 (x.f : Int), .int .u64 (x.l : Int), .int .u64 (x.n : Int)]
def diA (d : Di) : Array Value := #[.int .i64 d.p, .int .u64 (d.r : Int)]
theorem infoRc : (Try.prog.info? 28).map (·.size) = some 14 := by kernel_rfl
theorem infoTx : (Try.prog.info? 65).map (·.size) = some 5 := by kernel_rfl
theorem infoDi : (Try.prog.info? 67).map (·.size) = some 2 := by kernel_rfl
theorem txA_one (x : Tx) : (txA x).all (·.oneCell') = true := by simp [txA, Value.oneCell']
theorem diA_one (d : Di) : (diA d).all (·.oneCell') = true := by simp [diA, Value.oneCell']

/-- A list of structs that lies there. -/
def RowsIn {α : Type} (f : α → Array Value) (z : α) (n : Nat) (w : World) (v : Value) (xs : List α) : Prop :=
  ∃ a cap, v = .slice a xs.length cap ∧ (0 < xs.length → ∃ b off, a = some ⟨b, off, none⟩ ∧ b < w.heap.size ∧ ∀ i, i < xs.length → w.rangeAt b (off + i * n) (f (xs.getD i z)).toList)
theorem rangeAt_below {w w' : World} {b o B : Nat} {cs : List Value} (h : w.rangeAt b o cs) (hb : Below B w w') (hB : b < B) : w'.rangeAt b o cs := fun j v hv => by
  rw [hb.cell (p := ⟨b, o + j, none⟩) hB]
  exact h j v hv
theorem RowsIn.below {α : Type} {f : α → Array Value} {z : α} {n : Nat} {w w' : World} {v : Value} {xs : List α} (h : RowsIn f z n w v xs) (hb : Below w.heap.size w w') : RowsIn f z n w' v xs := by
  obtain ⟨a, cap, h1, h2⟩ := h
  refine ⟨a, cap, h1, fun hp => ?_⟩
  obtain ⟨b, off, h3, h4, h5⟩ := h2 hp
  exact ⟨b, off, h3, Nat.lt_of_lt_of_le h4 hb.size, fun i hi => rangeAt_below (h5 i hi) hb h4⟩
abbrev TxIn := RowsIn txA Tx.zero 5
abbrev DiIn := RowsIn diA Di.zero 2
/-- Both lists of a record. -/
def RcIn (w : World) (r : Rec) (va vb : Value) : Prop := TxIn w va r.ts ∧ DiIn w vb r.ds
theorem RcIn.below {w w' : World} {r : Rec} {va vb : Value} (h : RcIn w r va vb) (hb : Below w.heap.size w w') : RcIn w' r va vb := ⟨h.1.below hb, h.2.below hb⟩
theorem RcIn.drew {w : World} {r : Rec} {va vb : Value} (h : RcIn w r va vb) : RcIn w.drew r va vb := h
end Go.Proofs.Ytmapgfakfeddmaa
