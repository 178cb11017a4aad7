/-
  Texts that lean on one another, one behind the other: each opens with its own remark.
-/
import Derived.Test.YtohdmmfmjadipaaK14

/-
  The document's Decode: kind 1.
-/
namespace Go.Proofs.Ytohdmmfmjadipaa
open Go.RowKit
set_option linter.unusedVariables false

end Go.Proofs.Ytohdmmfmjadipaa

/-
  The document's Decode: kind 2.
-/
namespace Go.Proofs.Ytohdmmfmjadipaa
open Go.RowKit
set_option linter.unusedVariables false

end Go.Proofs.Ytohdmmfmjadipaa

/-
  The document's Decode: kind 6.
-/
namespace Go.Proofs.Ytohdmmfmjadipaa
open Go.RowKit
set_option linter.unusedVariables false

end Go.Proofs.Ytohdmmfmjadipaa

/-
  The document's Decode: rows that are read, and kept beside the record.
-/
namespace Go.Proofs.Ytohdmmfmjadipaa
open Go.RowKit
set_option linter.unusedVariables false

theorem exit_state {α : Type} {p : St → α × St} (hp : Good p) {n j : Nat} {s : St} (hj : j ≤ n) (h : j = n ∨ (itS p j s).e ≠ 0) : (pSome p n s).2 = itS p j s ∧ ((itS p j s).e = 0 → (pSome p n s).1 = itL p j s) := by
  have h1 := some_it hp n s
  rcases h with rfl | h
  · exact ⟨h1.1, fun h => h1.2 (by rw [h1.1]; exact h)⟩
  · refine ⟨?_, fun h2 => absurd h2 h⟩
    rw [h1.1, show n = j + (n - j) by omega, itS_add]
    exact itS_stick hp _ _ h
theorem load_v25 {b j : Nat} (x : World) (v : Value) (a : Option Addr) (n c : Nat) (hv : v = .slice a n c) (h : x.cell? ⟨b, j, none⟩ = some v) : (Instr.loadAt 27 (.pointer (some ⟨b, j, none⟩))).run Try.prog x = .ok v x := by
  subst hv
  go_simp
theorem load_v26 {b j : Nat} (x : World) (v : Value) (a : Option Addr) (n c : Nat) (hv : v = .slice a n c) (h : x.cell? ⟨b, j, none⟩ = some v) : (Instr.loadAt 28 (.pointer (some ⟨b, j, none⟩))).run Try.prog x = .ok v x := by
  subst hv
  go_simp
/-- What lies at other blocks than the row's is kept when the row grows. -/
theorem row_own {y z : World} {base n sz k : Nat} {e t : TypeId} {v : Value} {xs : List Value} {cs : Array Value} (h : y.ownsRow base e sz v n xs) (hg : y.grownBy z v.ownBlock) (hr : RowAt y k t cs) (ht : t ≠ e) : RowAt z k t cs := (hg.block k hr.lt (fun e => own_type h hr ht e.symm)).trans hr
theorem below_own {w y z : World} {n sz : Nat} {e : TypeId} {v : Value} {xs : List Value} (h : y.ownsRow w.heap.size e sz v n xs) (hb : Below w.heap.size w y) (hg : y.grownBy z v.ownBlock) : Below w.heap.size w z :=
  ⟨hg.os.trans hb.os, hg.tape.trans hb.tape, hg.output.trans hb.output, Nat.le_trans hb.size hg.size, fun k hk => (hg.block k (Nat.lt_of_lt_of_le hk hb.size) (own_ne h hk)).trans (hb.block k hk)⟩
theorem flatT_more (xs : List Tx) (x : Tx) : flatT (xs ++ [x]) = flatT xs ++ (txA x).toList := by
  unfold flatT
  rw [List.flatMap_append]
  simp
theorem flatD_more (xs : List Di) (x : Di) : flatD (xs ++ [x]) = flatD xs ++ (diA x).toList := by
  unfold flatD
  rw [List.flatMap_append]
  simp
end Go.Proofs.Ytohdmmfmjadipaa
