/-
  The contract of quaysidelaw04.awake: it answers true, and turns nothing that was there.
-/
import Derived.Test.YtkbigineepohnaaPageEnc
namespace Go.Proofs.Ytkbigineepohnaa
open Go.RowKit
set_option linter.unusedVariables false

/-- The page of 'awake'. -/
def pg7 : Pg := ⟨7, fun _ => false, fun _ => ⟨#[]⟩⟩
theorem enc7 : (encB 3 pg7).2 = 0 ∧ (encB 3 pg7).1.length = 256 ∧ (encB 3 pg7).1.getD 7 0 = 7 ∧ (encB 3 pg7).1.getD 9 0 = 3 ∧ (encB 3 pg7).1.getD 10 0 = 255 ∧ (encB 3 pg7).1.getD 135 0 = 7 := by decide +kernel

/-- A byte of a row that is owned. -/
theorem own_byte {w : World} {base g cap n : Nat} {e : TypeId} {bs : List UInt8} (h : w.ownsRow base e 1 (.slice (some ⟨g, 0, none⟩) n cap) n (toV bs)) (j : Nat) (hj : j < bs.length) (hn : bs.length = n) : w.cell? ⟨g, j, none⟩ = some (.int .u8 ((bs.getD j 0).toNat : Int)) :=
  (h.cellAt j (by omega)).trans (toV_get _ j hj)

set_option maxHeartbeats 400000 in
theorem awake_any (w : World) : Calls Try.prog 9 #[] w fun e w' => e = .returned (.bool true) ∧ Below w.heap.size w w' := by
  have E := fun w => enc_any 3 pg7 w
  obtain ⟨e0, el, e1, e2, e3, e4⟩ := enc7
  rw [e0, el] at E
  have HE := hide E
  clear E
  go_enter Try.func9, Try.ntmps9
  go_wp2_with fail
  refine (HE.out _).mono ?_
  rintro e w1 ⟨v, rfl, hown, hb⟩
  obtain ⟨g, cap, hv, hg⟩ := own_slice hown (by omega)
  rw [hv] at hown ⊢
  have c1 := own_byte hown 7 (by omega) el
  have c2 := own_byte hown 9 (by omega) el
  have c3 := own_byte hown 10 (by omega) el
  have c4 := own_byte hown 135 (by omega) el
  rw [e1] at c1
  rw [e2] at c2
  rw [e3] at c3
  rw [e4] at c4
  have n1 : (7 : UInt8).toNat = 7 := rfl
  have n2 : (3 : UInt8).toNat = 3 := rfl
  have n3 : (255 : UInt8).toNat = 255 := rfl
  rw [n1] at c1 c4
  rw [n2] at c2
  rw [n3] at c3
  clear hown HE e0 el e1 e2 e3 e4 n1 n2 n3
  go_wp2
  go_ret
  exact ⟨rfl, hb⟩
end Go.Proofs.Ytkbigineepohnaa
