/-
  The contract of quaysidelaw05.awake: it answers true, and turns nothing that was there.
-/
import Derived.Test.YtcehppekcbbaaabChangeAppAll
import Derived.Test.YtcehppekcbbaaabChangeEq
import Derived.Test.YtcehppekcbbaaabPageKept
namespace Go.Proofs.Ytcehppekcbbaaab
open Go.RowKit
set_option linter.unusedVariables false

def strA : ByteArray := ⟨#[97]⟩
def chI : Ch := ⟨1, 0, 2, ⟨#[]⟩, strA⟩
theorem app5 : appE Pg.zero chI 5 = 0 ∧ pgA (appP Pg.zero chI 5) = pgA ⟨5, fun i => decide (i = 2), fun i => if i = 2 then strA else ⟨#[]⟩⟩ := by
  have hz : Pg.zero.right := ⟨by decide, fun i _ => ⟨by show (0 : Nat) ≤ 20; omega, fun _ => rfl⟩⟩
  have hc : chI.right := by decide
  have h : appE Pg.zero chI 5 = 0 := (app_yes _ _ _).2 ⟨hz, hc, by decide, by decide, by decide, rfl⟩
  refine ⟨h, ?_⟩
  unfold appP
  rw [if_pos h]
  rfl

set_option maxRecDepth 4000 in
set_option maxHeartbeats 400000 in
theorem awake_any (w : World) : Calls Try.prog 4 #[] w fun e w' => e = .returned (.bool true) ∧ Below w.heap.size w w' := by
  have A := fun w => apply_any Pg.zero chI 5 w (by decide)
  rw [app5.1, app5.2] at A
  have HA := hide A
  clear A
  go_enter Try.func4, Try.ntmps4
  go_wp2_with fail
  refine (HA.out _).mono ?_
  rintro e w1 ⟨rfl, hb1⟩
  clear HA
  go_wp2_with (refine wpList_store_page rfl _ _ rfl w1.heap.size Pg.zero _ rfl rfl (show PgAt _ w1.heap.size Pg.zero from heap_alloc_new w1 _) ?_)
  intro w2 hP2 hk
  have d2 := hk _ _ (hb1.alloc hb1.size _) hb1.size
  have a0 := hP2.lsn
  have a1 := hP2.used 2 (by omega)
  have a2 : w2.cell? ⟨w1.heap.size, 1 + 2 * 2 + 1, none⟩ = some (.string ⟨#[97]⟩) := hP2.val 2 (by omega)
  clear hk hb1 hP2
  go_wp2
  go_ret
  exact ⟨rfl, d2⟩
end Go.Proofs.Ytcehppekcbbaaab
