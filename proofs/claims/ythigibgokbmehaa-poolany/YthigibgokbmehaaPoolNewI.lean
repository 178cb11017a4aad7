/-
  The contract of package pool's New, over numbers.
-/
import Derived.Test.YthigibgokbmehaaPoolSmallI
import Derived.Test.YthigibgokbmehaaPoolNew
namespace Go.Proofs.Ythigibgokbmehaa
open Go.RowKit
set_option linter.unusedVariables false

theorem infoN11i : (Try.prog.info? 91).map (fun i => (i.zero, i.size, i.bytes)) = some (some (.agg (frL (Fr.empty (.int .i64 0))).toArray), 6, 48) := by kernel_rfl
theorem run_mkFi (k : Nat) (h : k ≤ 16) (w : World) : (Instr.makeSlice 79 (.int .i64 (k : Int)) (.int .i64 (k : Int))).run Try.prog w = .ok (.slice (some ⟨w.heap.size, 0, none⟩) k k) (w.alloc (.cells (mdF (.int .i64 0) k) 91)) := by
  obtain ⟨z, hz0⟩ : ∃ z : Value, z = .agg (frL (Fr.empty (.int .i64 0))).toArray := ⟨_, rfl⟩
  have hI := infoN11i
  rw [← hz0] at hI
  obtain ⟨i, hi, hz, hs, hb⟩ := info_parts hI
  have hr := run_make (P := Try.prog) w 79 91 i z Try.underlying79 hi hz .i64 .i64 (k : Int) (k : Int) (by omega) (by omega) (by rw [hb]; omega) (by omega)
  rw [Int.toNat_natCast, hs, hz0] at hr
  exact hr
set_option maxRecDepth 4000 in
set_option maxHeartbeats 800000 in
theorem new11_goi (p : Int) (k : Nat) (w : World) (hk : k ≤ 16) (hk1 : 1 ≤ k) (q : Int) (hq : (if p < 1 then 1 else p) = q) (hp : (if 16 < q then 16 else q) = (k : Int)) :
    Calls Try.prog 14 #[.int .i64 p] w fun e w' => ∃ g gr, e = .returned (.pointer (some ⟨g, 0, none⟩)) ∧ PI w' g gr (Po.newN (.int .i64 0) k) ∧ w.heap.size ≤ g ∧ w.heap.size ≤ gr ∧ Below w.heap.size w w' := by
  have hmk := fun w => run_mkFi k hk w
  go_enter Try.func14, Try.ntmps14
  go_wp2
  go_ret
  have h1 := RowAt.new w 91 (mdF (.int .i64 0) k)
  have h2 := RowAt.new (w.alloc (.cells (mdF (.int .i64 0) k) 91)) 81 #[.slice (some ⟨w.heap.size, 0, none⟩) k k, .int .i64 0]
  rw [World.size_alloc] at h2
  refine ⟨w.heap.size + 1, w.heap.size, rfl, ⟨k, _, h2, h1.later ((Below.refl _ _).alloc (Nat.le_refl _) _), mdF_fb _ k, Nat.le_refl _, by unfold maxLen; omega, by decide⟩, by omega, Nat.le_refl _, ?_⟩
  exact ((Below.refl _ _).alloc (Nat.le_refl _) _).alloc (by rw [World.size_alloc]; omega) _
theorem new11i (p : Int) (w : World) : Calls Try.prog 14 #[.int .i64 p] w fun e w' => ∃ g gr, e = .returned (.pointer (some ⟨g, 0, none⟩)) ∧ PI w' g gr (Po.new (.int .i64 0) p) ∧ w.heap.size ≤ g ∧ w.heap.size ≤ gr ∧ Below w.heap.size w w' := by
  have hk : (min (max p 1) 16).toNat ≤ 16 ∧ 1 ≤ (min (max p 1) 16).toNat := by omega
  refine new11_goi p (min (max p 1) 16).toNat w hk.1 hk.2 (max p 1) ?_ ?_
  · by_cases h : p < 1
    · rw [if_pos h]; omega
    · rw [if_neg h]; omega
  · by_cases h : 16 < max p 1
    · rw [if_pos h]; omega
    · rw [if_neg h]; omega
end Go.Proofs.Ythigibgokbmehaa
