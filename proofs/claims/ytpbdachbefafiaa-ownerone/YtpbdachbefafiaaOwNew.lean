/-
  The contract of package owner's New.
-/
import Derived.Test.YtpbdachbefafiaaOwCode
namespace Go.Proofs.Ytpbdachbefafiaa
open Go.RowKit
set_option linter.unusedVariables false

def spZ : Array Value := #[.int .i64 0, .int .i64 0]
theorem infoS14 : (Try.prog.info? 68).map (fun i => (i.zero, i.size, i.bytes)) = some (some (.agg spZ), 2, 16) := by kernel_rfl
/-- The row of spots that was made. -/
def mdS (k : Nat) : Array Value := madeCells spZ (k * 2)
def Dr.newN (k : Nat) : Dr := ⟨k, fun _ => Sp.home⟩
theorem mdS_at (k i j : Nat) (hi : i < k) (hj : j < 2) : (mdS k)[i * 2 + j]? = some (.int .i64 0) := by
  unfold mdS madeCells
  rw [Array.getElem?_map, Array.getElem?_range, if_pos (by omega), Option.map_some]
  have hz : spZ.size = 2 := rfl
  rw [hz, show (i * 2 + j) % 2 = j by omega]
  rcases j with _ | _ | j
  · rfl
  · rfl
  · omega
theorem mdS_spb (k : Nat) : SpB (mdS k) (Dr.newN k) := ⟨by
  show 2 * k ≤ _
  unfold mdS
  rw [size_madeCells]
  omega, fun i hi => mdS_at k i 0 hi (by omega), fun i hi => mdS_at k i 1 hi (by omega)⟩
theorem run_mkS (k : Nat) (h : k ≤ 32) (w : World) : (Instr.makeSlice 49 (.int .i64 (k : Int)) (.int .i64 (k : Int))).run Try.prog w = .ok (.slice (some ⟨w.heap.size, 0, none⟩) k k) (w.alloc (.cells (mdS k) 68)) := by
  obtain ⟨z, hz0⟩ : ∃ z : Value, z = .agg spZ := ⟨_, rfl⟩
  have hI := infoS14
  rw [← hz0] at hI
  obtain ⟨i, hi, hz, hs, hb⟩ := info_parts hI
  have hr := run_make (P := Try.prog) w 49 68 i z Try.underlying49 hi hz .i64 .i64 (k : Int) (k : Int) (by omega) (by omega) (by rw [hb]; omega) (by omega)
  rw [Int.toNat_natCast, hs, hz0] at hr
  exact hr
set_option maxRecDepth 4000 in
set_option maxHeartbeats 800000 in
theorem new14_go (p : Int) (k : Nat) (w : World) (hk : k ≤ 32) (hk1 : 1 ≤ k) (q : Int) (hq : (if p < 1 then 1 else p) = q) (hp : (if 32 < q then 32 else q) = (k : Int)) :
    Calls Try.prog 9 #[.int .i64 p] w fun e w' => ∃ g gr, e = .returned (.pointer (some ⟨g, 0, none⟩)) ∧ DC w' g gr (Dr.newN k) ∧ w.heap.size ≤ g ∧ w.heap.size ≤ gr ∧ Below w.heap.size w w' := by
  have hmk := fun w => run_mkS k hk w
  go_enter Try.func9, Try.ntmps9
  go_wp2
  go_ret
  have h1 := RowAt.new w 68 (mdS k)
  have h2 := RowAt.new (w.alloc (.cells (mdS k) 68)) 51 #[.slice (some ⟨w.heap.size, 0, none⟩) k k]
  rw [World.size_alloc] at h2
  refine ⟨w.heap.size + 1, w.heap.size, rfl, ⟨k, _, h2, h1.later ((Below.refl _ _).alloc (Nat.le_refl _) _), mdS_spb k, Nat.le_refl _, by unfold maxLen; omega, by decide, hk⟩, by omega, Nat.le_refl _, ?_⟩
  exact ((Below.refl _ _).alloc (Nat.le_refl _) _).alloc (by rw [World.size_alloc]; omega) _
theorem new14 (p : Int) (w : World) : Calls Try.prog 9 #[.int .i64 p] w fun e w' => ∃ g gr, e = .returned (.pointer (some ⟨g, 0, none⟩)) ∧ DC w' g gr (Dr.new p) ∧ w.heap.size ≤ g ∧ w.heap.size ≤ gr ∧ Below w.heap.size w w' := by
  have hk : (min (max p 1) 32).toNat ≤ 32 ∧ 1 ≤ (min (max p 1) 32).toNat := by omega
  refine new14_go p (min (max p 1) 32).toNat w hk.1 hk.2 (max p 1) ?_ ?_
  · by_cases h : p < 1
    · rw [if_pos h]; omega
    · rw [if_neg h]; omega
  · by_cases h : 32 < max p 1
    · rw [if_pos h]; omega
    · rw [if_neg h]; omega
end Go.Proofs.Ytpbdachbefafiaa
