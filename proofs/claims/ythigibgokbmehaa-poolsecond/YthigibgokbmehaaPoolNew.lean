/-
  The contract of package pool's New, over texts.
-/
import Derived.Test.YthigibgokbmehaaPoolSmall
namespace Go.Proofs.Ythigibgokbmehaa
open Go.RowKit
set_option linter.unusedVariables false

theorem infoN11 : (Try.prog.info? 87).map (fun i => (i.zero, i.size, i.bytes)) = some (some (.agg (frL (Fr.empty (.string ⟨#[]⟩))).toArray), 6, 56) := by kernel_rfl
/-- The row of frames that was made. -/
def mdF (z : Value) (k : Nat) : Array Value := madeCells (frL (Fr.empty z)).toArray (k * 6)
def Po.newN (z : Value) (k : Nat) : Po := ⟨z, k, 0, fun _ => Fr.empty z⟩
theorem mdF_fb (z : Value) (k : Nat) : FB frL (mdF z k) (Po.newN z k) := by
  refine ⟨frL_len, ?_, fun i hi => ?_⟩
  · show 6 * k ≤ _
    unfold mdF
    rw [size_madeCells]
    omega
  · intro j hj
    have hj6 : j < 6 := hj
    have hi' : i < k := hi
    show (mdF z k)[i * 6 + j]? = (frL (Fr.empty z))[j]?
    unfold mdF madeCells
    rw [Array.getElem?_map, Array.getElem?_range, if_pos (by omega), Option.map_some]
    have hz : (frL (Fr.empty z)).toArray.size = 6 := rfl
    rw [hz, show (i * 6 + j) % 6 = j by omega]
    rcases j with _ | _ | _ | _ | _ | _ | j
    · rfl
    · rfl
    · rfl
    · rfl
    · rfl
    · rfl
    · omega
theorem run_mkF (k : Nat) (h : k ≤ 16) (w : World) : (Instr.makeSlice 64 (.int .i64 (k : Int)) (.int .i64 (k : Int))).run Try.prog w = .ok (.slice (some ⟨w.heap.size, 0, none⟩) k k) (w.alloc (.cells (mdF (.string ⟨#[]⟩) k) 87)) := by
  obtain ⟨z, hz0⟩ : ∃ z : Value, z = .agg (frL (Fr.empty (.string ⟨#[]⟩))).toArray := ⟨_, rfl⟩
  have hI := infoN11
  rw [← hz0] at hI
  obtain ⟨i, hi, hz, hs, hb⟩ := info_parts hI
  have hr := run_make (P := Try.prog) w 64 87 i z Try.underlying64 hi hz .i64 .i64 (k : Int) (k : Int) (by omega) (by omega) (by rw [hb]; omega) (by omega)
  rw [Int.toNat_natCast, hs, hz0] at hr
  exact hr
set_option maxRecDepth 4000 in
set_option maxHeartbeats 800000 in
theorem new11_go (p : Int) (k : Nat) (w : World) (hk : k ≤ 16) (hk1 : 1 ≤ k) (q : Int) (hq : (if p < 1 then 1 else p) = q) (hp : (if 16 < q then 16 else q) = (k : Int)) :
    Calls Try.prog 10 #[.int .i64 p] w fun e w' => ∃ g gr, e = .returned (.pointer (some ⟨g, 0, none⟩)) ∧ PS w' g gr (Po.newN (.string ⟨#[]⟩) k) ∧ w.heap.size ≤ g ∧ w.heap.size ≤ gr ∧ Below w.heap.size w w' := by
  have hmk := fun w => run_mkF k hk w
  go_enter Try.func10, Try.ntmps10
  go_wp2
  go_ret
  have h1 := RowAt.new w 87 (mdF (.string ⟨#[]⟩) k)
  have h2 := RowAt.new (w.alloc (.cells (mdF (.string ⟨#[]⟩) k) 87)) 66 #[.slice (some ⟨w.heap.size, 0, none⟩) k k, .int .i64 0]
  rw [World.size_alloc] at h2
  refine ⟨w.heap.size + 1, w.heap.size, rfl, ⟨k, _, h2, h1.later ((Below.refl _ _).alloc (Nat.le_refl _) _), mdF_fb _ k, Nat.le_refl _, by unfold maxLen; omega, by decide⟩, by omega, Nat.le_refl _, ?_⟩
  exact ((Below.refl _ _).alloc (Nat.le_refl _) _).alloc (by rw [World.size_alloc]; omega) _
theorem new11 (p : Int) (w : World) : Calls Try.prog 10 #[.int .i64 p] w fun e w' => ∃ g gr, e = .returned (.pointer (some ⟨g, 0, none⟩)) ∧ PS w' g gr (Po.new (.string ⟨#[]⟩) p) ∧ w.heap.size ≤ g ∧ w.heap.size ≤ gr ∧ Below w.heap.size w w' := by
  have hk : (min (max p 1) 16).toNat ≤ 16 ∧ 1 ≤ (min (max p 1) 16).toNat := by omega
  refine new11_go p (min (max p 1) 16).toNat w hk.1 hk.2 (max p 1) ?_ ?_
  · by_cases h : p < 1
    · rw [if_pos h]; omega
    · rw [if_neg h]; omega
  · by_cases h : 16 < max p 1
    · rw [if_pos h]; omega
    · rw [if_neg h]; omega
end Go.Proofs.Ythigibgokbmehaa
