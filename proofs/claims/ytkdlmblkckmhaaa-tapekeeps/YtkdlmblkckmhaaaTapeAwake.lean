/-
  The contract of quaysidelaw08.awake.
-/
import Derived.Test.YtkdlmblkckmhaaaTapeKept
import Derived.Lib.SlBytesConst
namespace Go.Proofs.Ytkdlmblkckmhaaa
open Go.RowKit
set_option linter.unusedVariables false

def aw8b : Tp := ⟨⟨#[97, 98, 99]⟩, 0, 5, 0⟩
theorem aw8a_app : (Tp.new 5).app ⟨[97, 98, 99].toArray⟩ = (aw8b, 0) := rfl
theorem aw8b_app : aw8b.app ⟨[100, 101, 102].toArray⟩ = (aw8b, 7) := rfl

set_option maxRecDepth 4000 in
set_option maxHeartbeats 800000 in
theorem awake8_any (w : World) : Calls Try.prog 9 #[] w fun e w' => e = .returned (.bool true) ∧ Below w.heap.size w w' := by
  have kc := fun (w : World) (C : Array Value) (n c : Nat) => Lib.run_convert_bytes_const (P := Try.prog) w 29 5 C n c Try.underlying29 Try.underlying5
  go_enter Try.func9, Try.ntmps9
  go_wp2_with fail
  refine (knew8 5 w w (Below.refl _ _)).mono ?_
  rintro e w1 ⟨rfl, h1, -⟩
  have H1 := hide h1
  clear h1
  go_wp2_with fail
  have T := kapp8 w _ _ _ (H1.out.alloc (.cells #[.int .u8 97, .int .u8 98, .int .u8 99] 5 (3, 4))) (some ⟨w1.heap.size, 0, none⟩) 3 3 [97, 98, 99] (isB_lit w1 #[.int .u8 97, .int .u8 98, .int .u8 99] 5 (3, 4) _ 3 rfl rfl) (fun h => nomatch h) (by omega)
  rw [aw8a_app] at T
  refine T.mono ?_
  rintro e w2 ⟨rfl, h2⟩
  have H2 := hide h2
  clear h2 T H1
  go_wp2_with fail
  have T := kapp8 w _ _ _ (H2.out.alloc (.cells #[.int .u8 100, .int .u8 101, .int .u8 102] 5 (3, 4))) (some ⟨w2.heap.size, 0, none⟩) 3 3 [100, 101, 102] (isB_lit w2 #[.int .u8 100, .int .u8 101, .int .u8 102] 5 (3, 4) _ 3 rfl rfl) (fun h => nomatch h) (by omega)
  rw [aw8b_app] at T
  refine T.mono ?_
  rintro e w3 ⟨rfl, h3⟩
  have H3 := hide h3
  clear h3 T H2
  go_wp2_with fail
  refine (kbytes8 w _ _ _ H3.out).mono ?_
  rintro e w4 ⟨v, rfl, ho, h4, -⟩
  have H4 := hide h4
  obtain ⟨a4, c4, rfl, -, hB4⟩ := shape_isB ho
  have ht := run_toString (P := Try.prog) w4 29 9 5 Try.underlying29 Try.underlying5 Try.underlying9 a4 _ c4 _ hB4
  obtain ⟨s, hs, hd⟩ : ∃ s : ByteArray, s = ⟨aw8b.b.data.toList.toArray⟩ ∧ (s.toList == [97, 98, 99]) = true := ⟨_, rfl, by decide +kernel⟩
  rw [← hs] at ht
  clear h4 H3 ho hB4 hs
  go_wp2_with fail
  refine (kroom8 w _ _ _ H4.out).mono ?_
  rintro e w5 ⟨rfl, rfl⟩
  have hm : aw8b.m = 5 := rfl
  rw [hm]
  go_wp2
  go_ret
  exact ⟨rfl, H4.out.bel⟩
end Go.Proofs.Ytkdlmblkckmhaaa
