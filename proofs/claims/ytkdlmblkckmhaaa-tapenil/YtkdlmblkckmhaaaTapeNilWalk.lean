/-
  The walk of TapeNil: it returns true, and turns nothing that was there.
-/
import Derived.Test.YtkdlmblkckmhaaaTapeAwake
import Derived.Test.YtkdlmblkckmhaaaTapeNils
import Derived.Test.YtkdlmblkckmhaaaTapeArgs
namespace Go.Proofs.Ytkdlmblkckmhaaa.tapeNil
open Go.RowKit
set_option linter.unusedVariables false

set_option maxRecDepth 4000 in
set_option maxHeartbeats 1600000 in
theorem walk (c : Tc) (w : World) (hf : c.fits) :
    Calls Try.prog 8 #[.agg (tcA c)] w fun e w' => e = .returned (.bool true) ∧ Below w.heap.size w w' := by
  obtain ⟨k, n, b⟩ := c
  unfold tcA
  simp only
  have hz := hf.2.2
  simp only at hz
  clear hf
  have hcv := fun w => Lib.run_convert_string_bytes (P := Try.prog) w 9 29 5 b Try.underlying9 Try.underlying29 Try.underlying5
  have h0 := RowAt.new w 35 #[.int .i64 k, .int .i64 n, .string b]
  have hb0 : Below w.heap.size w (w.alloc (.cells #[.int .i64 k, .int .i64 n, .string b] 35)) := (Below.refl _ _).alloc (Nat.le_refl _) _
  have H0 := hide (And.intro h0 hb0)
  clear h0 hb0
  go_enter Try.func8, Try.ntmps8
  go_wp2_with fail
  refine (awake8_any _).mono ?_
  rintro e w1 ⟨rfl, hb1⟩
  have H1 := hide (And.intro (H0.out.1.later hb1) (H0.out.2.trans (hb1.mono H0.out.2.size)))
  have c1 := H1.out.1.cell 1 _ rfl
  have c2 := H1.out.1.cell 2 _ rfl
  clear hb1 H0
  go_wp2_with fail
  refine (crash8_nil n _).mono ?_
  rintro e w2 ⟨rfl, rfl⟩
  go_wp2_with fail
  have hbc := below_conv w1 5 b
  have H2 := hide (And.intro (H1.out.1.later hbc) (H1.out.2.trans (hbc.mono H1.out.2.size)))
  clear H1 c1 c2 hbc hcv
  refine gen_calls (fun y => Hid (RowAt y w.heap.size 35 #[.int .i64 k, .int .i64 n, .string b] ∧ Below w.heap.size w y)) H2 ?_
  clear H2
  intro y H2
  have c1 := H2.out.1.cell 1 _ rfl
  refine (app8_nil _ _ _ _).mono ?_
  rintro e w2 ⟨rfl, rfl⟩
  go_wp2_with fail
  refine (sync8_nil _).mono ?_
  rintro e w2 ⟨rfl, rfl⟩
  go_wp2_with fail
  refine (cut8_nil n _).mono ?_
  rintro e w2 ⟨rfl, rfl⟩
  go_wp2_with fail
  refine (chop8_nil n _).mono ?_
  rintro e w2 ⟨rfl, rfl⟩
  go_wp2_with fail
  refine (len8_nil _).mono ?_
  rintro e w2 ⟨rfl, rfl⟩
  go_wp2_with fail
  refine (synced8_nil _).mono ?_
  rintro e w2 ⟨rfl, rfl⟩
  go_wp2_with fail
  refine (start8_nil _).mono ?_
  rintro e w2 ⟨rfl, rfl⟩
  go_wp2_with fail
  refine (room8_nil _).mono ?_
  rintro e w2 ⟨rfl, rfl⟩
  go_wp2_with fail
  refine (bytes8_nil _).mono ?_
  rintro e w2 ⟨rfl, rfl⟩
  go_wp2
  go_ret
  exact ⟨rfl, H2.out.2⟩
end Go.Proofs.Ytkdlmblkckmhaaa.tapeNil
