/-
  A nil tape keeps nothing. TapeNil returns true for every input, and its arguments read as before.
  Condition: none but those that the form of every such statement bears by itself (each string within the reach).
-/
import Derived.Test.YtkmlgfmpcglfeaaRows
import Derived.ProofKit
import Derived.OpenShut
import Derived.ShutString
import Derived.SizedLaws
import Derived.JoinedCond
import Derived.Test.YtkmlgfmpcglfeaaK00
import Derived.Test.YtkmlgfmpcglfeaaK01

/-
  The walk of TapeNil: it returns true, and turns nothing that was there.
-/
namespace Go.Proofs.Ytkmlgfmpcglfeaa.tapeNil
open Go.RowKit
set_option linter.unusedVariables false

set_option maxRecDepth 4000 in
set_option maxHeartbeats 1600000 in
theorem walk (c : Tc) (w : World) (hf : c.fits) :
    Calls Try.prog 8 #[.agg (tcA c)] w fun e w' => e = .returned (.bool true) ∧ Below w.heap.size w w' := by
  obtain ⟨k, n, b⟩ := c
  unfold tcA
  simp only
  have hz := hf.2.2
  simp only at hz
  clear hf
  have hcv := fun w => Lib.run_convert_string_bytes (P := Try.prog) w 9 29 5 b Try.underlying9 Try.underlying29 Try.underlying5
  have h0 := RowAt.new w 35 #[.int .i64 k, .int .i64 n, .string b]
  have hb0 : Below w.heap.size w (w.alloc (.cells #[.int .i64 k, .int .i64 n, .string b] 35)) := (Below.refl _ _).alloc (Nat.le_refl _) _
  have H0 := hide (And.intro h0 hb0)
  clear h0 hb0
  go_enter Try.func8, Try.ntmps8
  go_wp2_with fail
  refine (awake8_any _).mono ?_
  rintro e w1 ⟨rfl, hb1⟩
  have H1 := hide (And.intro (H0.out.1.later hb1) (H0.out.2.trans (hb1.mono H0.out.2.size)))
  have c1 := H1.out.1.cell 1 _ rfl
  have c2 := H1.out.1.cell 2 _ rfl
  clear hb1 H0
  go_wp2_with fail
  refine (crash8_nil n _).mono ?_
  rintro e w2 ⟨rfl, rfl⟩
  go_wp2_with fail
  have hbc := below_conv w1 5 b
  have H2 := hide (And.intro (H1.out.1.later hbc) (H1.out.2.trans (hbc.mono H1.out.2.size)))
  clear H1 c1 c2 hbc hcv
  refine gen_calls (fun y => Hid (RowAt y w.heap.size 35 #[.int .i64 k, .int .i64 n, .string b] ∧ Below w.heap.size w y)) H2 ?_
  clear H2
  intro y H2
  have c1 := H2.out.1.cell 1 _ rfl
  refine (app8_nil _ _ _ _).mono ?_
  rintro e w2 ⟨rfl, rfl⟩
  go_wp2_with fail
  refine (sync8_nil _).mono ?_
  rintro e w2 ⟨rfl, rfl⟩
  go_wp2_with fail
  refine (cut8_nil n _).mono ?_
  rintro e w2 ⟨rfl, rfl⟩
  go_wp2_with fail
  refine (chop8_nil n _).mono ?_
  rintro e w2 ⟨rfl, rfl⟩
  go_wp2_with fail
  refine (len8_nil _).mono ?_
  rintro e w2 ⟨rfl, rfl⟩
  go_wp2_with fail
  refine (synced8_nil _).mono ?_
  rintro e w2 ⟨rfl, rfl⟩
  go_wp2_with fail
  refine (start8_nil _).mono ?_
  rintro e w2 ⟨rfl, rfl⟩
  go_wp2_with fail
  refine (room8_nil _).mono ?_
  rintro e w2 ⟨rfl, rfl⟩
  go_wp2_with fail
  refine (bytes8_nil _).mono ?_
  rintro e w2 ⟨rfl, rfl⟩
  go_wp2
  go_ret
  exact ⟨rfl, H2.out.2⟩
end Go.Proofs.Ytkmlgfmpcglfeaa.tapeNil

namespace Go.Proofs.Ytkmlgfmpcglfeaa.tapeNil
open Go.ChangeShapes Go.WideShapes Go.ChangeAt Go.RowKit
open Go.ChangeMaps (open_string shut_string)
set_option linter.unusedVariables false

theorem laidOut : laidOutB Try.prog = true := by kernel_rfl
theorem own : ownKnob Try.prog.godebug = none := by kernel_rfl

set_option maxRecDepth 100000 in
theorem lifted (os : Os) (started : os.Started) (H : Type) (enc : TypeId × Value → H) :
    ReturnsInHanded {} Try.checked os 8 .any (Rows.tapeNilSpec.pre6 enc Try.prog Try.f8 Rows.tapeNilRow.domain false) (Rows.tapeNilSpec.post enc Try.prog Try.f8 false true false false) := by
  refine returnsInHanded_of_change_sized (C := Try.checked) own started (by kernel_rfl) Try.func8
    (ChangeSpec.witness6 (enc := enc) (C := Try.checked) false ⟨#[], #[.agg #[.int .i64 0, .int .i64 0, .string ByteArray.empty]], []⟩ 8 (by kernel_rfl) (by kernel_rfl) (by kernel_rfl) (by kernel_rfl)) ?_
  intro W base args ds gs before hval0 hW hcnd hsz0 _
  have hval : ∀ (j : Nat) t v, Try.f8.params[j]? = some t → args[j]? = some v → Value.okWide Try.prog W .any base t v := hval0
  have hsz : (DataW.weightsEach Try.prog (Try.f8.params.toList ++ Rows.tapeNilSpec.plain.varTypes Try.prog) (ds ++ gs)).all (· ≤ reachBytes) = true := hsz0
  have hW' := hW
  obtain ⟨p, q, hA0, hV, rfl, hfz, hnd⟩ := hW
  have hA : DataW.TrodAll enc Try.prog W 0 (fun _ => true) true Try.f8.params.toList args.toList ds p := hA0
  rw [Try.params8] at hA hval hsz
  obtain ⟨v0, vs0, d0, ds0, p0, q0, hargs, rfl, rfl, h0, r0⟩ := trodAll_cons hA
  obtain ⟨rfl, rfl, rfl⟩ := trodAll_nil r0
  obtain rfl : args = #[v0] := by cases args; simp_all
  obtain ⟨rfl, rfl⟩ := trodVars_none hV
  have k0 := h0
  have lt0 := trod_places h0
  obtain ⟨m0, rfl, w0⟩ := op_tc (hval 0 35 v0 rfl rfl) h0
  clear hA0 hval0 hsz0 hsz
  refine (walk m0 W w0).mono fun e W' ⟨he, bel⟩ => ?_
  subst he
  exact ⟨_, rfl, _, _, _, [], _, [], hW', trodAll_mk1 (shut_bool Try.underlying4 _), (trodAll_cons_mk (Below.trod laidOut (by kernel_rfl) (of_decide_eq_true (by kernel_rfl)) k0 bel lt0) trodAll_mk0), rfl, bel.frame _, fun h => by cases h⟩

theorem over : Rows.tapeNilRow.holds Try.pinned (OpenSpec.ofChange Rows.tapeNilSpec) :=
  OpenClaim.holds_of_wide 8 Try.f8 rfl rfl rfl rfl rfl rfl rfl ⟨rfl, rfl, rfl, rfl, rfl⟩ rfl rfl rfl rfl rfl (by kernel_rfl) Try.func8 (by kernel_rfl)
    (of_decide_eq_true (by kernel_rfl)) (by unfold Func.isWrapper; first | (rw [if_pos (by decide +kernel)]; kernel_rfl) | (rw [if_neg (by decide +kernel)]; exact ⟨rfl, rfl⟩))
    (fun os started H enc _ => lifted os started H enc)

/-- THE STATEMENT. -/
theorem proved : Rows.TapeNilSaid := over
end Go.Proofs.Ytkmlgfmpcglfeaa.tapeNil
namespace Go.Proofs.Ytkmlgfmpcglfeaa
theorem tapeNil_proved : Rows.TapeNilSaid := tapeNil.proved
end Go.Proofs.Ytkmlgfmpcglfeaa
