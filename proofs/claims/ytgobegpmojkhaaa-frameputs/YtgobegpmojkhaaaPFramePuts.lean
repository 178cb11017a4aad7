/-
  FramePuts: any record has the frame that the document says, or none. FramePuts returns true for every input, and its arguments read as before.
  Condition: none but those that the form of every such statement bears by itself (each string within the reach).
-/
import Derived.OpenShut
import Derived.Test.YtgobegpmojkhaaaRows
import Derived.ProofKit
import Derived.ShutString
import Derived.SizedLaws
import Derived.JoinedCond
import Derived.Test.YtgobegpmojkhaaaK05
import Derived.Test.YtgobegpmojkhaaaK06
import Derived.Test.YtgobegpmojkhaaaK00

/-
  The walk of FramePuts: it returns true, and turns nothing that was there.
-/
namespace Go.Proofs.Ytgobegpmojkhaaa.framePuts
open Go.RowKit
set_option linter.unusedVariables false

set_option maxRecDepth 4000 in
set_option maxHeartbeats 1600000 in
theorem core (r : Rec) (va vb : Value) (w : World) (hf : r.fits) (hin : RcIn w r va vb) :
    Calls Try.prog 3 #[.agg (rcA r va vb)] w fun e w' => e = .returned (.bool true) ∧ Below w.heap.size w w' := by
  have HIN := hide hin
  have HE := hide (fun w h => fput_any r va vb w hf h)
  have HRE := hide (fun w h => rput7_any r va vb w hf h)
  have HRM := hide (fun w h => froom_any r va vb w hf h)
  obtain ⟨⟨e1, cap1, rfl, -⟩, ⟨e2, cap2, rfl, -⟩⟩ := hin
  have HK0 := hide (Keeps.one w 28 (rcA r (.slice e1 r.ts.length cap1) (.slice e2 r.ds.length cap2)))
  clear hf
  generalize putL r = L at *
  generalize encE r = er at *
  go_enter Try.func3, Try.ntmps3
  go_wp2_with fail
  refine gen_calls (fun x => Hid (Keeps w x [(w.heap.size, 28, (rcA r (.slice e1 r.ts.length cap1) (.slice e2 r.ds.length cap2)))])) HK0 ?_
  clear HK0
  intro x0 HK0
  refine (awake7_any _).mono ?_
  rintro e w1 ⟨rfl, hb1⟩
  have HK1 := hide (HK0.out.later hb1)
  clear HK0 hb1
  go_wp2_with (refine wpList_load_at rfl 28 (.tmp 1) rfl w.heap.size rfl (rcA r (.slice e1 r.ts.length cap1) (.slice e2 r.ds.length cap2)) HK1.out.1.1 _ Try.underlying28 rfl infoRc ?_)
  refine (HE.out _ (HIN.out.below HK1.out.2)).mono ?_
  rintro e w2 ⟨v, rfl, hown2, hb2⟩
  obtain ⟨a2, cap3, rfl, -, hB2⟩ := shape_isB hown2
  have HK2 := hide (HK1.out.later hb2)
  have HB2 := hide hB2
  clear HK1 hb2 hB2 HE hown2
  go_wp2_with (refine wpList_load_at rfl 28 (.tmp 1) rfl w.heap.size rfl (rcA r (.slice e1 r.ts.length cap1) (.slice e2 r.ds.length cap2)) HK2.out.1.1 _ Try.underlying28 rfl infoRc ?_)
  refine (HRE.out _ (HIN.out.below HK2.out.2)).mono ?_
  rintro e w3 ⟨rfl, hb3⟩
  have HK3 := hide (HK2.out.later hb3)
  have HB3 := hide (HB2.out.below hb3)
  clear HK2 hb3 HB2 HRE
  have hz := mkS_size L
  generalize L.length = ln at *
  have hcv : ∀ x, IsB x a2 ln L → Sem.run Try.prog (Go.convert 30 9 (.slice a2 ln cap3)) x = .ok (.string (mkS L)) x := fun x hx => run_toString (P := Try.prog) x 30 9 5 Try.underlying30 Try.underlying5 Try.underlying9 a2 ln cap3 _ hx
  have hc3 := hcv w3 HB3.out
  clear hcv
  generalize mkS L = ms at *
  have c0 := HK3.out.1.1.cell 0 (.int .i64 r.k) rfl
  have c1 := HK3.out.1.1.cell 1 (.int .u64 (r.l : Int)) rfl
  have c2 := HK3.out.1.1.cell 2 (.int .i64 r.t) rfl
  have c3 := HK3.out.1.1.cell 3 (.int .u64 (r.p : Int)) rfl
  have c4 := HK3.out.1.1.cell 4 (.int .i64 r.c.k) rfl
  have c5 := HK3.out.1.1.cell 5 (.int .i64 r.c.pg) rfl
  have c6 := HK3.out.1.1.cell 6 (.int .i64 r.c.sl) rfl
  have c7 := HK3.out.1.1.cell 7 (.string r.c.o) rfl
  have c8 := HK3.out.1.1.cell 8 (.string r.c.n) rfl
  have c9 := HK3.out.1.1.cell 9 (.int .u64 (r.n : Int)) rfl
  have c10 := HK3.out.1.1.cell 10 (.int .i64 r.s) rfl
  have c11 := HK3.out.1.1.cell 11 (.int .u64 (r.b : Int)) rfl
  have c12 := HK3.out.1.1.cell 12 (.slice e1 r.ts.length cap1) rfl
  have c13 := HK3.out.1.1.cell 13 (.slice e2 r.ds.length cap2) rfl
  go_wp2_with fail
  refine (HRM.out w3 (HIN.out.below HK3.out.2)).mono ?_
  rintro e w4 ⟨rfl, hb4⟩
  have d4 := (HK3.out.later hb4).2
  clear HK3 HB3 HRM hb4 HIN hc3 c0 c1 c2 c3 c4 c5 c6 c7 c8 c9 c10 c11 c12 c13
  go_wp2
  go_ret
  exact ⟨rfl, d4⟩

theorem walk (m : Rec × Value × Value) (w : World) (hf : m.1.fits) (hin : RcIn w m.1 m.2.1 m.2.2) :
    Calls Try.prog 3 #[.agg (rcA m.1 m.2.1 m.2.2)] w fun e w' => e = .returned (.bool true) ∧ Below w.heap.size w w' := core m.1 m.2.1 m.2.2 w hf hin
end Go.Proofs.Ytgobegpmojkhaaa.framePuts

namespace Go.Proofs.Ytgobegpmojkhaaa.framePuts
open Go.ChangeShapes Go.WideShapes Go.ChangeAt Go.RowKit
open Go.ChangeMaps (open_string shut_string)
set_option linter.unusedVariables false

theorem laidOut : laidOutB Try.prog = true := by kernel_rfl
theorem own : ownKnob Try.prog.godebug = none := by kernel_rfl

set_option maxRecDepth 100000 in
theorem lifted (os : Os) (started : os.Started) (H : Type) (enc : TypeId × Value → H) :
    ReturnsInHanded {} Try.checked os 3 .any (Rows.framePutsSpec.pre6 enc Try.prog Try.f3 Rows.framePutsRow.domain false) (Rows.framePutsSpec.post enc Try.prog Try.f3 false true false false) := by
  refine returnsInHanded_of_change_sized (C := Try.checked) own started (by kernel_rfl) Try.func3
    (ChangeSpec.witness6 (enc := enc) (C := Try.checked) false ⟨#[], #[.agg #[.int .i64 0, .int .u64 0, .int .i64 0, .int .u64 0, .int .i64 0, .int .i64 0, .int .i64 0, .string ByteArray.empty, .string ByteArray.empty, .int .u64 0, .int .i64 0, .int .u64 0, .slice none 0 0, .slice none 0 0]], []⟩ 8 (by kernel_rfl) (by kernel_rfl) (by kernel_rfl) (by kernel_rfl)) ?_
  intro W base args ds gs before hval0 hW hcnd hsz0 _
  have hval : ∀ (j : Nat) t v, Try.f3.params[j]? = some t → args[j]? = some v → Value.okWide Try.prog W .any base t v := hval0
  have hsz : (DataW.weightsEach Try.prog (Try.f3.params.toList ++ Rows.framePutsSpec.plain.varTypes Try.prog) (ds ++ gs)).all (· ≤ reachBytes) = true := hsz0
  have hW' := hW
  obtain ⟨p, q, hA0, hV, rfl, hfz, hnd⟩ := hW
  have hA : DataW.TrodAll enc Try.prog W 0 (fun _ => true) true Try.f3.params.toList args.toList ds p := hA0
  rw [Try.params3] at hA hval hsz
  obtain ⟨v0, vs0, d0, ds0, p0, q0, hargs, rfl, rfl, h0, r0⟩ := trodAll_cons hA
  obtain ⟨rfl, rfl, rfl⟩ := trodAll_nil r0
  obtain rfl : args = #[v0] := by cases args; simp_all
  obtain ⟨rfl, rfl⟩ := trodVars_none hV
  have k0 := h0
  have lt0 := trod_places h0
  obtain ⟨m0, rfl, w0a, w0b⟩ := op_record (hval 0 28 v0 rfl rfl) h0
  clear hA0 hval0 hsz0 hsz
  refine (walk m0 W w0a w0b).mono fun e W' ⟨he, bel⟩ => ?_
  subst he
  exact ⟨_, rfl, _, _, _, [], _, [], hW', trodAll_mk1 (shut_bool Try.underlying4 _), (trodAll_cons_mk (Below.trod laidOut (by kernel_rfl) (of_decide_eq_true (by kernel_rfl)) k0 bel lt0) trodAll_mk0), rfl, bel.frame _, fun h => by cases h⟩

theorem over : Rows.framePutsRow.holds Try.pinned (OpenSpec.ofChange Rows.framePutsSpec) :=
  OpenClaim.holds_of_wide 3 Try.f3 rfl rfl rfl rfl rfl rfl rfl ⟨rfl, rfl, rfl, rfl, rfl⟩ rfl rfl rfl rfl rfl (by kernel_rfl) Try.func3 (by kernel_rfl)
    (of_decide_eq_true (by kernel_rfl)) (by unfold Func.isWrapper; first | (rw [if_pos (by decide +kernel)]; kernel_rfl) | (rw [if_neg (by decide +kernel)]; exact ⟨rfl, rfl⟩))
    (fun os started H enc _ => lifted os started H enc)

/-- THE STATEMENT. -/
theorem proved : Rows.FramePutsSaid := over
end Go.Proofs.Ytgobegpmojkhaaa.framePuts
namespace Go.Proofs.Ytgobegpmojkhaaa
theorem framePuts_proved : Rows.FramePutsSaid := framePuts.proved
end Go.Proofs.Ytgobegpmojkhaaa
