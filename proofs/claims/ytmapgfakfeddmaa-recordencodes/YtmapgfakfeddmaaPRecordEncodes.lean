/-
  RecordEncodes: any record has the bytes that the document says, or none. RecordEncodes returns true for every input, and its arguments read as before.
  Condition: none but those that the form of every such statement bears by itself (each string within the reach).
-/
import Derived.OpenShut
import Derived.Test.YtmapgfakfeddmaaRows
import Derived.ProofKit
import Derived.ShutString
import Derived.SizedLaws
import Derived.JoinedCond
import Derived.Test.YtmapgfakfeddmaaK09

/-
  The walk of RecordEncodes: it returns true, and turns nothing that was there.
-/
namespace Go.Proofs.Ytmapgfakfeddmaa.recordEncodes
open Go.RowKit
set_option linter.unusedVariables false

set_option maxRecDepth 4000 in
set_option maxHeartbeats 1600000 in
theorem core (r : Rec) (va vb : Value) (w : World) (hf : r.fits) (hin : RcIn w r va vb) :
    Calls Try.prog 3 #[.agg (rcA r va vb)] w fun e w' => e = .returned (.bool true) ∧ Below w.heap.size w w' := by
  have HIN := hide hin
  have HK0 := hide (Keeps.one w 28 (rcA r va vb))
  obtain ⟨A, hA⟩ : ∃ A, A = rcA r va vb := ⟨_, rfl⟩
  have HIA : Hid ((Try.prog.info? 28).map (·.size) = some A.size) := by
    rw [hA]
    exact infoRc
  have HZA : Hid (A.size = 14) := by
    rw [hA]
    rfl
  have HE := hide (fun w h => enc_any r va vb w hf h)
  have HRE := hide (fun w h => renc6_any r va vb w hf.c h)
  have HSZ := hide (fun w h => size_any r va vb w hf h)
  have HRT := hide (fun w h => right_any r va vb w hf h)
  have HRR := hide (fun w h => rright6_any r va vb w hf.c h)
  rw [← hA] at HK0 HE HRE HSZ HRT HRR ⊢
  clear hA hf hin
  generalize encL r = L at *
  generalize encE r = er at *
  generalize r.rightB = rb at *
  go_enter Try.func3, Try.ntmps3
  go_wp2_with fail
  refine gen_calls (fun x => Hid (Keeps w x [(w.heap.size, 28, A)])) HK0 ?_
  clear HK0
  intro x0 HK0
  refine (awake_any _).mono ?_
  rintro e w1 ⟨rfl, hb1⟩
  have HK1 := hide (HK0.out.later hb1)
  clear HK0 hb1
  go_wp2_with (refine wpList_load_at rfl 28 (.tmp 1) rfl w.heap.size rfl A HK1.out.1.1 _ Try.underlying28 rfl HIA.out ?_)
  refine (HE.out _ (HIN.out.below HK1.out.2)).mono ?_
  rintro e w2 ⟨⟨v, rfl, a2, cap2, rfl, -, -, hB2⟩, hb2⟩
  have HK2 := hide (HK1.out.later hb2)
  have HB2 := hide hB2
  clear HK1 hb2 hB2 HE
  go_wp2_with (refine wpList_load_at rfl 28 (.tmp 1) rfl w.heap.size rfl A HK2.out.1.1 _ Try.underlying28 rfl HIA.out ?_)
  refine (HRE.out _ (HIN.out.below HK2.out.2)).mono ?_
  rintro e w3 ⟨rfl, hb3⟩
  have HK3 := hide (HK2.out.later hb3)
  have HB3 := hide (HB2.out.below hb3)
  clear HK2 hb3 HB2 HRE
  have hz := mkS_size L
  have hms : mkS L = ⟨L.toArray⟩ := rfl
  generalize L.length = ln at *
  have hcv : ∀ x, IsB x a2 ln L → Sem.run Try.prog (Go.convert 30 9 (.slice a2 ln cap2)) x = .ok (.string (mkS L)) x := fun x hx => run_toString (P := Try.prog) x 30 9 5 Try.underlying30 Try.underlying5 Try.underlying9 a2 ln cap2 _ hx
  have HC := hide hcv
  clear hcv hms
  generalize mkS L = ms at *
  go_wp2_with fail
  refine wp_region_in (fun x => Keeps w x [(w.heap.size, 28, A)] ∧ IsB x a2 ln L) (by kernel_rfl) (by kernel_rfl) ⟨HK3.out.drew, HB3.out⟩ ?_
  clear HK3 HB3
  repeat (first
    | go_big_quiet_skip
    | (refine wpQuiet_load rfl 28 (.tmp 1) rfl _ (.agg A) rfl (fun y hy => load_rc y _ _ hy.1.1.1 HZA.out) ?_; simp only [Act.put, Array.setIfInBounds, List.size_toArray, List.length_cons, List.length_nil, Nat.reduceAdd, Nat.reduceLT, ↓reduceDIte, List.set_toArray, List.set_cons_succ, List.set_cons_zero])
    | (refine wpQuiet_convert rfl 30 9 (.tmp 19) rfl _ (.string ms) rfl (fun y hy => HC.out y hy.2) ?_; simp only [Act.put, Array.setIfInBounds, List.size_toArray, List.length_cons, List.length_nil, Nat.reduceAdd, Nat.reduceLT, ↓reduceDIte, List.set_toArray, List.set_cons_succ, List.set_cons_zero])
    | (refine wpQuiet_call rfl 12 #[.agg A] (.int .i64 (ln : Int)) ?_ (fun x hC => (HSZ.out x (HIN.out.below hC.1.2)).mono fun e x' h => ⟨h.1, hC.1.later h.2, hC.2.below h.2⟩) ?_; (intro x; go_simp); simp only [Act.put, Array.setIfInBounds, List.size_toArray, List.length_cons, List.length_nil, Nat.reduceAdd, Nat.reduceLT, ↓reduceDIte, List.set_toArray, List.set_cons_succ, List.set_cons_zero])
    | (refine wpQuiet_call rfl 13 #[.agg A] (.bool rb) ?_ (fun x hC => (HRT.out x (HIN.out.below hC.1.2)).mono fun e x' h => ⟨h.1, hC.1.later h.2, hC.2.below h.2⟩) ?_; (intro x; go_simp); simp only [Act.put, Array.setIfInBounds, List.size_toArray, List.length_cons, List.length_nil, Nat.reduceAdd, Nat.reduceLT, ↓reduceDIte, List.set_toArray, List.set_cons_succ, List.set_cons_zero])
    | (refine wpQuiet_call rfl 14 #[.agg A] (.bool rb) ?_ (fun x hC => (HRR.out x (HIN.out.below hC.1.2)).mono fun e x' h => ⟨h.1, hC.1.later h.2, hC.2.below h.2⟩) ?_; (intro x; go_simp); simp only [Act.put, Array.setIfInBounds, List.size_toArray, List.length_cons, List.length_nil, Nat.reduceAdd, Nat.reduceLT, ↓reduceDIte, List.set_toArray, List.set_cons_succ, List.set_cons_zero])
    | (refine wpQuiet_plain rfl (fun K hK => ?_); go_simp; refine hK _ ?_; clear hK K))
  refine wpQuiet_nil ?_
  intro x hx
  have hfin := hx.1.2
  clear hx HC
  go_wp2
  go_ret
  exact ⟨rfl, hfin⟩

theorem walk (m : Rec × Value × Value) (w : World) (hf : m.1.fits) (hin : RcIn w m.1 m.2.1 m.2.2) :
    Calls Try.prog 3 #[.agg (rcA m.1 m.2.1 m.2.2)] w fun e w' => e = .returned (.bool true) ∧ Below w.heap.size w w' := core m.1 m.2.1 m.2.2 w hf hin
end Go.Proofs.Ytmapgfakfeddmaa.recordEncodes

namespace Go.Proofs.Ytmapgfakfeddmaa.recordEncodes
open Go.ChangeShapes Go.WideShapes Go.ChangeAt Go.RowKit
open Go.ChangeMaps (open_string shut_string)
set_option linter.unusedVariables false

theorem laidOut : laidOutB Try.prog = true := by kernel_rfl
theorem own : ownKnob Try.prog.godebug = none := by kernel_rfl

set_option maxRecDepth 100000 in
theorem lifted (os : Os) (started : os.Started) (H : Type) (enc : TypeId × Value → H) :
    ReturnsInHanded {} Try.checked os 3 .any (Rows.recordEncodesSpec.pre6 enc Try.prog Try.f3 Rows.recordEncodesRow.domain false) (Rows.recordEncodesSpec.post enc Try.prog Try.f3 false true false false) := by
  refine returnsInHanded_of_change_sized (C := Try.checked) own started (by kernel_rfl) Try.func3
    (ChangeSpec.witness6 (enc := enc) (C := Try.checked) false ⟨#[], #[.agg #[.int .i64 0, .int .u64 0, .int .i64 0, .int .u64 0, .int .i64 0, .int .i64 0, .int .i64 0, .string ByteArray.empty, .string ByteArray.empty, .int .u64 0, .int .i64 0, .int .u64 0, .slice none 0 0, .slice none 0 0]], []⟩ 8 (by kernel_rfl) (by kernel_rfl) (by kernel_rfl) (by kernel_rfl)) ?_
  intro W base args ds gs before hval0 hW hcnd hsz0 _
  have hval : ∀ (j : Nat) t v, Try.f3.params[j]? = some t → args[j]? = some v → Value.okWide Try.prog W .any base t v := hval0
  have hsz : (DataW.weightsEach Try.prog (Try.f3.params.toList ++ Rows.recordEncodesSpec.plain.varTypes Try.prog) (ds ++ gs)).all (· ≤ reachBytes) = true := hsz0
  have hW' := hW
  obtain ⟨p, q, hA0, hV, rfl, hfz, hnd⟩ := hW
  have hA : DataW.TrodAll enc Try.prog W 0 (fun _ => true) true Try.f3.params.toList args.toList ds p := hA0
  rw [Try.params3] at hA hval hsz
  obtain ⟨v0, vs0, d0, ds0, p0, q0, hargs, rfl, rfl, h0, r0⟩ := trodAll_cons hA
  obtain ⟨rfl, rfl, rfl⟩ := trodAll_nil r0
  obtain rfl : args = #[v0] := by cases args; simp_all
  obtain ⟨rfl, rfl⟩ := trodVars_none hV
  have k0 := h0
  have lt0 := trod_places h0
  obtain ⟨m0, rfl, w0a, w0b⟩ := op_record (hval 0 28 v0 rfl rfl) h0
  clear hA0 hval0 hsz0 hsz
  refine (walk m0 W w0a w0b).mono fun e W' ⟨he, bel⟩ => ?_
  subst he
  exact ⟨_, rfl, _, _, _, [], _, [], hW', trodAll_mk1 (shut_bool Try.underlying4 _), (trodAll_cons_mk (Below.trod laidOut (by kernel_rfl) (of_decide_eq_true (by kernel_rfl)) k0 bel lt0) trodAll_mk0), rfl, bel.frame _, fun h => by cases h⟩

theorem over : Rows.recordEncodesRow.holds Try.pinned (OpenSpec.ofChange Rows.recordEncodesSpec) :=
  OpenClaim.holds_of_wide 3 Try.f3 rfl rfl rfl rfl rfl rfl rfl ⟨rfl, rfl, rfl, rfl, rfl⟩ rfl rfl rfl rfl rfl (by kernel_rfl) Try.func3 (by kernel_rfl)
    (of_decide_eq_true (by kernel_rfl)) (by unfold Func.isWrapper; first | (rw [if_pos (by decide +kernel)]; kernel_rfl) | (rw [if_neg (by decide +kernel)]; exact ⟨rfl, rfl⟩))
    (fun os started H enc _ => lifted os started H enc)

/-- THE STATEMENT. -/
theorem proved : Rows.RecordEncodesSaid := over
end Go.Proofs.Ytmapgfakfeddmaa.recordEncodes
namespace Go.Proofs.Ytmapgfakfeddmaa
theorem recordEncodes_proved : Rows.RecordEncodesSaid := recordEncodes.proved
end Go.Proofs.Ytmapgfakfeddmaa
