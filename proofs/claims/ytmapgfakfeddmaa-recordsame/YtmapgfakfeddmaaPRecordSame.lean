/-
  RecordSame: two records are alike just if all of both is; right ones are, just if their bytes are. RecordSame returns true for every input, and its arguments read as before.
  Condition: none but those that the form of every such statement bears by itself (each string within the reach).
-/
import Derived.OpenShut
import Derived.Test.YtmapgfakfeddmaaRows
import Derived.ProofKit
import Derived.ShutString
import Derived.SizedLaws
import Derived.JoinedCond
import Derived.Test.YtmapgfakfeddmaaK09
import Derived.Test.YtmapgfakfeddmaaK10
import Derived.Test.YtmapgfakfeddmaaK03

/-
  The walk of RecordSame: it returns true, and turns nothing that was there.
-/
namespace Go.Proofs.Ytmapgfakfeddmaa.recordSame
open Go.RowKit
set_option linter.unusedVariables false

set_option maxRecDepth 4000 in
set_option maxHeartbeats 3200000 in
theorem core (a b : Rec) (va vb ua ub : Value) (w : World) (q : Bool) (Hq : Hid (q = true ↔ a = b)) (fa : a.fits) (fb : b.fits) (ha : RcIn w a va vb) (hb : RcIn w b ua ub) :
    Calls Try.prog 7 #[.agg (rcA a va vb), .agg (rcA b ua ub)] w fun e w' => e = .returned (.bool true) ∧ Below w.heap.size w w' := by
  have HA := hide ha
  have HB := hide hb
  have HS := hide (fun w h1 h2 => same_at a b va vb ua ub w q Hq fa fb h1 h2)
  have HRS := hide (fun w h1 h2 => rsame_at a b va vb ua ub w q Hq fa fb h1 h2)
  have HSA := hide (fun w h1 => same_at a a va vb va vb w true (hide ⟨fun _ => rfl, fun _ => rfl⟩) fa fa h1 h1)
  have HEA := hide (fun w h1 => enc_any a va vb w fa h1)
  have HEB := hide (fun w h1 => enc_any b ua ub w fb h1)
  have HI : Hid (a.right → b.right → recB a = recB b → a = b) := fun h1 h2 h3 => rec_inj h1 h2 h3
  obtain ⟨⟨a1, cap1, rfl, -⟩, ⟨a2, cap2, rfl, -⟩⟩ := ha
  obtain ⟨⟨b1, dap1, rfl, -⟩, ⟨b2, dap2, rfl, -⟩⟩ := hb
  have HK0 := hide (Keeps.two w 28 28 (rcA a (.slice a1 a.ts.length cap1) (.slice a2 a.ds.length cap2)) (rcA b (.slice b1 b.ts.length dap1) (.slice b2 b.ds.length dap2)))
  clear fa fb
  go_enter Try.func7, Try.ntmps7
  obtain ⟨gb, hg⟩ : ∃ g, g = w.heap.size + 1 := ⟨_, rfl⟩
  rw [← hg] at HK0
  go_wp2_with fail
  rw [← hg]
  refine gen_calls (fun x => Hid (Keeps w x [(gb, 28, rcA b (.slice b1 b.ts.length dap1) (.slice b2 b.ds.length dap2)), (w.heap.size, 28, rcA a (.slice a1 a.ts.length cap1) (.slice a2 a.ds.length cap2))])) HK0 ?_
  clear HK0 hg
  intro x0 HK0
  refine (awake_any _).mono ?_
  rintro e w1 ⟨rfl, hb1⟩
  have HK1 := hide (HK0.out.later hb1)
  clear HK0 hb1
  go_wp2_with (first | (refine wpList_load_at rfl 28 (.tmp 2) rfl w.heap.size rfl (rcA a (.slice a1 a.ts.length cap1) (.slice a2 a.ds.length cap2)) HK1.out.1.2.1 _ Try.underlying28 rfl infoRc ?_) | (refine wpList_load_at rfl 28 (.tmp 3) rfl gb rfl (rcA b (.slice b1 b.ts.length dap1) (.slice b2 b.ds.length dap2)) HK1.out.1.1 _ Try.underlying28 rfl infoRc ?_))
  refine (HS.out _ (HA.out.below HK1.out.2) (HB.out.below HK1.out.2)).mono ?_
  rintro e w2 ⟨rfl, hb2⟩
  have HK2 := hide (HK1.out.later hb2)
  clear HK1 hb2 HS
  go_wp2_with (first | (refine wpList_load_at rfl 28 (.tmp 2) rfl w.heap.size rfl (rcA a (.slice a1 a.ts.length cap1) (.slice a2 a.ds.length cap2)) HK2.out.1.2.1 _ Try.underlying28 rfl infoRc ?_) | (refine wpList_load_at rfl 28 (.tmp 3) rfl gb rfl (rcA b (.slice b1 b.ts.length dap1) (.slice b2 b.ds.length dap2)) HK2.out.1.1 _ Try.underlying28 rfl infoRc ?_))
  refine (HRS.out _ (HA.out.below HK2.out.2) (HB.out.below HK2.out.2)).mono ?_
  rintro e w3 ⟨rfl, hb3⟩
  have HK3 := hide (HK2.out.later hb3)
  clear HK2 hb3 HRS
  have c0 := HK3.out.1.2.1.cell 0 (.int .i64 a.k) rfl
  have c1 := HK3.out.1.2.1.cell 1 (.int .u64 (a.l : Int)) rfl
  have c2 := HK3.out.1.2.1.cell 2 (.int .i64 a.t) rfl
  have c3 := HK3.out.1.2.1.cell 3 (.int .u64 (a.p : Int)) rfl
  have c4 := HK3.out.1.2.1.cell 4 (.int .i64 a.c.k) rfl
  have c5 := HK3.out.1.2.1.cell 5 (.int .i64 a.c.pg) rfl
  have c6 := HK3.out.1.2.1.cell 6 (.int .i64 a.c.sl) rfl
  have c7 := HK3.out.1.2.1.cell 7 (.string a.c.o) rfl
  have c8 := HK3.out.1.2.1.cell 8 (.string a.c.n) rfl
  have c9 := HK3.out.1.2.1.cell 9 (.int .u64 (a.n : Int)) rfl
  have c10 := HK3.out.1.2.1.cell 10 (.int .i64 a.s) rfl
  have c11 := HK3.out.1.2.1.cell 11 (.int .u64 (a.b : Int)) rfl
  have c12 := HK3.out.1.2.1.cell 12 (.slice a1 a.ts.length cap1) rfl
  have c13 := HK3.out.1.2.1.cell 13 (.slice a2 a.ds.length cap2) rfl
  have qq1 : (q != q) = false := by cases q <;> rfl
  have qq2 : (q == q) = true := by cases q <;> rfl
  go_wp2_with fail
  clear c0 c1 c2 c3 c4 c5 c6 c7 c8 c9 c10 c11 c12 c13 qq1 qq2
  refine (HSA.out _ (HA.out.below HK3.out.2)).mono ?_
  rintro e w4 ⟨rfl, hb4⟩
  have HK4 := hide (HK3.out.later hb4)
  clear HK3 hb4 HSA
  go_wp2_with (refine wpList_load_at rfl 28 (.tmp 2) rfl w.heap.size rfl (rcA a (.slice a1 a.ts.length cap1) (.slice a2 a.ds.length cap2)) HK4.out.1.2.1 _ Try.underlying28 rfl infoRc ?_)
  refine (HEA.out _ (HA.out.below HK4.out.2)).mono ?_
  rintro e w5 ⟨⟨v5, rfl, p5, k5, rfl, -, -, hB5⟩, hb5⟩
  have HK5 := hide (HK4.out.later hb5)
  have HB5 := hide hB5
  clear HK4 hb5 HEA hB5
  go_wp2_with (refine wpList_load_at rfl 28 (.tmp 3) rfl gb rfl (rcA b (.slice b1 b.ts.length dap1) (.slice b2 b.ds.length dap2)) HK5.out.1.1 _ Try.underlying28 rfl infoRc ?_)
  refine (HEB.out _ (HB.out.below HK5.out.2)).mono ?_
  rintro e w6 ⟨⟨v6, rfl, p6, k6, rfl, -, -, hB6⟩, hb6⟩
  have HB56 := hide (HB5.out.below hb6)
  have HB6 := hide hB6
  have d6 := (HK5.out.later hb6).2
  clear HK5 hb6 HEB hB6 HB5 HA HB
  by_cases ra : a.right
  case neg =>
    have e1 : encE a = 1 := by unfold encE; rw [if_neg (by rw [rightB_no ra]; decide)]
    rw [e1]
    clear e1 ra HB56 HB6 HI Hq
    generalize encE b = eb at *
    generalize (encL a).length = la at *
    generalize (encL b).length = lb at *
    go_wp2
    go_ret
    exact ⟨rfl, d6⟩
  have e1 : encE a = 0 := by unfold encE; rw [if_pos (rightB_yes ra)]
  rw [e1]
  by_cases rb : b.right
  case neg =>
    have e2 : encE b = 1 := by unfold encE; rw [if_neg (by rw [rightB_no rb]; decide)]
    rw [e2]
    clear e1 e2 ra rb HB56 HB6 HI Hq
    generalize (encL a).length = la at *
    generalize (encL b).length = lb at *
    go_wp2
    go_ret
    exact ⟨rfl, d6⟩
  have e2 : encE b = 0 := by unfold encE; rw [if_pos (rightB_yes rb)]
  have e3 : encL a = recB a := by unfold encL; rw [if_pos (rightB_yes ra)]
  have e4 : encL b = recB b := by unfold encL; rw [if_pos (rightB_yes rb)]
  rw [e2, e3, e4]
  rw [e3] at HB56
  rw [e4] at HB6
  have HQ2 : Hid (q = true ↔ recB a = recB b) := ⟨fun h => by rw [Hq.out.1 h], fun h => Hq.out.2 (HI.out ra rb h)⟩
  clear e1 e2 e3 e4 ra rb HI Hq
  generalize recB a = L at *
  generalize recB b = M at *
  have HC1 : Hid (∀ x, IsB x p5 L.length L → Sem.run Try.prog (Go.convert 30 9 (.slice p5 L.length k5)) x = .ok (.string (mkS L)) x) := fun x hx => run_toString (P := Try.prog) x 30 9 5 Try.underlying30 Try.underlying5 Try.underlying9 p5 L.length k5 _ hx
  have HC2 : Hid (∀ x, IsB x p6 M.length M → Sem.run Try.prog (Go.convert 30 9 (.slice p6 M.length k6)) x = .ok (.string (mkS M)) x) := fun x hx => run_toString (P := Try.prog) x 30 9 5 Try.underlying30 Try.underlying5 Try.underlying9 p6 M.length k6 _ hx
  have HQ3 : Hid (q = true ↔ (mkS L).toList = (mkS M).toList) := by
    constructor
    · intro h
      rw [HQ2.out.1 h]
    · intro h
      refine HQ2.out.2 ?_
      rw [ByteArray.toList_eq, ByteArray.toList_eq] at h
      exact h
  clear HQ2
  generalize mkS L = X at *
  generalize mkS M = Y at *
  generalize L.length = la at *
  generalize M.length = lb at *
  have hc1 := HC1.out _ HB56.out
  have hc2 := HC2.out _ HB6.out
  clear HC1 HC2 HB56 HB6
  cases q
  · have hne : ¬ X.toList = Y.toList := fun h => absurd (HQ3.out.2 h) (by simp)
    clear HQ3
    go_wp2
    go_ret
    exact ⟨by show Ending.returned (Value.bool (!(X.toList == Y.toList))) = _; rw [beq_eq_false_iff_ne.2 hne]; rfl, d6⟩
  · have heq : X.toList = Y.toList := HQ3.out.1 rfl
    clear HQ3
    go_wp2
    go_ret
    exact ⟨rfl, d6⟩

theorem walk (m n : Rec × Value × Value) (w : World) (hf : m.1.fits) (hin : RcIn w m.1 m.2.1 m.2.2) (hg : n.1.fits) (hjn : RcIn w n.1 n.2.1 n.2.2) :
    Calls Try.prog 7 #[.agg (rcA m.1 m.2.1 m.2.2), .agg (rcA n.1 n.2.1 n.2.2)] w fun e w' => e = .returned (.bool true) ∧ Below w.heap.size w w' :=
  core m.1 n.1 m.2.1 m.2.2 n.2.1 n.2.2 w (@decide (m.1 = n.1) (Classical.propDecidable _)) (hide (@decide_eq_true_iff _ (Classical.propDecidable _))) hf hg hin hjn
end Go.Proofs.Ytmapgfakfeddmaa.recordSame

namespace Go.Proofs.Ytmapgfakfeddmaa.recordSame
open Go.ChangeShapes Go.WideShapes Go.ChangeAt Go.RowKit
open Go.ChangeMaps (open_string shut_string)
set_option linter.unusedVariables false

theorem laidOut : laidOutB Try.prog = true := by kernel_rfl
theorem own : ownKnob Try.prog.godebug = none := by kernel_rfl

set_option maxRecDepth 100000 in
theorem lifted (os : Os) (started : os.Started) (H : Type) (enc : TypeId × Value → H) :
    ReturnsInHanded {} Try.checked os 7 .any (Rows.recordSameSpec.pre6 enc Try.prog Try.f7 Rows.recordSameRow.domain false) (Rows.recordSameSpec.post enc Try.prog Try.f7 false true false false) := by
  refine returnsInHanded_of_change_sized (C := Try.checked) own started (by kernel_rfl) Try.func7
    (ChangeSpec.witness6 (enc := enc) (C := Try.checked) false ⟨#[], #[.agg #[.int .i64 0, .int .u64 0, .int .i64 0, .int .u64 0, .int .i64 0, .int .i64 0, .int .i64 0, .string ByteArray.empty, .string ByteArray.empty, .int .u64 0, .int .i64 0, .int .u64 0, .slice none 0 0, .slice none 0 0], .agg #[.int .i64 0, .int .u64 0, .int .i64 0, .int .u64 0, .int .i64 0, .int .i64 0, .int .i64 0, .string ByteArray.empty, .string ByteArray.empty, .int .u64 0, .int .i64 0, .int .u64 0, .slice none 0 0, .slice none 0 0]], []⟩ 8 (by kernel_rfl) (by kernel_rfl) (by kernel_rfl) (by kernel_rfl)) ?_
  intro W base args ds gs before hval0 hW hcnd hsz0 _
  have hval : ∀ (j : Nat) t v, Try.f7.params[j]? = some t → args[j]? = some v → Value.okWide Try.prog W .any base t v := hval0
  have hsz : (DataW.weightsEach Try.prog (Try.f7.params.toList ++ Rows.recordSameSpec.plain.varTypes Try.prog) (ds ++ gs)).all (· ≤ reachBytes) = true := hsz0
  have hW' := hW
  obtain ⟨p, q, hA0, hV, rfl, hfz, hnd⟩ := hW
  have hA : DataW.TrodAll enc Try.prog W 0 (fun _ => true) true Try.f7.params.toList args.toList ds p := hA0
  rw [Try.params7] at hA hval hsz
  obtain ⟨v0, vs0, d0, ds0, p0, q0, hargs, rfl, rfl, h0, r0⟩ := trodAll_cons hA
  obtain ⟨v1, vs1, d1, ds1, p1, q1, rfl, rfl, rfl, h1, r1⟩ := trodAll_cons r0
  obtain ⟨rfl, rfl, rfl⟩ := trodAll_nil r1
  obtain rfl : args = #[v0, v1] := by cases args; simp_all
  obtain ⟨rfl, rfl⟩ := trodVars_none hV
  have k0 := h0
  have lt0 := trod_places h0
  have k1 := h1
  have lt1 := trod_places h1
  obtain ⟨m0, rfl, w0a, w0b⟩ := op_record (hval 0 28 v0 rfl rfl) h0
  obtain ⟨m1, rfl, w1a, w1b⟩ := op_record (hval 1 28 v1 rfl rfl) h1
  clear hA0 hval0 hsz0 hsz
  refine (walk m0 m1 W w0a w0b w1a w1b).mono fun e W' ⟨he, bel⟩ => ?_
  subst he
  exact ⟨_, rfl, _, _, _, [], _, [], hW', trodAll_mk1 (shut_bool Try.underlying4 _), (trodAll_cons_mk (Below.trod laidOut (by kernel_rfl) (of_decide_eq_true (by kernel_rfl)) k0 bel lt0) (trodAll_cons_mk (Below.trod laidOut (by kernel_rfl) (of_decide_eq_true (by kernel_rfl)) k1 bel lt1) trodAll_mk0)), rfl, bel.frame _, fun h => by cases h⟩

theorem over : Rows.recordSameRow.holds Try.pinned (OpenSpec.ofChange Rows.recordSameSpec) :=
  OpenClaim.holds_of_wide 7 Try.f7 rfl rfl rfl rfl rfl rfl rfl ⟨rfl, rfl, rfl, rfl, rfl⟩ rfl rfl rfl rfl rfl (by kernel_rfl) Try.func7 (by kernel_rfl)
    (of_decide_eq_true (by kernel_rfl)) (by unfold Func.isWrapper; first | (rw [if_pos (by decide +kernel)]; kernel_rfl) | (rw [if_neg (by decide +kernel)]; exact ⟨rfl, rfl⟩))
    (fun os started H enc _ => lifted os started H enc)

/-- THE STATEMENT. -/
theorem proved : Rows.RecordSameSaid := over
end Go.Proofs.Ytmapgfakfeddmaa.recordSame
namespace Go.Proofs.Ytmapgfakfeddmaa
theorem recordSame_proved : Rows.RecordSameSaid := recordSame.proved
end Go.Proofs.Ytmapgfakfeddmaa
