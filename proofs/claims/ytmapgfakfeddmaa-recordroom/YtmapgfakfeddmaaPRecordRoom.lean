/-
  RecordRoom: no right record but a checkpoint's has more bytes than a change that is taken back with the longest values, and what ends a transaction has just so many. RecordRoom returns true for every input, and its arguments read as before.
  Condition: none but those that the form of every such statement bears by itself (each string within the reach).
-/
import Derived.OpenShut
import Derived.Test.YtmapgfakfeddmaaRows
import Derived.ProofKit
import Derived.ShutString
import Derived.SizedLaws
import Derived.JoinedCond
import Derived.Test.YtmapgfakfeddmaaK09
import Derived.Test.YtmapgfakfeddmaaK03

/-
  The walk of RecordRoom: it returns true, and turns nothing that was there.
-/
namespace Go.Proofs.Ytmapgfakfeddmaa.recordRoom
open Go.RowKit
set_option linter.unusedVariables false

theorem rright6_at (r : Rec) (va vb : Value) (w : World) (q : Bool) (Hq : Hid (q = true ↔ r.right)) (hf : r.c.fits) (hin : RcIn w r va vb) :
    Calls Try.prog 14 #[.agg (rcA r va vb)] w fun e w' => e = .returned (.bool q) ∧ Below w.heap.size w w' := by
  have e : r.rightB = q := by
    have h1 := Hq.out
    have h2 := rightB_iff (r := r)
    cases q
    · cases h : r.rightB
      · rfl
      · exact absurd (h1.2 (h2.1 h)) (by simp)
    · exact h2.2 (h1.1 rfl)
  rw [← e]
  exact rright6_any r va vb w hf hin

set_option maxRecDepth 4000 in
set_option maxHeartbeats 3200000 in
theorem core (r : Rec) (va vb : Value) (w : World) (hf : r.fits) (hin : RcIn w r va vb) :
    Calls Try.prog 8 #[.agg (rcA r va vb)] w fun e w' => e = .returned (.bool true) ∧ Below w.heap.size w w' := by
  have HIN := hide hin
  have HRR := hide (fun w q Hq h => rright6_at r va vb w q Hq hf.c h)
  have HSZ := hide (fun w h => size_any r va vb w hf h)
  obtain ⟨⟨e1, cap1, rfl, -⟩, ⟨e2, cap2, rfl, -⟩⟩ := hin
  have HK0 := hide (Keeps.one w 28 (rcA r (.slice e1 r.ts.length cap1) (.slice e2 r.ds.length cap2)))
  clear hf
  go_enter Try.func8, Try.ntmps8
  go_wp2_with fail
  refine gen_calls (fun x => Hid (Keeps w x [(w.heap.size, 28, rcA r (.slice e1 r.ts.length cap1) (.slice e2 r.ds.length cap2))])) HK0 ?_
  clear HK0
  intro x0 HK0
  refine (awake_any _).mono ?_
  rintro e w1 ⟨rfl, hb1⟩
  have HK1 := hide (HK0.out.later hb1)
  clear HK0 hb1
  obtain ⟨c0, c1, c2, c3, c9, c10, c11, c12, c13⟩ := rc_cells HK1.out.1.1
  obtain ⟨c4, c5, c6, c7, c8⟩ := rc_chg HK1.out.1.1
  by_cases hr : r.right
  case neg =>
    go_wp2_with fail
    refine (HRR.out _ false (hide ⟨fun h => (nomatch h), fun h => absurd h hr⟩) (HIN.out.below HK1.out.2)).mono ?_
    rintro e w2 ⟨rfl, hb2⟩
    have d2 := HK1.out.2.trans (hb2.mono HK1.out.2.size)
    clear HK1 hb2 HIN HRR HSZ hr c0 c1 c2 c3 c4 c5 c6 c7 c8 c9 c10 c11 c12 c13
    go_wp2_with fail
    refine (awake_any _).mono ?_
    rintro e w3 ⟨rfl, hb3⟩
    have d3 := d2.trans (hb3.mono d2.size)
    clear d2 hb3
    go_wp2
    go_ret
    exact ⟨rfl, d3⟩
  go_wp2_with fail
  refine (HRR.out _ true (hide ⟨fun _ => hr, fun _ => rfl⟩) (HIN.out.below HK1.out.2)).mono ?_
  rintro e w2 ⟨rfl, hb2⟩
  have HK2 := hide (HK1.out.later hb2)
  clear HK1 hb2 HRR c0 c1 c2 c3 c4 c5 c6 c7 c8 c9 c10 c11 c12 c13
  have c0 := HK2.out.1.1.cell 0 (.int .i64 r.k) rfl
  by_cases h8 : r.k = 8
  case pos =>
    rw [h8] at c0
    have d2 := HK2.out.2
    clear HK2 HIN HSZ hr
    go_wp2_with fail
    refine (awake_any _).mono ?_
    rintro e w3 ⟨rfl, hb3⟩
    have d3 := d2.trans (hb3.mono d2.size)
    clear d2 hb3
    go_wp2
    go_ret
    exact ⟨rfl, d3⟩
  have n8 : (r.k == 8) = false := by rw [beq_eq_false_iff_ne]; exact h8
  obtain ⟨r1, r2, r3⟩ := rec_room r hr h8
  have ee : encL r = recB r := by unfold encL; rw [if_pos (rightB_yes hr)]
  rw [ee] at HSZ
  clear ee hr
  generalize (recB r).length = ln at *
  go_wp2_with (refine wpList_load_at rfl 28 (.tmp 1) rfl w.heap.size rfl (rcA r (.slice e1 r.ts.length cap1) (.slice e2 r.ds.length cap2)) HK2.out.1.1 _ Try.underlying28 rfl infoRc ?_)
  refine (HSZ.out _ (HIN.out.below HK2.out.2)).mono ?_
  rintro e w3 ⟨rfl, hb3⟩
  have HK3 := hide (HK2.out.later hb3)
  clear HK2 hb3 HSZ c0
  have c0 := HK3.out.1.1.cell 0 (.int .i64 r.k) rfl
  have d3 := HK3.out.2
  have i1 : (ln : Int) ≤ 75 := by omega
  have i2 : (21 : Int) ≤ (ln : Int) := by omega
  clear HK3 HIN
  generalize r.k = k at *
  by_cases k3 : k = 3
  case pos =>
    subst k3
    have hln : ln = 21 := r3 (by omega)
    subst hln
    clear r1 r2 r3 i1 i2 h8 n8
    go_wp2
    go_ret
    exact ⟨rfl, d3⟩
  by_cases k4 : k = 4
  case pos =>
    subst k4
    have hln : ln = 21 := r3 (by omega)
    subst hln
    clear r1 r2 r3 i1 i2 h8 n8
    go_wp2
    go_ret
    exact ⟨rfl, d3⟩
  by_cases k5 : k = 5
  case pos =>
    subst k5
    have hln : ln = 21 := r3 (by omega)
    subst hln
    clear r1 r2 r3 i1 i2 h8 n8
    go_wp2
    go_ret
    exact ⟨rfl, d3⟩
  by_cases k7 : k = 7
  case pos =>
    subst k7
    have hln : ln = 21 := r3 (by omega)
    subst hln
    clear r1 r2 r3 i1 i2 h8 n8
    go_wp2
    go_ret
    exact ⟨rfl, d3⟩
  have n3 : (k == 3) = false := by rw [beq_eq_false_iff_ne]; exact k3
  have n4 : (k == 4) = false := by rw [beq_eq_false_iff_ne]; exact k4
  have n5 : (k == 5) = false := by rw [beq_eq_false_iff_ne]; exact k5
  have n7 : (k == 7) = false := by rw [beq_eq_false_iff_ne]; exact k7
  clear r1 r2 r3 h8
  go_wp2
  go_ret
  exact ⟨rfl, d3⟩

theorem walk (m : Rec × Value × Value) (w : World) (hf : m.1.fits) (hin : RcIn w m.1 m.2.1 m.2.2) :
    Calls Try.prog 8 #[.agg (rcA m.1 m.2.1 m.2.2)] w fun e w' => e = .returned (.bool true) ∧ Below w.heap.size w w' := core m.1 m.2.1 m.2.2 w hf hin
end Go.Proofs.Ytmapgfakfeddmaa.recordRoom

namespace Go.Proofs.Ytmapgfakfeddmaa.recordRoom
open Go.ChangeShapes Go.WideShapes Go.ChangeAt Go.RowKit
open Go.ChangeMaps (open_string shut_string)
set_option linter.unusedVariables false

theorem laidOut : laidOutB Try.prog = true := by kernel_rfl
theorem own : ownKnob Try.prog.godebug = none := by kernel_rfl

set_option maxRecDepth 100000 in
theorem lifted (os : Os) (started : os.Started) (H : Type) (enc : TypeId × Value → H) :
    ReturnsInHanded {} Try.checked os 8 .any (Rows.recordRoomSpec.pre6 enc Try.prog Try.f8 Rows.recordRoomRow.domain false) (Rows.recordRoomSpec.post enc Try.prog Try.f8 false true false false) := by
  refine returnsInHanded_of_change_sized (C := Try.checked) own started (by kernel_rfl) Try.func8
    (ChangeSpec.witness6 (enc := enc) (C := Try.checked) false ⟨#[], #[.agg #[.int .i64 0, .int .u64 0, .int .i64 0, .int .u64 0, .int .i64 0, .int .i64 0, .int .i64 0, .string ByteArray.empty, .string ByteArray.empty, .int .u64 0, .int .i64 0, .int .u64 0, .slice none 0 0, .slice none 0 0]], []⟩ 8 (by kernel_rfl) (by kernel_rfl) (by kernel_rfl) (by kernel_rfl)) ?_
  intro W base args ds gs before hval0 hW hcnd hsz0 _
  have hval : ∀ (j : Nat) t v, Try.f8.params[j]? = some t → args[j]? = some v → Value.okWide Try.prog W .any base t v := hval0
  have hsz : (DataW.weightsEach Try.prog (Try.f8.params.toList ++ Rows.recordRoomSpec.plain.varTypes Try.prog) (ds ++ gs)).all (· ≤ reachBytes) = true := hsz0
  have hW' := hW
  obtain ⟨p, q, hA0, hV, rfl, hfz, hnd⟩ := hW
  have hA : DataW.TrodAll enc Try.prog W 0 (fun _ => true) true Try.f8.params.toList args.toList ds p := hA0
  rw [Try.params8] at hA hval hsz
  obtain ⟨v0, vs0, d0, ds0, p0, q0, hargs, rfl, rfl, h0, r0⟩ := trodAll_cons hA
  obtain ⟨rfl, rfl, rfl⟩ := trodAll_nil r0
  obtain rfl : args = #[v0] := by cases args; simp_all
  obtain ⟨rfl, rfl⟩ := trodVars_none hV
  have k0 := h0
  have lt0 := trod_places h0
  obtain ⟨m0, rfl, w0a, w0b⟩ := op_record (hval 0 28 v0 rfl rfl) h0
  clear hA0 hval0 hsz0 hsz
  refine (walk m0 W w0a w0b).mono fun e W' ⟨he, bel⟩ => ?_
  subst he
  exact ⟨_, rfl, _, _, _, [], _, [], hW', trodAll_mk1 (shut_bool Try.underlying4 _), (trodAll_cons_mk (Below.trod laidOut (by kernel_rfl) (of_decide_eq_true (by kernel_rfl)) k0 bel lt0) trodAll_mk0), rfl, bel.frame _, fun h => by cases h⟩

theorem over : Rows.recordRoomRow.holds Try.pinned (OpenSpec.ofChange Rows.recordRoomSpec) :=
  OpenClaim.holds_of_wide 8 Try.f8 rfl rfl rfl rfl rfl rfl rfl ⟨rfl, rfl, rfl, rfl, rfl⟩ rfl rfl rfl rfl rfl (by kernel_rfl) Try.func8 (by kernel_rfl)
    (of_decide_eq_true (by kernel_rfl)) (by unfold Func.isWrapper; first | (rw [if_pos (by decide +kernel)]; kernel_rfl) | (rw [if_neg (by decide +kernel)]; exact ⟨rfl, rfl⟩))
    (fun os started H enc _ => lifted os started H enc)

/-- THE STATEMENT. -/
theorem proved : Rows.RecordRoomSaid := over
end Go.Proofs.Ytmapgfakfeddmaa.recordRoom
namespace Go.Proofs.Ytmapgfakfeddmaa
theorem recordRoom_proved : Rows.RecordRoomSaid := recordRoom.proved
end Go.Proofs.Ytmapgfakfeddmaa
