/-
  FrameScans: of any bytes the records are scanned that the document says, of so many bytes, and whether that is all. FrameScans returns true for every input, and its arguments read as before.
  Condition: none but those that the form of every such statement bears by itself (each string within the reach).
-/
import Derived.Lib.ConvBytes
import Derived.OpenShut
import Derived.Test.YtgobegpmojkhaaaRows
import Derived.ProofKit
import Derived.ShutString
import Derived.SizedLaws
import Derived.JoinedCond
import Derived.Test.YtgobegpmojkhaaaK05
import Derived.Test.YtgobegpmojkhaaaK09
import Derived.Test.YtgobegpmojkhaaaK10

/-
  The walk of FrameScans: it returns true, and turns nothing that was there.
-/
namespace Go.Proofs.Ytgobegpmojkhaaa.frameScans
open Go.RowKit
set_option linter.unusedVariables false

set_option maxRecDepth 4000 in
set_option maxHeartbeats 1600000 in
theorem big (b : ByteArray) (w : World) (h : 20000 < b.size) :
    Calls Try.prog 5 #[.string b] w fun e w' => e = .returned (.bool true) ∧ Below w.heap.size w w' := by
  have hi : (20000 : Int) < (b.size : Int) := by omega
  go_enter Try.func5, Try.ntmps5
  go_wp2_with fail
  refine (awake7_any _).mono ?_
  rintro e w1 ⟨rfl, hb1⟩
  go_wp2_with fail
  refine (awake7_any _).mono ?_
  rintro e w2 ⟨rfl, hb2⟩
  have d := hb1.trans (hb2.mono hb1.size)
  clear hb1 hb2
  go_wp2
  go_ret
  exact ⟨rfl, d⟩

set_option maxRecDepth 4000 in
set_option maxHeartbeats 3200000 in
theorem core (b : ByteArray) (w : World) (hz : b.size ≤ 20000) :
    Calls Try.prog 5 #[.string b] w fun e w' => e = .returned (.bool true) ∧ Below w.heap.size w w' := by
  have hcv := fun w => Lib.run_convert_string_bytes (P := Try.prog) w 9 30 5 b Try.underlying9 Try.underlying30 Try.underlying5
  have HRD := hide (fun w => rscan7_any b w (by omega))
  have HTD := hide (fun w cap (hc : b.size ≤ cap) => scan7_any (some ⟨w.heap.size, 0, none⟩) b.size cap b.data.toList (Lib.bytesWorld w 5 b) (isB_conv w _ b) (by omega) hc)
  have HFEW : Hid ((scanL b.data.toList).1.length ≤ 1000000) := by
    have h := scan_again (b.data.toList.length + 1) 0 b.data.toList
    have h2 := framesB_long (scanL b.data.toList).1
    have h3 := congrArg List.length h.2.1
    rw [List.length_take, data_length] at h3
    unfold scanL Hid at *
    rw [data_length] at *
    omega
  unfold ScanAns at HRD HTD
  generalize scanL b.data.toList = t at *
  obtain ⟨rs, n⟩ := t
  simp only at HRD HTD HFEW
  have hi : ¬ (20000 : Int) < (b.size : Int) := by omega
  generalize decide (n = b.size) = q at *
  go_enter Try.func5, Try.ntmps5
  go_wp2_with fail
  refine (awake7_any _).mono ?_
  rintro e w1 ⟨rfl, hb1⟩
  go_wp2_with fail
  refine (HTD.out w1 _ (grownCap_ge ..)).mono ?_
  rintro e w2 ⟨v2, ms, rfl, hms, hown2, hgot2, hb2⟩
  have d1 := hb1.trans ((below_conv w1 5 b).mono hb1.size)
  have HB2 := hide (d1.trans (hb2.mono d1.size))
  have HI2 := hide (RsIn.own hown2 hgot2)
  obtain ⟨a2, c2, rfl⟩ := own_shape5 hown2
  clear hb1 hb2 d1 hcv HTD hown2 hgot2
  go_wp2_with fail
  refine (HRD.out _).mono ?_
  rintro e w3 ⟨v3, ns, rfl, hns, hown3, hgot3, hb3⟩
  have HB3 := hide (HB2.out.trans (hb3.mono HB2.out.size))
  have HI3 := hide (HI2.out.below hb3)
  have HJ3 := hide (RsIn.own hown3 hgot3)
  obtain ⟨a3, c3, rfl⟩ := own_shape5 hown3
  have HL := hide (rlist_any _ _ ms ns w3 HI3.out HJ3.out (hms.trans hns.symm) (by
    have h1 : ms.length = rs.length := by rw [← hms]; simp [msR]
    have h2 := HFEW.out
    omega))
  clear hb3 HRD hown3 hgot3 HB2 HI2 hms hns
  go_wp2_with fail
  refine HL.out.mono ?_
  rintro e w4 ⟨rfl, hb4⟩
  have d4 := HB3.out.trans (hb4.mono HB3.out.size)
  clear HB3 hb4 HL HI3 HJ3 HFEW
  go_wp2
  go_ret
  exact ⟨rfl, d4⟩

theorem walk (a0 : ByteArray) (z0 : a0.size ≤ 140737488351232) (w : World) :
    Calls Try.prog 5 #[.string a0] w fun e w' => e = .returned (.bool true) ∧ Below w.heap.size w w' := by
  by_cases h : 20000 < a0.size
  · exact big a0 w h
  · exact core a0 w (by omega)
end Go.Proofs.Ytgobegpmojkhaaa.frameScans

namespace Go.Proofs.Ytgobegpmojkhaaa.frameScans
open Go.ChangeShapes Go.WideShapes Go.ChangeAt Go.RowKit
open Go.ChangeMaps (open_string shut_string)
set_option linter.unusedVariables false

theorem own : ownKnob Try.prog.godebug = none := by kernel_rfl

set_option maxRecDepth 100000 in
theorem lifted (os : Os) (started : os.Started) (H : Type) (enc : TypeId × Value → H) :
    ReturnsInHanded {} Try.checked os 5 .any (Rows.frameScansSpec.pre6 enc Try.prog Try.f5 Rows.frameScansRow.domain false) (Rows.frameScansSpec.post enc Try.prog Try.f5 false true false false) := by
  refine returnsInHanded_of_change_sized (C := Try.checked) own started (by kernel_rfl) Try.func5
    (ChangeSpec.witness6 (enc := enc) (C := Try.checked) false ⟨#[], #[.string ByteArray.empty], []⟩ 8 (by kernel_rfl) (by kernel_rfl) (by kernel_rfl) (by kernel_rfl)) ?_
  intro W base args ds gs before hval0 hW hcnd hsz0 _
  have hval : ∀ (j : Nat) t v, Try.f5.params[j]? = some t → args[j]? = some v → Value.okWide Try.prog W .any base t v := hval0
  have hsz : (DataW.weightsEach Try.prog (Try.f5.params.toList ++ Rows.frameScansSpec.plain.varTypes Try.prog) (ds ++ gs)).all (· ≤ reachBytes) = true := hsz0
  have hW' := hW
  obtain ⟨p, q, hA0, hV, rfl, hfz, hnd⟩ := hW
  have hA : DataW.TrodAll enc Try.prog W 0 (fun _ => true) true Try.f5.params.toList args.toList ds p := hA0
  rw [Try.params5] at hA hval hsz
  obtain ⟨v0, vs0, d0, ds0, p0, q0, hargs, rfl, rfl, h0, r0⟩ := trodAll_cons hA
  obtain ⟨rfl, rfl, rfl⟩ := trodAll_nil r0
  obtain rfl : args = #[v0] := by cases args; simp_all
  obtain ⟨rfl, rfl⟩ := trodVars_none hV
  obtain ⟨a0, rfl, rfl, rfl, w0⟩ := open_string Try.underlying9 (hval 0 9 v0 rfl rfl) h0
  have z0 : a0.size ≤ 140737488351232 := by
    have hz := sized_string hsz (j := 0) (t := 9) (bytes := a0.data.toList) rfl rfl
    simpa [reachBytes] using hz
  clear hA0 hval0 hsz0 hsz
  refine (walk a0 z0 W).mono fun e W' ⟨he, bel⟩ => ?_
  subst he
  exact ⟨_, rfl, _, _, _, [], _, [], hW', trodAll_mk1 (shut_bool Try.underlying4 _), (trodAll_cons_mk (shut_string Try.underlying9 w0) trodAll_mk0), rfl, bel.frame _, fun h => by cases h⟩

theorem over : Rows.frameScansRow.holds Try.pinned (OpenSpec.ofChange Rows.frameScansSpec) :=
  OpenClaim.holds_of_wide 5 Try.f5 rfl rfl rfl rfl rfl rfl rfl ⟨rfl, rfl, rfl, rfl, rfl⟩ rfl rfl rfl rfl rfl (by kernel_rfl) Try.func5 (by kernel_rfl)
    (of_decide_eq_true (by kernel_rfl)) (by unfold Func.isWrapper; first | (rw [if_pos (by decide +kernel)]; kernel_rfl) | (rw [if_neg (by decide +kernel)]; exact ⟨rfl, rfl⟩))
    (fun os started H enc _ => lifted os started H enc)

/-- THE STATEMENT. -/
theorem proved : Rows.FrameScansSaid := over
end Go.Proofs.Ytgobegpmojkhaaa.frameScans
namespace Go.Proofs.Ytgobegpmojkhaaa
theorem frameScans_proved : Rows.FrameScansSaid := frameScans.proved
end Go.Proofs.Ytgobegpmojkhaaa
