/-
  FrameTakes: of any bytes, at any place, the record is taken that the document says, or none. FrameTakes returns true for every input, and its arguments read as before.
  Condition: none but those that the form of every such statement bears by itself (each string within the reach).
-/
import Derived.Lib.ConvBytes
import Derived.OpenShut
import Derived.Test.YtgobegpmojkhaaaRows
import Derived.ProofKit
import Derived.ShutString
import Derived.SizedLaws
import Derived.JoinedCond
import Derived.Test.YtgobegpmojkhaaaK05
import Derived.Test.YtgobegpmojkhaaaK08
import Derived.Test.YtgobegpmojkhaaaK09

/-
  The walk of FrameTakes: it returns true, and turns nothing that was there.
-/
namespace Go.Proofs.Ytgobegpmojkhaaa.frameTakes
open Go.RowKit
set_option linter.unusedVariables false

theorem tak_fits (bs : List UInt8) (p : Int) : (takF bs p).1.fits := by
  unfold takF
  split
  · exact zero_rec_fits
  · exact head_fits _

set_option maxRecDepth 4000 in
set_option maxHeartbeats 1600000 in
theorem big (b : ByteArray) (p : Int) (w : World) (h : 20000 < b.size) :
    Calls Try.prog 4 #[.string b, .int .i64 p] w fun e w' => e = .returned (.bool true) ∧ Below w.heap.size w w' := by
  have hi : (20000 : Int) < (b.size : Int) := by omega
  go_enter Try.func4, Try.ntmps4
  go_wp2_with fail
  refine (awake7_any _).mono ?_
  rintro e w1 ⟨rfl, hb1⟩
  go_wp2_with fail
  refine (awake7_any _).mono ?_
  rintro e w2 ⟨rfl, hb2⟩
  have d := hb1.trans (hb2.mono hb1.size)
  clear hb1 hb2
  go_wp2
  go_ret
  exact ⟨rfl, d⟩

set_option maxRecDepth 4000 in
set_option maxHeartbeats 3200000 in
theorem core (b : ByteArray) (p : Int) (w : World) (hz : b.size ≤ 20000) :
    Calls Try.prog 4 #[.string b, .int .i64 p] w fun e w' => e = .returned (.bool true) ∧ Below w.heap.size w w' := by
  have hcv := fun w => Lib.run_convert_string_bytes (P := Try.prog) w 9 30 5 b Try.underlying9 Try.underlying30 Try.underlying5
  have HFit := hide (tak_fits b.data.toList p)
  have HRD := hide (fun w => rtake7_any b p w (by omega))
  have HTD := hide (fun w cap (hc : b.size ≤ cap) => ftake_any (some ⟨w.heap.size, 0, none⟩) b.size cap b.data.toList p (Lib.bytesWorld w 5 b) (isB_conv w _ b) (by omega) hc)
  unfold TakAns at HRD HTD
  generalize takF b.data.toList p = t at *
  have hi : ¬ (20000 : Int) < (b.size : Int) := by omega
  go_enter Try.func4, Try.ntmps4
  go_wp2_with fail
  refine (awake7_any _).mono ?_
  rintro e w1 ⟨rfl, hb1⟩
  go_wp2_with fail
  refine (HTD.out w1 _ (grownCap_ge ..)).mono ?_
  rintro e w2 ⟨⟨va, vb, rfl, hgot⟩, hb2⟩
  have d1 := hb1.trans ((below_conv w1 5 b).mono hb1.size)
  have HB2 := hide (d1.trans (hb2.mono d1.size))
  clear hb1 hb2 d1 hcv HTD
  obtain ⟨av, cv, rfl⟩ := own_shape5 hgot.1
  obtain ⟨au, cu, rfl⟩ := own_shape5 hgot.2
  have HG2 := hide hgot
  clear hgot
  go_wp2_with (refine wpList_store_at rfl 28 (.tmp 5) (.tmp 24) rfl w2.heap.size zeroA (rcA t.1 (.slice av t.1.ts.length cv) (.slice au t.1.ds.length cu)) rfl rfl (RowAt.new w2 28 zeroA) infoRc rfl (by simp [rcA, Value.oneCell']) ?_)
  intro w3 hr3 hk3 _
  have hb3 := hk3 _ _ ((Below.refl w2.heap.size w2).alloc (Nat.le_refl _) _) (Nat.le_refl _)
  have HIN := hide (HG2.out.below hb3).rc
  have HK3 : Hid (Keeps w w3 [(w2.heap.size, 28, (rcA t.1 (.slice av t.1.ts.length cv) (.slice au t.1.ds.length cu)))]) := ⟨⟨hr3, trivial⟩, HB2.out.trans (hb3.mono HB2.out.size)⟩
  clear hr3 hk3 hb3 HB2 HG2
  generalize w2.heap.size = g at *
  go_wp2_with fail
  refine (HRD.out _).mono ?_
  rintro e w4 ⟨⟨va4, vb4, rfl, hgot4⟩, hb4⟩
  obtain ⟨bv, dv, rfl⟩ := own_shape5 hgot4.1
  obtain ⟨bu, du, rfl⟩ := own_shape5 hgot4.2
  have HJ4 := hide hgot4
  have HIN4 := hide (HIN.out.below hb4)
  have HK4 := hide (HK3.out.later hb4)
  clear hgot4 hb4 HIN HK3 HRD
  go_wp2_with (refine wpList_store_at rfl 28 (.tmp 8) (.tmp 31) rfl w4.heap.size zeroA (rcA t.1 (.slice bv t.1.ts.length dv) (.slice bu t.1.ds.length du)) rfl rfl (RowAt.new w4 28 zeroA) infoRc rfl (by simp [rcA, Value.oneCell']) ?_)
  intro w5 hr5 hk5 _
  have hb5 := hk5 _ _ ((Below.refl w4.heap.size w4).alloc (Nat.le_refl _) _) (Nat.le_refl _)
  have HIN5 := hide (HIN4.out.below hb5)
  have HJ5 := hide (HJ4.out.below hb5).rc
  have HK5 : Hid (Keeps w w5 [(w4.heap.size, 28, (rcA t.1 (.slice bv t.1.ts.length dv) (.slice bu t.1.ds.length du))), (g, 28, (rcA t.1 (.slice av t.1.ts.length cv) (.slice au t.1.ds.length cu)))]) := HK4.out.laid hr5 hk5
  clear hr5 hk5 hb5 HIN4 HJ4 HK4
  generalize w4.heap.size = g4 at *
  have HS := hide (rsame_at t.1 t.1 (.slice av t.1.ts.length cv) (.slice au t.1.ds.length cu) (.slice bv t.1.ts.length dv) (.slice bu t.1.ds.length du) w5 true (hide ⟨fun _ => rfl, fun _ => rfl⟩) HFit.out HFit.out HIN5.out HJ5.out)
  obtain ⟨r, n, er⟩ := t
  go_wp2_with (first | (refine wpList_load_at rfl 28 (.tmp 5) rfl g rfl (rcA r (.slice av r.ts.length cv) (.slice au r.ds.length cu)) HK5.out.1.2.1 _ Try.underlying28 rfl infoRc ?_) | (refine wpList_load_at rfl 28 (.tmp 8) rfl g4 rfl (rcA r (.slice bv r.ts.length dv) (.slice bu r.ds.length du)) HK5.out.1.1 _ Try.underlying28 rfl infoRc ?_))
  refine HS.out.mono ?_
  rintro e w6 ⟨rfl, hb6⟩
  have d6 := (HK5.out.later hb6).2
  clear HK5 HS hb6 HIN5 HJ5 HFit
  go_wp2
  go_ret
  exact ⟨rfl, d6⟩

theorem walk (a0 : ByteArray) (a1 : Int) (z0 : a0.size ≤ 140737488351232) (w1 : (Lit.int .i64 a1).wf = true) (w : World) :
    Calls Try.prog 4 #[.string a0, .int .i64 a1] w fun e w' => e = .returned (.bool true) ∧ Below w.heap.size w w' := by
  by_cases h : 20000 < a0.size
  · exact big a0 a1 w h
  · exact core a0 a1 w (by omega)
end Go.Proofs.Ytgobegpmojkhaaa.frameTakes

namespace Go.Proofs.Ytgobegpmojkhaaa.frameTakes
open Go.ChangeShapes Go.WideShapes Go.ChangeAt Go.RowKit
open Go.ChangeMaps (open_string shut_string)
set_option linter.unusedVariables false

theorem own : ownKnob Try.prog.godebug = none := by kernel_rfl

set_option maxRecDepth 100000 in
theorem lifted (os : Os) (started : os.Started) (H : Type) (enc : TypeId × Value → H) :
    ReturnsInHanded {} Try.checked os 4 .any (Rows.frameTakesSpec.pre6 enc Try.prog Try.f4 Rows.frameTakesRow.domain false) (Rows.frameTakesSpec.post enc Try.prog Try.f4 false true false false) := by
  refine returnsInHanded_of_change_sized (C := Try.checked) own started (by kernel_rfl) Try.func4
    (ChangeSpec.witness6 (enc := enc) (C := Try.checked) false ⟨#[], #[.string ByteArray.empty, .int .i64 0], []⟩ 8 (by kernel_rfl) (by kernel_rfl) (by kernel_rfl) (by kernel_rfl)) ?_
  intro W base args ds gs before hval0 hW hcnd hsz0 _
  have hval : ∀ (j : Nat) t v, Try.f4.params[j]? = some t → args[j]? = some v → Value.okWide Try.prog W .any base t v := hval0
  have hsz : (DataW.weightsEach Try.prog (Try.f4.params.toList ++ Rows.frameTakesSpec.plain.varTypes Try.prog) (ds ++ gs)).all (· ≤ reachBytes) = true := hsz0
  have hW' := hW
  obtain ⟨p, q, hA0, hV, rfl, hfz, hnd⟩ := hW
  have hA : DataW.TrodAll enc Try.prog W 0 (fun _ => true) true Try.f4.params.toList args.toList ds p := hA0
  rw [Try.params4] at hA hval hsz
  obtain ⟨v0, vs0, d0, ds0, p0, q0, hargs, rfl, rfl, h0, r0⟩ := trodAll_cons hA
  obtain ⟨v1, vs1, d1, ds1, p1, q1, rfl, rfl, rfl, h1, r1⟩ := trodAll_cons r0
  obtain ⟨rfl, rfl, rfl⟩ := trodAll_nil r1
  obtain rfl : args = #[v0, v1] := by cases args; simp_all
  obtain ⟨rfl, rfl⟩ := trodVars_none hV
  obtain ⟨a0, rfl, rfl, rfl, w0⟩ := open_string Try.underlying9 (hval 0 9 v0 rfl rfl) h0
  obtain ⟨a1, rfl, rfl, rfl, w1⟩ := open_int Try.underlying3 (hval 1 3 v1 rfl rfl) h1
  have z0 : a0.size ≤ 140737488351232 := by
    have hz := sized_string hsz (j := 0) (t := 9) (bytes := a0.data.toList) rfl rfl
    simpa [reachBytes] using hz
  clear hA0 hval0 hsz0 hsz
  refine (walk a0 a1 z0 w1 W).mono fun e W' ⟨he, bel⟩ => ?_
  subst he
  exact ⟨_, rfl, _, _, _, [], _, [], hW', trodAll_mk1 (shut_bool Try.underlying4 _), (trodAll_cons_mk (shut_string Try.underlying9 w0) (trodAll_cons_mk (shut_int Try.underlying3 w1) trodAll_mk0)), rfl, bel.frame _, fun h => by cases h⟩

theorem over : Rows.frameTakesRow.holds Try.pinned (OpenSpec.ofChange Rows.frameTakesSpec) :=
  OpenClaim.holds_of_wide 4 Try.f4 rfl rfl rfl rfl rfl rfl rfl ⟨rfl, rfl, rfl, rfl, rfl⟩ rfl rfl rfl rfl rfl (by kernel_rfl) Try.func4 (by kernel_rfl)
    (of_decide_eq_true (by kernel_rfl)) (by unfold Func.isWrapper; first | (rw [if_pos (by decide +kernel)]; kernel_rfl) | (rw [if_neg (by decide +kernel)]; exact ⟨rfl, rfl⟩))
    (fun os started H enc _ => lifted os started H enc)

/-- THE STATEMENT. -/
theorem proved : Rows.FrameTakesSaid := over
end Go.Proofs.Ytgobegpmojkhaaa.frameTakes
namespace Go.Proofs.Ytgobegpmojkhaaa
theorem frameTakes_proved : Rows.FrameTakesSaid := frameTakes.proved
end Go.Proofs.Ytgobegpmojkhaaa
