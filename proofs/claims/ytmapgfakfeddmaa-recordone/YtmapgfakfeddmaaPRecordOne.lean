/-
  RecordOne: bytes that are decoded are just the bytes of what they tell, and that is right. RecordOne returns true for every input, and its arguments read as before.
  Condition: none but those that the form of every such statement bears by itself (each string within the reach).
-/
import Derived.Lib.ConvBytes
import Derived.OpenShut
import Derived.Test.YtmapgfakfeddmaaRows
import Derived.ProofKit
import Derived.ShutString
import Derived.SizedLaws
import Derived.JoinedCond
import Derived.Test.YtmapgfakfeddmaaK09
import Derived.Test.YtmapgfakfeddmaaK11
import Derived.Test.YtmapgfakfeddmaaK10

/-
  The walk of RecordOne: it returns true, and turns nothing that was there.
-/
namespace Go.Proofs.Ytmapgfakfeddmaa.recordOne
open Go.RowKit
set_option linter.unusedVariables false

theorem zero_in (w : World) : RcIn w Rec.zero (.slice none 0 0) (.slice none 0 0) := ⟨⟨none, 0, rfl, fun h => absurd h (by decide)⟩, ⟨none, 0, rfl, fun h => absurd h (by decide)⟩⟩

set_option maxRecDepth 4000 in
set_option maxHeartbeats 3200000 in
theorem core (b : ByteArray) (w : World) (hz : b.size ≤ 140737488351232) :
    Calls Try.prog 6 #[.string b] w fun e w' => e = .returned (.bool true) ∧ Below w.heap.size w w' := by
  have hcv := fun w => Lib.run_convert_string_bytes (P := Try.prog) w 9 30 5 b Try.underlying9 Try.underlying30 Try.underlying5
  have HFit := hide (dec_fits b.data.toList)
  have HOK : Hid ((decR b.data.toList).2 = 0 → (decR b.data.toList).1.right ∧ recB (decR b.data.toList).1 = b.data.toList) := fun h => by
    obtain ⟨h1, h2⟩ := dec_ok _ h
    exact ⟨h1, h2⟩
  have HNO : Hid ((decR b.data.toList).2 ≠ 0 → (decR b.data.toList).1 = Rec.zero) := fun h => dec_no _ h
  go_enter Try.func6, Try.ntmps6
  go_wp2_with fail
  refine (awake_any _).mono ?_
  rintro e w1 ⟨rfl, hb1⟩
  go_wp2_with fail
  refine (dec_any _ _ _ b.data.toList _ (isB_conv w1 _ b) (by omega) (grownCap_ge ..)).mono ?_
  rintro e w2 ⟨⟨va, vb, rfl, hgot⟩, hb2⟩
  have d1 := hb1.trans ((below_conv w1 5 b).mono hb1.size)
  have HB2 := hide (d1.trans (hb2.mono d1.size))
  clear hb1 hb2 d1 hcv
  generalize decR b.data.toList = dr at *
  obtain ⟨r, er⟩ := dr
  simp only at HFit HOK HNO hgot ⊢
  obtain ⟨av, cv, rfl⟩ := own_shape5 hgot.1
  obtain ⟨au, cu, rfl⟩ := own_shape5 hgot.2
  have HG2 := hide hgot
  clear hgot
  go_wp2_with (refine wpList_store_at rfl 28 (.tmp 3) (.tmp 13) rfl w2.heap.size #[.int .i64 0, .int .u64 0, .int .i64 0, .int .u64 0, .int .i64 0, .int .i64 0, .int .i64 0, .string ⟨#[]⟩, .string ⟨#[]⟩, .int .u64 0, .int .i64 0, .int .u64 0, .slice none 0 0, .slice none 0 0] (rcA r (.slice av r.ts.length cv) (.slice au r.ds.length cu)) rfl rfl (RowAt.new w2 28 #[.int .i64 0, .int .u64 0, .int .i64 0, .int .u64 0, .int .i64 0, .int .i64 0, .int .i64 0, .string ⟨#[]⟩, .string ⟨#[]⟩, .int .u64 0, .int .i64 0, .int .u64 0, .slice none 0 0, .slice none 0 0]) infoRc rfl (by simp [rcA, Value.oneCell']) ?_)
  intro w3 hr3 hk3 _
  have hb3 := hk3 _ _ ((Below.refl w2.heap.size w2).alloc (Nat.le_refl _) _) (Nat.le_refl _)
  have HIN := hide (HG2.out.below hb3).rc
  have HK3 : Hid (Keeps w w3 [(w2.heap.size, 28, (rcA r (.slice av r.ts.length cv) (.slice au r.ds.length cu)))]) := ⟨⟨hr3, trivial⟩, HB2.out.trans (hb3.mono HB2.out.size)⟩
  clear hr3 hk3 hb3 HB2 HG2
  generalize w2.heap.size = g at *
  by_cases he : er = 0
  case neg =>
    have k0 : (er == 0) = false := by rw [beq_eq_false_iff_ne]; exact he
    have k1 : (er != 0) = true := by rw [bne, k0]; rfl
    have HZ := hide (HNO.out he)
    clear HOK HNO he
    have HS := hide (rsame_at r Rec.zero (.slice av r.ts.length cv) (.slice au r.ds.length cu) (.slice none 0 0) (.slice none 0 0) w3 true (hide ⟨fun _ => HZ.out, fun _ => rfl⟩) HFit.out zero_rec_fits HIN.out (zero_in w3))
    go_wp2_with (refine wpList_load_at rfl 28 (.tmp 3) rfl g rfl (rcA r (.slice av r.ts.length cv) (.slice au r.ds.length cu)) HK3.out.1.1 _ Try.underlying28 rfl infoRc ?_)
    refine HS.out.mono ?_
    rintro e w4 ⟨rfl, hb4⟩
    have d4 := (HK3.out.later hb4).2
    clear HK3 HS hb4 HIN HFit HZ
    go_wp2
    go_ret
    exact ⟨rfl, d4⟩
  subst he
  obtain ⟨hr, hrb⟩ := HOK.out rfl
  have eE : encE r = 0 := by unfold encE; rw [if_pos (rightB_yes hr)]
  have eL : encL r = b.data.toList := by unfold encL; rw [if_pos (rightB_yes hr), hrb]
  have HE := hide (enc_any r (.slice av r.ts.length cv) (.slice au r.ds.length cu) w3 HFit.out HIN.out)
  have HR := hide (fun w h => right_at r (.slice av r.ts.length cv) (.slice au r.ds.length cu) w true (hide ⟨fun _ => hr, fun _ => rfl⟩) HFit.out h)
  have HSZ := hide (fun w h => size_any r (.slice av r.ts.length cv) (.slice au r.ds.length cu) w HFit.out h)
  rw [eE, eL] at HE
  rw [eL, data_length] at HSZ
  clear hr hrb eE eL HOK HNO HFit
  go_wp2_with (refine wpList_load_at rfl 28 (.tmp 3) rfl g rfl (rcA r (.slice av r.ts.length cv) (.slice au r.ds.length cu)) HK3.out.1.1 _ Try.underlying28 rfl infoRc ?_)
  refine HE.out.mono ?_
  rintro e w4 ⟨⟨v4, rfl, p4, k4, rfl, -, -, hB4⟩, hb4⟩
  have HK4 := hide (HK3.out.later hb4)
  have HIN4 := hide (HIN.out.below hb4)
  have hc4 := run_toString (P := Try.prog) w4 30 9 5 Try.underlying30 Try.underlying5 Try.underlying9 p4 b.data.toList.length k4 _ hB4
  rw [mk_data] at hc4
  rw [data_length] at hc4
  rw [data_length]
  clear HK3 HIN hb4 hB4 HE
  have c0 := HK4.out.1.1.cell 0 (.int .i64 r.k) rfl
  have c1 := HK4.out.1.1.cell 1 (.int .u64 (r.l : Int)) rfl
  have c2 := HK4.out.1.1.cell 2 (.int .i64 r.t) rfl
  have c3 := HK4.out.1.1.cell 3 (.int .u64 (r.p : Int)) rfl
  have c4 := HK4.out.1.1.cell 4 (.int .i64 r.c.k) rfl
  have c5 := HK4.out.1.1.cell 5 (.int .i64 r.c.pg) rfl
  have c6 := HK4.out.1.1.cell 6 (.int .i64 r.c.sl) rfl
  have c7 := HK4.out.1.1.cell 7 (.string r.c.o) rfl
  have c8 := HK4.out.1.1.cell 8 (.string r.c.n) rfl
  have c9 := HK4.out.1.1.cell 9 (.int .u64 (r.n : Int)) rfl
  have c10 := HK4.out.1.1.cell 10 (.int .i64 r.s) rfl
  have c11 := HK4.out.1.1.cell 11 (.int .u64 (r.b : Int)) rfl
  have c12 := HK4.out.1.1.cell 12 (.slice av r.ts.length cv) rfl
  have c13 := HK4.out.1.1.cell 13 (.slice au r.ds.length cu) rfl
  go_wp2_with fail
  refine (HR.out _ HIN4.out).mono ?_
  rintro e w5 ⟨rfl, hb5⟩
  have HK5 := hide (HK4.out.later hb5)
  have HIN5 := hide (HIN4.out.below hb5)
  clear HK4 HIN4 hb5 HR hc4 c0 c1 c2 c3 c4 c5 c6 c7 c8 c9 c10 c11 c12 c13
  have c0 := HK5.out.1.1.cell 0 (.int .i64 r.k) rfl
  have c1 := HK5.out.1.1.cell 1 (.int .u64 (r.l : Int)) rfl
  have c2 := HK5.out.1.1.cell 2 (.int .i64 r.t) rfl
  have c3 := HK5.out.1.1.cell 3 (.int .u64 (r.p : Int)) rfl
  have c4 := HK5.out.1.1.cell 4 (.int .i64 r.c.k) rfl
  have c5 := HK5.out.1.1.cell 5 (.int .i64 r.c.pg) rfl
  have c6 := HK5.out.1.1.cell 6 (.int .i64 r.c.sl) rfl
  have c7 := HK5.out.1.1.cell 7 (.string r.c.o) rfl
  have c8 := HK5.out.1.1.cell 8 (.string r.c.n) rfl
  have c9 := HK5.out.1.1.cell 9 (.int .u64 (r.n : Int)) rfl
  have c10 := HK5.out.1.1.cell 10 (.int .i64 r.s) rfl
  have c11 := HK5.out.1.1.cell 11 (.int .u64 (r.b : Int)) rfl
  have c12 := HK5.out.1.1.cell 12 (.slice av r.ts.length cv) rfl
  have c13 := HK5.out.1.1.cell 13 (.slice au r.ds.length cu) rfl
  go_wp2_with fail
  refine (HSZ.out _ HIN5.out).mono ?_
  rintro e w6 ⟨rfl, hb6⟩
  have d6 := (HK5.out.later hb6).2
  clear HK5 HIN5 hb6 HSZ c0 c1 c2 c3 c4 c5 c6 c7 c8 c9 c10 c11 c12 c13
  go_wp2
  go_ret
  exact ⟨rfl, d6⟩

theorem walk (a0 : ByteArray) (z0 : a0.size ≤ 140737488351232) (w : World) :
    Calls Try.prog 6 #[.string a0] w fun e w' => e = .returned (.bool true) ∧ Below w.heap.size w w' := core a0 w z0
end Go.Proofs.Ytmapgfakfeddmaa.recordOne

namespace Go.Proofs.Ytmapgfakfeddmaa.recordOne
open Go.ChangeShapes Go.WideShapes Go.ChangeAt Go.RowKit
open Go.ChangeMaps (open_string shut_string)
set_option linter.unusedVariables false

theorem own : ownKnob Try.prog.godebug = none := by kernel_rfl

set_option maxRecDepth 100000 in
theorem lifted (os : Os) (started : os.Started) (H : Type) (enc : TypeId × Value → H) :
    ReturnsInHanded {} Try.checked os 6 .any (Rows.recordOneSpec.pre6 enc Try.prog Try.f6 Rows.recordOneRow.domain false) (Rows.recordOneSpec.post enc Try.prog Try.f6 false true false false) := by
  refine returnsInHanded_of_change_sized (C := Try.checked) own started (by kernel_rfl) Try.func6
    (ChangeSpec.witness6 (enc := enc) (C := Try.checked) false ⟨#[], #[.string ByteArray.empty], []⟩ 8 (by kernel_rfl) (by kernel_rfl) (by kernel_rfl) (by kernel_rfl)) ?_
  intro W base args ds gs before hval0 hW hcnd hsz0 _
  have hval : ∀ (j : Nat) t v, Try.f6.params[j]? = some t → args[j]? = some v → Value.okWide Try.prog W .any base t v := hval0
  have hsz : (DataW.weightsEach Try.prog (Try.f6.params.toList ++ Rows.recordOneSpec.plain.varTypes Try.prog) (ds ++ gs)).all (· ≤ reachBytes) = true := hsz0
  have hW' := hW
  obtain ⟨p, q, hA0, hV, rfl, hfz, hnd⟩ := hW
  have hA : DataW.TrodAll enc Try.prog W 0 (fun _ => true) true Try.f6.params.toList args.toList ds p := hA0
  rw [Try.params6] at hA hval hsz
  obtain ⟨v0, vs0, d0, ds0, p0, q0, hargs, rfl, rfl, h0, r0⟩ := trodAll_cons hA
  obtain ⟨rfl, rfl, rfl⟩ := trodAll_nil r0
  obtain rfl : args = #[v0] := by cases args; simp_all
  obtain ⟨rfl, rfl⟩ := trodVars_none hV
  obtain ⟨a0, rfl, rfl, rfl, w0⟩ := open_string Try.underlying9 (hval 0 9 v0 rfl rfl) h0
  have z0 : a0.size ≤ 140737488351232 := by
    have hz := sized_string hsz (j := 0) (t := 9) (bytes := a0.data.toList) rfl rfl
    simpa [reachBytes] using hz
  clear hA0 hval0 hsz0 hsz
  refine (walk a0 z0 W).mono fun e W' ⟨he, bel⟩ => ?_
  subst he
  exact ⟨_, rfl, _, _, _, [], _, [], hW', trodAll_mk1 (shut_bool Try.underlying4 _), (trodAll_cons_mk (shut_string Try.underlying9 w0) trodAll_mk0), rfl, bel.frame _, fun h => by cases h⟩

theorem over : Rows.recordOneRow.holds Try.pinned (OpenSpec.ofChange Rows.recordOneSpec) :=
  OpenClaim.holds_of_wide 6 Try.f6 rfl rfl rfl rfl rfl rfl rfl ⟨rfl, rfl, rfl, rfl, rfl⟩ rfl rfl rfl rfl rfl (by kernel_rfl) Try.func6 (by kernel_rfl)
    (of_decide_eq_true (by kernel_rfl)) (by unfold Func.isWrapper; first | (rw [if_pos (by decide +kernel)]; kernel_rfl) | (rw [if_neg (by decide +kernel)]; exact ⟨rfl, rfl⟩))
    (fun os started H enc _ => lifted os started H enc)

/-- THE STATEMENT. -/
theorem proved : Rows.RecordOneSaid := over
end Go.Proofs.Ytmapgfakfeddmaa.recordOne
namespace Go.Proofs.Ytmapgfakfeddmaa
theorem recordOne_proved : Rows.RecordOneSaid := recordOne.proved
end Go.Proofs.Ytmapgfakfeddmaa
