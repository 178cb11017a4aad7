/-
  FrameAgain: what was scanned, laid anew, is just the bytes that were scanned. FrameAgain returns true for every input, and its arguments read as before.
  Condition: none but those that the form of every such statement bears by itself (each string within the reach).
-/
import Derived.Lib.ConvBytes
import Derived.OpenShut
import Derived.Test.YtgobegpmojkhaaaRows
import Derived.ProofKit
import Derived.ShutString
import Derived.SizedLaws
import Derived.JoinedCond
import Derived.Test.YtgobegpmojkhaaaK05
import Derived.Test.YtgobegpmojkhaaaK10

/-
  The walk of FrameAgain: it returns true, and turns nothing that was there.
-/
namespace Go.Proofs.Ytgobegpmojkhaaa.frameAgain
open Go.RowKit
set_option linter.unusedVariables false

set_option maxRecDepth 4000 in
set_option maxHeartbeats 1600000 in
theorem big (b : ByteArray) (w : World) (h : 20000 < b.size) :
    Calls Try.prog 7 #[.string b] w fun e w' => e = .returned (.bool true) ∧ Below w.heap.size w w' := by
  have hi : (20000 : Int) < (b.size : Int) := by omega
  go_enter Try.func7, Try.ntmps7
  go_wp2_with fail
  refine (awake7_any _).mono ?_
  rintro e w1 ⟨rfl, hb1⟩
  go_wp2_with fail
  refine (awake7_any _).mono ?_
  rintro e w2 ⟨rfl, hb2⟩
  have d := hb1.trans (hb2.mono hb1.size)
  clear hb1 hb2
  go_wp2
  go_ret
  exact ⟨rfl, d⟩

set_option maxRecDepth 4000 in
set_option maxHeartbeats 3200000 in
theorem core (b : ByteArray) (w : World) (hz : b.size ≤ 20000) (q : Bool) (hq : q = ((((scanL b.data.toList).2 : Nat) : Int) == (b.size : Int))) :
    Calls Try.prog 7 #[.string b] w fun e w' => e = .returned (.bool true) ∧ Below w.heap.size w w' := by
  have hcv := fun w => Lib.run_convert_string_bytes (P := Try.prog) w 9 30 5 b Try.underlying9 Try.underlying30 Try.underlying5
  have HTD := hide (fun w cap (hc : b.size ≤ cap) => scan7_any (some ⟨w.heap.size, 0, none⟩) b.size cap b.data.toList (Lib.bytesWorld w 5 b) (isB_conv w _ b) (by omega) hc)
  have hag := scan_again (b.data.toList.length + 1) 0 b.data.toList
  have hsl : scanF (b.data.toList.length + 1) 0 b.data.toList = scanL b.data.toList := rfl
  rw [hsl] at hag
  have HFEW : Hid ((scanL b.data.toList).1.length ≤ 20000) := by
    have h2 := framesB_long (scanL b.data.toList).1
    have h3 := congrArg List.length hag.2.1
    rw [List.length_take, data_length] at h3
    unfold Hid
    omega
  have hnb : (scanL b.data.toList).2 ≤ b.size := by rw [← data_length b]; exact hag.2.2
  have HRI := hide hag.1
  have hex := extract_eq b 0 (scanL b.data.toList).2 (by omega)
  rw [Nat.zero_add, List.drop_zero, hag.2.1] at hex
  unfold ScanAns at HTD
  rw [← eq_dec] at HTD
  rw [← hq] at HTD
  clear hag hsl
  generalize scanL b.data.toList = t at *
  obtain ⟨rs, n⟩ := t
  simp only at HTD HFEW HRI hex hnb hq
  have hi : ¬ (20000 : Int) < (b.size : Int) := by omega
  generalize hS : b.extract 0 n = S at *
  have HSS := hide hex.symm
  have HSX := hide hS
  clear hex hS
  have hi2 : ¬ (n : Int) < 0 := by omega
  have hi3 : ¬ (b.size : Int) < (n : Int) := by omega
  go_enter Try.func7, Try.ntmps7
  go_wp2_with fail
  refine (awake7_any _).mono ?_
  rintro e w1 ⟨rfl, hb1⟩
  go_wp2_with fail
  refine (HTD.out w1 _ (grownCap_ge ..)).mono ?_
  rintro e w2 ⟨v2, ms, rfl, hms, hown2, hgot2, hb2⟩
  have d1 := hb1.trans ((below_conv w1 5 b).mono hb1.size)
  have HB2 := hide (d1.trans (hb2.mono d1.size))
  have HI2 := hide (RsIn.own hown2 hgot2)
  obtain ⟨a2, c2, rfl⟩ := own_shape5 hown2
  have HL := hide (laid_any _ ms w2 HI2.out (by rw [hms]; exact HRI.out) (by
    have h1 : ms.length = rs.length := by rw [← hms]; simp [msR]
    have h2 := HFEW.out
    omega))
  rw [hms] at HL
  clear hb1 hb2 d1 hcv HTD hown2 hgot2 hms
  go_wp2_with fail
  refine HL.out.mono ?_
  rintro e w3 ⟨vo, ve, rfl, hld⟩
  have HB3 := hide (HB2.out.trans (hld.bel.mono HB2.out.size))
  obtain ⟨a3, c3, rfl, hc3, hB3⟩ := shape_isB hld.out
  obtain ⟨a4, c4, rfl⟩ := own_shape5 hld.ends
  have HIB := hide hB3
  clear hld hB3 HL HB2 HI2 hc3
  have HC : Hid (∀ x, IsB x a3 (framesB rs).length (framesB rs) → Sem.run Try.prog (Go.convert 30 9 (.slice a3 (framesB rs).length c3)) x = .ok (.string S) x) := fun x hx => by
    have h := run_toString (P := Try.prog) x 30 9 5 Try.underlying30 Try.underlying5 Try.underlying9 a3 (framesB rs).length c3 _ hx
    have e9 : (⟨(framesB rs).toArray⟩ : ByteArray) = S := HSS.out
    rw [e9] at h
    exact h
  have HSL := hide (fun (x : World) => HSX.out)
  generalize framesB rs = FB at *
  generalize FB.length = lf at *
  go_wp2_with fail
  refine wp_region_in (fun x => Below w.heap.size w x ∧ IsB x a3 lf FB) (by kernel_rfl) (by kernel_rfl) ⟨below_drew HB3.out, HIB.out⟩ ?_
  clear HB3 HIB
  repeat (first
    | go_big_quiet_skip
    | (refine wpQuiet_convert rfl 30 9 (.tmp 48) rfl _ (.string S) rfl (fun y hy => HC.out y hy.2) ?_; simp only [Act.put, Array.setIfInBounds, List.size_toArray, List.length_cons, List.length_nil, Nat.reduceAdd, Nat.reduceLT, ↓reduceDIte, List.set_toArray, List.set_cons_succ, List.set_cons_zero])
    | (refine wpQuiet_plain rfl (fun K hK => ?_); go_simp; refine hK _ ?_; clear hK K))
  refine wpQuiet_nil ?_
  intro x hx
  have hfin := hx.1
  clear hx HC
  go_wp2
  go_ret
  refine ⟨?_, hfin⟩
  show Ending.returned (.bool (S.toList == (b.extract 0 n).toList)) = _
  rw [HSX.out]
  simp

theorem walk (a0 : ByteArray) (z0 : a0.size ≤ 140737488351232) (w : World) :
    Calls Try.prog 7 #[.string a0] w fun e w' => e = .returned (.bool true) ∧ Below w.heap.size w w' := by
  by_cases h : 20000 < a0.size
  · exact big a0 w h
  · exact core a0 w (by omega) _ rfl
end Go.Proofs.Ytgobegpmojkhaaa.frameAgain

namespace Go.Proofs.Ytgobegpmojkhaaa.frameAgain
open Go.ChangeShapes Go.WideShapes Go.ChangeAt Go.RowKit
open Go.ChangeMaps (open_string shut_string)
set_option linter.unusedVariables false

theorem own : ownKnob Try.prog.godebug = none := by kernel_rfl

set_option maxRecDepth 100000 in
theorem lifted (os : Os) (started : os.Started) (H : Type) (enc : TypeId × Value → H) :
    ReturnsInHanded {} Try.checked os 7 .any (Rows.frameAgainSpec.pre6 enc Try.prog Try.f7 Rows.frameAgainRow.domain false) (Rows.frameAgainSpec.post enc Try.prog Try.f7 false true false false) := by
  refine returnsInHanded_of_change_sized (C := Try.checked) own started (by kernel_rfl) Try.func7
    (ChangeSpec.witness6 (enc := enc) (C := Try.checked) false ⟨#[], #[.string ByteArray.empty], []⟩ 8 (by kernel_rfl) (by kernel_rfl) (by kernel_rfl) (by kernel_rfl)) ?_
  intro W base args ds gs before hval0 hW hcnd hsz0 _
  have hval : ∀ (j : Nat) t v, Try.f7.params[j]? = some t → args[j]? = some v → Value.okWide Try.prog W .any base t v := hval0
  have hsz : (DataW.weightsEach Try.prog (Try.f7.params.toList ++ Rows.frameAgainSpec.plain.varTypes Try.prog) (ds ++ gs)).all (· ≤ reachBytes) = true := hsz0
  have hW' := hW
  obtain ⟨p, q, hA0, hV, rfl, hfz, hnd⟩ := hW
  have hA : DataW.TrodAll enc Try.prog W 0 (fun _ => true) true Try.f7.params.toList args.toList ds p := hA0
  rw [Try.params7] at hA hval hsz
  obtain ⟨v0, vs0, d0, ds0, p0, q0, hargs, rfl, rfl, h0, r0⟩ := trodAll_cons hA
  obtain ⟨rfl, rfl, rfl⟩ := trodAll_nil r0
  obtain rfl : args = #[v0] := by cases args; simp_all
  obtain ⟨rfl, rfl⟩ := trodVars_none hV
  obtain ⟨a0, rfl, rfl, rfl, w0⟩ := open_string Try.underlying9 (hval 0 9 v0 rfl rfl) h0
  have z0 : a0.size ≤ 140737488351232 := by
    have hz := sized_string hsz (j := 0) (t := 9) (bytes := a0.data.toList) rfl rfl
    simpa [reachBytes] using hz
  clear hA0 hval0 hsz0 hsz
  refine (walk a0 z0 W).mono fun e W' ⟨he, bel⟩ => ?_
  subst he
  exact ⟨_, rfl, _, _, _, [], _, [], hW', trodAll_mk1 (shut_bool Try.underlying4 _), (trodAll_cons_mk (shut_string Try.underlying9 w0) trodAll_mk0), rfl, bel.frame _, fun h => by cases h⟩

theorem over : Rows.frameAgainRow.holds Try.pinned (OpenSpec.ofChange Rows.frameAgainSpec) :=
  OpenClaim.holds_of_wide 7 Try.f7 rfl rfl rfl rfl rfl rfl rfl ⟨rfl, rfl, rfl, rfl, rfl⟩ rfl rfl rfl rfl rfl (by kernel_rfl) Try.func7 (by kernel_rfl)
    (of_decide_eq_true (by kernel_rfl)) (by unfold Func.isWrapper; first | (rw [if_pos (by decide +kernel)]; kernel_rfl) | (rw [if_neg (by decide +kernel)]; exact ⟨rfl, rfl⟩))
    (fun os started H enc _ => lifted os started H enc)

/-- THE STATEMENT. -/
theorem proved : Rows.FrameAgainSaid := over
end Go.Proofs.Ytgobegpmojkhaaa.frameAgain
namespace Go.Proofs.Ytgobegpmojkhaaa
theorem frameAgain_proved : Rows.FrameAgainSaid := frameAgain.proved
end Go.Proofs.Ytgobegpmojkhaaa
