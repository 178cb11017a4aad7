/-
  FrameCuts: frames cut off anywhere: just those are scanned that are whole, and nothing is left only at a border. FrameCuts returns true for every input, and its arguments read as before.
  Condition: none but those that the form of every such statement bears by itself (each string within the reach).
-/
import Derived.OpenShut
import Derived.Test.YtgobegpmojkhaaaRows
import Derived.ProofKit
import Derived.ShutString
import Derived.SizedLaws
import Derived.JoinedCond
import Derived.Test.YtgobegpmojkhaaaK05
import Derived.Test.YtgobegpmojkhaaaK10

/-
  The walk of FrameCuts: it returns true, and turns nothing that was there.
-/
namespace Go.Proofs.Ytgobegpmojkhaaa.frameCuts
open Go.RowKit
set_option linter.unusedVariables false

theorem isB_take {w : World} {a : Option Addr} {len m : Nat} {bs : List UInt8} (h : IsB w a len bs) (hm : m ≤ len) : IsB w a m (bs.take m) := by
  refine ⟨by rw [List.length_take, h.1, Nat.min_eq_left hm], fun hp => ?_⟩
  obtain ⟨b, off, ha, hb, hc⟩ := h.2 (by omega)
  refine ⟨b, off, ha, hb, fun j hj => ?_⟩
  rw [hc j (by omega)]
  have e : (bs.take m).getD j 0 = bs.getD j 0 := by
    rw [List.getD_eq_getElem?_getD, List.getD_eq_getElem?_getD, List.getElem?_take, if_pos hj]
  rw [e]
theorem endsV_get (rs : List Rec) (i : Nat) (h : i < rs.length) : (endsV rs)[i]? = some (.int .i64 ((framesB (rs.take (i + 1))).length : Int)) := by
  unfold endsV
  rw [List.getElem?_map, List.getElem?_range h]
  rfl

set_option maxRecDepth 8000 in
set_option maxHeartbeats 3200000 in
theorem core (v : Value) (ms : List (Rec × Value × Value)) (cut : Nat) (w : World) (ha : RsIn w v ms) (hl : ms.length ≤ maxLen) (hcp : ∀ a len cap, v = .slice a len cap → len ≤ cap) (hcut : cut < 18446744073709551616) :
    Calls Try.prog 6 #[v, .int .u64 (cut : Int)] w fun e w' => e = .returned (.bool true) ∧ Below w.heap.size w w' := by
  have HA := hide ha
  have HRT := hide (fun w ha => lright_any v ms w ha hl)
  have HLD := hide (fun w ha hr h => laid_any v ms w ha hr h)
  obtain ⟨⟨aa, ca, rfl, -⟩, -⟩ := ha
  have hcl := hcp _ _ _ rfl
  clear hcp
  obtain ⟨rs, hrs⟩ : ∃ rs, rs = msR ms := ⟨_, rfl⟩
  rw [← hrs] at HRT HLD
  have HMS := hide hrs.symm
  have HML : Hid (ms.length = rs.length) := by
    show ms.length = rs.length
    rw [hrs]
    simp [msR]
  clear hrs hl
  obtain ⟨ln, hln⟩ : ∃ ln, ln = ms.length := ⟨_, rfl⟩
  rw [← hln] at HA HRT HLD HML hcl ⊢
  have HLM := hide hln
  have HLN := hide HML.out
  clear hln
  go_enter Try.func6, Try.ntmps6
  go_wp2_with fail
  refine (awake7_any _).mono ?_
  rintro e w1 ⟨rfl, hb1⟩
  have HD1 := hide hb1
  clear hb1
  go_wp2_with fail
  refine (HRT.out w1 (HA.out.below HD1.out)).mono ?_
  rintro e w2 ⟨q, rfl, hq, hb2⟩
  have HD2 := hide (HD1.out.trans (hb2.mono HD1.out.size))
  clear HD1 HRT hb2
  cases q with
  | false =>
    clear hq HLD
    go_wp2_with fail
    refine (awake7_any _).mono ?_
    rintro e w3 ⟨rfl, hb3⟩
    have d3 := HD2.out.trans (hb3.mono HD2.out.size)
    clear HD2 hb3
    go_wp2
    go_ret
    exact ⟨rfl, d3⟩
  | true =>
    obtain ⟨hri, h100⟩ := hq rfl
    have HRI := hide hri
    have HFEW : Hid ((framesB rs).length ≤ 100600) := by
      have h1 := frames_few rs (rise_right rs 0 hri)
      have h2 := HLN.out
      unfold Hid
      omega
    clear hq
    go_wp2_with fail
    refine (HLD.out w2 (HA.out.below HD2.out) hri (by omega)).mono ?_
    rintro e w3 ⟨vo, ve, rfl, hld⟩
    have HD3 := hide (HD2.out.trans (hld.bel.mono HD2.out.size))
    obtain ⟨ao, co, rfl, hco, hBo⟩ := shape_isB hld.out
    have HE3 := hide hld.ends
    rw [← HLN.out] at HE3
    obtain ⟨ae, ce, rfl⟩ := own_shape5 HE3.out
    have HB3 := hide hBo
    clear hld hBo HLD HD2 hri
    generalize hlo : (framesB rs).length = lo at *
    have HLO := hide hlo
    clear hlo
    have hlb := HFEW.out
    obtain ⟨l1, hl1⟩ : ∃ l1 : Nat, l1 = lo + 1 := ⟨_, rfl⟩
    have e1 : (lo : Int) + 1 = (l1 : Int) := by omega
    obtain ⟨k, hk⟩ : ∃ k : Nat, k = cut % l1 := ⟨_, rfl⟩
    have hkl : k ≤ lo := by
      have : cut % l1 < l1 := Nat.mod_lt _ (by omega)
      omega
    have e2 : (cut : Int) % (l1 : Int) = (k : Int) := by
      rw [hk]
      exact (Int.natCast_emod cut l1).symm
    have e3 : ¬ (l1 : Int) = 0 := by omega
    have hl1b : l1 ≤ 200000 := by omega
    clear hl1 hk HFEW
    have HSC := hide (fun x (h : IsB x ao lo (framesB rs)) => scan7_any ao k co ((framesB rs).take k) x (isB_take h hkl) (by omega) (by omega))
    unfold ScanAns at HSC
    obtain ⟨xs, nn, hsr⟩ : ∃ xs nn, scanL ((framesB rs).take k) = (xs, nn) := ⟨_, _, rfl⟩
    rw [hsr] at HSC
    have HSR := hide hsr
    clear hsr
    simp only [← eq_dec] at HSC
    go_wp2_with fail
    refine (HSC.out w3 HB3.out).mono ?_
    rintro e w4 ⟨v4, ms2, rfl, hms2, hown4, hgot4, hb4⟩
    have HD4 := hide (HD3.out.trans (hb4.mono HD3.out.size))
    have HI4 := hide (RsIn.own hown4 hgot4)
    have HX2 := hide hms2
    have HA4 := hide (HA.out.below HD4.out)
    have HE4 := hide (ownsRow_below HE3.out hb4)
    obtain ⟨a4, c4, rfl⟩ := own_shape5 hown4
    clear hown4 hgot4 hb4 hms2 HSC HB3 HE3 HD3 HA
    go_wp2
    go_loopw [12, 13] (fun m t wr => ∃ i at' : Nat, i ≤ ln ∧ m = .int .i64 (i : Int) ∧ t = .int .i64 (at' : Int) ∧ at' ≤ k ∧ Hid (at' = (framesB (rs.take i)).length) ∧ wr = w4) (fun m _ _ => ln - (intOf m).toNat)
    case atStart => exact ⟨0, 0, Nat.zero_le _, rfl, rfl, Nat.zero_le _, by rw [List.take_zero]; exact rfl, rfl⟩
    case round =>
      obtain ⟨i, at', hiL, rfl, rfl, hik, HAT, rfl⟩ := hrel
      by_cases hlt : i < ln
      · obtain ⟨ge, ce', hge, _⟩ := own_slice HE4.out (by omega)
        injection hge with hge1 hge2 hge3
        subst hge1 hge3
        have hcell := HE4.out.cellAt i (by omega)
        rw [endsV_get rs i (by rw [← HLN.out]; exact hlt)] at hcell
        generalize hnx : (framesB (rs.take (i + 1))).length = nx at hcell
        have HNX := hide hnx
        clear hnx hge2
        have i1 : (i : Int) < (ln : Int) := by omega
        by_cases hle : nx ≤ k
        · have hnxb : nx ≤ 200000 := by omega
          go_wp2
          go_roundw
          case rel => exact ⟨i + 1, nx, by omega, by go_num, rfl, hle, HNX.out.symm, trivial⟩
          case measure => simp [intOf]; omega
        · have HNK : Hid (k < (framesB (rs.take (i + 1))).length) := by
            rw [HNX.out]
            show k < nx
            omega
          have hnxb : nx ≤ 200000 := by
            have h1 : (framesB (rs.take (i + 1))).length ≤ (framesB rs).length := by
              have h2 : framesB rs = framesB (rs.take (i + 1)) ++ framesB (rs.drop (i + 1)) := by rw [← framesB_append, List.take_append_drop]
              rw [h2, List.length_append]
              omega
            rw [HNX.out, HLO.out] at h1
            omega
          have hsc := cut_scan rs k i HRI.out (by rw [← HLN.out]; exact hiL) (by rw [← HAT.out]; exact hik) (fun _ => HNK.out)
          rw [hsc] at HSR
          clear hsc
          obtain rfl : nn = at' := by
            rw [HAT.out]
            exact (congrArg Prod.snd HSR.out).symm
          have hx2 : xs = rs.take i := (congrArg Prod.fst HSR.out).symm
          have HL := hide (rlist_any _ _ ms2 (ms.take i) wr HI4.out (HA4.out.first (by rw [← HLM.out]; exact hiL)) (by rw [HX2.out, hx2, msR_take, HMS.out]) (by
            have h1 : ms2.length = xs.length := by rw [← HX2.out]; simp [msR]
            have h2 : xs.length ≤ rs.length := by rw [hx2, List.length_take]; omega
            have := HLN.out
            omega))
          clear HSR hx2
          go_wp2_with fail
          refine HL.out.mono ?_
          rintro e w5 ⟨rfl, hb5⟩
          have d5 := HD4.out.trans (hb5.mono HD4.out.size)
          clear HL hb5 HD4 HI4 HA4 HE4
          go_wp2
          go_ret
          exact ⟨rfl, d5⟩
      · obtain rfl : i = ln := by omega
        have hsc := cut_scan rs k i HRI.out (by rw [← HLN.out]; exact hiL) (by rw [← HAT.out]; exact hik) (fun h => absurd h (by rw [← HLN.out]; omega))
        rw [hsc] at HSR
        clear hsc
        obtain rfl : nn = at' := by
          rw [HAT.out]
          exact (congrArg Prod.snd HSR.out).symm
        have hx2 : xs = rs.take i := (congrArg Prod.fst HSR.out).symm
        have HL := hide (rlist_any _ _ ms2 (ms.take i) wr HI4.out (HA4.out.first (by rw [← HLM.out]; exact hiL)) (by rw [HX2.out, hx2, msR_take, HMS.out]) (by
          have h1 : ms2.length = xs.length := by rw [← HX2.out]; simp [msR]
          have h2 : xs.length ≤ rs.length := by rw [hx2, List.length_take]; omega
          have := HLN.out
          omega))
        clear HSR hx2
        go_wp2_with fail
        refine HL.out.mono ?_
        rintro e w5 ⟨rfl, hb5⟩
        have d5 := HD4.out.trans (hb5.mono HD4.out.size)
        clear HL hb5 HD4 HI4 HA4 HE4
        go_wp2
        go_ret
        exact ⟨rfl, d5⟩

theorem walk (v : Value) (ms : List (Rec × Value × Value)) (a1 : Int) (w : World) (ha : RsIn w v ms) (hl : ms.length ≤ maxLen) (hcp : ∀ a len cap, v = .slice a len cap → len ≤ cap) (h1 : (Lit.int .u64 a1).wf = true) :
    Calls Try.prog 6 #[v, .int .u64 a1] w fun e w' => e = .returned (.bool true) ∧ Below w.heap.size w w' := by
  have b1 := bounds_u64 h1
  obtain ⟨cut, rfl⟩ := Int.eq_ofNat_of_zero_le b1.1
  exact core v ms cut w ha hl hcp (by omega)
end Go.Proofs.Ytgobegpmojkhaaa.frameCuts

namespace Go.Proofs.Ytgobegpmojkhaaa.frameCuts
open Go.ChangeShapes Go.WideShapes Go.ChangeAt Go.RowKit
open Go.ChangeMaps (open_string shut_string)
set_option linter.unusedVariables false

theorem laidOut : laidOutB Try.prog = true := by kernel_rfl
theorem own : ownKnob Try.prog.godebug = none := by kernel_rfl

set_option maxRecDepth 100000 in
theorem lifted (os : Os) (started : os.Started) (H : Type) (enc : TypeId × Value → H) :
    ReturnsInHanded {} Try.checked os 6 .any (Rows.frameCutsSpec.pre6 enc Try.prog Try.f6 Rows.frameCutsRow.domain false) (Rows.frameCutsSpec.post enc Try.prog Try.f6 false true false false) := by
  refine returnsInHanded_of_change_sized (C := Try.checked) own started (by kernel_rfl) Try.func6
    (ChangeSpec.witness6 (enc := enc) (C := Try.checked) false ⟨#[], #[.slice none 0 0, .int .u64 0], []⟩ 8 (by kernel_rfl) (by kernel_rfl) (by kernel_rfl) (by kernel_rfl)) ?_
  intro W base args ds gs before hval0 hW hcnd hsz0 _
  have hval : ∀ (j : Nat) t v, Try.f6.params[j]? = some t → args[j]? = some v → Value.okWide Try.prog W .any base t v := hval0
  have hsz : (DataW.weightsEach Try.prog (Try.f6.params.toList ++ Rows.frameCutsSpec.plain.varTypes Try.prog) (ds ++ gs)).all (· ≤ reachBytes) = true := hsz0
  have hW' := hW
  obtain ⟨p, q, hA0, hV, rfl, hfz, hnd⟩ := hW
  have hA : DataW.TrodAll enc Try.prog W 0 (fun _ => true) true Try.f6.params.toList args.toList ds p := hA0
  rw [Try.params6] at hA hval hsz
  obtain ⟨v0, vs0, d0, ds0, p0, q0, hargs, rfl, rfl, h0, r0⟩ := trodAll_cons hA
  obtain ⟨v1, vs1, d1, ds1, p1, q1, rfl, rfl, rfl, h1, r1⟩ := trodAll_cons r0
  obtain ⟨rfl, rfl, rfl⟩ := trodAll_nil r1
  obtain rfl : args = #[v0, v1] := by cases args; simp_all
  obtain ⟨rfl, rfl⟩ := trodVars_none hV
  have k0 := h0
  have lt0 := trod_places h0
  obtain ⟨a1, rfl, rfl, rfl, w1⟩ := open_int Try.underlying50 (hval 1 50 v1 rfl rfl) h1
  obtain ⟨m0, w0a, w0b, w0c⟩ := op_recs_arg (hval 0 44 v0 rfl rfl) h0
  clear hA0 hval0 hsz0 hsz
  refine (walk v0 m0 a1 W w0a w0b w0c w1).mono fun e W' ⟨he, bel⟩ => ?_
  subst he
  exact ⟨_, rfl, _, _, _, [], _, [], hW', trodAll_mk1 (shut_bool Try.underlying4 _), (trodAll_cons_mk (Below.trod laidOut (by kernel_rfl) (of_decide_eq_true (by kernel_rfl)) k0 bel lt0) (trodAll_cons_mk (shut_int Try.underlying50 w1) trodAll_mk0)), rfl, bel.frame _, fun h => by cases h⟩

theorem over : Rows.frameCutsRow.holds Try.pinned (OpenSpec.ofChange Rows.frameCutsSpec) :=
  OpenClaim.holds_of_wide 6 Try.f6 rfl rfl rfl rfl rfl rfl rfl ⟨rfl, rfl, rfl, rfl, rfl⟩ rfl rfl rfl rfl rfl (by kernel_rfl) Try.func6 (by kernel_rfl)
    (of_decide_eq_true (by kernel_rfl)) (by unfold Func.isWrapper; first | (rw [if_pos (by decide +kernel)]; kernel_rfl) | (rw [if_neg (by decide +kernel)]; exact ⟨rfl, rfl⟩))
    (fun os started H enc _ => lifted os started H enc)

/-- THE STATEMENT. -/
theorem proved : Rows.FrameCutsSaid := over
end Go.Proofs.Ytgobegpmojkhaaa.frameCuts
namespace Go.Proofs.Ytgobegpmojkhaaa
theorem frameCuts_proved : Rows.FrameCutsSaid := frameCuts.proved
end Go.Proofs.Ytgobegpmojkhaaa
