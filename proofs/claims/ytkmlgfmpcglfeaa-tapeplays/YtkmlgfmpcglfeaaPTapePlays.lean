/-
  Whatever is called of a tape, the zero one too, each answer is the document's, and so are the bytes behind it. TapePlays returns true for every input, and its arguments read as before.
  Condition: none but those that the form of every such statement bears by itself (each string within the reach).
-/
import Derived.Test.YtkmlgfmpcglfeaaRows
import Derived.ProofKit
import Derived.OpenShut
import Derived.ShutString
import Derived.SizedLaws
import Derived.JoinedCond
import Derived.Test.YtkmlgfmpcglfeaaK00
import Derived.Test.YtkmlgfmpcglfeaaK01

/-
  The walk of TapePlays: it returns true, and turns nothing that was there.
-/
namespace Go.Proofs.Ytkmlgfmpcglfeaa.tapePlays
open Go.RowKit
set_option linter.unusedVariables false

set_option maxRecDepth 4000 in
set_option maxHeartbeats 3200000 in
theorem core (r : Int) (z : Bool) (a : Option Addr) (cap : Nat) (cs : List Tc) (w : World) (hI : RowsIn tcA Tc.zero 3 w (.slice a cs.length cap) cs) (hft : ∀ c ∈ cs, c.fits) (hc : cs.length ≤ cap) :
    Calls Try.prog 3 #[.int .i64 r, .bool z, .slice a cs.length cap] w fun e w' => e = .returned (.bool true) ∧ Below w.heap.size w w' := by
  have HI := hide hI
  have HF := hide hft
  obtain ⟨ln, hln⟩ : ∃ ln, ln = cs.length := ⟨_, rfl⟩
  rw [← hln] at hc HI ⊢
  have HLN := hide hln
  clear hI hft hln
  go_enter Try.func3, Try.ntmps3
  go_wp2_with fail
  refine (awake8_any _).mono ?_
  rintro e w1 ⟨rfl, hb1⟩
  have HB1 := hide hb1
  clear hb1
  go_wp2_with fail
  refine (few_any (.slice a ln cap) cs w1 (HI.out.below HB1.out) (fun a' l' c' e => by injection e with e1 e2 e3; omega)).mono ?_
  rintro e w2 ⟨q, rfl, hq, rfl⟩
  cases q with
  | false =>
    clear hq
    go_wp2_with fail
    refine (awake8_any _).mono ?_
    rintro e w2 ⟨rfl, hb2⟩
    have HB2 := hide (HB1.out.trans (hb2.mono HB1.out.size))
    clear hb2 HB1
    go_wp2
    go_ret
    exact ⟨rfl, HB2.out⟩
  | true =>
    have HQ := hide (hq rfl)
    have h200 : ln ≤ 200 := by have := HQ.out.1; have := HLN.out; omega
    clear hq
    go_wp2_with fail
    refine (new8_any r w1).mono ?_
    rintro e w2 ⟨rfl, h2, hb2⟩
    obtain ⟨gt, hgt⟩ : ∃ gt, gt = w1.heap.size := ⟨_, rfl⟩
    have HT2 := hide h2
    have HB2 := hide (HB1.out.trans (hb2.mono HB1.out.size))
    have HG := hide (show w.heap.size ≤ gt by rw [hgt]; exact HB1.out.size)
    rw [← hgt] at HT2 ⊢
    clear h2 hb2 HB1 hgt
    go_wp2_with fail
    refine (rnew8_any r w2).mono ?_
    rintro e w3 ⟨rfl, h3, hb3⟩
    obtain ⟨gr, hgr⟩ : ∃ gr, gr = w2.heap.size := ⟨_, rfl⟩
    have H3 := hide (And.intro (show TB gt w.heap.size w3 (Tp.new r) from ⟨gt, HG.out, HT2.out.later hb3⟩) (And.intro h3 (HB2.out.trans (hb3.mono HB2.out.size))))
    have HR := hide (show w.heap.size ≤ gr by rw [hgr]; exact HB2.out.size)
    rw [← hgr] at H3 ⊢
    clear h3 hb3 HB2 HT2 hgr
    cases z with
    | true =>
      go_wp2_with fail
      have hz := tp_new 0 0 w3 (by decide)
      have ha : Below w3.heap.size w3 (w3.alloc (.cells #[.slice none 0 0, .int .i64 0, .int .u64 0, .int .i64 0] 32)) := (Below.refl _ _).alloc (Nat.le_refl _) _
      refine (rnew8_any 0 _).mono ?_
      rintro e w4 ⟨rfl, h4, hb4⟩
      obtain ⟨gt, hgt⟩ : ∃ gt, gt = w3.heap.size := ⟨_, rfl⟩
      have hs4 : (w3.alloc (.cells #[.slice none 0 0, .int .i64 0, .int .u64 0, .int .i64 0] 32)).heap.size = w3.heap.size + 1 := by simp
      rw [hs4] at h4
      obtain ⟨gr, hgr⟩ : ∃ gr, gr = w3.heap.size + 1 := ⟨_, rfl⟩
      have HG := hide (show w.heap.size ≤ gt by rw [hgt]; exact H3.out.2.2.size)
      have HR := hide (show w.heap.size ≤ gr by rw [hgr]; exact Nat.le_succ_of_le H3.out.2.2.size)
      have H3 := hide (And.intro (show TB gt w.heap.size w4 (Tp.new 0) from ⟨gt, HG.out, by rw [hgt]; exact hz.later hb4⟩) (And.intro h4 (H3.out.2.2.trans ((ha.mono H3.out.2.2.size).trans (hb4.mono (Nat.le_trans H3.out.2.2.size ha.size))))))
      rw [← hgr] at H3
      rw [hs4, ← hgr, ← hgt]
      clear hz ha h4 hb4 hgt hgr hs4
      go_wp2
      go_loopw [30] (fun i wr => ∃ (j : Nat) (t : Tp), j ≤ ln ∧ i = .int .i64 j ∧ t.ok ∧ TB gt w.heap.size wr t ∧ RtAt wr gr t ∧ Below w.heap.size w wr) (fun i _ => ln - (intOf i).toNat)
      case atStart => exact ⟨0, Tp.new 0, Nat.zero_le _, rfl, Tp.new_ok 0, H3.out⟩
      case round =>
        obtain ⟨j, t, hj, rfl, hok, hrest⟩ := hrel
        have H4 := hide (And.intro hok hrest)
        clear H3 hok hrest
        by_cases hlt : j < ln
        · obtain ⟨b, off, rfl, hbl, hcell⟩ := tcs_cell (by rw [← HLN.out]; exact HI.out) (by have := HLN.out; omega)
          have hcj := hcell j (by have := HLN.out; omega)
          have hfj : (cs.getD j Tc.zero).fits := by
            have hl : j < cs.length := by have := HLN.out; omega
            rw [List.getD_eq_getElem?_getD, List.getElem?_eq_getElem hl]
            exact HF.out _ (List.getElem_mem hl)
          have hsj := HQ.out.2 j (by have := HLN.out; omega)
          obtain ⟨c, hcc⟩ : ∃ c, c = cs.getD j Tc.zero := ⟨_, rfl⟩
          rw [← hcc] at hcj hfj hsj
          have c0 := (H4.out.2.2.2.cell (p := ⟨b, off + j * 3, none⟩) hbl).trans hcj.1
          have c1 := (H4.out.2.2.2.cell (p := ⟨b, off + j * 3 + 1, none⟩) hbl).trans hcj.2.1
          have c2 := (H4.out.2.2.2.cell (p := ⟨b, off + j * 3 + 2, none⟩) hbl).trans hcj.2.2
          have hjI : (j : Int) < (ln : Int) := by omega
          have HS := hide (And.intro hfj hsj)
          clear hcj hfj hsj hcell hcc HF HI
          have HD := hide (does_any gt gr w.heap.size _ (hide (cd8 gt gr w.heap.size HG.out)) t c wr.drew H4.out.2.2.2.size HR.out ((cd8 gt gr w.heap.size HG.out).drew _ _ H4.out.2.1) H4.out.2.2.1.drew H4.out.1 HS.out.1.2.1 HS.out.2)
          have HY := hide (fun w5 (h5 : TB gt w.heap.size w5 (stepT t c)) (h6 : RtAt w5 gr (stepT t c)) (h7 : Below w.heap.size wr.drew w5) => says8 gt gr w.heap.size _ (cd8 gt gr w.heap.size HG.out) (stepT t c) w w5 h5 h6 (step_ok t c H4.out.1) ((below_dn H4.out.2.2.2 1).trans h7))
          have HOK := hide (step_ok t c H4.out.1)
          generalize stepT t c = u at HD HY HOK
          clear H4
          unfold tcA at HD
          go_wp2_with fail
          go_region_with (first
            | (go_at_call 13; refine HD.out.mono ?_; rintro e w5 ⟨rfl, h5, h6, h7⟩; have k0 := h6.cell 0 (.string u.b) rfl; have HT := hide (HY.out w5 h5 h6 h7); clear h5 h6 h7)
            | (go_at_call 14; refine HT.out.mono ?_; rintro e w6 ⟨a6, c6, rfl, k6, ht, hrest⟩))
          all_goals
            go_wp2
            go_roundw
            case rel => exact ⟨j + 1, u, by omega, by go_num, HOK.out, hrest⟩
            case measure => simp [intOf]; omega
        · obtain rfl : j = ln := by omega
          have HT := hide (fun x (h1 : TB gt w.heap.size x t) => (cd8 gt gr w.heap.size HG.out).len x t h1 H4.out.1)
          go_wp2_with fail
          refine wp_region_in (fun x => TB gt w.heap.size x t ∧ RtAt x gr t ∧ Below w.heap.size w x) (by kernel_rfl) (by kernel_rfl) ⟨(cd8 gt gr w.heap.size HG.out).drew _ _ H4.out.2.1, H4.out.2.2.1.drew, below_dn H4.out.2.2.2 1⟩ ?_
          repeat (first
            | go_big_quiet_skip
            | (refine wpQuiet_load rfl 9 _ rfl _ (.string t.b) rfl (fun y hy => load8_s y _ (hy.2.1.cell 0 _ rfl)) ?_; simp only [Act.put, Array.setIfInBounds, List.size_toArray, List.length_cons, List.length_nil, Nat.reduceAdd, Nat.reduceLT, ↓reduceDIte, List.set_toArray, List.set_cons_succ, List.set_cons_zero])
            | (refine wpQuiet_call rfl 15 #[.pointer (some ⟨gt, 0, none⟩)] (.int .i64 (t.b.size : Int)) ?_ (fun x hC => (HT.out x hC.1).mono fun e x' h => ⟨h.1, h.2.1, h.2.2.rt hC.2.1, hC.2.2.trans h.2.2.below⟩) ?_; (intro x; go_simp); simp only [Act.put, Array.setIfInBounds, List.size_toArray, List.length_cons, List.length_nil, Nat.reduceAdd, Nat.reduceLT, ↓reduceDIte, List.set_toArray, List.set_cons_succ, List.set_cons_zero])
            | (refine wpQuiet_plain rfl (fun K hK => ?_); go_simp; (try simp only [beq_self_eq_true]); refine hK _ ?_; clear hK K))
          refine wpQuiet_nil ?_
          intro x hx
          have HX := hide hx
          clear hx HT H4
          go_wp2
          go_ret
          exact ⟨rfl, HX.out.2.2⟩
    | false =>
      go_wp2
      go_loopw [30] (fun i wr => ∃ (j : Nat) (t : Tp), j ≤ ln ∧ i = .int .i64 j ∧ t.ok ∧ TB gt w.heap.size wr t ∧ RtAt wr gr t ∧ Below w.heap.size w wr) (fun i _ => ln - (intOf i).toNat)
      case atStart => exact ⟨0, Tp.new r, Nat.zero_le _, rfl, Tp.new_ok r, H3.out⟩
      case round =>
        obtain ⟨j, t, hj, rfl, hok, hrest⟩ := hrel
        have H4 := hide (And.intro hok hrest)
        clear H3 hok hrest
        by_cases hlt : j < ln
        · obtain ⟨b, off, rfl, hbl, hcell⟩ := tcs_cell (by rw [← HLN.out]; exact HI.out) (by have := HLN.out; omega)
          have hcj := hcell j (by have := HLN.out; omega)
          have hfj : (cs.getD j Tc.zero).fits := by
            have hl : j < cs.length := by have := HLN.out; omega
            rw [List.getD_eq_getElem?_getD, List.getElem?_eq_getElem hl]
            exact HF.out _ (List.getElem_mem hl)
          have hsj := HQ.out.2 j (by have := HLN.out; omega)
          obtain ⟨c, hcc⟩ : ∃ c, c = cs.getD j Tc.zero := ⟨_, rfl⟩
          rw [← hcc] at hcj hfj hsj
          have c0 := (H4.out.2.2.2.cell (p := ⟨b, off + j * 3, none⟩) hbl).trans hcj.1
          have c1 := (H4.out.2.2.2.cell (p := ⟨b, off + j * 3 + 1, none⟩) hbl).trans hcj.2.1
          have c2 := (H4.out.2.2.2.cell (p := ⟨b, off + j * 3 + 2, none⟩) hbl).trans hcj.2.2
          have hjI : (j : Int) < (ln : Int) := by omega
          have HS := hide (And.intro hfj hsj)
          clear hcj hfj hsj hcell hcc HF HI
          have HD := hide (does_any gt gr w.heap.size _ (hide (cd8 gt gr w.heap.size HG.out)) t c wr.drew H4.out.2.2.2.size HR.out ((cd8 gt gr w.heap.size HG.out).drew _ _ H4.out.2.1) H4.out.2.2.1.drew H4.out.1 HS.out.1.2.1 HS.out.2)
          have HY := hide (fun w5 (h5 : TB gt w.heap.size w5 (stepT t c)) (h6 : RtAt w5 gr (stepT t c)) (h7 : Below w.heap.size wr.drew w5) => says8 gt gr w.heap.size _ (cd8 gt gr w.heap.size HG.out) (stepT t c) w w5 h5 h6 (step_ok t c H4.out.1) ((below_dn H4.out.2.2.2 1).trans h7))
          have HOK := hide (step_ok t c H4.out.1)
          generalize stepT t c = u at HD HY HOK
          clear H4
          unfold tcA at HD
          go_wp2_with fail
          go_region_with (first
            | (go_at_call 13; refine HD.out.mono ?_; rintro e w5 ⟨rfl, h5, h6, h7⟩; have k0 := h6.cell 0 (.string u.b) rfl; have HT := hide (HY.out w5 h5 h6 h7); clear h5 h6 h7)
            | (go_at_call 14; refine HT.out.mono ?_; rintro e w6 ⟨a6, c6, rfl, k6, ht, hrest⟩))
          all_goals
            go_wp2
            go_roundw
            case rel => exact ⟨j + 1, u, by omega, by go_num, HOK.out, hrest⟩
            case measure => simp [intOf]; omega
        · obtain rfl : j = ln := by omega
          have HT := hide (fun x (h1 : TB gt w.heap.size x t) => (cd8 gt gr w.heap.size HG.out).len x t h1 H4.out.1)
          go_wp2_with fail
          refine wp_region_in (fun x => TB gt w.heap.size x t ∧ RtAt x gr t ∧ Below w.heap.size w x) (by kernel_rfl) (by kernel_rfl) ⟨(cd8 gt gr w.heap.size HG.out).drew _ _ H4.out.2.1, H4.out.2.2.1.drew, below_dn H4.out.2.2.2 1⟩ ?_
          repeat (first
            | go_big_quiet_skip
            | (refine wpQuiet_load rfl 9 _ rfl _ (.string t.b) rfl (fun y hy => load8_s y _ (hy.2.1.cell 0 _ rfl)) ?_; simp only [Act.put, Array.setIfInBounds, List.size_toArray, List.length_cons, List.length_nil, Nat.reduceAdd, Nat.reduceLT, ↓reduceDIte, List.set_toArray, List.set_cons_succ, List.set_cons_zero])
            | (refine wpQuiet_call rfl 15 #[.pointer (some ⟨gt, 0, none⟩)] (.int .i64 (t.b.size : Int)) ?_ (fun x hC => (HT.out x hC.1).mono fun e x' h => ⟨h.1, h.2.1, h.2.2.rt hC.2.1, hC.2.2.trans h.2.2.below⟩) ?_; (intro x; go_simp); simp only [Act.put, Array.setIfInBounds, List.size_toArray, List.length_cons, List.length_nil, Nat.reduceAdd, Nat.reduceLT, ↓reduceDIte, List.set_toArray, List.set_cons_succ, List.set_cons_zero])
            | (refine wpQuiet_plain rfl (fun K hK => ?_); go_simp; (try simp only [beq_self_eq_true]); refine hK _ ?_; clear hK K))
          refine wpQuiet_nil ?_
          intro x hx
          have HX := hide hx
          clear hx HT H4
          go_wp2
          go_ret
          exact ⟨rfl, HX.out.2.2⟩
theorem walk (r : Int) (z : Bool) (v : Value) (cs : List Tc) (w : World) (hr : (Lit.int .i64 r).wf = true) (h1 : RowsIn tcA Tc.zero 3 w v cs) (h2 : cs.length ≤ maxLen) (h3 : ∀ c ∈ cs, c.fits) (h4 : ∀ a len cap, v = .slice a len cap → len ≤ cap) :
    Calls Try.prog 3 #[.int .i64 r, .bool z, v] w fun e w' => e = .returned (.bool true) ∧ Below w.heap.size w w' := by
  have h1' := h1
  obtain ⟨a, cap, rfl, -⟩ := h1'
  exact core r z a cap cs w h1 h3 (h4 _ _ _ rfl)
end Go.Proofs.Ytkmlgfmpcglfeaa.tapePlays

namespace Go.Proofs.Ytkmlgfmpcglfeaa.tapePlays
open Go.ChangeShapes Go.WideShapes Go.ChangeAt Go.RowKit
open Go.ChangeMaps (open_string shut_string)
set_option linter.unusedVariables false

theorem laidOut : laidOutB Try.prog = true := by kernel_rfl
theorem own : ownKnob Try.prog.godebug = none := by kernel_rfl

set_option maxRecDepth 100000 in
theorem lifted (os : Os) (started : os.Started) (H : Type) (enc : TypeId × Value → H) :
    ReturnsInHanded {} Try.checked os 3 .any (Rows.tapePlaysSpec.pre6 enc Try.prog Try.f3 Rows.tapePlaysRow.domain false) (Rows.tapePlaysSpec.post enc Try.prog Try.f3 false true false false) := by
  refine returnsInHanded_of_change_sized (C := Try.checked) own started (by kernel_rfl) Try.func3
    (ChangeSpec.witness6 (enc := enc) (C := Try.checked) false ⟨#[], #[.int .i64 0, .bool false, .slice none 0 0], []⟩ 8 (by kernel_rfl) (by kernel_rfl) (by kernel_rfl) (by kernel_rfl)) ?_
  intro W base args ds gs before hval0 hW hcnd hsz0 _
  have hval : ∀ (j : Nat) t v, Try.f3.params[j]? = some t → args[j]? = some v → Value.okWide Try.prog W .any base t v := hval0
  have hsz : (DataW.weightsEach Try.prog (Try.f3.params.toList ++ Rows.tapePlaysSpec.plain.varTypes Try.prog) (ds ++ gs)).all (· ≤ reachBytes) = true := hsz0
  have hW' := hW
  obtain ⟨p, q, hA0, hV, rfl, hfz, hnd⟩ := hW
  have hA : DataW.TrodAll enc Try.prog W 0 (fun _ => true) true Try.f3.params.toList args.toList ds p := hA0
  rw [Try.params3] at hA hval hsz
  obtain ⟨v0, vs0, d0, ds0, p0, q0, hargs, rfl, rfl, h0, r0⟩ := trodAll_cons hA
  obtain ⟨v1, vs1, d1, ds1, p1, q1, rfl, rfl, rfl, h1, r1⟩ := trodAll_cons r0
  obtain ⟨v2, vs2, d2, ds2, p2, q2, rfl, rfl, rfl, h2, r2⟩ := trodAll_cons r1
  obtain ⟨rfl, rfl, rfl⟩ := trodAll_nil r2
  obtain rfl : args = #[v0, v1, v2] := by cases args; simp_all
  obtain ⟨rfl, rfl⟩ := trodVars_none hV
  obtain ⟨a0, rfl, rfl, rfl, w0⟩ := open_int Try.underlying3 (hval 0 3 v0 rfl rfl) h0
  obtain ⟨a1, rfl, rfl, rfl⟩ := open_bool Try.underlying4 (hval 1 4 v1 rfl rfl) h1
  have k2 := h2
  have lt2 := trod_places h2
  obtain ⟨m2, w2a, w2b, w2c, w2d⟩ := op_tcs (hval 2 22 v2 rfl rfl) h2
  clear hA0 hval0 hsz0 hsz
  refine (walk a0 a1 v2 m2 W w0 w2a w2b w2c w2d).mono fun e W' ⟨he, bel⟩ => ?_
  subst he
  exact ⟨_, rfl, _, _, _, [], _, [], hW', trodAll_mk1 (shut_bool Try.underlying4 _), (trodAll_cons_mk (shut_int Try.underlying3 w0) (trodAll_cons_mk (shut_bool Try.underlying4 a1) (trodAll_cons_mk (Below.trod laidOut (by kernel_rfl) (of_decide_eq_true (by kernel_rfl)) k2 bel lt2) trodAll_mk0))), rfl, bel.frame _, fun h => by cases h⟩

theorem over : Rows.tapePlaysRow.holds Try.pinned (OpenSpec.ofChange Rows.tapePlaysSpec) :=
  OpenClaim.holds_of_wide 3 Try.f3 rfl rfl rfl rfl rfl rfl rfl ⟨rfl, rfl, rfl, rfl, rfl⟩ rfl rfl rfl rfl rfl (by kernel_rfl) Try.func3 (by kernel_rfl)
    (of_decide_eq_true (by kernel_rfl)) (by unfold Func.isWrapper; first | (rw [if_pos (by decide +kernel)]; kernel_rfl) | (rw [if_neg (by decide +kernel)]; exact ⟨rfl, rfl⟩))
    (fun os started H enc _ => lifted os started H enc)

/-- THE STATEMENT. -/
theorem proved : Rows.TapePlaysSaid := over
end Go.Proofs.Ytkmlgfmpcglfeaa.tapePlays
namespace Go.Proofs.Ytkmlgfmpcglfeaa
theorem tapePlays_proved : Rows.TapePlaysSaid := tapePlays.proved
end Go.Proofs.Ytkmlgfmpcglfeaa
