/-
  The walk of TapePlays: it returns true, and turns nothing that was there.
-/
import Derived.Test.YtkdlmblkckmhaaaTapeAwake
import Derived.Test.YtkdlmblkckmhaaaTapeCode
import Derived.Test.YtkdlmblkckmhaaaTapeDoes
import Derived.Test.YtkdlmblkckmhaaaTapeFew
import Derived.Test.YtkdlmblkckmhaaaTapeSays
namespace Go.Proofs.Ytkdlmblkckmhaaa.tapePlays
open Go.RowKit
set_option linter.unusedVariables false

set_option maxRecDepth 4000 in
set_option maxHeartbeats 3200000 in
theorem core (r : Int) (z : Bool) (a : Option Addr) (cap : Nat) (cs : List Tc) (w : World) (hI : RowsIn tcA Tc.zero 3 w (.slice a cs.length cap) cs) (hft : ∀ c ∈ cs, c.fits) (hc : cs.length ≤ cap) :
    Calls Try.prog 3 #[.int .i64 r, .bool z, .slice a cs.length cap] w fun e w' => e = .returned (.bool true) ∧ Below w.heap.size w w' := by
  have HI := hide hI
  have HF := hide hft
  obtain ⟨ln, hln⟩ : ∃ ln, ln = cs.length := ⟨_, rfl⟩
  rw [← hln] at hc HI ⊢
  have HLN := hide hln
  clear hI hft hln
  go_enter Try.func3, Try.ntmps3
  go_wp2_with fail
  refine (awake8_any _).mono ?_
  rintro e w1 ⟨rfl, hb1⟩
  have HB1 := hide hb1
  clear hb1
  go_wp2_with fail
  refine (few_any (.slice a ln cap) cs w1 (HI.out.below HB1.out) (fun a' l' c' e => by injection e with e1 e2 e3; omega)).mono ?_
  rintro e w2 ⟨q, rfl, hq, rfl⟩
  cases q with
  | false =>
    clear hq
    go_wp2_with fail
    refine (awake8_any _).mono ?_
    rintro e w2 ⟨rfl, hb2⟩
    have HB2 := hide (HB1.out.trans (hb2.mono HB1.out.size))
    clear hb2 HB1
    go_wp2
    go_ret
    exact ⟨rfl, HB2.out⟩
  | true =>
    have HQ := hide (hq rfl)
    have h200 : ln ≤ 200 := by have := HQ.out.1; have := HLN.out; omega
    clear hq
    go_wp2_with fail
    refine (new8_any r w1).mono ?_
    rintro e w2 ⟨rfl, h2, hb2⟩
    obtain ⟨gt, hgt⟩ : ∃ gt, gt = w1.heap.size := ⟨_, rfl⟩
    have HT2 := hide h2
    have HB2 := hide (HB1.out.trans (hb2.mono HB1.out.size))
    have HG := hide (show w.heap.size ≤ gt by rw [hgt]; exact HB1.out.size)
    rw [← hgt] at HT2 ⊢
    clear h2 hb2 HB1 hgt
    go_wp2_with fail
    refine (rnew8_any r w2).mono ?_
    rintro e w3 ⟨rfl, h3, hb3⟩
    obtain ⟨gr, hgr⟩ : ∃ gr, gr = w2.heap.size := ⟨_, rfl⟩
    have H3 := hide (And.intro (show TB gt w.heap.size w3 (Tp.new r) from ⟨gt, HG.out, HT2.out.later hb3⟩) (And.intro h3 (HB2.out.trans (hb3.mono HB2.out.size))))
    have HR := hide (show w.heap.size ≤ gr by rw [hgr]; exact HB2.out.size)
    rw [← hgr] at H3 ⊢
    clear h3 hb3 HB2 HT2 hgr
    cases z with
    | true =>
      go_wp2_with fail
      have hz := tp_new 0 0 w3 (by decide)
      have ha : Below w3.heap.size w3 (w3.alloc (.cells #[.slice none 0 0, .int .i64 0, .int .u64 0, .int .i64 0] 32)) := (Below.refl _ _).alloc (Nat.le_refl _) _
      refine (rnew8_any 0 _).mono ?_
      rintro e w4 ⟨rfl, h4, hb4⟩
      obtain ⟨gt, hgt⟩ : ∃ gt, gt = w3.heap.size := ⟨_, rfl⟩
      have hs4 : (w3.alloc (.cells #[.slice none 0 0, .int .i64 0, .int .u64 0, .int .i64 0] 32)).heap.size = w3.heap.size + 1 := by simp
      rw [hs4] at h4
      obtain ⟨gr, hgr⟩ : ∃ gr, gr = w3.heap.size + 1 := ⟨_, rfl⟩
      have HG := hide (show w.heap.size ≤ gt by rw [hgt]; exact H3.out.2.2.size)
      have HR := hide (show w.heap.size ≤ gr by rw [hgr]; exact Nat.le_succ_of_le H3.out.2.2.size)
      have H3 := hide (And.intro (show TB gt w.heap.size w4 (Tp.new 0) from ⟨gt, HG.out, by rw [hgt]; exact hz.later hb4⟩) (And.intro h4 (H3.out.2.2.trans ((ha.mono H3.out.2.2.size).trans (hb4.mono (Nat.le_trans H3.out.2.2.size ha.size))))))
      rw [← hgr] at H3
      rw [hs4, ← hgr, ← hgt]
      clear hz ha h4 hb4 hgt hgr hs4
      go_wp2
      go_loopw [30] (fun i wr => ∃ (j : Nat) (t : Tp), j ≤ ln ∧ i = .int .i64 j ∧ t.ok ∧ TB gt w.heap.size wr t ∧ RtAt wr gr t ∧ Below w.heap.size w wr) (fun i _ => ln - (intOf i).toNat)
      case atStart => exact ⟨0, Tp.new 0, Nat.zero_le _, rfl, Tp.new_ok 0, H3.out⟩
      case round =>
        obtain ⟨j, t, hj, rfl, hok, hrest⟩ := hrel
        have H4 := hide (And.intro hok hrest)
        clear H3 hok hrest
        by_cases hlt : j < ln
        · obtain ⟨b, off, rfl, hbl, hcell⟩ := tcs_cell (by rw [← HLN.out]; exact HI.out) (by have := HLN.out; omega)
          have hcj := hcell j (by have := HLN.out; omega)
          have hfj : (cs.getD j Tc.zero).fits := by
            have hl : j < cs.length := by have := HLN.out; omega
            rw [List.getD_eq_getElem?_getD, List.getElem?_eq_getElem hl]
            exact HF.out _ (List.getElem_mem hl)
          have hsj := HQ.out.2 j (by have := HLN.out; omega)
          obtain ⟨c, hcc⟩ : ∃ c, c = cs.getD j Tc.zero := ⟨_, rfl⟩
          rw [← hcc] at hcj hfj hsj
          have c0 := (H4.out.2.2.2.cell (p := ⟨b, off + j * 3, none⟩) hbl).trans hcj.1
          have c1 := (H4.out.2.2.2.cell (p := ⟨b, off + j * 3 + 1, none⟩) hbl).trans hcj.2.1
          have c2 := (H4.out.2.2.2.cell (p := ⟨b, off + j * 3 + 2, none⟩) hbl).trans hcj.2.2
          have hjI : (j : Int) < (ln : Int) := by omega
          have HS := hide (And.intro hfj hsj)
          clear hcj hfj hsj hcell hcc HF HI
          have HD := hide (does_any gt gr w.heap.size _ (hide (cd8 gt gr w.heap.size HG.out)) t c wr.drew H4.out.2.2.2.size HR.out ((cd8 gt gr w.heap.size HG.out).drew _ _ H4.out.2.1) H4.out.2.2.1.drew H4.out.1 HS.out.1.2.1 HS.out.2)
          have HY := hide (fun w5 (h5 : TB gt w.heap.size w5 (stepT t c)) (h6 : RtAt w5 gr (stepT t c)) (h7 : Below w.heap.size wr.drew w5) => says8 gt gr w.heap.size _ (cd8 gt gr w.heap.size HG.out) (stepT t c) w w5 h5 h6 (step_ok t c H4.out.1) ((below_dn H4.out.2.2.2 1).trans h7))
          have HOK := hide (step_ok t c H4.out.1)
          generalize stepT t c = u at HD HY HOK
          clear H4
          unfold tcA at HD
          go_wp2_with fail
          go_region_with (first
            | (go_at_call 13; refine HD.out.mono ?_; rintro e w5 ⟨rfl, h5, h6, h7⟩; have k0 := h6.cell 0 (.string u.b) rfl; have HT := hide (HY.out w5 h5 h6 h7); clear h5 h6 h7)
            | (go_at_call 14; refine HT.out.mono ?_; rintro e w6 ⟨a6, c6, rfl, k6, ht, hrest⟩))
          all_goals
            go_wp2
            go_roundw
            case rel => exact ⟨j + 1, u, by omega, by go_num, HOK.out, hrest⟩
            case measure => simp [intOf]; omega
        · obtain rfl : j = ln := by omega
          have HT := hide (fun x (h1 : TB gt w.heap.size x t) => (cd8 gt gr w.heap.size HG.out).len x t h1 H4.out.1)
          go_wp2_with fail
          refine wp_region_in (fun x => TB gt w.heap.size x t ∧ RtAt x gr t ∧ Below w.heap.size w x) (by kernel_rfl) (by kernel_rfl) ⟨(cd8 gt gr w.heap.size HG.out).drew _ _ H4.out.2.1, H4.out.2.2.1.drew, below_dn H4.out.2.2.2 1⟩ ?_
          repeat (first
            | go_big_quiet_skip
            | (refine wpQuiet_load rfl 9 _ rfl _ (.string t.b) rfl (fun y hy => load8_s y _ (hy.2.1.cell 0 _ rfl)) ?_; simp only [Act.put, Array.setIfInBounds, List.size_toArray, List.length_cons, List.length_nil, Nat.reduceAdd, Nat.reduceLT, ↓reduceDIte, List.set_toArray, List.set_cons_succ, List.set_cons_zero])
            | (refine wpQuiet_call rfl 15 #[.pointer (some ⟨gt, 0, none⟩)] (.int .i64 (t.b.size : Int)) ?_ (fun x hC => (HT.out x hC.1).mono fun e x' h => ⟨h.1, h.2.1, h.2.2.rt hC.2.1, hC.2.2.trans h.2.2.below⟩) ?_; (intro x; go_simp); simp only [Act.put, Array.setIfInBounds, List.size_toArray, List.length_cons, List.length_nil, Nat.reduceAdd, Nat.reduceLT, ↓reduceDIte, List.set_toArray, List.set_cons_succ, List.set_cons_zero])
            | (refine wpQuiet_plain rfl (fun K hK => ?_); go_simp; (try simp only [beq_self_eq_true]); refine hK _ ?_; clear hK K))
          refine wpQuiet_nil ?_
          intro x hx
          have HX := hide hx
          clear hx HT H4
          go_wp2
          go_ret
          exact ⟨rfl, HX.out.2.2⟩
    | false =>
      go_wp2
      go_loopw [30] (fun i wr => ∃ (j : Nat) (t : Tp), j ≤ ln ∧ i = .int .i64 j ∧ t.ok ∧ TB gt w.heap.size wr t ∧ RtAt wr gr t ∧ Below w.heap.size w wr) (fun i _ => ln - (intOf i).toNat)
      case atStart => exact ⟨0, Tp.new r, Nat.zero_le _, rfl, Tp.new_ok r, H3.out⟩
      case round =>
        obtain ⟨j, t, hj, rfl, hok, hrest⟩ := hrel
        have H4 := hide (And.intro hok hrest)
        clear H3 hok hrest
        by_cases hlt : j < ln
        · obtain ⟨b, off, rfl, hbl, hcell⟩ := tcs_cell (by rw [← HLN.out]; exact HI.out) (by have := HLN.out; omega)
          have hcj := hcell j (by have := HLN.out; omega)
          have hfj : (cs.getD j Tc.zero).fits := by
            have hl : j < cs.length := by have := HLN.out; omega
            rw [List.getD_eq_getElem?_getD, List.getElem?_eq_getElem hl]
            exact HF.out _ (List.getElem_mem hl)
          have hsj := HQ.out.2 j (by have := HLN.out; omega)
          obtain ⟨c, hcc⟩ : ∃ c, c = cs.getD j Tc.zero := ⟨_, rfl⟩
          rw [← hcc] at hcj hfj hsj
          have c0 := (H4.out.2.2.2.cell (p := ⟨b, off + j * 3, none⟩) hbl).trans hcj.1
          have c1 := (H4.out.2.2.2.cell (p := ⟨b, off + j * 3 + 1, none⟩) hbl).trans hcj.2.1
          have c2 := (H4.out.2.2.2.cell (p := ⟨b, off + j * 3 + 2, none⟩) hbl).trans hcj.2.2
          have hjI : (j : Int) < (ln : Int) := by omega
          have HS := hide (And.intro hfj hsj)
          clear hcj hfj hsj hcell hcc HF HI
          have HD := hide (does_any gt gr w.heap.size _ (hide (cd8 gt gr w.heap.size HG.out)) t c wr.drew H4.out.2.2.2.size HR.out ((cd8 gt gr w.heap.size HG.out).drew _ _ H4.out.2.1) H4.out.2.2.1.drew H4.out.1 HS.out.1.2.1 HS.out.2)
          have HY := hide (fun w5 (h5 : TB gt w.heap.size w5 (stepT t c)) (h6 : RtAt w5 gr (stepT t c)) (h7 : Below w.heap.size wr.drew w5) => says8 gt gr w.heap.size _ (cd8 gt gr w.heap.size HG.out) (stepT t c) w w5 h5 h6 (step_ok t c H4.out.1) ((below_dn H4.out.2.2.2 1).trans h7))
          have HOK := hide (step_ok t c H4.out.1)
          generalize stepT t c = u at HD HY HOK
          clear H4
          unfold tcA at HD
          go_wp2_with fail
          go_region_with (first
            | (go_at_call 13; refine HD.out.mono ?_; rintro e w5 ⟨rfl, h5, h6, h7⟩; have k0 := h6.cell 0 (.string u.b) rfl; have HT := hide (HY.out w5 h5 h6 h7); clear h5 h6 h7)
            | (go_at_call 14; refine HT.out.mono ?_; rintro e w6 ⟨a6, c6, rfl, k6, ht, hrest⟩))
          all_goals
            go_wp2
            go_roundw
            case rel => exact ⟨j + 1, u, by omega, by go_num, HOK.out, hrest⟩
            case measure => simp [intOf]; omega
        · obtain rfl : j = ln := by omega
          have HT := hide (fun x (h1 : TB gt w.heap.size x t) => (cd8 gt gr w.heap.size HG.out).len x t h1 H4.out.1)
          go_wp2_with fail
          refine wp_region_in (fun x => TB gt w.heap.size x t ∧ RtAt x gr t ∧ Below w.heap.size w x) (by kernel_rfl) (by kernel_rfl) ⟨(cd8 gt gr w.heap.size HG.out).drew _ _ H4.out.2.1, H4.out.2.2.1.drew, below_dn H4.out.2.2.2 1⟩ ?_
          repeat (first
            | go_big_quiet_skip
            | (refine wpQuiet_load rfl 9 _ rfl _ (.string t.b) rfl (fun y hy => load8_s y _ (hy.2.1.cell 0 _ rfl)) ?_; simp only [Act.put, Array.setIfInBounds, List.size_toArray, List.length_cons, List.length_nil, Nat.reduceAdd, Nat.reduceLT, ↓reduceDIte, List.set_toArray, List.set_cons_succ, List.set_cons_zero])
            | (refine wpQuiet_call rfl 15 #[.pointer (some ⟨gt, 0, none⟩)] (.int .i64 (t.b.size : Int)) ?_ (fun x hC => (HT.out x hC.1).mono fun e x' h => ⟨h.1, h.2.1, h.2.2.rt hC.2.1, hC.2.2.trans h.2.2.below⟩) ?_; (intro x; go_simp); simp only [Act.put, Array.setIfInBounds, List.size_toArray, List.length_cons, List.length_nil, Nat.reduceAdd, Nat.reduceLT, ↓reduceDIte, List.set_toArray, List.set_cons_succ, List.set_cons_zero])
            | (refine wpQuiet_plain rfl (fun K hK => ?_); go_simp; (try simp only [beq_self_eq_true]); refine hK _ ?_; clear hK K))
          refine wpQuiet_nil ?_
          intro x hx
          have HX := hide hx
          clear hx HT H4
          go_wp2
          go_ret
          exact ⟨rfl, HX.out.2.2⟩
theorem walk (r : Int) (z : Bool) (v : Value) (cs : List Tc) (w : World) (hr : (Lit.int .i64 r).wf = true) (h1 : RowsIn tcA Tc.zero 3 w v cs) (h2 : cs.length ≤ maxLen) (h3 : ∀ c ∈ cs, c.fits) (h4 : ∀ a len cap, v = .slice a len cap → len ≤ cap) :
    Calls Try.prog 3 #[.int .i64 r, .bool z, v] w fun e w' => e = .returned (.bool true) ∧ Below w.heap.size w w' := by
  have h1' := h1
  obtain ⟨a, cap, rfl, -⟩ := h1'
  exact core r z a cap cs w h1 h3 (h4 _ _ _ rfl)
end Go.Proofs.Ytkdlmblkckmhaaa.tapePlays
