/-
  The walk of TapeLate: it returns true, and turns nothing that was there.
-/
import Derived.Test.YtkdlmblkckmhaaaTapeAwake
import Derived.Test.YtkdlmblkckmhaaaTapeCode
import Derived.Test.YtkdlmblkckmhaaaTapeDoes
import Derived.Test.YtkdlmblkckmhaaaTapeFew
import Derived.Test.YtkdlmblkckmhaaaTapeSays
namespace Go.Proofs.Ytkdlmblkckmhaaa.tapeLate
open Go.RowKit
set_option linter.unusedVariables false

set_option maxRecDepth 4000 in
set_option maxHeartbeats 1600000 in
theorem core (r : Int) (a : Option Addr) (cap : Nat) (cs : List Tc) (w : World) (hI : RowsIn tcA Tc.zero 3 w (.slice a cs.length cap) cs) (hft : ∀ c ∈ cs, c.fits) (hc : cs.length ≤ cap) :
    Calls Try.prog 4 #[.int .i64 r, .slice a cs.length cap] w fun e w' => e = .returned (.bool true) ∧ Below w.heap.size w w' := by
  have HI := hide hI
  have HF := hide hft
  obtain ⟨ln, hln⟩ : ∃ ln, ln = cs.length := ⟨_, rfl⟩
  rw [← hln] at hc HI ⊢
  have HLN := hide hln
  clear hI hft hln
  go_enter Try.func4, Try.ntmps4
  go_wp2_with fail
  refine (awake8_any _).mono ?_
  rintro e w1 ⟨rfl, hb1⟩
  have HB1 := hide hb1
  clear hb1
  go_wp2_with fail
  refine (few_any (.slice a ln cap) cs w1 (HI.out.below HB1.out) (fun a' l' c' e => by injection e with e1 e2 e3; omega)).mono ?_
  rintro e w2 ⟨q, rfl, hq, rfl⟩
  cases q with
  | false =>
    clear hq
    go_wp2_with fail
    refine (awake8_any _).mono ?_
    rintro e w2 ⟨rfl, hb2⟩
    have HB2 := hide (HB1.out.trans (hb2.mono HB1.out.size))
    clear hb2 HB1
    go_wp2
    go_ret
    exact ⟨rfl, HB2.out⟩
  | true =>
    have HQ := hide (hq rfl)
    have h200 : ln ≤ 200 := by have := HQ.out.1; have := HLN.out; omega
    clear hq
    go_wp2_with fail
    refine (new8_any r w1).mono ?_
    rintro e w2 ⟨rfl, h2, hb2⟩
    obtain ⟨gt, hgt⟩ : ∃ gt, gt = w1.heap.size := ⟨_, rfl⟩
    have HT2 := hide h2
    have HB2 := hide (HB1.out.trans (hb2.mono HB1.out.size))
    have HG := hide (show w.heap.size ≤ gt by rw [hgt]; exact HB1.out.size)
    rw [← hgt] at HT2 ⊢
    clear h2 hb2 HB1 hgt
    go_wp2_with fail
    refine (rnew8_any r w2).mono ?_
    rintro e w3 ⟨rfl, h3, hb3⟩
    obtain ⟨gr, hgr⟩ : ∃ gr, gr = w2.heap.size := ⟨_, rfl⟩
    have H3 := hide (And.intro (show TB gt w.heap.size w3 (Tp.new r) from ⟨gt, HG.out, HT2.out.later hb3⟩) (And.intro h3 (HB2.out.trans (hb3.mono HB2.out.size))))
    have HR := hide (show w.heap.size ≤ gr by rw [hgr]; exact HB2.out.size)
    rw [← hgr] at H3 ⊢
    clear h3 hb3 HB2 HT2 hgr
    go_wp2
    go_loopw [24] (fun i wr => ∃ (j : Nat) (t : Tp), j ≤ ln ∧ i = .int .i64 j ∧ t.ok ∧ TB gt w.heap.size wr t ∧ RtAt wr gr t ∧ Below w.heap.size w wr) (fun i _ => ln - (intOf i).toNat)
    case atStart => exact ⟨0, Tp.new r, Nat.zero_le _, rfl, Tp.new_ok r, H3.out⟩
    case round =>
      obtain ⟨j, t, hj, rfl, hok, hrest⟩ := hrel
      have H4 := hide (And.intro hok hrest)
      clear H3 hok hrest
      by_cases hlt : j < ln
      · obtain ⟨b, off, rfl, hbl, hcell⟩ := tcs_cell (by rw [← HLN.out]; exact HI.out) (by have := HLN.out; omega)
        have hcj := hcell j (by have := HLN.out; omega)
        have hfj : (cs.getD j Tc.zero).fits := by
          have hl : j < cs.length := by have := HLN.out; omega
          rw [List.getD_eq_getElem?_getD, List.getElem?_eq_getElem hl]
          exact HF.out _ (List.getElem_mem hl)
        have hsj := HQ.out.2 j (by have := HLN.out; omega)
        obtain ⟨c, hcc⟩ : ∃ c, c = cs.getD j Tc.zero := ⟨_, rfl⟩
        rw [← hcc] at hcj hfj hsj
        have c0 := (H4.out.2.2.2.cell (p := ⟨b, off + j * 3, none⟩) hbl).trans hcj.1
        have c1 := (H4.out.2.2.2.cell (p := ⟨b, off + j * 3 + 1, none⟩) hbl).trans hcj.2.1
        have c2 := (H4.out.2.2.2.cell (p := ⟨b, off + j * 3 + 2, none⟩) hbl).trans hcj.2.2
        have hjI : (j : Int) < (ln : Int) := by omega
        have HS := hide (And.intro hfj hsj)
        clear hcj hfj hsj hcell hcc HF HI
        go_wp2_with fail
        have T := does_any gt gr w.heap.size _ (hide (cd8 gt gr w.heap.size HG.out)) t c wr H4.out.2.2.2.size HR.out H4.out.2.1 H4.out.2.2.1 H4.out.1 HS.out.1.2.1 HS.out.2
        refine T.mono ?_
        clear T
        rintro e w5 ⟨rfl, h5, h6, h7⟩
        have H5 := hide (And.intro (step_ok t c H4.out.1) (And.intro h5 (And.intro h6 (H4.out.2.2.2.trans h7))))
        clear h5 h6 h7 H4 c0 c1 c2
        go_wp2
        go_roundw
        case rel => exact ⟨j + 1, stepT t c, by omega, by go_num, H5.out⟩
        case measure => simp [intOf]; omega
      · obtain rfl : j = ln := by omega
        have c0 := H4.out.2.2.1.cell 0 (.string t.b) rfl
        have HT := hide (says8 gt gr w.heap.size _ (cd8 gt gr w.heap.size HG.out) t w wr.drew ((cd8 gt gr w.heap.size HG.out).drew _ _ H4.out.2.1) H4.out.2.2.1.drew H4.out.1 (below_dn H4.out.2.2.2 1))
        clear H4
        go_wp2_with fail
        go_region_with (first | (go_at_call 14; refine HT.out.mono ?_; rintro e w5 ⟨a5, c5, rfl, k0, ht, hrest⟩))
        all_goals
          go_wp2
          go_ret
          exact ⟨rfl, hrest.2.2⟩
theorem walk (r : Int) (v : Value) (cs : List Tc) (w : World) (hr : (Lit.int .i64 r).wf = true) (h1 : RowsIn tcA Tc.zero 3 w v cs) (h2 : cs.length ≤ maxLen) (h3 : ∀ c ∈ cs, c.fits) (h4 : ∀ a len cap, v = .slice a len cap → len ≤ cap) :
    Calls Try.prog 4 #[.int .i64 r, v] w fun e w' => e = .returned (.bool true) ∧ Below w.heap.size w w' := by
  have h1' := h1
  obtain ⟨a, cap, rfl, -⟩ := h1'
  exact core r a cap cs w h1 h3 (h4 _ _ _ rfl)
end Go.Proofs.Ytkdlmblkckmhaaa.tapeLate
