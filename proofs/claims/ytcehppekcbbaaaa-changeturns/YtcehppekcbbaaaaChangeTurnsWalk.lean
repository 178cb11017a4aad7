/-
  The walk of ChangeTurns: it returns true, and turns nothing that was there.
-/
import Derived.Test.YtcehppekcbbaaaaChangeAwake
import Derived.Test.YtcehppekcbbaaaaChangeInv
import Derived.Test.YtcehppekcbbaaaaChangeRef
import Derived.Test.YtcehppekcbbaaaaRowsKept
import Derived.Test.YtcehppekcbbaaaaChangeFacts
import Derived.OpenShut
namespace Go.Proofs.Ytcehppekcbbaaaa.changeTurns
open Go.RowKit
set_option linter.unusedVariables false

set_option maxRecDepth 4000 in
set_option maxHeartbeats 1600000 in
theorem walk (c : Ch) (w : World) (hc : c.fits) :
    Calls Try.prog 4 #[.agg (chA c)] w fun e w' => e = .returned (.bool true) ∧ Below w.heap.size w w' := by
  have H0 := hide (Keeps.one w 29 (chA c))
  have HD := hide (inv_fits c hc)
  have HC := hide hc
  clear hc
  have HI := hide (fun w => inverse_any c w)
  have HJ := hide (fun w => rinv_any c w)
  go_enter Try.func4, Try.ntmps4
  go_wp2_with fail
  refine gen_calls (fun x => Hid (Keeps w x [(w.heap.size, 29, chA c)])) H0 ?_
  clear H0
  intro w0 H0
  refine (awake_any _).mono ?_
  rintro e w1 ⟨rfl, hb1⟩
  have H1 := hide (H0.out.later hb1)
  clear H0 hb1
  by_cases h : c.right
  · have e1 : invE c = 0 := by unfold invE; rw [if_pos h]
    rw [e1] at HI HJ
    have HK := hide (fun w => inverse_any (invC c) w)
    rw [(inv_inv c h).1, (inv_inv c h).2] at HK
    have HR := hide (fun w => cright_at (invC c) w true (hide (decide_eq_true (inv_right c h).1)))
    clear e1 h
    generalize invC c = d at *
    have HEQ := hide (fun x => run_change_neq d d HD.out HD.out x)
    rw [decide_eq_true ((like_iff d d).2 rfl)] at HEQ
    have HEC := hide (fun x => run_change_eql c c HC.out HC.out x)
    rw [decide_eq_true ((like_iff c c).2 rfl)] at HEC
    go_wp2_with (refine wpList_load_at rfl 29 (.tmp 1) rfl w.heap.size rfl (chA c) H1.out.1.1 _ Try.underlying29 rfl infoCh ?_)
    refine (HI.out _).mono ?_
    rintro e w2 ⟨rfl, hb2⟩
    have H2 := hide (H1.out.later hb2)
    clear H1 hb2 HI
    go_wp2_with (refine wpList_store_at rfl 29 (.tmp 3) (.tmp 14) rfl w2.heap.size (chA Ch.zero) (chA d) rfl rfl (RowAt.new w2 29 (chA Ch.zero)) infoCh rfl (chA_one _) ?_)
    intro w3 hr hk _
    have H3 := hide (H2.out.laid hr hk)
    clear hr hk H2
    generalize w2.heap.size = g2 at *
    go_wp2_with (refine wpList_load_at rfl 29 (.tmp 1) rfl w.heap.size rfl (chA c) H3.out.1.2.1 _ Try.underlying29 rfl infoCh ?_)
    refine (HJ.out _).mono ?_
    rintro e w4 ⟨rfl, hb4⟩
    have H4 := hide (H3.out.later hb4)
    clear H3 hb4 HJ
    go_wp2_with (refine wpList_store_at rfl 29 (.tmp 5) (.tmp 19) rfl w4.heap.size (chA Ch.zero) (chA d) rfl rfl (RowAt.new w4 29 (chA Ch.zero)) infoCh rfl (chA_one _) ?_)
    intro w5 hr hk _
    have H5 := hide (H4.out.laid hr hk)
    clear hr hk H4
    generalize w4.heap.size = g4 at *
    go_wp2_with (first | (refine wpList_load_at rfl 29 (.tmp 3) rfl g2 rfl (chA d) H5.out.1.2.1 _ Try.underlying29 rfl infoCh ?_) | (refine wpList_load_at rfl 29 (.tmp 5) rfl g4 rfl (chA d) H5.out.1.1 _ Try.underlying29 rfl infoCh ?_) | (refine wpList_binop rfl .neq 29 29 (.tmp 21) (.tmp 22) rfl (.agg (chA d)) (.agg (chA d)) (.bool false) rfl rfl (change_guard _ _ _ d d _) (HEQ.out _) ?_))
    refine (HK.out _).mono ?_
    rintro e w6 ⟨rfl, hb6⟩
    have H6 := hide (H5.out.later hb6)
    clear H5 hb6 HK
    go_wp2_with (refine wpList_store_at rfl 29 (.tmp 7) (.tmp 37) rfl w6.heap.size (chA Ch.zero) (chA c) rfl rfl (RowAt.new w6 29 (chA Ch.zero)) infoCh rfl (chA_one _) ?_)
    intro w7 hr hk _
    have H7 := hide (H6.out.laid hr hk)
    clear hr hk H6
    generalize w6.heap.size = g6 at *
    go_wp2_with (first | (refine wpList_load_at rfl 29 (.tmp 7) rfl g6 rfl (chA c) H7.out.1.1 _ Try.underlying29 rfl infoCh ?_) | (refine wpList_load_at rfl 29 (.tmp 1) rfl w.heap.size rfl (chA c) H7.out.1.2.2.2.1 _ Try.underlying29 rfl infoCh ?_) | (refine wpList_load_at rfl 29 (.tmp 3) rfl g2 rfl (chA d) H7.out.1.2.2.1 _ Try.underlying29 rfl infoCh ?_) | (refine wpList_binop rfl .eql 29 29 (.tmp 42) (.tmp 43) rfl (.agg (chA c)) (.agg (chA c)) (.bool true) rfl rfl (change_guard _ _ _ c c _) (HEC.out _) ?_))
    refine (HR.out _).mono ?_
    rintro e w8 ⟨rfl, hb8⟩
    have d8 := (H7.out.later hb8).2
    clear H7 hb8 HR
    go_wp2
    go_ret
    exact ⟨rfl, d8⟩
  · have e1 : invE c = 1 := by unfold invE; rw [if_neg h]
    have e2 : invC c = Ch.zero := by unfold invC; rw [if_neg h]
    rw [e1, e2] at HI HJ
    have HR := hide (fun w => cright_at c w false (hide (decide_eq_false h)))
    have HEQ := hide (fun x => run_change_neq Ch.zero Ch.zero zero_fits zero_fits x)
    rw [decide_eq_true ((like_iff Ch.zero Ch.zero).2 rfl)] at HEQ
    clear e1 e2 h HD
    go_wp2_with (refine wpList_load_at rfl 29 (.tmp 1) rfl w.heap.size rfl (chA c) H1.out.1.1 _ Try.underlying29 rfl infoCh ?_)
    refine (HI.out _).mono ?_
    rintro e w2 ⟨rfl, hb2⟩
    have H2 := hide (H1.out.later hb2)
    clear H1 hb2 HI
    go_wp2_with (refine wpList_store_at rfl 29 (.tmp 3) (.tmp 14) rfl w2.heap.size (chA Ch.zero) (chA Ch.zero) rfl rfl (RowAt.new w2 29 (chA Ch.zero)) infoCh rfl (chA_one _) ?_)
    intro w3 hr hk _
    have H3 := hide (H2.out.laid hr hk)
    clear hr hk H2
    generalize w2.heap.size = g2 at *
    go_wp2_with (refine wpList_load_at rfl 29 (.tmp 1) rfl w.heap.size rfl (chA c) H3.out.1.2.1 _ Try.underlying29 rfl infoCh ?_)
    refine (HJ.out _).mono ?_
    rintro e w4 ⟨rfl, hb4⟩
    have H4 := hide (H3.out.later hb4)
    clear H3 hb4 HJ
    go_wp2_with (refine wpList_store_at rfl 29 (.tmp 5) (.tmp 19) rfl w4.heap.size (chA Ch.zero) (chA Ch.zero) rfl rfl (RowAt.new w4 29 (chA Ch.zero)) infoCh rfl (chA_one _) ?_)
    intro w5 hr hk _
    have H5 := hide (H4.out.laid hr hk)
    clear hr hk H4
    generalize w4.heap.size = g4 at *
    go_wp2_with (first | (refine wpList_load_at rfl 29 (.tmp 3) rfl g2 rfl (chA Ch.zero) H5.out.1.2.1 _ Try.underlying29 rfl infoCh ?_) | (refine wpList_load_at rfl 29 (.tmp 5) rfl g4 rfl (chA Ch.zero) H5.out.1.1 _ Try.underlying29 rfl infoCh ?_) | (refine wpList_load_at rfl 29 (.tmp 1) rfl w.heap.size rfl (chA c) H5.out.1.2.2.1 _ Try.underlying29 rfl infoCh ?_) | (refine wpList_binop rfl .neq 29 29 (.tmp 21) (.tmp 22) rfl (.agg (chA Ch.zero)) (.agg (chA Ch.zero)) (.bool false) rfl rfl (change_guard _ _ _ Ch.zero Ch.zero _) (HEQ.out _) ?_))
    refine (HR.out _).mono ?_
    rintro e w6 ⟨rfl, hb6⟩
    have d6 := (H5.out.later hb6).2
    clear H5 hb6 HR
    go_wp2
    go_ret
    exact ⟨rfl, d6⟩
end Go.Proofs.Ytcehppekcbbaaaa.changeTurns
