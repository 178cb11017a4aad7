/-
  The walk of ChangeApplies: it returns true, and turns nothing that was there.
-/
import Derived.Test.YtcehppekcbbaaaaChangeAwake
import Derived.Test.YtcehppekcbbaaaaChangeRight
import Derived.Test.YtcehppekcbbaaaaChangeRefApplyAll
import Derived.Test.YtcehppekcbbaaaaChangeKept
import Derived.Test.YtcehppekcbbaaaaQuietIn
import Derived.OpenShut
namespace Go.Proofs.Ytcehppekcbbaaaa.changeApplies
open Go.RowKit
set_option linter.unusedVariables false

set_option maxRecDepth 4000 in
set_option maxHeartbeats 3200000 in
theorem core (p : Pg) (c : Ch) (l : Nat) (w : World) (hp : p.fits) (hl : l < 18446744073709551616) :
    Calls Try.prog 3 #[.agg (pgA p), .agg (chA c), .int .u64 l] w fun e w' => e = .returned (.bool true) ∧ Below w.heap.size w w' := by
  have HF := hide (app_fits p c l hp hl)
  have HP := hide (PC.new w p c)
  clear hp
  go_enter Try.func3, Try.ntmps3
  go_wp2_with fail
  obtain ⟨gc, h1⟩ : ∃ g, g = w.heap.size + 1 := ⟨_, rfl⟩
  rw [← h1] at HP ⊢
  refine gen_calls (fun x => Hid (PC w gc p c x)) HP ?_
  clear HP h1
  intro w0 HP
  refine (awake_any _).mono ?_
  rintro e w1 ⟨rfl, hb1⟩
  have H1 := hide (HP.out.later hb1)
  clear HP hb1
  have HA := hide (fun w => apply_any p c l w hl)
  have HB := hide (fun w => rapp_any p c l w)
  generalize appP p c l = q at *
  generalize appE p c l = er at *
  go_wp2_with (first | (refine wpList_load_page rfl _ rfl w.heap.size rfl p H1.out.1 ?_) | (refine wpList_load_at rfl 29 _ rfl gc rfl (chA c) H1.out.2.1 _ Try.underlying29 rfl infoCh ?_))
  refine (HA.out _).mono ?_
  rintro e w2 ⟨rfl, hb2⟩
  have H2 := hide (H1.out.later hb2)
  clear H1 hb2 HA
  go_wp2_with (refine wpList_store_page rfl _ _ rfl w2.heap.size Pg.zero q rfl rfl (show PgAt _ w2.heap.size Pg.zero from heap_alloc_new w2 _) ?_)
  intro w3 hP3 hk
  have hb3 := hk _ _ ((Below.refl w2.heap.size w2).alloc (Nat.le_refl _) _) (Nat.le_refl _)
  have H3 := hide (And.intro (H2.out.later hb3) hP3)
  clear hP3 hk hb3 H2
  generalize w2.heap.size = g2 at *
  go_wp2_with (first | (refine wpList_load_page rfl _ rfl w.heap.size rfl p H3.out.1.1 ?_) | (refine wpList_load_at rfl 29 _ rfl gc rfl (chA c) H3.out.1.2.1 _ Try.underlying29 rfl infoCh ?_))
  refine (HB.out _).mono ?_
  rintro e w4 ⟨rfl, hb4⟩
  have H4 := hide (And.intro (H3.out.1.later hb4) (H3.out.2.below hb4 H3.out.2.lt))
  clear H3 hb4 HB
  go_wp2_with (refine wpList_store_page rfl _ _ rfl w4.heap.size Pg.zero q rfl rfl (show PgAt _ w4.heap.size Pg.zero from heap_alloc_new w4 _) ?_)
  intro w5 hP5 hk
  have hb5 := hk _ _ ((Below.refl w4.heap.size w4).alloc (Nat.le_refl _) _) (Nat.le_refl _)
  have H5 := hide (And.intro (H4.out.1.later hb5) (And.intro (H4.out.2.below hb5 H4.out.2.lt) hP5))
  clear hP5 hk hb5 H4
  generalize w4.heap.size = g4 at *
  have HEQ := hide (fun x => run_page_eql q q HF.out HF.out x)
  rw [decide_eq_true (Pg.same.refl q)] at HEQ
  have HS : Hid (PC w gc p c w5.drew ∧ PgAt w5.drew g2 q ∧ PgAt w5.drew g4 q) := ⟨H5.out.1.drew, H5.out.2.1, H5.out.2.2⟩
  clear H5 HF
  go_wp2_with fail
  refine wp_region_in (fun x => PC w gc p c x ∧ PgAt x g2 q ∧ PgAt x g4 q) (by kernel_rfl) (by kernel_rfl) HS.out ?_
  clear HS
  repeat (first
    | go_big_quiet_skip
    | (refine wpQuiet_load rfl 27 (.tmp 7) rfl _ (.agg (pgA q)) rfl (fun y hy => load_page y hy.2.1) ?_; simp only [Act.put, Array.setIfInBounds, List.size_toArray, List.length_cons, List.length_nil, Nat.reduceAdd, Nat.reduceLT, ↓reduceDIte, List.set_toArray, List.set_cons_succ, List.set_cons_zero])
    | (refine wpQuiet_load rfl 27 (.tmp 9) rfl _ (.agg (pgA q)) rfl (fun y hy => load_page y hy.2.2) ?_; simp only [Act.put, Array.setIfInBounds, List.size_toArray, List.length_cons, List.length_nil, Nat.reduceAdd, Nat.reduceLT, ↓reduceDIte, List.set_toArray, List.set_cons_succ, List.set_cons_zero])
    | (refine wpQuiet_load rfl 29 (.tmp 4) rfl _ (.agg (chA c)) rfl (fun y hy => load_change y hy.1.2.1) ?_; simp only [Act.put, Array.setIfInBounds, List.size_toArray, List.length_cons, List.length_nil, Nat.reduceAdd, Nat.reduceLT, ↓reduceDIte, List.set_toArray, List.set_cons_succ, List.set_cons_zero])
    | (refine wpQuiet_binop rfl .eql 27 27 (.tmp 27) (.tmp 28) rfl _ _ (.bool true) rfl rfl (fun y => page_guard _ _ _ q q y) (fun y => HEQ.out y) ?_; simp only [Act.put, Array.setIfInBounds, List.size_toArray, List.length_cons, List.length_nil, Nat.reduceAdd, Nat.reduceLT, ↓reduceDIte, List.set_toArray, List.set_cons_succ, List.set_cons_zero])
    | (refine wpQuiet_call rfl 12 #[.agg (chA c)] (.bool (decide c.right)) ?_ (fun x hC => (cright_any c x).mono fun e x' h => ⟨h.1, hC.1.later h.2, hC.2.1.below h.2 hC.2.1.lt, hC.2.2.below h.2 hC.2.2.lt⟩) ?_; (intro x; go_simp); simp only [Act.put, Array.setIfInBounds, List.size_toArray, List.length_cons, List.length_nil, Nat.reduceAdd, Nat.reduceLT, ↓reduceDIte, List.set_toArray, List.set_cons_succ, List.set_cons_zero])
    | (refine wpQuiet_call rfl 13 #[.agg (chA c)] (.bool (decide c.right)) ?_ (fun x hC => (rcright_any c x).mono fun e x' h => ⟨h.1, hC.1.later h.2, hC.2.1.below h.2 hC.2.1.lt, hC.2.2.below h.2 hC.2.2.lt⟩) ?_; (intro x; go_simp); simp only [Act.put, Array.setIfInBounds, List.size_toArray, List.length_cons, List.length_nil, Nat.reduceAdd, Nat.reduceLT, ↓reduceDIte, List.set_toArray, List.set_cons_succ, List.set_cons_zero])
    | (refine wpQuiet_plain rfl (fun K hK => ?_); go_simp; refine hK _ ?_; clear hK K))
  refine wpQuiet_nil ?_
  intro x hx
  have hf := hx.1.2.2.1
  clear hx HEQ
  go_wp2
  go_ret
  exact ⟨rfl, hf⟩

theorem walk (p : Pg) (c : Ch) (a2 : Int) (w : World) (hp : p.fits) (hc : c.fits) (w2 : (Lit.int .u64 a2).wf = true) :
    Calls Try.prog 3 #[.agg (pgA p), .agg (chA c), .int .u64 a2] w fun e w' => e = .returned (.bool true) ∧ Below w.heap.size w w' := by
  have b2 := bounds_u64 w2
  obtain ⟨n, rfl⟩ := Int.eq_ofNat_of_zero_le b2.1
  exact core p c n w hp (by omega)
end Go.Proofs.Ytcehppekcbbaaaa.changeApplies
