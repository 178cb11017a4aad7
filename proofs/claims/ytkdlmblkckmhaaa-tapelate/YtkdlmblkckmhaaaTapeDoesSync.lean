/-
  The contract of quaysidelaw08.does: sync.
-/
import Derived.Test.YtkdlmblkckmhaaaTapeDoesCut
import Derived.Test.YtkdlmblkckmhaaaTapeArgs
namespace Go.Proofs.Ytkdlmblkckmhaaa
open Go.RowKit
set_option linter.unusedVariables false

set_option maxRecDepth 4000 in
set_option maxHeartbeats 3200000 in
theorem does_sync (gt gr B : Nat) (TA : World → Tp → Prop) (C : Hid (Cd gt gr B TA)) (t : Tp) (n : Int) (b : ByteArray) (w : World) (hB : B ≤ w.heap.size) (hg : B ≤ gr) (ht : TA w t) (hr : RtAt w gr t) (ok : t.ok) (hn : (Lit.int .i64 n).wf = true) (hb : b.size ≤ 65537) :
    Calls Try.prog 13 #[.pointer (some ⟨gt, 0, none⟩), .pointer (some ⟨gr, 0, none⟩), .agg #[.int .i64 2, .int .i64 n, .string b]] w fun e w' => e = .returned (.bool true) ∧ TA w' t.sync ∧ RtAt w' gr t.sync ∧ Below B w w' := by
  have HN := hide hn
  have hbx : Below w.heap.size w (w.alloc (.cells #[.int .i64 2, .int .i64 n, .string b] 35)) := (Below.refl _ _).alloc (Nat.le_refl _) _
  have H0 := hide (And.intro (C.out.fresh _ _ _ ht hbx) (And.intro (hr.later hbx) (And.intro (hbx.mono hB) (RowAt.new w 35 #[.int .i64 2, .int .i64 n, .string b]))))
  have HOK := hide (t.sync_ok ok)
  have HOK0 := hide ok
  have HG := hide hg
  have HSZ := hide hbx.size
  have hcv := fun w => Lib.run_convert_string_bytes (P := Try.prog) w 9 29 5 b Try.underlying9 Try.underlying29 Try.underlying5
  clear hbx ht hr ok hg hn
  obtain ⟨u, hq⟩ : ∃ u, t.sync = u := ⟨_, rfl⟩
  rw [hq] at HOK ⊢
  have HQ := hide hq
  clear hq
  go_enter Try.func13, Try.ntmps13
  go_wp2_with fail
  refine gen_calls (fun y => Hid (TA y t ∧ RtAt y gr t ∧ Below B w y ∧ RowAt y w.heap.size 35 #[.int .i64 2, .int .i64 n, .string b])) H0 ?_
  clear H0 hcv HSZ
  intro y H0
  refine (C.out.sync y t H0.out.1 HOK0.out).mono ?_
  rintro e w1 ⟨rfl, ht1, hk1⟩
  have e1 := HQ.out
  rw [e1] at ht1
  have H1 := hide (And.intro ht1 (And.intro (hk1.rt H0.out.2.1) (H0.out.2.2.1.trans hk1.below)))
  clear ht1 hk1 H0
  go_wp2_with fail
  refine (rsync8_any gr t w1 H1.out.2.1 HOK0.out).mono ?_
  rintro e w2 ⟨rfl, hr2, hbt⟩
  rw [e1] at hr2
  have HT := hide (C.out.other _ _ _ _ H1.out.1 H1.out.2.1 hbt)
  have HR := hide hr2
  have HB := hide (H1.out.2.2.trans (hbt.below HG.out (Nat.le_trans hB H1.out.2.2.size)))
  clear hr2 hbt H1 HN HOK0 HG HQ e1
  go_wp2_with fail
  refine wp_region_in (fun x => TA x u ∧ RtAt x gr u ∧ Below B w x) (by kernel_rfl) (by kernel_rfl) ⟨C.out.drew _ _ HT.out, HR.out.drew, ⟨HB.out.1, HB.out.2, HB.out.3, HB.out.4, HB.out.5⟩⟩ ?_
  repeat (first
    | go_big_quiet_skip
    | (refine wpQuiet_load rfl 9 (.tmp 66) rfl _ (.string u.b) rfl (fun y hy => load8_s y _ (hy.2.1.cell 0 _ rfl)) ?_; simp only [Act.put, Array.setIfInBounds, List.size_toArray, List.length_cons, List.length_nil, Nat.reduceAdd, Nat.reduceLT, ↓reduceDIte, List.set_toArray, List.set_cons_succ, List.set_cons_zero])
    | (refine wpQuiet_load rfl 3 (.tmp 76) rfl _ (.int .i64 (u.f : Int)) rfl (fun y hy => load8_i y _ (hy.2.1.cell 1 _ rfl)) ?_; simp only [Act.put, Array.setIfInBounds, List.size_toArray, List.length_cons, List.length_nil, Nat.reduceAdd, Nat.reduceLT, ↓reduceDIte, List.set_toArray, List.set_cons_succ, List.set_cons_zero])
    | (refine wpQuiet_load rfl 30 (.tmp 85) rfl _ (.int .u64 (u.s : Int)) rfl (fun y hy => load8_u y _ (hy.2.1.cell 3 _ rfl)) ?_; simp only [Act.put, Array.setIfInBounds, List.size_toArray, List.length_cons, List.length_nil, Nat.reduceAdd, Nat.reduceLT, ↓reduceDIte, List.set_toArray, List.set_cons_succ, List.set_cons_zero])
    | (refine wpQuiet_load rfl 3 (.tmp 94) rfl _ (.int .i64 (u.m : Int)) rfl (fun y hy => load8_i y _ (hy.2.1.cell 2 _ rfl)) ?_; simp only [Act.put, Array.setIfInBounds, List.size_toArray, List.length_cons, List.length_nil, Nat.reduceAdd, Nat.reduceLT, ↓reduceDIte, List.set_toArray, List.set_cons_succ, List.set_cons_zero])
    | (refine wpQuiet_call rfl 15 #[.pointer (some ⟨gt, 0, none⟩)] (.int .i64 (u.b.size : Int)) ?_ (fun x hC => (C.out.len x u hC.1 HOK.out).mono fun e x' h => ⟨h.1, h.2.1, h.2.2.rt hC.2.1, hC.2.2.trans h.2.2.below⟩) ?_; (intro x; go_simp); simp only [Act.put, Array.setIfInBounds, List.size_toArray, List.length_cons, List.length_nil, Nat.reduceAdd, Nat.reduceLT, ↓reduceDIte, List.set_toArray, List.set_cons_succ, List.set_cons_zero])
    | (refine wpQuiet_call rfl 18 #[.pointer (some ⟨gt, 0, none⟩)] (.int .i64 (u.f : Int)) ?_ (fun x hC => (C.out.synced x u hC.1 HOK.out).mono fun e x' h => ⟨h.1, h.2.1, h.2.2.rt hC.2.1, hC.2.2.trans h.2.2.below⟩) ?_; (intro x; go_simp); simp only [Act.put, Array.setIfInBounds, List.size_toArray, List.length_cons, List.length_nil, Nat.reduceAdd, Nat.reduceLT, ↓reduceDIte, List.set_toArray, List.set_cons_succ, List.set_cons_zero])
    | (refine wpQuiet_call rfl 22 #[.pointer (some ⟨gt, 0, none⟩)] (.int .u64 (u.s : Int)) ?_ (fun x hC => (C.out.start x u hC.1 HOK.out).mono fun e x' h => ⟨h.1, h.2.1, h.2.2.rt hC.2.1, hC.2.2.trans h.2.2.below⟩) ?_; (intro x; go_simp); simp only [Act.put, Array.setIfInBounds, List.size_toArray, List.length_cons, List.length_nil, Nat.reduceAdd, Nat.reduceLT, ↓reduceDIte, List.set_toArray, List.set_cons_succ, List.set_cons_zero])
    | (refine wpQuiet_call rfl 23 #[.pointer (some ⟨gt, 0, none⟩)] (.int .i64 (u.m : Int)) ?_ (fun x hC => (C.out.room x u hC.1 HOK.out).mono fun e x' h => ⟨h.1, h.2.1, h.2.2.rt hC.2.1, hC.2.2.trans h.2.2.below⟩) ?_; (intro x; go_simp); simp only [Act.put, Array.setIfInBounds, List.size_toArray, List.length_cons, List.length_nil, Nat.reduceAdd, Nat.reduceLT, ↓reduceDIte, List.set_toArray, List.set_cons_succ, List.set_cons_zero])
    | (refine wpQuiet_plain rfl (fun K hK => ?_); go_simp; (try simp only [beq_self_eq_true]); refine hK _ ?_; clear hK K))
  refine wpQuiet_nil ?_
  intro x hx
  have HX := hide hx
  clear hx HT HR HB C HOK
  go_wp2
  go_ret
  exact ⟨rfl, HX.out⟩
end Go.Proofs.Ytkdlmblkckmhaaa
