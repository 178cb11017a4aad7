/-
  The walk of LockNil: it returns true, and turns nothing that was there.
-/
import Derived.Test.YtjdabcapphiplabLkNils
import Derived.Test.YtjdabcapphiplabLkScr
namespace Go.Proofs.Ytjdabcapphiplab.lockNil
open Go.RowKit
set_option linter.unusedVariables false

theorem load_num {y : World} {b o : Nat} {m : Int} (h : y.cell? ⟨b, o, none⟩ = some (.int .i64 m)) : (Instr.loadAt 3 (.pointer (some ⟨b, o, none⟩))).run Try.prog y = .ok (.int .i64 m) y := by go_simp
def CN (w : World) (gb : Nat) (A : Array Value) (y : World) : Prop := RowAt y gb 23 A ∧ Below w.heap.size w y
theorem CN.later {w y z : World} {gb : Nat} {A : Array Value} (h : CN w gb A y) (q : Below y.heap.size y z) : CN w gb A z := ⟨h.1.later q, h.2.trans (q.mono h.2.size)⟩
set_option maxRecDepth 8000 in
set_option maxHeartbeats 3200000 in
theorem walk (o : Lc) (w : World) (ho : o.fits) : Calls Try.prog 3 #[.agg (lcA o)] w fun e w' => e = .returned (.bool true) ∧ Below w.heap.size w w' := by
  have bb : Below w.heap.size w (w.alloc (.cells (lcA o) 23)) := (Below.refl w.heap.size w).alloc (Nat.le_refl _) _
  have H0 := hide (show CN w w.heap.size (lcA o) (w.alloc (.cells (lcA o) 23)) from ⟨RowAt.new w _ _, bb⟩)
  obtain ⟨A, hA⟩ : ∃ A, A = lcA o := ⟨_, rfl⟩
  rw [← hA] at H0 ⊢
  have HC := hide (show ∀ y gb, CN w gb A y → y.cell? ⟨gb, 1, none⟩ = some (.int .i64 o.w) ∧ y.cell? ⟨gb, 2, none⟩ = some (.int .i64 o.x) ∧ y.cell? ⟨gb, 3, none⟩ = some (.int .i64 o.m) from fun y gb hy => by
    have h := hy.1
    rw [hA] at h
    exact ⟨h.cell 1 _ rfl, h.cell 2 _ rfl, h.cell 3 _ rfl⟩)
  clear bb hA ho
  obtain ⟨gb, hgb⟩ : ∃ gb, gb = w.heap.size := ⟨_, rfl⟩
  rw [← hgb] at H0
  go_enter Try.func3, Try.ntmps3
  go_wp2_with fail
  rw [← hgb]
  clear hgb
  refine (awake13 _).mono ?_
  rintro e w1 ⟨rfl, hb1⟩
  have H1 := hide (H0.out.later hb1)
  obtain ⟨d1, d2, d3⟩ := HC.out _ _ H1.out
  clear hb1 H0 d2 d3
  go_wp2_with fail
  refine (nwaits o.w w1).mono ?_
  rintro e w2 ⟨rfl, hb2⟩
  have H2 := hide (H1.out.later hb2)
  clear hb2 H1 d1
  go_wp2_with (with_reducible refine stop_at 4 rfl ?_)
  refine unstop10 ?_
  refine lst_run (some 4) rfl rfl (.pointer (some ⟨w2.heap.size, 0, none⟩)) (w2.alloc (.cells zeroH 28)) (by go_simp; rfl) ?_
  simp only [Act.put, Array.setIfInBounds, List.size_toArray, List.length_cons, List.length_nil, Nat.reduceAdd, Nat.reduceLT, ↓reduceDIte, List.set_toArray, List.set_cons_succ, List.set_cons_zero]
  refine wpList_store_part rfl 28 (.tmp 4) (.tmp 13) rfl w2.heap.size 0 28 zeroH zeroH rfl rfl (RowAt.new w2 _ _) infoHs (by show 0 + 3 ≤ 3; omega) (hdA_one hdZ) ?_
  intro w3 h31 h32
  simp only [Act.put]
  have H3 := hide (H2.out.later (h32.below ((Below.refl w2.heap.size w2).alloc (Nat.le_refl _) (.cells zeroH 28)) (Nat.le_refl _)))
  obtain ⟨d1, d2, d3⟩ := HC.out _ _ H3.out
  clear h31 h32 H2
  generalize w2.heap.size = gv at *
  go_wp2_with fail
  refine (nreq o.w o.x o.m w3).mono ?_
  rintro e w4 ⟨rfl, rfl⟩
  go_wp2_with fail
  refine (nholds o.w o.x w3).mono ?_
  rintro e w4 ⟨rfl, rfl⟩
  clear d1 d2 d3
  go_wp2_with fail
  refine wp_region_in (CN w gb A) (by kernel_rfl) (by kernel_rfl) (H3.out.later ((Below.refl _ _).drew)) ?_
  refine wpQuiet_plain rfl (fun K hK => ?_); go_simp; refine hK _ ?_; clear hK K
  refine wpQuiet_plain rfl (fun K hK => ?_); go_simp; refine hK _ ?_; clear hK K
  refine wpQuiet_load rfl 3 (.tmp 37) rfl _ (.int .i64 o.w) rfl (fun y hy => load_num (HC.out y gb hy).1) ?_; simp only [Act.put, Array.setIfInBounds, List.size_toArray, List.length_cons, List.length_nil, Nat.reduceAdd, Nat.reduceLT, ↓reduceDIte, List.set_toArray, List.set_cons_succ, List.set_cons_zero]
  refine wpQuiet_call rfl 9 #[.pointer none, .int .i64 o.w] (.slice none 0 0) ?_ (fun y hC => (nfree o.w y).mono fun e x' h => ⟨h.1, hC.later h.2⟩) ?_; (intro x; go_simp); simp only [Act.put, Array.setIfInBounds, List.size_toArray, List.length_cons, List.length_nil, Nat.reduceAdd, Nat.reduceLT, ↓reduceDIte, List.set_toArray, List.set_cons_succ, List.set_cons_zero]
  refine wpQuiet_plain rfl (fun K hK => ?_); go_simp; refine hK _ ?_; clear hK K
  refine wpQuiet_plain rfl (fun K hK => ?_); go_simp; refine hK _ ?_; clear hK K
  refine wpQuiet_plain rfl (fun K hK => ?_); go_simp; refine hK _ ?_; clear hK K
  refine wpQuiet_load rfl 3 (.tmp 42) rfl _ (.int .i64 o.w) rfl (fun y hy => load_num (HC.out y gb hy).1) ?_; simp only [Act.put, Array.setIfInBounds, List.size_toArray, List.length_cons, List.length_nil, Nat.reduceAdd, Nat.reduceLT, ↓reduceDIte, List.set_toArray, List.set_cons_succ, List.set_cons_zero]
  refine wpQuiet_call rfl 10 #[.pointer none, .int .i64 o.w] (.slice none 0 0) ?_ (fun y hC => (nstop o.w y).mono fun e x' h => ⟨h.1, hC.later h.2⟩) ?_; (intro x; go_simp); simp only [Act.put, Array.setIfInBounds, List.size_toArray, List.length_cons, List.length_nil, Nat.reduceAdd, Nat.reduceLT, ↓reduceDIte, List.set_toArray, List.set_cons_succ, List.set_cons_zero]
  refine wpQuiet_plain rfl (fun K hK => ?_); go_simp; refine hK _ ?_; clear hK K
  refine wpQuiet_plain rfl (fun K hK => ?_); go_simp; refine hK _ ?_; clear hK K
  refine wpQuiet_plain rfl (fun K hK => ?_); go_simp; refine hK _ ?_; clear hK K
  refine wpQuiet_plain rfl (fun K hK => ?_); go_simp; refine hK _ ?_; clear hK K
  refine wpQuiet_load rfl 3 (.tmp 48) rfl _ (.int .i64 o.w) rfl (fun y hy => load_num (HC.out y gb hy).1) ?_; simp only [Act.put, Array.setIfInBounds, List.size_toArray, List.length_cons, List.length_nil, Nat.reduceAdd, Nat.reduceLT, ↓reduceDIte, List.set_toArray, List.set_cons_succ, List.set_cons_zero]
  refine wpQuiet_call rfl 11 #[.pointer none, .int .i64 o.w] (.slice none 0 0) ?_ (fun y hC => (nbehind o.w y).mono fun e x' h => ⟨h.1, hC.later h.2⟩) ?_; (intro x; go_simp); simp only [Act.put, Array.setIfInBounds, List.size_toArray, List.length_cons, List.length_nil, Nat.reduceAdd, Nat.reduceLT, ↓reduceDIte, List.set_toArray, List.set_cons_succ, List.set_cons_zero]
  refine wpQuiet_plain rfl (fun K hK => ?_); go_simp; refine hK _ ?_; clear hK K
  refine wpQuiet_plain rfl (fun K hK => ?_); go_simp; refine hK _ ?_; clear hK K
  refine wpQuiet_plain rfl (fun K hK => ?_); go_simp; refine hK _ ?_; clear hK K
  refine wpQuiet_call rfl 12 #[.pointer none] (.slice none 0 0) ?_ (fun y hC => (nheld  y).mono fun e x' h => ⟨h.1, hC.later h.2⟩) ?_; (intro x; go_simp); simp only [Act.put, Array.setIfInBounds, List.size_toArray, List.length_cons, List.length_nil, Nat.reduceAdd, Nat.reduceLT, ↓reduceDIte, List.set_toArray, List.set_cons_succ, List.set_cons_zero]
  refine wpQuiet_plain rfl (fun K hK => ?_); go_simp; refine hK _ ?_; clear hK K
  refine wpQuiet_plain rfl (fun K hK => ?_); go_simp; refine hK _ ?_; clear hK K
  refine wpQuiet_plain rfl (fun K hK => ?_); go_simp; refine hK _ ?_; clear hK K
  refine wpQuiet_plain rfl (fun K hK => ?_); go_simp; refine hK _ ?_; clear hK K
  refine wpQuiet_load rfl 3 (.tmp 58) rfl _ (.int .i64 o.x) rfl (fun y hy => load_num (HC.out y gb hy).2.1) ?_; simp only [Act.put, Array.setIfInBounds, List.size_toArray, List.length_cons, List.length_nil, Nat.reduceAdd, Nat.reduceLT, ↓reduceDIte, List.set_toArray, List.set_cons_succ, List.set_cons_zero]
  refine wpQuiet_call rfl 13 #[.pointer none, .int .i64 o.x] (.slice none 0 0) ?_ (fun y hC => (nqueue o.x y).mono fun e x' h => ⟨h.1, by rw [← h.2]; exact hC⟩) ?_; (intro x; go_simp); simp only [Act.put, Array.setIfInBounds, List.size_toArray, List.length_cons, List.length_nil, Nat.reduceAdd, Nat.reduceLT, ↓reduceDIte, List.set_toArray, List.set_cons_succ, List.set_cons_zero]
  refine wpQuiet_plain rfl (fun K hK => ?_); go_simp; refine hK _ ?_; clear hK K
  refine wpQuiet_plain rfl (fun K hK => ?_); go_simp; refine hK _ ?_; clear hK K
  refine wpQuiet_plain rfl (fun K hK => ?_); go_simp; refine hK _ ?_; clear hK K
  refine wpQuiet_plain rfl (fun K hK => ?_); go_simp; refine hK _ ?_; clear hK K
  refine wpQuiet_nil ?_
  intro y hy
  have HY := hide hy
  clear hy
  go_wp2
  go_ret
  have hw0 : IntKind.i64.wrap 0 = 0 := by rw [IntKind.wrap_i64]; rfl
  exact ⟨by simp [hw0], HY.out.2⟩
end Go.Proofs.Ytjdabcapphiplab.lockNil
