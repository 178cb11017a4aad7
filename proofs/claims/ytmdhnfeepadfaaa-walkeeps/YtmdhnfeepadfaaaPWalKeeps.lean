/-
  What goes in and comes out is memory of its own. WalKeeps returns true for every input, and its arguments read as before.
  Condition: none but those that the form of every such statement bears by itself (each string within the reach).
-/
import Derived.Test.YtmdhnfeepadfaaaRows
import Derived.ProofKit
import Derived.OpenShut
import Derived.ShutString
import Derived.SizedLaws
import Derived.JoinedCond
import Derived.Test.YtmdhnfeepadfaaaK15
import Derived.Test.YtmdhnfeepadfaaaK03
import Derived.Test.YtmdhnfeepadfaaaK07
import Derived.Test.YtmdhnfeepadfaaaK04

/-
  The walk of WalKeeps. (gen12/keeps.py)
-/
namespace Go.Proofs.Ytmdhnfeepadfaaa.walKeeps
open Go.RowKit
set_option linter.unusedVariables false

set_option maxRecDepth 8000 in
set_option maxHeartbeats 3200000 in
theorem no (r : Rec) (va vb : Value) (w : World) (hin : RcIn w r va vb) (h1 : 100 < r.ts.length ∨ 100 < r.ds.length) :
    Calls Try.prog 3 #[.agg (rcA r va vb)] w fun e w' => e = .returned (.bool true) ∧ Below w.heap.size w w' := by
  obtain ⟨⟨a1, c1, rfl⟩, a2, c2, rfl⟩ := rcF_slices9 hin
  obtain ⟨gR, hgR⟩ : ∃ gR, gR = w.heap.size := ⟨_, rfl⟩
  have hb0 : Below w.heap.size w (w.alloc (.cells (rcA r (.slice a1 r.ts.length c1) (.slice a2 r.ds.length c2)) 28)) := (Below.refl _ _).alloc (Nat.le_refl _) _
  have H0 := hide (show RowAt (w.alloc (.cells (rcA r (.slice a1 r.ts.length c1) (.slice a2 r.ds.length c2)) 28)) gR 28 (rcA r (.slice a1 r.ts.length c1) (.slice a2 r.ds.length c2)) ∧ Below w.heap.size w (w.alloc (.cells (rcA r (.slice a1 r.ts.length c1) (.slice a2 r.ds.length c2)) 28)) from ⟨by rw [hgR]; exact RowAt.new w _ _, hb0⟩)
  have HGR := hide hgR
  clear hb0 hin hgR
  by_cases i1 : (100 : Int) < (r.ts.length : Int)
  · clear h1
    go_enter Try.func3, Try.ntmps3
    go_wp2_with fail
    refine (awake9_any _).mono ?_
    rintro e w1 ⟨rfl, hb1⟩
    have H1 := hide (show RowAt w1 gR 28 (rcA r (.slice a1 r.ts.length c1) (.slice a2 r.ds.length c2)) ∧ Below w.heap.size w w1 from ⟨H0.out.1.later hb1, H0.out.2.trans (hb1.mono H0.out.2.size)⟩)
    rw [← HGR.out]
    clear hb1 H0 HGR
    have c12 := H1.out.1.cell 12 (.slice a1 r.ts.length c1) rfl
    go_wp2_with fail
    refine (awake9_any _).mono ?_
    rintro e w2 ⟨rfl, hb2⟩
    have H2 := hide (H1.out.2.trans (hb2.mono H1.out.2.size))
    clear hb2 H1
    go_wp2
    go_ret
    exact ⟨rfl, H2.out⟩
  · have i2 : (100 : Int) < (r.ds.length : Int) := by omega
    clear h1
    go_enter Try.func3, Try.ntmps3
    go_wp2_with fail
    refine (awake9_any _).mono ?_
    rintro e w1 ⟨rfl, hb1⟩
    have H1 := hide (show RowAt w1 gR 28 (rcA r (.slice a1 r.ts.length c1) (.slice a2 r.ds.length c2)) ∧ Below w.heap.size w w1 from ⟨H0.out.1.later hb1, H0.out.2.trans (hb1.mono H0.out.2.size)⟩)
    rw [← HGR.out]
    clear hb1 H0 HGR
    have c12 := H1.out.1.cell 12 (.slice a1 r.ts.length c1) rfl
    have c13 := H1.out.1.cell 13 (.slice a2 r.ds.length c2) rfl
    go_wp2_with fail
    refine (awake9_any _).mono ?_
    rintro e w2 ⟨rfl, hb2⟩
    have H2 := hide (H1.out.2.trans (hb2.mono H1.out.2.size))
    clear hb2 H1
    go_wp2
    go_ret
    exact ⟨rfl, H2.out⟩
set_option maxRecDepth 8000 in
set_option maxHeartbeats 25600000 in
theorem yes (r : Rec) (va vb : Value) (w : World) (hft : r.fits) (hin : RcIn w r va vb) (h1 : r.ts.length ≤ 100) (h2 : r.ds.length ≤ 100) :
    Calls Try.prog 3 #[.agg (rcA r va vb)] w fun e w' => e = .returned (.bool true) ∧ Below w.heap.size w w' := by
  obtain ⟨⟨a1, c1, rfl⟩, a2, c2, rfl⟩ := rcF_slices9 hin
  obtain ⟨gR, hgR⟩ : ∃ gR, gR = w.heap.size := ⟨_, rfl⟩
  have hb0 : Below w.heap.size w (w.alloc (.cells (rcA r (.slice a1 r.ts.length c1) (.slice a2 r.ds.length c2)) 28)) := (Below.refl _ _).alloc (Nat.le_refl _) _
  have H0 := hide (show RowAt (w.alloc (.cells (rcA r (.slice a1 r.ts.length c1) (.slice a2 r.ds.length c2)) 28)) gR 28 (rcA r (.slice a1 r.ts.length c1) (.slice a2 r.ds.length c2)) ∧ Below w.heap.size w (w.alloc (.cells (rcA r (.slice a1 r.ts.length c1) (.slice a2 r.ds.length c2)) 28)) from ⟨by rw [hgR]; exact RowAt.new w _ _, hb0⟩)
  have HGR := hide hgR
  have HIN := hide (And.intro hft hin)
  have HALL := hide (show (rcA r (.slice a1 r.ts.length c1) (.slice a2 r.ds.length c2)).all (·.oneCell') = true from rcF_all (r, (.slice a1 r.ts.length c1), (.slice a2 r.ds.length c2)) ⟨_, _, rfl⟩ ⟨_, _, rfl⟩)
  have i1 : ¬ (100 : Int) < (r.ts.length : Int) := by omega
  have i2 : ¬ (100 : Int) < (r.ds.length : Int) := by omega
  clear hb0 hin hgR hft
  go_enter Try.func3, Try.ntmps3
  go_wp2_with fail
  refine (awake9_any _).mono ?_
  rintro e w1 ⟨rfl, hb1⟩
  have H1 := hide (show RowAt w1 gR 28 (rcA r (.slice a1 r.ts.length c1) (.slice a2 r.ds.length c2)) ∧ Below w.heap.size w w1 from ⟨H0.out.1.later hb1, H0.out.2.trans (hb1.mono H0.out.2.size)⟩)
  rw [← HGR.out]
  clear hb1 H0
  have c12 := H1.out.1.cell 12 (.slice a1 r.ts.length c1) rfl
  have c13 := H1.out.1.cell 13 (.slice a2 r.ds.length c2) rfl
  go_wp2_with fail
  refine (knew8 65536 w w1 H1.out.2).mono ?_
  rintro e w2 ⟨rfl, h2', hb2⟩
  obtain ⟨gt, hgt⟩ : ∃ gt, gt = w1.heap.size := ⟨_, rfl⟩
  have H2 := hide (show K8 w w2 gt (Tp.new 65536) ∧ RowAt w2 gR 28 (rcA r (.slice a1 r.ts.length c1) (.slice a2 r.ds.length c2)) from ⟨by rw [hgt]; exact h2', H1.out.1.later hb2⟩)
  rw [← hgt]
  clear hgt h2' hb2 H1 c12 c13
  obtain ⟨gb0, hgb0, ht0⟩ := H2.out.1.tp
  have hap := ht0.apart H2.out.2 (by decide) (by decide)
  have HOP := hide (kopen9 (Is gR) w2 w w2 gt gb0 (Tp.new 65536) 9 ht0 H2.out.1.ok H2.out.1.low hgb0 ⟨fun e => hap.1 (show gt = gR from e).symm, fun e => hap.2 (show gb0 = gR from e).symm⟩ (fun k hk => ⟨by rw [show k = gR from hk]; exact H2.out.2.lt, rfl⟩) H2.out.1.bel (by decide))
  clear hap hgb0 ht0
  go_wp2_with fail
  refine HOP.out.mono ?_
  rintro e w3 ⟨gl, rfl, h3⟩
  obtain ⟨F, ⟨gc, gb, a, cap, ms, wa, wc, hL, rfl⟩, hFP⟩ := h3.la
  have hgl := open_new 65536 9
  have hok := h3.ok
  have hst := h3.stay gR rfl
  have hbl := h3.bel
  obtain ⟨g, hg⟩ : ∃ g, g = Lg.open (Tp.new 65536) 9 := ⟨_, rfl⟩
  rw [← hg] at hL hgl hok
  have hms : ms = [] := by
    have e := hL.same
    rw [hgl] at e
    simpa [msR] using e
  subst hms
  have H3 := hide (show LV w.heap.size w3 gl gc gt gb a cap [] wa wc (framesB (g.l.drop g.on)) g ∧ g.ok ∧ g.l = [] ∧ RowAt w3 gR 28 (rcA r (.slice a1 r.ts.length c1) (.slice a2 r.ds.length c2)) ∧ Below w.heap.size w w3 ∧ (∀ k, FC gl gc gt gb a wa k → k ≠ gR) from ⟨hL, hok, hgl, hst.2.trans H2.out.2, hbl, fun k hk e => hFP k hk e⟩)
  clear hL hgl hok hst hbl hFP h3 hg H2 HOP
  go_wp2_with (with_reducible refine stop_at 37 rfl ?_)
  refine unstop10 ?_
  refine lst_load (some 37) (.agg (rcA r (.slice a1 r.ts.length c1) (.slice a2 r.ds.length c2))) rfl rfl 28 _ rfl (.pointer (some ⟨gR, 0, none⟩)) rfl (load_row _ H3.out.2.2.2.1 Try.underlying28 rfl infoRc) ?_
  try simp only [Act.put, List.setIfInBounds_toArray, List.set_cons_zero, List.set_cons_succ]
  refine lst_run (some 5) rfl rfl (.pointer (some ⟨w3.heap.size, 0, none⟩)) (w3.alloc (.cells zeroA 28)) ?hz ?_
  (case hz => go_simp; try rfl)
  try simp only [Act.put, List.setIfInBounds_toArray, List.set_cons_zero, List.set_cons_succ]
  refine wpList_store_part rfl 28 (.tmp 5) (.tmp 37) rfl w3.heap.size 0 28 zeroA (rcA r (.slice a1 r.ts.length c1) (.slice a2 r.ds.length c2)) rfl rfl (RowAt.new _ _ _) infoRc (by simp [zeroA, rcA]) HALL.out ?_
  intro w4 h4 hO4
  rw [partA_all zeroA (rcA r (.slice a1 r.ts.length c1) (.slice a2 r.ds.length c2)) (by simp [zeroA, rcA])] at h4
  have hb4 : Below w3.heap.size w3 w4 := hO4.below ((Below.refl _ _).alloc (Nat.le_refl _) _) (Nat.le_refl _)
  obtain ⟨gO, hgO⟩ : ∃ gO, gO = w3.heap.size := ⟨_, rfl⟩
  rw [← hgO] at h4 ⊢
  have x1 := h4.cell 1 (.int .u64 (r.l : Int)) rfl
  have f1 := h4.free 1
  have hb5 : Below w3.heap.size w3 (w4.setCell ⟨gO, 1, none⟩ (.int .u64 0)) := hb4.setCell (by rw [hgO]; exact Nat.le_refl _) _
  have h5 : RowAt (w4.setCell ⟨gO, 1, none⟩ (.int .u64 0)) gO 28 (rcA (r.put 0) (.slice a1 r.ts.length c1) (.slice a2 r.ds.length c2)) := h4.set 1 _
  have H5 := hide (And.intro h5 (And.intro hb5 hgO))
  clear h4 hO4 hb4 h5 hb5 hgO
  go_wp2_with (with_reducible refine stop_at 39 rfl ?_)
  obtain ⟨w5, hw5⟩ : ∃ w5, w5 = w4.setCell ⟨gO, 1, none⟩ (.int .u64 0) := ⟨_, rfl⟩
  rw [← hw5] at H5 ⊢
  clear hw5 x1 f1
  refine unstop10 ?_
  have hin5 := HIN.out.2.below (H3.out.2.2.2.2.1.trans (H5.out.2.1.mono H3.out.2.2.2.2.1.size))
  have he1 := RowAt.new w5 39 #[]
  have hbe1 : Below w5.heap.size w5 (w5.alloc (.cells #[] 39)) := (Below.refl _ _).alloc (Nat.le_refl _) _
  obtain ⟨u1, d1, y1, q1, o1, g1⟩ := run_append_base txA Tx.zero 5 (fun _ => rfl) (by decide) (P := Try.prog) (w5.alloc (.cells #[] 39)) w5.heap.size 25 25 39 _ 40 Try.underlying25 infoTx3 rfl he1 (.slice a1 r.ts.length c1) r.ts (hin5.below hbe1).1 (fun m _ u hu => by have := txA_one m; rw [Array.all_eq_true'] at this; exact this u (by simpa using hu)) (by unfold maxLen; omega) (by omega)
  refine lst_run (some 39) rfl rfl (.slice (some ⟨w5.heap.size, 0, none⟩) 0 0) (w5.alloc (.cells #[] 39)) ?hz ?_
  (case hz => go_simp)
  try simp only [Act.put, List.setIfInBounds_toArray, List.set_cons_zero, List.set_cons_succ]
  refine lst_val (some 40) (.pointer (some ⟨gR, 12, none⟩)) rfl rfl (by go_simp) ?_
  try simp only [Act.put, List.setIfInBounds_toArray, List.set_cons_zero, List.set_cons_succ]
  refine lst_val (some 41) (.slice a1 r.ts.length c1) rfl rfl (by have h : World.cell? (w5.alloc (.cells #[] 39)) ⟨gR, 12, none⟩ = some (.slice a1 r.ts.length c1) := ((H3.out.2.2.2.1.later H5.out.2.1).later hbe1).cell 12 _ rfl; go_simp) ?_
  try simp only [Act.put, List.setIfInBounds_toArray, List.set_cons_zero, List.set_cons_succ]
  refine lst_run (some 42) rfl rfl (.slice u1 r.ts.length d1) y1 (exec_append9 _ _ _ _ rfl _ _ rfl rfl q1) ?_
  try simp only [Act.put, List.setIfInBounds_toArray, List.set_cons_zero, List.set_cons_succ]
  have ne1 : gO ≠ w5.heap.size := Nat.ne_of_lt H5.out.1.lt
  have r1 : RowAt y1 gO 28 (rcA (r.put 0) (.slice a1 r.ts.length c1) (.slice a2 r.ds.length c2)) := (g1.block gO (by rw [World.size_alloc]; have := H5.out.1.lt; omega) (fun e => ne1 (Option.some.inj e))).trans (H5.out.1.later hbe1)
  have hb6 : Below w3.heap.size w3 y1 := Below.grown (H5.out.2.1.trans (hbe1.mono H5.out.2.1.size)) g1 (Nat.le_trans H5.out.2.1.size hbe1.size) (fun k hk => by rw [← Option.some.inj hk]; exact H5.out.2.1.size)
  have x12 := r1.cell 12 (.slice a1 r.ts.length c1) rfl
  have f12 := r1.free 12
  have hb7 : Below w3.heap.size w3 (y1.setCell ⟨gO, 12, none⟩ (.slice u1 r.ts.length d1)) := hb6.setCell (by rw [H5.out.2.2]; exact Nat.le_refl _) _
  have h7 : RowAt (y1.setCell ⟨gO, 12, none⟩ (.slice u1 r.ts.length d1)) gO 28 (rcA (r.put 0) (.slice u1 r.ts.length d1) (.slice a2 r.ds.length c2)) := r1.set 12 _
  have o7 : (y1.setCell ⟨gO, 12, none⟩ (.slice u1 r.ts.length d1)).ownsRow w5.heap.size 39 5 (.slice u1 r.ts.length d1) r.ts.length (flatT r.ts) := own_kept o1 (fun k cs hk => hk.other _ _ (fun e => by
    rw [show k = gO from e] at hk
    exact absurd (row_kind hk r1) (by decide)))
  have H7 := hide (And.intro h7 (And.intro hb7 (And.intro o7 (show w3.heap.size ≤ w5.heap.size from H5.out.2.1.size))))
  have HGO := hide H5.out.2.2
  clear he1 hbe1 q1 o1 g1 ne1 r1 hb6 hb7 h7 o7 H5 hin5
  go_wp2_with (with_reducible refine stop_at 44 rfl ?_)
  obtain ⟨w7, hw7⟩ : ∃ w7, w7 = y1.setCell ⟨gO, 12, none⟩ (.slice u1 r.ts.length d1) := ⟨_, rfl⟩
  rw [← hw7] at H7 ⊢
  obtain ⟨b5, hb5⟩ : ∃ b5, b5 = w5.heap.size := ⟨_, rfl⟩
  rw [← hb5] at H7
  clear hw7 x12 f12 hb5
  refine unstop10 ?_
  have hin7 := HIN.out.2.below (H3.out.2.2.2.2.1.trans (H7.out.2.1.mono H3.out.2.2.2.2.1.size))
  have he2 := RowAt.new w7 41 #[]
  have hbe2 : Below w7.heap.size w7 (w7.alloc (.cells #[] 41)) := (Below.refl _ _).alloc (Nat.le_refl _) _
  obtain ⟨u2, d2, y2, q2, o2, g2⟩ := run_append_base diA Di.zero 2 (fun _ => rfl) (by decide) (P := Try.prog) (w7.alloc (.cells #[] 41)) w7.heap.size 26 26 41 _ 16 Try.underlying26 infoDi3 rfl he2 (.slice a2 r.ds.length c2) r.ds (hin7.below hbe2).2 (fun m _ u hu => by have := diA_one m; rw [Array.all_eq_true'] at this; exact this u (by simpa using hu)) (by unfold maxLen; omega) (by omega)
  refine lst_run (some 44) rfl rfl (.slice (some ⟨w7.heap.size, 0, none⟩) 0 0) (w7.alloc (.cells #[] 41)) ?hz ?_
  (case hz => go_simp)
  try simp only [Act.put, List.setIfInBounds_toArray, List.set_cons_zero, List.set_cons_succ]
  refine lst_val (some 45) (.pointer (some ⟨gR, 13, none⟩)) rfl rfl (by go_simp) ?_
  try simp only [Act.put, List.setIfInBounds_toArray, List.set_cons_zero, List.set_cons_succ]
  refine lst_val (some 46) (.slice a2 r.ds.length c2) rfl rfl (by have h : World.cell? (w7.alloc (.cells #[] 41)) ⟨gR, 13, none⟩ = some (.slice a2 r.ds.length c2) := ((H3.out.2.2.2.1.later H7.out.2.1).later hbe2).cell 13 _ rfl; go_simp) ?_
  try simp only [Act.put, List.setIfInBounds_toArray, List.set_cons_zero, List.set_cons_succ]
  refine lst_run (some 47) rfl rfl (.slice u2 r.ds.length d2) y2 (exec_append9 _ _ _ _ rfl _ _ rfl rfl q2) ?_
  try simp only [Act.put, List.setIfInBounds_toArray, List.set_cons_zero, List.set_cons_succ]
  have ne2 : gO ≠ w7.heap.size := Nat.ne_of_lt H7.out.1.lt
  have r2 : RowAt y2 gO 28 (rcA (r.put 0) (.slice u1 r.ts.length d1) (.slice a2 r.ds.length c2)) := (g2.block gO (by rw [World.size_alloc]; have := H7.out.1.lt; omega) (fun e => ne2 (Option.some.inj e))).trans (H7.out.1.later hbe2)
  have hb8 : Below w3.heap.size w3 y2 := Below.grown (H7.out.2.1.trans (hbe2.mono H7.out.2.1.size)) g2 (Nat.le_trans H7.out.2.1.size hbe2.size) (fun k hk => by rw [← Option.some.inj hk]; exact H7.out.2.1.size)
  have x13 := r2.cell 13 (.slice a2 r.ds.length c2) rfl
  have f13 := r2.free 13
  have hb9 : Below w3.heap.size w3 (y2.setCell ⟨gO, 13, none⟩ (.slice u2 r.ds.length d2)) := hb8.setCell (by rw [HGO.out]; exact Nat.le_refl _) _
  have h9 : RowAt (y2.setCell ⟨gO, 13, none⟩ (.slice u2 r.ds.length d2)) gO 28 (rcA (r.put 0) (.slice u1 r.ts.length d1) (.slice u2 r.ds.length d2)) := r2.set 13 _
  have gk : ∀ {t : TypeId}, t ≠ 28 → ∀ k cs, RowAt y2 k t cs → RowAt (y2.setCell ⟨gO, 13, none⟩ (.slice u2 r.ds.length d2)) k t cs := fun ht k cs hk => hk.other _ _ (fun e => by
    rw [show k = gO from e] at hk
    exact ht (row_kind hk r2))
  have o9 : (y2.setCell ⟨gO, 13, none⟩ (.slice u2 r.ds.length d2)).ownsRow w7.heap.size 41 2 (.slice u2 r.ds.length d2) r.ds.length (flatD r.ds) := own_kept o2 (gk (by decide))
  have o8 : (y2.setCell ⟨gO, 13, none⟩ (.slice u2 r.ds.length d2)).ownsRow b5 39 5 (.slice u1 r.ts.length d1) r.ts.length (flatT r.ts) := own_kept H7.out.2.2.1 (fun k cs hk => gk (by decide) k cs ((g2.block k (by rw [World.size_alloc]; have := hk.lt; omega) (fun e => Nat.ne_of_lt hk.lt (Option.some.inj e))).trans (hk.later hbe2)))
  have H9 := hide (show RowAt (y2.setCell ⟨gO, 13, none⟩ (.slice u2 r.ds.length d2)) gO 28 (rcA (r.put 0) (.slice u1 r.ts.length d1) (.slice u2 r.ds.length d2)) ∧ Below w3.heap.size w3 (y2.setCell ⟨gO, 13, none⟩ (.slice u2 r.ds.length d2)) ∧ GotIn w3.heap.size (y2.setCell ⟨gO, 13, none⟩ (.slice u2 r.ds.length d2)) (r.put 0) (.slice u1 r.ts.length d1) (.slice u2 r.ds.length d2) from ⟨h9, hb9, own_low o8 H7.out.2.2.2, own_low o9 H7.out.2.1.size⟩)
  clear he2 hbe2 q2 o2 g2 ne2 r2 hb8 hb9 h9 o8 o9 gk H7 hin7
  have HLD : Hid ((Instr.loadAt 28 (.pointer (some ⟨gO, 0, none⟩))).run Try.prog (y2.setCell ⟨gO, 13, none⟩ (.slice u2 r.ds.length d2)) = .ok (.agg (rcA (r.put 0) (.slice u1 r.ts.length d1) (.slice u2 r.ds.length d2))) (y2.setCell ⟨gO, 13, none⟩ (.slice u2 r.ds.length d2))) := hide (load_row _ H9.out.1 Try.underlying28 rfl infoRc)
  go_wp2_with (refine wpList_load_val rfl 28 (.tmp 5) rfl _ _ rfl HLD.out ?_)
  clear HLD x13 f13
  obtain ⟨w9, hw9⟩ : ∃ w9, w9 = y2.setCell ⟨gO, 13, none⟩ (.slice u2 r.ds.length d2) := ⟨_, rfl⟩
  rw [← hw9] at H9 ⊢
  clear hw9
  have hft0 : (r.put 0).fits := ⟨HIN.out.1.c, HIN.out.1.tl, HIN.out.1.dl, HIN.out.1.ts, HIN.out.1.ds⟩
  refine (app9_new w9 (r.put 0) (.slice u1 r.ts.length d1) (.slice u2 r.ds.length d2) 0 0 (H3.out.1.later H9.out.2.1) H3.out.2.1 rfl rfl (by decide) (by decide) hft0 (RcK.got H9.out.2.2) (by decide)).mono ?_
  rintro e w10 ⟨rfl, hA, hN⟩
  by_cases hE : g.appE (r.put 0) 0 0 = 0
  · obtain ⟨n, hn⟩ : ∃ n, n = g.num 0 := ⟨_, rfl⟩
    obtain ⟨gc', gb', a', cap', ua, ub, wa', wc', hL', hl1, hl2⟩ := hN hE
    obtain ⟨F', -, hT', -⟩ := hA
    have e1 := (g.app_yes (r.put 0) 0 0 hE).2
    have e2 := app_one g H3.out.2.1 (r.put 0) 0 0 hE H3.out.2.2.1
    have hok' := g.app_ok H3.out.2.1 (r.put 0) 0 0
    rw [← hn] at e1 e2 hL'
    rw [e1, hE]
    obtain ⟨g', hg'⟩ : ∃ g', g' = g.app (r.put 0) 0 0 := ⟨_, rfl⟩
    rw [← hg'] at e2 hL' hok'
    have hF3 : ∀ k, FC gl gc gt gb a wa k → k < w3.heap.size := fun k hk => (H3.out.1.loose k hk).2.1
    have hT9 : ∀ {t : TypeId}, (t = 39 ∨ t = 41) → ∀ k cs, RowAt w9 k t cs → RowAt w10 k t cs := fun ht k cs hk => hT'.row hk (fun hF => by
      have := ((H3.out.1.later H9.out.2.1).loose k hF).2.2 _ cs hk
      rcases ht with ht | ht
      · exact this.1 ht
      · exact this.2 ht)
    have hgot : GotIn w3.heap.size w10 (r.put 0) (.slice u1 r.ts.length d1) (.slice u2 r.ds.length d2) := H9.out.2.2.kept (fun k t cs ht hk => hT9 ht k cs hk)
    have hm1 := (Mine.own H9.out.2.2.1)
    have hm2 := (Mine.own H9.out.2.2.2)
    have hRck := (hL'.recs.2 _ (List.mem_singleton.2 rfl)).2
    have HK := hide (show KP w.heap.size w gl gt gR gO w3.heap.size w9.heap.size w10.heap.size (r.put n) r (.slice a1 r.ts.length c1) (.slice a2 r.ds.length c2) (.slice u1 r.ts.length d1) (.slice u2 r.ds.length d2) g' w10 from
      ⟨⟨gc', gb', a', cap', ua, ub, wa', wc', hL', fun b off m c e hm => ⟨hl1 b off m c e hm, (hRck.tx b off m c e hm).1⟩, fun b off m c e hm => ⟨hl2 b off m c e hm, (hRck.di b off m c e hm).1⟩, fun k hk => (hL'.loose k hk).2.1⟩, hok',
        hT'.row (H3.out.2.2.2.1.later H9.out.2.1) (fun hF => H3.out.2.2.2.2.2 gR hF rfl), hT'.row H9.out.1 (fun hF => by have := hF3 gO hF; rw [HGO.out] at this; omega),
        hm1.keep (hT9 (.inl rfl)), hm2.keep (hT9 (.inr rfl)), H3.out.2.2.2.2.1.size, H3.out.2.2.2.2.1.trans ((H9.out.2.1.mono H3.out.2.2.2.2.1.size).trans (hT'.below (fun k hk => (H3.out.1.loose k hk).1) (Nat.le_trans H3.out.2.2.2.2.1.size H9.out.2.1.size))), Nat.le_refl _⟩)
    have HU1 := hide (show 0 < r.ts.length → ∃ b, u1 = some ⟨b, 0, none⟩ from fun hp => by
      obtain ⟨b, c, e, -⟩ := own_slice hgot.1 hp
      injection e with e
      exact ⟨b, e⟩)
    have HU2 := hide (show 0 < r.ds.length → ∃ b, u2 = some ⟨b, 0, none⟩ from fun hp => by
      obtain ⟨b, c, e, -⟩ := own_slice hgot.2 hp
      injection e with e
      exact ⟨b, e⟩)
    have HG' := hide (And.intro e2 (And.intro hn hg'))
    have HW := hide (show w3.heap.size ≤ w9.heap.size ∧ w9.heap.size ≤ w10.heap.size ∧ gR < w3.heap.size ∧ gO < w10.heap.size from ⟨H9.out.2.1.size, hT'.size, H3.out.2.2.2.1.lt, HK.out.own.lt⟩)
    clear hL' hl1 hl2 hT' e1 e2 hok' hF3 hT9 hgot hm1 hm2 hRck hn hg' hE hN H9 H3 hft0
    have k12 := HK.out.own.cell 12 (.slice u1 r.ts.length d1) rfl
    obtain ⟨lt, hlt⟩ : ∃ lt, lt = r.ts.length := ⟨_, rfl⟩
    obtain ⟨ld, hld⟩ : ∃ ld, ld = r.ds.length := ⟨_, rfl⟩
    rw [← hlt] at k12
    go_wp2
    go_loopw [62] (fun i wr => ∃ j : Nat, j ≤ lt ∧ i = .int .i64 (j : Int) ∧ Hid (KP w.heap.size w gl gt gR gO w3.heap.size w9.heap.size w10.heap.size (r.put n) r (.slice a1 r.ts.length c1) (.slice a2 r.ds.length c2) (.slice u1 r.ts.length d1) (.slice u2 r.ds.length d2) g' wr)) (fun i _ => lt - (intOf i).toNat)
    case atStart => exact ⟨0, Nat.zero_le _, rfl, HK⟩
    case round =>
      obtain ⟨j, hj, rfl, HJ⟩ := hrel
      clear HK
      by_cases hlt2 : j < lt
      · have ij : (j : Int) < (lt : Int) := by omega
        obtain ⟨b, rfl⟩ := HU1.out (by omega)
        obtain ⟨-, hlo, hhi, cs, hrow, hsz⟩ := HJ.out.tx b 0 _ _ rfl (by omega)
        obtain ⟨u0, hu0⟩ : ∃ u0, cs[j * 5]? = some u0 := ⟨_, Array.getElem?_eq_getElem (by rw [← hlt] at hsz; omega)⟩
        have x0 := hrow.cell (j * 5) u0 hu0
        have f0 := hrow.free (j * 5)
        have k0 := HJ.out.own.cell 12 (.slice (some ⟨b, 0, none⟩) r.ts.length d1) rfl
        rw [← hlt] at k0
        have HJ2 := hide (HJ.out.write (j := j * 5) (u := .int .i64 (-1)) hrow (.inl rfl) (Nat.le_trans HJ.out.low hlo) (.inl hhi))
        clear hrow hsz hu0
        go_wp2
        go_roundw
        case rel => exact ⟨j + 1, by omega, by go_num, HJ2⟩
        case measure => simp [intOf]; omega
      · have ij : ¬ (j : Int) < (lt : Int) := by omega
        have k13 := HJ.out.own.cell 13 (.slice u2 r.ds.length d2) rfl
        rw [← hld] at k13
        have HK2 := HJ
        clear HJ
        go_wp2
        go_loopw [74] (fun i wr => ∃ j : Nat, j ≤ ld ∧ i = .int .i64 (j : Int) ∧ Hid (KP w.heap.size w gl gt gR gO w3.heap.size w9.heap.size w10.heap.size (r.put n) r (.slice a1 r.ts.length c1) (.slice a2 r.ds.length c2) (.slice u1 r.ts.length d1) (.slice u2 r.ds.length d2) g' wr)) (fun i _ => ld - (intOf i).toNat)
        case atStart => exact ⟨0, Nat.zero_le _, rfl, HK2⟩
        case round =>
          obtain ⟨j, hj, rfl, HJ⟩ := hrel
          clear HK2
          by_cases hlt2 : j < ld
          · have ij : (j : Int) < (ld : Int) := by omega
            obtain ⟨b, rfl⟩ := HU2.out (by omega)
            obtain ⟨-, hlo, hhi, cs, hrow, hsz⟩ := HJ.out.di b 0 _ _ rfl (by omega)
            obtain ⟨u0, hu0⟩ : ∃ u0, cs[j * 2]? = some u0 := ⟨_, Array.getElem?_eq_getElem (by rw [← hld] at hsz; omega)⟩
            have x0 := hrow.cell (j * 2) u0 hu0
            have f0 := hrow.free (j * 2)
            have k0 := HJ.out.own.cell 13 (.slice (some ⟨b, 0, none⟩) r.ds.length d2) rfl
            rw [← hld] at k0
            have HJ2 := hide (HJ.out.write (j := j * 2) (u := .int .i64 (-1)) hrow (.inr rfl) (Nat.le_trans HJ.out.low hlo) (.inl hhi))
            clear hrow hsz hu0
            go_wp2
            go_roundw
            case rel => exact ⟨j + 1, by omega, by go_num, HJ2⟩
            case measure => simp [intOf]; omega
          · have ij : ¬ (j : Int) < (ld : Int) := by omega
            go_wp2_with (with_reducible refine stop_at 83 rfl ?_)
            refine unstop10 ?_
            refine lst_load (some 83) (.agg (rcA r (.slice a1 r.ts.length c1) (.slice a2 r.ds.length c2))) rfl rfl 28 _ rfl (.pointer (some ⟨gR, 0, none⟩)) rfl (load_row _ HJ.out.inp Try.underlying28 rfl infoRc) ?_
            try simp only [Act.put, List.setIfInBounds_toArray, List.set_cons_zero, List.set_cons_succ]
            refine lst_run (some 10) rfl rfl (.pointer (some ⟨wr.heap.size, 0, none⟩)) (wr.alloc (.cells zeroA 28)) ?hz ?_
            (case hz => go_simp; try rfl)
            try simp only [Act.put, List.setIfInBounds_toArray, List.set_cons_zero, List.set_cons_succ]
            refine wpList_store_part rfl 28 (.tmp 10) (.tmp 83) rfl wr.heap.size 0 28 zeroA (rcA r (.slice a1 r.ts.length c1) (.slice a2 r.ds.length c2)) rfl rfl (RowAt.new _ _ _) infoRc (by simp [zeroA, rcA]) HALL.out ?_
            intro w12 h4 hO4
            rw [partA_all zeroA (rcA r (.slice a1 r.ts.length c1) (.slice a2 r.ds.length c2)) (by simp [zeroA, rcA])] at h4
            have hb4 : Below wr.heap.size wr w12 := hO4.below ((Below.refl _ _).alloc (Nat.le_refl _) _) (Nat.le_refl _)
            obtain ⟨gW, hgO⟩ : ∃ gO, gO = wr.heap.size := ⟨_, rfl⟩
            rw [← hgO] at h4 ⊢
            have x1 := h4.cell 1 (.int .u64 (r.l : Int)) rfl
            have f1 := h4.free 1
            have hb5 : Below wr.heap.size wr (w12.setCell ⟨gW, 1, none⟩ (.int .u64 (n : Int))) := hb4.setCell (by rw [hgO]; exact Nat.le_refl _) _
            have hBw : w.heap.size ≤ wr.heap.size := HJ.out.bel.size
            have H13 := hide (show KP w.heap.size w gl gt gR gO w3.heap.size w9.heap.size w10.heap.size (r.put n) r (.slice a1 r.ts.length c1) (.slice a2 r.ds.length c2) (.slice u1 r.ts.length d1) (.slice u2 r.ds.length d2) g' (w12.setCell ⟨gW, 1, none⟩ (.int .u64 (n : Int))) ∧ RowAt (w12.setCell ⟨gW, 1, none⟩ (.int .u64 (n : Int))) gW 28 (rcA (r.put n) (.slice a1 r.ts.length c1) (.slice a2 r.ds.length c2)) from ⟨HJ.out.later hBw hb5, h4.set 1 _⟩)
            clear h4 hO4 hb4 hb5 hgO HJ
            go_wp2_with fail
            obtain ⟨w13, hw13⟩ : ∃ w13, w13 = w12.setCell ⟨gW, 1, none⟩ (.int .u64 (n : Int)) := ⟨_, rfl⟩
            rw [← hw13] at H13 ⊢
            clear hw13 x1 f1
            obtain ⟨gc2, gb2, aa, capa, ua2, ub2, wa2, wc2, hL2, -, -, -⟩ := H13.out.1.lv
            have HRC := hide (recs9_any w13 hL2 H13.out.1.ok)
            clear hL2
            refine HRC.out.mono ?_
            rintro e w14 ⟨ga, ns, rfl, hRI⟩
            have hlen : g'.l.length = 1 := by rw [HG'.out.1.1]; rfl
            rw [hlen] at hRI ⊢
            obtain ⟨m, rfl⟩ : ∃ m, ns = [m] := by
              have e := hRI.len
              match ns, e with
              | [m], _ => exact ⟨m, rfl⟩
            have hm1 : m.1 = r.put n := by
              have e := hRI.same
              rw [HG'.out.1.1] at e
              have e2 : [m.1] = [(r.put 0).put n] := e
              injection e2
            have hgot := hRI.got m (List.mem_singleton.2 rfl)
            have hcell := hRI.cell 0 (by omega)
            obtain ⟨cs, hrow, hcs⟩ := hRI.row
            have hB13 : w.heap.size ≤ w13.heap.size := H13.out.1.bel.size
            obtain ⟨⟨u3, d3, e3⟩, u4, d4, e4⟩ := rcF_slices9 hgot.2.rc
            rw [hm1] at e3 e4
            have H14 := hide (show KA w.heap.size w gl gt gR gO w3.heap.size w9.heap.size w10.heap.size (r.put n) r (.slice a1 r.ts.length c1) (.slice a2 r.ds.length c2) (.slice u1 r.ts.length d1) (.slice u2 r.ds.length d2) g' gW ga w13.heap.size w14.heap.size m w14 from
              ⟨H13.out.1.later hB13 hRI.bel, H13.out.2.later hRI.bel, ⟨cs, hrow, fun j u hu => by
                have hc := hcell j u (by rw [Array.getElem?_toList]; exact hu)
                rw [Nat.zero_mul, Nat.zero_add] at hc
                rw [cell_of_row _ _ _ _ _ _ hrow] at hc
                exact hc⟩, (Mine.own hgot.2.1), H13.out.1.big, hB13⟩)
            have HM := hide (show m.1 = r.put n ∧ m.1.fits ∧ GotIn w13.heap.size w14 m.1 m.2.1 m.2.2 ∧ m.2.1 = .slice u3 r.ts.length d3 ∧ w13.heap.size ≤ ga ∧ w14.rangeAt ga 0 (rcF m).toList ∧ gW < w13.heap.size ∧ ga < w14.heap.size from ⟨hm1, hgot.1, hgot.2, e3, hRI.low, fun j u hu => by have := hcell j u hu; rwa [Nat.zero_mul] at this, H13.out.2.lt, hrow.lt⟩)
            have HRW := hide (show RcIn w14 (r.put n) (.slice a1 r.ts.length c1) (.slice a2 r.ds.length c2) from (HIN.out.2.below (H14.out.kp.bel)))
            have HU3 := hide (show 0 < r.ts.length → ∃ b, u3 = some ⟨b, 0, none⟩ from fun hp => by
              obtain ⟨b, c, e, -⟩ := own_slice hgot.2.1 (by rw [hm1]; exact hp)
              rw [e3] at e
              injection e with e
              exact ⟨b, e⟩)
            have HB14 := hide (show w.heap.size ≤ w14.heap.size from Nat.le_trans hB13 hRI.bel.size)
            clear hRI hgot hcell hrow hcs H13 HRC hm1 e3 e4 hlen
            go_wp2_with fail
            refine wp_region_noPanic ?_
            refine wp_region_held_drew (S := (fun x => Below w14.heap.size w14 x)) (by kernel_rfl) (below_dn (Below.refl _ _) 1) (fun hHeld => ?_)
            refine tkk 0 (some 88) (.slice (some ⟨ga, 0, none⟩) 1 1) rfl rfl (by kernel_rfl) (by kernel_rfl) (fun x hSx => by go_simp) hHeld ?_
            try simp only [Act.put, List.setIfInBounds_toArray, List.set_cons_zero, List.set_cons_succ]
            refine tkk 1 (some 89) (.int .i64 1) rfl rfl (by kernel_rfl) (by kernel_rfl) (fun x hSx => by go_simp) hHeld ?_
            try simp only [Act.put, List.setIfInBounds_toArray, List.set_cons_zero, List.set_cons_succ]
            refine tkk 2 (some 90) (.bool false) rfl rfl (by kernel_rfl) (by kernel_rfl) (fun x hSx => by go_simp) hHeld ?_
            try simp only [Act.put, List.setIfInBounds_toArray, List.set_cons_zero, List.set_cons_succ]
            refine tkk 3 (some 91) (.bool false) rfl rfl (by kernel_rfl) (by kernel_rfl) (fun x hSx => by go_simp) hHeld ?_
            try simp only [Act.put, List.setIfInBounds_toArray, List.set_cons_zero, List.set_cons_succ]
            refine tkk 4 (some 92) (.slice (some ⟨ga, 0, none⟩) 1 1) rfl rfl (by kernel_rfl) (by kernel_rfl) (fun x hSx => by go_simp) hHeld ?_
            try simp only [Act.put, List.setIfInBounds_toArray, List.set_cons_zero, List.set_cons_succ]
            refine tkk 5 (some 93) (.pointer (some ⟨ga, 0, none⟩)) rfl rfl (by kernel_rfl) (by kernel_rfl) (fun x hSx => by go_simp) hHeld ?_
            try simp only [Act.put, List.setIfInBounds_toArray, List.set_cons_zero, List.set_cons_succ]
            refine tkk 6 (some 94) (.agg (rcF m)) rfl rfl (by kernel_rfl) (by kernel_rfl) (fun x hSx => exec_load 28 _ rfl (.pointer (some ⟨ga, 0, none⟩)) rfl _ (load_mid x ga 0 m (rangeAt_below HM.out.2.2.2.2.2.1 hSx HM.out.2.2.2.2.2.2.2))) hHeld ?_
            try simp only [Act.put, List.setIfInBounds_toArray, List.set_cons_zero, List.set_cons_succ]
            refine tkk 7 (some 95) (.agg (rcA (r.put n) (.slice a1 r.ts.length c1) (.slice a2 r.ds.length c2))) rfl rfl (by kernel_rfl) (by kernel_rfl) (fun x hSx => exec_load 28 _ rfl (.pointer (some ⟨gW, 0, none⟩)) rfl _ (load_row x (H14.out.want.later hSx) Try.underlying28 rfl infoRc)) hHeld ?_
            try simp only [Act.put, List.setIfInBounds_toArray, List.set_cons_zero, List.set_cons_succ]
            refine hand_one 8 (by kernel_rfl) ?_
            refine hand_callw (some 96) rfl rfl (by kernel_rfl) 12 #[.agg (rcF m), .agg (rcA (r.put n) (.slice a1 r.ts.length c1) (.slice a2 r.ds.length c2))] ?he ((rsame_at m.1 (r.put n) m.2.1 m.2.2 (.slice a1 r.ts.length c1) (.slice a2 r.ds.length c2) _ true (hide ⟨fun _ => HM.out.1, fun _ => rfl⟩) HM.out.2.1 ⟨HIN.out.1.c, HIN.out.1.tl, HIN.out.1.dl, HIN.out.1.ts, HIN.out.1.ds⟩ (HM.out.2.2.1.below hHeld).rc (HRW.out.below hHeld)).mono ?_)
            (case he => go_simp)
            rintro e w15 ⟨rfl, hb15⟩
            have hHeld := hHeld.trans (hb15.mono hHeld.size)
            clear hb15
            refine ⟨_, rfl, hHeld, ?_⟩
            try simp only [Act.put, List.setIfInBounds_toArray, List.set_cons_zero, List.set_cons_succ]
            refine tkk 9 (some 97) (.bool false) rfl rfl (by kernel_rfl) (by kernel_rfl) (fun x hSx => by go_simp) hHeld ?_
            try simp only [Act.put, List.setIfInBounds_toArray, List.set_cons_zero, List.set_cons_succ]
            refine tkk 10 (some 98) (.bool false) rfl rfl (by kernel_rfl) (by kernel_rfl) (fun x hSx => by go_simp) hHeld ?_
            try simp only [Act.put, List.setIfInBounds_toArray, List.set_cons_zero, List.set_cons_succ]
            refine wpAnyH_done (by kernel_rfl) ?_ _
            refine NoPanic.normal ?_
            have H15 := hide (H14.out.later HB14.out hHeld)
            have HS15 := hide (Nat.le_trans HB14.out hHeld.size)
            clear hHeld H14
            have c12 : w15.cell? ⟨ga, 12, none⟩ = some (.slice u3 r.ts.length d3) := by
              obtain ⟨cs, h1, h2⟩ := H15.out.arow
              have e := h1.cell 12 m.2.1 (h2 12 m.2.1 rfl)
              rwa [HM.out.2.2.2.1] at e
            rw [← hlt] at c12
            go_wp2
            go_loopw [104] (fun i wr => ∃ j : Nat, j ≤ lt ∧ i = .int .i64 (j : Int) ∧ Hid (KA w.heap.size w gl gt gR gO w3.heap.size w9.heap.size w10.heap.size (r.put n) r (.slice a1 r.ts.length c1) (.slice a2 r.ds.length c2) (.slice u1 r.ts.length d1) (.slice u2 r.ds.length d2) g' gW ga w13.heap.size w14.heap.size m wr)) (fun i _ => lt - (intOf i).toNat)
            case atStart => exact ⟨0, Nat.zero_le _, rfl, H15⟩
            case round =>
              obtain ⟨j, hj, rfl, HA⟩ := hrel
              clear H15 c12
              by_cases hlt2 : j < lt
              · have ij : (j : Int) < (lt : Int) := by omega
                obtain ⟨b, rfl⟩ := HU3.out (by omega)
                obtain ⟨-, hlo, hhi, cs, hrow, hsz⟩ := HA.out.mine b 0 _ _ HM.out.2.2.2.1 (by omega)
                obtain ⟨u0, hu0⟩ : ∃ u0, cs[j * 5]? = some u0 := ⟨_, Array.getElem?_eq_getElem (by rw [← hlt] at hsz; omega)⟩
                have x0 := hrow.cell (j * 5) u0 hu0
                have f0 := hrow.free (j * 5)
                have k0 : wr.cell? ⟨ga, 12, none⟩ = some (.slice (some ⟨b, 0, none⟩) r.ts.length d3) := by
                  obtain ⟨cs, h1, h2⟩ := HA.out.arow
                  have e := h1.cell 12 m.2.1 (h2 12 m.2.1 rfl)
                  rwa [HM.out.2.2.2.1] at e
                rw [← hlt] at k0
                have HA2 := hide (HA.out.write (j := j * 5) (u := .int .i64 (-1)) hrow hlo)
                clear hrow hsz hu0
                go_wp2
                go_roundw
                case rel => exact ⟨j + 1, by omega, by go_num, HA2⟩
                case measure => simp [intOf]; omega
              · have ij : ¬ (j : Int) < (lt : Int) := by omega
                have hga : RowAt wr ga 28 _ := HA.out.arow.choose_spec.1
                obtain ⟨cs, hrow, hcs⟩ := HA.out.arow
                have x0 := hrow.cell 0 _ (hcs 0 _ rfl)
                have f0 := hrow.free 0
                clear hga
                have hlt3 := HW.out
                have hM := HM.out
                have hgaR : gR ≠ ga := by have := hM.2.2.2.2.1; have := HA.out.far; omega
                have hgaO : gO ≠ ga := by have := hM.2.2.2.2.1; have := HA.out.far; omega
                have hgWa : gW ≠ ga := by have := hM.2.2.2.2.1; have := hM.2.2.2.2.2.2.1; omega
                have H17 := hide (show KP w.heap.size w gl gt gR gO w3.heap.size w9.heap.size w10.heap.size (r.put n) r (.slice a1 r.ts.length c1) (.slice a2 r.ds.length c2) (.slice u1 r.ts.length d1) (.slice u2 r.ds.length d2) g' (wr.setCell ⟨ga, 0, none⟩ (.int .i64 0)) ∧ RowAt (wr.setCell ⟨ga, 0, none⟩ (.int .i64 0)) gW 28 (rcA (r.put n) (.slice a1 r.ts.length c1) (.slice a2 r.ds.length c2)) from ⟨HA.out.kp.writeR hrow (Nat.le_trans HA.out.low3 hM.2.2.2.2.1) (Nat.le_trans HA.out.far hM.2.2.2.2.1) hgaR hgaO, HA.out.want.other _ _ hgWa⟩)
                clear hrow hcs hlt3 hM hgaR hgaO hgWa HA
                go_wp2_with fail
                obtain ⟨w17, hw17⟩ : ∃ w17, w17 = wr.setCell ⟨ga, 0, none⟩ (.int .i64 0) := ⟨_, rfl⟩
                rw [← hw17] at H17 ⊢
                clear hw17 x0 f0
                obtain ⟨gc3, gb3, ab, capb, ua3, ub3, wa3, wc3, hL3, -, -, -⟩ := H17.out.1.lv
                have HGT := hide (get9_any w17 n hL3 H17.out.1.ok)
                clear hL3
                refine HGT.out.mono ?_
                rw [show GetAns g' n w17 = fun e w' => ∃ m : Rm, e = .returned (.tuple #[.agg (rcF m), .bool true]) ∧ m.1 = r.put n ∧ m.1.fits ∧ GotIn w17.heap.size w' m.1 m.2.1 m.2.2 ∧ Below w17.heap.size w17 w' from by unfold GetAns; rw [HG'.out.1.2]; rfl]
                rintro e w18 ⟨m2, rfl, q1, q2, q3, q4⟩
                have hB17 : w.heap.size ≤ w17.heap.size := H17.out.1.bel.size
                have H18 := hide (show Below w.heap.size w w18 ∧ RowAt w18 gW 28 (rcA (r.put n) (.slice a1 r.ts.length c1) (.slice a2 r.ds.length c2)) from ⟨H17.out.1.bel.trans (q4.mono hB17), H17.out.2.later q4⟩)
                have HM2 := hide (And.intro q1 (And.intro q2 q3))
                obtain ⟨hs1, hs2⟩ := rcF_slices9 q3.rc
                have HAM := hide (rcF_all m2 hs1 hs2)
                clear q1 q2 q3 q4 hs1 hs2 H17 HGT
                go_wp2_with (with_reducible refine stop_at 13 rfl ?_)
                refine unstop10 ?_
                refine lst_run (some 13) rfl rfl (.pointer (some ⟨w18.heap.size, 0, none⟩)) (w18.alloc (.cells zeroA 28)) ?hz ?_
                (case hz => go_simp; try rfl)
                try simp only [Act.put, List.setIfInBounds_toArray, List.set_cons_zero, List.set_cons_succ]
                refine wpList_store_part rfl 28 (.tmp 13) (.tmp 122) rfl w18.heap.size 0 28 zeroA (rcF m2) rfl rfl (RowAt.new _ _ _) infoRc (by simp [zeroA, rcF, rcA]) HAM.out ?_
                intro w19 h19 hO19
                rw [partA_all zeroA (rcF m2) (by simp [zeroA, rcF, rcA])] at h19
                have hb19 : Below w18.heap.size w18 w19 := hO19.below ((Below.refl _ _).alloc (Nat.le_refl _) _) (Nat.le_refl _)
                obtain ⟨gb9, hgb9⟩ : ∃ gb9, gb9 = w18.heap.size := ⟨_, rfl⟩
                rw [← hgb9] at h19 ⊢
                have hB18 : w.heap.size ≤ w18.heap.size := H18.out.1.size
                have H19 := hide (show Below w.heap.size w w19 ∧ RowAt w19 gW 28 (rcA (r.put n) (.slice a1 r.ts.length c1) (.slice a2 r.ds.length c2)) ∧ RowAt w19 gb9 28 (rcF m2) ∧ GotIn w17.heap.size w19 m2.1 m2.2.1 m2.2.2 from ⟨H18.out.1.trans (hb19.mono hB18), H18.out.2.later hb19, h19, HM2.out.2.2.below hb19⟩)
                clear h19 hO19 hb19 hgb9 H18
                go_wp2_with (with_reducible refine stop_at 126 rfl ?_)
                refine unstop10 ?_
                refine lst_load (some 126) (.agg (rcF m2)) rfl rfl 28 _ rfl (.pointer (some ⟨gb9, 0, none⟩)) rfl (load_row _ H19.out.2.2.1 Try.underlying28 rfl infoRc) ?_
                try simp only [Act.put, List.setIfInBounds_toArray, List.set_cons_zero, List.set_cons_succ]
                refine lst_load (some 127) (.agg (rcA (r.put n) (.slice a1 r.ts.length c1) (.slice a2 r.ds.length c2))) rfl rfl 28 _ rfl (.pointer (some ⟨gW, 0, none⟩)) rfl (load_row _ H19.out.2.1 Try.underlying28 rfl infoRc) ?_
                try simp only [Act.put, List.setIfInBounds_toArray, List.set_cons_zero, List.set_cons_succ]
                refine lst_call (some 128) rfl rfl 12 #[.agg (rcF m2), .agg (rcA (r.put n) (.slice a1 r.ts.length c1) (.slice a2 r.ds.length c2))] ?he ((rsame_at m2.1 (r.put n) m2.2.1 m2.2.2 (.slice a1 r.ts.length c1) (.slice a2 r.ds.length c2) w19 true (hide ⟨fun _ => HM2.out.1, fun _ => rfl⟩) HM2.out.2.1 ⟨HIN.out.1.c, HIN.out.1.tl, HIN.out.1.dl, HIN.out.1.ts, HIN.out.1.ds⟩ H19.out.2.2.2.rc (HIN.out.2.below H19.out.1)).mono ?_)
                (case he => go_simp)
                rintro e w20 ⟨rfl, hb20⟩
                have H20 := hide (H19.out.1.trans (hb20.mono H19.out.1.size))
                clear hb20 H19
                refine ⟨_, rfl, ?_⟩
                try simp only [Act.put, List.setIfInBounds_toArray, List.set_cons_zero, List.set_cons_succ]
                go_wp2
                go_ret
                exact ⟨rfl, H20.out⟩
  · have hE1 := (g.app_no (r.put 0) 0 0 hE).2
    rw [hE1]
    obtain ⟨E, hEE⟩ : ∃ E, E = g.appE (r.put 0) 0 0 := ⟨_, rfl⟩
    rw [← hEE] at hE ⊢
    have b1 : (E == 0) = false := by simpa using hE
    have b2 : (E != 0) = true := by simpa using hE
    obtain ⟨F', -, hT', -⟩ := hA
    have HBL := hide (H3.out.2.2.2.2.1.trans ((H9.out.2.1.mono H3.out.2.2.2.2.1.size).trans (hT'.below (fun k hk => (H3.out.1.loose k hk).1) (Nat.le_trans H3.out.2.2.2.2.1.size H9.out.2.1.size))))
    clear hE hEE hE1 hT' hN H9 H3
    go_wp2
    go_ret
    exact ⟨rfl, HBL.out⟩
theorem walk (m : Rm) (w : World) (hf : m.1.fits) (hin : RcIn w m.1 m.2.1 m.2.2) :
    Calls Try.prog 3 #[.agg (rcA m.1 m.2.1 m.2.2)] w fun e w' => e = .returned (.bool true) ∧ Below w.heap.size w w' := by
  by_cases h1 : m.1.ts.length ≤ 100
  · by_cases h2 : m.1.ds.length ≤ 100
    · exact yes m.1 m.2.1 m.2.2 w hf hin h1 h2
    · exact no m.1 m.2.1 m.2.2 w hin (.inr (by omega))
  · exact no m.1 m.2.1 m.2.2 w hin (.inl (by omega))
end Go.Proofs.Ytmdhnfeepadfaaa.walKeeps

namespace Go.Proofs.Ytmdhnfeepadfaaa.walKeeps
open Go.ChangeShapes Go.WideShapes Go.ChangeAt Go.RowKit
open Go.ChangeMaps (open_string shut_string)
set_option linter.unusedVariables false

theorem laidOut : laidOutB Try.prog = true := by kernel_rfl
theorem own : ownKnob Try.prog.godebug = none := by kernel_rfl

set_option maxRecDepth 100000 in
theorem lifted (os : Os) (started : os.Started) (H : Type) (enc : TypeId × Value → H) :
    ReturnsInHanded {} Try.checked os 3 .any (Rows.walKeepsSpec.pre6 enc Try.prog Try.f3 Rows.walKeepsRow.domain false) (Rows.walKeepsSpec.post enc Try.prog Try.f3 false true false false) := by
  refine returnsInHanded_of_change_sized (C := Try.checked) own started (by kernel_rfl) Try.func3
    (ChangeSpec.witness6 (enc := enc) (C := Try.checked) false ⟨#[], #[.agg #[.int .i64 0, .int .u64 0, .int .i64 0, .int .u64 0, .int .i64 0, .int .i64 0, .int .i64 0, .string ByteArray.empty, .string ByteArray.empty, .int .u64 0, .int .i64 0, .int .u64 0, .slice none 0 0, .slice none 0 0]], []⟩ 8 (by kernel_rfl) (by kernel_rfl) (by kernel_rfl) (by kernel_rfl)) ?_
  intro W base args ds gs before hval0 hW hcnd hsz0 _
  have hval : ∀ (j : Nat) t v, Try.f3.params[j]? = some t → args[j]? = some v → Value.okWide Try.prog W .any base t v := hval0
  have hsz : (DataW.weightsEach Try.prog (Try.f3.params.toList ++ Rows.walKeepsSpec.plain.varTypes Try.prog) (ds ++ gs)).all (· ≤ reachBytes) = true := hsz0
  have hW' := hW
  obtain ⟨p, q, hA0, hV, rfl, hfz, hnd⟩ := hW
  have hA : DataW.TrodAll enc Try.prog W 0 (fun _ => true) true Try.f3.params.toList args.toList ds p := hA0
  rw [Try.params3] at hA hval hsz
  obtain ⟨v0, vs0, d0, ds0, p0, q0, hargs, rfl, rfl, h0, r0⟩ := trodAll_cons hA
  obtain ⟨rfl, rfl, rfl⟩ := trodAll_nil r0
  obtain rfl : args = #[v0] := by cases args; simp_all
  obtain ⟨rfl, rfl⟩ := trodVars_none hV
  have k0 := h0
  have lt0 := trod_places h0
  obtain ⟨m0, rfl, w0a, w0b⟩ := op_record (hval 0 28 v0 rfl rfl) h0
  clear hA0 hval0 hsz0 hsz
  refine (walk m0 W w0a w0b).mono fun e W' ⟨he, bel⟩ => ?_
  subst he
  exact ⟨_, rfl, _, _, _, [], _, [], hW', trodAll_mk1 (shut_bool Try.underlying4 _), (trodAll_cons_mk (Below.trod laidOut (by kernel_rfl) (of_decide_eq_true (by kernel_rfl)) k0 bel lt0) trodAll_mk0), rfl, bel.frame _, fun h => by cases h⟩

theorem over : Rows.walKeepsRow.holds Try.pinned (OpenSpec.ofChange Rows.walKeepsSpec) :=
  OpenClaim.holds_of_wide 3 Try.f3 rfl rfl rfl rfl rfl rfl rfl ⟨rfl, rfl, rfl, rfl, rfl⟩ rfl rfl rfl rfl rfl (by kernel_rfl) Try.func3 (by kernel_rfl)
    (of_decide_eq_true (by kernel_rfl)) (by unfold Func.isWrapper; first | (rw [if_pos (by decide +kernel)]; kernel_rfl) | (rw [if_neg (by decide +kernel)]; exact ⟨rfl, rfl⟩))
    (fun os started H enc _ => lifted os started H enc)

/-- THE STATEMENT. -/
theorem proved : Rows.WalKeepsSaid := over
end Go.Proofs.Ytmdhnfeepadfaaa.walKeeps
namespace Go.Proofs.Ytmdhnfeepadfaaa
theorem walKeeps_proved : Rows.WalKeepsSaid := walKeeps.proved
end Go.Proofs.Ytmdhnfeepadfaaa
