/-
  Texts that lean on one another, one behind the other: each opens with its own remark.
-/
import Derived.Test.YtmdhnfeepadfaaaK07
import Derived.Test.YtmdhnfeepadfaaaK00

/-
  The contract of record.Encode, kind 1.
-/
namespace Go.Proofs.Ytmdhnfeepadfaaa
open Go.RowKit
set_option linter.unusedVariables false

set_option maxRecDepth 4000 in
set_option maxHeartbeats 1600000 in
theorem enc_1 (r : Rec) (va vb : Value) (w : World) (hr : r.right) (hk : r.k = 1) (hf : r.fits) (hin : RcIn w r va vb) :
    Calls Try.prog 53 #[.agg (rcA r va vb)] w fun e w' => (∃ v, e = .returned (.tuple #[v, .int .i64 0]) ∧ EncIn w' v (recB r)) ∧ Below w.heap.size w w' := by
  have HIN := hide hin
  have HRT := hide (fun w h => right_at r va vb w true (hide ⟨fun _ => hr, fun _ => rfl⟩) hf h)
  obtain ⟨⟨e1, cap1, rfl, -⟩, ⟨e2, cap2, rfl, -⟩⟩ := hin
  have HK0 := hide (Keeps.one w 28 (rcA r (.slice e1 r.ts.length cap1) (.slice e2 r.ds.length cap2)))
  have HRR := hide hr
  have hlm : r.l ≤ 4611686018427387904 := hr.lm
  have hbs := enc_bounds hr
  obtain ⟨b1, b2, b3, b4, b5, b6⟩ := hbs
  go_enter Try.func53, Try.ntmps53
  go_wp2_with (refine wpList_load_at rfl 28 (.tmp 1) rfl w.heap.size rfl (rcA r (.slice e1 r.ts.length cap1) (.slice e2 r.ds.length cap2)) HK0.out.1.1 _ Try.underlying28 rfl infoRc ?_)
  refine (HRT.out _ (HIN.out.below HK0.out.2)).mono ?_
  rintro e x0 ⟨rfl, hb0⟩
  have HK1 := hide (HK0.out.later hb0)
  clear HK0 hb0 HRT
  obtain ⟨g, hg⟩ : ∃ g, g = x0.heap.size := ⟨_, rfl⟩
  have hbl := (Below.refl x0.heap.size x0).alloc (Nat.le_refl _) (.cells #[.slice none 0 0] 109)
  have HW0 : Hid (WK g x0 (x0.alloc (.cells #[.slice none 0 0] 109)) [] [(w.heap.size, 28, (rcA r (.slice e1 r.ts.length cap1) (.slice e2 r.ds.length cap2)))]) := by
    rw [hg]
    exact ⟨⟨.slice none 0 0, RowAt.new _ _ _, World.ownsRow_nil _ _ _ _⟩, Mv.later (Nat.le_refl _) hbl, HK1.out.1.1.later hbl, trivial⟩
  have hA : Hid (Aside g [(w.heap.size, 28, (rcA r (.slice e1 r.ts.length cap1) (.slice e2 r.ds.length cap2)))]) := fun e he => by
    simp only [List.mem_cons, List.not_mem_nil, or_false] at he
    subst he
    exact ⟨by show w.heap.size ≠ g; have := HK1.out.1.1.lt; rw [hg]; exact Nat.ne_of_lt this, by show (28 : TypeId) ≠ 5; decide⟩
  have HBX := hide HK1.out.2
  have HGW : Hid (w.heap.size ≤ g) := by show w.heap.size ≤ g; rw [hg]; exact HBX.out.size
  have HCX := hide (fun (y : World) (bs : List UInt8) (h : WK g x0 y bs [(w.heap.size, 28, (rcA r (.slice e1 r.ts.length cap1) (.slice e2 r.ds.length cap2)))]) => (HBX.out.trans (h.2.1.below.mono HGW.out) : Below w.heap.size w y))
  have c0 := HW0.out.2.2.1.cell 0 (.int .i64 1) (by rw [← hk]; rfl)
  clear hbl HK1
  go_wp2_with fail
  rw [← hg]
  refine gen_calls (fun x => Hid (WK g x0 x [] [(w.heap.size, 28, (rcA r (.slice e1 r.ts.length cap1) (.slice e2 r.ds.length cap2)))])) (by rw [hg]; rw [hg] at HW0; exact HW0) ?_
  clear HW0 c0 hg
  intro y0 H0
  refine (wnum_any g 1 1 [] _ H0.out.1 (by omega) (by omega) (Nat.zero_le _)).mono ?_
  rintro e y1 ⟨rfl, hw, hm⟩
  have H1 := hide (H0.out.step hw hm hA.out)
  clear hw hm H0
  have c1 := H1.out.2.2.1.cell 1 (.int .u64 (r.l : Int)) (by rfl)
  go_wp2_with fail
  refine (wnum_any g 8 r.l ([] ++ beB 1 1) _ H1.out.1 (by omega) (by omega) (by first | (simp only [List.length_append, beB_length, List.length_nil]; done) | (simp only [List.length_append, beB_length, List.length_nil]; omega))).mono ?_
  rintro e y2 ⟨rfl, hw, hm⟩
  have H2 := hide (H1.out.step hw hm hA.out)
  clear hw hm H1
  clear c1
  have c2 := H2.out.2.2.1.cell 2 (.int .i64 r.t) (by rfl)
  go_wp2_with fail
  have W := hide (wnum_any g 4 r.t.toNat (([] ++ beB 1 1) ++ beB 8 r.l) _ H2.out.1 (by omega) (by omega) (by first | (simp only [List.length_append, beB_length, List.length_nil]; done) | (simp only [List.length_append, beB_length, List.length_nil]; omega)))
  rw [Int.toNat_of_nonneg (by omega)] at W
  refine W.out.mono ?_
  clear W
  rintro e y3 ⟨rfl, hw, hm⟩
  have H3 := hide (H2.out.step hw hm hA.out)
  clear hw hm H2
  clear c2
  have c3 := H3.out.2.2.1.cell 3 (.int .u64 (r.p : Int)) (by rfl)
  have c0 := H3.out.2.2.1.cell 0 (.int .i64 1) (by rw [← hk]; rfl)
  go_wp2_with fail
  refine (wnum_any g 8 r.p ((([] ++ beB 1 1) ++ beB 8 r.l) ++ beB 4 r.t.toNat) _ H3.out.1 (by omega) (by omega) (by first | (simp only [List.length_append, beB_length, List.length_nil]; done) | (simp only [List.length_append, beB_length, List.length_nil]; omega))).mono ?_
  rintro e y4 ⟨rfl, hw, hm⟩
  have H4 := hide (H3.out.step hw hm hA.out)
  clear hw hm H3
  clear c3 c0
  have c0 := H4.out.2.2.1.cell 0 (.int .i64 1) (by rw [← hk]; rfl)
  go_wp2_with (refine wpList_load_mid rfl 24 (.tmp 27) rfl w.heap.size 4 (chA r.c) rfl (rc_change H4.out.2.2.1) _ Try.underlying24 rfl infoCh ?_)
  refine (wchange_any g r.c (((([] ++ beB 1 1) ++ beB 8 r.l) ++ beB 4 r.t.toNat) ++ beB 8 r.p) _ H4.out.1 (HRR.out.ch (by omega)) (by first | (simp only [List.length_append, beB_length, List.length_nil]; done) | (simp only [List.length_append, beB_length, List.length_nil]; omega))).mono ?_
  rintro e y5 ⟨rfl, hw, hm⟩
  have H5 := hide (H4.out.step hw hm hA.out)
  clear hw hm H4
  clear c0
  have hrb : ((((([] ++ beB 1 1) ++ beB 8 r.l) ++ beB 4 r.t.toNat) ++ beB 8 r.p) ++ chB r.c) = recB r := by
    unfold recB mayB
    rw [hk]
    simp
  have HX := hide (HCX.out _ _ H5.out)
  obtain ⟨v, hrow, hown⟩ := H5.out.1
  have HO := hide hown
  have HRO := hide hrow
  have HRB := hide hrb
  clear hown hrow hrb H5 hA HIN HCX HBX
  obtain ⟨a, c, hv⟩ := own_shape HO.out
  have HV := hide hv
  clear hv
  go_wp2_with (refine wpList_load_val rfl 61 (.tmp 55) rfl _ v rfl (load_b8 _ v a _ c HV.out (HRO.out.cell 0 v rfl)) ?_)
  (try simp only [Exit.inBlock, Exit.then])
  refine bodyPost_ret (results_tmp2 rfl _ _ _) rfl ?_
  refine ⟨⟨v, rfl, ?_⟩, HX.out⟩
  have ho := HO.out
  rw [HRB.out] at ho
  exact enc_in ho
end Go.Proofs.Ytmdhnfeepadfaaa

/-
  The contract of record.Encode, kind 2.
-/
namespace Go.Proofs.Ytmdhnfeepadfaaa
open Go.RowKit
set_option linter.unusedVariables false

set_option maxRecDepth 4000 in
set_option maxHeartbeats 1600000 in
theorem enc_2 (r : Rec) (va vb : Value) (w : World) (hr : r.right) (hk : r.k = 2) (hf : r.fits) (hin : RcIn w r va vb) :
    Calls Try.prog 53 #[.agg (rcA r va vb)] w fun e w' => (∃ v, e = .returned (.tuple #[v, .int .i64 0]) ∧ EncIn w' v (recB r)) ∧ Below w.heap.size w w' := by
  have HIN := hide hin
  have HRT := hide (fun w h => right_at r va vb w true (hide ⟨fun _ => hr, fun _ => rfl⟩) hf h)
  obtain ⟨⟨e1, cap1, rfl, -⟩, ⟨e2, cap2, rfl, -⟩⟩ := hin
  have HK0 := hide (Keeps.one w 28 (rcA r (.slice e1 r.ts.length cap1) (.slice e2 r.ds.length cap2)))
  have HRR := hide hr
  have hlm : r.l ≤ 4611686018427387904 := hr.lm
  have hbs := enc_bounds hr
  obtain ⟨b1, b2, b3, b4, b5, b6⟩ := hbs
  go_enter Try.func53, Try.ntmps53
  go_wp2_with (refine wpList_load_at rfl 28 (.tmp 1) rfl w.heap.size rfl (rcA r (.slice e1 r.ts.length cap1) (.slice e2 r.ds.length cap2)) HK0.out.1.1 _ Try.underlying28 rfl infoRc ?_)
  refine (HRT.out _ (HIN.out.below HK0.out.2)).mono ?_
  rintro e x0 ⟨rfl, hb0⟩
  have HK1 := hide (HK0.out.later hb0)
  clear HK0 hb0 HRT
  obtain ⟨g, hg⟩ : ∃ g, g = x0.heap.size := ⟨_, rfl⟩
  have hbl := (Below.refl x0.heap.size x0).alloc (Nat.le_refl _) (.cells #[.slice none 0 0] 109)
  have HW0 : Hid (WK g x0 (x0.alloc (.cells #[.slice none 0 0] 109)) [] [(w.heap.size, 28, (rcA r (.slice e1 r.ts.length cap1) (.slice e2 r.ds.length cap2)))]) := by
    rw [hg]
    exact ⟨⟨.slice none 0 0, RowAt.new _ _ _, World.ownsRow_nil _ _ _ _⟩, Mv.later (Nat.le_refl _) hbl, HK1.out.1.1.later hbl, trivial⟩
  have hA : Hid (Aside g [(w.heap.size, 28, (rcA r (.slice e1 r.ts.length cap1) (.slice e2 r.ds.length cap2)))]) := fun e he => by
    simp only [List.mem_cons, List.not_mem_nil, or_false] at he
    subst he
    exact ⟨by show w.heap.size ≠ g; have := HK1.out.1.1.lt; rw [hg]; exact Nat.ne_of_lt this, by show (28 : TypeId) ≠ 5; decide⟩
  have HBX := hide HK1.out.2
  have HGW : Hid (w.heap.size ≤ g) := by show w.heap.size ≤ g; rw [hg]; exact HBX.out.size
  have HCX := hide (fun (y : World) (bs : List UInt8) (h : WK g x0 y bs [(w.heap.size, 28, (rcA r (.slice e1 r.ts.length cap1) (.slice e2 r.ds.length cap2)))]) => (HBX.out.trans (h.2.1.below.mono HGW.out) : Below w.heap.size w y))
  have c0 := HW0.out.2.2.1.cell 0 (.int .i64 2) (by rw [← hk]; rfl)
  clear hbl HK1
  go_wp2_with fail
  rw [← hg]
  refine gen_calls (fun x => Hid (WK g x0 x [] [(w.heap.size, 28, (rcA r (.slice e1 r.ts.length cap1) (.slice e2 r.ds.length cap2)))])) (by rw [hg]; rw [hg] at HW0; exact HW0) ?_
  clear HW0 c0 hg
  intro y0 H0
  refine (wnum_any g 1 2 [] _ H0.out.1 (by omega) (by omega) (Nat.zero_le _)).mono ?_
  rintro e y1 ⟨rfl, hw, hm⟩
  have H1 := hide (H0.out.step hw hm hA.out)
  clear hw hm H0
  have c1 := H1.out.2.2.1.cell 1 (.int .u64 (r.l : Int)) (by rfl)
  go_wp2_with fail
  refine (wnum_any g 8 r.l ([] ++ beB 1 2) _ H1.out.1 (by omega) (by omega) (by first | (simp only [List.length_append, beB_length, List.length_nil]; done) | (simp only [List.length_append, beB_length, List.length_nil]; omega))).mono ?_
  rintro e y2 ⟨rfl, hw, hm⟩
  have H2 := hide (H1.out.step hw hm hA.out)
  clear hw hm H1
  clear c1
  have c2 := H2.out.2.2.1.cell 2 (.int .i64 r.t) (by rfl)
  go_wp2_with fail
  have W := hide (wnum_any g 4 r.t.toNat (([] ++ beB 1 2) ++ beB 8 r.l) _ H2.out.1 (by omega) (by omega) (by first | (simp only [List.length_append, beB_length, List.length_nil]; done) | (simp only [List.length_append, beB_length, List.length_nil]; omega)))
  rw [Int.toNat_of_nonneg (by omega)] at W
  refine W.out.mono ?_
  clear W
  rintro e y3 ⟨rfl, hw, hm⟩
  have H3 := hide (H2.out.step hw hm hA.out)
  clear hw hm H2
  clear c2
  have c3 := H3.out.2.2.1.cell 3 (.int .u64 (r.p : Int)) (by rfl)
  have c0 := H3.out.2.2.1.cell 0 (.int .i64 2) (by rw [← hk]; rfl)
  go_wp2_with fail
  refine (wnum_any g 8 r.p ((([] ++ beB 1 2) ++ beB 8 r.l) ++ beB 4 r.t.toNat) _ H3.out.1 (by omega) (by omega) (by first | (simp only [List.length_append, beB_length, List.length_nil]; done) | (simp only [List.length_append, beB_length, List.length_nil]; omega))).mono ?_
  rintro e y4 ⟨rfl, hw, hm⟩
  have H4 := hide (H3.out.step hw hm hA.out)
  clear hw hm H3
  clear c3 c0
  have c0 := H4.out.2.2.1.cell 0 (.int .i64 2) (by rw [← hk]; rfl)
  go_wp2_with (refine wpList_load_mid rfl 24 (.tmp 32) rfl w.heap.size 4 (chA r.c) rfl (rc_change H4.out.2.2.1) _ Try.underlying24 rfl infoCh ?_)
  refine (wchange_any g r.c (((([] ++ beB 1 2) ++ beB 8 r.l) ++ beB 4 r.t.toNat) ++ beB 8 r.p) _ H4.out.1 (HRR.out.ch (by omega)) (by first | (simp only [List.length_append, beB_length, List.length_nil]; done) | (simp only [List.length_append, beB_length, List.length_nil]; omega))).mono ?_
  rintro e y5 ⟨rfl, hw, hm⟩
  have H5 := hide (H4.out.step hw hm hA.out)
  clear hw hm H4
  clear c0
  have c9 := H5.out.2.2.1.cell 9 (.int .u64 (r.n : Int)) (by rfl)
  go_wp2_with fail
  refine (wnum_any g 8 r.n ((((([] ++ beB 1 2) ++ beB 8 r.l) ++ beB 4 r.t.toNat) ++ beB 8 r.p) ++ chB r.c) _ H5.out.1 (by omega) (by omega) (by first | (simp only [List.length_append, beB_length, List.length_nil, chB_len2]; done) | (simp only [List.length_append, beB_length, List.length_nil, chB_len2]; omega))).mono ?_
  rintro e y6 ⟨rfl, hw, hm⟩
  have H6 := hide (H5.out.step hw hm hA.out)
  clear hw hm H5
  clear c9
  have hrb : (((((([] ++ beB 1 2) ++ beB 8 r.l) ++ beB 4 r.t.toNat) ++ beB 8 r.p) ++ chB r.c) ++ beB 8 r.n) = recB r := by
    unfold recB mayB
    rw [hk]
    simp
  have HX := hide (HCX.out _ _ H6.out)
  obtain ⟨v, hrow, hown⟩ := H6.out.1
  have HO := hide hown
  have HRO := hide hrow
  have HRB := hide hrb
  clear hown hrow hrb H6 hA HIN HCX HBX
  obtain ⟨a, c, hv⟩ := own_shape HO.out
  have HV := hide hv
  clear hv
  go_wp2_with (refine wpList_load_val rfl 61 (.tmp 55) rfl _ v rfl (load_b8 _ v a _ c HV.out (HRO.out.cell 0 v rfl)) ?_)
  (try simp only [Exit.inBlock, Exit.then])
  refine bodyPost_ret (results_tmp2 rfl _ _ _) rfl ?_
  refine ⟨⟨v, rfl, ?_⟩, HX.out⟩
  have ho := HO.out
  rw [HRB.out] at ho
  exact enc_in ho
end Go.Proofs.Ytmdhnfeepadfaaa

/-
  The contract of record.Encode, kind 3.
-/
namespace Go.Proofs.Ytmdhnfeepadfaaa
open Go.RowKit
set_option linter.unusedVariables false

set_option maxRecDepth 4000 in
set_option maxHeartbeats 1600000 in
theorem enc_3 (r : Rec) (va vb : Value) (w : World) (hr : r.right) (hk : r.k = 3) (hf : r.fits) (hin : RcIn w r va vb) :
    Calls Try.prog 53 #[.agg (rcA r va vb)] w fun e w' => (∃ v, e = .returned (.tuple #[v, .int .i64 0]) ∧ EncIn w' v (recB r)) ∧ Below w.heap.size w w' := by
  have HIN := hide hin
  have HRT := hide (fun w h => right_at r va vb w true (hide ⟨fun _ => hr, fun _ => rfl⟩) hf h)
  obtain ⟨⟨e1, cap1, rfl, -⟩, ⟨e2, cap2, rfl, -⟩⟩ := hin
  have HK0 := hide (Keeps.one w 28 (rcA r (.slice e1 r.ts.length cap1) (.slice e2 r.ds.length cap2)))
  have HRR := hide hr
  have hlm : r.l ≤ 4611686018427387904 := hr.lm
  have hbs := enc_bounds hr
  obtain ⟨b1, b2, b3, b4, b5, b6⟩ := hbs
  go_enter Try.func53, Try.ntmps53
  go_wp2_with (refine wpList_load_at rfl 28 (.tmp 1) rfl w.heap.size rfl (rcA r (.slice e1 r.ts.length cap1) (.slice e2 r.ds.length cap2)) HK0.out.1.1 _ Try.underlying28 rfl infoRc ?_)
  refine (HRT.out _ (HIN.out.below HK0.out.2)).mono ?_
  rintro e x0 ⟨rfl, hb0⟩
  have HK1 := hide (HK0.out.later hb0)
  clear HK0 hb0 HRT
  obtain ⟨g, hg⟩ : ∃ g, g = x0.heap.size := ⟨_, rfl⟩
  have hbl := (Below.refl x0.heap.size x0).alloc (Nat.le_refl _) (.cells #[.slice none 0 0] 109)
  have HW0 : Hid (WK g x0 (x0.alloc (.cells #[.slice none 0 0] 109)) [] [(w.heap.size, 28, (rcA r (.slice e1 r.ts.length cap1) (.slice e2 r.ds.length cap2)))]) := by
    rw [hg]
    exact ⟨⟨.slice none 0 0, RowAt.new _ _ _, World.ownsRow_nil _ _ _ _⟩, Mv.later (Nat.le_refl _) hbl, HK1.out.1.1.later hbl, trivial⟩
  have hA : Hid (Aside g [(w.heap.size, 28, (rcA r (.slice e1 r.ts.length cap1) (.slice e2 r.ds.length cap2)))]) := fun e he => by
    simp only [List.mem_cons, List.not_mem_nil, or_false] at he
    subst he
    exact ⟨by show w.heap.size ≠ g; have := HK1.out.1.1.lt; rw [hg]; exact Nat.ne_of_lt this, by show (28 : TypeId) ≠ 5; decide⟩
  have HBX := hide HK1.out.2
  have HGW : Hid (w.heap.size ≤ g) := by show w.heap.size ≤ g; rw [hg]; exact HBX.out.size
  have HCX := hide (fun (y : World) (bs : List UInt8) (h : WK g x0 y bs [(w.heap.size, 28, (rcA r (.slice e1 r.ts.length cap1) (.slice e2 r.ds.length cap2)))]) => (HBX.out.trans (h.2.1.below.mono HGW.out) : Below w.heap.size w y))
  have c0 := HW0.out.2.2.1.cell 0 (.int .i64 3) (by rw [← hk]; rfl)
  clear hbl HK1
  go_wp2_with fail
  rw [← hg]
  refine gen_calls (fun x => Hid (WK g x0 x [] [(w.heap.size, 28, (rcA r (.slice e1 r.ts.length cap1) (.slice e2 r.ds.length cap2)))])) (by rw [hg]; rw [hg] at HW0; exact HW0) ?_
  clear HW0 c0 hg
  intro y0 H0
  refine (wnum_any g 1 3 [] _ H0.out.1 (by omega) (by omega) (Nat.zero_le _)).mono ?_
  rintro e y1 ⟨rfl, hw, hm⟩
  have H1 := hide (H0.out.step hw hm hA.out)
  clear hw hm H0
  have c1 := H1.out.2.2.1.cell 1 (.int .u64 (r.l : Int)) (by rfl)
  go_wp2_with fail
  refine (wnum_any g 8 r.l ([] ++ beB 1 3) _ H1.out.1 (by omega) (by omega) (by first | (simp only [List.length_append, beB_length, List.length_nil]; done) | (simp only [List.length_append, beB_length, List.length_nil]; omega))).mono ?_
  rintro e y2 ⟨rfl, hw, hm⟩
  have H2 := hide (H1.out.step hw hm hA.out)
  clear hw hm H1
  clear c1
  have c2 := H2.out.2.2.1.cell 2 (.int .i64 r.t) (by rfl)
  go_wp2_with fail
  have W := hide (wnum_any g 4 r.t.toNat (([] ++ beB 1 3) ++ beB 8 r.l) _ H2.out.1 (by omega) (by omega) (by first | (simp only [List.length_append, beB_length, List.length_nil]; done) | (simp only [List.length_append, beB_length, List.length_nil]; omega)))
  rw [Int.toNat_of_nonneg (by omega)] at W
  refine W.out.mono ?_
  clear W
  rintro e y3 ⟨rfl, hw, hm⟩
  have H3 := hide (H2.out.step hw hm hA.out)
  clear hw hm H2
  clear c2
  have c3 := H3.out.2.2.1.cell 3 (.int .u64 (r.p : Int)) (by rfl)
  have c0 := H3.out.2.2.1.cell 0 (.int .i64 3) (by rw [← hk]; rfl)
  go_wp2_with fail
  refine (wnum_any g 8 r.p ((([] ++ beB 1 3) ++ beB 8 r.l) ++ beB 4 r.t.toNat) _ H3.out.1 (by omega) (by omega) (by first | (simp only [List.length_append, beB_length, List.length_nil]; done) | (simp only [List.length_append, beB_length, List.length_nil]; omega))).mono ?_
  rintro e y4 ⟨rfl, hw, hm⟩
  have H4 := hide (H3.out.step hw hm hA.out)
  clear hw hm H3
  clear c3 c0
  have hrb : (((([] ++ beB 1 3) ++ beB 8 r.l) ++ beB 4 r.t.toNat) ++ beB 8 r.p) = recB r := by
    unfold recB mayB
    rw [hk]
    simp
  have HX := hide (HCX.out _ _ H4.out)
  obtain ⟨v, hrow, hown⟩ := H4.out.1
  have HO := hide hown
  have HRO := hide hrow
  have HRB := hide hrb
  have c0 := H4.out.2.2.1.cell 0 (.int .i64 3) (by rw [← hk]; rfl)
  clear hown hrow hrb H4 hA HIN HCX HBX
  obtain ⟨a, c, hv⟩ := own_shape HO.out
  have HV := hide hv
  clear hv
  go_wp2_with (refine wpList_load_val rfl 61 (.tmp 55) rfl _ v rfl (load_b8 _ v a _ c HV.out (HRO.out.cell 0 v rfl)) ?_)
  (try simp only [Exit.inBlock, Exit.then])
  refine bodyPost_ret (results_tmp2 rfl _ _ _) rfl ?_
  refine ⟨⟨v, rfl, ?_⟩, HX.out⟩
  have ho := HO.out
  rw [HRB.out] at ho
  exact enc_in ho
end Go.Proofs.Ytmdhnfeepadfaaa

/-
  The contract of record.Encode, kind 4.
-/
namespace Go.Proofs.Ytmdhnfeepadfaaa
open Go.RowKit
set_option linter.unusedVariables false

set_option maxRecDepth 4000 in
set_option maxHeartbeats 1600000 in
theorem enc_4 (r : Rec) (va vb : Value) (w : World) (hr : r.right) (hk : r.k = 4) (hf : r.fits) (hin : RcIn w r va vb) :
    Calls Try.prog 53 #[.agg (rcA r va vb)] w fun e w' => (∃ v, e = .returned (.tuple #[v, .int .i64 0]) ∧ EncIn w' v (recB r)) ∧ Below w.heap.size w w' := by
  have HIN := hide hin
  have HRT := hide (fun w h => right_at r va vb w true (hide ⟨fun _ => hr, fun _ => rfl⟩) hf h)
  obtain ⟨⟨e1, cap1, rfl, -⟩, ⟨e2, cap2, rfl, -⟩⟩ := hin
  have HK0 := hide (Keeps.one w 28 (rcA r (.slice e1 r.ts.length cap1) (.slice e2 r.ds.length cap2)))
  have HRR := hide hr
  have hlm : r.l ≤ 4611686018427387904 := hr.lm
  have hbs := enc_bounds hr
  obtain ⟨b1, b2, b3, b4, b5, b6⟩ := hbs
  go_enter Try.func53, Try.ntmps53
  go_wp2_with (refine wpList_load_at rfl 28 (.tmp 1) rfl w.heap.size rfl (rcA r (.slice e1 r.ts.length cap1) (.slice e2 r.ds.length cap2)) HK0.out.1.1 _ Try.underlying28 rfl infoRc ?_)
  refine (HRT.out _ (HIN.out.below HK0.out.2)).mono ?_
  rintro e x0 ⟨rfl, hb0⟩
  have HK1 := hide (HK0.out.later hb0)
  clear HK0 hb0 HRT
  obtain ⟨g, hg⟩ : ∃ g, g = x0.heap.size := ⟨_, rfl⟩
  have hbl := (Below.refl x0.heap.size x0).alloc (Nat.le_refl _) (.cells #[.slice none 0 0] 109)
  have HW0 : Hid (WK g x0 (x0.alloc (.cells #[.slice none 0 0] 109)) [] [(w.heap.size, 28, (rcA r (.slice e1 r.ts.length cap1) (.slice e2 r.ds.length cap2)))]) := by
    rw [hg]
    exact ⟨⟨.slice none 0 0, RowAt.new _ _ _, World.ownsRow_nil _ _ _ _⟩, Mv.later (Nat.le_refl _) hbl, HK1.out.1.1.later hbl, trivial⟩
  have hA : Hid (Aside g [(w.heap.size, 28, (rcA r (.slice e1 r.ts.length cap1) (.slice e2 r.ds.length cap2)))]) := fun e he => by
    simp only [List.mem_cons, List.not_mem_nil, or_false] at he
    subst he
    exact ⟨by show w.heap.size ≠ g; have := HK1.out.1.1.lt; rw [hg]; exact Nat.ne_of_lt this, by show (28 : TypeId) ≠ 5; decide⟩
  have HBX := hide HK1.out.2
  have HGW : Hid (w.heap.size ≤ g) := by show w.heap.size ≤ g; rw [hg]; exact HBX.out.size
  have HCX := hide (fun (y : World) (bs : List UInt8) (h : WK g x0 y bs [(w.heap.size, 28, (rcA r (.slice e1 r.ts.length cap1) (.slice e2 r.ds.length cap2)))]) => (HBX.out.trans (h.2.1.below.mono HGW.out) : Below w.heap.size w y))
  have c0 := HW0.out.2.2.1.cell 0 (.int .i64 4) (by rw [← hk]; rfl)
  clear hbl HK1
  go_wp2_with fail
  rw [← hg]
  refine gen_calls (fun x => Hid (WK g x0 x [] [(w.heap.size, 28, (rcA r (.slice e1 r.ts.length cap1) (.slice e2 r.ds.length cap2)))])) (by rw [hg]; rw [hg] at HW0; exact HW0) ?_
  clear HW0 c0 hg
  intro y0 H0
  refine (wnum_any g 1 4 [] _ H0.out.1 (by omega) (by omega) (Nat.zero_le _)).mono ?_
  rintro e y1 ⟨rfl, hw, hm⟩
  have H1 := hide (H0.out.step hw hm hA.out)
  clear hw hm H0
  have c1 := H1.out.2.2.1.cell 1 (.int .u64 (r.l : Int)) (by rfl)
  go_wp2_with fail
  refine (wnum_any g 8 r.l ([] ++ beB 1 4) _ H1.out.1 (by omega) (by omega) (by first | (simp only [List.length_append, beB_length, List.length_nil]; done) | (simp only [List.length_append, beB_length, List.length_nil]; omega))).mono ?_
  rintro e y2 ⟨rfl, hw, hm⟩
  have H2 := hide (H1.out.step hw hm hA.out)
  clear hw hm H1
  clear c1
  have c2 := H2.out.2.2.1.cell 2 (.int .i64 r.t) (by rfl)
  go_wp2_with fail
  have W := hide (wnum_any g 4 r.t.toNat (([] ++ beB 1 4) ++ beB 8 r.l) _ H2.out.1 (by omega) (by omega) (by first | (simp only [List.length_append, beB_length, List.length_nil]; done) | (simp only [List.length_append, beB_length, List.length_nil]; omega)))
  rw [Int.toNat_of_nonneg (by omega)] at W
  refine W.out.mono ?_
  clear W
  rintro e y3 ⟨rfl, hw, hm⟩
  have H3 := hide (H2.out.step hw hm hA.out)
  clear hw hm H2
  clear c2
  have c3 := H3.out.2.2.1.cell 3 (.int .u64 (r.p : Int)) (by rfl)
  have c0 := H3.out.2.2.1.cell 0 (.int .i64 4) (by rw [← hk]; rfl)
  go_wp2_with fail
  refine (wnum_any g 8 r.p ((([] ++ beB 1 4) ++ beB 8 r.l) ++ beB 4 r.t.toNat) _ H3.out.1 (by omega) (by omega) (by first | (simp only [List.length_append, beB_length, List.length_nil]; done) | (simp only [List.length_append, beB_length, List.length_nil]; omega))).mono ?_
  rintro e y4 ⟨rfl, hw, hm⟩
  have H4 := hide (H3.out.step hw hm hA.out)
  clear hw hm H3
  clear c3 c0
  have hrb : (((([] ++ beB 1 4) ++ beB 8 r.l) ++ beB 4 r.t.toNat) ++ beB 8 r.p) = recB r := by
    unfold recB mayB
    rw [hk]
    simp
  have HX := hide (HCX.out _ _ H4.out)
  obtain ⟨v, hrow, hown⟩ := H4.out.1
  have HO := hide hown
  have HRO := hide hrow
  have HRB := hide hrb
  have c0 := H4.out.2.2.1.cell 0 (.int .i64 4) (by rw [← hk]; rfl)
  clear hown hrow hrb H4 hA HIN HCX HBX
  obtain ⟨a, c, hv⟩ := own_shape HO.out
  have HV := hide hv
  clear hv
  go_wp2_with (refine wpList_load_val rfl 61 (.tmp 55) rfl _ v rfl (load_b8 _ v a _ c HV.out (HRO.out.cell 0 v rfl)) ?_)
  (try simp only [Exit.inBlock, Exit.then])
  refine bodyPost_ret (results_tmp2 rfl _ _ _) rfl ?_
  refine ⟨⟨v, rfl, ?_⟩, HX.out⟩
  have ho := HO.out
  rw [HRB.out] at ho
  exact enc_in ho
end Go.Proofs.Ytmdhnfeepadfaaa

/-
  The contract of record.Encode, kind 5.
-/
namespace Go.Proofs.Ytmdhnfeepadfaaa
open Go.RowKit
set_option linter.unusedVariables false

set_option maxRecDepth 4000 in
set_option maxHeartbeats 1600000 in
theorem enc_5 (r : Rec) (va vb : Value) (w : World) (hr : r.right) (hk : r.k = 5) (hf : r.fits) (hin : RcIn w r va vb) :
    Calls Try.prog 53 #[.agg (rcA r va vb)] w fun e w' => (∃ v, e = .returned (.tuple #[v, .int .i64 0]) ∧ EncIn w' v (recB r)) ∧ Below w.heap.size w w' := by
  have HIN := hide hin
  have HRT := hide (fun w h => right_at r va vb w true (hide ⟨fun _ => hr, fun _ => rfl⟩) hf h)
  obtain ⟨⟨e1, cap1, rfl, -⟩, ⟨e2, cap2, rfl, -⟩⟩ := hin
  have HK0 := hide (Keeps.one w 28 (rcA r (.slice e1 r.ts.length cap1) (.slice e2 r.ds.length cap2)))
  have HRR := hide hr
  have hlm : r.l ≤ 4611686018427387904 := hr.lm
  have hbs := enc_bounds hr
  obtain ⟨b1, b2, b3, b4, b5, b6⟩ := hbs
  go_enter Try.func53, Try.ntmps53
  go_wp2_with (refine wpList_load_at rfl 28 (.tmp 1) rfl w.heap.size rfl (rcA r (.slice e1 r.ts.length cap1) (.slice e2 r.ds.length cap2)) HK0.out.1.1 _ Try.underlying28 rfl infoRc ?_)
  refine (HRT.out _ (HIN.out.below HK0.out.2)).mono ?_
  rintro e x0 ⟨rfl, hb0⟩
  have HK1 := hide (HK0.out.later hb0)
  clear HK0 hb0 HRT
  obtain ⟨g, hg⟩ : ∃ g, g = x0.heap.size := ⟨_, rfl⟩
  have hbl := (Below.refl x0.heap.size x0).alloc (Nat.le_refl _) (.cells #[.slice none 0 0] 109)
  have HW0 : Hid (WK g x0 (x0.alloc (.cells #[.slice none 0 0] 109)) [] [(w.heap.size, 28, (rcA r (.slice e1 r.ts.length cap1) (.slice e2 r.ds.length cap2)))]) := by
    rw [hg]
    exact ⟨⟨.slice none 0 0, RowAt.new _ _ _, World.ownsRow_nil _ _ _ _⟩, Mv.later (Nat.le_refl _) hbl, HK1.out.1.1.later hbl, trivial⟩
  have hA : Hid (Aside g [(w.heap.size, 28, (rcA r (.slice e1 r.ts.length cap1) (.slice e2 r.ds.length cap2)))]) := fun e he => by
    simp only [List.mem_cons, List.not_mem_nil, or_false] at he
    subst he
    exact ⟨by show w.heap.size ≠ g; have := HK1.out.1.1.lt; rw [hg]; exact Nat.ne_of_lt this, by show (28 : TypeId) ≠ 5; decide⟩
  have HBX := hide HK1.out.2
  have HGW : Hid (w.heap.size ≤ g) := by show w.heap.size ≤ g; rw [hg]; exact HBX.out.size
  have HCX := hide (fun (y : World) (bs : List UInt8) (h : WK g x0 y bs [(w.heap.size, 28, (rcA r (.slice e1 r.ts.length cap1) (.slice e2 r.ds.length cap2)))]) => (HBX.out.trans (h.2.1.below.mono HGW.out) : Below w.heap.size w y))
  have c0 := HW0.out.2.2.1.cell 0 (.int .i64 5) (by rw [← hk]; rfl)
  clear hbl HK1
  go_wp2_with fail
  rw [← hg]
  refine gen_calls (fun x => Hid (WK g x0 x [] [(w.heap.size, 28, (rcA r (.slice e1 r.ts.length cap1) (.slice e2 r.ds.length cap2)))])) (by rw [hg]; rw [hg] at HW0; exact HW0) ?_
  clear HW0 c0 hg
  intro y0 H0
  refine (wnum_any g 1 5 [] _ H0.out.1 (by omega) (by omega) (Nat.zero_le _)).mono ?_
  rintro e y1 ⟨rfl, hw, hm⟩
  have H1 := hide (H0.out.step hw hm hA.out)
  clear hw hm H0
  have c1 := H1.out.2.2.1.cell 1 (.int .u64 (r.l : Int)) (by rfl)
  go_wp2_with fail
  refine (wnum_any g 8 r.l ([] ++ beB 1 5) _ H1.out.1 (by omega) (by omega) (by first | (simp only [List.length_append, beB_length, List.length_nil]; done) | (simp only [List.length_append, beB_length, List.length_nil]; omega))).mono ?_
  rintro e y2 ⟨rfl, hw, hm⟩
  have H2 := hide (H1.out.step hw hm hA.out)
  clear hw hm H1
  clear c1
  have c2 := H2.out.2.2.1.cell 2 (.int .i64 r.t) (by rfl)
  go_wp2_with fail
  have W := hide (wnum_any g 4 r.t.toNat (([] ++ beB 1 5) ++ beB 8 r.l) _ H2.out.1 (by omega) (by omega) (by first | (simp only [List.length_append, beB_length, List.length_nil]; done) | (simp only [List.length_append, beB_length, List.length_nil]; omega)))
  rw [Int.toNat_of_nonneg (by omega)] at W
  refine W.out.mono ?_
  clear W
  rintro e y3 ⟨rfl, hw, hm⟩
  have H3 := hide (H2.out.step hw hm hA.out)
  clear hw hm H2
  clear c2
  have c3 := H3.out.2.2.1.cell 3 (.int .u64 (r.p : Int)) (by rfl)
  have c0 := H3.out.2.2.1.cell 0 (.int .i64 5) (by rw [← hk]; rfl)
  go_wp2_with fail
  refine (wnum_any g 8 r.p ((([] ++ beB 1 5) ++ beB 8 r.l) ++ beB 4 r.t.toNat) _ H3.out.1 (by omega) (by omega) (by first | (simp only [List.length_append, beB_length, List.length_nil]; done) | (simp only [List.length_append, beB_length, List.length_nil]; omega))).mono ?_
  rintro e y4 ⟨rfl, hw, hm⟩
  have H4 := hide (H3.out.step hw hm hA.out)
  clear hw hm H3
  clear c3 c0
  have hrb : (((([] ++ beB 1 5) ++ beB 8 r.l) ++ beB 4 r.t.toNat) ++ beB 8 r.p) = recB r := by
    unfold recB mayB
    rw [hk]
    simp
  have HX := hide (HCX.out _ _ H4.out)
  obtain ⟨v, hrow, hown⟩ := H4.out.1
  have HO := hide hown
  have HRO := hide hrow
  have HRB := hide hrb
  have c0 := H4.out.2.2.1.cell 0 (.int .i64 5) (by rw [← hk]; rfl)
  clear hown hrow hrb H4 hA HIN HCX HBX
  obtain ⟨a, c, hv⟩ := own_shape HO.out
  have HV := hide hv
  clear hv
  go_wp2_with (refine wpList_load_val rfl 61 (.tmp 55) rfl _ v rfl (load_b8 _ v a _ c HV.out (HRO.out.cell 0 v rfl)) ?_)
  (try simp only [Exit.inBlock, Exit.then])
  refine bodyPost_ret (results_tmp2 rfl _ _ _) rfl ?_
  refine ⟨⟨v, rfl, ?_⟩, HX.out⟩
  have ho := HO.out
  rw [HRB.out] at ho
  exact enc_in ho
end Go.Proofs.Ytmdhnfeepadfaaa

/-
  The contract of record.Encode, kind 6.
-/
namespace Go.Proofs.Ytmdhnfeepadfaaa
open Go.RowKit
set_option linter.unusedVariables false

set_option maxRecDepth 4000 in
set_option maxHeartbeats 1600000 in
theorem enc_6 (r : Rec) (va vb : Value) (w : World) (hr : r.right) (hk : r.k = 6) (hf : r.fits) (hin : RcIn w r va vb) :
    Calls Try.prog 53 #[.agg (rcA r va vb)] w fun e w' => (∃ v, e = .returned (.tuple #[v, .int .i64 0]) ∧ EncIn w' v (recB r)) ∧ Below w.heap.size w w' := by
  have HIN := hide hin
  have HRT := hide (fun w h => right_at r va vb w true (hide ⟨fun _ => hr, fun _ => rfl⟩) hf h)
  obtain ⟨⟨e1, cap1, rfl, -⟩, ⟨e2, cap2, rfl, -⟩⟩ := hin
  have HK0 := hide (Keeps.one w 28 (rcA r (.slice e1 r.ts.length cap1) (.slice e2 r.ds.length cap2)))
  have HRR := hide hr
  have hlm : r.l ≤ 4611686018427387904 := hr.lm
  have hbs := enc_bounds hr
  obtain ⟨b1, b2, b3, b4, b5, b6⟩ := hbs
  go_enter Try.func53, Try.ntmps53
  go_wp2_with (refine wpList_load_at rfl 28 (.tmp 1) rfl w.heap.size rfl (rcA r (.slice e1 r.ts.length cap1) (.slice e2 r.ds.length cap2)) HK0.out.1.1 _ Try.underlying28 rfl infoRc ?_)
  refine (HRT.out _ (HIN.out.below HK0.out.2)).mono ?_
  rintro e x0 ⟨rfl, hb0⟩
  have HK1 := hide (HK0.out.later hb0)
  clear HK0 hb0 HRT
  obtain ⟨g, hg⟩ : ∃ g, g = x0.heap.size := ⟨_, rfl⟩
  have hbl := (Below.refl x0.heap.size x0).alloc (Nat.le_refl _) (.cells #[.slice none 0 0] 109)
  have HW0 : Hid (WK g x0 (x0.alloc (.cells #[.slice none 0 0] 109)) [] [(w.heap.size, 28, (rcA r (.slice e1 r.ts.length cap1) (.slice e2 r.ds.length cap2)))]) := by
    rw [hg]
    exact ⟨⟨.slice none 0 0, RowAt.new _ _ _, World.ownsRow_nil _ _ _ _⟩, Mv.later (Nat.le_refl _) hbl, HK1.out.1.1.later hbl, trivial⟩
  have hA : Hid (Aside g [(w.heap.size, 28, (rcA r (.slice e1 r.ts.length cap1) (.slice e2 r.ds.length cap2)))]) := fun e he => by
    simp only [List.mem_cons, List.not_mem_nil, or_false] at he
    subst he
    exact ⟨by show w.heap.size ≠ g; have := HK1.out.1.1.lt; rw [hg]; exact Nat.ne_of_lt this, by show (28 : TypeId) ≠ 5; decide⟩
  have HBX := hide HK1.out.2
  have HGW : Hid (w.heap.size ≤ g) := by show w.heap.size ≤ g; rw [hg]; exact HBX.out.size
  have HCX := hide (fun (y : World) (bs : List UInt8) (h : WK g x0 y bs [(w.heap.size, 28, (rcA r (.slice e1 r.ts.length cap1) (.slice e2 r.ds.length cap2)))]) => (HBX.out.trans (h.2.1.below.mono HGW.out) : Below w.heap.size w y))
  have c0 := HW0.out.2.2.1.cell 0 (.int .i64 6) (by rw [← hk]; rfl)
  clear hbl HK1
  go_wp2_with fail
  rw [← hg]
  refine gen_calls (fun x => Hid (WK g x0 x [] [(w.heap.size, 28, (rcA r (.slice e1 r.ts.length cap1) (.slice e2 r.ds.length cap2)))])) (by rw [hg]; rw [hg] at HW0; exact HW0) ?_
  clear HW0 c0 hg
  intro y0 H0
  refine (wnum_any g 1 6 [] _ H0.out.1 (by omega) (by omega) (Nat.zero_le _)).mono ?_
  rintro e y1 ⟨rfl, hw, hm⟩
  have H1 := hide (H0.out.step hw hm hA.out)
  clear hw hm H0
  have c1 := H1.out.2.2.1.cell 1 (.int .u64 (r.l : Int)) (by rfl)
  go_wp2_with fail
  refine (wnum_any g 8 r.l ([] ++ beB 1 6) _ H1.out.1 (by omega) (by omega) (by first | (simp only [List.length_append, beB_length, List.length_nil]; done) | (simp only [List.length_append, beB_length, List.length_nil]; omega))).mono ?_
  rintro e y2 ⟨rfl, hw, hm⟩
  have H2 := hide (H1.out.step hw hm hA.out)
  clear hw hm H1
  clear c1
  have c2 := H2.out.2.2.1.cell 2 (.int .i64 r.t) (by rfl)
  go_wp2_with fail
  have W := hide (wnum_any g 4 r.t.toNat (([] ++ beB 1 6) ++ beB 8 r.l) _ H2.out.1 (by omega) (by omega) (by first | (simp only [List.length_append, beB_length, List.length_nil]; done) | (simp only [List.length_append, beB_length, List.length_nil]; omega)))
  rw [Int.toNat_of_nonneg (by omega)] at W
  refine W.out.mono ?_
  clear W
  rintro e y3 ⟨rfl, hw, hm⟩
  have H3 := hide (H2.out.step hw hm hA.out)
  clear hw hm H2
  clear c2
  have c3 := H3.out.2.2.1.cell 3 (.int .u64 (r.p : Int)) (by rfl)
  have c0 := H3.out.2.2.1.cell 0 (.int .i64 6) (by rw [← hk]; rfl)
  go_wp2_with fail
  refine (wnum_any g 8 r.p ((([] ++ beB 1 6) ++ beB 8 r.l) ++ beB 4 r.t.toNat) _ H3.out.1 (by omega) (by omega) (by first | (simp only [List.length_append, beB_length, List.length_nil]; done) | (simp only [List.length_append, beB_length, List.length_nil]; omega))).mono ?_
  rintro e y4 ⟨rfl, hw, hm⟩
  have H4 := hide (H3.out.step hw hm hA.out)
  clear hw hm H3
  clear c3 c0
  have c10 := H4.out.2.2.1.cell 10 (.int .i64 r.s) (by rfl)
  have c0 := H4.out.2.2.1.cell 0 (.int .i64 6) (by rw [← hk]; rfl)
  go_wp2_with fail
  have W := hide (wnum_any g 1 r.s.toNat (((([] ++ beB 1 6) ++ beB 8 r.l) ++ beB 4 r.t.toNat) ++ beB 8 r.p) _ H4.out.1 (by omega) (by omega) (by first | (simp only [List.length_append, beB_length, List.length_nil]; done) | (simp only [List.length_append, beB_length, List.length_nil]; omega)))
  rw [Int.toNat_of_nonneg (by omega)] at W
  refine W.out.mono ?_
  clear W
  rintro e y5 ⟨rfl, hw, hm⟩
  have H5 := hide (H4.out.step hw hm hA.out)
  clear hw hm H4
  clear c10 c0
  have hrb : ((((([] ++ beB 1 6) ++ beB 8 r.l) ++ beB 4 r.t.toNat) ++ beB 8 r.p) ++ beB 1 r.s.toNat) = recB r := by
    unfold recB mayB
    rw [hk]
    simp
  have HX := hide (HCX.out _ _ H5.out)
  obtain ⟨v, hrow, hown⟩ := H5.out.1
  have HO := hide hown
  have HRO := hide hrow
  have HRB := hide hrb
  clear hown hrow hrb H5 hA HIN HCX HBX
  obtain ⟨a, c, hv⟩ := own_shape HO.out
  have HV := hide hv
  clear hv
  go_wp2_with (refine wpList_load_val rfl 61 (.tmp 55) rfl _ v rfl (load_b8 _ v a _ c HV.out (HRO.out.cell 0 v rfl)) ?_)
  (try simp only [Exit.inBlock, Exit.then])
  refine bodyPost_ret (results_tmp2 rfl _ _ _) rfl ?_
  refine ⟨⟨v, rfl, ?_⟩, HX.out⟩
  have ho := HO.out
  rw [HRB.out] at ho
  exact enc_in ho
end Go.Proofs.Ytmdhnfeepadfaaa

/-
  The contract of record.Encode, kind 7.
-/
namespace Go.Proofs.Ytmdhnfeepadfaaa
open Go.RowKit
set_option linter.unusedVariables false

set_option maxRecDepth 4000 in
set_option maxHeartbeats 1600000 in
theorem enc_7 (r : Rec) (va vb : Value) (w : World) (hr : r.right) (hk : r.k = 7) (hf : r.fits) (hin : RcIn w r va vb) :
    Calls Try.prog 53 #[.agg (rcA r va vb)] w fun e w' => (∃ v, e = .returned (.tuple #[v, .int .i64 0]) ∧ EncIn w' v (recB r)) ∧ Below w.heap.size w w' := by
  have HIN := hide hin
  have HRT := hide (fun w h => right_at r va vb w true (hide ⟨fun _ => hr, fun _ => rfl⟩) hf h)
  obtain ⟨⟨e1, cap1, rfl, -⟩, ⟨e2, cap2, rfl, -⟩⟩ := hin
  have HK0 := hide (Keeps.one w 28 (rcA r (.slice e1 r.ts.length cap1) (.slice e2 r.ds.length cap2)))
  have HRR := hide hr
  have hlm : r.l ≤ 4611686018427387904 := hr.lm
  have hbs := enc_bounds hr
  obtain ⟨b1, b2, b3, b4, b5, b6⟩ := hbs
  go_enter Try.func53, Try.ntmps53
  go_wp2_with (refine wpList_load_at rfl 28 (.tmp 1) rfl w.heap.size rfl (rcA r (.slice e1 r.ts.length cap1) (.slice e2 r.ds.length cap2)) HK0.out.1.1 _ Try.underlying28 rfl infoRc ?_)
  refine (HRT.out _ (HIN.out.below HK0.out.2)).mono ?_
  rintro e x0 ⟨rfl, hb0⟩
  have HK1 := hide (HK0.out.later hb0)
  clear HK0 hb0 HRT
  obtain ⟨g, hg⟩ : ∃ g, g = x0.heap.size := ⟨_, rfl⟩
  have hbl := (Below.refl x0.heap.size x0).alloc (Nat.le_refl _) (.cells #[.slice none 0 0] 109)
  have HW0 : Hid (WK g x0 (x0.alloc (.cells #[.slice none 0 0] 109)) [] [(w.heap.size, 28, (rcA r (.slice e1 r.ts.length cap1) (.slice e2 r.ds.length cap2)))]) := by
    rw [hg]
    exact ⟨⟨.slice none 0 0, RowAt.new _ _ _, World.ownsRow_nil _ _ _ _⟩, Mv.later (Nat.le_refl _) hbl, HK1.out.1.1.later hbl, trivial⟩
  have hA : Hid (Aside g [(w.heap.size, 28, (rcA r (.slice e1 r.ts.length cap1) (.slice e2 r.ds.length cap2)))]) := fun e he => by
    simp only [List.mem_cons, List.not_mem_nil, or_false] at he
    subst he
    exact ⟨by show w.heap.size ≠ g; have := HK1.out.1.1.lt; rw [hg]; exact Nat.ne_of_lt this, by show (28 : TypeId) ≠ 5; decide⟩
  have HBX := hide HK1.out.2
  have HGW : Hid (w.heap.size ≤ g) := by show w.heap.size ≤ g; rw [hg]; exact HBX.out.size
  have HCX := hide (fun (y : World) (bs : List UInt8) (h : WK g x0 y bs [(w.heap.size, 28, (rcA r (.slice e1 r.ts.length cap1) (.slice e2 r.ds.length cap2)))]) => (HBX.out.trans (h.2.1.below.mono HGW.out) : Below w.heap.size w y))
  have c0 := HW0.out.2.2.1.cell 0 (.int .i64 7) (by rw [← hk]; rfl)
  clear hbl HK1
  go_wp2_with fail
  rw [← hg]
  refine gen_calls (fun x => Hid (WK g x0 x [] [(w.heap.size, 28, (rcA r (.slice e1 r.ts.length cap1) (.slice e2 r.ds.length cap2)))])) (by rw [hg]; rw [hg] at HW0; exact HW0) ?_
  clear HW0 c0 hg
  intro y0 H0
  refine (wnum_any g 1 7 [] _ H0.out.1 (by omega) (by omega) (Nat.zero_le _)).mono ?_
  rintro e y1 ⟨rfl, hw, hm⟩
  have H1 := hide (H0.out.step hw hm hA.out)
  clear hw hm H0
  have c1 := H1.out.2.2.1.cell 1 (.int .u64 (r.l : Int)) (by rfl)
  go_wp2_with fail
  refine (wnum_any g 8 r.l ([] ++ beB 1 7) _ H1.out.1 (by omega) (by omega) (by first | (simp only [List.length_append, beB_length, List.length_nil]; done) | (simp only [List.length_append, beB_length, List.length_nil]; omega))).mono ?_
  rintro e y2 ⟨rfl, hw, hm⟩
  have H2 := hide (H1.out.step hw hm hA.out)
  clear hw hm H1
  clear c1
  have c2 := H2.out.2.2.1.cell 2 (.int .i64 r.t) (by rfl)
  go_wp2_with fail
  have W := hide (wnum_any g 4 r.t.toNat (([] ++ beB 1 7) ++ beB 8 r.l) _ H2.out.1 (by omega) (by omega) (by first | (simp only [List.length_append, beB_length, List.length_nil]; done) | (simp only [List.length_append, beB_length, List.length_nil]; omega)))
  rw [Int.toNat_of_nonneg (by omega)] at W
  refine W.out.mono ?_
  clear W
  rintro e y3 ⟨rfl, hw, hm⟩
  have H3 := hide (H2.out.step hw hm hA.out)
  clear hw hm H2
  clear c2
  have c3 := H3.out.2.2.1.cell 3 (.int .u64 (r.p : Int)) (by rfl)
  have c0 := H3.out.2.2.1.cell 0 (.int .i64 7) (by rw [← hk]; rfl)
  go_wp2_with fail
  refine (wnum_any g 8 r.p ((([] ++ beB 1 7) ++ beB 8 r.l) ++ beB 4 r.t.toNat) _ H3.out.1 (by omega) (by omega) (by first | (simp only [List.length_append, beB_length, List.length_nil]; done) | (simp only [List.length_append, beB_length, List.length_nil]; omega))).mono ?_
  rintro e y4 ⟨rfl, hw, hm⟩
  have H4 := hide (H3.out.step hw hm hA.out)
  clear hw hm H3
  clear c3 c0
  have hrb : (((([] ++ beB 1 7) ++ beB 8 r.l) ++ beB 4 r.t.toNat) ++ beB 8 r.p) = recB r := by
    unfold recB mayB
    rw [hk]
    simp
  have HX := hide (HCX.out _ _ H4.out)
  obtain ⟨v, hrow, hown⟩ := H4.out.1
  have HO := hide hown
  have HRO := hide hrow
  have HRB := hide hrb
  have c0 := H4.out.2.2.1.cell 0 (.int .i64 7) (by rw [← hk]; rfl)
  clear hown hrow hrb H4 hA HIN HCX HBX
  obtain ⟨a, c, hv⟩ := own_shape HO.out
  have HV := hide hv
  clear hv
  go_wp2_with (refine wpList_load_val rfl 61 (.tmp 55) rfl _ v rfl (load_b8 _ v a _ c HV.out (HRO.out.cell 0 v rfl)) ?_)
  (try simp only [Exit.inBlock, Exit.then])
  refine bodyPost_ret (results_tmp2 rfl _ _ _) rfl ?_
  refine ⟨⟨v, rfl, ?_⟩, HX.out⟩
  have ho := HO.out
  rw [HRB.out] at ho
  exact enc_in ho
end Go.Proofs.Ytmdhnfeepadfaaa

/-
  The contract of record.Encode, kind 8.
-/
namespace Go.Proofs.Ytmdhnfeepadfaaa
open Go.RowKit
set_option linter.unusedVariables false

set_option maxRecDepth 4000 in
set_option maxHeartbeats 1600000 in
theorem enc_8 (r : Rec) (va vb : Value) (w : World) (hr : r.right) (hk : r.k = 8) (hf : r.fits) (hin : RcIn w r va vb) :
    Calls Try.prog 53 #[.agg (rcA r va vb)] w fun e w' => (∃ v, e = .returned (.tuple #[v, .int .i64 0]) ∧ EncIn w' v (recB r)) ∧ Below w.heap.size w w' := by
  have HIN := hide hin
  have HRT := hide (fun w h => right_at r va vb w true (hide ⟨fun _ => hr, fun _ => rfl⟩) hf h)
  obtain ⟨⟨e1, cap1, rfl, -⟩, ⟨e2, cap2, rfl, -⟩⟩ := hin
  have HK0 := hide (Keeps.one w 28 (rcA r (.slice e1 r.ts.length cap1) (.slice e2 r.ds.length cap2)))
  have HRR := hide hr
  have hlm : r.l ≤ 4611686018427387904 := hr.lm
  have hbs := enc_bounds hr
  obtain ⟨b1, b2, b3, b4, b5, b6⟩ := hbs
  go_enter Try.func53, Try.ntmps53
  go_wp2_with (refine wpList_load_at rfl 28 (.tmp 1) rfl w.heap.size rfl (rcA r (.slice e1 r.ts.length cap1) (.slice e2 r.ds.length cap2)) HK0.out.1.1 _ Try.underlying28 rfl infoRc ?_)
  refine (HRT.out _ (HIN.out.below HK0.out.2)).mono ?_
  rintro e x0 ⟨rfl, hb0⟩
  have HK1 := hide (HK0.out.later hb0)
  clear HK0 hb0 HRT
  obtain ⟨g, hg⟩ : ∃ g, g = x0.heap.size := ⟨_, rfl⟩
  have hbl := (Below.refl x0.heap.size x0).alloc (Nat.le_refl _) (.cells #[.slice none 0 0] 109)
  have HW0 : Hid (WK g x0 (x0.alloc (.cells #[.slice none 0 0] 109)) [] [(w.heap.size, 28, (rcA r (.slice e1 r.ts.length cap1) (.slice e2 r.ds.length cap2)))]) := by
    rw [hg]
    exact ⟨⟨.slice none 0 0, RowAt.new _ _ _, World.ownsRow_nil _ _ _ _⟩, Mv.later (Nat.le_refl _) hbl, HK1.out.1.1.later hbl, trivial⟩
  have hA : Hid (Aside g [(w.heap.size, 28, (rcA r (.slice e1 r.ts.length cap1) (.slice e2 r.ds.length cap2)))]) := fun e he => by
    simp only [List.mem_cons, List.not_mem_nil, or_false] at he
    subst he
    exact ⟨by show w.heap.size ≠ g; have := HK1.out.1.1.lt; rw [hg]; exact Nat.ne_of_lt this, by show (28 : TypeId) ≠ 5; decide⟩
  have HBX := hide HK1.out.2
  have HGW : Hid (w.heap.size ≤ g) := by show w.heap.size ≤ g; rw [hg]; exact HBX.out.size
  have HCX := hide (fun (y : World) (bs : List UInt8) (h : WK g x0 y bs [(w.heap.size, 28, (rcA r (.slice e1 r.ts.length cap1) (.slice e2 r.ds.length cap2)))]) => (HBX.out.trans (h.2.1.below.mono HGW.out) : Below w.heap.size w y))
  have c0 := HW0.out.2.2.1.cell 0 (.int .i64 8) (by rw [← hk]; rfl)
  clear hbl HK1
  go_wp2_with fail
  rw [← hg]
  refine gen_calls (fun x => Hid (WK g x0 x [] [(w.heap.size, 28, (rcA r (.slice e1 r.ts.length cap1) (.slice e2 r.ds.length cap2)))])) (by rw [hg]; rw [hg] at HW0; exact HW0) ?_
  clear HW0 c0 hg
  intro y0 H0
  refine (wnum_any g 1 8 [] _ H0.out.1 (by omega) (by omega) (Nat.zero_le _)).mono ?_
  rintro e y1 ⟨rfl, hw, hm⟩
  have H1 := hide (H0.out.step hw hm hA.out)
  clear hw hm H0
  have c1 := H1.out.2.2.1.cell 1 (.int .u64 (r.l : Int)) (by rfl)
  go_wp2_with fail
  refine (wnum_any g 8 r.l ([] ++ beB 1 8) _ H1.out.1 (by omega) (by omega) (by first | (simp only [List.length_append, beB_length, List.length_nil]; done) | (simp only [List.length_append, beB_length, List.length_nil]; omega))).mono ?_
  rintro e y2 ⟨rfl, hw, hm⟩
  have H2 := hide (H1.out.step hw hm hA.out)
  clear hw hm H1
  clear c1
  have c2 := H2.out.2.2.1.cell 2 (.int .i64 r.t) (by rfl)
  go_wp2_with fail
  have W := hide (wnum_any g 4 r.t.toNat (([] ++ beB 1 8) ++ beB 8 r.l) _ H2.out.1 (by omega) (by omega) (by first | (simp only [List.length_append, beB_length, List.length_nil]; done) | (simp only [List.length_append, beB_length, List.length_nil]; omega)))
  rw [Int.toNat_of_nonneg (by omega)] at W
  refine W.out.mono ?_
  clear W
  rintro e y3 ⟨rfl, hw, hm⟩
  have H3 := hide (H2.out.step hw hm hA.out)
  clear hw hm H2
  clear c2
  have c3 := H3.out.2.2.1.cell 3 (.int .u64 (r.p : Int)) (by rfl)
  have c0 := H3.out.2.2.1.cell 0 (.int .i64 8) (by rw [← hk]; rfl)
  go_wp2_with fail
  refine (wnum_any g 8 r.p ((([] ++ beB 1 8) ++ beB 8 r.l) ++ beB 4 r.t.toNat) _ H3.out.1 (by omega) (by omega) (by first | (simp only [List.length_append, beB_length, List.length_nil]; done) | (simp only [List.length_append, beB_length, List.length_nil]; omega))).mono ?_
  rintro e y4 ⟨rfl, hw, hm⟩
  have H4 := hide (H3.out.step hw hm hA.out)
  clear hw hm H3
  clear c3 c0
  have c11 := H4.out.2.2.1.cell 11 (.int .u64 (r.b : Int)) (by rfl)
  have c0 := H4.out.2.2.1.cell 0 (.int .i64 8) (by rw [← hk]; rfl)
  go_wp2_with fail
  refine (wnum_any g 8 r.b (((([] ++ beB 1 8) ++ beB 8 r.l) ++ beB 4 r.t.toNat) ++ beB 8 r.p) _ H4.out.1 (by omega) (by omega) (by first | (simp only [List.length_append, beB_length, List.length_nil]; done) | (simp only [List.length_append, beB_length, List.length_nil]; omega))).mono ?_
  rintro e y5 ⟨rfl, hw, hm⟩
  have H5 := hide (H4.out.step hw hm hA.out)
  clear hw hm H4
  clear c11 c0
  have c12 := H5.out.2.2.1.cell 12 (.slice e1 r.ts.length cap1) (by rfl)
  go_wp2_with fail
  refine (wtxns_any g _ r.ts ((((([] ++ beB 1 8) ++ beB 8 r.l) ++ beB 4 r.t.toNat) ++ beB 8 r.p) ++ beB 8 r.b) w _ H5.out.1 HGW.out (HCX.out _ _ H5.out) HIN.out.1 (enc_txs HRR.out hk) (HRR.out.check hk).1 (by first | (simp only [List.length_append, beB_length, List.length_nil]; done) | (simp only [List.length_append, beB_length, List.length_nil]; omega))).mono ?_
  rintro e y6 ⟨rfl, hw, hm⟩
  have H6 := hide (H5.out.step hw hm hA.out)
  clear hw hm H5
  clear c12
  have c13 := H6.out.2.2.1.cell 13 (.slice e2 r.ds.length cap2) (by rfl)
  go_wp2_with fail
  refine (wdirty_any g _ r.ds (((((([] ++ beB 1 8) ++ beB 8 r.l) ++ beB 4 r.t.toNat) ++ beB 8 r.p) ++ beB 8 r.b) ++ (beB 1 r.ts.length ++ txsB r.ts)) w _ H6.out.1 HGW.out (HCX.out _ _ H6.out) HIN.out.2 (enc_dis HRR.out hk) (HRR.out.check hk).2.1 (by first | (simp only [List.length_append, beB_length, List.length_nil, txsB_len]; done) | (simp only [List.length_append, beB_length, List.length_nil, txsB_len]; omega))).mono ?_
  rintro e y7 ⟨rfl, hw, hm⟩
  have H7 := hide (H6.out.step hw hm hA.out)
  clear hw hm H6
  clear c13
  have hrb : ((((((([] ++ beB 1 8) ++ beB 8 r.l) ++ beB 4 r.t.toNat) ++ beB 8 r.p) ++ beB 8 r.b) ++ (beB 1 r.ts.length ++ txsB r.ts)) ++ (beB 1 r.ds.length ++ disB r.ds)) = recB r := by
    unfold recB mayB
    rw [hk]
    simp [checkB]
  have HX := hide (HCX.out _ _ H7.out)
  obtain ⟨v, hrow, hown⟩ := H7.out.1
  have HO := hide hown
  have HRO := hide hrow
  have HRB := hide hrb
  clear hown hrow hrb H7 hA HIN HCX HBX
  obtain ⟨a, c, hv⟩ := own_shape HO.out
  have HV := hide hv
  clear hv
  go_wp2_with (refine wpList_load_val rfl 61 (.tmp 55) rfl _ v rfl (load_b8 _ v a _ c HV.out (HRO.out.cell 0 v rfl)) ?_)
  (try simp only [Exit.inBlock, Exit.then])
  refine bodyPost_ret (results_tmp2 rfl _ _ _) rfl ?_
  refine ⟨⟨v, rfl, ?_⟩, HX.out⟩
  have ho := HO.out
  rw [HRB.out] at ho
  exact enc_in ho
end Go.Proofs.Ytmdhnfeepadfaaa

/-
  The contract of quaysideref06.Right, of changes.
-/
namespace Go.Proofs.Ytmdhnfeepadfaaa
open Go.RowKit
set_option linter.unusedVariables false

end Go.Proofs.Ytmdhnfeepadfaaa
