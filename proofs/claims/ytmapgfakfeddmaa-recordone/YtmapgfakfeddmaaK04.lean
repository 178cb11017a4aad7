/-
  Texts that lean on one another, one behind the other: each opens with its own remark.
-/
import Derived.Test.YtmapgfakfeddmaaK03
import Derived.Test.YtmapgfakfeddmaaK00

/-
  The contract of record.Encode, kind 8.
-/
namespace Go.Proofs.Ytmapgfakfeddmaa
open Go.RowKit
set_option linter.unusedVariables false

set_option maxRecDepth 4000 in
set_option maxHeartbeats 1600000 in
theorem enc_8 (r : Rec) (va vb : Value) (w : World) (hr : r.right) (hk : r.k = 8) (hf : r.fits) (hin : RcIn w r va vb) :
    Calls Try.prog 10 #[.agg (rcA r va vb)] w fun e w' => (∃ v, e = .returned (.tuple #[v, .int .i64 0]) ∧ EncIn w' v (recB r)) ∧ Below w.heap.size w w' := by
  have HIN := hide hin
  have HRT := hide (fun w h => right_at r va vb w true (hide ⟨fun _ => hr, fun _ => rfl⟩) hf h)
  obtain ⟨⟨e1, cap1, rfl, -⟩, ⟨e2, cap2, rfl, -⟩⟩ := hin
  have HK0 := hide (Keeps.one w 28 (rcA r (.slice e1 r.ts.length cap1) (.slice e2 r.ds.length cap2)))
  have HRR := hide hr
  have hlm : r.l ≤ 4611686018427387904 := hr.lm
  have hbs := enc_bounds hr
  obtain ⟨b1, b2, b3, b4, b5, b6⟩ := hbs
  go_enter Try.func10, Try.ntmps10
  go_wp2_with (refine wpList_load_at rfl 28 (.tmp 1) rfl w.heap.size rfl (rcA r (.slice e1 r.ts.length cap1) (.slice e2 r.ds.length cap2)) HK0.out.1.1 _ Try.underlying28 rfl infoRc ?_)
  refine (HRT.out _ (HIN.out.below HK0.out.2)).mono ?_
  rintro e x0 ⟨rfl, hb0⟩
  have HK1 := hide (HK0.out.later hb0)
  clear HK0 hb0 HRT
  obtain ⟨g, hg⟩ : ∃ g, g = x0.heap.size := ⟨_, rfl⟩
  have hbl := (Below.refl x0.heap.size x0).alloc (Nat.le_refl _) (.cells #[.slice none 0 0] 47)
  have HW0 : Hid (WK g x0 (x0.alloc (.cells #[.slice none 0 0] 47)) [] [(w.heap.size, 28, (rcA r (.slice e1 r.ts.length cap1) (.slice e2 r.ds.length cap2)))]) := by
    rw [hg]
    exact ⟨⟨.slice none 0 0, RowAt.new _ _ _, World.ownsRow_nil _ _ _ _⟩, Mv.later (Nat.le_refl _) hbl, HK1.out.1.1.later hbl, trivial⟩
  have hA : Hid (Aside g [(w.heap.size, 28, (rcA r (.slice e1 r.ts.length cap1) (.slice e2 r.ds.length cap2)))]) := fun e he => by
    simp only [List.mem_cons, List.not_mem_nil, or_false] at he
    subst he
    exact ⟨by show w.heap.size ≠ g; have := HK1.out.1.1.lt; rw [hg]; exact Nat.ne_of_lt this, by show (28 : TypeId) ≠ 5; decide⟩
  have HBX := hide HK1.out.2
  have HGW : Hid (w.heap.size ≤ g) := by show w.heap.size ≤ g; rw [hg]; exact HBX.out.size
  have HCX := hide (fun (y : World) (bs : List UInt8) (h : WK g x0 y bs [(w.heap.size, 28, (rcA r (.slice e1 r.ts.length cap1) (.slice e2 r.ds.length cap2)))]) => (HBX.out.trans (h.2.1.below.mono HGW.out) : Below w.heap.size w y))
  have c0 := HW0.out.2.2.1.cell 0 (.int .i64 8) (by rw [← hk]; rfl)
  clear hbl HK1
  go_wp2_with fail
  rw [← hg]
  refine gen_calls (fun x => Hid (WK g x0 x [] [(w.heap.size, 28, (rcA r (.slice e1 r.ts.length cap1) (.slice e2 r.ds.length cap2)))])) (by rw [hg]; rw [hg] at HW0; exact HW0) ?_
  clear HW0 c0 hg
  intro y0 H0
  refine (wnum_any g 1 8 [] _ H0.out.1 (by omega) (by omega) (Nat.zero_le _)).mono ?_
  rintro e y1 ⟨rfl, hw, hm⟩
  have H1 := hide (H0.out.step hw hm hA.out)
  clear hw hm H0
  have c1 := H1.out.2.2.1.cell 1 (.int .u64 (r.l : Int)) (by rfl)
  go_wp2_with fail
  refine (wnum_any g 8 r.l ([] ++ beB 1 8) _ H1.out.1 (by omega) (by omega) (by first | (simp only [List.length_append, beB_length, List.length_nil]; done) | (simp only [List.length_append, beB_length, List.length_nil]; omega))).mono ?_
  rintro e y2 ⟨rfl, hw, hm⟩
  have H2 := hide (H1.out.step hw hm hA.out)
  clear hw hm H1
  clear c1
  have c2 := H2.out.2.2.1.cell 2 (.int .i64 r.t) (by rfl)
  go_wp2_with fail
  have W := hide (wnum_any g 4 r.t.toNat (([] ++ beB 1 8) ++ beB 8 r.l) _ H2.out.1 (by omega) (by omega) (by first | (simp only [List.length_append, beB_length, List.length_nil]; done) | (simp only [List.length_append, beB_length, List.length_nil]; omega)))
  rw [Int.toNat_of_nonneg (by omega)] at W
  refine W.out.mono ?_
  clear W
  rintro e y3 ⟨rfl, hw, hm⟩
  have H3 := hide (H2.out.step hw hm hA.out)
  clear hw hm H2
  clear c2
  have c3 := H3.out.2.2.1.cell 3 (.int .u64 (r.p : Int)) (by rfl)
  have c0 := H3.out.2.2.1.cell 0 (.int .i64 8) (by rw [← hk]; rfl)
  go_wp2_with fail
  refine (wnum_any g 8 r.p ((([] ++ beB 1 8) ++ beB 8 r.l) ++ beB 4 r.t.toNat) _ H3.out.1 (by omega) (by omega) (by first | (simp only [List.length_append, beB_length, List.length_nil]; done) | (simp only [List.length_append, beB_length, List.length_nil]; omega))).mono ?_
  rintro e y4 ⟨rfl, hw, hm⟩
  have H4 := hide (H3.out.step hw hm hA.out)
  clear hw hm H3
  clear c3 c0
  have c11 := H4.out.2.2.1.cell 11 (.int .u64 (r.b : Int)) (by rfl)
  have c0 := H4.out.2.2.1.cell 0 (.int .i64 8) (by rw [← hk]; rfl)
  go_wp2_with fail
  refine (wnum_any g 8 r.b (((([] ++ beB 1 8) ++ beB 8 r.l) ++ beB 4 r.t.toNat) ++ beB 8 r.p) _ H4.out.1 (by omega) (by omega) (by first | (simp only [List.length_append, beB_length, List.length_nil]; done) | (simp only [List.length_append, beB_length, List.length_nil]; omega))).mono ?_
  rintro e y5 ⟨rfl, hw, hm⟩
  have H5 := hide (H4.out.step hw hm hA.out)
  clear hw hm H4
  clear c11 c0
  have c12 := H5.out.2.2.1.cell 12 (.slice e1 r.ts.length cap1) (by rfl)
  go_wp2_with fail
  refine (wtxns_any g _ r.ts ((((([] ++ beB 1 8) ++ beB 8 r.l) ++ beB 4 r.t.toNat) ++ beB 8 r.p) ++ beB 8 r.b) w _ H5.out.1 HGW.out (HCX.out _ _ H5.out) HIN.out.1 (enc_txs HRR.out hk) (HRR.out.check hk).1 (by first | (simp only [List.length_append, beB_length, List.length_nil]; done) | (simp only [List.length_append, beB_length, List.length_nil]; omega))).mono ?_
  rintro e y6 ⟨rfl, hw, hm⟩
  have H6 := hide (H5.out.step hw hm hA.out)
  clear hw hm H5
  clear c12
  have c13 := H6.out.2.2.1.cell 13 (.slice e2 r.ds.length cap2) (by rfl)
  go_wp2_with fail
  refine (wdirty_any g _ r.ds (((((([] ++ beB 1 8) ++ beB 8 r.l) ++ beB 4 r.t.toNat) ++ beB 8 r.p) ++ beB 8 r.b) ++ (beB 1 r.ts.length ++ txsB r.ts)) w _ H6.out.1 HGW.out (HCX.out _ _ H6.out) HIN.out.2 (enc_dis HRR.out hk) (HRR.out.check hk).2.1 (by first | (simp only [List.length_append, beB_length, List.length_nil, txsB_len]; done) | (simp only [List.length_append, beB_length, List.length_nil, txsB_len]; omega))).mono ?_
  rintro e y7 ⟨rfl, hw, hm⟩
  have H7 := hide (H6.out.step hw hm hA.out)
  clear hw hm H6
  clear c13
  have hrb : ((((((([] ++ beB 1 8) ++ beB 8 r.l) ++ beB 4 r.t.toNat) ++ beB 8 r.p) ++ beB 8 r.b) ++ (beB 1 r.ts.length ++ txsB r.ts)) ++ (beB 1 r.ds.length ++ disB r.ds)) = recB r := by
    unfold recB mayB
    rw [hk]
    simp [checkB]
  have HX := hide (HCX.out _ _ H7.out)
  obtain ⟨v, hrow, hown⟩ := H7.out.1
  have HO := hide hown
  have HRO := hide hrow
  have HRB := hide hrb
  clear hown hrow hrb H7 hA HIN HCX HBX
  obtain ⟨a, c, hv⟩ := own_shape HO.out
  have HV := hide hv
  clear hv
  go_wp2_with (refine wpList_load_val rfl 30 (.tmp 55) rfl _ v rfl (load_b8 _ v a _ c HV.out (HRO.out.cell 0 v rfl)) ?_)
  (try simp only [Exit.inBlock, Exit.then])
  refine bodyPost_ret (results_tmp2 rfl _ _ _) rfl ?_
  refine ⟨⟨v, rfl, ?_⟩, HX.out⟩
  have ho := HO.out
  rw [HRB.out] at ho
  exact enc_in ho
end Go.Proofs.Ytmapgfakfeddmaa

/-
  The contract of quaysideref06.Right, of changes.
-/
namespace Go.Proofs.Ytmapgfakfeddmaa
open Go.RowKit
set_option linter.unusedVariables false

set_option maxRecDepth 8000 in
set_option maxHeartbeats 3200000 in
theorem rright6_1 (r : Rec) (va vb : Value) (w : World) (q : Bool) (Hq : Hid (q = true ↔ r.right)) (hk : r.k = 1) (hf : r.c.fits) (hin : RcIn w r va vb) :
    Calls Try.prog 14 #[.agg (rcA r va vb)] w fun e w' => e = .returned (.bool q) ∧ Below w.heap.size w w' := by
  have HIN := hide hin
  obtain ⟨⟨e1, cap1, rfl, -⟩, ⟨e2, cap2, rfl, -⟩⟩ := hin
  have HFI := hide hf
  clear hf
  have HK0 := hide (Keeps.one w 28 (rcA r (.slice e1 r.ts.length cap1) (.slice e2 r.ds.length cap2)))
  have HF : Hid (¬ r.right → q = false) := fun h => by
    cases q
    · rfl
    · exact absurd (Hq.out.1 rfl) h
  have HT : Hid (r.right → q = true) := fun h => Hq.out.2 h
  have HOW := hide (fun w => own_at r.k w true (hide (decide_eq_true (by omega))))
  rw [hk] at HOW
  by_cases l1 : (r.l : Int) < 1
  case pos =>
    obtain rfl := HF.out (fun h => by have := h.l1; omega)
    clear HF HT Hq HFI HIN
    obtain ⟨c0, c1, -⟩ := rc_cells HK0.out.1.1
    rw [hk] at c0
    have hb0 := HK0.out.2
    clear HK0 HOW
    go_enter Try.func14, Try.ntmps14
    go_wp2
    go_ret
    exact ⟨rfl, hb0⟩
  by_cases l2 : (4611686018427387904 : Int) < (r.l : Int)
  case pos =>
    obtain rfl := HF.out (fun h => by have := h.lm; unfold maxP at this; omega)
    clear HF HT Hq HFI HIN
    obtain ⟨c0, c1, -⟩ := rc_cells HK0.out.1.1
    rw [hk] at c0
    have hb0 := HK0.out.2
    clear HK0 HOW
    go_enter Try.func14, Try.ntmps14
    go_wp2
    go_ret
    exact ⟨rfl, hb0⟩
  obtain ⟨c0, c1, -⟩ := rc_cells HK0.out.1.1
  rw [hk] at c0
  go_enter Try.func14, Try.ntmps14
  go_wp2_with fail
  refine gen_calls (fun x => Hid (Keeps w x [(w.heap.size, 28, rcA r (.slice e1 r.ts.length cap1) (.slice e2 r.ds.length cap2))])) HK0 ?_
  clear HK0 c0 c1
  intro w0 HK0
  obtain ⟨c0, c1, c2, c3, c9, c10, c11, c12, c13⟩ := rc_cells HK0.out.1.1
  rw [hk] at c0
  have hb0 := HK0.out.2
  refine (HOW.out _).mono ?_
  rintro e w1 ⟨rfl, rfl⟩
  by_cases t1 : r.t < 1
  case pos =>
    obtain rfl := HF.out (fun h => by have := h.own (by omega); omega)
    clear HF HT Hq HFI HIN
    clear HK0 HOW c9 c10 c11 c12 c13
    go_wp2
    go_ret
    exact ⟨rfl, hb0⟩
  by_cases t2 : 1048575 < r.t
  case pos =>
    obtain rfl := HF.out (fun h => by have := h.own (by omega); omega)
    clear HF HT Hq HFI HIN
    clear HK0 HOW c9 c10 c11 c12 c13
    go_wp2
    go_ret
    exact ⟨rfl, hb0⟩
  by_cases p1 : (r.l : Int) ≤ (r.p : Int)
  case pos =>
    obtain rfl := HF.out (fun h => by have := h.own (by omega); omega)
    clear HF HT Hq HFI HIN
    clear HK0 HOW c9 c10 c11 c12 c13
    go_wp2
    go_ret
    exact ⟨rfl, hb0⟩
  go_wp2_with fail
  refine (HOW.out _).mono ?_
  rintro e w1 ⟨rfl, rfl⟩
  clear HOW
  obtain ⟨d4, d5, d6, d7, d8⟩ := rc_chg HK0.out.1.1
  go_wp2_with fail
  clear d4 d5 d6 d7 d8
  by_cases cc : r.c.right
  case neg =>
    obtain rfl := HF.out (fun h => cc (h.ch (by omega)))
    clear HF HT Hq HFI HIN
    refine (rcright_at r.c _ false (hide (decide_eq_false cc))).mono ?_
    rintro e w2 ⟨rfl, hb2⟩
    have d2 := hb0.trans (hb2.mono hb0.size)
    clear hb2 HK0 c0 c1 c2 c3 c9 c10 c11 c12 c13 cc
    go_wp2
    go_ret
    exact ⟨rfl, d2⟩
  refine (rcright_at r.c _ true (hide (decide_eq_true cc))).mono ?_
  rintro e w2 ⟨rfl, hb2⟩
  have HK2 := hide (HK0.out.later hb2)
  clear HK0 hb2 hb0 c0 c1 c2 c3 c9 c10 c11 c12 c13
  obtain ⟨c0, c1, c2, c3, c9, c10, c11, c12, c13⟩ := rc_cells HK2.out.1.1
  rw [hk] at c0
  have hb0 := HK2.out.2
  have HCC := hide cc
  clear cc HK2
  by_cases n1 : ¬ (r.n : Int) = 0
  case pos =>
    obtain rfl := HF.out (fun h => by have := h.nonext (by omega); omega)
    have n1e : ((r.n : Int) == 0) = false := by rw [beq_eq_false_iff_ne]; exact n1
    have n1f : ((r.n : Int) != 0) = true := by rw [bne, n1e]; rfl
    clear HF HT Hq HFI HIN
    clear HCC
    go_wp2
    go_ret
    exact ⟨rfl, hb0⟩
  have n1e : (r.n : Int) = 0 := Decidable.of_not_not n1
  by_cases s1 : ¬ r.s = 0
  case pos =>
    obtain rfl := HF.out (fun h => s1 (h.nosave (by omega)))
    have s1e : (r.s == 0) = false := by rw [beq_eq_false_iff_ne]; exact s1
    have s1f : (r.s != 0) = true := by rw [bne, s1e]; rfl
    clear HF HT Hq HFI HIN
    clear HCC
    go_wp2
    go_ret
    exact ⟨rfl, hb0⟩
  have s1e : r.s = 0 := Decidable.of_not_not s1
  by_cases b1 : ¬ (r.b : Int) = 0
  case pos =>
    obtain rfl := HF.out (fun h => by have := h.nocheck (by omega); omega)
    have b1e : ((r.b : Int) == 0) = false := by rw [beq_eq_false_iff_ne]; exact b1
    have b1f : ((r.b : Int) != 0) = true := by rw [bne, b1e]; rfl
    clear HF HT Hq HFI HIN
    clear HCC
    go_wp2
    go_ret
    exact ⟨rfl, hb0⟩
  have b1e : (r.b : Int) = 0 := Decidable.of_not_not b1
  by_cases z1 : ¬ (r.ts.length : Int) = 0
  case pos =>
    obtain rfl := HF.out (fun h => by have := (h.nocheck (by omega)).2.1; rw [this] at z1; exact z1 rfl)
    have z1e : ((r.ts.length : Int) == 0) = false := by rw [beq_eq_false_iff_ne]; exact z1
    have z1f : ((r.ts.length : Int) != 0) = true := by rw [bne, z1e]; rfl
    clear HF HT Hq HFI HIN
    clear HCC
    go_wp2
    go_ret
    exact ⟨rfl, hb0⟩
  have z1e : (r.ts.length : Int) = 0 := Decidable.of_not_not z1
  by_cases z2 : ¬ (r.ds.length : Int) = 0
  case pos =>
    obtain rfl := HF.out (fun h => by have := (h.nocheck (by omega)).2.2; rw [this] at z2; exact z2 rfl)
    have z2e : ((r.ds.length : Int) == 0) = false := by rw [beq_eq_false_iff_ne]; exact z2
    have z2f : ((r.ds.length : Int) != 0) = true := by rw [bne, z2e]; rfl
    clear HF HT Hq HFI HIN
    clear HCC
    go_wp2
    go_ret
    exact ⟨rfl, hb0⟩
  have z2e : (r.ds.length : Int) = 0 := Decidable.of_not_not z2
  obtain rfl := HT.out ⟨by omega, by omega, by omega, by unfold maxP; omega, fun _ => ⟨by omega, by omega, by omega⟩, fun h => absurd h (by omega), fun _ => HCC.out, fun h => absurd h (by omega), fun h => absurd h (by omega), fun _ => by omega, fun h => absurd h (by omega), fun _ => by omega, fun h => absurd h (by omega), fun _ => ⟨by omega, List.eq_nil_of_length_eq_zero (by omega), List.eq_nil_of_length_eq_zero (by omega)⟩⟩
  clear HF HT Hq HFI HIN HCC
  go_wp2
  go_ret
  exact ⟨rfl, hb0⟩

set_option maxRecDepth 8000 in
set_option maxHeartbeats 3200000 in
theorem rright6_2 (r : Rec) (va vb : Value) (w : World) (q : Bool) (Hq : Hid (q = true ↔ r.right)) (hk : r.k = 2) (hf : r.c.fits) (hin : RcIn w r va vb) :
    Calls Try.prog 14 #[.agg (rcA r va vb)] w fun e w' => e = .returned (.bool q) ∧ Below w.heap.size w w' := by
  have HIN := hide hin
  obtain ⟨⟨e1, cap1, rfl, -⟩, ⟨e2, cap2, rfl, -⟩⟩ := hin
  have HFI := hide hf
  clear hf
  have HK0 := hide (Keeps.one w 28 (rcA r (.slice e1 r.ts.length cap1) (.slice e2 r.ds.length cap2)))
  have HF : Hid (¬ r.right → q = false) := fun h => by
    cases q
    · rfl
    · exact absurd (Hq.out.1 rfl) h
  have HT : Hid (r.right → q = true) := fun h => Hq.out.2 h
  have HOW := hide (fun w => own_at r.k w true (hide (decide_eq_true (by omega))))
  rw [hk] at HOW
  by_cases l1 : (r.l : Int) < 1
  case pos =>
    obtain rfl := HF.out (fun h => by have := h.l1; omega)
    clear HF HT Hq HFI HIN
    obtain ⟨c0, c1, -⟩ := rc_cells HK0.out.1.1
    rw [hk] at c0
    have hb0 := HK0.out.2
    clear HK0 HOW
    go_enter Try.func14, Try.ntmps14
    go_wp2
    go_ret
    exact ⟨rfl, hb0⟩
  by_cases l2 : (4611686018427387904 : Int) < (r.l : Int)
  case pos =>
    obtain rfl := HF.out (fun h => by have := h.lm; unfold maxP at this; omega)
    clear HF HT Hq HFI HIN
    obtain ⟨c0, c1, -⟩ := rc_cells HK0.out.1.1
    rw [hk] at c0
    have hb0 := HK0.out.2
    clear HK0 HOW
    go_enter Try.func14, Try.ntmps14
    go_wp2
    go_ret
    exact ⟨rfl, hb0⟩
  obtain ⟨c0, c1, -⟩ := rc_cells HK0.out.1.1
  rw [hk] at c0
  go_enter Try.func14, Try.ntmps14
  go_wp2_with fail
  refine gen_calls (fun x => Hid (Keeps w x [(w.heap.size, 28, rcA r (.slice e1 r.ts.length cap1) (.slice e2 r.ds.length cap2))])) HK0 ?_
  clear HK0 c0 c1
  intro w0 HK0
  obtain ⟨c0, c1, c2, c3, c9, c10, c11, c12, c13⟩ := rc_cells HK0.out.1.1
  rw [hk] at c0
  have hb0 := HK0.out.2
  refine (HOW.out _).mono ?_
  rintro e w1 ⟨rfl, rfl⟩
  by_cases t1 : r.t < 1
  case pos =>
    obtain rfl := HF.out (fun h => by have := h.own (by omega); omega)
    clear HF HT Hq HFI HIN
    clear HK0 HOW c9 c10 c11 c12 c13
    go_wp2
    go_ret
    exact ⟨rfl, hb0⟩
  by_cases t2 : 1048575 < r.t
  case pos =>
    obtain rfl := HF.out (fun h => by have := h.own (by omega); omega)
    clear HF HT Hq HFI HIN
    clear HK0 HOW c9 c10 c11 c12 c13
    go_wp2
    go_ret
    exact ⟨rfl, hb0⟩
  by_cases p1 : (r.l : Int) ≤ (r.p : Int)
  case pos =>
    obtain rfl := HF.out (fun h => by have := h.own (by omega); omega)
    clear HF HT Hq HFI HIN
    clear HK0 HOW c9 c10 c11 c12 c13
    go_wp2
    go_ret
    exact ⟨rfl, hb0⟩
  go_wp2_with fail
  refine (HOW.out _).mono ?_
  rintro e w1 ⟨rfl, rfl⟩
  clear HOW
  obtain ⟨d4, d5, d6, d7, d8⟩ := rc_chg HK0.out.1.1
  go_wp2_with fail
  clear d4 d5 d6 d7 d8
  by_cases cc : r.c.right
  case neg =>
    obtain rfl := HF.out (fun h => cc (h.ch (by omega)))
    clear HF HT Hq HFI HIN
    refine (rcright_at r.c _ false (hide (decide_eq_false cc))).mono ?_
    rintro e w2 ⟨rfl, hb2⟩
    have d2 := hb0.trans (hb2.mono hb0.size)
    clear hb2 HK0 c0 c1 c2 c3 c9 c10 c11 c12 c13 cc
    go_wp2
    go_ret
    exact ⟨rfl, d2⟩
  refine (rcright_at r.c _ true (hide (decide_eq_true cc))).mono ?_
  rintro e w2 ⟨rfl, hb2⟩
  have HK2 := hide (HK0.out.later hb2)
  clear HK0 hb2 hb0 c0 c1 c2 c3 c9 c10 c11 c12 c13
  obtain ⟨c0, c1, c2, c3, c9, c10, c11, c12, c13⟩ := rc_cells HK2.out.1.1
  rw [hk] at c0
  have hb0 := HK2.out.2
  have HCC := hide cc
  clear cc HK2
  by_cases n1 : (r.l : Int) ≤ (r.n : Int)
  case pos =>
    obtain rfl := HF.out (fun h => by have := h.next (by omega); omega)
    clear HF HT Hq HFI HIN
    clear HCC
    go_wp2
    go_ret
    exact ⟨rfl, hb0⟩
  by_cases s1 : ¬ r.s = 0
  case pos =>
    obtain rfl := HF.out (fun h => s1 (h.nosave (by omega)))
    have s1e : (r.s == 0) = false := by rw [beq_eq_false_iff_ne]; exact s1
    have s1f : (r.s != 0) = true := by rw [bne, s1e]; rfl
    clear HF HT Hq HFI HIN
    clear HCC
    go_wp2
    go_ret
    exact ⟨rfl, hb0⟩
  have s1e : r.s = 0 := Decidable.of_not_not s1
  by_cases b1 : ¬ (r.b : Int) = 0
  case pos =>
    obtain rfl := HF.out (fun h => by have := h.nocheck (by omega); omega)
    have b1e : ((r.b : Int) == 0) = false := by rw [beq_eq_false_iff_ne]; exact b1
    have b1f : ((r.b : Int) != 0) = true := by rw [bne, b1e]; rfl
    clear HF HT Hq HFI HIN
    clear HCC
    go_wp2
    go_ret
    exact ⟨rfl, hb0⟩
  have b1e : (r.b : Int) = 0 := Decidable.of_not_not b1
  by_cases z1 : ¬ (r.ts.length : Int) = 0
  case pos =>
    obtain rfl := HF.out (fun h => by have := (h.nocheck (by omega)).2.1; rw [this] at z1; exact z1 rfl)
    have z1e : ((r.ts.length : Int) == 0) = false := by rw [beq_eq_false_iff_ne]; exact z1
    have z1f : ((r.ts.length : Int) != 0) = true := by rw [bne, z1e]; rfl
    clear HF HT Hq HFI HIN
    clear HCC
    go_wp2
    go_ret
    exact ⟨rfl, hb0⟩
  have z1e : (r.ts.length : Int) = 0 := Decidable.of_not_not z1
  by_cases z2 : ¬ (r.ds.length : Int) = 0
  case pos =>
    obtain rfl := HF.out (fun h => by have := (h.nocheck (by omega)).2.2; rw [this] at z2; exact z2 rfl)
    have z2e : ((r.ds.length : Int) == 0) = false := by rw [beq_eq_false_iff_ne]; exact z2
    have z2f : ((r.ds.length : Int) != 0) = true := by rw [bne, z2e]; rfl
    clear HF HT Hq HFI HIN
    clear HCC
    go_wp2
    go_ret
    exact ⟨rfl, hb0⟩
  have z2e : (r.ds.length : Int) = 0 := Decidable.of_not_not z2
  obtain rfl := HT.out ⟨by omega, by omega, by omega, by unfold maxP; omega, fun _ => ⟨by omega, by omega, by omega⟩, fun h => absurd h (by omega), fun _ => HCC.out, fun h => absurd h (by omega), fun _ => by omega, fun h => absurd hk h, fun h => absurd h (by omega), fun _ => by omega, fun h => absurd h (by omega), fun _ => ⟨by omega, List.eq_nil_of_length_eq_zero (by omega), List.eq_nil_of_length_eq_zero (by omega)⟩⟩
  clear HF HT Hq HFI HIN HCC
  go_wp2
  go_ret
  exact ⟨rfl, hb0⟩

end Go.Proofs.Ytmapgfakfeddmaa
