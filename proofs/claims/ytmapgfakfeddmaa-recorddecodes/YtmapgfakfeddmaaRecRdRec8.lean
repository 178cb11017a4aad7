/-
  The reader of package record: record, kind 8.
-/
import Derived.Test.YtmapgfakfeddmaaRecRdRec0
import Derived.Test.YtmapgfakfeddmaaRecUsed0
namespace Go.Proofs.Ytmapgfakfeddmaa
open Go.RowKit
set_option linter.unusedVariables false

set_option maxRecDepth 4000 in
set_option maxHeartbeats 3200000 in
theorem brec_8 (g : Nat) (a : Option Addr) (len cap : Nat) (bs : List UInt8) (s : St) (hs : s.e = 0) (w : World) (hk : (pIn 1 8 s).1 = 8) (h : RbAt w g a len cap bs s Rec.zero (.slice none 0 0) (.slice none 0 0)) :
    Calls Try.prog 29 #[.pointer (some ⟨g, 0, none⟩)] w fun e w' => e = .returned (.tuple #[]) ∧ RecDone w w' g a len cap bs s := by
  obtain ⟨kd, s0, h0⟩ : ∃ n s', pIn 1 8 s = (n, s') := ⟨_, _, rfl⟩
  obtain ⟨l, s1, h1⟩ : ∃ n s', pNum 8 s0 = (n, s') := ⟨_, _, rfl⟩
  obtain ⟨t, s2, h2⟩ : ∃ n s', pNum 4 s1 = (n, s') := ⟨_, _, rfl⟩
  obtain ⟨p, s3, h3⟩ : ∃ n s', pNum 8 s2 = (n, s') := ⟨_, _, rfl⟩
  have bt : t < 256 ^ 4 := by have := num_lt 4 s1; rw [h2] at this; exact this
  have ewt := conv_i64 t (by omega)
  have C0 := hide (fun r va vb x h => bkind_any g a len cap bs s r va vb x h)
  have C1 := hide (fun r va vb x h => bnum_any g a len cap bs s0 r va vb 8 x (by omega) h)
  have C2 := hide (fun r va vb x h => bnum_any g a len cap bs s1 r va vb 4 x (by omega) h)
  have C3 := hide (fun r va vb x h => bnum_any g a len cap bs s2 r va vb 8 x (by omega) h)
  rw [h0] at C0
  rw [h1] at C1
  rw [h2] at C2
  rw [h3] at C3
  have HGL := hide h.lt
  have hkd : kd = 8 := by rw [h0] at hk; exact hk
  subst hkd
  obtain ⟨n, s4, h4⟩ : ∃ n s', pNum 8 s3 = (n, s') := ⟨_, _, rfl⟩
  have C4 := hide (fun r va vb x h => bnum_any g a len cap bs s3 r va vb 8 x (by omega) h)
  rw [h4] at C4
  have T1 := cnt_some Good.tx 16 s4
  have D1 := hide (fun r va vb x h => btxns_any g a len cap bs s4 r va vb x h)
  obtain ⟨ts, hts⟩ : ∃ ts, ts = itL pTx (cntN 16 s4) (pIn 0 16 s4).2 := ⟨_, rfl⟩
  obtain ⟨s5, hs5⟩ : ∃ s', s' = itS pTx (cntN 16 s4) (pIn 0 16 s4).2 := ⟨_, rfl⟩
  have hl5 : cntN 16 s4 = ts.length := by rw [hts, itL_length]
  rw [← hts, ← hs5] at T1 D1
  have T2 := cnt_some Good.di 32 s5
  have D2 := hide (fun r va vb x h => bdirty_any g a len cap bs s5 r va vb x h)
  obtain ⟨ds, hds⟩ : ∃ ds, ds = itL pDi (cntN 32 s5) (pIn 0 32 s5).2 := ⟨_, rfl⟩
  obtain ⟨s6, hs6⟩ : ∃ s', s' = itS pDi (cntN 32 s5) (pIn 0 32 s5).2 := ⟨_, rfl⟩
  have hl6 : cntN 32 s5 = ds.length := by rw [hds, itL_length]
  rw [← hds, ← hs6] at T2 D2
  rw [hl5] at D1
  rw [hl6] at D2
  have C5 : Hid (∀ r va vb x, RbAt x g a len cap bs s4 r va vb → Calls Try.prog 47 #[.pointer (some ⟨g, 0, none⟩)] x fun e w' => ∃ v, e = .returned v ∧ w'.ownsRow x.heap.size 65 5 v ts.length (flatT ts) ∧ RbAt w' g a len cap bs s5 r va vb ∧ x.grownBy w' (some g)) := D1.out
  have C6 : Hid (∀ r va vb x, RbAt x g a len cap bs s5 r va vb → Calls Try.prog 48 #[.pointer (some ⟨g, 0, none⟩)] x fun e w' => ∃ v, e = .returned v ∧ w'.ownsRow x.heap.size 67 2 v ds.length (flatD ds) ∧ RbAt w' g a len cap bs s6 r va vb ∧ x.grownBy w' (some g)) := D2.out
  have hfin : Hid ((pRec s).2 = s6 ∧ ((pRec s).2.e = 0 → (pRec s).1 = ⟨8, l, t, p, Ch.zero, 0, 0, n, ts, ds⟩)) := by
    have e1 : pRec s = (⟨8, l, t, p, Ch.zero, 0, 0, n, (pSome pTx (pIn 0 16 s4).1 (pIn 0 16 s4).2).1, (pSome pDi (pIn 0 32 (pSome pTx (pIn 0 16 s4).1 (pIn 0 16 s4).2).2).1 (pIn 0 32 (pSome pTx (pIn 0 16 s4).1 (pIn 0 16 s4).2).2).2).1⟩, (pSome pDi (pIn 0 32 (pSome pTx (pIn 0 16 s4).1 (pIn 0 16 s4).2).2).1 (pIn 0 32 (pSome pTx (pIn 0 16 s4).1 (pIn 0 16 s4).2).2).2).2) := by
      rw [rec_rest, h0]
      simp [recRest, bindP, pureP, pMay, pCheck, h1, h2, h3, h4]
    rw [T1.1] at e1
    rw [e1]
    refine ⟨T2.1, fun h => ?_⟩
    have h6 := T2.2 h
    have h5 : s5.e = 0 := by
      by_cases hh : s5.e = 0
      · exact hh
      · have hst := ((Good.in 0 32).bind fun m => Good.some Good.di m).stick s5 hh
        have : (pSome pDi (pIn 0 32 s5).1 (pIn 0 32 s5).2).2 = s5 := hst
        rw [this] at h
        exact absurd h hh
    have h7 := T1.2 (by rw [T1.1]; exact h5)
    show (⟨8, l, t, p, Ch.zero, 0, 0, n, (pSome pTx (pIn 0 16 s4).1 (pIn 0 16 s4).2).1, (pSome pDi (pIn 0 32 s5).1 (pIn 0 32 s5).2).1⟩ : Rec) = _
    rw [h6, h7]
  clear h4 hts hs5 hds hs6 hl5 hl6 T1 T2 D1 D2
  clear hs hk bt h0 h1 h2 h3
  have HB0 : Hid (RbAt w g a len cap bs s Rec.zero (.slice none 0 0) (.slice none 0 0) ∧ w.grownBy w (some g)) := ⟨h, grown_refl w _⟩
  clear h
  go_enter Try.func29, Try.ntmps29
  go_wp2_with fail
  refine (C0.out _ _ _ _ HB0.out.1).mono ?_
  rintro e x1 ⟨rfl, hb, hg⟩
  have HX : Hid (RbAt x1 g a len cap bs s0 Rec.zero (.slice none 0 0) (.slice none 0 0) ∧ w.grownBy x1 (some g)) := ⟨hb, grown_trans HB0.out.2 hg⟩
  clear hb hg HB0 C0
  obtain ⟨k, q, -, -⟩ := HX.out.1.row
  have c := q.cell 3 (.int .i64 0) rfl
  have f := q.free 3
  clear q
  have HB1 : Hid (RbAt (x1.setCell ⟨g, 3, none⟩ (.int .i64 8)) g a len cap bs s0 ⟨8, 0, 0, 0, Ch.zero, 0, 0, 0, [], []⟩ (.slice none 0 0) (.slice none 0 0) ∧ w.grownBy (x1.setCell ⟨g, 3, none⟩ (.int .i64 8)) (some g)) := ⟨HX.out.1.setc 3 (.int .i64 8) ⟨8, 0, 0, 0, Ch.zero, 0, 0, 0, [], []⟩ _ _ (fun _ => rfl), grown_set _ HX.out.2⟩
  clear HX
  go_wp2_with fail
  refine gen_calls (fun x => Hid (RbAt x g a len cap bs s0 ⟨8, 0, 0, 0, Ch.zero, 0, 0, 0, [], []⟩ (.slice none 0 0) (.slice none 0 0) ∧ w.grownBy x (some g))) HB1 ?_
  clear HB1 c f
  intro y1 HB1
  refine (C1.out _ _ _ _ HB1.out.1).mono ?_
  rintro e x2 ⟨rfl, hb, hg⟩
  have HX : Hid (RbAt x2 g a len cap bs s1 ⟨8, 0, 0, 0, Ch.zero, 0, 0, 0, [], []⟩ (.slice none 0 0) (.slice none 0 0) ∧ w.grownBy x2 (some g)) := ⟨hb, grown_trans HB1.out.2 hg⟩
  clear hb hg HB1 C1
  obtain ⟨k, q, -, -⟩ := HX.out.1.row
  have c := q.cell 4 (.int .u64 0) rfl
  have f := q.free 4
  clear q
  have HB2 : Hid (RbAt (x2.setCell ⟨g, 4, none⟩ (.int .u64 ((l : Nat) : Int))) g a len cap bs s1 ⟨8, l, 0, 0, Ch.zero, 0, 0, 0, [], []⟩ (.slice none 0 0) (.slice none 0 0) ∧ w.grownBy (x2.setCell ⟨g, 4, none⟩ (.int .u64 ((l : Nat) : Int))) (some g)) := ⟨HX.out.1.setc 4 (.int .u64 ((l : Nat) : Int)) ⟨8, l, 0, 0, Ch.zero, 0, 0, 0, [], []⟩ _ _ (fun _ => rfl), grown_set _ HX.out.2⟩
  clear HX
  go_wp2_with fail
  refine gen_calls (fun x => Hid (RbAt x g a len cap bs s1 ⟨8, l, 0, 0, Ch.zero, 0, 0, 0, [], []⟩ (.slice none 0 0) (.slice none 0 0) ∧ w.grownBy x (some g))) HB2 ?_
  clear HB2 c f
  intro y2 HB2
  refine (C2.out _ _ _ _ HB2.out.1).mono ?_
  rintro e x3 ⟨rfl, hb, hg⟩
  have HX : Hid (RbAt x3 g a len cap bs s2 ⟨8, l, 0, 0, Ch.zero, 0, 0, 0, [], []⟩ (.slice none 0 0) (.slice none 0 0) ∧ w.grownBy x3 (some g)) := ⟨hb, grown_trans HB2.out.2 hg⟩
  clear hb hg HB2 C2
  obtain ⟨k, q, -, -⟩ := HX.out.1.row
  have c := q.cell 5 (.int .i64 0) rfl
  have f := q.free 5
  clear q
  have HB3 : Hid (RbAt (x3.setCell ⟨g, 5, none⟩ (.int .i64 (t : Int))) g a len cap bs s2 ⟨8, l, t, 0, Ch.zero, 0, 0, 0, [], []⟩ (.slice none 0 0) (.slice none 0 0) ∧ w.grownBy (x3.setCell ⟨g, 5, none⟩ (.int .i64 (t : Int))) (some g)) := ⟨HX.out.1.setc 5 (.int .i64 (t : Int)) ⟨8, l, t, 0, Ch.zero, 0, 0, 0, [], []⟩ _ _ (fun _ => rfl), grown_set _ HX.out.2⟩
  clear HX
  go_wp2_with fail
  refine gen_calls (fun x => Hid (RbAt x g a len cap bs s2 ⟨8, l, t, 0, Ch.zero, 0, 0, 0, [], []⟩ (.slice none 0 0) (.slice none 0 0) ∧ w.grownBy x (some g))) HB3 ?_
  clear HB3 c f
  intro y3 HB3
  refine (C3.out _ _ _ _ HB3.out.1).mono ?_
  rintro e x4 ⟨rfl, hb, hg⟩
  have HX : Hid (RbAt x4 g a len cap bs s3 ⟨8, l, t, 0, Ch.zero, 0, 0, 0, [], []⟩ (.slice none 0 0) (.slice none 0 0) ∧ w.grownBy x4 (some g)) := ⟨hb, grown_trans HB3.out.2 hg⟩
  clear hb hg HB3 C3
  obtain ⟨k, q, -, -⟩ := HX.out.1.row
  have c := q.cell 6 (.int .u64 0) rfl
  have f := q.free 6
  have c3 := q.cell 3 (.int .i64 8) rfl
  clear q
  have HB4 : Hid (RbAt (x4.setCell ⟨g, 6, none⟩ (.int .u64 ((p : Nat) : Int))) g a len cap bs s3 ⟨8, l, t, p, Ch.zero, 0, 0, 0, [], []⟩ (.slice none 0 0) (.slice none 0 0) ∧ w.grownBy (x4.setCell ⟨g, 6, none⟩ (.int .u64 ((p : Nat) : Int))) (some g)) := ⟨HX.out.1.setc 6 (.int .u64 ((p : Nat) : Int)) ⟨8, l, t, p, Ch.zero, 0, 0, 0, [], []⟩ _ _ (fun _ => rfl), grown_set _ HX.out.2⟩
  clear HX
  go_wp2_with fail
  refine gen_calls (fun x => Hid (RbAt x g a len cap bs s3 ⟨8, l, t, p, Ch.zero, 0, 0, 0, [], []⟩ (.slice none 0 0) (.slice none 0 0) ∧ w.grownBy x (some g))) HB4 ?_
  clear HB4 c f c3
  intro y4 HB4
  refine (C4.out _ _ _ _ HB4.out.1).mono ?_
  rintro e x5 ⟨rfl, hb, hg⟩
  have HX : Hid (RbAt x5 g a len cap bs s4 ⟨8, l, t, p, Ch.zero, 0, 0, 0, [], []⟩ (.slice none 0 0) (.slice none 0 0) ∧ w.grownBy x5 (some g)) := ⟨hb, grown_trans HB4.out.2 hg⟩
  clear hb hg HB4 C4
  obtain ⟨k, q, -, -⟩ := HX.out.1.row
  have c := q.cell 14 (.int .u64 0) rfl
  have f := q.free 14
  clear q
  have HB5 : Hid (RbAt (x5.setCell ⟨g, 14, none⟩ (.int .u64 ((n : Nat) : Int))) g a len cap bs s4 ⟨8, l, t, p, Ch.zero, 0, 0, n, [], []⟩ (.slice none 0 0) (.slice none 0 0) ∧ w.grownBy (x5.setCell ⟨g, 14, none⟩ (.int .u64 ((n : Nat) : Int))) (some g)) := ⟨HX.out.1.setc 14 (.int .u64 ((n : Nat) : Int)) ⟨8, l, t, p, Ch.zero, 0, 0, n, [], []⟩ _ _ (fun _ => rfl), grown_set _ HX.out.2⟩
  clear HX
  go_wp2_with fail
  refine gen_calls (fun x => Hid (RbAt x g a len cap bs s4 ⟨8, l, t, p, Ch.zero, 0, 0, n, [], []⟩ (.slice none 0 0) (.slice none 0 0) ∧ w.grownBy x (some g))) HB5 ?_
  clear HB5 c f
  intro y5 HB5
  refine (C5.out _ _ _ _ HB5.out.1).mono ?_
  rintro e x6 ⟨v, rfl, hown, hb, hg⟩
  have HX : Hid (RbAt x6 g a len cap bs s5 ⟨8, l, t, p, Ch.zero, 0, 0, n, [], []⟩ (.slice none 0 0) (.slice none 0 0) ∧ w.grownBy x6 (some g)) := ⟨hb, grown_trans HB5.out.2 hg⟩
  have HOA := hide (own_mono hown HB5.out.2.size)
  clear hb hg hown HB5 C5
  obtain ⟨k, q, -, -⟩ := HX.out.1.row
  have c := q.cell 15 (.slice none 0 0) rfl
  have f := q.free 15
  clear q
  obtain ⟨av, cv, hv⟩ := own_shape5 HOA.out
  have HB6 : Hid ((RbAt (x6.setCell ⟨g, 15, none⟩ v) g a len cap bs s5 ⟨8, l, t, p, Ch.zero, 0, 0, n, ts, []⟩ v (.slice none 0 0) ∧ w.grownBy (x6.setCell ⟨g, 15, none⟩ v) (some g)) ∧ (x6.setCell ⟨g, 15, none⟩ v).ownsRow w.heap.size 65 5 v ts.length (flatT ts)) := ⟨⟨HX.out.1.setc 15 v ⟨8, l, t, p, Ch.zero, 0, 0, n, ts, []⟩ v _ (fun _ => rfl), grown_set _ HX.out.2⟩, HOA.out.kept (grown_set v (grown_refl x6 (some g))) (.inr (fun e => own_ne HOA.out HGL.out e.symm))⟩
  clear HX HOA
  subst hv
  go_wp2_with fail
  refine gen_calls (fun x => Hid ((RbAt x g a len cap bs s5 ⟨8, l, t, p, Ch.zero, 0, 0, n, ts, []⟩ (.slice av ts.length cv) (.slice none 0 0) ∧ w.grownBy x (some g)) ∧ x.ownsRow w.heap.size 65 5 (.slice av ts.length cv) ts.length (flatT ts))) HB6 ?_
  clear HB6 c f
  intro y6 HB6
  refine (C6.out _ _ _ _ HB6.out.1.1).mono ?_
  rintro e x7 ⟨u, rfl, hown, hb, hg⟩
  have HX : Hid (RbAt x7 g a len cap bs s6 ⟨8, l, t, p, Ch.zero, 0, 0, n, ts, []⟩ (.slice av ts.length cv) (.slice none 0 0) ∧ w.grownBy x7 (some g)) := ⟨hb, grown_trans HB6.out.1.2 hg⟩
  have HOA := hide (HB6.out.2.kept hg (.inr (fun e => own_ne HB6.out.2 HGL.out e.symm)))
  have HOB := hide (own_mono hown HB6.out.1.2.size)
  clear hb hg hown HB6 C6
  obtain ⟨k, q, -, -⟩ := HX.out.1.row
  have c := q.cell 16 (.slice none 0 0) rfl
  have f := q.free 16
  clear q
  obtain ⟨au, cu, hu⟩ := own_shape5 HOB.out
  have HB7 : Hid ((RbAt (x7.setCell ⟨g, 16, none⟩ u) g a len cap bs s6 ⟨8, l, t, p, Ch.zero, 0, 0, n, ts, ds⟩ (.slice av ts.length cv) u ∧ w.grownBy (x7.setCell ⟨g, 16, none⟩ u) (some g)) ∧ (x7.setCell ⟨g, 16, none⟩ u).ownsRow w.heap.size 65 5 (.slice av ts.length cv) ts.length (flatT ts) ∧ (x7.setCell ⟨g, 16, none⟩ u).ownsRow w.heap.size 67 2 u ds.length (flatD ds)) := ⟨⟨HX.out.1.setc 16 u ⟨8, l, t, p, Ch.zero, 0, 0, n, ts, ds⟩ _ u (fun _ => rfl), grown_set _ HX.out.2⟩, HOA.out.kept (grown_set u (grown_refl x7 (some g))) (.inr (fun e => own_ne HOA.out HGL.out e.symm)), HOB.out.kept (grown_set u (grown_refl x7 (some g))) (.inr (fun e => own_ne HOB.out HGL.out e.symm))⟩
  clear HX HOA HOB
  subst hu
  go_wp2
  go_end0
  refine ⟨rfl, ⟨8, l, t, p, Ch.zero, 0, 0, n, ts, ds⟩, _, _, by rw [hfin.out.1]; exact HB7.out.1.1, fun h => (hfin.out.2 h).symm, HB7.out.2.1, HB7.out.2.2, HB7.out.1.2⟩
end Go.Proofs.Ytmapgfakfeddmaa
