/-
  The reader of package record: record, a kind that is none.
-/
import Derived.Test.YtmapgfakfeddmaaRecRdRec0
import Derived.Test.YtmapgfakfeddmaaRecUsed0
namespace Go.Proofs.Ytmapgfakfeddmaa
open Go.RowKit
set_option linter.unusedVariables false

set_option maxRecDepth 4000 in
set_option maxHeartbeats 3200000 in
theorem brec_no (g : Nat) (a : Option Addr) (len cap : Nat) (bs : List UInt8) (s : St) (hs : s.e = 0) (w : World) (hk : (pIn 1 8 s).2.e ≠ 0) (h : RbAt w g a len cap bs s Rec.zero (.slice none 0 0) (.slice none 0 0)) :
    Calls Try.prog 29 #[.pointer (some ⟨g, 0, none⟩)] w fun e w' => e = .returned (.tuple #[]) ∧ RecDone w w' g a len cap bs s := by
  obtain ⟨kd, s0, h0⟩ : ∃ n s', pIn 1 8 s = (n, s') := ⟨_, _, rfl⟩
  obtain ⟨l, s1, h1⟩ : ∃ n s', pNum 8 s0 = (n, s') := ⟨_, _, rfl⟩
  obtain ⟨t, s2, h2⟩ : ∃ n s', pNum 4 s1 = (n, s') := ⟨_, _, rfl⟩
  obtain ⟨p, s3, h3⟩ : ∃ n s', pNum 8 s2 = (n, s') := ⟨_, _, rfl⟩
  have bt : t < 256 ^ 4 := by have := num_lt 4 s1; rw [h2] at this; exact this
  have ewt := conv_i64 t (by omega)
  have C0 := hide (fun r va vb x h => bkind_any g a len cap bs s r va vb x h)
  have C1 := hide (fun r va vb x h => bnum_any g a len cap bs s0 r va vb 8 x (by omega) h)
  have C2 := hide (fun r va vb x h => bnum_any g a len cap bs s1 r va vb 4 x (by omega) h)
  have C3 := hide (fun r va vb x h => bnum_any g a len cap bs s2 r va vb 8 x (by omega) h)
  rw [h0] at C0
  rw [h1] at C1
  rw [h2] at C2
  rw [h3] at C3
  have HGL := hide h.lt
  have hbad := kind_bad hs (by rw [h0] at hk; rw [h0]; exact hk)
  rw [h0] at hbad hk
  simp only at hbad hk
  have hst : (pRec s).2 = s0 := by
    rw [rec_rest, h0]
    exact (Good.rest kd).stick s0 hk
  have e1 : pNum 8 s0 = (0, s0) := by unfold pNum; rw [if_pos hk]
  rw [e1] at h1
  cases h1
  have e2 : pNum 4 s0 = (0, s0) := by unfold pNum; rw [if_pos hk]
  rw [e2] at h2
  cases h2
  have e3 : pNum 8 s0 = (0, s0) := by unfold pNum; rw [if_pos hk]
  rw [e3] at h3
  cases h3
  have hfin : Hid ((pRec s).2 = s0 ∧ s0.e ≠ 0) := ⟨hst, hk⟩
  have m1 : ((kd : Int) == 1) = false := by rw [beq_eq_false_iff_ne]; omega
  have m2 : ((kd : Int) == 2) = false := by rw [beq_eq_false_iff_ne]; omega
  have m6 : ((kd : Int) == 6) = false := by rw [beq_eq_false_iff_ne]; omega
  have m8 : ((kd : Int) == 8) = false := by rw [beq_eq_false_iff_ne]; omega
  clear hk hst e1 e2 e3 hbad hs bt h0
  have HB0 : Hid (RbAt w g a len cap bs s Rec.zero (.slice none 0 0) (.slice none 0 0) ∧ w.grownBy w (some g)) := ⟨h, grown_refl w _⟩
  clear h
  go_enter Try.func29, Try.ntmps29
  go_wp2_with fail
  refine (C0.out _ _ _ _ HB0.out.1).mono ?_
  rintro e x1 ⟨rfl, hb, hg⟩
  have HX : Hid (RbAt x1 g a len cap bs s0 Rec.zero (.slice none 0 0) (.slice none 0 0) ∧ w.grownBy x1 (some g)) := ⟨hb, grown_trans HB0.out.2 hg⟩
  clear hb hg HB0 C0
  obtain ⟨k, q, -, -⟩ := HX.out.1.row
  have c := q.cell 3 (.int .i64 0) rfl
  have f := q.free 3
  clear q
  have HB1 : Hid (RbAt (x1.setCell ⟨g, 3, none⟩ (.int .i64 ((kd : Nat) : Int))) g a len cap bs s0 ⟨kd, 0, 0, 0, Ch.zero, 0, 0, 0, [], []⟩ (.slice none 0 0) (.slice none 0 0) ∧ w.grownBy (x1.setCell ⟨g, 3, none⟩ (.int .i64 ((kd : Nat) : Int))) (some g)) := ⟨HX.out.1.setc 3 (.int .i64 ((kd : Nat) : Int)) ⟨kd, 0, 0, 0, Ch.zero, 0, 0, 0, [], []⟩ _ _ (fun _ => rfl), grown_set _ HX.out.2⟩
  clear HX
  go_wp2_with fail
  refine gen_calls (fun x => Hid (RbAt x g a len cap bs s0 ⟨kd, 0, 0, 0, Ch.zero, 0, 0, 0, [], []⟩ (.slice none 0 0) (.slice none 0 0) ∧ w.grownBy x (some g))) HB1 ?_
  clear HB1 c f
  intro y1 HB1
  refine (C1.out _ _ _ _ HB1.out.1).mono ?_
  rintro e x2 ⟨rfl, hb, hg⟩
  have HX : Hid (RbAt x2 g a len cap bs s0 ⟨kd, 0, 0, 0, Ch.zero, 0, 0, 0, [], []⟩ (.slice none 0 0) (.slice none 0 0) ∧ w.grownBy x2 (some g)) := ⟨hb, grown_trans HB1.out.2 hg⟩
  clear hb hg HB1 C1
  obtain ⟨k, q, -, -⟩ := HX.out.1.row
  have c := q.cell 4 (.int .u64 0) rfl
  have f := q.free 4
  clear q
  have HB2 : Hid (RbAt (x2.setCell ⟨g, 4, none⟩ (.int .u64 0)) g a len cap bs s0 ⟨kd, 0, 0, 0, Ch.zero, 0, 0, 0, [], []⟩ (.slice none 0 0) (.slice none 0 0) ∧ w.grownBy (x2.setCell ⟨g, 4, none⟩ (.int .u64 0)) (some g)) := ⟨HX.out.1.setc 4 (.int .u64 0) ⟨kd, 0, 0, 0, Ch.zero, 0, 0, 0, [], []⟩ _ _ (fun _ => rfl), grown_set _ HX.out.2⟩
  clear HX
  go_wp2_with fail
  refine gen_calls (fun x => Hid (RbAt x g a len cap bs s0 ⟨kd, 0, 0, 0, Ch.zero, 0, 0, 0, [], []⟩ (.slice none 0 0) (.slice none 0 0) ∧ w.grownBy x (some g))) HB2 ?_
  clear HB2 c f
  intro y2 HB2
  refine (C2.out _ _ _ _ HB2.out.1).mono ?_
  rintro e x3 ⟨rfl, hb, hg⟩
  have HX : Hid (RbAt x3 g a len cap bs s0 ⟨kd, 0, 0, 0, Ch.zero, 0, 0, 0, [], []⟩ (.slice none 0 0) (.slice none 0 0) ∧ w.grownBy x3 (some g)) := ⟨hb, grown_trans HB2.out.2 hg⟩
  clear hb hg HB2 C2
  obtain ⟨k, q, -, -⟩ := HX.out.1.row
  have c := q.cell 5 (.int .i64 0) rfl
  have f := q.free 5
  clear q
  have HB3 : Hid (RbAt (x3.setCell ⟨g, 5, none⟩ (.int .i64 0)) g a len cap bs s0 ⟨kd, 0, 0, 0, Ch.zero, 0, 0, 0, [], []⟩ (.slice none 0 0) (.slice none 0 0) ∧ w.grownBy (x3.setCell ⟨g, 5, none⟩ (.int .i64 0)) (some g)) := ⟨HX.out.1.setc 5 (.int .i64 0) ⟨kd, 0, 0, 0, Ch.zero, 0, 0, 0, [], []⟩ _ _ (fun _ => rfl), grown_set _ HX.out.2⟩
  clear HX
  go_wp2_with fail
  refine gen_calls (fun x => Hid (RbAt x g a len cap bs s0 ⟨kd, 0, 0, 0, Ch.zero, 0, 0, 0, [], []⟩ (.slice none 0 0) (.slice none 0 0) ∧ w.grownBy x (some g))) HB3 ?_
  clear HB3 c f
  intro y3 HB3
  refine (C3.out _ _ _ _ HB3.out.1).mono ?_
  rintro e x4 ⟨rfl, hb, hg⟩
  have HX : Hid (RbAt x4 g a len cap bs s0 ⟨kd, 0, 0, 0, Ch.zero, 0, 0, 0, [], []⟩ (.slice none 0 0) (.slice none 0 0) ∧ w.grownBy x4 (some g)) := ⟨hb, grown_trans HB3.out.2 hg⟩
  clear hb hg HB3 C3
  obtain ⟨k, q, -, -⟩ := HX.out.1.row
  have c := q.cell 6 (.int .u64 0) rfl
  have f := q.free 6
  have c3 := q.cell 3 (.int .i64 ((kd : Nat) : Int)) rfl
  clear q
  have HB4 : Hid (RbAt (x4.setCell ⟨g, 6, none⟩ (.int .u64 0)) g a len cap bs s0 ⟨kd, 0, 0, 0, Ch.zero, 0, 0, 0, [], []⟩ (.slice none 0 0) (.slice none 0 0) ∧ w.grownBy (x4.setCell ⟨g, 6, none⟩ (.int .u64 0)) (some g)) := ⟨HX.out.1.setc 6 (.int .u64 0) ⟨kd, 0, 0, 0, Ch.zero, 0, 0, 0, [], []⟩ _ _ (fun _ => rfl), grown_set _ HX.out.2⟩
  clear HX
  go_wp2
  go_end0
  refine ⟨rfl, ⟨kd, 0, 0, 0, Ch.zero, 0, 0, 0, [], []⟩, _, _, by rw [hfin.out.1]; exact HB4.out.1, fun h => absurd h (by rw [hfin.out.1]; exact hfin.out.2), World.ownsRow_nil _ _ _ _, World.ownsRow_nil _ _ _ _, HB4.out.2⟩
end Go.Proofs.Ytmapgfakfeddmaa
