/-
  Texts that lean on one another, one behind the other: each opens with its own remark.
-/
import Derived.RangeFuncNested
import Derived.RangeFuncLeaves
import Derived.OwnWalkIn
import Derived.WalkKit
import Derived.OpenShut
import Derived.ShutString
import Derived.SizedLaws
import Derived.ChangeOld
import Derived.Deep.Slices
import Derived.Lib.SmallJoins
import Derived.Test.YtgobegpmojkhaaaRows
import Derived.RangeFuncBox
import Derived.RangeFuncCalls
import Derived.Shelf.Abstract
import Derived.Shelf.RegionOpen
import Derived.TacticsInMore
import Derived.LoopNIn
import Derived.LoopIn
import Derived.Maps.AppendAt
import Derived.Test.YtgobegpmojkhaaaProg
import Derived.WalkSpells
import Derived.Test.YtgobegpmojkhaaaK04
import Derived.Test.YtgobegpmojkhaaaK02
import Derived.Test.YtgobegpmojkhaaaK00
import Derived.Test.YtgobegpmojkhaaaK03

/-
  The reader of package record: record, kind 4.
-/
namespace Go.Proofs.Ytgobegpmojkhaaa
open Go.RowKit
set_option linter.unusedVariables false

set_option maxRecDepth 4000 in
set_option maxHeartbeats 3200000 in
theorem brec_4 (g : Nat) (a : Option Addr) (len cap : Nat) (bs : List UInt8) (s : St) (hs : s.e = 0) (w : World) (hk : (pIn 1 8 s).1 = 4) (h : RbAt w g a len cap bs s Rec.zero (.slice none 0 0) (.slice none 0 0)) :
    Calls Try.prog 53 #[.pointer (some ⟨g, 0, none⟩)] w fun e w' => e = .returned (.tuple #[]) ∧ RecDone w w' g a len cap bs s := by
  obtain ⟨kd, s0, h0⟩ : ∃ n s', pIn 1 8 s = (n, s') := ⟨_, _, rfl⟩
  obtain ⟨l, s1, h1⟩ : ∃ n s', pNum 8 s0 = (n, s') := ⟨_, _, rfl⟩
  obtain ⟨t, s2, h2⟩ : ∃ n s', pNum 4 s1 = (n, s') := ⟨_, _, rfl⟩
  obtain ⟨p, s3, h3⟩ : ∃ n s', pNum 8 s2 = (n, s') := ⟨_, _, rfl⟩
  have bt : t < 256 ^ 4 := by have := num_lt 4 s1; rw [h2] at this; exact this
  have ewt := conv_i64 t (by omega)
  have C0 := hide (fun r va vb x h => bkind_any g a len cap bs s r va vb x h)
  have C1 := hide (fun r va vb x h => bnum_any g a len cap bs s0 r va vb 8 x (by omega) h)
  have C2 := hide (fun r va vb x h => bnum_any g a len cap bs s1 r va vb 4 x (by omega) h)
  have C3 := hide (fun r va vb x h => bnum_any g a len cap bs s2 r va vb 8 x (by omega) h)
  rw [h0] at C0
  rw [h1] at C1
  rw [h2] at C2
  rw [h3] at C3
  have HGL := hide h.lt
  have hkd : kd = 4 := by rw [h0] at hk; exact hk
  subst hkd
  have hfin : Hid (pRec s = (⟨4, l, t, p, Ch.zero, 0, 0, 0, [], []⟩, s3)) := by
    show pRec s = _
    rw [rec_rest, h0]
    simp [recRest, bindP, pureP, pMay, h1, h2, h3]
  clear hs hk bt h0 h1 h2 h3
  have HB0 : Hid (RbAt w g a len cap bs s Rec.zero (.slice none 0 0) (.slice none 0 0) ∧ w.grownBy w (some g)) := ⟨h, grown_refl w _⟩
  clear h
  go_enter Try.func53, Try.ntmps53
  go_wp2_with fail
  refine (C0.out _ _ _ _ HB0.out.1).mono ?_
  rintro e x1 ⟨rfl, hb, hg⟩
  have HX : Hid (RbAt x1 g a len cap bs s0 Rec.zero (.slice none 0 0) (.slice none 0 0) ∧ w.grownBy x1 (some g)) := ⟨hb, grown_trans HB0.out.2 hg⟩
  clear hb hg HB0 C0
  obtain ⟨k, q, -, -⟩ := HX.out.1.row
  have c := q.cell 3 (.int .i64 0) rfl
  have f := q.free 3
  clear q
  have HB1 : Hid (RbAt (x1.setCell ⟨g, 3, none⟩ (.int .i64 4)) g a len cap bs s0 ⟨4, 0, 0, 0, Ch.zero, 0, 0, 0, [], []⟩ (.slice none 0 0) (.slice none 0 0) ∧ w.grownBy (x1.setCell ⟨g, 3, none⟩ (.int .i64 4)) (some g)) := ⟨HX.out.1.setc 3 (.int .i64 4) ⟨4, 0, 0, 0, Ch.zero, 0, 0, 0, [], []⟩ _ _ (fun _ => rfl), grown_set _ HX.out.2⟩
  clear HX
  go_wp2_with fail
  refine gen_calls (fun x => Hid (RbAt x g a len cap bs s0 ⟨4, 0, 0, 0, Ch.zero, 0, 0, 0, [], []⟩ (.slice none 0 0) (.slice none 0 0) ∧ w.grownBy x (some g))) HB1 ?_
  clear HB1 c f
  intro y1 HB1
  refine (C1.out _ _ _ _ HB1.out.1).mono ?_
  rintro e x2 ⟨rfl, hb, hg⟩
  have HX : Hid (RbAt x2 g a len cap bs s1 ⟨4, 0, 0, 0, Ch.zero, 0, 0, 0, [], []⟩ (.slice none 0 0) (.slice none 0 0) ∧ w.grownBy x2 (some g)) := ⟨hb, grown_trans HB1.out.2 hg⟩
  clear hb hg HB1 C1
  obtain ⟨k, q, -, -⟩ := HX.out.1.row
  have c := q.cell 4 (.int .u64 0) rfl
  have f := q.free 4
  clear q
  have HB2 : Hid (RbAt (x2.setCell ⟨g, 4, none⟩ (.int .u64 ((l : Nat) : Int))) g a len cap bs s1 ⟨4, l, 0, 0, Ch.zero, 0, 0, 0, [], []⟩ (.slice none 0 0) (.slice none 0 0) ∧ w.grownBy (x2.setCell ⟨g, 4, none⟩ (.int .u64 ((l : Nat) : Int))) (some g)) := ⟨HX.out.1.setc 4 (.int .u64 ((l : Nat) : Int)) ⟨4, l, 0, 0, Ch.zero, 0, 0, 0, [], []⟩ _ _ (fun _ => rfl), grown_set _ HX.out.2⟩
  clear HX
  go_wp2_with fail
  refine gen_calls (fun x => Hid (RbAt x g a len cap bs s1 ⟨4, l, 0, 0, Ch.zero, 0, 0, 0, [], []⟩ (.slice none 0 0) (.slice none 0 0) ∧ w.grownBy x (some g))) HB2 ?_
  clear HB2 c f
  intro y2 HB2
  refine (C2.out _ _ _ _ HB2.out.1).mono ?_
  rintro e x3 ⟨rfl, hb, hg⟩
  have HX : Hid (RbAt x3 g a len cap bs s2 ⟨4, l, 0, 0, Ch.zero, 0, 0, 0, [], []⟩ (.slice none 0 0) (.slice none 0 0) ∧ w.grownBy x3 (some g)) := ⟨hb, grown_trans HB2.out.2 hg⟩
  clear hb hg HB2 C2
  obtain ⟨k, q, -, -⟩ := HX.out.1.row
  have c := q.cell 5 (.int .i64 0) rfl
  have f := q.free 5
  clear q
  have HB3 : Hid (RbAt (x3.setCell ⟨g, 5, none⟩ (.int .i64 (t : Int))) g a len cap bs s2 ⟨4, l, t, 0, Ch.zero, 0, 0, 0, [], []⟩ (.slice none 0 0) (.slice none 0 0) ∧ w.grownBy (x3.setCell ⟨g, 5, none⟩ (.int .i64 (t : Int))) (some g)) := ⟨HX.out.1.setc 5 (.int .i64 (t : Int)) ⟨4, l, t, 0, Ch.zero, 0, 0, 0, [], []⟩ _ _ (fun _ => rfl), grown_set _ HX.out.2⟩
  clear HX
  go_wp2_with fail
  refine gen_calls (fun x => Hid (RbAt x g a len cap bs s2 ⟨4, l, t, 0, Ch.zero, 0, 0, 0, [], []⟩ (.slice none 0 0) (.slice none 0 0) ∧ w.grownBy x (some g))) HB3 ?_
  clear HB3 c f
  intro y3 HB3
  refine (C3.out _ _ _ _ HB3.out.1).mono ?_
  rintro e x4 ⟨rfl, hb, hg⟩
  have HX : Hid (RbAt x4 g a len cap bs s3 ⟨4, l, t, 0, Ch.zero, 0, 0, 0, [], []⟩ (.slice none 0 0) (.slice none 0 0) ∧ w.grownBy x4 (some g)) := ⟨hb, grown_trans HB3.out.2 hg⟩
  clear hb hg HB3 C3
  obtain ⟨k, q, -, -⟩ := HX.out.1.row
  have c := q.cell 6 (.int .u64 0) rfl
  have f := q.free 6
  have c3 := q.cell 3 (.int .i64 4) rfl
  clear q
  have HB4 : Hid (RbAt (x4.setCell ⟨g, 6, none⟩ (.int .u64 ((p : Nat) : Int))) g a len cap bs s3 ⟨4, l, t, p, Ch.zero, 0, 0, 0, [], []⟩ (.slice none 0 0) (.slice none 0 0) ∧ w.grownBy (x4.setCell ⟨g, 6, none⟩ (.int .u64 ((p : Nat) : Int))) (some g)) := ⟨HX.out.1.setc 6 (.int .u64 ((p : Nat) : Int)) ⟨4, l, t, p, Ch.zero, 0, 0, 0, [], []⟩ _ _ (fun _ => rfl), grown_set _ HX.out.2⟩
  clear HX
  go_wp2
  go_end0
  refine ⟨rfl, ⟨4, l, t, p, Ch.zero, 0, 0, 0, [], []⟩, _, _, by rw [hfin.out]; exact HB4.out.1, fun _ => by rw [hfin.out], World.ownsRow_nil _ _ _ _, World.ownsRow_nil _ _ _ _, HB4.out.2⟩
end Go.Proofs.Ytgobegpmojkhaaa

/-
  The reader of package record: record, kind 5.
-/
namespace Go.Proofs.Ytgobegpmojkhaaa
open Go.RowKit
set_option linter.unusedVariables false

set_option maxRecDepth 4000 in
set_option maxHeartbeats 3200000 in
theorem brec_5 (g : Nat) (a : Option Addr) (len cap : Nat) (bs : List UInt8) (s : St) (hs : s.e = 0) (w : World) (hk : (pIn 1 8 s).1 = 5) (h : RbAt w g a len cap bs s Rec.zero (.slice none 0 0) (.slice none 0 0)) :
    Calls Try.prog 53 #[.pointer (some ⟨g, 0, none⟩)] w fun e w' => e = .returned (.tuple #[]) ∧ RecDone w w' g a len cap bs s := by
  obtain ⟨kd, s0, h0⟩ : ∃ n s', pIn 1 8 s = (n, s') := ⟨_, _, rfl⟩
  obtain ⟨l, s1, h1⟩ : ∃ n s', pNum 8 s0 = (n, s') := ⟨_, _, rfl⟩
  obtain ⟨t, s2, h2⟩ : ∃ n s', pNum 4 s1 = (n, s') := ⟨_, _, rfl⟩
  obtain ⟨p, s3, h3⟩ : ∃ n s', pNum 8 s2 = (n, s') := ⟨_, _, rfl⟩
  have bt : t < 256 ^ 4 := by have := num_lt 4 s1; rw [h2] at this; exact this
  have ewt := conv_i64 t (by omega)
  have C0 := hide (fun r va vb x h => bkind_any g a len cap bs s r va vb x h)
  have C1 := hide (fun r va vb x h => bnum_any g a len cap bs s0 r va vb 8 x (by omega) h)
  have C2 := hide (fun r va vb x h => bnum_any g a len cap bs s1 r va vb 4 x (by omega) h)
  have C3 := hide (fun r va vb x h => bnum_any g a len cap bs s2 r va vb 8 x (by omega) h)
  rw [h0] at C0
  rw [h1] at C1
  rw [h2] at C2
  rw [h3] at C3
  have HGL := hide h.lt
  have hkd : kd = 5 := by rw [h0] at hk; exact hk
  subst hkd
  have hfin : Hid (pRec s = (⟨5, l, t, p, Ch.zero, 0, 0, 0, [], []⟩, s3)) := by
    show pRec s = _
    rw [rec_rest, h0]
    simp [recRest, bindP, pureP, pMay, h1, h2, h3]
  clear hs hk bt h0 h1 h2 h3
  have HB0 : Hid (RbAt w g a len cap bs s Rec.zero (.slice none 0 0) (.slice none 0 0) ∧ w.grownBy w (some g)) := ⟨h, grown_refl w _⟩
  clear h
  go_enter Try.func53, Try.ntmps53
  go_wp2_with fail
  refine (C0.out _ _ _ _ HB0.out.1).mono ?_
  rintro e x1 ⟨rfl, hb, hg⟩
  have HX : Hid (RbAt x1 g a len cap bs s0 Rec.zero (.slice none 0 0) (.slice none 0 0) ∧ w.grownBy x1 (some g)) := ⟨hb, grown_trans HB0.out.2 hg⟩
  clear hb hg HB0 C0
  obtain ⟨k, q, -, -⟩ := HX.out.1.row
  have c := q.cell 3 (.int .i64 0) rfl
  have f := q.free 3
  clear q
  have HB1 : Hid (RbAt (x1.setCell ⟨g, 3, none⟩ (.int .i64 5)) g a len cap bs s0 ⟨5, 0, 0, 0, Ch.zero, 0, 0, 0, [], []⟩ (.slice none 0 0) (.slice none 0 0) ∧ w.grownBy (x1.setCell ⟨g, 3, none⟩ (.int .i64 5)) (some g)) := ⟨HX.out.1.setc 3 (.int .i64 5) ⟨5, 0, 0, 0, Ch.zero, 0, 0, 0, [], []⟩ _ _ (fun _ => rfl), grown_set _ HX.out.2⟩
  clear HX
  go_wp2_with fail
  refine gen_calls (fun x => Hid (RbAt x g a len cap bs s0 ⟨5, 0, 0, 0, Ch.zero, 0, 0, 0, [], []⟩ (.slice none 0 0) (.slice none 0 0) ∧ w.grownBy x (some g))) HB1 ?_
  clear HB1 c f
  intro y1 HB1
  refine (C1.out _ _ _ _ HB1.out.1).mono ?_
  rintro e x2 ⟨rfl, hb, hg⟩
  have HX : Hid (RbAt x2 g a len cap bs s1 ⟨5, 0, 0, 0, Ch.zero, 0, 0, 0, [], []⟩ (.slice none 0 0) (.slice none 0 0) ∧ w.grownBy x2 (some g)) := ⟨hb, grown_trans HB1.out.2 hg⟩
  clear hb hg HB1 C1
  obtain ⟨k, q, -, -⟩ := HX.out.1.row
  have c := q.cell 4 (.int .u64 0) rfl
  have f := q.free 4
  clear q
  have HB2 : Hid (RbAt (x2.setCell ⟨g, 4, none⟩ (.int .u64 ((l : Nat) : Int))) g a len cap bs s1 ⟨5, l, 0, 0, Ch.zero, 0, 0, 0, [], []⟩ (.slice none 0 0) (.slice none 0 0) ∧ w.grownBy (x2.setCell ⟨g, 4, none⟩ (.int .u64 ((l : Nat) : Int))) (some g)) := ⟨HX.out.1.setc 4 (.int .u64 ((l : Nat) : Int)) ⟨5, l, 0, 0, Ch.zero, 0, 0, 0, [], []⟩ _ _ (fun _ => rfl), grown_set _ HX.out.2⟩
  clear HX
  go_wp2_with fail
  refine gen_calls (fun x => Hid (RbAt x g a len cap bs s1 ⟨5, l, 0, 0, Ch.zero, 0, 0, 0, [], []⟩ (.slice none 0 0) (.slice none 0 0) ∧ w.grownBy x (some g))) HB2 ?_
  clear HB2 c f
  intro y2 HB2
  refine (C2.out _ _ _ _ HB2.out.1).mono ?_
  rintro e x3 ⟨rfl, hb, hg⟩
  have HX : Hid (RbAt x3 g a len cap bs s2 ⟨5, l, 0, 0, Ch.zero, 0, 0, 0, [], []⟩ (.slice none 0 0) (.slice none 0 0) ∧ w.grownBy x3 (some g)) := ⟨hb, grown_trans HB2.out.2 hg⟩
  clear hb hg HB2 C2
  obtain ⟨k, q, -, -⟩ := HX.out.1.row
  have c := q.cell 5 (.int .i64 0) rfl
  have f := q.free 5
  clear q
  have HB3 : Hid (RbAt (x3.setCell ⟨g, 5, none⟩ (.int .i64 (t : Int))) g a len cap bs s2 ⟨5, l, t, 0, Ch.zero, 0, 0, 0, [], []⟩ (.slice none 0 0) (.slice none 0 0) ∧ w.grownBy (x3.setCell ⟨g, 5, none⟩ (.int .i64 (t : Int))) (some g)) := ⟨HX.out.1.setc 5 (.int .i64 (t : Int)) ⟨5, l, t, 0, Ch.zero, 0, 0, 0, [], []⟩ _ _ (fun _ => rfl), grown_set _ HX.out.2⟩
  clear HX
  go_wp2_with fail
  refine gen_calls (fun x => Hid (RbAt x g a len cap bs s2 ⟨5, l, t, 0, Ch.zero, 0, 0, 0, [], []⟩ (.slice none 0 0) (.slice none 0 0) ∧ w.grownBy x (some g))) HB3 ?_
  clear HB3 c f
  intro y3 HB3
  refine (C3.out _ _ _ _ HB3.out.1).mono ?_
  rintro e x4 ⟨rfl, hb, hg⟩
  have HX : Hid (RbAt x4 g a len cap bs s3 ⟨5, l, t, 0, Ch.zero, 0, 0, 0, [], []⟩ (.slice none 0 0) (.slice none 0 0) ∧ w.grownBy x4 (some g)) := ⟨hb, grown_trans HB3.out.2 hg⟩
  clear hb hg HB3 C3
  obtain ⟨k, q, -, -⟩ := HX.out.1.row
  have c := q.cell 6 (.int .u64 0) rfl
  have f := q.free 6
  have c3 := q.cell 3 (.int .i64 5) rfl
  clear q
  have HB4 : Hid (RbAt (x4.setCell ⟨g, 6, none⟩ (.int .u64 ((p : Nat) : Int))) g a len cap bs s3 ⟨5, l, t, p, Ch.zero, 0, 0, 0, [], []⟩ (.slice none 0 0) (.slice none 0 0) ∧ w.grownBy (x4.setCell ⟨g, 6, none⟩ (.int .u64 ((p : Nat) : Int))) (some g)) := ⟨HX.out.1.setc 6 (.int .u64 ((p : Nat) : Int)) ⟨5, l, t, p, Ch.zero, 0, 0, 0, [], []⟩ _ _ (fun _ => rfl), grown_set _ HX.out.2⟩
  clear HX
  go_wp2
  go_end0
  refine ⟨rfl, ⟨5, l, t, p, Ch.zero, 0, 0, 0, [], []⟩, _, _, by rw [hfin.out]; exact HB4.out.1, fun _ => by rw [hfin.out], World.ownsRow_nil _ _ _ _, World.ownsRow_nil _ _ _ _, HB4.out.2⟩
end Go.Proofs.Ytgobegpmojkhaaa

/-
  The reader of package record: record, kind 6.
-/
namespace Go.Proofs.Ytgobegpmojkhaaa
open Go.RowKit
set_option linter.unusedVariables false

set_option maxRecDepth 4000 in
set_option maxHeartbeats 3200000 in
theorem brec_6 (g : Nat) (a : Option Addr) (len cap : Nat) (bs : List UInt8) (s : St) (hs : s.e = 0) (w : World) (hk : (pIn 1 8 s).1 = 6) (h : RbAt w g a len cap bs s Rec.zero (.slice none 0 0) (.slice none 0 0)) :
    Calls Try.prog 53 #[.pointer (some ⟨g, 0, none⟩)] w fun e w' => e = .returned (.tuple #[]) ∧ RecDone w w' g a len cap bs s := by
  obtain ⟨kd, s0, h0⟩ : ∃ n s', pIn 1 8 s = (n, s') := ⟨_, _, rfl⟩
  obtain ⟨l, s1, h1⟩ : ∃ n s', pNum 8 s0 = (n, s') := ⟨_, _, rfl⟩
  obtain ⟨t, s2, h2⟩ : ∃ n s', pNum 4 s1 = (n, s') := ⟨_, _, rfl⟩
  obtain ⟨p, s3, h3⟩ : ∃ n s', pNum 8 s2 = (n, s') := ⟨_, _, rfl⟩
  have bt : t < 256 ^ 4 := by have := num_lt 4 s1; rw [h2] at this; exact this
  have ewt := conv_i64 t (by omega)
  have C0 := hide (fun r va vb x h => bkind_any g a len cap bs s r va vb x h)
  have C1 := hide (fun r va vb x h => bnum_any g a len cap bs s0 r va vb 8 x (by omega) h)
  have C2 := hide (fun r va vb x h => bnum_any g a len cap bs s1 r va vb 4 x (by omega) h)
  have C3 := hide (fun r va vb x h => bnum_any g a len cap bs s2 r va vb 8 x (by omega) h)
  rw [h0] at C0
  rw [h1] at C1
  rw [h2] at C2
  rw [h3] at C3
  have HGL := hide h.lt
  have hkd : kd = 6 := by rw [h0] at hk; exact hk
  subst hkd
  obtain ⟨n, s4, h4⟩ : ∃ n s', pNum 1 s3 = (n, s') := ⟨_, _, rfl⟩
  have bn : n < 256 ^ 1 := by have := num_lt 1 s3; rw [h4] at this; exact this
  have ewn := conv_i64 n (by omega)
  have C4 := hide (fun r va vb x h => bnum_any g a len cap bs s3 r va vb 1 x (by omega) h)
  rw [h4] at C4
  have hfin : Hid (pRec s = (⟨6, l, t, p, Ch.zero, 0, n, 0, [], []⟩, s4)) := by
    show pRec s = _
    rw [rec_rest, h0]
    simp [recRest, bindP, pureP, pMay, h1, h2, h3, h4]
  clear h4 bn
  clear hs hk bt h0 h1 h2 h3
  have HB0 : Hid (RbAt w g a len cap bs s Rec.zero (.slice none 0 0) (.slice none 0 0) ∧ w.grownBy w (some g)) := ⟨h, grown_refl w _⟩
  clear h
  go_enter Try.func53, Try.ntmps53
  go_wp2_with fail
  refine (C0.out _ _ _ _ HB0.out.1).mono ?_
  rintro e x1 ⟨rfl, hb, hg⟩
  have HX : Hid (RbAt x1 g a len cap bs s0 Rec.zero (.slice none 0 0) (.slice none 0 0) ∧ w.grownBy x1 (some g)) := ⟨hb, grown_trans HB0.out.2 hg⟩
  clear hb hg HB0 C0
  obtain ⟨k, q, -, -⟩ := HX.out.1.row
  have c := q.cell 3 (.int .i64 0) rfl
  have f := q.free 3
  clear q
  have HB1 : Hid (RbAt (x1.setCell ⟨g, 3, none⟩ (.int .i64 6)) g a len cap bs s0 ⟨6, 0, 0, 0, Ch.zero, 0, 0, 0, [], []⟩ (.slice none 0 0) (.slice none 0 0) ∧ w.grownBy (x1.setCell ⟨g, 3, none⟩ (.int .i64 6)) (some g)) := ⟨HX.out.1.setc 3 (.int .i64 6) ⟨6, 0, 0, 0, Ch.zero, 0, 0, 0, [], []⟩ _ _ (fun _ => rfl), grown_set _ HX.out.2⟩
  clear HX
  go_wp2_with fail
  refine gen_calls (fun x => Hid (RbAt x g a len cap bs s0 ⟨6, 0, 0, 0, Ch.zero, 0, 0, 0, [], []⟩ (.slice none 0 0) (.slice none 0 0) ∧ w.grownBy x (some g))) HB1 ?_
  clear HB1 c f
  intro y1 HB1
  refine (C1.out _ _ _ _ HB1.out.1).mono ?_
  rintro e x2 ⟨rfl, hb, hg⟩
  have HX : Hid (RbAt x2 g a len cap bs s1 ⟨6, 0, 0, 0, Ch.zero, 0, 0, 0, [], []⟩ (.slice none 0 0) (.slice none 0 0) ∧ w.grownBy x2 (some g)) := ⟨hb, grown_trans HB1.out.2 hg⟩
  clear hb hg HB1 C1
  obtain ⟨k, q, -, -⟩ := HX.out.1.row
  have c := q.cell 4 (.int .u64 0) rfl
  have f := q.free 4
  clear q
  have HB2 : Hid (RbAt (x2.setCell ⟨g, 4, none⟩ (.int .u64 ((l : Nat) : Int))) g a len cap bs s1 ⟨6, l, 0, 0, Ch.zero, 0, 0, 0, [], []⟩ (.slice none 0 0) (.slice none 0 0) ∧ w.grownBy (x2.setCell ⟨g, 4, none⟩ (.int .u64 ((l : Nat) : Int))) (some g)) := ⟨HX.out.1.setc 4 (.int .u64 ((l : Nat) : Int)) ⟨6, l, 0, 0, Ch.zero, 0, 0, 0, [], []⟩ _ _ (fun _ => rfl), grown_set _ HX.out.2⟩
  clear HX
  go_wp2_with fail
  refine gen_calls (fun x => Hid (RbAt x g a len cap bs s1 ⟨6, l, 0, 0, Ch.zero, 0, 0, 0, [], []⟩ (.slice none 0 0) (.slice none 0 0) ∧ w.grownBy x (some g))) HB2 ?_
  clear HB2 c f
  intro y2 HB2
  refine (C2.out _ _ _ _ HB2.out.1).mono ?_
  rintro e x3 ⟨rfl, hb, hg⟩
  have HX : Hid (RbAt x3 g a len cap bs s2 ⟨6, l, 0, 0, Ch.zero, 0, 0, 0, [], []⟩ (.slice none 0 0) (.slice none 0 0) ∧ w.grownBy x3 (some g)) := ⟨hb, grown_trans HB2.out.2 hg⟩
  clear hb hg HB2 C2
  obtain ⟨k, q, -, -⟩ := HX.out.1.row
  have c := q.cell 5 (.int .i64 0) rfl
  have f := q.free 5
  clear q
  have HB3 : Hid (RbAt (x3.setCell ⟨g, 5, none⟩ (.int .i64 (t : Int))) g a len cap bs s2 ⟨6, l, t, 0, Ch.zero, 0, 0, 0, [], []⟩ (.slice none 0 0) (.slice none 0 0) ∧ w.grownBy (x3.setCell ⟨g, 5, none⟩ (.int .i64 (t : Int))) (some g)) := ⟨HX.out.1.setc 5 (.int .i64 (t : Int)) ⟨6, l, t, 0, Ch.zero, 0, 0, 0, [], []⟩ _ _ (fun _ => rfl), grown_set _ HX.out.2⟩
  clear HX
  go_wp2_with fail
  refine gen_calls (fun x => Hid (RbAt x g a len cap bs s2 ⟨6, l, t, 0, Ch.zero, 0, 0, 0, [], []⟩ (.slice none 0 0) (.slice none 0 0) ∧ w.grownBy x (some g))) HB3 ?_
  clear HB3 c f
  intro y3 HB3
  refine (C3.out _ _ _ _ HB3.out.1).mono ?_
  rintro e x4 ⟨rfl, hb, hg⟩
  have HX : Hid (RbAt x4 g a len cap bs s3 ⟨6, l, t, 0, Ch.zero, 0, 0, 0, [], []⟩ (.slice none 0 0) (.slice none 0 0) ∧ w.grownBy x4 (some g)) := ⟨hb, grown_trans HB3.out.2 hg⟩
  clear hb hg HB3 C3
  obtain ⟨k, q, -, -⟩ := HX.out.1.row
  have c := q.cell 6 (.int .u64 0) rfl
  have f := q.free 6
  have c3 := q.cell 3 (.int .i64 6) rfl
  clear q
  have HB4 : Hid (RbAt (x4.setCell ⟨g, 6, none⟩ (.int .u64 ((p : Nat) : Int))) g a len cap bs s3 ⟨6, l, t, p, Ch.zero, 0, 0, 0, [], []⟩ (.slice none 0 0) (.slice none 0 0) ∧ w.grownBy (x4.setCell ⟨g, 6, none⟩ (.int .u64 ((p : Nat) : Int))) (some g)) := ⟨HX.out.1.setc 6 (.int .u64 ((p : Nat) : Int)) ⟨6, l, t, p, Ch.zero, 0, 0, 0, [], []⟩ _ _ (fun _ => rfl), grown_set _ HX.out.2⟩
  clear HX
  go_wp2_with fail
  refine gen_calls (fun x => Hid (RbAt x g a len cap bs s3 ⟨6, l, t, p, Ch.zero, 0, 0, 0, [], []⟩ (.slice none 0 0) (.slice none 0 0) ∧ w.grownBy x (some g))) HB4 ?_
  clear HB4 c f c3
  intro y4 HB4
  refine (C4.out _ _ _ _ HB4.out.1).mono ?_
  rintro e x5 ⟨rfl, hb, hg⟩
  have HX : Hid (RbAt x5 g a len cap bs s4 ⟨6, l, t, p, Ch.zero, 0, 0, 0, [], []⟩ (.slice none 0 0) (.slice none 0 0) ∧ w.grownBy x5 (some g)) := ⟨hb, grown_trans HB4.out.2 hg⟩
  clear hb hg HB4 C4
  obtain ⟨k, q, -, -⟩ := HX.out.1.row
  have c := q.cell 13 (.int .i64 0) rfl
  have f := q.free 13
  clear q
  have HB5 : Hid (RbAt (x5.setCell ⟨g, 13, none⟩ (.int .i64 ((n : Nat) : Int))) g a len cap bs s4 ⟨6, l, t, p, Ch.zero, 0, n, 0, [], []⟩ (.slice none 0 0) (.slice none 0 0) ∧ w.grownBy (x5.setCell ⟨g, 13, none⟩ (.int .i64 ((n : Nat) : Int))) (some g)) := ⟨HX.out.1.setc 13 (.int .i64 ((n : Nat) : Int)) ⟨6, l, t, p, Ch.zero, 0, n, 0, [], []⟩ _ _ (fun _ => rfl), grown_set _ HX.out.2⟩
  clear HX
  go_wp2
  go_end0
  refine ⟨rfl, ⟨6, l, t, p, Ch.zero, 0, n, 0, [], []⟩, _, _, by rw [hfin.out]; exact HB5.out.1, fun _ => by rw [hfin.out], World.ownsRow_nil _ _ _ _, World.ownsRow_nil _ _ _ _, HB5.out.2⟩
end Go.Proofs.Ytgobegpmojkhaaa

/-
  The reader of package record: record, kind 7.
-/
namespace Go.Proofs.Ytgobegpmojkhaaa
open Go.RowKit
set_option linter.unusedVariables false

set_option maxRecDepth 4000 in
set_option maxHeartbeats 3200000 in
theorem brec_7 (g : Nat) (a : Option Addr) (len cap : Nat) (bs : List UInt8) (s : St) (hs : s.e = 0) (w : World) (hk : (pIn 1 8 s).1 = 7) (h : RbAt w g a len cap bs s Rec.zero (.slice none 0 0) (.slice none 0 0)) :
    Calls Try.prog 53 #[.pointer (some ⟨g, 0, none⟩)] w fun e w' => e = .returned (.tuple #[]) ∧ RecDone w w' g a len cap bs s := by
  obtain ⟨kd, s0, h0⟩ : ∃ n s', pIn 1 8 s = (n, s') := ⟨_, _, rfl⟩
  obtain ⟨l, s1, h1⟩ : ∃ n s', pNum 8 s0 = (n, s') := ⟨_, _, rfl⟩
  obtain ⟨t, s2, h2⟩ : ∃ n s', pNum 4 s1 = (n, s') := ⟨_, _, rfl⟩
  obtain ⟨p, s3, h3⟩ : ∃ n s', pNum 8 s2 = (n, s') := ⟨_, _, rfl⟩
  have bt : t < 256 ^ 4 := by have := num_lt 4 s1; rw [h2] at this; exact this
  have ewt := conv_i64 t (by omega)
  have C0 := hide (fun r va vb x h => bkind_any g a len cap bs s r va vb x h)
  have C1 := hide (fun r va vb x h => bnum_any g a len cap bs s0 r va vb 8 x (by omega) h)
  have C2 := hide (fun r va vb x h => bnum_any g a len cap bs s1 r va vb 4 x (by omega) h)
  have C3 := hide (fun r va vb x h => bnum_any g a len cap bs s2 r va vb 8 x (by omega) h)
  rw [h0] at C0
  rw [h1] at C1
  rw [h2] at C2
  rw [h3] at C3
  have HGL := hide h.lt
  have hkd : kd = 7 := by rw [h0] at hk; exact hk
  subst hkd
  have hfin : Hid (pRec s = (⟨7, l, t, p, Ch.zero, 0, 0, 0, [], []⟩, s3)) := by
    show pRec s = _
    rw [rec_rest, h0]
    simp [recRest, bindP, pureP, pMay, h1, h2, h3]
  clear hs hk bt h0 h1 h2 h3
  have HB0 : Hid (RbAt w g a len cap bs s Rec.zero (.slice none 0 0) (.slice none 0 0) ∧ w.grownBy w (some g)) := ⟨h, grown_refl w _⟩
  clear h
  go_enter Try.func53, Try.ntmps53
  go_wp2_with fail
  refine (C0.out _ _ _ _ HB0.out.1).mono ?_
  rintro e x1 ⟨rfl, hb, hg⟩
  have HX : Hid (RbAt x1 g a len cap bs s0 Rec.zero (.slice none 0 0) (.slice none 0 0) ∧ w.grownBy x1 (some g)) := ⟨hb, grown_trans HB0.out.2 hg⟩
  clear hb hg HB0 C0
  obtain ⟨k, q, -, -⟩ := HX.out.1.row
  have c := q.cell 3 (.int .i64 0) rfl
  have f := q.free 3
  clear q
  have HB1 : Hid (RbAt (x1.setCell ⟨g, 3, none⟩ (.int .i64 7)) g a len cap bs s0 ⟨7, 0, 0, 0, Ch.zero, 0, 0, 0, [], []⟩ (.slice none 0 0) (.slice none 0 0) ∧ w.grownBy (x1.setCell ⟨g, 3, none⟩ (.int .i64 7)) (some g)) := ⟨HX.out.1.setc 3 (.int .i64 7) ⟨7, 0, 0, 0, Ch.zero, 0, 0, 0, [], []⟩ _ _ (fun _ => rfl), grown_set _ HX.out.2⟩
  clear HX
  go_wp2_with fail
  refine gen_calls (fun x => Hid (RbAt x g a len cap bs s0 ⟨7, 0, 0, 0, Ch.zero, 0, 0, 0, [], []⟩ (.slice none 0 0) (.slice none 0 0) ∧ w.grownBy x (some g))) HB1 ?_
  clear HB1 c f
  intro y1 HB1
  refine (C1.out _ _ _ _ HB1.out.1).mono ?_
  rintro e x2 ⟨rfl, hb, hg⟩
  have HX : Hid (RbAt x2 g a len cap bs s1 ⟨7, 0, 0, 0, Ch.zero, 0, 0, 0, [], []⟩ (.slice none 0 0) (.slice none 0 0) ∧ w.grownBy x2 (some g)) := ⟨hb, grown_trans HB1.out.2 hg⟩
  clear hb hg HB1 C1
  obtain ⟨k, q, -, -⟩ := HX.out.1.row
  have c := q.cell 4 (.int .u64 0) rfl
  have f := q.free 4
  clear q
  have HB2 : Hid (RbAt (x2.setCell ⟨g, 4, none⟩ (.int .u64 ((l : Nat) : Int))) g a len cap bs s1 ⟨7, l, 0, 0, Ch.zero, 0, 0, 0, [], []⟩ (.slice none 0 0) (.slice none 0 0) ∧ w.grownBy (x2.setCell ⟨g, 4, none⟩ (.int .u64 ((l : Nat) : Int))) (some g)) := ⟨HX.out.1.setc 4 (.int .u64 ((l : Nat) : Int)) ⟨7, l, 0, 0, Ch.zero, 0, 0, 0, [], []⟩ _ _ (fun _ => rfl), grown_set _ HX.out.2⟩
  clear HX
  go_wp2_with fail
  refine gen_calls (fun x => Hid (RbAt x g a len cap bs s1 ⟨7, l, 0, 0, Ch.zero, 0, 0, 0, [], []⟩ (.slice none 0 0) (.slice none 0 0) ∧ w.grownBy x (some g))) HB2 ?_
  clear HB2 c f
  intro y2 HB2
  refine (C2.out _ _ _ _ HB2.out.1).mono ?_
  rintro e x3 ⟨rfl, hb, hg⟩
  have HX : Hid (RbAt x3 g a len cap bs s2 ⟨7, l, 0, 0, Ch.zero, 0, 0, 0, [], []⟩ (.slice none 0 0) (.slice none 0 0) ∧ w.grownBy x3 (some g)) := ⟨hb, grown_trans HB2.out.2 hg⟩
  clear hb hg HB2 C2
  obtain ⟨k, q, -, -⟩ := HX.out.1.row
  have c := q.cell 5 (.int .i64 0) rfl
  have f := q.free 5
  clear q
  have HB3 : Hid (RbAt (x3.setCell ⟨g, 5, none⟩ (.int .i64 (t : Int))) g a len cap bs s2 ⟨7, l, t, 0, Ch.zero, 0, 0, 0, [], []⟩ (.slice none 0 0) (.slice none 0 0) ∧ w.grownBy (x3.setCell ⟨g, 5, none⟩ (.int .i64 (t : Int))) (some g)) := ⟨HX.out.1.setc 5 (.int .i64 (t : Int)) ⟨7, l, t, 0, Ch.zero, 0, 0, 0, [], []⟩ _ _ (fun _ => rfl), grown_set _ HX.out.2⟩
  clear HX
  go_wp2_with fail
  refine gen_calls (fun x => Hid (RbAt x g a len cap bs s2 ⟨7, l, t, 0, Ch.zero, 0, 0, 0, [], []⟩ (.slice none 0 0) (.slice none 0 0) ∧ w.grownBy x (some g))) HB3 ?_
  clear HB3 c f
  intro y3 HB3
  refine (C3.out _ _ _ _ HB3.out.1).mono ?_
  rintro e x4 ⟨rfl, hb, hg⟩
  have HX : Hid (RbAt x4 g a len cap bs s3 ⟨7, l, t, 0, Ch.zero, 0, 0, 0, [], []⟩ (.slice none 0 0) (.slice none 0 0) ∧ w.grownBy x4 (some g)) := ⟨hb, grown_trans HB3.out.2 hg⟩
  clear hb hg HB3 C3
  obtain ⟨k, q, -, -⟩ := HX.out.1.row
  have c := q.cell 6 (.int .u64 0) rfl
  have f := q.free 6
  have c3 := q.cell 3 (.int .i64 7) rfl
  clear q
  have HB4 : Hid (RbAt (x4.setCell ⟨g, 6, none⟩ (.int .u64 ((p : Nat) : Int))) g a len cap bs s3 ⟨7, l, t, p, Ch.zero, 0, 0, 0, [], []⟩ (.slice none 0 0) (.slice none 0 0) ∧ w.grownBy (x4.setCell ⟨g, 6, none⟩ (.int .u64 ((p : Nat) : Int))) (some g)) := ⟨HX.out.1.setc 6 (.int .u64 ((p : Nat) : Int)) ⟨7, l, t, p, Ch.zero, 0, 0, 0, [], []⟩ _ _ (fun _ => rfl), grown_set _ HX.out.2⟩
  clear HX
  go_wp2
  go_end0
  refine ⟨rfl, ⟨7, l, t, p, Ch.zero, 0, 0, 0, [], []⟩, _, _, by rw [hfin.out]; exact HB4.out.1, fun _ => by rw [hfin.out], World.ownsRow_nil _ _ _ _, World.ownsRow_nil _ _ _ _, HB4.out.2⟩
end Go.Proofs.Ytgobegpmojkhaaa

/-
  The reader of package record: record, kind 8.
-/
namespace Go.Proofs.Ytgobegpmojkhaaa
open Go.RowKit
set_option linter.unusedVariables false

set_option maxRecDepth 4000 in
set_option maxHeartbeats 3200000 in
theorem brec_8 (g : Nat) (a : Option Addr) (len cap : Nat) (bs : List UInt8) (s : St) (hs : s.e = 0) (w : World) (hk : (pIn 1 8 s).1 = 8) (h : RbAt w g a len cap bs s Rec.zero (.slice none 0 0) (.slice none 0 0)) :
    Calls Try.prog 53 #[.pointer (some ⟨g, 0, none⟩)] w fun e w' => e = .returned (.tuple #[]) ∧ RecDone w w' g a len cap bs s := by
  obtain ⟨kd, s0, h0⟩ : ∃ n s', pIn 1 8 s = (n, s') := ⟨_, _, rfl⟩
  obtain ⟨l, s1, h1⟩ : ∃ n s', pNum 8 s0 = (n, s') := ⟨_, _, rfl⟩
  obtain ⟨t, s2, h2⟩ : ∃ n s', pNum 4 s1 = (n, s') := ⟨_, _, rfl⟩
  obtain ⟨p, s3, h3⟩ : ∃ n s', pNum 8 s2 = (n, s') := ⟨_, _, rfl⟩
  have bt : t < 256 ^ 4 := by have := num_lt 4 s1; rw [h2] at this; exact this
  have ewt := conv_i64 t (by omega)
  have C0 := hide (fun r va vb x h => bkind_any g a len cap bs s r va vb x h)
  have C1 := hide (fun r va vb x h => bnum_any g a len cap bs s0 r va vb 8 x (by omega) h)
  have C2 := hide (fun r va vb x h => bnum_any g a len cap bs s1 r va vb 4 x (by omega) h)
  have C3 := hide (fun r va vb x h => bnum_any g a len cap bs s2 r va vb 8 x (by omega) h)
  rw [h0] at C0
  rw [h1] at C1
  rw [h2] at C2
  rw [h3] at C3
  have HGL := hide h.lt
  have hkd : kd = 8 := by rw [h0] at hk; exact hk
  subst hkd
  obtain ⟨n, s4, h4⟩ : ∃ n s', pNum 8 s3 = (n, s') := ⟨_, _, rfl⟩
  have C4 := hide (fun r va vb x h => bnum_any g a len cap bs s3 r va vb 8 x (by omega) h)
  rw [h4] at C4
  have T1 := cnt_some Good.tx 16 s4
  have D1 := hide (fun r va vb x h => btxns_any g a len cap bs s4 r va vb x h)
  obtain ⟨ts, hts⟩ : ∃ ts, ts = itL pTx (cntN 16 s4) (pIn 0 16 s4).2 := ⟨_, rfl⟩
  obtain ⟨s5, hs5⟩ : ∃ s', s' = itS pTx (cntN 16 s4) (pIn 0 16 s4).2 := ⟨_, rfl⟩
  have hl5 : cntN 16 s4 = ts.length := by rw [hts, itL_length]
  rw [← hts, ← hs5] at T1 D1
  have T2 := cnt_some Good.di 32 s5
  have D2 := hide (fun r va vb x h => bdirty_any g a len cap bs s5 r va vb x h)
  obtain ⟨ds, hds⟩ : ∃ ds, ds = itL pDi (cntN 32 s5) (pIn 0 32 s5).2 := ⟨_, rfl⟩
  obtain ⟨s6, hs6⟩ : ∃ s', s' = itS pDi (cntN 32 s5) (pIn 0 32 s5).2 := ⟨_, rfl⟩
  have hl6 : cntN 32 s5 = ds.length := by rw [hds, itL_length]
  rw [← hds, ← hs6] at T2 D2
  rw [hl5] at D1
  rw [hl6] at D2
  have C5 : Hid (∀ r va vb x, RbAt x g a len cap bs s4 r va vb → Calls Try.prog 74 #[.pointer (some ⟨g, 0, none⟩)] x fun e w' => ∃ v, e = .returned v ∧ w'.ownsRow x.heap.size 70 5 v ts.length (flatT ts) ∧ RbAt w' g a len cap bs s5 r va vb ∧ x.grownBy w' (some g)) := D1.out
  have C6 : Hid (∀ r va vb x, RbAt x g a len cap bs s5 r va vb → Calls Try.prog 75 #[.pointer (some ⟨g, 0, none⟩)] x fun e w' => ∃ v, e = .returned v ∧ w'.ownsRow x.heap.size 72 2 v ds.length (flatD ds) ∧ RbAt w' g a len cap bs s6 r va vb ∧ x.grownBy w' (some g)) := D2.out
  have hfin : Hid ((pRec s).2 = s6 ∧ ((pRec s).2.e = 0 → (pRec s).1 = ⟨8, l, t, p, Ch.zero, 0, 0, n, ts, ds⟩)) := by
    have e1 : pRec s = (⟨8, l, t, p, Ch.zero, 0, 0, n, (pSome pTx (pIn 0 16 s4).1 (pIn 0 16 s4).2).1, (pSome pDi (pIn 0 32 (pSome pTx (pIn 0 16 s4).1 (pIn 0 16 s4).2).2).1 (pIn 0 32 (pSome pTx (pIn 0 16 s4).1 (pIn 0 16 s4).2).2).2).1⟩, (pSome pDi (pIn 0 32 (pSome pTx (pIn 0 16 s4).1 (pIn 0 16 s4).2).2).1 (pIn 0 32 (pSome pTx (pIn 0 16 s4).1 (pIn 0 16 s4).2).2).2).2) := by
      rw [rec_rest, h0]
      simp [recRest, bindP, pureP, pMay, pCheck, h1, h2, h3, h4]
    rw [T1.1] at e1
    rw [e1]
    refine ⟨T2.1, fun h => ?_⟩
    have h6 := T2.2 h
    have h5 : s5.e = 0 := by
      by_cases hh : s5.e = 0
      · exact hh
      · have hst := ((Good.in 0 32).bind fun m => Good.some Good.di m).stick s5 hh
        have : (pSome pDi (pIn 0 32 s5).1 (pIn 0 32 s5).2).2 = s5 := hst
        rw [this] at h
        exact absurd h hh
    have h7 := T1.2 (by rw [T1.1]; exact h5)
    show (⟨8, l, t, p, Ch.zero, 0, 0, n, (pSome pTx (pIn 0 16 s4).1 (pIn 0 16 s4).2).1, (pSome pDi (pIn 0 32 s5).1 (pIn 0 32 s5).2).1⟩ : Rec) = _
    rw [h6, h7]
  clear h4 hts hs5 hds hs6 hl5 hl6 T1 T2 D1 D2
  clear hs hk bt h0 h1 h2 h3
  have HB0 : Hid (RbAt w g a len cap bs s Rec.zero (.slice none 0 0) (.slice none 0 0) ∧ w.grownBy w (some g)) := ⟨h, grown_refl w _⟩
  clear h
  go_enter Try.func53, Try.ntmps53
  go_wp2_with fail
  refine (C0.out _ _ _ _ HB0.out.1).mono ?_
  rintro e x1 ⟨rfl, hb, hg⟩
  have HX : Hid (RbAt x1 g a len cap bs s0 Rec.zero (.slice none 0 0) (.slice none 0 0) ∧ w.grownBy x1 (some g)) := ⟨hb, grown_trans HB0.out.2 hg⟩
  clear hb hg HB0 C0
  obtain ⟨k, q, -, -⟩ := HX.out.1.row
  have c := q.cell 3 (.int .i64 0) rfl
  have f := q.free 3
  clear q
  have HB1 : Hid (RbAt (x1.setCell ⟨g, 3, none⟩ (.int .i64 8)) g a len cap bs s0 ⟨8, 0, 0, 0, Ch.zero, 0, 0, 0, [], []⟩ (.slice none 0 0) (.slice none 0 0) ∧ w.grownBy (x1.setCell ⟨g, 3, none⟩ (.int .i64 8)) (some g)) := ⟨HX.out.1.setc 3 (.int .i64 8) ⟨8, 0, 0, 0, Ch.zero, 0, 0, 0, [], []⟩ _ _ (fun _ => rfl), grown_set _ HX.out.2⟩
  clear HX
  go_wp2_with fail
  refine gen_calls (fun x => Hid (RbAt x g a len cap bs s0 ⟨8, 0, 0, 0, Ch.zero, 0, 0, 0, [], []⟩ (.slice none 0 0) (.slice none 0 0) ∧ w.grownBy x (some g))) HB1 ?_
  clear HB1 c f
  intro y1 HB1
  refine (C1.out _ _ _ _ HB1.out.1).mono ?_
  rintro e x2 ⟨rfl, hb, hg⟩
  have HX : Hid (RbAt x2 g a len cap bs s1 ⟨8, 0, 0, 0, Ch.zero, 0, 0, 0, [], []⟩ (.slice none 0 0) (.slice none 0 0) ∧ w.grownBy x2 (some g)) := ⟨hb, grown_trans HB1.out.2 hg⟩
  clear hb hg HB1 C1
  obtain ⟨k, q, -, -⟩ := HX.out.1.row
  have c := q.cell 4 (.int .u64 0) rfl
  have f := q.free 4
  clear q
  have HB2 : Hid (RbAt (x2.setCell ⟨g, 4, none⟩ (.int .u64 ((l : Nat) : Int))) g a len cap bs s1 ⟨8, l, 0, 0, Ch.zero, 0, 0, 0, [], []⟩ (.slice none 0 0) (.slice none 0 0) ∧ w.grownBy (x2.setCell ⟨g, 4, none⟩ (.int .u64 ((l : Nat) : Int))) (some g)) := ⟨HX.out.1.setc 4 (.int .u64 ((l : Nat) : Int)) ⟨8, l, 0, 0, Ch.zero, 0, 0, 0, [], []⟩ _ _ (fun _ => rfl), grown_set _ HX.out.2⟩
  clear HX
  go_wp2_with fail
  refine gen_calls (fun x => Hid (RbAt x g a len cap bs s1 ⟨8, l, 0, 0, Ch.zero, 0, 0, 0, [], []⟩ (.slice none 0 0) (.slice none 0 0) ∧ w.grownBy x (some g))) HB2 ?_
  clear HB2 c f
  intro y2 HB2
  refine (C2.out _ _ _ _ HB2.out.1).mono ?_
  rintro e x3 ⟨rfl, hb, hg⟩
  have HX : Hid (RbAt x3 g a len cap bs s2 ⟨8, l, 0, 0, Ch.zero, 0, 0, 0, [], []⟩ (.slice none 0 0) (.slice none 0 0) ∧ w.grownBy x3 (some g)) := ⟨hb, grown_trans HB2.out.2 hg⟩
  clear hb hg HB2 C2
  obtain ⟨k, q, -, -⟩ := HX.out.1.row
  have c := q.cell 5 (.int .i64 0) rfl
  have f := q.free 5
  clear q
  have HB3 : Hid (RbAt (x3.setCell ⟨g, 5, none⟩ (.int .i64 (t : Int))) g a len cap bs s2 ⟨8, l, t, 0, Ch.zero, 0, 0, 0, [], []⟩ (.slice none 0 0) (.slice none 0 0) ∧ w.grownBy (x3.setCell ⟨g, 5, none⟩ (.int .i64 (t : Int))) (some g)) := ⟨HX.out.1.setc 5 (.int .i64 (t : Int)) ⟨8, l, t, 0, Ch.zero, 0, 0, 0, [], []⟩ _ _ (fun _ => rfl), grown_set _ HX.out.2⟩
  clear HX
  go_wp2_with fail
  refine gen_calls (fun x => Hid (RbAt x g a len cap bs s2 ⟨8, l, t, 0, Ch.zero, 0, 0, 0, [], []⟩ (.slice none 0 0) (.slice none 0 0) ∧ w.grownBy x (some g))) HB3 ?_
  clear HB3 c f
  intro y3 HB3
  refine (C3.out _ _ _ _ HB3.out.1).mono ?_
  rintro e x4 ⟨rfl, hb, hg⟩
  have HX : Hid (RbAt x4 g a len cap bs s3 ⟨8, l, t, 0, Ch.zero, 0, 0, 0, [], []⟩ (.slice none 0 0) (.slice none 0 0) ∧ w.grownBy x4 (some g)) := ⟨hb, grown_trans HB3.out.2 hg⟩
  clear hb hg HB3 C3
  obtain ⟨k, q, -, -⟩ := HX.out.1.row
  have c := q.cell 6 (.int .u64 0) rfl
  have f := q.free 6
  have c3 := q.cell 3 (.int .i64 8) rfl
  clear q
  have HB4 : Hid (RbAt (x4.setCell ⟨g, 6, none⟩ (.int .u64 ((p : Nat) : Int))) g a len cap bs s3 ⟨8, l, t, p, Ch.zero, 0, 0, 0, [], []⟩ (.slice none 0 0) (.slice none 0 0) ∧ w.grownBy (x4.setCell ⟨g, 6, none⟩ (.int .u64 ((p : Nat) : Int))) (some g)) := ⟨HX.out.1.setc 6 (.int .u64 ((p : Nat) : Int)) ⟨8, l, t, p, Ch.zero, 0, 0, 0, [], []⟩ _ _ (fun _ => rfl), grown_set _ HX.out.2⟩
  clear HX
  go_wp2_with fail
  refine gen_calls (fun x => Hid (RbAt x g a len cap bs s3 ⟨8, l, t, p, Ch.zero, 0, 0, 0, [], []⟩ (.slice none 0 0) (.slice none 0 0) ∧ w.grownBy x (some g))) HB4 ?_
  clear HB4 c f c3
  intro y4 HB4
  refine (C4.out _ _ _ _ HB4.out.1).mono ?_
  rintro e x5 ⟨rfl, hb, hg⟩
  have HX : Hid (RbAt x5 g a len cap bs s4 ⟨8, l, t, p, Ch.zero, 0, 0, 0, [], []⟩ (.slice none 0 0) (.slice none 0 0) ∧ w.grownBy x5 (some g)) := ⟨hb, grown_trans HB4.out.2 hg⟩
  clear hb hg HB4 C4
  obtain ⟨k, q, -, -⟩ := HX.out.1.row
  have c := q.cell 14 (.int .u64 0) rfl
  have f := q.free 14
  clear q
  have HB5 : Hid (RbAt (x5.setCell ⟨g, 14, none⟩ (.int .u64 ((n : Nat) : Int))) g a len cap bs s4 ⟨8, l, t, p, Ch.zero, 0, 0, n, [], []⟩ (.slice none 0 0) (.slice none 0 0) ∧ w.grownBy (x5.setCell ⟨g, 14, none⟩ (.int .u64 ((n : Nat) : Int))) (some g)) := ⟨HX.out.1.setc 14 (.int .u64 ((n : Nat) : Int)) ⟨8, l, t, p, Ch.zero, 0, 0, n, [], []⟩ _ _ (fun _ => rfl), grown_set _ HX.out.2⟩
  clear HX
  go_wp2_with fail
  refine gen_calls (fun x => Hid (RbAt x g a len cap bs s4 ⟨8, l, t, p, Ch.zero, 0, 0, n, [], []⟩ (.slice none 0 0) (.slice none 0 0) ∧ w.grownBy x (some g))) HB5 ?_
  clear HB5 c f
  intro y5 HB5
  refine (C5.out _ _ _ _ HB5.out.1).mono ?_
  rintro e x6 ⟨v, rfl, hown, hb, hg⟩
  have HX : Hid (RbAt x6 g a len cap bs s5 ⟨8, l, t, p, Ch.zero, 0, 0, n, [], []⟩ (.slice none 0 0) (.slice none 0 0) ∧ w.grownBy x6 (some g)) := ⟨hb, grown_trans HB5.out.2 hg⟩
  have HOA := hide (own_mono hown HB5.out.2.size)
  clear hb hg hown HB5 C5
  obtain ⟨k, q, -, -⟩ := HX.out.1.row
  have c := q.cell 15 (.slice none 0 0) rfl
  have f := q.free 15
  clear q
  obtain ⟨av, cv, hv⟩ := own_shape5 HOA.out
  have HB6 : Hid ((RbAt (x6.setCell ⟨g, 15, none⟩ v) g a len cap bs s5 ⟨8, l, t, p, Ch.zero, 0, 0, n, ts, []⟩ v (.slice none 0 0) ∧ w.grownBy (x6.setCell ⟨g, 15, none⟩ v) (some g)) ∧ (x6.setCell ⟨g, 15, none⟩ v).ownsRow w.heap.size 70 5 v ts.length (flatT ts)) := ⟨⟨HX.out.1.setc 15 v ⟨8, l, t, p, Ch.zero, 0, 0, n, ts, []⟩ v _ (fun _ => rfl), grown_set _ HX.out.2⟩, HOA.out.kept (grown_set v (grown_refl x6 (some g))) (.inr (fun e => own_ne HOA.out HGL.out e.symm))⟩
  clear HX HOA
  subst hv
  go_wp2_with fail
  refine gen_calls (fun x => Hid ((RbAt x g a len cap bs s5 ⟨8, l, t, p, Ch.zero, 0, 0, n, ts, []⟩ (.slice av ts.length cv) (.slice none 0 0) ∧ w.grownBy x (some g)) ∧ x.ownsRow w.heap.size 70 5 (.slice av ts.length cv) ts.length (flatT ts))) HB6 ?_
  clear HB6 c f
  intro y6 HB6
  refine (C6.out _ _ _ _ HB6.out.1.1).mono ?_
  rintro e x7 ⟨u, rfl, hown, hb, hg⟩
  have HX : Hid (RbAt x7 g a len cap bs s6 ⟨8, l, t, p, Ch.zero, 0, 0, n, ts, []⟩ (.slice av ts.length cv) (.slice none 0 0) ∧ w.grownBy x7 (some g)) := ⟨hb, grown_trans HB6.out.1.2 hg⟩
  have HOA := hide (HB6.out.2.kept hg (.inr (fun e => own_ne HB6.out.2 HGL.out e.symm)))
  have HOB := hide (own_mono hown HB6.out.1.2.size)
  clear hb hg hown HB6 C6
  obtain ⟨k, q, -, -⟩ := HX.out.1.row
  have c := q.cell 16 (.slice none 0 0) rfl
  have f := q.free 16
  clear q
  obtain ⟨au, cu, hu⟩ := own_shape5 HOB.out
  have HB7 : Hid ((RbAt (x7.setCell ⟨g, 16, none⟩ u) g a len cap bs s6 ⟨8, l, t, p, Ch.zero, 0, 0, n, ts, ds⟩ (.slice av ts.length cv) u ∧ w.grownBy (x7.setCell ⟨g, 16, none⟩ u) (some g)) ∧ (x7.setCell ⟨g, 16, none⟩ u).ownsRow w.heap.size 70 5 (.slice av ts.length cv) ts.length (flatT ts) ∧ (x7.setCell ⟨g, 16, none⟩ u).ownsRow w.heap.size 72 2 u ds.length (flatD ds)) := ⟨⟨HX.out.1.setc 16 u ⟨8, l, t, p, Ch.zero, 0, 0, n, ts, ds⟩ _ u (fun _ => rfl), grown_set _ HX.out.2⟩, HOA.out.kept (grown_set u (grown_refl x7 (some g))) (.inr (fun e => own_ne HOA.out HGL.out e.symm)), HOB.out.kept (grown_set u (grown_refl x7 (some g))) (.inr (fun e => own_ne HOB.out HGL.out e.symm))⟩
  clear HX HOA HOB
  subst hu
  go_wp2
  go_end0
  refine ⟨rfl, ⟨8, l, t, p, Ch.zero, 0, 0, n, ts, ds⟩, _, _, by rw [hfin.out.1]; exact HB7.out.1.1, fun h => (hfin.out.2 h).symm, HB7.out.2.1, HB7.out.2.2, HB7.out.1.2⟩
end Go.Proofs.Ytgobegpmojkhaaa

/-
  What Decode's parser answers fits a machine; the lists of a record that was read.
-/
namespace Go.Proofs.Ytgobegpmojkhaaa
open Go.RowKit
set_option linter.unusedVariables false

theorem wf_i64n (n : Nat) (h : n < 9223372036854775808) : (Lit.int .i64 (n : Int)).wf = true := by
  rw [← conv_i64 n h]
  exact wf_wrap _ _
theorem wf_u64n (n : Nat) (h : n < 18446744073709551616) : (Lit.int .u64 (n : Int)).wf = true := by
  have e : IntKind.u64.wrap (n : Int) = (n : Int) := by rw [IntKind.wrap_u64]; omega
  rw [← e]
  exact wf_wrap _ _
theorem text_len (s : St) : (pText s).1.size ≤ 255 := by
  unfold pText
  by_cases he : s.e ≠ 0
  · rw [if_pos he]
    exact Nat.zero_le _
  · rw [if_neg he]
    cases hs : s.l with
    | nil => exact Nat.zero_le _
    | cons b l =>
      simp only
      by_cases hk : b.toNat ≤ l.length
      · rw [if_pos hk]
        show (l.take b.toNat).toArray.size ≤ 255
        rw [List.size_toArray, List.length_take]
        have := b.toNat_lt
        omega
      · rw [if_neg hk]
        exact Nat.zero_le _
theorem num_wf (w : Nat) (hw : w ≤ 4) (s : St) : (Lit.int .i64 ((pNum w s).1 : Int)).wf = true := by
  have h := num_lt w s
  have h2 : 256 ^ w ≤ 256 ^ 4 := Nat.pow_le_pow_right (by omega) hw
  exact wf_i64n _ (by omega)
theorem num_wfu (w : Nat) (hw : w ≤ 8) (s : St) : (Lit.int .u64 ((pNum w s).1 : Int)).wf = true := by
  have h := num_lt w s
  have h2 : 256 ^ w ≤ 256 ^ 8 := Nat.pow_le_pow_right (by omega) hw
  exact wf_u64n _ (by omega)
theorem ch_fits (s : St) : (pCh s).1.fits := by
  have hm : (255 : Nat) ≤ maxLen := by unfold maxLen; omega
  exact ⟨num_wf 1 (by omega) _, num_wf 2 (by omega) _, num_wf 1 (by omega) _, Nat.le_trans (text_len _) hm, Nat.le_trans (text_len _) hm⟩
theorem tx_fits (s : St) : (pTx s).1.fits := ⟨num_wf 4 (by omega) _, num_wf 1 (by omega) _, num_wfu 8 (by omega) _, num_wfu 8 (by omega) _, num_wfu 8 (by omega) _⟩
theorem di_fits (s : St) : (pDi s).1.fits := ⟨num_wf 2 (by omega) _, num_wfu 8 (by omega) _⟩
theorem some_all {α : Type} {p : St → α × St} {G : α → Prop} (hp : ∀ s, G (p s).1) : ∀ n s, (∀ x ∈ (pSome p n s).1, G x) ∧ (pSome p n s).1.length ≤ n
  | 0, _ => ⟨fun x hx => (nomatch hx), Nat.le_refl _⟩
  | n + 1, s => by
    by_cases h : s.e ≠ 0
    · have e : pSome p (n + 1) s = ([], s) := by rw [pSome, if_pos h]
      rw [e]
      exact ⟨fun x hx => (nomatch hx), Nat.zero_le _⟩
    · have e : pSome p (n + 1) s = ((p s).1 :: (pSome p n (p s).2).1, (pSome p n (p s).2).2) := by rw [pSome, if_neg h]
      have ih := some_all hp n (p s).2
      rw [e]
      refine ⟨fun x hx => ?_, by show _ + 1 ≤ _; exact Nat.succ_le_succ ih.2⟩
      rcases List.mem_cons.1 hx with rfl | hx
      · exact hp s
      · exact ih.1 x hx
theorem may_ch_fits (q : Prop) [Decidable q] (s : St) : (pMay q Ch.zero pCh s).1.fits := by
  unfold pMay
  split
  · exact ch_fits s
  · exact zero_fits
theorem check_all (q : Prop) [Decidable q] (s : St) : (∀ x ∈ (pMay q (0, [], []) pCheck s).1.2.1, x.fits) ∧ (pMay q (0, [], []) pCheck s).1.2.1.length ≤ 255 ∧ (∀ x ∈ (pMay q (0, [], []) pCheck s).1.2.2, x.fits) ∧ (pMay q (0, [], []) pCheck s).1.2.2.length ≤ 255 := by
  unfold pMay
  split
  · have h1 := some_all (p := pTx) tx_fits (pIn 0 16 (pNum 8 s).2).1 (pIn 0 16 (pNum 8 s).2).2
    have h2 := some_all (p := pDi) di_fits (pIn 0 32 (pSome pTx (pIn 0 16 (pNum 8 s).2).1 (pIn 0 16 (pNum 8 s).2).2).2).1 (pIn 0 32 (pSome pTx (pIn 0 16 (pNum 8 s).2).1 (pIn 0 16 (pNum 8 s).2).2).2).2
    have b1 : (pIn 0 16 (pNum 8 s).2).1 ≤ 255 := by rw [in_val]; have := num_lt 1 (pNum 8 s).2; omega
    have b2 : (pIn 0 32 (pSome pTx (pIn 0 16 (pNum 8 s).2).1 (pIn 0 16 (pNum 8 s).2).2).2).1 ≤ 255 := by rw [in_val]; have := num_lt 1 (pSome pTx (pIn 0 16 (pNum 8 s).2).1 (pIn 0 16 (pNum 8 s).2).2).2; omega
    exact ⟨h1.1, Nat.le_trans h1.2 b1, h2.1, Nat.le_trans h2.2 b2⟩
  · exact ⟨fun x hx => (nomatch hx), Nat.zero_le _, fun x hx => (nomatch hx), Nat.zero_le _⟩
theorem rec_fits (s : St) : (pRec s).1.fits := by
  have hm : (255 : Nat) ≤ maxLen := by unfold maxLen; omega
  obtain ⟨c1, c2, c3, c4⟩ := check_all ((pIn 1 8 s).1 = 8) (pMay ((pIn 1 8 s).1 = 6) 0 (pNum 1) (pMay ((pIn 1 8 s).1 = 2) 0 (pNum 8) (pMay ((pIn 1 8 s).1 ≤ 2) Ch.zero pCh (pNum 8 (pNum 4 (pNum 8 (pIn 1 8 s).2).2).2).2).2).2).2
  exact ⟨may_ch_fits _ _, Nat.le_trans c2 hm, Nat.le_trans c4 hm, c1, c3⟩
theorem zero_rec_fits : Rec.zero.fits := ⟨zero_fits, Nat.zero_le _, Nat.zero_le _, fun x hx => (nomatch hx), fun x hx => (nomatch hx)⟩
theorem dec_fits (b : List UInt8) : (decR b).1.fits := by
  unfold decR
  split
  · exact zero_rec_fits
  · split
    · exact zero_rec_fits
    · exact rec_fits _

/-! ### The lists -/
def GotIn (base : Nat) (w : World) (r : Rec) (va vb : Value) : Prop := w.ownsRow base 70 5 va r.ts.length (flatT r.ts) ∧ w.ownsRow base 72 2 vb r.ds.length (flatD r.ds)
theorem GotIn.below {base : Nat} {w x : World} {r : Rec} {va vb : Value} (h : GotIn base w r va vb) (hb : Below w.heap.size w x) : GotIn base x r va vb := ⟨ownsRow_below h.1 hb, ownsRow_below h.2 hb⟩
theorem flat_get {α : Type} (f : α → Array Value) (n : Nat) (hf : ∀ x, (f x).size = n) (z : α) : ∀ (xs : List α) (i j : Nat), i < xs.length → j < n → (xs.flatMap fun x => (f x).toList)[i * n + j]? = (f (xs.getD i z)).toList[j]?
  | [], i, _, h, _ => absurd h (by simp)
  | x :: xs, 0, j, _, hj => by
    rw [List.flatMap_cons, List.getElem?_append_left (by rw [Array.length_toList, hf]; omega), Nat.zero_mul, Nat.zero_add]
    rfl
  | x :: xs, i + 1, j, h, hj => by
    have e : (i + 1) * n + j = (f x).toList.length + (i * n + j) := by rw [Array.length_toList, hf, Nat.add_mul, Nat.one_mul]; omega
    rw [List.flatMap_cons, e, List.getElem?_append_right (Nat.le_add_right _ _), Nat.add_sub_cancel_left]
    exact flat_get f n hf z xs i j (by simpa using h) hj
theorem own_rows {α : Type} (f : α → Array Value) (z : α) (n : Nat) (hf : ∀ x, (f x).size = n) {w : World} {base : Nat} {e : TypeId} {v : Value} {xs : List α} (h : w.ownsRow base e n v xs.length (xs.flatMap fun x => (f x).toList)) : RowsIn f z n w v xs := by
  rcases h.2 with ⟨h1, h2⟩ | ⟨g, cap, cur, h1, h2, h3, -⟩
  · exact ⟨none, 0, by rw [h1, h2], fun hp => absurd h2 (by omega)⟩
  · subst h1
    refine ⟨_, cap, rfl, fun hp => ⟨g, 0, rfl, (Array.getElem?_eq_some_iff.1 h3).1, fun i hi j u hu => ?_⟩⟩
    have hj : j < n := by
      have := (List.getElem?_eq_some_iff.1 hu).1
      rwa [Array.length_toList, hf] at this
    have hij : i * n + j < xs.length * n := by
      have h5 : (i + 1) * n ≤ xs.length * n := Nat.mul_le_mul_right n (by omega)
      rw [Nat.add_mul, Nat.one_mul] at h5
      omega
    rw [Nat.zero_add, h.cellAt (i * n + j) hij, flat_get f n hf z xs i j hi hj]
    exact hu
theorem GotIn.rc {base : Nat} {w : World} {r : Rec} {va vb : Value} (h : GotIn base w r va vb) : RcIn w r va vb := ⟨own_rows txA Tx.zero 5 (fun _ => rfl) h.1, own_rows diA Di.zero 2 (fun _ => rfl) h.2⟩
theorem RowAt.setSame {w : World} {b : Nat} {t : TypeId} {cs : Array Value} (h : RowAt w b t cs) (j : Nat) (v : Value) (hv : cs[j]? = some v) : RowAt (w.setCell ⟨b, j, none⟩ v) b t cs := by
  have h2 := h.set j v
  have e : cs.setIfInBounds j v = cs := by
    apply Array.ext_getElem?
    intro i
    rw [Array.getElem?_setIfInBounds]
    split
    · rename_i hij
      subst hij
      rw [hv]
      have := (Array.getElem?_eq_some_iff.1 hv).1
      simp [this]
    · rfl
  rwa [e] at h2

/-- THE CONTRACT of the reader's record. -/
theorem brecord_any (g : Nat) (a : Option Addr) (len cap : Nat) (bs : List UInt8) (s : St) (hs : s.e = 0) (w : World) (h : RbAt w g a len cap bs s Rec.zero (.slice none 0 0) (.slice none 0 0)) :
    Calls Try.prog 53 #[.pointer (some ⟨g, 0, none⟩)] w fun e w' => e = .returned (.tuple #[]) ∧ RecDone w w' g a len cap bs s := by
  by_cases hk : (pIn 1 8 s).2.e = 0
  · have hg := kind_good hk
    by_cases k1 : (pIn 1 8 s).1 = 1
    · exact brec_1 g a len cap bs s hs w k1 h
    by_cases k2 : (pIn 1 8 s).1 = 2
    · exact brec_2 g a len cap bs s hs w k2 h
    by_cases k3 : (pIn 1 8 s).1 = 3
    · exact brec_3 g a len cap bs s hs w k3 h
    by_cases k4 : (pIn 1 8 s).1 = 4
    · exact brec_4 g a len cap bs s hs w k4 h
    by_cases k5 : (pIn 1 8 s).1 = 5
    · exact brec_5 g a len cap bs s hs w k5 h
    by_cases k6 : (pIn 1 8 s).1 = 6
    · exact brec_6 g a len cap bs s hs w k6 h
    by_cases k7 : (pIn 1 8 s).1 = 7
    · exact brec_7 g a len cap bs s hs w k7 h
    exact brec_8 g a len cap bs s hs w (by omega) h
  · exact brec_no g a len cap bs s hs w hk h
end Go.Proofs.Ytgobegpmojkhaaa

/-
  The contracts of frame.Put and frame.Room.
-/
namespace Go.Proofs.Ytgobegpmojkhaaa
open Go.RowKit
set_option linter.unusedVariables false

/-- What Put answers. -/
noncomputable def putL (r : Rec) : List UInt8 := if r.rightB = true then frameB r else []

set_option maxRecDepth 4000 in
set_option maxHeartbeats 1600000 in
theorem fput_no (r : Rec) (va vb : Value) (w : World) (hr : ¬ r.right) (hf : r.fits) (hin : RcIn w r va vb) :
    Calls Try.prog 10 #[.agg (rcA r va vb)] w fun e w' => e = .returned (.tuple #[.slice none 0 0, .int .i64 1]) ∧ Below w.heap.size w w' := by
  have HIN := hide hin
  have HE := hide (fun w h => enc_no r va vb w hr hf h)
  have HK0 := hide (Keeps.one w 28 (rcA r va vb))
  clear hr hf hin
  obtain ⟨A, hA⟩ : ∃ A, A = rcA r va vb := ⟨_, rfl⟩
  rw [← hA] at HK0 HE ⊢
  have HIA : Hid ((Try.prog.info? 28).map (·.size) = some A.size) := by
    rw [hA]
    exact infoRc
  clear hA
  go_enter Try.func10, Try.ntmps10
  go_wp2_with (refine wpList_load_at rfl 28 (.tmp 1) rfl w.heap.size rfl A HK0.out.1.1 _ Try.underlying28 rfl HIA.out ?_)
  refine (HE.out _ (HIN.out.below HK0.out.2)).mono ?_
  rintro e w1 ⟨rfl, hb1⟩
  have d1 := (HK0.out.later hb1).2
  clear HK0 HE hb1
  go_wp2
  go_ret2
  exact ⟨rfl, d1⟩

set_option maxRecDepth 4000 in
set_option maxHeartbeats 1600000 in
theorem fput_ok (r : Rec) (va vb : Value) (w : World) (hr : r.right) (hf : r.fits) (hin : RcIn w r va vb) :
    Calls Try.prog 10 #[.agg (rcA r va vb)] w fun e w' => ∃ v, e = .returned (.tuple #[v, .int .i64 0]) ∧ w'.ownsRow w.heap.size 5 1 v (frameB r).length (toV (frameB r)) ∧ Below w.heap.size w w' := by
  have HIN := hide hin
  have HE := hide (fun w h => enc_any r va vb w hf h)
  have eE : encE r = 0 := by unfold encE; rw [if_pos (rightB_yes hr)]
  have eL : encL r = recB r := by unfold encL; rw [if_pos (rightB_yes hr)]
  rw [eE, eL] at HE
  have HFB : Hid (frameB r = sealB (beB 2 (recB r).length ++ recB r)) := rfl
  have hfew := rec_few r hr
  have HLF := hide (frameB_length r)
  have HK0 := hide (Keeps.one w 28 (rcA r va vb))
  clear hf hin hr eE eL
  generalize frameB r = FB at *
  generalize recB r = L at *
  obtain ⟨A, hA⟩ : ∃ A, A = rcA r va vb := ⟨_, rfl⟩
  rw [← hA] at HK0 HE ⊢
  have HIA : Hid ((Try.prog.info? 28).map (·.size) = some A.size) := by
    rw [hA]
    exact infoRc
  clear hA
  obtain ⟨ln, hln⟩ : ∃ ln, ln = L.length := ⟨_, rfl⟩
  rw [← hln] at hfew HFB HLF
  have HLN := hide hln
  clear hln
  have HPW : Hid (ln < 256 ^ 2) := by show ln < 65536; omega
  have ewl : IntKind.u64.wrap (ln : Int) = (ln : Int) := by rw [IntKind.wrap_u64]; omega
  go_enter Try.func10, Try.ntmps10
  go_wp2_with (refine wpList_load_at rfl 28 (.tmp 1) rfl w.heap.size rfl A HK0.out.1.1 _ Try.underlying28 rfl HIA.out ?_)
  refine (HE.out _ (HIN.out.below HK0.out.2)).mono ?_
  rintro e w1 ⟨⟨v1, rfl, p1, k1, rfl, hnil, hcap, hB1⟩, hb1⟩
  rw [← HLN.out] at hB1 hcap
  rw [← HLN.out]
  have HB1 := hide hB1
  have HD1 := hide (HK0.out.later hb1).2
  have HNIL := hide hnil
  clear HK0 HE hb1 hB1 hnil
  go_wp2_with fail
  refine (put_ok none 0 0 2 ln [] w1 (IsB.nil w1) (by omega) (by omega) (by omega) HPW.out).mono ?_
  rintro e w2 ⟨rfl, hown2, hb2⟩
  have HO2 := hide (own_mono hown2 HD1.out.size)
  have HB2 := hide (HB1.out.below hb2)
  have HD2 := hide (HD1.out.trans (hb2.mono HD1.out.size))
  clear hown2 hb2 HB1 HD1
  generalize w1.heap.size = g1 at *
  go_wp2_with (at_builtin; refine wpList_append_ob _ rfl (.tmp 22) (.tmp 23) 30 rfl 5 Try.underlying30 info8 w.heap.size _ 2 _ rfl HO2.out p1 ln k1 L rfl HB2.out HNIL.out (by omega) HD2.out.size ?_)
  intro v3 w3 hown3 hg3
  have d3 := HD2.out.grown hg3 HD2.out.size (fun k hk => (HO2.out.lt k hk).1)
  obtain ⟨a3, c3, rfl, hc3, hB3⟩ := shape_isB hown3
  have HB3 := hide hB3
  have HD3 := hide d3
  clear hown3 hg3 d3 hB3 HO2 HB2 HD2 hc3
  go_wp2_with fail
  refine (seal_any a3 (2 + ln) c3 ([] ++ beB 2 ln ++ L) w3 HB3.out (by omega)).mono ?_
  rintro e w4 ⟨v4, rfl, hown4, hb4⟩
  have HO4 := hide (own_mono hown4 HD3.out.size)
  have HD4 := hide (HD3.out.trans (hb4.mono HD3.out.size))
  clear hown4 hb4 HB3 HD3
  obtain ⟨a4, c4, rfl⟩ := own_shape5 HO4.out
  go_wp2
  go_ret2
  have e1 : FB.length = 2 + ln + 4 := by
    have := HLF.out
    omega
  refine ⟨_, rfl, ?_, HD4.out⟩
  rw [e1, HFB.out]
  exact HO4.out

/-- THE CONTRACT. -/
theorem fput_any (r : Rec) (va vb : Value) (w : World) (hf : r.fits) (hin : RcIn w r va vb) :
    Calls Try.prog 10 #[.agg (rcA r va vb)] w fun e w' => ∃ v, e = .returned (.tuple #[v, .int .i64 (encE r)]) ∧ w'.ownsRow w.heap.size 5 1 v (putL r).length (toV (putL r)) ∧ Below w.heap.size w w' := by
  by_cases hr : r.right
  · have e1 : putL r = frameB r := by unfold putL; rw [if_pos (rightB_yes hr)]
    have e2 : encE r = 0 := by unfold encE; rw [if_pos (rightB_yes hr)]
    rw [e1, e2]
    exact fput_ok r va vb w hr hf hin
  · have e1 : putL r = [] := by unfold putL; rw [if_neg (by rw [rightB_no hr]; decide)]
    have e2 : encE r = 1 := by unfold encE; rw [if_neg (by rw [rightB_no hr]; decide)]
    rw [e1, e2]
    refine (fput_no r va vb w hr hf hin).mono ?_
    rintro e w1 ⟨rfl, hb1⟩
    exact ⟨_, rfl, World.ownsRow_nil _ _ _ _, hb1⟩

theorem putL_few (r : Rec) : (putL r).length ≤ 1006 := by
  unfold putL
  by_cases hr : r.right
  · rw [if_pos (rightB_yes hr), frameB_length]
    have := rec_few r hr
    omega
  · rw [if_neg (by rw [rightB_no hr]; decide)]
    exact Nat.zero_le _

set_option maxRecDepth 4000 in
set_option maxHeartbeats 1600000 in
theorem froom_any (r : Rec) (va vb : Value) (w : World) (hf : r.fits) (hin : RcIn w r va vb) :
    Calls Try.prog 12 #[.agg (rcA r va vb)] w fun e w' => e = .returned (.int .i64 ((putL r).length : Int)) ∧ Below w.heap.size w w' := by
  have HIN := hide hin
  have HR := hide (fun w q h h2 => right_at r va vb w q h hf h2)
  have HS := hide (fun w h => size_any r va vb w hf h)
  have HK0 := hide (Keeps.one w 28 (rcA r va vb))
  clear hf hin
  obtain ⟨A, hA⟩ : ∃ A, A = rcA r va vb := ⟨_, rfl⟩
  rw [← hA] at HK0 HR HS ⊢
  have HIA : Hid ((Try.prog.info? 28).map (·.size) = some A.size) := by
    rw [hA]
    exact infoRc
  clear hA
  by_cases hr : r.right
  · have e1 : (putL r).length = (encL r).length + 6 := by
      unfold putL encL
      rw [if_pos (rightB_yes hr), if_pos (rightB_yes hr), frameB_length]
    have e2 : (encL r).length ≤ 1000 := by
      unfold encL
      rw [if_pos (rightB_yes hr)]
      exact rec_few r hr
    have HE1 := hide e1
    have HRT := hide (fun w h2 => HR.out w true (hide ⟨fun _ => hr, fun _ => rfl⟩) h2)
    clear hr HR e1
    generalize (encL r).length = ln at *
    go_enter Try.func12, Try.ntmps12
    go_wp2_with (refine wpList_load_at rfl 28 (.tmp 1) rfl w.heap.size rfl A HK0.out.1.1 _ Try.underlying28 rfl HIA.out ?_)
    refine (HRT.out _ (HIN.out.below HK0.out.2)).mono ?_
    rintro e w1 ⟨rfl, hb1⟩
    have HK1 := hide (HK0.out.later hb1)
    clear HK0 HRT hb1
    go_wp2_with (refine wpList_load_at rfl 28 (.tmp 1) rfl w.heap.size rfl A HK1.out.1.1 _ Try.underlying28 rfl HIA.out ?_)
    refine (HS.out _ (HIN.out.below HK1.out.2)).mono ?_
    rintro e w2 ⟨rfl, hb2⟩
    have d2 := (HK1.out.later hb2).2
    clear HK1 HS hb2
    go_wp2
    go_ret
    exact ⟨by rw [HE1.out]; rfl, d2⟩
  · have e1 : (putL r).length = 0 := by
      unfold putL
      rw [if_neg (by rw [rightB_no hr]; decide)]
      rfl
    have HE1 := hide e1
    have HRT := hide (fun w h2 => HR.out w false (hide ⟨fun h => (nomatch h), fun h => absurd h hr⟩) h2)
    clear hr HR e1 HS
    go_enter Try.func12, Try.ntmps12
    go_wp2_with (refine wpList_load_at rfl 28 (.tmp 1) rfl w.heap.size rfl A HK0.out.1.1 _ Try.underlying28 rfl HIA.out ?_)
    refine (HRT.out _ (HIN.out.below HK0.out.2)).mono ?_
    rintro e w1 ⟨rfl, hb1⟩
    have d1 := (HK0.out.later hb1).2
    clear HK0 HRT hb1
    go_wp2
    go_ret
    exact ⟨by rw [HE1.out]; rfl, d1⟩
end Go.Proofs.Ytgobegpmojkhaaa

/-
  The contract of record.Decode.
-/
namespace Go.Proofs.Ytgobegpmojkhaaa
open Go.RowKit
set_option linter.unusedVariables false

theorem rowat_drew {x : World} {b : Nat} {t : TypeId} {cs : Array Value} (h : RowAt x b t cs) : RowAt x.drew b t cs := h
theorem below_drew {B : Nat} {w x : World} (h : Below B w x) : Below B w x.drew := ⟨h.1, h.2, h.3, h.4, h.5⟩
/-- A row of the call's own, when a struct of another type is written. -/
theorem own_put {w w2 : World} {base n sz b : Nat} {e t : TypeId} {v : Value} {xs : List Value} {c0 : Array Value} (h : w.ownsRow base e sz v n xs) (hr : RowAt w b t c0) (ht : t ≠ e) (ho : ∀ k t' c', k ≠ b → RowAt w k t' c' → RowAt w2 k t' c') : w2.ownsRow base e sz v n xs := by
  refine ⟨h.1, h.2.imp id ?_⟩
  rintro ⟨g, cap, cur, h1, h2, h3, h4⟩
  refine ⟨g, cap, cur, h1, h2, ho g e cur (fun hg => ?_) h3, h4⟩
  subst hg
  have h5 := hr.symm.trans h3
  simp only [Option.some.injEq, Obj.cells.injEq] at h5
  exact ht h5.2.1
theorem rd_range {x : World} {g k : Nat} {v : Value} {e : Int} {r : Rec} {va vb : Value} (h : RowAt x g 94 (rdB v k e r va vb)) : x.rangeAt g 3 (rcA r va vb).toList := by
  intro j u hu
  have hj : j < 14 := (List.getElem?_eq_some_iff.1 hu).1
  refine h.cell (3 + j) u ?_
  rw [← hu, Array.getElem?_toList]
  match j, hj with
  | 0, _ => rfl
  | 1, _ => rfl
  | 2, _ => rfl
  | 3, _ => rfl
  | 4, _ => rfl
  | 5, _ => rfl
  | 6, _ => rfl
  | 7, _ => rfl
  | 8, _ => rfl
  | 9, _ => rfl
  | 10, _ => rfl
  | 11, _ => rfl
  | 12, _ => rfl
  | 13, _ => rfl

set_option maxRecDepth 4000 in
set_option maxHeartbeats 3200000 in
theorem dec_any (a : Option Addr) (len cap : Nat) (bs : List UInt8) (w : World) (hB : IsB w a len bs) (hl : len ≤ 140737488355328) (hc : len ≤ cap) :
    Calls Try.prog 30 #[.slice a len cap] w fun e w' => (∃ va vb, e = .returned (.tuple #[.agg (rcA (decR bs).1 va vb), .int .i64 (decR bs).2]) ∧ GotIn w.heap.size w' (decR bs).1 va vb) ∧ Below w.heap.size w w' := by
  have K2 := Keeps.two w 28 94 #[.int .i64 0, .int .u64 0, .int .i64 0, .int .u64 0, .int .i64 0, .int .i64 0, .int .i64 0, .string ⟨#[]⟩, .string ⟨#[]⟩, .int .u64 0, .int .i64 0, .int .u64 0, .slice none 0 0, .slice none 0 0] #[.slice a len cap, .int .i64 0, .int .i64 0, .int .i64 0, .int .u64 0, .int .i64 0, .int .u64 0, .int .i64 0, .int .i64 0, .int .i64 0, .string ⟨#[]⟩, .string ⟨#[]⟩, .int .u64 0, .int .i64 0, .int .u64 0, .slice none 0 0, .slice none 0 0]
  have HL2 := hide hB.1
  have HRB : Hid (RbAt ((w.alloc (.cells #[.int .i64 0, .int .u64 0, .int .i64 0, .int .u64 0, .int .i64 0, .int .i64 0, .int .i64 0, .string ⟨#[]⟩, .string ⟨#[]⟩, .int .u64 0, .int .i64 0, .int .u64 0, .slice none 0 0, .slice none 0 0] 28)).alloc (.cells #[.slice a len cap, .int .i64 0, .int .i64 0, .int .i64 0, .int .u64 0, .int .i64 0, .int .u64 0, .int .i64 0, .int .i64 0, .int .i64 0, .string ⟨#[]⟩, .string ⟨#[]⟩, .int .u64 0, .int .i64 0, .int .u64 0, .slice none 0 0, .slice none 0 0] 94)) (w.heap.size + 1) a len cap bs ⟨bs, 0⟩ Rec.zero (.slice none 0 0) (.slice none 0 0)) :=
    ⟨⟨0, K2.1.1, Nat.zero_le _, fun _ => rfl⟩, hB.below K2.2, ⟨hl, hc⟩, fun hp x hx => by
      obtain ⟨b, off, ha, hlt, _⟩ := hB.2 hp
      rw [ha] at hx
      cases hx
      show b < w.heap.size + 1
      omega⟩
  have HZR := hide (And.intro K2.1.2.1 K2.2)
  have HGI : Hid (w.heap.size ≤ w.heap.size ∧ w.heap.size ≠ w.heap.size + 1 ∧ w.heap.size ≤ w.heap.size + 1) := ⟨Nat.le_refl _, by omega, by omega⟩
  clear K2 hB hc
  have hml : len ≤ 140737488355328 := hl
  go_enter Try.func30, Try.ntmps30
  go_wp2_with fail
  obtain ⟨g, hg⟩ : ∃ g, g = w.heap.size + 1 := ⟨_, rfl⟩
  rw [← hg] at HRB HGI
  rw [← hg]
  refine gen_calls (fun x => Hid (RbAt x g a len cap bs ⟨bs, 0⟩ Rec.zero (.slice none 0 0) (.slice none 0 0)) ∧ Hid (RowAt x w.heap.size 28 #[.int .i64 0, .int .u64 0, .int .i64 0, .int .u64 0, .int .i64 0, .int .i64 0, .int .i64 0, .string ⟨#[]⟩, .string ⟨#[]⟩, .int .u64 0, .int .i64 0, .int .u64 0, .slice none 0 0, .slice none 0 0] ∧ Below w.heap.size w x)) ⟨HRB, HZR⟩ ?_
  clear HRB HZR hg
  rintro x0 ⟨HRB, HZR⟩
  have HGE := HGI
  refine (brecord_any g a len cap bs ⟨bs, 0⟩ rfl x0 HRB.out).mono ?_
  rintro e x1 ⟨rfl, r, va, vb, hrb, hreq, ho1, ho2, hgr⟩
  have HRB1 := hide hrb
  have HREQ := hide hreq
  have HGOT : Hid (GotIn w.heap.size x1 r va vb) := ⟨own_mono ho1 HZR.out.2.size, own_mono ho2 HZR.out.2.size⟩
  have HD : Hid (RowAt x1 w.heap.size 28 #[.int .i64 0, .int .u64 0, .int .i64 0, .int .u64 0, .int .i64 0, .int .i64 0, .int .i64 0, .string ⟨#[]⟩, .string ⟨#[]⟩, .int .u64 0, .int .i64 0, .int .u64 0, .slice none 0 0, .slice none 0 0] ∧ Below w.heap.size w x1) := ⟨row_grown HZR.out.1 hgr HGE.out.2.1, ⟨hgr.os.trans HZR.out.2.os, hgr.tape.trans HZR.out.2.tape, hgr.output.trans HZR.out.2.output, Nat.le_trans HZR.out.2.size hgr.size, fun k hk => (hgr.block k (Nat.lt_of_lt_of_le hk HZR.out.2.size) (fun e => by cases e; have := HGE.out.2.2; omega)).trans (HZR.out.2.block k hk)⟩⟩
  clear hrb hreq ho1 ho2 hgr HRB HZR HGI
  have HDR : Hid (decR bs = if (pRec ⟨bs, 0⟩).2.e ≠ 0 then (Rec.zero, (pRec ⟨bs, 0⟩).2.e) else if (pRec ⟨bs, 0⟩).2.l ≠ [] ∨ (pRec ⟨bs, 0⟩).1.rightB = false then (Rec.zero, 2) else ((pRec ⟨bs, 0⟩).1, 0)) := rfl
  have HFI := hide (rec_fits ⟨bs, 0⟩)
  generalize pRec ⟨bs, 0⟩ = pr at *
  obtain ⟨pr, s'⟩ := pr
  simp only at HREQ HDR HRB1 HFI
  obtain ⟨k, q, hkl, hd⟩ := HRB1.out.row
  have c2 := q.cell 2 (.int .i64 s'.e) rfl
  have HQ := hide q
  have HKL := hide hkl
  have HDL := hide hd
  clear q hkl hd
  by_cases he : s'.e = 0
  case neg =>
    have hdr : decR bs = (Rec.zero, s'.e) := by rw [HDR.out, if_pos he]
    have HDD := hide hdr
    have k0 : (s'.e == 0) = false := by rw [beq_eq_false_iff_ne]; exact he
    have k1 : (s'.e != 0) = true := by rw [bne, k0]; rfl
    clear hdr HDR he HREQ HQ HKL HDL HFI
    generalize s'.e = es at *
    have z0 := HD.out.1.cell 0 (.int .i64 0) rfl
    have zf0 := HD.out.1.free 0
    have z1 := HD.out.1.cell 1 (.int .u64 0) rfl
    have zf1 := HD.out.1.free 1
    have z2 := HD.out.1.cell 2 (.int .i64 0) rfl
    have zf2 := HD.out.1.free 2
    have z3 := HD.out.1.cell 3 (.int .u64 0) rfl
    have zf3 := HD.out.1.free 3
    have z4 := HD.out.1.cell 4 (.int .i64 0) rfl
    have zf4 := HD.out.1.free 4
    have z5 := HD.out.1.cell 5 (.int .i64 0) rfl
    have zf5 := HD.out.1.free 5
    have z6 := HD.out.1.cell 6 (.int .i64 0) rfl
    have zf6 := HD.out.1.free 6
    have z7 := HD.out.1.cell 7 (.string ⟨#[]⟩) rfl
    have zf7 := HD.out.1.free 7
    have z8 := HD.out.1.cell 8 (.string ⟨#[]⟩) rfl
    have zf8 := HD.out.1.free 8
    have z9 := HD.out.1.cell 9 (.int .u64 0) rfl
    have zf9 := HD.out.1.free 9
    have z10 := HD.out.1.cell 10 (.int .i64 0) rfl
    have zf10 := HD.out.1.free 10
    have z11 := HD.out.1.cell 11 (.int .u64 0) rfl
    have zf11 := HD.out.1.free 11
    have z12 := HD.out.1.cell 12 (.slice none 0 0) rfl
    have zf12 := HD.out.1.free 12
    have z13 := HD.out.1.cell 13 (.slice none 0 0) rfl
    have zf13 := HD.out.1.free 13
    have ne1 := HGE.out.2.1
    go_wp2_with fail
    go_region
    have HRW := hide ((((((((((((((HD.out.1.setSame 0 (.int .i64 0) rfl).setSame 1 (.int .u64 0) rfl).setSame 2 (.int .i64 0) rfl).setSame 3 (.int .u64 0) rfl).setSame 4 (.int .i64 0) rfl).setSame 5 (.int .i64 0) rfl).setSame 6 (.int .i64 0) rfl).setSame 7 (.string ⟨#[]⟩) rfl).setSame 8 (.string ⟨#[]⟩) rfl).setSame 9 (.int .u64 0) rfl).setSame 10 (.int .i64 0) rfl).setSame 11 (.int .u64 0) rfl).setSame 12 (.slice none 0 0) rfl).setSame 13 (.slice none 0 0) rfl)
    have HBW := hide ((((((((((((((HD.out.2.set1 HGE.out.1 0 (.int .i64 0)).set1 HGE.out.1 1 (.int .u64 0)).set1 HGE.out.1 2 (.int .i64 0)).set1 HGE.out.1 3 (.int .u64 0)).set1 HGE.out.1 4 (.int .i64 0)).set1 HGE.out.1 5 (.int .i64 0)).set1 HGE.out.1 6 (.int .i64 0)).set1 HGE.out.1 7 (.string ⟨#[]⟩)).set1 HGE.out.1 8 (.string ⟨#[]⟩)).set1 HGE.out.1 9 (.int .u64 0)).set1 HGE.out.1 10 (.int .i64 0)).set1 HGE.out.1 11 (.int .u64 0)).set1 HGE.out.1 12 (.slice none 0 0)).set1 HGE.out.1 13 (.slice none 0 0))
    refine gen_w (fun x => Hid (RowAt x w.heap.size 28 #[.int .i64 0, .int .u64 0, .int .i64 0, .int .u64 0, .int .i64 0, .int .i64 0, .int .i64 0, .string ⟨#[]⟩, .string ⟨#[]⟩, .int .u64 0, .int .i64 0, .int .u64 0, .slice none 0 0, .slice none 0 0]) ∧ Hid (Below w.heap.size w x)) (x := ((((((((((((((x1.setCell ⟨w.heap.size, 0, none⟩ (.int .i64 0)).setCell ⟨w.heap.size, 1, none⟩ (.int .u64 0)).setCell ⟨w.heap.size, 2, none⟩ (.int .i64 0)).setCell ⟨w.heap.size, 3, none⟩ (.int .u64 0)).setCell ⟨w.heap.size, 4, none⟩ (.int .i64 0)).setCell ⟨w.heap.size, 5, none⟩ (.int .i64 0)).setCell ⟨w.heap.size, 6, none⟩ (.int .i64 0)).setCell ⟨w.heap.size, 7, none⟩ (.string ⟨#[]⟩)).setCell ⟨w.heap.size, 8, none⟩ (.string ⟨#[]⟩)).setCell ⟨w.heap.size, 9, none⟩ (.int .u64 0)).setCell ⟨w.heap.size, 10, none⟩ (.int .i64 0)).setCell ⟨w.heap.size, 11, none⟩ (.int .u64 0)).setCell ⟨w.heap.size, 12, none⟩ (.slice none 0 0)).setCell ⟨w.heap.size, 13, none⟩ (.slice none 0 0)).drew) ⟨hide (rowat_drew HRW.out), hide (below_drew HBW.out)⟩ ?_
    clear HD HRW HBW z0 zf0 z1 zf1 z2 zf2 z3 zf3 z4 zf4 z5 zf5 z6 zf6 z7 zf7 z8 zf8 z9 zf9 z10 zf10 z11 zf11 z12 zf12 z13 zf13 ne1 c2
    rintro y0 ⟨HROW, HBL⟩
    go_wp2
    (try simp only [Exit.inBlock, Exit.then])
    refine bodyPost_ret (res_at rfl _ _ w.heap.size #[.int .i64 0, .int .u64 0, .int .i64 0, .int .u64 0, .int .i64 0, .int .i64 0, .int .i64 0, .string ⟨#[]⟩, .string ⟨#[]⟩, .int .u64 0, .int .i64 0, .int .u64 0, .slice none 0 0, .slice none 0 0] _ rfl HROW.out Try.underlying28 rfl infoRc) rfl ?_
    rw [HDD.out]
    exact ⟨⟨_, _, rfl, World.ownsRow_nil _ _ _ _, World.ownsRow_nil _ _ _ _⟩, HBL.out⟩
  rw [he] at c2 HQ
  obtain rfl := HREQ.out he
  obtain ⟨av, cv, hva⟩ := own_shape5 HGOT.out.1
  obtain ⟨au, cu, hvb⟩ := own_shape5 HGOT.out.2
  subst hva hvb
  have c1 := HQ.out.cell 1 (.int .i64 (k : Int)) rfl
  have HL0 := hide (HDL.out he)
  by_cases hk : k < len
  case pos =>
    have hne : s'.l ≠ [] := fun h => by
      have h2 := HL0.out
      rw [h] at h2
      have h3 := congrArg List.length h2
      rw [List.length_drop, HL2.out] at h3
      have h4 : len - k = 0 := h3
      omega
    have hdr : decR bs = (Rec.zero, 2) := by rw [HDR.out, if_neg (fun h => h he), if_pos (.inl hne)]
    clear hne
    have HDD := hide hdr
    have i1 : (k : Int) < (len : Int) := by omega
    clear hdr HDR he HREQ HQ HKL HDL HFI HL0
    go_wp2_with (refine wpList_store_at rfl 28 (.tmp 2) (.tmp 25) rfl w.heap.size #[.int .i64 0, .int .u64 0, .int .i64 0, .int .u64 0, .int .i64 0, .int .i64 0, .int .i64 0, .string ⟨#[]⟩, .string ⟨#[]⟩, .int .u64 0, .int .i64 0, .int .u64 0, .slice none 0 0, .slice none 0 0] #[.int .i64 0, .int .u64 0, .int .i64 0, .int .u64 0, .int .i64 0, .int .i64 0, .int .i64 0, .string ⟨#[]⟩, .string ⟨#[]⟩, .int .u64 0, .int .i64 0, .int .u64 0, .slice none 0 0, .slice none 0 0] rfl rfl HD.out.1 infoRc rfl (by simp [Value.oneCell']) ?_)
    intro w9 hr9 hk9 _
    have HROW := hide hr9
    have HBL := hide (hk9 _ _ HD.out.2 (Nat.le_refl _))
    clear hr9 hk9 HD c1 c2
    go_wp2
    (try simp only [Exit.inBlock, Exit.then])
    refine bodyPost_ret (res_at rfl _ _ w.heap.size #[.int .i64 0, .int .u64 0, .int .i64 0, .int .u64 0, .int .i64 0, .int .i64 0, .int .i64 0, .string ⟨#[]⟩, .string ⟨#[]⟩, .int .u64 0, .int .i64 0, .int .u64 0, .slice none 0 0, .slice none 0 0] _ rfl HROW.out Try.underlying28 rfl infoRc) rfl ?_
    rw [HDD.out]
    exact ⟨⟨_, _, rfl, World.ownsRow_nil _ _ _ _, World.ownsRow_nil _ _ _ _⟩, HBL.out⟩
  have hln : s'.l = [] := by
    have h2 := HL0.out
    rw [← h2]
    apply List.drop_eq_nil_of_le
    rw [HL2.out]
    omega
  have i1 : ¬ (k : Int) < (len : Int) := by omega
  have r0 := HQ.out.cell 3 (.int .i64 r.k) rfl
  have r1 := HQ.out.cell 4 (.int .u64 (r.l : Int)) rfl
  have r2 := HQ.out.cell 5 (.int .i64 r.t) rfl
  have r3 := HQ.out.cell 6 (.int .u64 (r.p : Int)) rfl
  have r4 := HQ.out.cell 7 (.int .i64 r.c.k) rfl
  have r5 := HQ.out.cell 8 (.int .i64 r.c.pg) rfl
  have r6 := HQ.out.cell 9 (.int .i64 r.c.sl) rfl
  have r7 := HQ.out.cell 10 (.string r.c.o) rfl
  have r8 := HQ.out.cell 11 (.string r.c.n) rfl
  have r9 := HQ.out.cell 12 (.int .u64 (r.n : Int)) rfl
  have r10 := HQ.out.cell 13 (.int .i64 r.s) rfl
  have r11 := HQ.out.cell 14 (.int .u64 (r.b : Int)) rfl
  have r12 := HQ.out.cell 15 (.slice av r.ts.length cv) rfl
  have r13 := HQ.out.cell 16 (.slice au r.ds.length cu) rfl
  by_cases hr : r.right
  case neg =>
    have hdr : decR bs = (Rec.zero, 2) := by rw [HDR.out, if_neg (fun h => h he), if_pos (.inr (rightB_no hr))]
    have HDD := hide hdr
    have HR := hide (right_at r (.slice av r.ts.length cv) (.slice au r.ds.length cu) x1 false (hide ⟨fun h => (nomatch h), fun h => absurd h hr⟩) HFI.out HGOT.out.rc)
    clear hdr HDR he HREQ HQ HKL HDL HFI HL0 hr hln hk
    go_wp2_with fail
    refine HR.out.mono ?_
    rintro e x2 ⟨rfl, hb2⟩
    have HD2 : Hid (RowAt x2 w.heap.size 28 #[.int .i64 0, .int .u64 0, .int .i64 0, .int .u64 0, .int .i64 0, .int .i64 0, .int .i64 0, .string ⟨#[]⟩, .string ⟨#[]⟩, .int .u64 0, .int .i64 0, .int .u64 0, .slice none 0 0, .slice none 0 0] ∧ Below w.heap.size w x2) := ⟨HD.out.1.later hb2, HD.out.2.trans (hb2.mono HD.out.2.size)⟩
    clear hb2 HD HR c1 c2 r0 r1 r2 r3 r4 r5 r6 r7 r8 r9 r10 r11 r12 r13
    go_wp2_with (refine wpList_store_at rfl 28 (.tmp 2) (.tmp 25) rfl w.heap.size #[.int .i64 0, .int .u64 0, .int .i64 0, .int .u64 0, .int .i64 0, .int .i64 0, .int .i64 0, .string ⟨#[]⟩, .string ⟨#[]⟩, .int .u64 0, .int .i64 0, .int .u64 0, .slice none 0 0, .slice none 0 0] #[.int .i64 0, .int .u64 0, .int .i64 0, .int .u64 0, .int .i64 0, .int .i64 0, .int .i64 0, .string ⟨#[]⟩, .string ⟨#[]⟩, .int .u64 0, .int .i64 0, .int .u64 0, .slice none 0 0, .slice none 0 0] rfl rfl HD2.out.1 infoRc rfl (by simp [Value.oneCell']) ?_)
    intro w9 hr9 hk9 _
    have HROW := hide hr9
    have HBL := hide (hk9 _ _ HD2.out.2 (Nat.le_refl _))
    clear hr9 hk9 HD2
    go_wp2
    (try simp only [Exit.inBlock, Exit.then])
    refine bodyPost_ret (res_at rfl _ _ w.heap.size #[.int .i64 0, .int .u64 0, .int .i64 0, .int .u64 0, .int .i64 0, .int .i64 0, .int .i64 0, .string ⟨#[]⟩, .string ⟨#[]⟩, .int .u64 0, .int .i64 0, .int .u64 0, .slice none 0 0, .slice none 0 0] _ rfl HROW.out Try.underlying28 rfl infoRc) rfl ?_
    rw [HDD.out]
    exact ⟨⟨_, _, rfl, World.ownsRow_nil _ _ _ _, World.ownsRow_nil _ _ _ _⟩, HBL.out⟩
  have hdr : decR bs = (r, 0) := by rw [HDR.out, if_neg (fun h => h he), if_neg (fun h => h.elim (fun h => h hln) (fun h => by rw [rightB_yes hr] at h; cases h))]
  have HDD := hide hdr
  have HR := hide (right_at r (.slice av r.ts.length cv) (.slice au r.ds.length cu) x1 true (hide ⟨fun _ => hr, fun _ => rfl⟩) HFI.out HGOT.out.rc)
  clear hdr HDR he HREQ HKL HDL HFI HL0 hr hln hk
  go_wp2_with fail
  refine HR.out.mono ?_
  rintro e x2 ⟨rfl, hb2⟩
  have HD2 : Hid (RowAt x2 w.heap.size 28 #[.int .i64 0, .int .u64 0, .int .i64 0, .int .u64 0, .int .i64 0, .int .i64 0, .int .i64 0, .string ⟨#[]⟩, .string ⟨#[]⟩, .int .u64 0, .int .i64 0, .int .u64 0, .slice none 0 0, .slice none 0 0] ∧ Below w.heap.size w x2) := ⟨HD.out.1.later hb2, HD.out.2.trans (hb2.mono HD.out.2.size)⟩
  have HGOT2 := hide (HGOT.out.below hb2)
  have HRG : Hid (x2.rangeAt g 3 (rcA r (.slice av r.ts.length cv) (.slice au r.ds.length cu)).toList) := rd_range (HQ.out.later hb2)
  clear hb2 HD HR HQ HGOT c1 c2 r0 r1 r2 r3 r4 r5 r6 r7 r8 r9 r10 r11 r12 r13
  go_wp2_with (first | (refine wpList_load_mid rfl 28 (.tmp 26) rfl g 3 (rcA r (.slice av r.ts.length cv) (.slice au r.ds.length cu)) rfl HRG.out _ Try.underlying28 rfl infoRc ?_) | (refine wpList_store_at rfl 28 (.tmp 2) (.tmp 27) rfl w.heap.size #[.int .i64 0, .int .u64 0, .int .i64 0, .int .u64 0, .int .i64 0, .int .i64 0, .int .i64 0, .string ⟨#[]⟩, .string ⟨#[]⟩, .int .u64 0, .int .i64 0, .int .u64 0, .slice none 0 0, .slice none 0 0] (rcA r (.slice av r.ts.length cv) (.slice au r.ds.length cu)) rfl rfl HD2.out.1 infoRc rfl (by simp [rcA, Value.oneCell']) ?_))
  intro w9 hr9 hk9 ho9
  have HROW := hide hr9
  have HBL := hide (hk9 _ _ HD2.out.2 (Nat.le_refl _))
  have HG9 : Hid (GotIn w.heap.size w9 r (.slice av r.ts.length cv) (.slice au r.ds.length cu)) := ⟨own_put HGOT2.out.1 HD2.out.1 (by decide) ho9, own_put HGOT2.out.2 HD2.out.1 (by decide) ho9⟩
  clear hr9 hk9 HD2 HGOT2 HRG ho9
  go_wp2
  (try simp only [Exit.inBlock, Exit.then])
  refine bodyPost_ret (res_at rfl _ _ w.heap.size (rcA r (.slice av r.ts.length cv) (.slice au r.ds.length cu)) _ rfl HROW.out Try.underlying28 rfl infoRc) rfl ?_
  rw [HDD.out]
  exact ⟨⟨_, _, rfl, HG9.out⟩, HBL.out⟩
end Go.Proofs.Ytgobegpmojkhaaa

/-
  The contracts of frame.border and frame.Take.
-/
namespace Go.Proofs.Ytgobegpmojkhaaa
open Go.RowKit
set_option linter.unusedVariables false

section
variable {P : Program}
theorem results_ctt {fn : Func} {p u v : Tmp} {t : TypeId} (h : fn.results = #[.cell p t, .tmp u, .tmp v]) (tmps : Array Value) (P : Program) (w : World) :
    (results fn tmps).run P w = ((asAddr (tmps.getD p undef)).run P w).andThen fun a w₁ => ((loadVar t a).run P w₁).andThen fun x w₂ => .ok (.tuple #[x, tmps.getD u undef, tmps.getD v undef]) w₂ := by
  simp only [results, h]
  simp [Sem.run_bind, Result.andThen]
/-- A struct and two numbers as a call's results. -/
theorem res_at3 {fn : Func} {p u v : Tmp} {t : TypeId} (h : fn.results = #[.cell p t, .tmp u, .tmp v]) (tmps : Array Value) (w : World) (g : Nat) (cs : Array Value) (d : TypeDesc) (hp : tmps.getD p undef = .pointer (some ⟨g, 0, none⟩)) (hg : RowAt w g t cs)
    (hu : P.underlying t = some d) (hd : (match d with | .struct _ | .array _ _ => true | _ => false) = true) (hi : (P.info? t).map (·.size) = some cs.size) :
    (results fn tmps).run P w = .ok (.tuple #[.agg cs, tmps.getD u undef, tmps.getD v undef]) w := by
  have h1 := run_loadVar_row (P := P) w g t t cs (0, 0) d hg hu hd hi
  rw [results_ctt h, hp]
  simp only [asAddr, Sem.run_pure, Result.andThen_ok, h1]
end

theorem two_lt {l : List UInt8} {n : Nat} (hn : be (l.take 2) = n) : n < 65536 := by
  rw [← hn]
  have h3 := be_lt (l.take 2)
  have h4 : (l.take 2).length ≤ 2 := by rw [List.length_take]; omega
  have h5 : 256 ^ (l.take 2).length ≤ 256 ^ 2 := Nat.pow_le_pow_right (by omega) h4
  omega

set_option maxRecDepth 4000 in
set_option maxHeartbeats 400000 in
theorem border_arg (a : Option Addr) (len cap : Nat) (p : Int) (w : World) (h : p < 0 ∨ (len : Int) < p) :
    Calls Try.prog 28 #[.slice a len cap, .int .i64 p] w fun e w' => e = .returned (.tuple #[.int .i64 0, .int .i64 1]) ∧ w = w' := by
  by_cases h1 : p < 0
  · clear h
    go_enter Try.func28, Try.ntmps28
    go_wp2
    go_ret2
    exact ⟨rfl, rfl⟩
  · have h2 : (len : Int) < p := by omega
    clear h
    go_enter Try.func28, Try.ntmps28
    go_wp2
    go_ret2
    exact ⟨rfl, rfl⟩

set_option maxRecDepth 4000 in
set_option maxHeartbeats 400000 in
theorem border_few (a : Option Addr) (len cap p : Nat) (bs : List UInt8) (w : World) (hB : IsB w a len bs) (hl : len ≤ 140737488355328) (hp : p ≤ len) (h : len - p < 2) :
    Calls Try.prog 28 #[.slice a len cap, .int .i64 (p : Int)] w fun e w' => e = .returned (.tuple #[.int .i64 0, .int .i64 4]) ∧ w = w' := by
  have HT := hide (take_any a len cap bs (p : Int) 2 w hB (by omega) (by omega))
  rw [takeS_short bs (p : Int) 2 (by omega) (by rw [hB.1]; omega)] at HT
  have h1 : ¬ (p : Int) < 0 := by omega
  have h2 : ¬ (len : Int) < (p : Int) := by omega
  clear h hB
  go_enter Try.func28, Try.ntmps28
  go_wp2_with fail
  refine HT.out.mono ?_
  rintro e w1 ⟨rfl, rfl⟩
  go_wp2
  go_ret2
  exact ⟨rfl, rfl⟩

set_option maxRecDepth 4000 in
set_option maxHeartbeats 400000 in
theorem border_two (a : Option Addr) (len cap p n : Nat) (bs : List UInt8) (w : World) (hB : IsB w a len bs) (hl : len ≤ 140737488355328) (hp : p ≤ len) (h : ¬ len - p < 2) (hn : be ((bs.drop p).take 2) = n) :
    (len < p + n + 6 → Calls Try.prog 28 #[.slice a len cap, .int .i64 (p : Int)] w fun e w' => e = .returned (.tuple #[.int .i64 0, .int .i64 4]) ∧ w = w') ∧
    (p + n + 6 ≤ len → Calls Try.prog 28 #[.slice a len cap, .int .i64 (p : Int)] w fun e w' => e = .returned (.tuple #[.int .i64 ((p + n + 6 : Nat) : Int), .int .i64 0]) ∧ w = w') := by
  have HT := hide (take_any a len cap bs (p : Int) 2 w hB (by omega) (by omega))
  have e1 : beAt bs (p : Int).toNat (2 : Int).toNat = n := by
    rw [← hn]
    rfl
  rw [takeS_ok bs (p : Int) 2 (by omega) (by rw [hB.1]; omega), e1] at HT
  have hn2 : n < 65536 := two_lt hn
  have h1 : ¬ (p : Int) < 0 := by omega
  have h2 : ¬ (len : Int) < (p : Int) := by omega
  clear h hB hn e1
  constructor
  · intro h3
    go_enter Try.func28, Try.ntmps28
    go_wp2_with fail
    refine HT.out.mono ?_
    rintro e w1 ⟨rfl, rfl⟩
    clear HT
    have h6 : (len : Int) - (p : Int) < (n : Int) + 6 := by omega
    go_wp2
    go_ret2
    exact ⟨rfl, rfl⟩
  · intro h3
    go_enter Try.func28, Try.ntmps28
    go_wp2_with fail
    refine HT.out.mono ?_
    rintro e w1 ⟨rfl, rfl⟩
    clear HT
    have h6 : ¬ (len : Int) - (p : Int) < (n : Int) + 6 := by omega
    go_wp2
    go_ret2
    exact ⟨rfl, rfl⟩

/-- What Take answers. -/
noncomputable def takF (bs : List UInt8) (p : Int) : Rec × Int × Int :=
  if p < 0 ∨ (bs.length : Int) < p then (Rec.zero, 0, 1)
  else ((headF (bs.drop p.toNat)).1, if (headF (bs.drop p.toNat)).2.2 = 0 then p + ((headF (bs.drop p.toNat)).2.1 : Int) else 0, (headF (bs.drop p.toNat)).2.2)
def TakAns (w : World) (t : Rec × Int × Int) (e : Ending) (w' : World) : Prop := (∃ va vb, e = .returned (.tuple #[.agg (rcA t.1 va vb), .int .i64 t.2.1, .int .i64 t.2.2]) ∧ GotIn w.heap.size w' t.1 va vb) ∧ Below w.heap.size w w'
def zeroA : Array Value := #[.int .i64 0, .int .u64 0, .int .i64 0, .int .u64 0, .int .i64 0, .int .i64 0, .int .i64 0, .string ⟨#[]⟩, .string ⟨#[]⟩, .int .u64 0, .int .i64 0, .int .u64 0, .slice none 0 0, .slice none 0 0]
theorem zeroA_rc : rcA Rec.zero (.slice none 0 0) (.slice none 0 0) = zeroA := rfl
theorem zero_got (base : Nat) (w : World) : GotIn base w Rec.zero (.slice none 0 0) (.slice none 0 0) := ⟨World.ownsRow_nil _ _ _ _, World.ownsRow_nil _ _ _ _⟩

set_option maxRecDepth 4000 in
set_option maxHeartbeats 1600000 in
theorem take_bad (v : Value) (p er : Int) (w : World) (hv : ∃ a len cap, v = .slice a len cap) (h0 : er ≠ 0) (HBR : ∀ w', Below w.heap.size w w' → Calls Try.prog 28 #[v, .int .i64 p] w' fun e w2 => e = .returned (.tuple #[.int .i64 0, .int .i64 er]) ∧ w' = w2) :
    Calls Try.prog 13 #[v, .int .i64 p] w (TakAns w (Rec.zero, 0, er)) := by
  obtain ⟨a, len, cap, rfl⟩ := hv
  have HB := hide HBR
  have k0 : (er == 0) = false := by rw [beq_eq_false_iff_ne]; exact h0
  have k1 : (er != 0) = true := by rw [bne, k0]; rfl
  have HK0 := hide (Keeps.one w 28 zeroA)
  clear HBR h0
  unfold TakAns
  go_enter Try.func13, Try.ntmps13
  go_wp2_with fail
  refine (HB.out _ HK0.out.2).mono ?_
  rintro e w1 ⟨rfl, rfl⟩
  unfold zeroA at HK0
  go_wp2_with (refine wpList_store_at rfl 28 (.tmp 4) (.tmp 19) rfl w.heap.size zeroA zeroA rfl rfl HK0.out.1.1 infoRc rfl (by simp [zeroA, Value.oneCell']) ?_)
  intro w2 hr2 hk2 _
  have HR2 := hide hr2
  have HD2 := hide (hk2 _ _ HK0.out.2 (Nat.le_refl _))
  clear hr2 hk2 HK0 HB
  go_wp2
  (try simp only [Exit.inBlock, Exit.then])
  refine bodyPost_ret (res_at3 rfl _ _ w.heap.size zeroA _ rfl HR2.out Try.underlying28 rfl infoRc) rfl ?_
  exact ⟨⟨_, _, rfl, zero_got _ _⟩, HD2.out⟩

set_option maxRecDepth 4000 in
set_option maxHeartbeats 1600000 in
theorem take_sum (b off len cap p n : Nat) (bs : List UInt8) (w : World) (hB : IsB w (some ⟨b, off, none⟩) len bs) (hl : len ≤ 140737488355328) (hcap : len ≤ cap) (hp : p + n + 6 ≤ len) (hn : be ((bs.drop p).take 2) = n) (hne : (openS ((bs.drop p).take (n + 6))).2 ≠ 0) (h3 : (openS ((bs.drop p).take (n + 6))).1 = []) :
    Calls Try.prog 13 #[.slice (some ⟨b, off, none⟩) len cap, .int .i64 (p : Int)] w (TakAns w (Rec.zero, 0, 3)) := by
  have HB := hide hB
  have HBR := hide (fun w' (h : IsB w' (some ⟨b, off, none⟩) len bs) => (border_two (some ⟨b, off, none⟩) len cap p n bs w' h hl (by omega) (by omega) hn).2 (by omega))
  have HOP := hide (fun w' (h : IsB w' (some ⟨b, off + p, none⟩) (n + 6) ((bs.drop p).take (n + 6))) => open_any (some ⟨b, off + p, none⟩) (n + 6) (cap - p) ((bs.drop p).take (n + 6)) w' h (by omega) (by omega))
  rw [h3] at HOP
  generalize (openS ((bs.drop p).take (n + 6))).2 = eo at *
  have k0 : (eo == 0) = false := by rw [beq_eq_false_iff_ne]; exact hne
  have k1 : (eo != 0) = true := by rw [bne, k0]; rfl
  have HK0 := hide (Keeps.one w 28 zeroA)
  have hcp : ¬ cap = p := by omega
  have i1 : (0 : Int) ≤ (p : Int) := by omega
  have i2 : (p : Int) ≤ ((p + n + 6 : Nat) : Int) := by omega
  have i3 : ((p + n + 6 : Nat) : Int) ≤ (cap : Int) := by omega
  have HCU : Hid (∀ w', IsB w' (some ⟨b, off, none⟩) len bs → IsB w' (some ⟨b, off + p, none⟩) (n + 6) ((bs.drop p).take (n + 6))) := fun w' h => by
    obtain ⟨b', off', hb', hlt, hc⟩ := h.2 (by omega)
    cases hb'
    exact IsB.cut h.1 hlt hc p (n + 6) (by omega)
  have es : p + n + 6 - p = n + 6 := by omega
  have hpn : (p + n + 6 : Nat) ≤ 140737488355328 := by omega
  clear hB hn hne h3
  obtain ⟨q, hq⟩ : ∃ q, q = p + n + 6 := ⟨_, rfl⟩
  rw [← hq] at HBR i2 i3 es hpn
  clear hq hp
  unfold TakAns
  go_enter Try.func13, Try.ntmps13
  go_wp2_with fail
  refine (HBR.out _ (HB.out.below HK0.out.2)).mono ?_
  rintro e w1 ⟨rfl, rfl⟩
  have hlt : (p : Int) ≤ (q : Int) := i2
  go_wp2_with fail
  refine gen_calls (fun x => Hid (Keeps w x [(w.heap.size, 28, zeroA)])) HK0 ?_
  clear HK0
  intro x0 HK0
  refine (HOP.out _ (HCU.out _ (HB.out.below HK0.out.2))).mono ?_
  rintro e w2 ⟨v2, rfl, hown2, hb2⟩
  obtain ⟨a2, c2, rfl⟩ := own_shape5 hown2
  have HK2 := hide (HK0.out.later hb2)
  clear HK0 HOP hown2 hb2 HBR
  go_wp2_with (refine wpList_store_at rfl 28 (.tmp 4) (.tmp 31) rfl w.heap.size zeroA zeroA rfl rfl HK2.out.1.1 infoRc rfl (by simp [zeroA, Value.oneCell']) ?_)
  intro w3 hr3 hk3 _
  have HR3 := hide hr3
  have HD3 := hide (hk3 _ _ HK2.out.2 (Nat.le_refl _))
  clear hr3 hk3 HK2
  go_wp2
  (try simp only [Exit.inBlock, Exit.then])
  refine bodyPost_ret (res_at3 rfl _ _ w.heap.size zeroA _ rfl HR3.out Try.underlying28 rfl infoRc) rfl ?_
  exact ⟨⟨_, _, rfl, zero_got _ _⟩, HD3.out⟩

/-- Behind the two bytes. -/
theorem isB_two {w : World} {base n cap : Nat} {a : Option Addr} {q : List UInt8} (h : w.ownsRow base 5 1 (.slice a (n + 2) cap) (n + 2) (toV q)) (hq : q.length = n + 2) : ∃ g, a = some ⟨g, 0, none⟩ ∧ IsB w (some ⟨g, 2, none⟩) n (q.drop 2) ∧ n + 2 ≤ cap := by
  obtain ⟨g, c, h1, _⟩ := own_slice h (by omega)
  injection h1 with h2 h3 h4
  subst h2 h4
  refine ⟨g, rfl, ?_, own_cap h⟩
  have hB := h.isB hq
  obtain ⟨b, off, hb, hlt, hc⟩ := hB.2 (by omega)
  cases hb
  have h5 := IsB.cut hq hlt hc 2 n (by omega)
  rwa [List.take_of_length_le (by rw [List.length_drop]; omega)] at h5

set_option maxRecDepth 4000 in
set_option maxHeartbeats 3200000 in
theorem take_dec (b off len cap p n : Nat) (bs q : List UInt8) (r : Rec) (er : Int) (w : World) (hB : IsB w (some ⟨b, off, none⟩) len bs) (hl : len ≤ 140737488355328) (hcap : len ≤ cap) (hp : p + n + 6 ≤ len) (hn : be ((bs.drop p).take 2) = n) (ho : openS ((bs.drop p).take (n + 6)) = (q, 0)) (hq : q.length = n + 2) (hd : decR (q.drop 2) = (r, er)) (ans : Rec × Int × Int) (ha1 : er = 0 → ans = (r, ((p + n + 6 : Nat) : Int), 0)) (ha2 : er ≠ 0 → ans = (Rec.zero, 0, 2)) :
    Calls Try.prog 13 #[.slice (some ⟨b, off, none⟩) len cap, .int .i64 (p : Int)] w (TakAns w ans) := by
  have HB := hide hB
  have HBR := hide (fun w' (h : IsB w' (some ⟨b, off, none⟩) len bs) => (border_two (some ⟨b, off, none⟩) len cap p n bs w' h hl (by omega) (by omega) hn).2 (by omega))
  have HOP := hide (fun w' (h : IsB w' (some ⟨b, off + p, none⟩) (n + 6) ((bs.drop p).take (n + 6))) => open_any (some ⟨b, off + p, none⟩) (n + 6) (cap - p) ((bs.drop p).take (n + 6)) w' h (by omega) (by omega))
  rw [ho, hq] at HOP
  have HDE := hide (fun w' (a : Option Addr) c (h : IsB w' a n (q.drop 2)) (hc : n ≤ c) => dec_any a n c (q.drop 2) w' h (by omega) hc)
  rw [hd] at HDE
  have HK0 := hide (Keeps.one w 28 zeroA)
  have hcp : ¬ cap = p := by omega
  have i1 : (0 : Int) ≤ (p : Int) := by omega
  have i2 : (p : Int) ≤ ((p + n + 6 : Nat) : Int) := by omega
  have i3 : ((p + n + 6 : Nat) : Int) ≤ (cap : Int) := by omega
  have HCU : Hid (∀ w', IsB w' (some ⟨b, off, none⟩) len bs → IsB w' (some ⟨b, off + p, none⟩) (n + 6) ((bs.drop p).take (n + 6))) := fun w' h => by
    obtain ⟨b', off', hb', hlt, hc⟩ := h.2 (by omega)
    cases hb'
    exact IsB.cut h.1 hlt hc p (n + 6) (by omega)
  have es : p + n + 6 - p = n + 6 := by omega
  have hpn : (p + n + 6 : Nat) ≤ 140737488355328 := by omega
  have HQ := hide hq
  have HA1 := hide ha1
  have HA2 := hide ha2
  clear hB hn ho hq hd ha1 ha2
  obtain ⟨e9, he9⟩ : ∃ e9, e9 = p + n + 6 := ⟨_, rfl⟩
  rw [← he9] at HBR i2 i3 es hpn HA1
  clear he9 hp
  unfold TakAns
  go_enter Try.func13, Try.ntmps13
  go_wp2_with fail
  refine (HBR.out _ (HB.out.below HK0.out.2)).mono ?_
  rintro e w1 ⟨rfl, rfl⟩
  go_wp2_with fail
  refine gen_calls (fun x => Hid (Keeps w x [(w.heap.size, 28, zeroA)])) HK0 ?_
  clear HK0
  intro x0 HK0
  refine (HOP.out _ (HCU.out _ (HB.out.below HK0.out.2))).mono ?_
  rintro e w2 ⟨v2, rfl, hown2, hb2⟩
  obtain ⟨a2, c2, rfl⟩ := own_shape5 hown2
  obtain ⟨g2, rfl, hB2, hc2⟩ := isB_two hown2 HQ.out
  have HB2 := hide hB2
  have HK2 := hide (HK0.out.later hb2)
  clear HK0 HOP hown2 hb2 HBR hB2 i1 i2 i3 hcp es HCU
  have i4 : (2 : Int) ≤ (n : Int) + 2 := by omega
  have hlast : ∀ a c, IsB w2 a n (q.drop 2) → n ≤ c → Calls Try.prog 30 #[.slice a n c] w2 fun e w' => (∃ va vb, e = .returned (.tuple #[.agg (rcA r va vb), .int .i64 er]) ∧ GotIn w2.heap.size w' r va vb) ∧ Below w2.heap.size w2 w' := fun a c h hc => HDE.out w2 a c h hc
  have HLA := hide hlast
  clear hlast HDE
  by_cases hcc : c2 = 2
  · obtain rfl : n = 0 := by omega
    subst hcc
    go_wp2_with fail
    refine (HLA.out _ _ ⟨HB2.out.1, fun h => absurd h (by omega)⟩ (by omega)).mono ?_
    rintro e w3 ⟨⟨va, vb, rfl, hgot⟩, hb3⟩
    obtain ⟨av, cv, rfl⟩ := own_shape5 hgot.1
    obtain ⟨au, cu, rfl⟩ := own_shape5 hgot.2
    have HG3 : Hid (GotIn w.heap.size w3 r (.slice av r.ts.length cv) (.slice au r.ds.length cu)) := ⟨own_mono hgot.1 HK2.out.2.size, own_mono hgot.2 HK2.out.2.size⟩
    have HK3 := hide (HK2.out.later hb3)
    clear hgot hb3 HK2 HLA HB2
    go_wp2_with (refine wpList_store_at rfl 28 (.tmp 10) (.tmp 36) rfl w3.heap.size zeroA (rcA r (.slice av r.ts.length cv) (.slice au r.ds.length cu)) rfl rfl (RowAt.new w3 28 zeroA) infoRc rfl (by simp [rcA, Value.oneCell']) ?_)
    intro w4 hr4 hk4 _
    have hb4 := hk4 _ _ ((Below.refl w3.heap.size w3).alloc (Nat.le_refl _) _) (Nat.le_refl _)
    have HG4 := hide (HG3.out.below hb4)
    have HK4 : Hid (Keeps w w4 [(w3.heap.size, 28, (rcA r (.slice av r.ts.length cv) (.slice au r.ds.length cu))), (w.heap.size, 28, zeroA)]) := HK3.out.laid hr4 hk4
    have HNE : Hid (w.heap.size ≠ w3.heap.size) := fun e => by
      have := HK3.out.1.1.lt
      omega
    clear hr4 hk4 hb4 HG3 HK3
    generalize w3.heap.size = g3 at *
    by_cases he : er = 0
    · subst he
      go_wp2_with (first | (refine wpList_load_at rfl 28 (.tmp 10) rfl g3 rfl (rcA r (.slice av r.ts.length cv) (.slice au r.ds.length cu)) HK4.out.1.1 _ Try.underlying28 rfl infoRc ?_) | (refine wpList_store_at rfl 28 (.tmp 4) (.tmp 41) rfl w.heap.size zeroA (rcA r (.slice av r.ts.length cv) (.slice au r.ds.length cu)) rfl rfl HK4.out.1.2.1 infoRc rfl (by simp [rcA, Value.oneCell']) ?_))
      intro w5 hr5 hk5 ho5
      have HR5 := hide hr5
      have HD5 := hide (hk5 _ _ HK4.out.2 (Nat.le_refl _))
      have HG5 : Hid (GotIn w.heap.size w5 r (.slice av r.ts.length cv) (.slice au r.ds.length cu)) := ⟨own_put HG4.out.1 HK4.out.1.2.1 (show (28 : TypeId) ≠ 70 by decide) ho5, own_put HG4.out.2 HK4.out.1.2.1 (show (28 : TypeId) ≠ 72 by decide) ho5⟩
      clear hr5 hk5 ho5 HK4 HG4
      go_wp2
      (try simp only [Exit.inBlock, Exit.then])
      refine bodyPost_ret (res_at3 rfl _ _ w.heap.size (rcA r (.slice av r.ts.length cv) (.slice au r.ds.length cu)) _ rfl HR5.out Try.underlying28 rfl infoRc) rfl ?_
      rw [HA1.out trivial]
      exact ⟨⟨_, _, rfl, HG5.out⟩, HD5.out⟩
    · have k0 : (er == 0) = false := by rw [beq_eq_false_iff_ne]; exact he
      have k1 : (er != 0) = true := by rw [bne, k0]; rfl
      have HE := hide he
      clear he
      go_wp2_with (refine wpList_store_at rfl 28 (.tmp 4) (.tmp 40) rfl w.heap.size zeroA zeroA rfl rfl HK4.out.1.2.1 infoRc rfl (by simp [zeroA, Value.oneCell']) ?_)
      intro w5 hr5 hk5 _
      have HR5 := hide hr5
      have HD5 := hide (hk5 _ _ HK4.out.2 (Nat.le_refl _))
      clear hr5 hk5 HK4 HG4
      go_wp2
      (try simp only [Exit.inBlock, Exit.then])
      refine bodyPost_ret (res_at3 rfl _ _ w.heap.size zeroA _ rfl HR5.out Try.underlying28 rfl infoRc) rfl ?_
      rw [HA2.out HE.out]
      exact ⟨⟨_, _, rfl, zero_got _ _⟩, HD5.out⟩
  · go_wp2_with fail
    refine (HLA.out _ _ HB2.out (by omega)).mono ?_
    rintro e w3 ⟨⟨va, vb, rfl, hgot⟩, hb3⟩
    obtain ⟨av, cv, rfl⟩ := own_shape5 hgot.1
    obtain ⟨au, cu, rfl⟩ := own_shape5 hgot.2
    have HG3 : Hid (GotIn w.heap.size w3 r (.slice av r.ts.length cv) (.slice au r.ds.length cu)) := ⟨own_mono hgot.1 HK2.out.2.size, own_mono hgot.2 HK2.out.2.size⟩
    have HK3 := hide (HK2.out.later hb3)
    clear hgot hb3 HK2 HLA HB2
    go_wp2_with (refine wpList_store_at rfl 28 (.tmp 10) (.tmp 36) rfl w3.heap.size zeroA (rcA r (.slice av r.ts.length cv) (.slice au r.ds.length cu)) rfl rfl (RowAt.new w3 28 zeroA) infoRc rfl (by simp [rcA, Value.oneCell']) ?_)
    intro w4 hr4 hk4 _
    have hb4 := hk4 _ _ ((Below.refl w3.heap.size w3).alloc (Nat.le_refl _) _) (Nat.le_refl _)
    have HG4 := hide (HG3.out.below hb4)
    have HK4 : Hid (Keeps w w4 [(w3.heap.size, 28, (rcA r (.slice av r.ts.length cv) (.slice au r.ds.length cu))), (w.heap.size, 28, zeroA)]) := HK3.out.laid hr4 hk4
    have HNE : Hid (w.heap.size ≠ w3.heap.size) := fun e => by
      have := HK3.out.1.1.lt
      omega
    clear hr4 hk4 hb4 HG3 HK3
    generalize w3.heap.size = g3 at *
    by_cases he : er = 0
    · subst he
      go_wp2_with (first | (refine wpList_load_at rfl 28 (.tmp 10) rfl g3 rfl (rcA r (.slice av r.ts.length cv) (.slice au r.ds.length cu)) HK4.out.1.1 _ Try.underlying28 rfl infoRc ?_) | (refine wpList_store_at rfl 28 (.tmp 4) (.tmp 41) rfl w.heap.size zeroA (rcA r (.slice av r.ts.length cv) (.slice au r.ds.length cu)) rfl rfl HK4.out.1.2.1 infoRc rfl (by simp [rcA, Value.oneCell']) ?_))
      intro w5 hr5 hk5 ho5
      have HR5 := hide hr5
      have HD5 := hide (hk5 _ _ HK4.out.2 (Nat.le_refl _))
      have HG5 : Hid (GotIn w.heap.size w5 r (.slice av r.ts.length cv) (.slice au r.ds.length cu)) := ⟨own_put HG4.out.1 HK4.out.1.2.1 (show (28 : TypeId) ≠ 70 by decide) ho5, own_put HG4.out.2 HK4.out.1.2.1 (show (28 : TypeId) ≠ 72 by decide) ho5⟩
      clear hr5 hk5 ho5 HK4 HG4
      go_wp2
      (try simp only [Exit.inBlock, Exit.then])
      refine bodyPost_ret (res_at3 rfl _ _ w.heap.size (rcA r (.slice av r.ts.length cv) (.slice au r.ds.length cu)) _ rfl HR5.out Try.underlying28 rfl infoRc) rfl ?_
      rw [HA1.out trivial]
      exact ⟨⟨_, _, rfl, HG5.out⟩, HD5.out⟩
    · have k0 : (er == 0) = false := by rw [beq_eq_false_iff_ne]; exact he
      have k1 : (er != 0) = true := by rw [bne, k0]; rfl
      have HE := hide he
      clear he
      go_wp2_with (refine wpList_store_at rfl 28 (.tmp 4) (.tmp 40) rfl w.heap.size zeroA zeroA rfl rfl HK4.out.1.2.1 infoRc rfl (by simp [zeroA, Value.oneCell']) ?_)
      intro w5 hr5 hk5 _
      have HR5 := hide hr5
      have HD5 := hide (hk5 _ _ HK4.out.2 (Nat.le_refl _))
      clear hr5 hk5 HK4 HG4
      go_wp2
      (try simp only [Exit.inBlock, Exit.then])
      refine bodyPost_ret (res_at3 rfl _ _ w.heap.size zeroA _ rfl HR5.out Try.underlying28 rfl infoRc) rfl ?_
      rw [HA2.out HE.out]
      exact ⟨⟨_, _, rfl, zero_got _ _⟩, HD5.out⟩

/-- THE CONTRACT. -/
theorem ftake_any (a : Option Addr) (len cap : Nat) (bs : List UInt8) (p : Int) (w : World) (hB : IsB w a len bs) (hl : len ≤ 140737488355328) (hcap : len ≤ cap) :
    Calls Try.prog 13 #[.slice a len cap, .int .i64 p] w (TakAns w (takF bs p)) := by
  have hbl := hB.1
  by_cases h1 : p < 0 ∨ (bs.length : Int) < p
  · have e1 : takF bs p = (Rec.zero, 0, 1) := by unfold takF; rw [if_pos h1]
    rw [e1]
    exact take_bad _ p 1 w ⟨a, len, cap, rfl⟩ (by decide) (fun w' hw => border_arg a len cap p w' (by omega))
  obtain ⟨k, rfl⟩ := Int.eq_ofNat_of_zero_le (show 0 ≤ p by omega)
  have hk : k ≤ len := by omega
  have e1 : takF bs (k : Int) = ((headF (bs.drop k)).1, if (headF (bs.drop k)).2.2 = 0 then (k : Int) + ((headF (bs.drop k)).2.1 : Int) else 0, (headF (bs.drop k)).2.2) := by
    unfold takF
    rw [if_neg h1]
    rfl
  have hdl : (bs.drop k).length = len - k := by rw [List.length_drop, hbl]
  by_cases h2 : (bs.drop k).length < 2 ∨ (bs.drop k).length < be ((bs.drop k).take 2) + 6
  · have e2 : headF (bs.drop k) = (Rec.zero, 0, 4) := by unfold headF; rw [if_pos h2]
    rw [e1, e2]
    refine take_bad _ (k : Int) 4 w ⟨a, len, cap, rfl⟩ (by decide) (fun w' hw => ?_)
    have hB' := hB.below hw
    by_cases h3 : len - k < 2
    · exact border_few a len cap k bs w' hB' hl hk h3
    · exact (border_two a len cap k _ bs w' hB' hl hk h3 rfl).1 (by omega)
  generalize hn : be ((bs.drop k).take 2) = n at h2
  obtain ⟨b, off, rfl, _, _⟩ := hB.2 (by omega)
  by_cases h4 : (openS ((bs.drop k).take (n + 6))).2 ≠ 0
  · have e2 : headF (bs.drop k) = (Rec.zero, 0, 3) := by unfold headF; rw [hn, if_neg h2, if_pos h4]
    rw [e1, e2]
    refine take_sum b off len cap k n bs w hB hl hcap (by omega) hn h4 ?_
    generalize (bs.drop k).take (n + 6) = f at h4
    by_cases h5 : f.length < 4
    · rw [openS_short f h5]
    · by_cases h6 : leN (f.drop (f.length - 4)) = crc (f.take (f.length - 4))
      · rw [openS_ok f h5 h6] at h4
        exact absurd rfl h4
      · rw [openS_no f h5 h6]
  have h4' : (openS ((bs.drop k).take (n + 6))).2 = 0 := by omega
  have hfl : ((bs.drop k).take (n + 6)).length = n + 6 := by rw [List.length_take]; omega
  have hql : (openS ((bs.drop k).take (n + 6))).1.length = n + 2 := by
    have h5 := congrArg List.length (seal_open _ h4')
    rw [hfl, sealB_length] at h5
    omega
  have key := take_dec b off len cap k n bs (openS ((bs.drop k).take (n + 6))).1 (decR ((openS ((bs.drop k).take (n + 6))).1.drop 2)).1 (decR ((openS ((bs.drop k).take (n + 6))).1.drop 2)).2 w hB hl hcap (by omega) hn (by rw [← h4']) hql rfl
  by_cases h6 : (decR ((openS ((bs.drop k).take (n + 6))).1.drop 2)).2 = 0
  · have e2 : headF (bs.drop k) = ((decR ((openS ((bs.drop k).take (n + 6))).1.drop 2)).1, n + 6, 0) := by
      unfold headF
      rw [hn, if_neg h2, if_neg h4, if_neg (by omega)]
    rw [e1, e2]
    have e3 : (k : Int) + ((n + 6 : Nat) : Int) = ((k + n + 6 : Nat) : Int) := by omega
    simp only [if_true]
    rw [e3]
    exact key _ (fun _ => rfl) (fun h => absurd h6 h)
  · have e2 : headF (bs.drop k) = (Rec.zero, 0, 2) := by
      unfold headF
      rw [hn, if_neg h2, if_neg h4, if_pos h6]
    rw [e1, e2]
    exact key _ (fun h => absurd h h6) (fun _ => rfl)
end Go.Proofs.Ytgobegpmojkhaaa

/-
  A range over a function whose iterator says of each thing that it hands over how it lies in memory: what the caller owes. Of no program.
-/
namespace Go.Proofs.Ytgobegpmojkhaaa
open Go.RowKit
set_option linter.unusedVariables false

/-- Whatever lies below n, and every block of cells, is as it was. -/
structure Hush (n : Nat) (A B : World) : Prop where
  os : B.os = A.os
  tape : B.tape = A.tape
  output : B.output = A.output
  size : A.heap.size ≤ B.heap.size
  low : ∀ k, k < n → B.heap[k]? = A.heap[k]?
  cells : ∀ (k : Nat) (cs : Array Value) (t : TypeId) (f : Nat × Nat), A.heap[k]? = some (Obj.cells cs t f) → B.heap[k]? = some (Obj.cells cs t f)
theorem Hush.refl (n : Nat) (A : World) : Hush n A A := ⟨rfl, rfl, rfl, Nat.le_refl _, fun _ _ => rfl, fun _ _ _ _ h => h⟩
theorem Hush.trans {n : Nat} {A B C : World} (h : Hush n A B) (k : Hush n B C) : Hush n A C :=
  ⟨k.os.trans h.os, k.tape.trans h.tape, k.output.trans h.output, Nat.le_trans h.size k.size, fun i hi => (k.low i hi).trans (h.low i hi), fun i cs t f hi => k.cells i cs t f (h.cells i cs t f hi)⟩
theorem Hush.of_below {n : Nat} {A B : World} (h : Below A.heap.size A B) (hn : n ≤ A.heap.size) : Hush n A B :=
  ⟨h.os, h.tape, h.output, h.size, fun k hk => h.block k (Nat.lt_of_lt_of_le hk hn), fun k cs t f hk => (h.block k (Array.getElem?_eq_some_iff.1 hk).1).trans hk⟩
theorem Hush.put {n l : Nat} {A : World} {o : Obj} (o' : Obj) (hl : n ≤ l) (h : A.heap[l]? = some o) (ho : o.isCells = false) : Hush n A (A.putObj l o') := by
  refine ⟨rfl, rfl, rfl, by simp, fun k hk => World.putObj_heap_other (by omega), fun k cs t f hk => ?_⟩
  have hne : k ≠ l := fun e => by
    subst e
    rw [hk] at h
    cases h
    cases ho
  exact (World.putObj_heap_other hne).trans hk

/-- How a round may be left: on, or by the loop's own break. -/
def toldPost {α : Type} (n id : Nat) (Kp : World → World → Prop) (I Ix : List α → World → Prop) (pre : List α) (x : α) (W : World) : Exit → Act → World → Prop
  | .normal, _, W' => KeepsFrom n W W' ∧ Kp W W' ∧ I (pre ++ [x]) W'
  | .exit i, _, W' => i = id ∧ KeepsFrom n W W' ∧ Ix pre W'
  | _, _, _ => False

variable {F : Fence} {n : Nat} {P : Program}

theorem wpIn_range_told {α : Type} {g : Operand} {ps : Array Tmp} {assign body : Code} {Q : Exit → Act → World → Prop} {a : Act} {w : World} (hro : F.round = none) (h1 : 1 ≤ n)
    {gf : Nat} {lb : Array Value} (hg : a.eval g = .func (.func gf) #[] lb) (hFg : F.fn gf) (eg : ∀ args w, (callFunc gf args).run P w = .ok (.enter gf args) w)
    (encs : α → Array Value) (hps : ∀ x, (encs x).size = ps.size) (id : Nat)
    (G : List α → α → World → Prop) (E : List α → World → Prop) (Kp : World → World → Prop) (I Ix : List α → World → Prop) (Ac : List α → α → Act → World → Prop)
    (kr : ∀ A B C, Kp A B → Hush w.heap.size B C → Kp A C) (kk : ∀ A B C, Kp A B → Kp B C → Kp A C)
    (ci : ∀ s A B, Hush w.heap.size A B → I s A → I s B) (cx : ∀ s A B, Hush w.heap.size A B → Ix s A → Ix s B) (ca : ∀ s x c A B, Hush w.heap.size A B → Ac s x c A → Ac s x c B)
    (hseq : ∀ (l : Nat) (J Jx : List α → World → Prop) (W : World), Below w.heap.size w W → (∀ s A B, Below A.heap.size A B → J s A → J s B) →
      (∀ pre x A, J pre A → G pre x A → YieldAt F (n - 1 - 1) P l (encs x) A fun e B => (e = .returned (.bool true) ∧ J (pre ++ [x]) B ∧ Kp A B) ∨ (e = .returned (.bool false) ∧ Jx pre B)) → J [] W →
      CallsIn F (n - 1) P gf (#[.func (.yield l) #[] #[]] ++ lb) W fun e B => (∃ v, e = .returned v) ∧ ((∃ xs, E xs B ∧ J xs B) ∨ (∃ pre, Jx pre B)))
    (h0 : I [] w)
    (ce : ∀ s A B, Hush w.heap.size A B → E s A → E s B)
    (hassign : ∀ (l : Nat) (pre : List α) (x : α) (W : World) (K : Act → World → Prop), I pre W → G pre x W → (∀ c W', KeepsFrom w.heap.size W W' → Kp W W' → Ac pre x c W' → K c W') →
      assign.wpIn (F.inRound l) (n - 1 - 1) P (Exit.then K (fun _ _ _ => False)) { tmps := (ps.zip (encs x)).foldl (fun t (p, v) => t.setIfInBounds p v) a.tmps, defers := [] } W)
    (hbody : ∀ (l : Nat) (pre : List α) (x : α) (c : Act) (W : World), Ac pre x c W → body.wpIn (F.inRound l) (n - 1 - 1) P (toldPost w.heap.size id Kp I Ix pre x W) c W)
    (hdone : ∀ (D : Nat) (xs : List α) (W : World), w.heap.size ≤ D → E xs W → I xs W → W.heap[D]? = some (.deferred (some [])) → Q .normal { a with defers := { target := .collected D, args := #[] } :: a.defers } W)
    (hstop : ∀ (D : Nat) (pre : List α) (W : World), w.heap.size ≤ D → Ix pre W → W.heap[D]? = some (.deferred (some [])) → (Code.exit id).wpIn F n P Q { a with defers := { target := .collected D, args := #[] } :: a.defers } W) :
    (Code.rangeFunc g ps assign body).wpIn F n P Q a w := by
  refine wpIn_rangeFunc fun fn hfn => ?_
  rw [hro]
  -- the loop's record, by its state; it lies in block d + 1, the deferred calls of the rounds in block d
  generalize hd : w.heap.size = d at *
  let R : LoopState → Option Code → Obj := fun s p => .loop { state := s, pending := p, fn := fn, tmps := a.tmps, params := ps, assign := assign, body := body, defers := d }
  let Z : Obj := .deferred (some [])
  have sz1 : (w.alloc Z).heap.size = d + 1 := by rw [World.size_alloc, hd]
  have bel : Below d w ((w.alloc Z).alloc (R .ready none)) := by
    have h := ((Below.refl w.heap.size w).alloc (Nat.le_refl _) Z).alloc (by rw [sz1]; omega) (R .ready none)
    rwa [hd] at h
  have atL : ((w.alloc Z).alloc (R .ready none)).heap[d + 1]? = some (R .ready none) := by
    have h := World.alloc_heap_new (w.alloc Z) (R .ready none)
    rwa [sz1] at h
  have atD : ((w.alloc Z).alloc (R .ready none)).heap[d]? = some Z := by
    have h := World.alloc_heap_new w Z
    rw [hd] at h
    exact (Below.heap_alloc _ _ _ (by rw [sz1]; omega)).trans h
  have ent : (Instr.enterLoop fn a.tmps ps assign body none).run P w = .ok (d + 1, [{ target := .collected d, args := #[] }]) ((w.alloc Z).alloc (R .ready none)) := by
    have h := run_enterLoop_outer (P := P) (w := w) fn a.tmps ps assign body
    rw [hd] at h
    exact h
  have calm : Hush d w ((w.alloc Z).alloc (R .ready none)) := Hush.of_below (by rw [hd]; exact bel) (by omega)
  refine ⟨d + 1, _, (w.alloc Z).alloc (R .ready none), { target := .fn (.func gf) lb, args := #[.func (.yield (d + 1)) #[] #[]] }, (w.alloc Z).alloc (R .ready none), gf, #[.func (.yield (d + 1)) #[] #[]] ++ lb, (w.alloc Z).alloc (R .ready none), ent, ?_, ?_, ?_, fun _ => h1, ?_⟩
  · simp only [resolve, hg]
    simp [go_sem]
  · intro f' hf'
    simp [Target.leads] at hf'
    subst hf'
    exact hFg
  · simp [invoke, go_sem, eg]
  generalize (w.alloc Z).alloc (R .ready none) = W1 at *
  -- what is kept beside the caller's own word
  refine (hseq (d + 1) (fun s A => I s A ∧ A.heap[d + 1]? = some (R .ready none) ∧ A.heap[d]? = some Z) (fun s A => Ix s A ∧ A.heap[d + 1]? = some (R .done (some (.exit id))) ∧ A.heap[d]? = some Z) W1 bel ?_ ?_ ⟨ci _ _ _ calm h0, atL, atD⟩).mono ?_
  · rintro s A B hb ⟨hi, hl, hz⟩
    have lt1 := (Array.getElem?_eq_some_iff.1 hl).1
    exact ⟨ci _ _ _ (Hush.of_below hb (by omega)) hi, (hb.block _ lt1).trans hl, (hb.block _ (by omega)).trans hz⟩
  · rintro pre x A ⟨hi, hl, hz⟩ hgx
    refine ⟨fn, _, assign, body, run_yield (P := P) (args := encs x) hl (hps x), roundIn_of_wpIn hfn (hassign _ pre x A _ hi hgx fun c A1 k1 q1 ha1 => ?_)⟩
    have hl1 := k1.same _ _ (by omega) hl rfl
    have hz1 := k1.same _ _ (Nat.le_refl _) hz rfl
    refine ⟨_, run_beginRound hl1 rfl, ?_⟩
    have c1 : Hush d A1 (A1.putObj (d + 1) (R .busy none)) := Hush.put _ (by omega) hl1 rfl
    have hl2 : (A1.putObj (d + 1) (R .busy none)).heap[d + 1]? = some (R .busy none) := World.putObj_heap_same (Array.getElem?_eq_some_iff.1 hl1).1
    have hz2 : (A1.putObj (d + 1) (R .busy none)).heap[d]? = some Z := (World.putObj_heap_other (by omega)).trans hz1
    refine wpIn_mono (hbody (d + 1) pre x c _ (ca _ _ _ _ _ c1 ha1)) ?_
    rintro e c3 A3 hp
    cases e with
    | normal =>
      obtain ⟨k3, q3, i3⟩ := hp
      have hl3 := k3.same _ _ (by omega) hl2 rfl
      have c3' : Hush d A3 (A3.putObj (d + 1) (R .ready none)) := Hush.put _ (by omega) hl3 rfl
      refine ⟨_, _, run_endRound (P := P) none hl3, .inl ⟨rfl, ⟨ci _ _ _ c3' i3, World.putObj_heap_same (Array.getElem?_eq_some_iff.1 hl3).1, (World.putObj_heap_other (by omega)).trans (k3.same _ _ (Nat.le_refl _) hz2 rfl)⟩, ?_⟩⟩
      exact kr _ _ _ (kk _ _ _ (kr _ _ _ q1 c1) q3) c3'
    | exit i =>
      obtain ⟨rfl, k3, i3⟩ := hp
      have hl3 := k3.same _ _ (by omega) hl2 rfl
      have c3' : Hush d A3 (A3.putObj (d + 1) (R .done (some (.exit i)))) := Hush.put _ (by omega) hl3 rfl
      exact ⟨_, _, run_endRound (P := P) (some (.exit i)) hl3, .inr ⟨rfl, cx _ _ _ c3' i3, World.putObj_heap_same (Array.getElem?_eq_some_iff.1 hl3).1, (World.putObj_heap_other (by omega)).trans (k3.same _ _ (Nat.le_refl _) hz2 rfl)⟩⟩
    | ret => exact hp.elim
    | goto t => exact hp.elim
    | panic ch => exact hp.elim
    | outgrown => exact hp.elim
  · rintro e A ⟨⟨v, rfl⟩, (⟨xs, hE, hi, hl, hz⟩ | ⟨pre, hi, hl, hz⟩)⟩
    · have c3 : Hush d A (A.putObj (d + 1) (R .exhausted none)) := Hush.put _ (by omega) hl rfl
      exact ⟨none, _, run_endLoop (P := P) hl (by simp), hdone d xs _ (Nat.le_refl _) (ce _ _ _ c3 hE) (ci _ _ _ c3 hi) ((World.putObj_heap_other (by omega)).trans hz)⟩
    · have c3 : Hush d A (A.putObj (d + 1) (R .exhausted (some (.exit id)))) := Hush.put _ (by omega) hl rfl
      exact ⟨some (.exit id), _, run_endLoop (P := P) hl (by simp), hstop d pre _ (Nat.le_refl _) (cx _ _ _ c3 hi) ((World.putObj_heap_other (by omega)).trans hz)⟩
end Go.Proofs.Ytgobegpmojkhaaa

/-
  A struct loaded and stored inside a fence. Of no program.
-/
namespace Go.Proofs.Ytgobegpmojkhaaa
open Go.RowKit
set_option linter.unusedVariables false

section
variable {F : Fence} {n : Nat} {P : Program} {ops : Array Oper} {rest : List Oper} {o : Oper} {a : Act} {w : World} {Q : Exit → Act → World → Prop}

theorem wpListIn_load_at (hw : Region.wanted o (yielded ops a.tmps) = true) (t : TypeId) (x : Operand) (ho : o.op = .load t x) (g : Nat) (hx : a.eval x = .pointer (some ⟨g, 0, none⟩)) (cs : Array Value) (hg : RowAt w g t cs) (d : TypeDesc)
    (hu : P.underlying t = some d) (hd : (match d with | .struct _ | .array _ _ => true | _ => false) = true) (hi : (P.info? t).map (·.size) = some cs.size) (h : wpListIn F n P ops Q rest (a.put o.dst (.agg cs)) w) : wpListIn F n P ops Q (o :: rest) a w :=
  wpListIn_step fun K hK => by
    simp only [hw, if_true]
    unfold Oper.wpIn
    refine ⟨?_, ?_⟩
    · simp [Oper.about, ho]
    · rw [Oper.semAt_plain F _ _ (by rw [ho]; intro c hc; cases hc)]
      unfold execOp
      simp only [ho, hx, Instr.loadAt, Instr.sureAddr, Sem.run_bind, Sem.run_pure, Result.andThen_ok, run_loadVar_row w g t t cs (0, 0) d hg hu hd hi]
      exact hK _ _ h

theorem wpListIn_store_at (hgd : o.guard = none) (t : TypeId) (x y : Operand) (ho : o.op = .store t x y) (g : Nat) (c0 cs : Array Value) (hx : a.eval x = .pointer (some ⟨g, 0, none⟩)) (hy : a.eval y = .agg cs) (hg : RowAt w g t c0)
    (hi : (P.info? t).map (·.size) = some cs.size) (hz : c0.size = cs.size) (h1 : cs.all (·.oneCell') = true)
    (h : ∀ w2, RowAt w2 g t cs → w.grownBy w2 (some g) → wpListIn F n P ops Q rest (a.put o.dst undef) w2) : wpListIn F n P ops Q (o :: rest) a w := by
  have h2 := h (w.setRow g cs) (setRow_heap w g c0 cs t (0, 0) hg) ⟨rfl, rfl, rfl, by simp [World.setRow], fun k hk hne => setRow_other w g k _ (fun e => hne (by rw [e]))⟩
  refine wpListIn_plain hgd fun K hK => ?_
  unfold Oper.wpIn
  refine ⟨?_, ?_⟩
  · simp [Oper.about, ho]
  · rw [Oper.semAt_plain F _ _ (by rw [ho]; intro c hc; cases hc)]
    unfold execOp
    simp only [ho, hx, hy, Instr.storeAt, Instr.sureAddr, Sem.run_bind, Sem.run_pure, Result.andThen_ok, run_storeVar_row w g t t c0 cs hg hi hz h1]
    exact hK _ _ h2
end
end Go.Proofs.Ytgobegpmojkhaaa

/-
  A slice that came in, by its cells: what a walk is told of it. Of no program.
-/
namespace Go.Proofs.Ytgobegpmojkhaaa
open Go.RowKit
set_option linter.unusedVariables false

/-- A slice value of so many elements, each of 'sz' cells: element i's cell k holds 'f i k'. -/
def IsRow (w : World) (a : Option Addr) (len sz : Nat) (f : Nat → Nat → Value) : Prop :=
  0 < len → ∃ b off, a = some ⟨b, off, none⟩ ∧ b < w.heap.size ∧ ∀ i k, i < len → k < sz → w.cell? ⟨b, off + (i * sz + k), none⟩ = some (f i k)

theorem IsRow.below {w w' : World} {a : Option Addr} {len sz B : Nat} {f : Nat → Nat → Value} (h : IsRow w a len sz f) (hB : w.heap.size ≤ B) (hb : Below B w w') : IsRow w' a len sz f := by
  intro hp
  obtain ⟨b, off, ha, hlt, hc⟩ := h hp
  exact ⟨b, off, ha, Nat.lt_of_lt_of_le hlt hb.size, fun i k hi hk => (hb.cell (p := ⟨b, off + (i * sz + k), none⟩) (Nat.lt_of_lt_of_le hlt hB)).trans (hc i k hi hk)⟩
end Go.Proofs.Ytgobegpmojkhaaa

/-
  How an argument that is a slice of plain things, or a struct by value, is opened: of no program.
-/
namespace Go.Proofs.Ytgobegpmojkhaaa
open Go.ChangeShapes Go.WideShapes Go.ChangeAt Go.RowKit Go.Deep Go.Joins
set_option linter.unusedVariables false

section
variable {H : Type} {enc : TypeId × Value → H} {P : Program} {W : World}

theorem trod_places {t : TypeId} {v : Value} {d : DataW H} {p : List MemPlace} (h : DataW.Trod enc P W 0 (fun _ => true) true t v d p) : ∀ x ∈ p, x.block < W.heap.size := by
  obtain ⟨m, hm⟩ := h
  exact DataW.trod_lt m _ _ _ hm

theorem sized_each {ts : List TypeId} {ds : List (DataW H)} {j : Nat} {t : TypeId} {d : DataW H} (h : (DataW.weightsEach P ts ds).all (· ≤ reachBytes) = true) (ht : ts[j]? = some t) (hd : ds[j]? = some d) : ∀ n ∈ d.weights P t, n ≤ reachBytes := by
  intro n hn
  have := List.all_eq_true.1 h _ (DataW.weights_mem_each ht hd n hn)
  simpa using this

/-- A slice's outer form as data. -/
def SlForm (d : DataW H) (len cap : Nat) : Prop := (d = .nil ∧ len = 0 ∧ cap = 0) ∨ ∃ es sp, d = .slice es sp ∧ es.length = len ∧ es.length + sp.length = cap

theorem SlForm.sized {d : DataW H} {len cap : Nat} {t e : TypeId} (h : SlForm d len cap) (ht : P.underlying t = some (.slice e)) (hb : 1 ≤ P.bytesOf e) (hs : ∀ n ∈ d.weights P t, n ≤ reachBytes) : len ≤ 140737488351232 := by
  rcases h with ⟨_, rfl, _⟩ | ⟨es, sp, rfl, h1, h2⟩
  · omega
  · have h3 := hs ((es.length + sp.length) * P.bytesOf e) (by simp [DataW.weights, ht])
    have h4 : (es.length + sp.length) * 1 ≤ (es.length + sp.length) * P.bytesOf e := Nat.mul_le_mul_left _ hb
    have h5 : reachBytes = 140737488351232 := rfl
    omega

/-- A slice opened: each element's cells by a way to read an element. -/
theorem open_rows {α : Type} [Inhabited α] {t e : TypeId} {sz : Nat} {v : Value} {d : DataW H} {p : List MemPlace} {r : Reach} {b0 : Nat} (F : α → Nat → Value) (G : α → Prop)
    (hel : ∀ n cs y, DataW.trod enc P W 0 (fun _ => true) true n e cs = some y → ∃ x, G x ∧ ∀ k, k < sz → cs[k]? = some (F x k))
    (ht : P.underlying t = some (.slice e)) (hsz : P.cellsOf e = sz) (hpos : 0 < sz) (hv : Value.okWide P W r b0 t v) (h : DataW.Trod enc P W 0 (fun _ => true) true t v d p) :
    ∃ (a : Option Addr) (len cap : Nat) (f : Nat → α), v = .slice a len cap ∧ SlForm d len cap ∧ len ≤ cap ∧ (a = none → cap = 0) ∧ (∀ i, i < cap → G (f i)) ∧ IsRow W a len sz (fun i k => F (f i) k) := by
  obtain ⟨a, len, cap, rfl⟩ := okWide_slice ht hv
  obtain ⟨fuel, hf⟩ := h
  rcases open_slice ht hf with ⟨hcs, hx⟩ | ⟨x, l, c, m, n, D, Pl, hcs, _, hl, hm, hmm, hx, hall⟩
  · simp [Value.cells] at hcs
    obtain ⟨rfl, rfl, rfl⟩ := hcs
    simp only [Prod.mk.injEq] at hx
    exact ⟨none, 0, 0, fun _ => default, rfl, .inl ⟨hx.1, rfl, rfl⟩, Nat.le_refl _, fun _ => rfl, fun i hi => absurd hi (by omega), fun h => absurd h (by omega)⟩
  · simp [Value.cells] at hcs
    obtain ⟨rfl, rfl, rfl⟩ := hcs
    simp only [if_true] at hmm
    subst hmm
    simp only [Prod.mk.injEq] at hx
    obtain ⟨f, hf2⟩ := choose_lt (α := α) (p := fun i y => G y ∧ ∀ k, k < sz → W.cell? (x.add (i * sz + k)) = some (F y k)) (fun i hi => by
      obtain ⟨cs', h1, h2⟩ := hall i hi
      obtain ⟨y, hG, hF⟩ := hel _ _ _ h2
      rw [hsz] at h1
      obtain ⟨_, _, h3⟩ := World.cells?_some h1
      refine ⟨y, hG, fun k hk => ?_⟩
      have h4 := h3 k hk
      rw [hF k hk] at h4
      rw [← h4, Addr.add_add])
    refine ⟨some x, len, m, f, rfl, .inr ⟨_, _, hx.1, by simp, by simp; omega⟩, hl, (fun h => nomatch h), fun i hi => (hf2 i hi).1, fun hp => ?_⟩
    have hc0 := (hf2 0 (by omega)).2 0 hpos
    obtain ⟨b, off, spot⟩ := x
    have hspot : spot = none := by simpa [Addr.add] using World.cell?_spot hc0
    subst hspot
    refine ⟨b, off, rfl, ?_, fun i k hi hk => ?_⟩
    · have := World.block_lt_of_cell? W _ hc0
      simpa [Addr.add] using this
    · have := (hf2 i (by omega)).2 k hk
      rw [Addr.add_lit] at this
      exact this

/-- .. with a property of all places, also of those behind its end. -/
theorem open_rows_all {α : Type} [Inhabited α] {t e : TypeId} {sz : Nat} {v : Value} {d : DataW H} {p : List MemPlace} {r : Reach} {b0 : Nat} (F : α → Nat → Value) (G : α → Prop) (hd : G default)
    (hel : ∀ n cs y, DataW.trod enc P W 0 (fun _ => true) true n e cs = some y → ∃ x, G x ∧ ∀ k, k < sz → cs[k]? = some (F x k))
    (ht : P.underlying t = some (.slice e)) (hsz : P.cellsOf e = sz) (hpos : 0 < sz) (hv : Value.okWide P W r b0 t v) (h : DataW.Trod enc P W 0 (fun _ => true) true t v d p) :
    ∃ (a : Option Addr) (len cap : Nat) (f : Nat → α), v = .slice a len cap ∧ SlForm d len cap ∧ len ≤ cap ∧ (a = none → cap = 0) ∧ (∀ i, G (f i)) ∧ IsRow W a len sz (fun i k => F (f i) k) := by
  obtain ⟨a, len, cap, f, h1, h2, h3, h4, h5, h6⟩ := open_rows F G hel ht hsz hpos hv h
  refine ⟨a, len, cap, fun i => if i < cap then f i else default, h1, h2, h3, h4, fun i => ?_, fun hp => ?_⟩
  · by_cases hi : i < cap
    · simp only [if_pos hi]
      exact h5 i hi
    · simp only [if_neg hi]
      exact hd
  · obtain ⟨b, off, ha, hb, hc⟩ := h6 hp
    refine ⟨b, off, ha, hb, fun i k hi hk => ?_⟩
    have hi2 : i < cap := by omega
    rw [hc i k hi hk]
    simp only [if_pos hi2]

theorem elem_bool {e : TypeId} (he : P.underlying e = some .bool) (n : Nat) (cs : List Value) (y : DataW H × List MemPlace) (h : DataW.trod enc P W 0 (fun _ => true) true n e cs = some y) : ∃ x : Bool, True ∧ ∀ k, k < 1 → cs[k]? = some (Value.bool x) := by
  obtain ⟨b, rfl, _⟩ := DataW.trod_bool he h
  refine ⟨b, trivial, fun k hk => ?_⟩
  obtain rfl : k = 0 := by omega
  rfl

theorem elem_int {e : TypeId} {q : IntKind} (he : P.underlying e = some (.int q)) (n : Nat) (cs : List Value) (y : DataW H × List MemPlace) (h : DataW.trod enc P W 0 (fun _ => true) true n e cs = some y) : ∃ x : Int, (Lit.int q x).wf = true ∧ ∀ k, k < 1 → cs[k]? = some (Value.int q x) := by
  obtain ⟨b, rfl, _, hw⟩ := DataW.trod_int he h
  refine ⟨b, hw, fun k hk => ?_⟩
  obtain rfl : k = 0 := by omega
  rfl
end
end Go.Proofs.Ytgobegpmojkhaaa

/-
  A record that comes in by value, opened.
-/
namespace Go.Proofs.Ytgobegpmojkhaaa
open Go.ChangeShapes Go.WideShapes Go.ChangeAt Go.RowKit Go.Deep Go.Joins
set_option linter.unusedVariables false

set_option maxRecDepth 40000 in
theorem u64_nat {i : Int} (h : (Lit.int .u64 i).wf = true) : ∃ n : Nat, i = (n : Int) := by
  have := (bounds_u64 h).1
  exact ⟨i.toNat, by omega⟩

section
variable {H : Type} {enc : TypeId × Value → H} {W : World}

set_option maxRecDepth 40000 in
theorem trod_st2 {P : Program} {t : TypeId} {f0 f1 : Field} {fuel : Nat} {cs : List Value} {x : DataW H × List MemPlace} (ht : P.underlying t = some (.struct #[f0, f1])) (h : DataW.trod enc P W 0 (fun _ => true) true fuel t cs = some x) :
    ∃ y0 y1 n, cs.length = P.cellsOf t ∧ DataW.trod enc P W 0 (fun _ => true) true n f0.type ((cs.drop f0.offset).take (P.cellsOf f0.type)) = some y0 ∧ DataW.trod enc P W 0 (fun _ => true) true n f1.type ((cs.drop f1.offset).take (P.cellsOf f1.type)) = some y1 := by
  obtain ⟨xs, n, _, rfl, hl, hlen, hf⟩ := DataW.trod_struct ht h
  match xs, hlen with
  | [y0, y1], _ => exact ⟨y0, y1, n, hl, by simpa using hf 0 f0 rfl, by simpa using hf 1 f1 rfl⟩

set_option maxRecDepth 40000 in
theorem trod_st5 {P : Program} {t : TypeId} {f0 f1 f2 f3 f4 : Field} {fuel : Nat} {cs : List Value} {x : DataW H × List MemPlace} (ht : P.underlying t = some (.struct #[f0, f1, f2, f3, f4])) (h : DataW.trod enc P W 0 (fun _ => true) true fuel t cs = some x) :
    ∃ y0 y1 y2 y3 y4 n, cs.length = P.cellsOf t ∧ DataW.trod enc P W 0 (fun _ => true) true n f0.type ((cs.drop f0.offset).take (P.cellsOf f0.type)) = some y0 ∧ DataW.trod enc P W 0 (fun _ => true) true n f1.type ((cs.drop f1.offset).take (P.cellsOf f1.type)) = some y1 ∧ DataW.trod enc P W 0 (fun _ => true) true n f2.type ((cs.drop f2.offset).take (P.cellsOf f2.type)) = some y2 ∧ DataW.trod enc P W 0 (fun _ => true) true n f3.type ((cs.drop f3.offset).take (P.cellsOf f3.type)) = some y3 ∧ DataW.trod enc P W 0 (fun _ => true) true n f4.type ((cs.drop f4.offset).take (P.cellsOf f4.type)) = some y4 := by
  obtain ⟨xs, n, _, rfl, hl, hlen, hf⟩ := DataW.trod_struct ht h
  match xs, hlen with
  | [y0, y1, y2, y3, y4], _ => exact ⟨y0, y1, y2, y3, y4, n, hl, by simpa using hf 0 f0 rfl, by simpa using hf 1 f1 rfl, by simpa using hf 2 f2 rfl, by simpa using hf 3 f3 rfl, by simpa using hf 4 f4 rfl⟩

set_option maxRecDepth 40000 in
theorem trod_st10 {P : Program} {t : TypeId} {f0 f1 f2 f3 f4 f5 f6 f7 f8 f9 : Field} {fuel : Nat} {cs : List Value} {x : DataW H × List MemPlace} (ht : P.underlying t = some (.struct #[f0, f1, f2, f3, f4, f5, f6, f7, f8, f9])) (h : DataW.trod enc P W 0 (fun _ => true) true fuel t cs = some x) :
    ∃ y0 y1 y2 y3 y4 y5 y6 y7 y8 y9 n, cs.length = P.cellsOf t ∧ DataW.trod enc P W 0 (fun _ => true) true n f0.type ((cs.drop f0.offset).take (P.cellsOf f0.type)) = some y0 ∧ DataW.trod enc P W 0 (fun _ => true) true n f1.type ((cs.drop f1.offset).take (P.cellsOf f1.type)) = some y1 ∧ DataW.trod enc P W 0 (fun _ => true) true n f2.type ((cs.drop f2.offset).take (P.cellsOf f2.type)) = some y2 ∧ DataW.trod enc P W 0 (fun _ => true) true n f3.type ((cs.drop f3.offset).take (P.cellsOf f3.type)) = some y3 ∧ DataW.trod enc P W 0 (fun _ => true) true n f4.type ((cs.drop f4.offset).take (P.cellsOf f4.type)) = some y4 ∧ DataW.trod enc P W 0 (fun _ => true) true n f5.type ((cs.drop f5.offset).take (P.cellsOf f5.type)) = some y5 ∧ DataW.trod enc P W 0 (fun _ => true) true n f6.type ((cs.drop f6.offset).take (P.cellsOf f6.type)) = some y6 ∧ DataW.trod enc P W 0 (fun _ => true) true n f7.type ((cs.drop f7.offset).take (P.cellsOf f7.type)) = some y7 ∧ DataW.trod enc P W 0 (fun _ => true) true n f8.type ((cs.drop f8.offset).take (P.cellsOf f8.type)) = some y8 ∧ DataW.trod enc P W 0 (fun _ => true) true n f9.type ((cs.drop f9.offset).take (P.cellsOf f9.type)) = some y9 := by
  obtain ⟨xs, n, _, rfl, hl, hlen, hf⟩ := DataW.trod_struct ht h
  match xs, hlen with
  | [y0, y1, y2, y3, y4, y5, y6, y7, y8, y9], _ => exact ⟨y0, y1, y2, y3, y4, y5, y6, y7, y8, y9, n, hl, by simpa using hf 0 f0 rfl, by simpa using hf 1 f1 rfl, by simpa using hf 2 f2 rfl, by simpa using hf 3 f3 rfl, by simpa using hf 4 f4 rfl, by simpa using hf 5 f5 rfl, by simpa using hf 6 f6 rfl, by simpa using hf 7 f7 rfl, by simpa using hf 8 f8 rfl, by simpa using hf 9 f9 rfl⟩

set_option maxRecDepth 40000 in
theorem op_rows {α : Type} (f : α → Array Value) (z : α) (G : α → Prop) {P : Program} {t e : TypeId} {sz fuel : Nat} {c : Value} {x : DataW H × List MemPlace} (hel : ∀ n cs y, DataW.trod enc P W 0 (fun _ => true) true n e cs = some y → ∃ x, cs = (f x).toList ∧ G x)
    (ht : P.underlying t = some (.slice e)) (hsz : P.cellsOf e = sz) (hfz : ∀ x, (f x).size = sz) (hpos : 0 < sz) (h : DataW.trod enc P W 0 (fun _ => true) true fuel t [c] = some x) : ∃ xs, RowsIn f z sz W c xs ∧ xs.length ≤ maxLen ∧ ∀ x ∈ xs, G x := by
  rcases open_slice ht h with ⟨hcs, _⟩ | ⟨a, len, cap, m, n, D, Pl, hcs, _, hl, hm, hmm, _, hall⟩
  · simp only [List.cons.injEq, and_true] at hcs
    exact ⟨[], ⟨none, 0, hcs, fun h => absurd h (by simp)⟩, Nat.zero_le _, fun x hx => nomatch hx⟩
  · simp only [List.cons.injEq, and_true] at hcs
    subst hcs
    simp only [if_true] at hmm
    subst hmm
    have : Nonempty α := ⟨z⟩
    obtain ⟨g, hg⟩ := @choose_lt α ⟨z⟩ m (fun i y => G y ∧ ∀ k, k < sz → W.cell? (a.add (i * sz + k)) = (f y).toList[k]?) (fun i hi => by
      obtain ⟨cs', h1, h2⟩ := hall i hi
      obtain ⟨y, rfl, hG⟩ := hel _ _ _ h2
      rw [hsz] at h1
      obtain ⟨_, _, h3⟩ := World.cells?_some h1
      refine ⟨y, hG, fun k hk => ?_⟩
      rw [← h3 k hk, Addr.add_add])
    have hL : ((List.range len).map g).length = len := by simp
    refine ⟨(List.range len).map g, ⟨some a, m, by rw [hL], fun hp => ?_⟩, by rw [hL]; omega, fun x hx => by
      obtain ⟨i, hi, rfl⟩ := List.mem_map.1 hx
      exact (hg i (by have := List.mem_range.1 hi; omega)).1⟩
    rw [hL] at hp
    have hf0 : ∀ y k, k < sz → ∃ v, (f y).toList[k]? = some v := fun y k hk => ⟨_, List.getElem?_eq_getElem (by rw [Array.length_toList, hfz]; exact hk)⟩
    have hc0 := (hg 0 (by omega)).2 0 hpos
    obtain ⟨v0, hv0⟩ := hf0 (g 0) 0 hpos
    rw [hv0] at hc0
    obtain ⟨b, off, spot⟩ := a
    have hspot : spot = none := by simpa [Addr.add] using World.cell?_spot hc0
    subst hspot
    refine ⟨b, off, rfl, ?_, fun i hi j v hv => ?_⟩
    · have := World.block_lt_of_cell? W _ hc0
      simpa [Addr.add] using this
    · rw [hL] at hi
      have hget : ((List.range len).map g).getD i z = g i := by
        rw [List.getD_eq_getElem?_getD, List.getElem?_map, List.getElem?_range hi]
        rfl
      rw [hget] at hv
      have hj : j < sz := by
        have := (List.getElem?_eq_some_iff.1 hv).1
        rw [Array.length_toList, hfz] at this
        exact this
      have := (hg i (by omega)).2 j hj
      rw [Addr.add_lit, hv] at this
      rw [← this, Nat.add_assoc]

set_option maxRecDepth 40000 in
theorem elem_ch (n : Nat) (cs : List Value) (y : DataW H × List MemPlace) (h : DataW.trod enc Try.prog W 0 (fun _ => true) true n 24 cs = some y) : ∃ c : Ch, cs = (chA c).toList ∧ c.fits := by
  obtain ⟨y0, y1, y2, y3, y4, m, hl, h0, h1, h2, h3, h4⟩ := trod_st5 Try.underlying24 h
  have hC : Try.prog.cellsOf 24 = 5 := by kernel_rfl
  rw [hC] at hl
  match cs, hl with
  | [c0, c1, c2, c3, c4], _ =>
    have e0 : Try.prog.cellsOf 3 = 1 := by kernel_rfl
    have e1 : Try.prog.cellsOf 9 = 1 := by kernel_rfl
    simp only [e0, e1, List.drop_zero, List.drop_succ_cons, List.take_succ_cons, List.take_zero] at h0 h1 h2 h3 h4
    obtain ⟨i0, g0, _, w0⟩ := DataW.trod_int Try.underlying3 h0
    obtain ⟨i1, g1, _, w1⟩ := DataW.trod_int Try.underlying3 h1
    obtain ⟨i2, g2, _, w2⟩ := DataW.trod_int Try.underlying3 h2
    obtain ⟨i3, g3, _, w3⟩ := DataW.trod_string Try.underlying9 h3
    obtain ⟨i4, g4, _, w4⟩ := DataW.trod_string Try.underlying9 h4
    simp only [List.cons.injEq, and_true] at g0 g1 g2 g3 g4
    subst g0 g1 g2 g3 g4
    exact ⟨⟨i0, i1, i2, i3, i4⟩, rfl, w0, w1, w2, w3, w4⟩

set_option maxRecDepth 40000 in
theorem elem_tx (n : Nat) (cs : List Value) (y : DataW H × List MemPlace) (h : DataW.trod enc Try.prog W 0 (fun _ => true) true n 70 cs = some y) : ∃ c : Tx, cs = (txA c).toList ∧ c.fits := by
  obtain ⟨y0, y1, y2, y3, y4, m, hl, h0, h1, h2, h3, h4⟩ := trod_st5 Try.underlying70 h
  have hC : Try.prog.cellsOf 70 = 5 := by kernel_rfl
  rw [hC] at hl
  match cs, hl with
  | [c0, c1, c2, c3, c4], _ =>
    have e0 : Try.prog.cellsOf 3 = 1 := by kernel_rfl
    have e1 : Try.prog.cellsOf 22 = 1 := by kernel_rfl
    simp only [e0, e1, List.drop_zero, List.drop_succ_cons, List.take_succ_cons, List.take_zero] at h0 h1 h2 h3 h4
    obtain ⟨i0, g0, _, w0⟩ := DataW.trod_int Try.underlying3 h0
    obtain ⟨i1, g1, _, w1⟩ := DataW.trod_int Try.underlying3 h1
    obtain ⟨i2, g2, _, w2⟩ := DataW.trod_int Try.underlying22 h2
    obtain ⟨i3, g3, _, w3⟩ := DataW.trod_int Try.underlying22 h3
    obtain ⟨i4, g4, _, w4⟩ := DataW.trod_int Try.underlying22 h4
    simp only [List.cons.injEq, and_true] at g0 g1 g2 g3 g4
    subst g0 g1 g2 g3 g4
    obtain ⟨j2, rfl⟩ := u64_nat w2
    obtain ⟨j3, rfl⟩ := u64_nat w3
    obtain ⟨j4, rfl⟩ := u64_nat w4
    exact ⟨⟨i0, i1, j2, j3, j4⟩, rfl, w0, w1, w2, w3, w4⟩

set_option maxRecDepth 40000 in
theorem elem_di (n : Nat) (cs : List Value) (y : DataW H × List MemPlace) (h : DataW.trod enc Try.prog W 0 (fun _ => true) true n 72 cs = some y) : ∃ c : Di, cs = (diA c).toList ∧ c.fits := by
  obtain ⟨y0, y1, m, hl, h0, h1⟩ := trod_st2 Try.underlying72 h
  have hC : Try.prog.cellsOf 72 = 2 := by kernel_rfl
  rw [hC] at hl
  match cs, hl with
  | [c0, c1], _ =>
    have e0 : Try.prog.cellsOf 3 = 1 := by kernel_rfl
    have e1 : Try.prog.cellsOf 22 = 1 := by kernel_rfl
    simp only [e0, e1, List.drop_zero, List.drop_succ_cons, List.take_succ_cons, List.take_zero] at h0 h1
    obtain ⟨i0, g0, _, w0⟩ := DataW.trod_int Try.underlying3 h0
    obtain ⟨i1, g1, _, w1⟩ := DataW.trod_int Try.underlying22 h1
    simp only [List.cons.injEq, and_true] at g0 g1
    subst g0 g1
    obtain ⟨j1, rfl⟩ := u64_nat w1
    exact ⟨⟨i0, j1⟩, rfl, w0, w1⟩

set_option maxRecDepth 40000 in
theorem op_record {v : Value} {d : DataW H} {p : List MemPlace} {r : Reach} {b0 : Nat} (hv : Value.okWide Try.prog W r b0 28 v) (h : DataW.Trod enc Try.prog W 0 (fun _ => true) true 28 v d p) :
    ∃ m : Rec × Value × Value, v = .agg (rcA m.1 m.2.1 m.2.2) ∧ m.1.fits ∧ RcIn W m.1 m.2.1 m.2.2 := by
  obtain ⟨cs, rfl, hsz⟩ := okWide_struct Try.underlying28 hv
  have hC : Try.prog.cellsOf 28 = 14 := by kernel_rfl
  rw [hC] at hsz
  obtain ⟨fuel, hf⟩ := h
  obtain ⟨l⟩ := cs
  have hl : l.length = 14 := hsz
  match l, hl with
  | [c0, c1, c2, c3, c4, c5, c6, c7, c8, c9, c10, c11, c12, c13], _ =>
    have ec : (Value.agg ⟨[c0, c1, c2, c3, c4, c5, c6, c7, c8, c9, c10, c11, c12, c13]⟩).cells.toList = [c0, c1, c2, c3, c4, c5, c6, c7, c8, c9, c10, c11, c12, c13] := rfl
    obtain ⟨y0, y1, y2, y3, y4, y5, y6, y7, y8, y9, m, _, h0, h1, h2, h3, h4, h5, h6, h7, h8, h9⟩ := trod_st10 Try.underlying28 hf
    have e0 : Try.prog.cellsOf 3 = 1 := by kernel_rfl
    have e1 : Try.prog.cellsOf 22 = 1 := by kernel_rfl
    have e2 : Try.prog.cellsOf 24 = 5 := by kernel_rfl
    have e3 : Try.prog.cellsOf 25 = 1 := by kernel_rfl
    have e4 : Try.prog.cellsOf 26 = 1 := by kernel_rfl
    simp only [ec, e0, e1, e2, e3, e4, List.drop_zero, List.drop_succ_cons, List.take_succ_cons, List.take_zero] at h0 h1 h2 h3 h4 h5 h6 h7 h8 h9
    obtain ⟨i0, g0, _, w0⟩ := DataW.trod_int Try.underlying3 h0
    obtain ⟨i1, g1, _, w1⟩ := DataW.trod_int Try.underlying22 h1
    obtain ⟨i2, g2, _, w2⟩ := DataW.trod_int Try.underlying3 h2
    obtain ⟨i3, g3, _, w3⟩ := DataW.trod_int Try.underlying22 h3
    obtain ⟨ch, g4, w4⟩ := elem_ch _ _ _ h4
    obtain ⟨i5, g5, _, w5⟩ := DataW.trod_int Try.underlying22 h5
    obtain ⟨i6, g6, _, w6⟩ := DataW.trod_int Try.underlying3 h6
    obtain ⟨i7, g7, _, w7⟩ := DataW.trod_int Try.underlying22 h7
    obtain ⟨ts, g8, w8, u8⟩ := op_rows (sz := 5) txA Tx.zero Tx.fits elem_tx Try.underlying25 (by kernel_rfl) (fun _ => rfl) (by decide) h8
    obtain ⟨ds, g9, w9, u9⟩ := op_rows (sz := 2) diA Di.zero Di.fits elem_di Try.underlying26 (by kernel_rfl) (fun _ => rfl) (by decide) h9
    simp only [chA, List.cons.injEq, and_true] at g0 g1 g2 g3 g4 g5 g6 g7
    obtain ⟨g40, g41, g42, g43, g44⟩ := g4
    subst g0 g1 g2 g3 g40 g41 g42 g43 g44 g5 g6 g7
    obtain ⟨j1, rfl⟩ := u64_nat w1
    obtain ⟨j3, rfl⟩ := u64_nat w3
    obtain ⟨j5, rfl⟩ := u64_nat w5
    obtain ⟨j7, rfl⟩ := u64_nat w7
    exact ⟨(⟨i0, j1, i2, j3, ch, j5, i6, j7, ts, ds⟩, c12, c13), rfl, ⟨w4, w8, w9, u8, u9⟩, g8, g9⟩
end
end Go.Proofs.Ytgobegpmojkhaaa

/-
  Records in a list that comes in, opened.
-/
namespace Go.Proofs.Ytgobegpmojkhaaa
open Go.ChangeShapes Go.WideShapes Go.ChangeAt Go.RowKit Go.Deep Go.Joins
set_option linter.unusedVariables false

set_option maxRecDepth 40000 in
/-- A record with the values of its lists, and its cells. -/
def rcF (m : Rec × Value × Value) : Array Value := rcA m.1 m.2.1 m.2.2
set_option maxRecDepth 40000 in
def rcZ : Rec × Value × Value := (Rec.zero, .slice none 0 0, .slice none 0 0)
section
variable {H : Type} {enc : TypeId × Value → H} {W : World}

set_option maxRecDepth 40000 in
theorem elem_rec (n : Nat) (cs : List Value) (y : DataW H × List MemPlace) (h : DataW.trod enc Try.prog W 0 (fun _ => true) true n 28 cs = some y) : ∃ m : Rec × Value × Value, cs = (rcF m).toList ∧ (m.1.fits ∧ RcIn W m.1 m.2.1 m.2.2) := by
  obtain ⟨z0, z1, z2, z3, z4, z5, z6, z7, z8, z9, m', hl, -⟩ := trod_st10 Try.underlying28 h
  have hC : Try.prog.cellsOf 28 = 14 := by kernel_rfl
  rw [hC] at hl
  match cs, hl with
  | [c0, c1, c2, c3, c4, c5, c6, c7, c8, c9, c10, c11, c12, c13], _ =>
    obtain ⟨y0, y1, y2, y3, y4, y5, y6, y7, y8, y9, m, _, h0, h1, h2, h3, h4, h5, h6, h7, h8, h9⟩ := trod_st10 Try.underlying28 h
    have e0 : Try.prog.cellsOf 3 = 1 := by kernel_rfl
    have e1 : Try.prog.cellsOf 22 = 1 := by kernel_rfl
    have e2 : Try.prog.cellsOf 24 = 5 := by kernel_rfl
    have e3 : Try.prog.cellsOf 25 = 1 := by kernel_rfl
    have e4 : Try.prog.cellsOf 26 = 1 := by kernel_rfl
    simp only [e0, e1, e2, e3, e4, List.drop_zero, List.drop_succ_cons, List.take_succ_cons, List.take_zero] at h0 h1 h2 h3 h4 h5 h6 h7 h8 h9
    obtain ⟨i0, g0, _, w0⟩ := DataW.trod_int Try.underlying3 h0
    obtain ⟨i1, g1, _, w1⟩ := DataW.trod_int Try.underlying22 h1
    obtain ⟨i2, g2, _, w2⟩ := DataW.trod_int Try.underlying3 h2
    obtain ⟨i3, g3, _, w3⟩ := DataW.trod_int Try.underlying22 h3
    obtain ⟨ch, g4, w4⟩ := elem_ch _ _ _ h4
    obtain ⟨i5, g5, _, w5⟩ := DataW.trod_int Try.underlying22 h5
    obtain ⟨i6, g6, _, w6⟩ := DataW.trod_int Try.underlying3 h6
    obtain ⟨i7, g7, _, w7⟩ := DataW.trod_int Try.underlying22 h7
    obtain ⟨ts, g8, w8, u8⟩ := op_rows (sz := 5) txA Tx.zero Tx.fits elem_tx Try.underlying25 (by kernel_rfl) (fun _ => rfl) (by decide) h8
    obtain ⟨ds, g9, w9, u9⟩ := op_rows (sz := 2) diA Di.zero Di.fits elem_di Try.underlying26 (by kernel_rfl) (fun _ => rfl) (by decide) h9
    simp only [chA, List.cons.injEq, and_true] at g0 g1 g2 g3 g4 g5 g6 g7
    obtain ⟨g40, g41, g42, g43, g44⟩ := g4
    subst g0 g1 g2 g3 g40 g41 g42 g43 g44 g5 g6 g7
    obtain ⟨j1, rfl⟩ := u64_nat w1
    obtain ⟨j3, rfl⟩ := u64_nat w3
    obtain ⟨j5, rfl⟩ := u64_nat w5
    obtain ⟨j7, rfl⟩ := u64_nat w7
    exact ⟨(⟨i0, j1, i2, j3, ch, j5, i6, j7, ts, ds⟩, c12, c13), rfl, ⟨w4, w8, w9, u8, u9⟩, g8, g9⟩
set_option maxRecDepth 40000 in
/-- A list of records. The mark of its type is wanted: see NOTES, "Stage 7". -/
theorem op_recs {t : TypeId} {c : Value} {fuel : Nat} {x : DataW H × List MemPlace} (ht : Try.prog.underlying t = some (.slice 28)) (h : DataW.trod enc Try.prog W 0 (fun _ => true) true fuel t [c] = some x) :
    ∃ ms : List (Rec × Value × Value), RowsIn rcF rcZ 14 W c ms ∧ ms.length ≤ maxLen ∧ ∀ m ∈ ms, m.1.fits ∧ RcIn W m.1 m.2.1 m.2.2 :=
  op_rows (sz := 14) rcF rcZ (fun m => m.1.fits ∧ RcIn W m.1 m.2.1 m.2.2) elem_rec ht (by kernel_rfl) (fun _ => rfl) (by decide) h
set_option maxRecDepth 40000 in
/-- A slice's length is within its capacity. -/
theorem op_cap {P : Program} {t e : TypeId} {c : Value} {fuel : Nat} {x : DataW H × List MemPlace} (ht : P.underlying t = some (.slice e)) (h : DataW.trod enc P W 0 (fun _ => true) true fuel t [c] = some x) {a : Option Addr} {len cap : Nat} (hc : c = .slice a len cap) : len ≤ cap ∧ (a = none → cap = 0) := by
  rcases open_slice ht h with ⟨hcs, _⟩ | ⟨a', len', cap', m, n, D, Pl, hcs, _, hl, hm, hmm, _, hall⟩
  · simp only [List.cons.injEq, and_true] at hcs
    rw [hc] at hcs
    injection hcs with h1 h2 h3
    subst h1 h2 h3
    exact ⟨Nat.le_refl _, fun _ => rfl⟩
  · simp only [List.cons.injEq, and_true] at hcs
    rw [hc] at hcs
    injection hcs with h1 h2 h3
    subst h1 h2 h3
    simp only [if_true] at hmm
    exact ⟨by omega, fun h => (nomatch h)⟩
end
end Go.Proofs.Ytgobegpmojkhaaa

/-
  The contract of the iterator that frame.frames makes.
-/
namespace Go.Proofs.Ytgobegpmojkhaaa
open Go.RowKit Go.Shelf
set_option linter.unusedVariables false
attribute [local go_sem] Oper.semAt_some

/-- What is handed over: a record with the values of its lists, and the place behind its frame. -/
abbrev Hd := (Rec × Value × Value) × Nat
def recs (xs : List Hd) : List Rec := xs.map (·.1.1)
theorem recs_snoc (xs : List Hd) (x : Hd) : recs (xs ++ [x]) = recs xs ++ [x.1.1] := by simp [recs]
theorem framesB_snoc (rs : List Rec) (r : Rec) : framesB (rs ++ [r]) = framesB rs ++ frameB r := by simp [framesB]
def encH (x : Hd) : Array Value := #[.agg (rcF x.1), .int .i64 (x.2 : Int)]
/-- What is said of each. -/
def Told (base : Nat) (bs : List UInt8) (pre : List Hd) (x : Hd) (W : World) : Prop :=
  x.1.1.right ∧ x.1.1.fits ∧ GotIn base W x.1.1 x.1.2.1 x.1.2.2 ∧ x.2 = (framesB (recs (pre ++ [x]))).length ∧ ∃ y, bs = framesB (recs (pre ++ [x])) ++ y
/-- All have come. -/
def Over (bs : List UInt8) (xs : List Hd) : Prop := ∃ y, bs = framesB (recs xs) ++ y ∧ (headF y).2.2 ≠ 0
theorem head_fits (y : List UInt8) : (headF y).1.fits := by
  unfold headF
  split
  · exact zero_rec_fits
  · split
    · exact zero_rec_fits
    · split
      · exact zero_rec_fits
      · exact dec_fits _
/-- What a round keeps: what lay at the call of Scan, and the iterator's own box. -/
def KpI (n0 gb : Nat) (A B : World) : Prop := Below n0 A B ∧ ∀ cs, RowAt A gb 30 cs → RowAt B gb 30 cs

theorem head_over {bs y : List UInt8} {xs : List Hd} (h : bs = framesB (recs xs) ++ y) : takF bs ((framesB (recs xs)).length : Int) = ((headF y).1, if (headF y).2.2 = 0 then ((framesB (recs xs)).length : Int) + ((headF y).2.1 : Int) else 0, (headF y).2.2) := by
  unfold takF
  have e : bs.drop ((framesB (recs xs)).length : Int).toNat = y := by
    rw [Int.toNat_natCast, h]
    exact List.drop_left' rfl
  rw [if_neg (by rw [h, List.length_append]; omega), e]

theorem frames_step {bs y : List UInt8} {xs : List Hd} (h : bs = framesB (recs xs) ++ y) (he : (headF y).2.2 = 0) (va vb : Value) :
    (headF y).1.right ∧ ∃ y', bs = framesB (recs (xs ++ [(((headF y).1, va, vb), (framesB (recs xs)).length + (headF y).2.1)])) ++ y' ∧ (framesB (recs (xs ++ [(((headF y).1, va, vb), (framesB (recs xs)).length + (headF y).2.1)]))).length = (framesB (recs xs)).length + (headF y).2.1 ∧ 6 ≤ (headF y).2.1 := by
  obtain ⟨h1, h2, h3, h4⟩ := head_ok y he
  refine ⟨h1, y.drop (headF y).2.1, ?_, ?_, ?_⟩
  · rw [recs_snoc, framesB_snoc, ← h2, List.append_assoc, List.take_append_drop]
    exact h
  · rw [recs_snoc, framesB_snoc, List.length_append, ← h3]
  · rw [h3, frameB_length]
    omega

set_option maxRecDepth 100000 in
set_option maxHeartbeats 3200000 in
theorem iter_any (l n gb n0 : Nat) (a : Option Addr) (len cap : Nat) (bs : List UInt8) (hn : 1 ≤ n) (hl : len ≤ 140737488355328) (hcap : len ≤ cap) (J Jx : List Hd → World → Prop)
    (hJ : ∀ s A B, Below A.heap.size A B → J s A → J s B)
    (hY : ∀ pre x A, J pre A → Told n0 bs pre x A → YieldAt Fence.wide (n - 1) Try.prog l (encH x) A fun e B => (e = .returned (.bool true) ∧ J (pre ++ [x]) B ∧ KpI n0 gb A B) ∨ (e = .returned (.bool false) ∧ Jx pre B))
    (W : World) (hB : ∀ W', Below n0 W W' → IsB W' a len bs) (hn0 : n0 ≤ W.heap.size) (hbox : RowAt W gb 30 #[.slice a len cap]) (h0 : J [] W) :
    CallsIn Fence.wide n Try.prog 57 #[.func (.yield l) #[] #[], .pointer (some ⟨gb, 0, none⟩)] W fun e B => (∃ v, e = .returned v) ∧ ((∃ xs, Over bs xs ∧ J xs B) ∨ (∃ pre, Jx pre B)) := by
  have HJ := hide hJ
  have HY := hide hY
  have HBX := hide hB
  clear hJ hY hB
  refine callsIn_of_wp Try.func57 rfl trivial ?_ rfl
  simp only [Try.ntmps57, List.size_toArray, List.length_cons, List.length_nil, Nat.reduceAdd, Nat.reduceSub, Array.replicate_succ, Array.replicate_zero, List.push_toArray, List.append_toArray, List.nil_append, List.cons_append]
  gi_wp2
  gi_loopw [3] (fun p wr => ∃ (pre : List Hd) (y : List UInt8), p = .int .i64 ((framesB (recs pre)).length : Int) ∧ Hid (bs = framesB (recs pre) ++ y) ∧ Hid (J pre wr ∧ Below n0 W wr ∧ RowAt wr gb 30 #[.slice a len cap])) (fun p _ => len - (intOf p).toNat)
  case atStart => exact ⟨[], bs, rfl, rfl, h0, Below.refl _ _, hbox⟩
  case round =>
    obtain ⟨pre, y, rfl, HBS, HST⟩ := hrel
    clear hbox h0
    have c0 := HST.out.2.2.cell 0 (.slice a len cap) rfl
    have HBW := hide (HBX.out _ HST.out.2.1)
    have HT := hide (ftake_any a len cap bs ((framesB (recs pre)).length : Int) wr HBW.out hl hcap)
    rw [head_over HBS.out] at HT
    unfold TakAns at HT
    gi_wp2_with fail
    refine ⟨trivial, (callsIn_wide.2 HT.out).mono ?_⟩
    rintro e w1 ⟨⟨va, vb, rfl, hgot⟩, hb1⟩
    obtain ⟨av, cv, rfl⟩ := own_shape5 hgot.1
    obtain ⟨au, cu, rfl⟩ := own_shape5 hgot.2
    have HFS := hide (fun he va vb => frames_step HBS.out he va vb)
    have HOV : Hid ((headF y).2.2 ≠ 0 → Over bs pre) := fun he => ⟨y, HBS.out, he⟩
    have HFI : Hid (headF y).1.fits := head_fits y
    have HGT := hide (show GotIn n0 w1 (headF y).1 (.slice av (headF y).1.ts.length cv) (.slice au (headF y).1.ds.length cu) from ⟨own_mono hgot.1 (Nat.le_trans hn0 HST.out.2.1.size), own_mono hgot.2 (Nat.le_trans hn0 HST.out.2.1.size)⟩)
    have HS1 : Hid (J pre w1 ∧ Below n0 W w1 ∧ RowAt w1 gb 30 #[.slice a len cap]) := ⟨HJ.out _ _ _ hb1 HST.out.1, HST.out.2.1.trans (hb1.mono (Nat.le_trans hn0 HST.out.2.1.size)), HST.out.2.2.later hb1⟩
    clear HT HST HBW hgot hb1 c0
    generalize headF y = hy9 at *
    obtain ⟨r, k, er⟩ := hy9
    simp only at HFS HOV HGT HFI ⊢
    by_cases he : er = 0
    · subst he
      rw [if_pos rfl]
      obtain ⟨p9, hp9⟩ : ∃ p9 : Nat, p9 = (framesB (recs pre)).length + k := ⟨_, rfl⟩
      have e9 : ((framesB (recs pre)).length : Int) + (k : Int) = (p9 : Int) := by omega
      rw [e9]
      have HP9 := hide hp9
      clear hp9 e9
      gi_wp2_with (refine wpListIn_store_at rfl 28 (.tmp 4) (.tmp 11) rfl w1.heap.size zeroA (rcA r (.slice av r.ts.length cv) (.slice au r.ds.length cu)) rfl rfl (RowAt.new w1 28 zeroA) infoRc rfl (by simp [rcA, Value.oneCell']) ?_)
      intro w2 hr2 hg2
      have hb2 : Below w1.heap.size w1 w2 := ((Below.refl w1.heap.size w1).alloc (Nat.le_refl _) (.cells zeroA 28)).grown hg2 (by simp) (fun k hk => by cases hk; exact Nat.le_refl _)
      have HS2 : Hid (J pre w2 ∧ Below n0 W w2 ∧ RowAt w2 gb 30 #[.slice a len cap]) := ⟨HJ.out _ _ _ hb2 HS1.out.1, HS1.out.2.1.trans (hb2.mono (Nat.le_trans hn0 HS1.out.2.1.size)), HS1.out.2.2.later hb2⟩
      have HG2 := hide (HGT.out.below hb2)
      have HR2 := hide hr2
      clear hr2 hg2 hb2 HS1 HGT
      generalize w1.heap.size = g1 at *
      obtain ⟨hr, y2, hbs2, hlen2, hk6⟩ := HFS.out trivial (.slice av r.ts.length cv) (.slice au r.ds.length cu)
      rw [← HP9.out] at hbs2 hlen2
      obtain ⟨fn, tmps, assign, body, hyd, hR⟩ := HY.out pre ((r, .slice av r.ts.length cv, .slice au r.ds.length cu), p9) w2 HS2.out.1 ⟨hr, HFI.out, HG2.out, hlen2.symm, y2, hbs2⟩
      have HN2 := hide hbs2
      have HL2 := hide hlen2
      have HRR := hide hR
      have hle : p9 ≤ len := by
        have := congrArg List.length hbs2
        rw [(HBX.out _ (Below.refl _ _)).1, List.length_append, hlen2] at this
        omega
      have hgt : (framesB (recs pre)).length < p9 := by
        have := HP9.out
        omega
      clear hr hbs2 hlen2 hR HFS HOV hk6 HP9
      dsimp only [encH, rcF] at hyd
      gi_wp2_with (refine wpListIn_load_at rfl 28 (.tmp 4) rfl g1 rfl (rcA r (.slice av r.ts.length cv) (.slice au r.ds.length cu)) HR2.out _ Try.underlying28 rfl infoRc ?_)
      refine HRR.out.mono ?_
      rintro e w3 (⟨rfl, hJ3, hk3⟩ | ⟨rfl, hJx3⟩)
      · have HS3 : Hid (J (pre ++ [((r, .slice av r.ts.length cv, .slice au r.ds.length cu), p9)]) w3 ∧ Below n0 W w3 ∧ RowAt w3 gb 30 #[.slice a len cap]) := ⟨hJ3, HS2.out.2.1.trans hk3.1, hk3.2 _ HS2.out.2.2⟩
        clear hJ3 hk3 HS2 HG2 HR2 HRR hyd
        gi_wp2
        go_roundw
        case rel => exact ⟨_, y2, by rw [HL2.out], HN2, HS3⟩
        case measure => simp [intOf]; omega
      · have HX3 := hide hJx3
        clear hJx3 HS2 HG2 HR2 HRR hyd
        gi_wp2
        refine bodyPost_ret (results_none rfl _ _ _) rfl ?_
        exact ⟨⟨_, rfl⟩, .inr ⟨pre, HX3.out⟩⟩
    · rw [if_neg he]
      have k0 : (er == 0) = false := by rw [beq_eq_false_iff_ne]; exact he
      have k1 : (er != 0) = true := by rw [bne, k0]; rfl
      have HO := hide (HOV.out he)
      clear he HOV HFS
      gi_wp2_with (refine wpListIn_store_at rfl 28 (.tmp 4) (.tmp 11) rfl w1.heap.size zeroA (rcA r (.slice av r.ts.length cv) (.slice au r.ds.length cu)) rfl rfl (RowAt.new w1 28 zeroA) infoRc rfl (by simp [rcA, Value.oneCell']) ?_)
      intro w2 hr2 hg2
      have hb2 : Below w1.heap.size w1 w2 := ((Below.refl w1.heap.size w1).alloc (Nat.le_refl _) (.cells zeroA 28)).grown hg2 (by simp) (fun k hk => by cases hk; exact Nat.le_refl _)
      have HS2 : Hid (J pre w2 ∧ Below n0 W w2 ∧ RowAt w2 gb 30 #[.slice a len cap]) := ⟨HJ.out _ _ _ hb2 HS1.out.1, HS1.out.2.1.trans (hb2.mono (Nat.le_trans hn0 HS1.out.2.1.size)), HS1.out.2.2.later hb2⟩
      have HG2 := hide (HGT.out.below hb2)
      have HR2 := hide hr2
      clear hr2 hg2 hb2 HS1 HGT
      generalize w1.heap.size = g1 at *
      gi_wp2
      refine ⟨fun _ h => (by cases h), ?_⟩
      gi_wp2
      refine bodyPost_ret (results_none rfl _ _ _) rfl ?_
      exact ⟨⟨_, rfl⟩, .inl ⟨pre, HO.out, HS2.out.1⟩⟩
end Go.Proofs.Ytgobegpmojkhaaa

/-
  What is scanned, by where it ends: plain facts, of no program.
-/
namespace Go.Proofs.Ytgobegpmojkhaaa
open Go.RowKit
set_option linter.unusedVariables false

/-- What is scanned of bytes. -/
noncomputable def scanL (bs : List UInt8) : List Rec × Nat := scanF (bs.length + 1) 0 bs
theorem framesB_long : ∀ rs : List Rec, rs.length * 6 ≤ (framesB rs).length
  | [] => Nat.le_refl _
  | r :: rs => by
    have h := framesB_long rs
    have e : framesB (r :: rs) = frameB r ++ framesB rs := by simp [framesB]
    rw [e, List.length_append, frameB_length, List.length_cons]
    omega
theorem scan_end {bs y : List UInt8} {rs : List Rec} (h : bs = framesB rs ++ y) (hr : Rise 0 rs) (hs : (headF y).2.2 ≠ 0 ∨ (headF y).1.l ≤ lastL 0 rs) : scanL bs = (rs, (framesB rs).length) := by
  have h1 := framesB_long rs
  have h2 := congrArg List.length h
  rw [List.length_append] at h2
  have e : bs.length + 1 = rs.length + (bs.length + 1 - rs.length) := by omega
  unfold scanL
  rw [e, h, scan_all rs _ 0 y hr, scan_stop _ _ y hs]
  simp
theorem rise_snoc : ∀ (rs : List Rec) (a : Nat) (r : Rec), Rise a (rs ++ [r]) ↔ Rise a rs ∧ r.right ∧ lastL a rs < r.l
  | [], a, r => ⟨fun h => ⟨trivial, h.1, h.2.1⟩, fun h => ⟨h.2.1, h.2.2, trivial⟩⟩
  | q :: rs, a, r => by
    have ih := rise_snoc rs q.l r
    constructor
    · rintro ⟨h1, h2, h3⟩
      have h4 := ih.1 h3
      exact ⟨⟨h1, h2, h4.1⟩, h4.2⟩
    · rintro ⟨⟨h1, h2, h3⟩, h4⟩
      exact ⟨h1, h2, ih.2 ⟨h3, h4⟩⟩
theorem last_snoc : ∀ (rs : List Rec) (a : Nat) (r : Rec), lastL a (rs ++ [r]) = r.l
  | [], _, _ => rfl
  | q :: rs, _, r => last_snoc rs q.l r
theorem last_lt : ∀ (rs : List Rec) (a : Nat), Rise a rs → a < 18446744073709551616 → lastL a rs < 18446744073709551616
  | [], _, _, h => h
  | q :: rs, a, h, ha => last_lt rs q.l h.2.2 (by have := h.1.lm; unfold maxP at this; omega)
theorem rise_right : ∀ (rs : List Rec) (a : Nat), Rise a rs → ∀ r ∈ rs, r.right
  | [], _, _, _, h => nomatch h
  | q :: rs, a, h, r, hr => by
    rcases List.mem_cons.1 hr with rfl | hr
    · exact h.1
    · exact rise_right rs q.l h.2.2 r hr
theorem eq_dec (a b : Nat) : ((a : Int) == (b : Int)) = decide (a = b) := by
  rw [Bool.eq_iff_iff]
  simp
  omega
end Go.Proofs.Ytgobegpmojkhaaa

/-
  The contract of frame.Scan.
-/
namespace Go.Proofs.Ytgobegpmojkhaaa
open Go.RowKit Go.Shelf
set_option linter.unusedVariables false
attribute [local go_sem] Oper.semAt_some

/-- The cells of records, one behind the other. -/
def flatR (ms : List (Rec × Value × Value)) : List Value := ms.flatMap fun m => (rcF m).toList
theorem flatR_append (a b : List (Rec × Value × Value)) : flatR (a ++ b) = flatR a ++ flatR b := by simp [flatR]
theorem infoRc3 : (Try.prog.info? 28).map (fun i => (i.zero, i.size, i.bytes)) = some (some (.agg zeroA), 14, 160) := by kernel_rfl
theorem own_kind {y : World} {base n sz k : Nat} {e t : TypeId} {v : Value} {xs : List Value} {cs : Array Value} (h : y.ownsRow base e sz v n xs) (hr : RowAt y k t cs) (ht : t ≠ e) : v.ownBlock ≠ some k := fun hk => by
  rcases h.2 with ⟨rfl, _⟩ | ⟨g, cap, cur, rfl, _, hg, _⟩
  · cases hk
  · obtain rfl : g = k := by simpa [Value.ownBlock] using hk
    have h5 := (show y.heap[g]? = _ from hr).symm.trans hg
    simp only [Option.some.injEq, Obj.cells.injEq] at h5
    exact ht h5.2.1
/-- A row of the call's own, where blocks of its type are kept. -/
theorem own_kept {A B : World} {base n sz : Nat} {e : TypeId} {v : Value} {xs : List Value} (h : A.ownsRow base e sz v n xs) (hk : ∀ k cs, RowAt A k e cs → RowAt B k e cs) : B.ownsRow base e sz v n xs := by
  refine ⟨h.1, h.2.imp id ?_⟩
  rintro ⟨g, cap, cur, h1, h2, h3, h4⟩
  exact ⟨g, cap, cur, h1, h2, hk g cur h3, h4⟩
theorem cells_new (W : World) (t : TypeId) (cs : Array Value) : ∀ j u, cs.toList[j]? = some u → (W.alloc (.cells cs t)).cell? ((⟨W.heap.size, 0, none⟩ : Addr).add j) = some u := fun j u hu => by
  rw [Addr.add_lit, Nat.zero_add]
  refine (RowAt.new W t cs).cell j u ?_
  rw [← hu, Array.getElem?_toList]
theorem hush_row {n : Nat} {A B : World} (h : Hush n A B) {k : Nat} {t : TypeId} {cs : Array Value} (hr : RowAt A k t cs) : RowAt B k t cs := h.cells k cs t (0, 0) hr
theorem hush_below {n : Nat} {w A B : World} (h : Hush n A B) (hb : Below n w A) : Below n w B := ⟨h.os.trans hb.os, h.tape.trans hb.tape, h.output.trans hb.output, Nat.le_trans hb.size h.size, fun k hk => (h.low k hk).trans (hb.block k hk)⟩

set_option maxRecDepth 4000 in
theorem frames_any (a : Option Addr) (len cap : Nat) (w : World) :
    Calls Try.prog 34 #[.slice a len cap] w fun e w' => e = .returned (.func (.func 57) #[] #[.pointer (some ⟨w.heap.size, 0, none⟩)]) ∧ w' = w.alloc (.cells #[.slice a len cap] 30) := by
  go_enter Try.func34, Try.ntmps34
  go_wp2
  go_ret
  exact ⟨rfl, rfl⟩

/-- What Scan keeps between two rounds; v: the records so far. -/
structure ScI (n0 : Nat) (w : World) (bs : List UInt8) (v : Value) (pre : List Hd) (W : World) : Prop where
  box : RowAt W n0 44 #[v]
  own : W.ownsRow n0 28 14 v pre.length (flatR (pre.map (·.1)))
  size : RowAt W (n0 + 1) 3 #[.int .i64 ((framesB (recs pre)).length : Int)]
  last : RowAt W (n0 + 1 + 1) 22 #[.int .u64 ((lastL 0 (recs pre) : Nat) : Int)]
  rise : Rise 0 (recs pre)
  part : ∃ y, bs = framesB (recs pre) ++ y
  got : ∀ x ∈ pre, x.1.1.fits ∧ GotIn n0 W x.1.1 x.1.2.1 x.1.2.2
  bel : Below n0 w W
theorem ScI.hush {n0 : Nat} {w : World} {bs : List UInt8} {v : Value} {pre : List Hd} {A B : World} {n : Nat} (h : ScI n0 w bs v pre A) (hn : n0 ≤ n) (hc : Hush n A B) : ScI n0 w bs v pre B :=
  ⟨hush_row hc h.box, own_kept h.own (fun _ _ => hush_row hc), hush_row hc h.size, hush_row hc h.last, h.rise, h.part, fun x hx => ⟨(h.got x hx).1, own_kept (h.got x hx).2.1 (fun _ _ => hush_row hc), own_kept (h.got x hx).2.2 (fun _ _ => hush_row hc)⟩,
    ⟨hc.os.trans h.bel.os, hc.tape.trans h.bel.tape, hc.output.trans h.bel.output, Nat.le_trans h.bel.size hc.size, fun k hk => (hc.low k (by omega)).trans (h.bel.block k hk)⟩⟩
theorem told_hush {base n : Nat} {bs : List UInt8} {pre : List Hd} {x : Hd} {A B : World} (h : Told base bs pre x A) (hc : Hush n A B) : Told base bs pre x B :=
  ⟨h.1, h.2.1, ⟨own_kept h.2.2.1.1 (fun _ _ => hush_row hc), own_kept h.2.2.1.2 (fun _ _ => hush_row hc)⟩, h.2.2.2⟩

theorem kpI_right {n0 gb n : Nat} {A B C : World} (h : KpI n0 gb A B) (hc : Hush n B C) (hn : n0 ≤ n) : KpI n0 gb A C :=
  ⟨⟨hc.os.trans h.1.os, hc.tape.trans h.1.tape, hc.output.trans h.1.output, Nat.le_trans h.1.size hc.size, fun k hk => (hc.low k (by omega)).trans (h.1.block k hk)⟩, fun cs hr => hush_row hc (h.2 cs hr)⟩

/-- The frame of a round, behind the assignment of its variables. -/
def actS (n0 : Nat) (a : Option Addr) (len cap g : Nat) (x : Hd) : Act :=
  { tmps := #[.slice a len cap, undef, .slice none 0 0, .int .i64 0, .bool false, .pointer (some ⟨n0, 0, none⟩), .pointer (some ⟨n0 + 1, 0, none⟩), .pointer (some ⟨n0 + 1 + 1, 0, none⟩), .pointer (some ⟨g, 0, none⟩), .int .i64 (x.2 : Int), .slice a len cap, .func (.func 57) #[] #[.pointer (some ⟨n0 + 1 + 1 + 1, 0, none⟩)], .agg (rcF x.1), .int .i64 (x.2 : Int), undef, undef, undef, undef, undef, undef, undef, undef, undef, undef, undef, undef, undef, undef, undef, undef, undef], defers := [] }
def AcS (n0 : Nat) (w : World) (a : Option Addr) (len cap : Nat) (bs : List UInt8) (pre : List Hd) (x : Hd) (c : Act) (W : World) : Prop :=
  ∃ g v, c = actS n0 a len cap g x ∧ RowAt W g 28 (rcF x.1) ∧ ScI n0 w bs v pre W ∧ Told n0 bs pre x W ∧ v.ownBlock ≠ some g

theorem ScI.drew {n0 : Nat} {w : World} {bs : List UInt8} {v : Value} {pre : List Hd} {A : World} (h : ScI n0 w bs v pre A) : ScI n0 w bs v pre A.drew :=
  ⟨h.box, h.own, h.size, h.last, h.rise, h.part, h.got, below_drew h.bel⟩
theorem scan_fin {n0 : Nat} {w W X : World} {bs : List UInt8} {v : Value} {xs : List Hd} {mm len : Nat} (hn : n0 = w.heap.size) (h : ScI n0 w bs v xs W) (he : scanL bs = (recs xs, mm)) (hc : Hush n0 W.drew X) :
    ∃ u ms, Ending.returned (.tuple #[v, .int .i64 (mm : Int), .bool ((mm : Int) == (len : Int))]) = .returned (.tuple #[u, .int .i64 ((scanL bs).2 : Int), .bool (decide ((scanL bs).2 = len))]) ∧ ms.map (·.1) = (scanL bs).1 ∧
      X.ownsRow w.heap.size 28 14 u ms.length (flatR ms) ∧ (∀ m ∈ ms, m.1.fits ∧ GotIn w.heap.size X m.1 m.2.1 m.2.2) ∧ Below w.heap.size w X := by
  subst hn
  have h2 := h.drew.hush (Nat.le_refl _) hc
  refine ⟨v, xs.map (·.1), ?_, ?_, ?_, fun m hm => ?_, h2.bel⟩
  · rw [he]
    have e : ((mm : Int) == (len : Int)) = decide (mm = len) := by
      rw [Bool.eq_iff_iff]
      simp
      omega
    rw [e]
  · rw [he]
    simp [recs]
  · rw [List.length_map]
    exact h2.own
  · obtain ⟨x, hx, rfl⟩ := List.mem_map.1 hm
    exact h2.got x hx

set_option maxRecDepth 100000 in
set_option maxHeartbeats 6400000 in
theorem scan_any (a : Option Addr) (len cap : Nat) (bs : List UInt8) (w : World) (hB : IsB w a len bs) (hl : len ≤ 140737488355) (hcap : len ≤ cap) :
    Calls Try.prog 16 #[.slice a len cap] w fun e w' => ∃ v ms, e = .returned (.tuple #[v, .int .i64 ((scanL bs).2 : Int), .bool (decide ((scanL bs).2 = len))]) ∧ ms.map (·.1) = (scanL bs).1 ∧
      w'.ownsRow w.heap.size 28 14 v ms.length (flatR ms) ∧ (∀ m ∈ ms, m.1.fits ∧ GotIn w.heap.size w' m.1 m.2.1 m.2.2) ∧ Below w.heap.size w w' := by
  have HB := hide hB
  clear hB
  refine (callsIn_wide (n := 3)).1 ?_
  refine callsIn_of_wp_marks Try.func16 rfl trivial ?_ rfl
  simp only [Try.ntmps16, List.size_toArray, List.length_cons, List.length_nil, Nat.reduceAdd, Nat.reduceSub, Array.replicate_succ, Array.replicate_zero, List.push_toArray, List.append_toArray, List.nil_append, List.cons_append]
  gi_wp2_with fail
  refine ⟨trivial, (callsIn_wide.2 (frames_any a len cap _)).mono ?_⟩
  rintro e w4 ⟨rfl, hw4⟩
  have K3 := Keeps.three w 44 3 22 #[.slice none 0 0] #[.int .i64 0] #[.int .u64 0]
  have z3 : (((w.alloc (.cells #[.slice none 0 0] 44)).alloc (.cells #[.int .i64 0] 3)).alloc (.cells #[.int .u64 0] 22)).heap.size = w.heap.size + 1 + 1 + 1 := by simp
  rw [z3]
  have K4 := K3.more ((Below.refl _ _).alloc (Nat.le_refl _) (.cells #[.slice a len cap] 30)) (RowAt.new _ 30 #[.slice a len cap])
  rw [z3, ← hw4] at K4
  have HZ4 : Hid (w4.heap.size = w.heap.size + 1 + 1 + 1 + 1) := by rw [hw4, World.size_alloc, z3]; exact rfl
  have HK4 := hide K4
  clear K3 K4 z3 hw4
  obtain ⟨n0, hn0⟩ : ∃ n0, n0 = w.heap.size := ⟨_, rfl⟩
  rw [← hn0] at HK4 HZ4
  rw [← hn0]
  have HN0 := hide hn0
  clear hn0
  gi_wp2
  have hz4 : n0 ≤ w4.heap.size := by
    rw [HZ4.out]
    omega
  have hz5 : n0 + 1 + 1 + 1 < w4.heap.size := by
    rw [HZ4.out]
    omega
  refine wpIn_range_told (α := Hd) rfl (by decide) (gf := 57) (lb := #[.pointer (some ⟨n0 + 1 + 1 + 1, 0, none⟩)]) rfl trivial (enters_of Try.func57 (by kernel_rfl) rfl)
    encH (fun _ => rfl) 0 (Told n0 bs) (fun xs _ => Over bs xs) (KpI n0 (n0 + 1 + 1 + 1)) (fun pre W => ∃ v, ScI n0 w bs v pre W)
    (fun pre W => ∃ v, ScI n0 w bs v pre W ∧ ∃ y, bs = framesB (recs pre) ++ y ∧ (headF y).1.l ≤ lastL 0 (recs pre)) (AcS n0 w a len cap bs)
    (fun A B C h hc => kpI_right h hc hz4) (fun A B C h k => ⟨h.1.trans k.1, fun cs hr => k.2 cs (h.2 cs hr)⟩)
    (fun s A B hc h => h.imp fun v hv => hv.hush hz4 hc) (fun s A B hc h => h.imp fun v hv => ⟨hv.1.hush hz4 hc, hv.2⟩)
    (fun s x c A B hc h => by
      obtain ⟨g, v, h1, h2, h3, h4, h5⟩ := h
      exact ⟨g, v, h1, hush_row hc h2, h3.hush hz4 hc, told_hush h4 hc, h5⟩)
    (fun l J Jx W hb hJ hY h0 => iter_any l 2 (n0 + 1 + 1 + 1) n0 a len cap bs (by decide) (by omega) hcap J Jx hJ hY W (fun W' h => HB.out.below ((HK4.out.2.trans (hb.mono HK4.out.2.size)).trans (HN0.out ▸ h))) (Nat.le_trans hz4 hb.size) (HK4.out.1.1.below hb hz5) h0)
    ⟨.slice none 0 0, ?_⟩ (fun _ _ _ _ h => h) ?assign ?body ?done ?stop
  · refine ⟨HK4.out.1.2.2.2.1, World.ownsRow_nil _ _ _ _, HK4.out.1.2.2.1, HK4.out.1.2.1, trivial, ⟨bs, rfl⟩, fun x hx => (nomatch hx), ?_⟩
    rw [HN0.out]
    exact HK4.out.2
  case assign =>
    rintro l pre x W K ⟨v, hi⟩ hg hK
    obtain ⟨hr, hf, hgot, hend, hpart⟩ := hg
    obtain ⟨av, cv, hav⟩ := own_shape5 hgot.1
    obtain ⟨au, cu, hau⟩ := own_shape5 hgot.2
    have HI := hide hi
    have HTO : Hid (Told n0 bs pre x W) := ⟨hr, hf, hgot, hend, hpart⟩
    have HKK := hide hK
    clear hi hr hf hgot hend hpart hK
    have h1c : (rcF x.1).all (·.oneCell') = true := by
      unfold rcF
      rw [hav, hau]
      simp [rcA, Value.oneCell']
    clear hav hau
    obtain ⟨A, hA⟩ : ∃ A, A = rcF x.1 := ⟨_, rfl⟩
    have hsz : A.size = 14 := by rw [hA]; rfl
    unfold encH
    rw [← hA] at h1c ⊢
    have HA := hide hA
    have HSZ := hide hsz
    have H1C := hide h1c
    clear hA hsz h1c
    gi_wp2_with (refine wpListIn_store_at rfl 28 (.tmp 8) (.tmp 12) rfl W.heap.size zeroA A rfl rfl (RowAt.new W 28 zeroA) (by rw [HSZ.out]; exact infoRc) (by rw [HSZ.out]; rfl) H1C.out ?_)
    intro w2 hr2 hg2
    have hb2 : Below W.heap.size W w2 := ((Below.refl W.heap.size W).alloc (Nat.le_refl _) (.cells zeroA 28)).grown hg2 (by simp) (fun k hk => by cases hk; exact Nat.le_refl _)
    have HC := hide (Hush.of_below (n := n0) hb2 (by have := HI.out.box.lt; omega))
    have hlt : n0 ≤ W.heap.size := by have := HI.out.box.lt; omega
    gi_wp2
    refine HKK.out _ w2 ⟨hb2.size, fun k o _ hk _ => (hb2.block k (Array.getElem?_eq_some_iff.1 hk).1).trans hk⟩ ⟨hb2.mono hlt, fun cs hr => hr.later hb2⟩ ⟨W.heap.size, v, ?_, ?_, HI.out.hush (Nat.le_refl _) HC.out, told_hush HTO.out HC.out, fun e => ?_⟩
    · unfold actS
      rw [HA.out]
    · rw [← HA.out]
      exact hr2
    · have := (HI.out.own.lt _ e).2
      omega
  case body =>
    rintro l pre x c W ⟨g, v, rfl, hg, hi, ht, hne⟩
    obtain ⟨hr, hf, hgot, hend, hpart⟩ := ht
    obtain ⟨av, cv, hav⟩ := own_shape5 hgot.1
    obtain ⟨au, cu, hau⟩ := own_shape5 hgot.2
    obtain ⟨⟨r, va, vb⟩, k9⟩ := x
    simp only at hr hf hgot hend hpart hav hau
    subst hav hau
    have HTO : Hid (Told n0 bs pre ((r, .slice av r.ts.length cv, .slice au r.ds.length cu), k9) W) := ⟨hr, hf, hgot, hend, hpart⟩
    have HI := hide hi
    have HNE := hide hne
    have HG := hide hg
    have hcl := hg.cell 1 (.int .u64 (r.l : Int)) rfl
    have hlast := hi.last.cell 0 _ rfl
    have hrl : r.l < 18446744073709551616 := by have := hr.lm; unfold maxP at this; omega
    have hll := last_lt (recs pre) 0 hi.rise (by decide)
    clear hr hf hgot hend hpart hi hne hg
    generalize hLL : lastL 0 (recs pre) = ll at *
    have HLL := hide hLL
    clear hLL
    unfold actS
    dsimp only
    by_cases hle : r.l ≤ ll
    · gi_wp2
      obtain ⟨_, _, _, _, y2, hy2⟩ := HTO.out
      refine ⟨rfl, KeepsFrom.refl _ _, ⟨v, HI.out⟩, frameB r ++ y2, ?_, ?_⟩
      · rw [recs_snoc, framesB_snoc, List.append_assoc] at hy2
        exact hy2
      · rw [head_frame r HTO.out.1 y2, HLL.out]
        exact hle
    · obtain ⟨a9, c9, hv9⟩ := own_shape5 HI.out.own
      subst hv9
      have hcb := HI.out.box.cell 0 _ rfl
      obtain ⟨i0, hi, hz0, hz1, hz2⟩ := info_parts infoRc3
      have HPL : Hid (pre.length * 6 ≤ len) := by
        obtain ⟨_, _, _, _, y2, hy2⟩ := HTO.out
        have h1 := congrArg List.length hy2
        have h2 := framesB_long (recs pre)
        have h3 : (recs pre).length = pre.length := by simp [recs]
        rw [recs_snoc, framesB_snoc, List.length_append, List.length_append, HB.out.1] at h1
        unfold Hid
        omega
      have HWS : Hid (n0 ≤ W.heap.size) := by
        have := HI.out.box.lt
        unfold Hid
        omega
      gi_wp2_with (first | (refine wpListIn_load_at rfl 28 (.tmp 8) rfl g rfl #[.int .i64 r.k, .int .u64 (r.l : Int), .int .i64 r.t, .int .u64 (r.p : Int), .int .i64 r.c.k, .int .i64 r.c.pg, .int .i64 r.c.sl, .string r.c.o, .string r.c.n, .int .u64 (r.n : Int), .int .i64 r.s, .int .u64 (r.b : Int), .slice av r.ts.length cv, .slice au r.ds.length cu] HG.out _ Try.underlying28 rfl infoRc ?_) | (gi_at_builtin; refine wpListIn_append_own _ rfl (.tmp 18) (.tmp 20) 44 rfl n0 28 i0 (.agg zeroA) 14 160 Try.underlying44 hi hz0 hz1 hz2 rfl (by decide) _ pre.length _ rfl (HI.out.own.alloc _) ⟨W.heap.size, 0, none⟩ 1 1 (rcF (r, .slice av r.ts.length cv, .slice au r.ds.length cu)).toList rfl rfl (cells_new W 28 (rcF (r, .slice av r.ts.length cv, .slice au r.ds.length cu))) (by simp [rcF, rcA, Value.oneCell']) (by have := HPL.out; unfold maxLen; omega) (by have := HPL.out; omega) (by have := HWS.out; simp; omega) ?_))
      intro v' w1 hown' hgrow _
      obtain ⟨g', cap', rfl⟩ := ownsRow_succ hown'
      obtain ⟨hv1, hv2, hr2, hk2, hb2⟩ := Boxed.appended (t := 44) (v := .slice a9 pre.length c9) (W := W) HI.out.box (by decide) HI.out.own HWS.out (Nat.le_refl _) hown' hgrow
      have hc1 := hv1.cell
      have hf1 := hv1.frozen
      have HT : Hid (∀ k t cs, t ≠ 28 → t ≠ 44 → RowAt W k t cs → RowAt (w1.setCell ⟨n0, 0, none⟩ (.slice (some ⟨g', 0, none⟩) (pre.length + 1) cap')) k t cs) := fun k t cs h1 h2 hr => by
        have hr1 := hr.later ((Below.refl W.heap.size W).alloc (Nat.le_refl _) (.cells (rcF (r, .slice av r.ts.length cv, .slice au r.ds.length cu)) 28))
        have hr2 : RowAt w1 k t cs := (hgrow.block k hr1.lt (fun e => own_kind HI.out.own hr h1 e.symm)).trans hr1
        exact hr2.other _ _ (fun e => by
          subst e
          have := (show W.heap[_]? = _ from hr).symm.trans HI.out.box
          simp only [Option.some.injEq, Obj.cells.injEq] at this
          exact h2 this.2.1)
      have HGA : Hid (RowAt (w1.setCell ⟨n0, 0, none⟩ (.slice (some ⟨g', 0, none⟩) (pre.length + 1) cap')) g 28 (rcF (r, .slice av r.ts.length cv, .slice au r.ds.length cu))) := by
        have hr1 := HG.out.later ((Below.refl W.heap.size W).alloc (Nat.le_refl _) (.cells (rcF (r, .slice av r.ts.length cv, .slice au r.ds.length cu)) 28))
        have hr2 : RowAt w1 g 28 (rcF (r, .slice av r.ts.length cv, .slice au r.ds.length cu)) := (hgrow.block g hr1.lt (fun e => HNE.out e.symm)).trans hr1
        exact hr2.other _ _ (fun e => by
          subst e
          have := (show W.heap[_]? = _ from HG.out).symm.trans HI.out.box
          simp only [Option.some.injEq, Obj.cells.injEq] at this
          exact absurd this.2.1 (by decide))
      have HBA : Hid (RowAt (w1.setCell ⟨n0, 0, none⟩ (.slice (some ⟨g', 0, none⟩) (pre.length + 1) cap')) n0 44 #[.slice (some ⟨g', 0, none⟩) (pre.length + 1) cap'] ∧ (w1.setCell ⟨n0, 0, none⟩ (.slice (some ⟨g', 0, none⟩) (pre.length + 1) cap')).ownsRow n0 28 14 (.slice (some ⟨g', 0, none⟩) (pre.length + 1) cap') (pre.length + 1) (flatR (pre.map (·.1)) ++ (rcF (r, .slice av r.ts.length cv, .slice au r.ds.length cu)).toList) ∧ KeepsOthers W (w1.setCell ⟨n0, 0, none⟩ (.slice (some ⟨g', 0, none⟩) (pre.length + 1) cap')) ∧ Below n0 W (w1.setCell ⟨n0, 0, none⟩ (.slice (some ⟨g', 0, none⟩) (pre.length + 1) cap'))) := ⟨hv2, hr2, hk2, hb2⟩
      clear hv1 hv2 hr2 hk2 hb2 hown' hgrow hcb hcl hlast
      gi_wp2
      refine gen_w (fun A1 => Hid (∀ k t cs, t ≠ 28 → t ≠ 44 → RowAt W k t cs → RowAt A1 k t cs) ∧ Hid (RowAt A1 g 28 (rcF (r, .slice av r.ts.length cv, .slice au r.ds.length cu))) ∧ Hid (RowAt A1 n0 44 #[.slice (some ⟨g', 0, none⟩) (pre.length + 1) cap'] ∧ A1.ownsRow n0 28 14 (.slice (some ⟨g', 0, none⟩) (pre.length + 1) cap') (pre.length + 1) (flatR (pre.map (·.1)) ++ (rcF (r, .slice av r.ts.length cv, .slice au r.ds.length cu)).toList) ∧ KeepsOthers W A1 ∧ Below n0 W A1)) ⟨HT, HGA, HBA⟩ ?_
      clear HT HGA HBA hc1 hf1
      rintro A1 ⟨HT, HGA, HBA⟩
      have HS := hide (HT.out _ _ _ (show (3 : TypeId) ≠ 28 by decide) (by decide) HI.out.size)
      have HL := hide (HT.out _ _ _ (show (22 : TypeId) ≠ 28 by decide) (by decide) HI.out.last)
      have c1 := HGA.out.cell 1 (.int .u64 (r.l : Int)) rfl
      have c2 := HS.out.cell 0 _ rfl
      have f2 := HS.out.free 0
      have c3 := HL.out.cell 0 _ rfl
      have f3 := HL.out.free 0
      have n1 : ¬ g = n0 + 1 := fun e => by
        subst e
        have := (show A1.heap[_]? = _ from HGA.out).symm.trans HS.out
        simp only [Option.some.injEq, Obj.cells.injEq] at this
        exact absurd this.2.1 (by decide)
      have n2 : ¬ g = n0 + 1 + 1 := fun e => by
        subst e
        have := (show A1.heap[_]? = _ from HGA.out).symm.trans HL.out
        simp only [Option.some.injEq, Obj.cells.injEq] at this
        exact absurd this.2.1 (by decide)
      have hmix : Try.prog.follows .mixedOrders = true := by kernel_rfl
      have HFIN : Hid (KeepsFrom w4.heap.size W ((A1.setCell ⟨n0 + 1, 0, none⟩ (.int .i64 (k9 : Int))).setCell ⟨n0 + 1 + 1, 0, none⟩ (.int .u64 (r.l : Int))).drew ∧ KpI n0 (n0 + 1 + 1 + 1) W ((A1.setCell ⟨n0 + 1, 0, none⟩ (.int .i64 (k9 : Int))).setCell ⟨n0 + 1 + 1, 0, none⟩ (.int .u64 (r.l : Int))).drew ∧ ∃ v, ScI n0 w bs v (pre ++ [((r, .slice av r.ts.length cv, .slice au r.ds.length cu), k9)]) ((A1.setCell ⟨n0 + 1, 0, none⟩ (.int .i64 (k9 : Int))).setCell ⟨n0 + 1 + 1, 0, none⟩ (.int .u64 (r.l : Int))).drew) := by
        have hle' : ll < r.l := by omega
        have hpt := HTO.out.2.2.2.2
        have hS1 : RowAt (A1.setCell ⟨n0 + 1, 0, none⟩ (.int .i64 (k9 : Int))) (n0 + 1) 3 #[.int .i64 (k9 : Int)] := HS.out.set 0 _
        have hO : ∀ k t cs, k ≠ n0 + 1 → k ≠ n0 + 1 + 1 → RowAt A1 k t cs → RowAt ((A1.setCell ⟨n0 + 1, 0, none⟩ (.int .i64 (k9 : Int))).setCell ⟨n0 + 1 + 1, 0, none⟩ (.int .u64 (r.l : Int))).drew k t cs := fun k t cs h1 h2 hr => (hr.other _ _ h1).other _ _ h2
        have hOT : ∀ k t cs, t ≠ 3 → t ≠ 22 → RowAt A1 k t cs → RowAt ((A1.setCell ⟨n0 + 1, 0, none⟩ (.int .i64 (k9 : Int))).setCell ⟨n0 + 1 + 1, 0, none⟩ (.int .u64 (r.l : Int))).drew k t cs := fun k t cs h1 h2 hr => hO k t cs (fun e => by
            subst e
            have := (show A1.heap[_]? = _ from hr).symm.trans HS.out
            simp only [Option.some.injEq, Obj.cells.injEq] at this
            exact h1 this.2.1) (fun e => by
            subst e
            have := (show A1.heap[_]? = _ from hr).symm.trans HL.out
            simp only [Option.some.injEq, Obj.cells.injEq] at this
            exact h2 this.2.1) hr
        have hbB : Below n0 W ((A1.setCell ⟨n0 + 1, 0, none⟩ (.int .i64 (k9 : Int))).setCell ⟨n0 + 1 + 1, 0, none⟩ (.int .u64 (r.l : Int))).drew := below_drew ((HBA.out.2.2.2.setCell (p := ⟨n0 + 1, 0, none⟩) (by show n0 ≤ n0 + 1; omega) _).setCell (p := ⟨n0 + 1 + 1, 0, none⟩) (by show n0 ≤ n0 + 1 + 1; omega) _)
        refine ⟨(((HBA.out.2.2.1.trans (KeepsOthers.setCell _ _ _)).trans (KeepsOthers.setCell _ _ _)).trans (KeepsOthers.drew _)).from _, ⟨hbB, fun cs hr => ?_⟩, .slice (some ⟨g', 0, none⟩) (pre.length + 1) cap', ?_⟩
        · exact hOT _ _ _ (by decide) (by decide) (HT.out _ _ _ (show (30 : TypeId) ≠ 28 by decide) (by decide) hr)
        · have hKO : ∀ e, e ≠ 28 → e ≠ 44 → e ≠ 3 → e ≠ 22 → ∀ k cs, RowAt W k e cs → RowAt ((A1.setCell ⟨n0 + 1, 0, none⟩ (.int .i64 (k9 : Int))).setCell ⟨n0 + 1 + 1, 0, none⟩ (.int .u64 (r.l : Int))).drew k e cs := fun e h1 h2 h3 h4 k cs hr => hOT _ _ _ h3 h4 (HT.out _ _ _ h1 h2 hr)
          refine ⟨hOT _ _ _ (by decide) (by decide) HBA.out.1, ?_, ?_, ?_, ?_, ?_, ?_, HI.out.bel.trans hbB⟩
          · have ho := own_kept HBA.out.2.1 (fun k cs hr => hOT k 28 cs (by decide) (by decide) hr)
            rw [List.length_append, List.map_append, flatR_append]
            exact ho
          · have hq := HTO.out.2.2.2.1
            simp only at hq
            rw [← hq]
            exact hS1.other _ _ (by show n0 + 1 ≠ n0 + 1 + 1; omega)
          · rw [recs_snoc, last_snoc]
            exact (HL.out.other ⟨n0 + 1, 0, none⟩ (.int .i64 (k9 : Int)) (by show n0 + 1 + 1 ≠ n0 + 1; omega)).set 0 (.int .u64 (r.l : Int))
          · rw [recs_snoc, rise_snoc]
            exact ⟨HI.out.rise, HTO.out.1, by rw [HLL.out]; exact hle'⟩
          · exact hpt
          · intro z hz
            rcases List.mem_append.1 hz with hz | hz
            · exact ⟨(HI.out.got z hz).1, own_kept (HI.out.got z hz).2.1 (hKO _ (by decide) (by decide) (by decide) (by decide)), own_kept (HI.out.got z hz).2.2 (hKO _ (by decide) (by decide) (by decide) (by decide))⟩
            · obtain rfl := List.mem_singleton.1 hz
              exact ⟨HTO.out.2.1, own_kept HTO.out.2.2.1.1 (hKO _ (by decide) (by decide) (by decide) (by decide)), own_kept HTO.out.2.2.1.2 (hKO _ (by decide) (by decide) (by decide) (by decide))⟩
      gi_region_with_o (fail)
      all_goals exact HFIN.out
  case done =>
    rintro D xs W hD ⟨y, hy, he⟩ ⟨v, hi⟩ hK
    obtain ⟨a9, c9, hv9⟩ := own_shape5 hi.own
    subst hv9
    have c1 := hi.box.cell 0 _ rfl
    have c2 := hi.size.cell 0 _ rfl
    have HI := hide hi
    have HEN := hide (scan_end hy hi.rise (.inl he))
    have HKK := hide hK
    have HDD := hide hD
    clear hi hy he hK hD
    generalize hmm : (framesB (recs xs)).length = mm at *
    have HMM := hide hmm
    clear hmm
    gi_wp2
    gi_region
    gi_wp2
    refine ⟨by simp, .inl ⟨_, _, rfl, run_takeDeferred HKK.out, ?_⟩⟩
    refine ⟨_, results_tmp3 rfl _ _ _, ?_⟩
    exact scan_fin HN0.out HI.out HEN.out (Hush.put _ (Nat.le_trans hz4 HDD.out) HKK.out rfl)
  case stop =>
    rintro D xs W hD ⟨v, hi, y, hy, he⟩ hK
    obtain ⟨a9, c9, hv9⟩ := own_shape5 hi.own
    subst hv9
    have c1 := hi.box.cell 0 _ rfl
    have c2 := hi.size.cell 0 _ rfl
    have HI := hide hi
    have HEN := hide (scan_end hy hi.rise (.inr he))
    have HKK := hide hK
    have HDD := hide hD
    clear hi hy he hK hD
    generalize hmm : (framesB (recs xs)).length = mm at *
    have HMM := hide hmm
    clear hmm
    gi_wp2
    gi_region
    gi_wp2
    refine ⟨by simp, .inl ⟨_, _, rfl, run_takeDeferred HKK.out, ?_⟩⟩
    refine ⟨_, results_tmp3 rfl _ _ _, ?_⟩
    exact scan_fin HN0.out HI.out HEN.out (Hush.put _ (Nat.le_trans hz4 HDD.out) HKK.out rfl)

def msR (ms : List (Rec × Value × Value)) : List Rec := ms.map (·.1)
theorem msR_snoc (ms : List (Rec × Value × Value)) (m : Rec × Value × Value) : msR (ms ++ [m]) = msR ms ++ [m.1] := by simp [msR]
/-- What Scan answers. -/
def ScanAns (w : World) (bs : List UInt8) (len : Nat) (e : Ending) (w' : World) : Prop :=
  ∃ v ms, e = .returned (.tuple #[v, .int .i64 ((scanL bs).2 : Int), .bool (decide ((scanL bs).2 = len))]) ∧ msR ms = (scanL bs).1 ∧
    w'.ownsRow w.heap.size 28 14 v ms.length (flatR ms) ∧ (∀ m ∈ ms, m.1.fits ∧ GotIn w.heap.size w' m.1 m.2.1 m.2.2) ∧ Below w.heap.size w w'
/-- THE CONTRACT. -/
theorem scan7_any (a : Option Addr) (len cap : Nat) (bs : List UInt8) (w : World) (hB : IsB w a len bs) (hl : len ≤ 140737488355) (hcap : len ≤ cap) :
    Calls Try.prog 16 #[.slice a len cap] w (ScanAns w bs len) := scan_any a len cap bs w hB hl hcap
end Go.Proofs.Ytgobegpmojkhaaa

/-
  The contract of quaysidelaw07.awake.
-/
namespace Go.Proofs.Ytgobegpmojkhaaa
open Go.RowKit
set_option linter.unusedVariables false

theorem aw_put : putL awR = frameB awR := by unfold putL; rw [if_pos (rightB_yes awR_right)]
theorem aw_len : (frameB awR).length = 27 := by rw [frameB_length, awB]; rfl
theorem aw_scan : scanL (frameB awR) = ([awR], 27) := by
  have h := scan_end (bs := frameB awR) (y := []) (rs := [awR]) (by simp [framesB]) ⟨awR_right, by decide, trivial⟩ (.inl (by unfold headF; rw [if_pos (.inl (by decide))]; decide))
  have e : framesB [awR] = frameB awR := by simp [framesB]
  rw [e, aw_len] at h
  exact h

set_option maxRecDepth 8000 in
set_option maxHeartbeats 1600000 in
theorem awake7_any (w : World) : Calls Try.prog 9 #[] w fun e w' => e = .returned (.bool true) ∧ Below w.heap.size w w' := by
  have HP := hide (fun w => fput_ok awR _ _ w awR_right awR_fits (awR_in w))
  rw [awA, aw_len] at HP
  unfold awL at HP
  have HS := hide (fun a cap w hB hc => scan7_any a 27 cap (frameB awR) w hB (by decide) hc)
  unfold ScanAns at HS
  rw [aw_scan] at HS
  go_enter Try.func9, Try.ntmps9
  go_wp2_with fail
  refine (HP.out _).mono ?_
  rintro e w1 ⟨v1, rfl, hown1, hb1⟩
  obtain ⟨a1, c1, rfl, hc1, hB1⟩ := shape_isB hown1
  have HB1 := hide hB1
  have HD1 := hide hb1
  clear hown1 hB1 hb1 HP
  go_wp2_with fail
  refine (HS.out a1 c1 w1 HB1.out hc1).mono ?_
  rintro e w2 ⟨v2, ms, rfl, hms, hown2, -, hb2⟩
  have d2 := HD1.out.trans (hb2.mono HD1.out.size)
  have hl : ms.length = 1 := by
    have := congrArg List.length hms
    simpa [msR] using this
  obtain ⟨a2, c2, rfl⟩ := own_shape5 hown2
  rw [hl]
  clear hms hown2 hb2 hl HS HD1 HB1
  simp only [decide_true]
  go_wp2
  go_ret
  exact ⟨rfl, d2⟩
end Go.Proofs.Ytgobegpmojkhaaa

/-
  The contracts of quaysideref02's run, Of and Seal.
-/
namespace Go.Proofs.Ytgobegpmojkhaaa
open Go.RowKit
set_option linter.unusedVariables false

theorem bit_form (s : ByteArray) (j : Nat) (h : j / 8 < s.size) : (IntKind.u64.wrap (s[j / 8].toNat : Int) / 2 ^ (j % 8)).tmod 2 = ((bitAt s.data.toList j).toNat : Int) := by
  have hb : s[j / 8].toNat < 256 := s[j / 8].toNat_lt
  have e : IntKind.u64.wrap (s[j / 8].toNat : Int) = (s[j / 8].toNat : Int) := by rw [IntKind.wrap_u64]; omega
  rw [e, bitAt, getD_str s (j / 8) h, bit_mod]
  have e2 : (s[j / 8].toNat : Int) / 2 ^ (j % 8) = ((s[j / 8].toNat / 2 ^ (j % 8) : Nat) : Int) := by simp
  rw [e2]
  generalize s[j / 8].toNat / 2 ^ (j % 8) = q
  rw [Int.tmod_eq_emod_of_nonneg (by omega)]
  omega

theorem rr_yes (s : ByteArray) (q j : Nat) (hq : q < 2 ^ 32) (h : j / 8 < s.size) (ht : ((q : Int) % 2 != (IntKind.u64.wrap (s[j / 8].toNat : Int) / 2 ^ (j % 8)).tmod 2) = true) :
    bits .xor .u64 ((q : Int) / 2) 3988292384 = ((bst q (bitAt s.data.toList j) : Nat) : Int) := by
  rw [bit_form s j h, bne_iff_ne] at ht
  have e : ((q : Int) / 2) = ((q / 2 : Nat) : Int) := by omega
  have e2 : (3988292384 : Int) = ((3988292384 : Nat) : Int) := rfl
  rw [e, e2, u64_xor_nat (q / 2) 3988292384 (by omega) (by omega), bst_if, if_neg (by omega)]
  rfl

theorem rr_no (s : ByteArray) (q j : Nat) (h : j / 8 < s.size) (ht : ((q : Int) % 2 != (IntKind.u64.wrap (s[j / 8].toNat : Int) / 2 ^ (j % 8)).tmod 2) = false) :
    (q : Int) / 2 = ((bst q (bitAt s.data.toList j) : Nat) : Int) := by
  rw [bit_form s j h, bne_eq_false_iff_eq] at ht
  rw [bst_if, if_pos (by omega)]
  omega

set_option maxRecDepth 4000 in
set_option maxHeartbeats 400000 in
theorem rrun_any (s : ByteArray) (r : Nat) (w : World) (hs : s.size ≤ 140737488355328) (hr : r < 2 ^ 32) :
    Calls Try.prog 79 #[.int .u64 r, .string s] w fun e w' => e = .returned (.int .u64 (crun r s.data.toList : Nat)) ∧ w = w' := by
  go_enter Try.func79, Try.ntmps79
  go_wp2
  go_loop [0, 5] (fun q i => ∃ j : Nat, j ≤ 8 * s.size ∧ i = .int .i64 j ∧ q = .int .u64 (bruns r (bitAt s.data.toList) j : Nat)) (fun _ i => 8 * s.size - (intOf i).toNat)
  case atStart => exact ⟨0, Nat.zero_le _, rfl, rfl⟩
  case round =>
    obtain ⟨j, hj, rfl, rfl⟩ := hrel
    by_cases hlt : j < 8 * s.size
    · have hq := bruns_lt r (bitAt s.data.toList) hr j
      have hjs : j / 8 < s.size := by omega
      go_wp2
      · go_round
        case rel => exact ⟨j + 1, by omega, by go_num, congrArg (Value.int .u64) (rr_yes s _ j hq hjs (by assumption))⟩
        case measure => simp [intOf]; omega
      · go_round
        case rel => exact ⟨j + 1, by omega, by go_num, congrArg (Value.int .u64) (rr_no s _ j hjs (by assumption))⟩
        case measure => simp [intOf]; omega
    · go_wp2
      go_ret
      obtain rfl : j = 8 * s.size := by omega
      have e := crun_bruns r s.data.toList
      rw [data_length] at e
      rw [e]
      exact ⟨rfl, rfl⟩

set_option maxRecDepth 4000 in
set_option maxHeartbeats 400000 in
theorem rof_any (s : ByteArray) (w : World) (hs : s.size ≤ 140737488355328) :
    Calls Try.prog 63 #[.string s] w fun e w' => e = .returned (.int .u32 (crc s.data.toList : Nat)) ∧ w = w' := by
  have hc := crun_lt s.data.toList 4294967295 (by decide)
  have R := rrun_any s 4294967295 w hs (by decide)
  have HR := hide R
  clear R
  go_enter Try.func63, Try.ntmps63
  go_wp2_with fail
  refine HR.out.mono ?_
  rintro e w1 ⟨rfl, rfl⟩
  go_wp2
  go_ret
  exact ⟨congrArg (fun x => Ending.returned (Value.int .u32 x)) (ones_subI _ hc), rfl⟩

set_option maxRecDepth 4000 in
set_option maxHeartbeats 400000 in
theorem rseal_any (s : ByteArray) (w : World) (hs : s.size ≤ 140737488355328) :
    Calls Try.prog 46 #[.string s] w fun e w' => e = .returned (.string ⟨(s.data.toList ++ leB (crc s.data.toList)).toArray⟩) ∧ Below w.heap.size w w' := by
  have hx := crc_lt s.data.toList
  have R := rof_any s w hs
  obtain ⟨x, ex⟩ : ∃ x, x = crc s.data.toList := ⟨_, rfl⟩
  rw [← ex] at R hx
  rw [← ex]
  have HR := hide R
  clear R ex
  go_enter Try.func46, Try.ntmps46
  go_wp2_with fail
  refine HR.out.mono ?_
  rintro e w1 ⟨rfl, rfl⟩
  go_wp2
  go_loopw [3, 4, 5] (fun v o i wr => ∃ j : Nat, j ≤ 4 ∧ i = .int .i64 j ∧ v = .int .u32 (sh x j : Nat) ∧ o = .string ⟨(s.data.toList ++ (leB x).take j).toArray⟩ ∧ Below w.heap.size w wr) (fun _ _ i _ => 4 - (intOf i).toNat)
  case atStart => exact ⟨0, Nat.zero_le _, rfl, by rw [sh_zero], by rw [List.take_zero, List.append_nil, mk_self], Below.refl _ _⟩
  case round =>
    obtain ⟨j, hj, rfl, rfl, rfl, hbr⟩ := hrel
    have hsh : sh x j < 4294967296 := Nat.lt_of_le_of_lt (sh_le x j) hx
    by_cases hlt : j < 4
    · have hcv := run_oneByte (P := Try.prog) wr 30 9 5 Try.underlying30 Try.underlying5 Try.underlying9 (((sh x j : Nat) : Int) % 256) (UInt8.ofNat (sh x j)) (by rw [toNat_ofNat]; omega)
      have hln : ByteArray.size ⟨(s.data.toList ++ (leB x).take j).toArray⟩ + 1 ≤ 9223372036854775807 := by
        have e := size_mk (s.data.toList ++ (leB x).take j)
        rw [List.length_append, data_length, List.length_take] at e
        omega
      have hl1 : ByteArray.size ⟨#[UInt8.ofNat (sh x j)]⟩ = 1 := rfl
      go_wp2
      go_roundw
      case rel => exact ⟨j + 1, by omega, by go_num, by rw [← sh_succ x j]; go_num, by rw [leB_take x j hlt, ← List.append_assoc]; exact congrArg Value.string (mk_append _ [UInt8.ofNat (sh x j)]), hbr.alloc hbr.size _⟩
      case measure => simp [intOf]; omega
    · go_wp2
      go_ret
      obtain rfl : j = 4 := by omega
      exact ⟨rfl, hbr⟩
end Go.Proofs.Ytgobegpmojkhaaa

/-
  The contracts of quaysideref02's functions: the document's answer, by definition.
-/
namespace Go.Proofs.Ytgobegpmojkhaaa
open Go.RowKit
set_option linter.unusedVariables false

set_option maxRecDepth 4000 in
set_option maxHeartbeats 400000 in
theorem ropen_short (s : ByteArray) (w : World) (h : (s.size : Int) < 4) :
    Calls Try.prog 32 #[.string s] w fun e w' => e = .returned (.tuple #[.string ⟨#[]⟩, .int .i64 4]) ∧ Below w.heap.size w w' := by
  go_enter Try.func32, Try.ntmps32
  go_wp2
  go_ret2
  exact ⟨rfl, Below.refl _ _⟩

set_option maxRecDepth 4000 in
set_option maxHeartbeats 400000 in
theorem ropen_yes (s : ByteArray) (L : List UInt8) (w : World) (hs : s.size ≤ 140737488355328) (h : ¬ (s.size : Int) < 4) (e : s.extract 0 (s.size - 4) = ⟨L.toArray⟩)
    (HR : Hid (Calls Try.prog 46 #[.string ⟨L.toArray⟩] w fun e w' => e = .returned (.string s) ∧ Below w.heap.size w w')) :
    Calls Try.prog 32 #[.string s] w fun e w' => e = .returned (.tuple #[.string ⟨L.toArray⟩, .int .i64 0]) ∧ Below w.heap.size w w' := by
  go_enter Try.func32, Try.ntmps32
  go_wp2_with fail
  refine HR.out.mono ?_
  rintro e w1 ⟨rfl, hb⟩
  go_wp2
  go_ret2
  exact ⟨rfl, hb⟩

set_option maxRecDepth 4000 in
set_option maxHeartbeats 400000 in
theorem ropen_no (s x : ByteArray) (L : List UInt8) (w : World) (hs : s.size ≤ 140737488355328) (h : ¬ (s.size : Int) < 4) (e : s.extract 0 (s.size - 4) = ⟨L.toArray⟩) (hne : (x.toList == s.toList) = false)
    (HR : Hid (Calls Try.prog 46 #[.string ⟨L.toArray⟩] w fun e w' => e = .returned (.string x) ∧ Below w.heap.size w w')) :
    Calls Try.prog 32 #[.string s] w fun e w' => e = .returned (.tuple #[.string ⟨#[]⟩, .int .i64 3]) ∧ Below w.heap.size w w' := by
  go_enter Try.func32, Try.ntmps32
  go_wp2_with fail
  refine HR.out.mono ?_
  rintro e w1 ⟨rfl, hb⟩
  go_wp2
  go_ret2
  exact ⟨rfl, hb⟩

theorem mk_list (s : ByteArray) (l : List UInt8) (h : l = s.data.toList) : (⟨l.toArray⟩ : ByteArray) = s := by
  subst h
  exact mk_self s

theorem ne_list (s : ByteArray) (l : List UInt8) (h : l ≠ s.data.toList) : ((⟨l.toArray⟩ : ByteArray).toList == s.toList) = false := by
  rw [beq_eq_false_iff_ne]
  intro e
  apply h
  have e1 : ∀ b : ByteArray, b.toList = b.data.toList := fun b => ByteArray.toList_eq b
  rw [e1, e1] at e
  exact e

/-- THE CONTRACT. -/
theorem ropen_any (s : ByteArray) (w : World) (hs : s.size ≤ 140737488355328) :
    Calls Try.prog 32 #[.string s] w fun e w' => e = .returned (.tuple #[.string ⟨(openS s.data.toList).1.toArray⟩, .int .i64 (openS s.data.toList).2]) ∧ Below w.heap.size w w' := by
  have hd := data_length s
  by_cases h : s.size < 4
  · rw [openS_short _ (by omega)]
    exact ropen_short s w (by omega)
  · have e := extract_eq s 0 (s.size - 4) (by omega)
    rw [Nat.zero_add, List.drop_zero] at e
    have hz := size_mk (s.data.toList.take (s.size - 4))
    rw [List.length_take] at hz
    have R := rseal_any ⟨(s.data.toList.take (s.size - 4)).toArray⟩ w (by omega)
    by_cases h2 : leN (s.data.toList.drop (s.data.toList.length - 4)) = crc (s.data.toList.take (s.data.toList.length - 4))
    · have h3 := (seal_eq_iff s.data.toList (by omega)).2 h2
      rw [openS_ok _ (by omega) h2]
      rw [hd] at h3 ⊢
      rw [mk_list s _ h3] at R
      exact ropen_yes s _ w hs (by omega) e R
    · have h3 : ¬ _ := fun x => h2 ((seal_eq_iff s.data.toList (by omega)).1 x)
      rw [openS_no _ (by omega) h2]
      rw [hd] at h3
      exact ropen_no s _ _ w hs (by omega) e (ne_list s _ h3) R
end Go.Proofs.Ytgobegpmojkhaaa
