/-
  Texts that lean on one another, one behind the other: each opens with its own remark.
-/
import Derived.WalkSpells
import Derived.Laws.CopyOwn
import Derived.Deep.QuietTactic
import Derived.BigQuiet
import Derived.RangeFuncNested
import Derived.RangeFuncLeaves
import Derived.OwnWalkIn
import Derived.RangeFuncBox
import Derived.RangeFuncCalls
import Derived.Shelf.Abstract
import Derived.Shelf.RegionOpen
import Derived.WalkKit
import Derived.TacticsInMore
import Derived.LoopNIn
import Derived.LoopIn
import Derived.Test.YtfbelaalmdcaaaaK05
import Derived.Test.YtfbelaalmdcaaaaK04
import Derived.Test.YtfbelaalmdcaaaaK00

/-
  The reader of package record: txns.
-/
namespace Go.Proofs.Ytfbelaalmdcaaaa
open Go.RowKit
set_option linter.unusedVariables false

set_option maxRecDepth 4000 in
set_option maxHeartbeats 3200000 in
theorem btxns_any (g : Nat) (a : Option Addr) (len cap : Nat) (bs : List UInt8) (s : St) (r : Rec) (va vb : Value) (w : World) (h : RbAt w g a len cap bs s r va vb) :
    Calls Try.prog 101 #[.pointer (some ⟨g, 0, none⟩)] w fun e w' => ∃ v, e = .returned v ∧ w'.ownsRow w.heap.size 81 5 v (cntN 16 s) (flatT (itL pTx (cntN 16 s) (pIn 0 16 s).2)) ∧ RbAt w' g a len cap bs (itS pTx (cntN 16 s) (pIn 0 16 s).2) r va vb ∧ w.grownBy w' (some g) := by
  have HC := hide (fun x h => bcount_any g a len cap bs s r va vb 16 x (by omega) h)
  have hcn : cntN 16 s ≤ 255 := by
    unfold cntN
    split
    · rw [in_val]
      have := num_lt 1 s
      omega
    · omega
  have HG := hide h.lt
  generalize hcN : cntN 16 s = cn at *
  generalize hs0 : (pIn 0 16 s).2 = s0 at *
  clear hcN hs0
  have hb0 := (Below.refl w.heap.size w).alloc (Nat.le_refl _) (.cells #[] 81)
  have HK0 : Hid (TK w (w.alloc (.cells #[] 81)) g a len cap bs s r va vb 81 5 (.slice (some ⟨w.heap.size, 0, none⟩) 0 0) 0 [] []) :=
    ⟨⟨h.later hb0, of_below hb0, trivial⟩, World.ownsRow_made w #[] 0 (Nat.le_refl _) (by unfold maxLen; omega) rfl, fun e he => (nomatch he), h.lt⟩
  clear hb0 h
  go_enter Try.func101, Try.ntmps101
  go_wp2_with fail
  refine (HC.out _ HK0.out.rb).mono ?_
  rintro e x1 ⟨rfl, hb, hg⟩
  have HK1 := hide (HK0.out.step hb hg (fun e he => nomatch he))
  clear hb hg HK0 HC
  obtain ⟨v0, hv0⟩ : ∃ v0, v0 = Value.slice (some ⟨w.heap.size, 0, none⟩) 0 0 := ⟨_, rfl⟩
  rw [← hv0] at HK1
  go_wp2
  rw [← hv0]
  clear hv0
  go_loopw [8, 3] (fun i v wr => ∃ j : Nat, j ≤ cn ∧ i = .int .i64 j ∧ TK w wr g a len cap bs (itS pTx j s0) r va vb 81 5 v j (flatT (itL pTx j s0)) []) (fun i _ _ => cn - (intOf i).toNat)
  case atStart => exact ⟨0, Nat.zero_le _, rfl, HK1.out⟩
  case round =>
    obtain ⟨j, hj, rfl, hk⟩ := hrel
    have HKJ := hide hk
    clear hk HK1
    by_cases hlt : j < cn
    case neg =>
      obtain rfl : j = cn := by omega
      have HX := HKJ
      clear HKJ HG
      go_wp2
      go_ret
      exact ⟨_, rfl, HX.out.own, HX.out.rb, HX.out.rk.gr⟩
    have jlt : (j : Int) < (cn : Int) := by omega
    obtain ⟨s, hsj⟩ : ∃ s', s' = itS pTx j s0 := ⟨_, rfl⟩
    obtain ⟨xs, hxs⟩ : ∃ xs, xs = flatT (itL pTx j s0) := ⟨_, rfl⟩
    rw [← hsj, ← hxs] at HKJ
    have HSJ := hide hsj
    have HXS := hide hxs
    clear hsj hxs
    obtain ⟨n1, s1, h1⟩ : ∃ n s', pNum 4 s = (n, s') := ⟨_, _, rfl⟩
    have b1 : n1 < 256 ^ 4 := by have := num_lt 4 s; rw [h1] at this; exact this
    have N1 := hide (fun x h => bnum_any g a len cap bs s r va vb 4 x (by omega) h)
    have ew1 := conv_i64 n1 (by omega)
    rw [h1] at N1
    obtain ⟨n2, s2, h2⟩ : ∃ n s', pNum 1 s1 = (n, s') := ⟨_, _, rfl⟩
    have b2 : n2 < 256 ^ 1 := by have := num_lt 1 s1; rw [h2] at this; exact this
    have N2 := hide (fun x h => bnum_any g a len cap bs s1 r va vb 1 x (by omega) h)
    have ew2 := conv_i64 n2 (by omega)
    rw [h2] at N2
    obtain ⟨n3, s3, h3⟩ : ∃ n s', pNum 8 s2 = (n, s') := ⟨_, _, rfl⟩
    have b3 : n3 < 256 ^ 8 := by have := num_lt 8 s2; rw [h3] at this; exact this
    have N3 := hide (fun x h => bnum_any g a len cap bs s2 r va vb 8 x (by omega) h)
    rw [h3] at N3
    obtain ⟨n4, s4, h4⟩ : ∃ n s', pNum 8 s3 = (n, s') := ⟨_, _, rfl⟩
    have b4 : n4 < 256 ^ 8 := by have := num_lt 8 s3; rw [h4] at this; exact this
    have N4 := hide (fun x h => bnum_any g a len cap bs s3 r va vb 8 x (by omega) h)
    rw [h4] at N4
    obtain ⟨n5, s5, h5⟩ : ∃ n s', pNum 8 s4 = (n, s') := ⟨_, _, rfl⟩
    have b5 : n5 < 256 ^ 8 := by have := num_lt 8 s4; rw [h5] at this; exact this
    have N5 := hide (fun x h => bnum_any g a len cap bs s4 r va vb 8 x (by omega) h)
    rw [h5] at N5
    have hP : pTx s = (⟨n1, n2, n3, n4, n5⟩, s5) := by
      simp only [pTx, bindP, pureP, h1, h2, h3, h4, h5]
    have HP := hide hP
    clear hP h1 b1 h2 b2 h3 b3 h4 b4 h5 b5
    obtain ⟨gt, hgt⟩ : ∃ gt, gt = wr.heap.size := ⟨_, rfl⟩
    have HK0 : Hid (TK w (wr.alloc (.cells #[.int .i64 0, .int .i64 0, .int .u64 0, .int .u64 0, .int .u64 0] 81)) g a len cap bs s r va vb 81 5 u3 j xs [(wr.heap.size, 81, #[.int .i64 0, .int .i64 0, .int .u64 0, .int .u64 0, .int .u64 0])]) := HKJ.out.more ((Below.refl _ _).alloc (Nat.le_refl _) _) (RowAt.new _ _ _)
    have HGG : Hid (g < gt ∧ w.heap.size ≤ gt) := ⟨by rw [hgt]; exact HKJ.out.rb.lt, by rw [hgt]; exact HKJ.out.rk.gr.size⟩
    have HRS : Hid (∀ e ∈ ([] : List (Nat × TypeId × Array Value)), e.1 ≠ gt) := fun e he => nomatch he
    have HO0 : Hid (∀ cs : Array Value, Off g [(gt, 81, cs)]) := fun cs e he => by
      simp only [List.mem_cons, List.not_mem_nil, or_false] at he
      subst he
      exact Nat.ne_of_gt HGG.out.1
    clear HKJ
    go_wp2_with fail
    rw [← hgt] at HK0
    rw [← hgt]
    refine gen_calls (fun x => Hid (TK w x g a len cap bs s r va vb 81 5 u3 j xs [(gt, 81, #[.int .i64 0, .int .i64 0, .int .u64 0, .int .u64 0, .int .u64 0])])) HK0 ?_
    clear HK0 hgt
    intro y0 HK0
    refine (N1.out _ HK0.out.rb).mono ?_
    rintro e x1 ⟨rfl, hb, hg⟩
    have HL1 := hide (HK0.out.step hb hg (HO0.out _))
    clear hb hg HK0 N1
    have d := HL1.out.has.1.cell 0 (.int .i64 0) rfl
    have f := HL1.out.has.1.free 0
    have HK1 : Hid (TK w (x1.setCell ⟨gt, 0, none⟩ (.int .i64 (n1 : Int))) g a len cap bs s1 r va vb 81 5 u3 j xs [(gt, 81, #[.int .i64 (n1 : Int), .int .i64 0, .int .u64 0, .int .u64 0, .int .u64 0])]) := HL1.out.put HGG.out.1 HGG.out.2 HRS.out 0 (.int .i64 (n1 : Int))
    clear HL1
    go_wp2_with fail
    refine gen_calls (fun x => Hid (TK w x g a len cap bs s1 r va vb 81 5 u3 j xs [(gt, 81, #[.int .i64 (n1 : Int), .int .i64 0, .int .u64 0, .int .u64 0, .int .u64 0])])) HK1 ?_
    clear HK1 d f
    intro y1 HK1
    refine (N2.out _ HK1.out.rb).mono ?_
    rintro e x2 ⟨rfl, hb, hg⟩
    have HL2 := hide (HK1.out.step hb hg (HO0.out _))
    clear hb hg HK1 N2
    have d := HL2.out.has.1.cell 1 (.int .i64 0) rfl
    have f := HL2.out.has.1.free 1
    have HK2 : Hid (TK w (x2.setCell ⟨gt, 1, none⟩ (.int .i64 (n2 : Int))) g a len cap bs s2 r va vb 81 5 u3 j xs [(gt, 81, #[.int .i64 (n1 : Int), .int .i64 (n2 : Int), .int .u64 0, .int .u64 0, .int .u64 0])]) := HL2.out.put HGG.out.1 HGG.out.2 HRS.out 1 (.int .i64 (n2 : Int))
    clear HL2
    go_wp2_with fail
    refine gen_calls (fun x => Hid (TK w x g a len cap bs s2 r va vb 81 5 u3 j xs [(gt, 81, #[.int .i64 (n1 : Int), .int .i64 (n2 : Int), .int .u64 0, .int .u64 0, .int .u64 0])])) HK2 ?_
    clear HK2 d f
    intro y2 HK2
    refine (N3.out _ HK2.out.rb).mono ?_
    rintro e x3 ⟨rfl, hb, hg⟩
    have HL3 := hide (HK2.out.step hb hg (HO0.out _))
    clear hb hg HK2 N3
    have d := HL3.out.has.1.cell 2 (.int .u64 0) rfl
    have f := HL3.out.has.1.free 2
    have HK3 : Hid (TK w (x3.setCell ⟨gt, 2, none⟩ (.int .u64 (n3 : Int))) g a len cap bs s3 r va vb 81 5 u3 j xs [(gt, 81, #[.int .i64 (n1 : Int), .int .i64 (n2 : Int), .int .u64 (n3 : Int), .int .u64 0, .int .u64 0])]) := HL3.out.put HGG.out.1 HGG.out.2 HRS.out 2 (.int .u64 (n3 : Int))
    clear HL3
    go_wp2_with fail
    refine gen_calls (fun x => Hid (TK w x g a len cap bs s3 r va vb 81 5 u3 j xs [(gt, 81, #[.int .i64 (n1 : Int), .int .i64 (n2 : Int), .int .u64 (n3 : Int), .int .u64 0, .int .u64 0])])) HK3 ?_
    clear HK3 d f
    intro y3 HK3
    refine (N4.out _ HK3.out.rb).mono ?_
    rintro e x4 ⟨rfl, hb, hg⟩
    have HL4 := hide (HK3.out.step hb hg (HO0.out _))
    clear hb hg HK3 N4
    have d := HL4.out.has.1.cell 3 (.int .u64 0) rfl
    have f := HL4.out.has.1.free 3
    have HK4 : Hid (TK w (x4.setCell ⟨gt, 3, none⟩ (.int .u64 (n4 : Int))) g a len cap bs s4 r va vb 81 5 u3 j xs [(gt, 81, #[.int .i64 (n1 : Int), .int .i64 (n2 : Int), .int .u64 (n3 : Int), .int .u64 (n4 : Int), .int .u64 0])]) := HL4.out.put HGG.out.1 HGG.out.2 HRS.out 3 (.int .u64 (n4 : Int))
    clear HL4
    go_wp2_with fail
    refine gen_calls (fun x => Hid (TK w x g a len cap bs s4 r va vb 81 5 u3 j xs [(gt, 81, #[.int .i64 (n1 : Int), .int .i64 (n2 : Int), .int .u64 (n3 : Int), .int .u64 (n4 : Int), .int .u64 0])])) HK4 ?_
    clear HK4 d f
    intro y4 HK4
    refine (N5.out _ HK4.out.rb).mono ?_
    rintro e x5 ⟨rfl, hb, hg⟩
    have HL5 := hide (HK4.out.step hb hg (HO0.out _))
    clear hb hg HK4 N5
    have d := HL5.out.has.1.cell 4 (.int .u64 0) rfl
    have f := HL5.out.has.1.free 4
    have HK5 : Hid (TK w (x5.setCell ⟨gt, 4, none⟩ (.int .u64 (n5 : Int))) g a len cap bs s5 r va vb 81 5 u3 j xs [(gt, 81, #[.int .i64 (n1 : Int), .int .i64 (n2 : Int), .int .u64 (n3 : Int), .int .u64 (n4 : Int), .int .u64 (n5 : Int)])]) := HL5.out.put HGG.out.1 HGG.out.2 HRS.out 4 (.int .u64 (n5 : Int))
    clear HL5
    go_wp2_with (first | (refine wpList_load_at rfl 81 (.tmp 4) rfl gt rfl #[.int .i64 (n1 : Int), .int .i64 (n2 : Int), .int .u64 (n3 : Int), .int .u64 (n4 : Int), .int .u64 (n5 : Int)] HK5.out.has.1 _ Try.underlying81 rfl infoTx ?_) | (at_builtin; refine wpList_append_row _ rfl (.tmp 28) (.tmp 30) 40 81 rfl #[.int .i64 0, .int .i64 0, .int .u64 0, .int .u64 0, .int .u64 0] 5 40 Try.underlying40 infoTx3 rfl (by decide) w.heap.size u3 j xs rfl (ownsRow_below HK5.out.own ((Below.refl (x5.setCell ⟨gt, 4, none⟩ (.int .u64 (n5 : Int))).heap.size (x5.setCell ⟨gt, 4, none⟩ (.int .u64 (n5 : Int)))).alloc (Nat.le_refl _) (.cells #[.int .i64 (n1 : Int), .int .i64 (n2 : Int), .int .u64 (n3 : Int), .int .u64 (n4 : Int), .int .u64 (n5 : Int)] 81))) x5.heap.size #[.int .i64 (n1 : Int), .int .i64 (n2 : Int), .int .u64 (n3 : Int), .int .u64 (n4 : Int), .int .u64 (n5 : Int)] rfl (by simp [Value.oneCell']) rfl (row_new2 (x5.setCell ⟨gt, 4, none⟩ (.int .u64 (n5 : Int))) 81 #[.int .i64 (n1 : Int), .int .i64 (n2 : Int), .int .u64 (n3 : Int), .int .u64 (n4 : Int), .int .u64 (n5 : Int)] (by simp)) (by omega) (by omega) (Nat.le_trans HK5.out.rk.gr.size (by simp)) ?_))
    intro v' w9 ho9 hg9
    have HN := hide (HK5.out.push ((Below.refl (x5.setCell ⟨gt, 4, none⟩ (.int .u64 (n5 : Int))).heap.size (x5.setCell ⟨gt, 4, none⟩ (.int .u64 (n5 : Int)))).alloc (Nat.le_refl _) (.cells #[.int .i64 (n1 : Int), .int .i64 (n2 : Int), .int .u64 (n3 : Int), .int .u64 (n4 : Int), .int .u64 (n5 : Int)] 81)) ho9 hg9)
    clear ho9 hg9 HK5 d f HGG HRS HO0
    go_wp2
    go_roundw
    case rel =>
      refine ⟨j + 1, by omega, by go_num, ?_⟩
      have e1 : itS pTx (j + 1) s0 = s5 := by rw [itS_more, ← HSJ.out, HP.out]
      have e2 : flatT (itL pTx (j + 1) s0) = xs ++ (#[.int .i64 (n1 : Int), .int .i64 (n2 : Int), .int .u64 (n3 : Int), .int .u64 (n4 : Int), .int .u64 (n5 : Int)] : Array Value).toList := by
        rw [itL_more, ← HSJ.out, HP.out, HXS.out]
        unfold flatT
        rw [List.flatMap_append]
        simp [txA]
      rw [e1, e2]
      exact HN.out
    case measure => simp [intOf]; omega
end Go.Proofs.Ytfbelaalmdcaaaa

/-
  The reader of package record: dirty.
-/
namespace Go.Proofs.Ytfbelaalmdcaaaa
open Go.RowKit
set_option linter.unusedVariables false

set_option maxRecDepth 4000 in
set_option maxHeartbeats 3200000 in
theorem bdirty_any (g : Nat) (a : Option Addr) (len cap : Nat) (bs : List UInt8) (s : St) (r : Rec) (va vb : Value) (w : World) (h : RbAt w g a len cap bs s r va vb) :
    Calls Try.prog 102 #[.pointer (some ⟨g, 0, none⟩)] w fun e w' => ∃ v, e = .returned v ∧ w'.ownsRow w.heap.size 83 2 v (cntN 32 s) (flatD (itL pDi (cntN 32 s) (pIn 0 32 s).2)) ∧ RbAt w' g a len cap bs (itS pDi (cntN 32 s) (pIn 0 32 s).2) r va vb ∧ w.grownBy w' (some g) := by
  have HC := hide (fun x h => bcount_any g a len cap bs s r va vb 32 x (by omega) h)
  have hcn : cntN 32 s ≤ 255 := by
    unfold cntN
    split
    · rw [in_val]
      have := num_lt 1 s
      omega
    · omega
  have HG := hide h.lt
  generalize hcN : cntN 32 s = cn at *
  generalize hs0 : (pIn 0 32 s).2 = s0 at *
  clear hcN hs0
  have hb0 := (Below.refl w.heap.size w).alloc (Nat.le_refl _) (.cells #[] 83)
  have HK0 : Hid (TK w (w.alloc (.cells #[] 83)) g a len cap bs s r va vb 83 2 (.slice (some ⟨w.heap.size, 0, none⟩) 0 0) 0 [] []) :=
    ⟨⟨h.later hb0, of_below hb0, trivial⟩, World.ownsRow_made w #[] 0 (Nat.le_refl _) (by unfold maxLen; omega) rfl, fun e he => (nomatch he), h.lt⟩
  clear hb0 h
  go_enter Try.func102, Try.ntmps102
  go_wp2_with fail
  refine (HC.out _ HK0.out.rb).mono ?_
  rintro e x1 ⟨rfl, hb, hg⟩
  have HK1 := hide (HK0.out.step hb hg (fun e he => nomatch he))
  clear hb hg HK0 HC
  obtain ⟨v0, hv0⟩ : ∃ v0, v0 = Value.slice (some ⟨w.heap.size, 0, none⟩) 0 0 := ⟨_, rfl⟩
  rw [← hv0] at HK1
  go_wp2
  rw [← hv0]
  clear hv0
  go_loopw [8, 3] (fun i v wr => ∃ j : Nat, j ≤ cn ∧ i = .int .i64 j ∧ TK w wr g a len cap bs (itS pDi j s0) r va vb 83 2 v j (flatD (itL pDi j s0)) []) (fun i _ _ => cn - (intOf i).toNat)
  case atStart => exact ⟨0, Nat.zero_le _, rfl, HK1.out⟩
  case round =>
    obtain ⟨j, hj, rfl, hk⟩ := hrel
    have HKJ := hide hk
    clear hk HK1
    by_cases hlt : j < cn
    case neg =>
      obtain rfl : j = cn := by omega
      have HX := HKJ
      clear HKJ HG
      go_wp2
      go_ret
      exact ⟨_, rfl, HX.out.own, HX.out.rb, HX.out.rk.gr⟩
    have jlt : (j : Int) < (cn : Int) := by omega
    obtain ⟨s, hsj⟩ : ∃ s', s' = itS pDi j s0 := ⟨_, rfl⟩
    obtain ⟨xs, hxs⟩ : ∃ xs, xs = flatD (itL pDi j s0) := ⟨_, rfl⟩
    rw [← hsj, ← hxs] at HKJ
    have HSJ := hide hsj
    have HXS := hide hxs
    clear hsj hxs
    obtain ⟨n1, s1, h1⟩ : ∃ n s', pNum 2 s = (n, s') := ⟨_, _, rfl⟩
    have b1 : n1 < 256 ^ 2 := by have := num_lt 2 s; rw [h1] at this; exact this
    have N1 := hide (fun x h => bnum_any g a len cap bs s r va vb 2 x (by omega) h)
    have ew1 := conv_i64 n1 (by omega)
    rw [h1] at N1
    obtain ⟨n2, s2, h2⟩ : ∃ n s', pNum 8 s1 = (n, s') := ⟨_, _, rfl⟩
    have b2 : n2 < 256 ^ 8 := by have := num_lt 8 s1; rw [h2] at this; exact this
    have N2 := hide (fun x h => bnum_any g a len cap bs s1 r va vb 8 x (by omega) h)
    rw [h2] at N2
    have hP : pDi s = (⟨n1, n2⟩, s2) := by
      simp only [pDi, bindP, pureP, h1, h2]
    have HP := hide hP
    clear hP h1 b1 h2 b2
    obtain ⟨gt, hgt⟩ : ∃ gt, gt = wr.heap.size := ⟨_, rfl⟩
    have HK0 : Hid (TK w (wr.alloc (.cells #[.int .i64 0, .int .u64 0] 83)) g a len cap bs s r va vb 83 2 u3 j xs [(wr.heap.size, 83, #[.int .i64 0, .int .u64 0])]) := HKJ.out.more ((Below.refl _ _).alloc (Nat.le_refl _) _) (RowAt.new _ _ _)
    have HGG : Hid (g < gt ∧ w.heap.size ≤ gt) := ⟨by rw [hgt]; exact HKJ.out.rb.lt, by rw [hgt]; exact HKJ.out.rk.gr.size⟩
    have HRS : Hid (∀ e ∈ ([] : List (Nat × TypeId × Array Value)), e.1 ≠ gt) := fun e he => nomatch he
    have HO0 : Hid (∀ cs : Array Value, Off g [(gt, 83, cs)]) := fun cs e he => by
      simp only [List.mem_cons, List.not_mem_nil, or_false] at he
      subst he
      exact Nat.ne_of_gt HGG.out.1
    clear HKJ
    go_wp2_with fail
    rw [← hgt] at HK0
    rw [← hgt]
    refine gen_calls (fun x => Hid (TK w x g a len cap bs s r va vb 83 2 u3 j xs [(gt, 83, #[.int .i64 0, .int .u64 0])])) HK0 ?_
    clear HK0 hgt
    intro y0 HK0
    refine (N1.out _ HK0.out.rb).mono ?_
    rintro e x1 ⟨rfl, hb, hg⟩
    have HL1 := hide (HK0.out.step hb hg (HO0.out _))
    clear hb hg HK0 N1
    have d := HL1.out.has.1.cell 0 (.int .i64 0) rfl
    have f := HL1.out.has.1.free 0
    have HK1 : Hid (TK w (x1.setCell ⟨gt, 0, none⟩ (.int .i64 (n1 : Int))) g a len cap bs s1 r va vb 83 2 u3 j xs [(gt, 83, #[.int .i64 (n1 : Int), .int .u64 0])]) := HL1.out.put HGG.out.1 HGG.out.2 HRS.out 0 (.int .i64 (n1 : Int))
    clear HL1
    go_wp2_with fail
    refine gen_calls (fun x => Hid (TK w x g a len cap bs s1 r va vb 83 2 u3 j xs [(gt, 83, #[.int .i64 (n1 : Int), .int .u64 0])])) HK1 ?_
    clear HK1 d f
    intro y1 HK1
    refine (N2.out _ HK1.out.rb).mono ?_
    rintro e x2 ⟨rfl, hb, hg⟩
    have HL2 := hide (HK1.out.step hb hg (HO0.out _))
    clear hb hg HK1 N2
    have d := HL2.out.has.1.cell 1 (.int .u64 0) rfl
    have f := HL2.out.has.1.free 1
    have HK2 : Hid (TK w (x2.setCell ⟨gt, 1, none⟩ (.int .u64 (n2 : Int))) g a len cap bs s2 r va vb 83 2 u3 j xs [(gt, 83, #[.int .i64 (n1 : Int), .int .u64 (n2 : Int)])]) := HL2.out.put HGG.out.1 HGG.out.2 HRS.out 1 (.int .u64 (n2 : Int))
    clear HL2
    go_wp2_with (first | (refine wpList_load_at rfl 83 (.tmp 4) rfl gt rfl #[.int .i64 (n1 : Int), .int .u64 (n2 : Int)] HK2.out.has.1 _ Try.underlying83 rfl infoDi ?_) | (at_builtin; refine wpList_append_row _ rfl (.tmp 18) (.tmp 20) 41 83 rfl #[.int .i64 0, .int .u64 0] 2 16 Try.underlying41 infoDi3 rfl (by decide) w.heap.size u3 j xs rfl (ownsRow_below HK2.out.own ((Below.refl (x2.setCell ⟨gt, 1, none⟩ (.int .u64 (n2 : Int))).heap.size (x2.setCell ⟨gt, 1, none⟩ (.int .u64 (n2 : Int)))).alloc (Nat.le_refl _) (.cells #[.int .i64 (n1 : Int), .int .u64 (n2 : Int)] 83))) x2.heap.size #[.int .i64 (n1 : Int), .int .u64 (n2 : Int)] rfl (by simp [Value.oneCell']) rfl (row_new2 (x2.setCell ⟨gt, 1, none⟩ (.int .u64 (n2 : Int))) 83 #[.int .i64 (n1 : Int), .int .u64 (n2 : Int)] (by simp)) (by omega) (by omega) (Nat.le_trans HK2.out.rk.gr.size (by simp)) ?_))
    intro v' w9 ho9 hg9
    have HN := hide (HK2.out.push ((Below.refl (x2.setCell ⟨gt, 1, none⟩ (.int .u64 (n2 : Int))).heap.size (x2.setCell ⟨gt, 1, none⟩ (.int .u64 (n2 : Int)))).alloc (Nat.le_refl _) (.cells #[.int .i64 (n1 : Int), .int .u64 (n2 : Int)] 83)) ho9 hg9)
    clear ho9 hg9 HK2 d f HGG HRS HO0
    go_wp2
    go_roundw
    case rel =>
      refine ⟨j + 1, by omega, by go_num, ?_⟩
      have e1 : itS pDi (j + 1) s0 = s2 := by rw [itS_more, ← HSJ.out, HP.out]
      have e2 : flatD (itL pDi (j + 1) s0) = xs ++ (#[.int .i64 (n1 : Int), .int .u64 (n2 : Int)] : Array Value).toList := by
        rw [itL_more, ← HSJ.out, HP.out, HXS.out]
        unfold flatD
        rw [List.flatMap_append]
        simp [diA]
      rw [e1, e2]
      exact HN.out
    case measure => simp [intOf]; omega
end Go.Proofs.Ytfbelaalmdcaaaa

/-
  The reader of package record: what is written into its own block; what the parser answers.
-/
namespace Go.Proofs.Ytfbelaalmdcaaaa
open Go.RowKit
set_option linter.unusedVariables false

theorem RbAt.setc {w : World} {g : Nat} {a : Option Addr} {len cap : Nat} {bs : List UInt8} {s : St} {r : Rec} {va vb : Value} (h : RbAt w g a len cap bs s r va vb) (j : Nat) (v : Value) (r' : Rec) (va' vb' : Value)
    (hs : ∀ k, (rdB (.slice a len cap) k s.e r va vb).setIfInBounds j v = rdB (.slice a len cap) k s.e r' va' vb') : RbAt (w.setCell ⟨g, j, none⟩ v) g a len cap bs s r' va' vb' := by
  obtain ⟨k, h1, h2, h3⟩ := h.row
  have hr := h1.set j v
  rw [hs] at hr
  exact ⟨⟨k, hr, h2, h3⟩, isB_grown h.bytes (grown_set v (grown_refl w (some g))) (apart_ne h.apart), h.room, h.apart⟩
theorem RbAt.setch {w : World} {g : Nat} {a : Option Addr} {len cap : Nat} {bs : List UInt8} {s : St} {r : Rec} {va vb : Value} (h : RbAt w g a len cap bs s r va vb) (c : Ch) : RbAt (w.setCells g 7 (chA c).toList) g a len cap bs s ⟨r.k, r.l, r.t, r.p, c, r.n, r.s, r.b, r.ts, r.ds⟩ va vb :=
  ((((h.setc 7 (.int .i64 c.k) ⟨r.k, r.l, r.t, r.p, ⟨c.k, r.c.pg, r.c.sl, r.c.o, r.c.n⟩, r.n, r.s, r.b, r.ts, r.ds⟩ va vb (fun _ => rfl)).setc 8 (.int .i64 c.pg) ⟨r.k, r.l, r.t, r.p, ⟨c.k, c.pg, r.c.sl, r.c.o, r.c.n⟩, r.n, r.s, r.b, r.ts, r.ds⟩ va vb (fun _ => rfl)).setc 9 (.int .i64 c.sl) ⟨r.k, r.l, r.t, r.p, ⟨c.k, c.pg, c.sl, r.c.o, r.c.n⟩, r.n, r.s, r.b, r.ts, r.ds⟩ va vb (fun _ => rfl)).setc 10 (.string c.o) ⟨r.k, r.l, r.t, r.p, ⟨c.k, c.pg, c.sl, c.o, r.c.n⟩, r.n, r.s, r.b, r.ts, r.ds⟩ va vb (fun _ => rfl)).setc 11 (.string c.n) ⟨r.k, r.l, r.t, r.p, c, r.n, r.s, r.b, r.ts, r.ds⟩ va vb (fun _ => rfl)
theorem grown_setch {w x : World} {g : Nat} (h : w.grownBy x (some g)) (c : Ch) : w.grownBy (x.setCells g 7 (chA c).toList) (some g) := grown_set _ (grown_set _ (grown_set _ (grown_set _ (grown_set _ h))))
theorem RbAt.there {w : World} {g : Nat} {a : Option Addr} {len cap : Nat} {bs : List UInt8} {s : St} {r : Rec} {va vb : Value} (h : RbAt w g a len cap bs s r va vb) : w.there g 7 5 := by
  obtain ⟨k, h1, _⟩ := h.row
  exact row_there h1 7 5 (by show 7 + 5 ≤ 17; omega)

theorem own_shape5 {w : World} {base n sz : Nat} {e : TypeId} {v : Value} {xs : List Value} (h : w.ownsRow base e sz v n xs) : ∃ a c, v = .slice a n c := by
  rcases h.2 with ⟨h1, h2⟩ | ⟨g', cap, cur, h2, _⟩
  · exact ⟨none, 0, by rw [h1, h2]⟩
  · exact ⟨_, _, h2⟩

theorem own_mono {w : World} {base base' n sz : Nat} {e : TypeId} {v : Value} {xs : List Value} (h : w.ownsRow base e sz v n xs) (hb : base' ≤ base) : w.ownsRow base' e sz v n xs := by
  refine ⟨h.1, h.2.imp id ?_⟩
  rintro ⟨g', cap, cur, h2, h3, h4⟩
  exact ⟨g', cap, cur, h2, Nat.le_trans hb h3, h4⟩

/-! ### The parser, in the order of the code -/
def recRest (k : Nat) : St → Rec × St := bindP (pNum 8) fun l => bindP (pNum 4) fun t => bindP (pNum 8) fun p => bindP (pMay (k ≤ 2) Ch.zero pCh) fun c => bindP (pMay (k = 2) 0 (pNum 8)) fun n => bindP (pMay (k = 6) 0 (pNum 1)) fun s =>
    bindP (pMay (k = 8) (0, [], []) pCheck) fun x => pureP ⟨k, l, t, p, c, n, s, x.1, x.2.1, x.2.2⟩
theorem rec_rest (s : St) : pRec s = recRest (pIn 1 8 s).1 (pIn 1 8 s).2 := rfl
theorem Good.rest (k : Nat) : Good (recRest k) := (Good.num 8).bind fun _ => (Good.num 4).bind fun _ => (Good.num 8).bind fun _ => (Good.may Good.ch).bind fun _ => (Good.may (Good.num 8)).bind fun _ => (Good.may (Good.num 1)).bind fun _ => (Good.may Good.check).bind fun _ => Good.pure _
theorem kind_bad {s : St} (hs : s.e = 0) (h : (pIn 1 8 s).2.e ≠ 0) : (pIn 1 8 s).1 < 1 ∨ 8 < (pIn 1 8 s).1 := by
  rw [in_val]
  by_cases h1 : (pNum 1 s).2.e = 0
  · by_cases hb : (pNum 1 s).1 < 1 ∨ 8 < (pNum 1 s).1
    · exact hb
    · have e : pIn 1 8 s = pNum 1 s := by unfold pIn; rw [if_neg (fun h => hb h.2)]
      rw [e] at h
      exact absurd h1 h
  · rw [num_zero h1]
    omega
theorem kind_good {s : St} (h : (pIn 1 8 s).2.e = 0) : 1 ≤ (pIn 1 8 s).1 ∧ (pIn 1 8 s).1 ≤ 8 := by
  by_cases hb : (pNum 1 s).2.e = 0 ∧ ((pNum 1 s).1 < 1 ∨ 8 < (pNum 1 s).1)
  · have e : pIn 1 8 s = ((pNum 1 s).1, ⟨(pNum 1 s).2.l, 2⟩) := by unfold pIn; rw [if_pos hb]
    rw [e] at h
    cases h
  · have e : pIn 1 8 s = pNum 1 s := by unfold pIn; rw [if_neg hb]
    rw [e] at h ⊢
    by_cases h2 : (pNum 1 s).1 < 1 ∨ 8 < (pNum 1 s).1
    · exact absurd ⟨h, h2⟩ hb
    · omega
theorem cnt_some {α : Type} {p : St → α × St} (hp : Good p) (m : Nat) (s : St) : (pSome p (pIn 0 m s).1 (pIn 0 m s).2).2 = itS p (cntN m s) (pIn 0 m s).2 ∧ ((pSome p (pIn 0 m s).1 (pIn 0 m s).2).2.e = 0 → (pSome p (pIn 0 m s).1 (pIn 0 m s).2).1 = itL p (cntN m s) (pIn 0 m s).2) := by
  by_cases h : (pIn 0 m s).2.e = 0
  · have e : cntN m s = (pIn 0 m s).1 := by unfold cntN; rw [if_pos h]
    rw [e]
    exact some_it hp _ _
  · have e : cntN m s = 0 := by unfold cntN; rw [if_neg h]
    rw [e, (Good.some hp _).stick _ h]
    exact ⟨rfl, fun h2 => absurd h2 h⟩
/-- What the call 'record' leaves. -/
def RecDone (w w' : World) (g : Nat) (a : Option Addr) (len cap : Nat) (bs : List UInt8) (s : St) : Prop :=
  ∃ r va vb, RbAt w' g a len cap bs (pRec s).2 r va vb ∧ ((pRec s).2.e = 0 → r = (pRec s).1) ∧ w'.ownsRow w.heap.size 81 5 va r.ts.length (flatT r.ts) ∧ w'.ownsRow w.heap.size 83 2 vb r.ds.length (flatD r.ds) ∧ w.grownBy w' (some g)
end Go.Proofs.Ytfbelaalmdcaaaa

/-
  The reader of package record: record, a kind that is none.
-/
namespace Go.Proofs.Ytfbelaalmdcaaaa
open Go.RowKit
set_option linter.unusedVariables false

set_option maxRecDepth 4000 in
set_option maxHeartbeats 3200000 in
theorem brec_no (g : Nat) (a : Option Addr) (len cap : Nat) (bs : List UInt8) (s : St) (hs : s.e = 0) (w : World) (hk : (pIn 1 8 s).2.e ≠ 0) (h : RbAt w g a len cap bs s Rec.zero (.slice none 0 0) (.slice none 0 0)) :
    Calls Try.prog 88 #[.pointer (some ⟨g, 0, none⟩)] w fun e w' => e = .returned (.tuple #[]) ∧ RecDone w w' g a len cap bs s := by
  obtain ⟨kd, s0, h0⟩ : ∃ n s', pIn 1 8 s = (n, s') := ⟨_, _, rfl⟩
  obtain ⟨l, s1, h1⟩ : ∃ n s', pNum 8 s0 = (n, s') := ⟨_, _, rfl⟩
  obtain ⟨t, s2, h2⟩ : ∃ n s', pNum 4 s1 = (n, s') := ⟨_, _, rfl⟩
  obtain ⟨p, s3, h3⟩ : ∃ n s', pNum 8 s2 = (n, s') := ⟨_, _, rfl⟩
  have bt : t < 256 ^ 4 := by have := num_lt 4 s1; rw [h2] at this; exact this
  have ewt := conv_i64 t (by omega)
  have C0 := hide (fun r va vb x h => bkind_any g a len cap bs s r va vb x h)
  have C1 := hide (fun r va vb x h => bnum_any g a len cap bs s0 r va vb 8 x (by omega) h)
  have C2 := hide (fun r va vb x h => bnum_any g a len cap bs s1 r va vb 4 x (by omega) h)
  have C3 := hide (fun r va vb x h => bnum_any g a len cap bs s2 r va vb 8 x (by omega) h)
  rw [h0] at C0
  rw [h1] at C1
  rw [h2] at C2
  rw [h3] at C3
  have HGL := hide h.lt
  have hbad := kind_bad hs (by rw [h0] at hk; rw [h0]; exact hk)
  rw [h0] at hbad hk
  simp only at hbad hk
  have hst : (pRec s).2 = s0 := by
    rw [rec_rest, h0]
    exact (Good.rest kd).stick s0 hk
  have e1 : pNum 8 s0 = (0, s0) := by unfold pNum; rw [if_pos hk]
  rw [e1] at h1
  cases h1
  have e2 : pNum 4 s0 = (0, s0) := by unfold pNum; rw [if_pos hk]
  rw [e2] at h2
  cases h2
  have e3 : pNum 8 s0 = (0, s0) := by unfold pNum; rw [if_pos hk]
  rw [e3] at h3
  cases h3
  have hfin : Hid ((pRec s).2 = s0 ∧ s0.e ≠ 0) := ⟨hst, hk⟩
  have m1 : ((kd : Int) == 1) = false := by rw [beq_eq_false_iff_ne]; omega
  have m2 : ((kd : Int) == 2) = false := by rw [beq_eq_false_iff_ne]; omega
  have m6 : ((kd : Int) == 6) = false := by rw [beq_eq_false_iff_ne]; omega
  have m8 : ((kd : Int) == 8) = false := by rw [beq_eq_false_iff_ne]; omega
  clear hk hst e1 e2 e3 hbad hs bt h0
  have HB0 : Hid (RbAt w g a len cap bs s Rec.zero (.slice none 0 0) (.slice none 0 0) ∧ w.grownBy w (some g)) := ⟨h, grown_refl w _⟩
  clear h
  go_enter Try.func88, Try.ntmps88
  go_wp2_with fail
  refine (C0.out _ _ _ _ HB0.out.1).mono ?_
  rintro e x1 ⟨rfl, hb, hg⟩
  have HX : Hid (RbAt x1 g a len cap bs s0 Rec.zero (.slice none 0 0) (.slice none 0 0) ∧ w.grownBy x1 (some g)) := ⟨hb, grown_trans HB0.out.2 hg⟩
  clear hb hg HB0 C0
  obtain ⟨k, q, -, -⟩ := HX.out.1.row
  have c := q.cell 3 (.int .i64 0) rfl
  have f := q.free 3
  clear q
  have HB1 : Hid (RbAt (x1.setCell ⟨g, 3, none⟩ (.int .i64 ((kd : Nat) : Int))) g a len cap bs s0 ⟨kd, 0, 0, 0, Ch.zero, 0, 0, 0, [], []⟩ (.slice none 0 0) (.slice none 0 0) ∧ w.grownBy (x1.setCell ⟨g, 3, none⟩ (.int .i64 ((kd : Nat) : Int))) (some g)) := ⟨HX.out.1.setc 3 (.int .i64 ((kd : Nat) : Int)) ⟨kd, 0, 0, 0, Ch.zero, 0, 0, 0, [], []⟩ _ _ (fun _ => rfl), grown_set _ HX.out.2⟩
  clear HX
  go_wp2_with fail
  refine gen_calls (fun x => Hid (RbAt x g a len cap bs s0 ⟨kd, 0, 0, 0, Ch.zero, 0, 0, 0, [], []⟩ (.slice none 0 0) (.slice none 0 0) ∧ w.grownBy x (some g))) HB1 ?_
  clear HB1 c f
  intro y1 HB1
  refine (C1.out _ _ _ _ HB1.out.1).mono ?_
  rintro e x2 ⟨rfl, hb, hg⟩
  have HX : Hid (RbAt x2 g a len cap bs s0 ⟨kd, 0, 0, 0, Ch.zero, 0, 0, 0, [], []⟩ (.slice none 0 0) (.slice none 0 0) ∧ w.grownBy x2 (some g)) := ⟨hb, grown_trans HB1.out.2 hg⟩
  clear hb hg HB1 C1
  obtain ⟨k, q, -, -⟩ := HX.out.1.row
  have c := q.cell 4 (.int .u64 0) rfl
  have f := q.free 4
  clear q
  have HB2 : Hid (RbAt (x2.setCell ⟨g, 4, none⟩ (.int .u64 0)) g a len cap bs s0 ⟨kd, 0, 0, 0, Ch.zero, 0, 0, 0, [], []⟩ (.slice none 0 0) (.slice none 0 0) ∧ w.grownBy (x2.setCell ⟨g, 4, none⟩ (.int .u64 0)) (some g)) := ⟨HX.out.1.setc 4 (.int .u64 0) ⟨kd, 0, 0, 0, Ch.zero, 0, 0, 0, [], []⟩ _ _ (fun _ => rfl), grown_set _ HX.out.2⟩
  clear HX
  go_wp2_with fail
  refine gen_calls (fun x => Hid (RbAt x g a len cap bs s0 ⟨kd, 0, 0, 0, Ch.zero, 0, 0, 0, [], []⟩ (.slice none 0 0) (.slice none 0 0) ∧ w.grownBy x (some g))) HB2 ?_
  clear HB2 c f
  intro y2 HB2
  refine (C2.out _ _ _ _ HB2.out.1).mono ?_
  rintro e x3 ⟨rfl, hb, hg⟩
  have HX : Hid (RbAt x3 g a len cap bs s0 ⟨kd, 0, 0, 0, Ch.zero, 0, 0, 0, [], []⟩ (.slice none 0 0) (.slice none 0 0) ∧ w.grownBy x3 (some g)) := ⟨hb, grown_trans HB2.out.2 hg⟩
  clear hb hg HB2 C2
  obtain ⟨k, q, -, -⟩ := HX.out.1.row
  have c := q.cell 5 (.int .i64 0) rfl
  have f := q.free 5
  clear q
  have HB3 : Hid (RbAt (x3.setCell ⟨g, 5, none⟩ (.int .i64 0)) g a len cap bs s0 ⟨kd, 0, 0, 0, Ch.zero, 0, 0, 0, [], []⟩ (.slice none 0 0) (.slice none 0 0) ∧ w.grownBy (x3.setCell ⟨g, 5, none⟩ (.int .i64 0)) (some g)) := ⟨HX.out.1.setc 5 (.int .i64 0) ⟨kd, 0, 0, 0, Ch.zero, 0, 0, 0, [], []⟩ _ _ (fun _ => rfl), grown_set _ HX.out.2⟩
  clear HX
  go_wp2_with fail
  refine gen_calls (fun x => Hid (RbAt x g a len cap bs s0 ⟨kd, 0, 0, 0, Ch.zero, 0, 0, 0, [], []⟩ (.slice none 0 0) (.slice none 0 0) ∧ w.grownBy x (some g))) HB3 ?_
  clear HB3 c f
  intro y3 HB3
  refine (C3.out _ _ _ _ HB3.out.1).mono ?_
  rintro e x4 ⟨rfl, hb, hg⟩
  have HX : Hid (RbAt x4 g a len cap bs s0 ⟨kd, 0, 0, 0, Ch.zero, 0, 0, 0, [], []⟩ (.slice none 0 0) (.slice none 0 0) ∧ w.grownBy x4 (some g)) := ⟨hb, grown_trans HB3.out.2 hg⟩
  clear hb hg HB3 C3
  obtain ⟨k, q, -, -⟩ := HX.out.1.row
  have c := q.cell 6 (.int .u64 0) rfl
  have f := q.free 6
  have c3 := q.cell 3 (.int .i64 ((kd : Nat) : Int)) rfl
  clear q
  have HB4 : Hid (RbAt (x4.setCell ⟨g, 6, none⟩ (.int .u64 0)) g a len cap bs s0 ⟨kd, 0, 0, 0, Ch.zero, 0, 0, 0, [], []⟩ (.slice none 0 0) (.slice none 0 0) ∧ w.grownBy (x4.setCell ⟨g, 6, none⟩ (.int .u64 0)) (some g)) := ⟨HX.out.1.setc 6 (.int .u64 0) ⟨kd, 0, 0, 0, Ch.zero, 0, 0, 0, [], []⟩ _ _ (fun _ => rfl), grown_set _ HX.out.2⟩
  clear HX
  go_wp2
  go_end0
  refine ⟨rfl, ⟨kd, 0, 0, 0, Ch.zero, 0, 0, 0, [], []⟩, _, _, by rw [hfin.out.1]; exact HB4.out.1, fun h => absurd h (by rw [hfin.out.1]; exact hfin.out.2), World.ownsRow_nil _ _ _ _, World.ownsRow_nil _ _ _ _, HB4.out.2⟩
end Go.Proofs.Ytfbelaalmdcaaaa

/-
  The reader of package record: record, kind 1.
-/
namespace Go.Proofs.Ytfbelaalmdcaaaa
open Go.RowKit
set_option linter.unusedVariables false

set_option maxRecDepth 4000 in
set_option maxHeartbeats 3200000 in
theorem brec_1 (g : Nat) (a : Option Addr) (len cap : Nat) (bs : List UInt8) (s : St) (hs : s.e = 0) (w : World) (hk : (pIn 1 8 s).1 = 1) (h : RbAt w g a len cap bs s Rec.zero (.slice none 0 0) (.slice none 0 0)) :
    Calls Try.prog 88 #[.pointer (some ⟨g, 0, none⟩)] w fun e w' => e = .returned (.tuple #[]) ∧ RecDone w w' g a len cap bs s := by
  obtain ⟨kd, s0, h0⟩ : ∃ n s', pIn 1 8 s = (n, s') := ⟨_, _, rfl⟩
  obtain ⟨l, s1, h1⟩ : ∃ n s', pNum 8 s0 = (n, s') := ⟨_, _, rfl⟩
  obtain ⟨t, s2, h2⟩ : ∃ n s', pNum 4 s1 = (n, s') := ⟨_, _, rfl⟩
  obtain ⟨p, s3, h3⟩ : ∃ n s', pNum 8 s2 = (n, s') := ⟨_, _, rfl⟩
  have bt : t < 256 ^ 4 := by have := num_lt 4 s1; rw [h2] at this; exact this
  have ewt := conv_i64 t (by omega)
  have C0 := hide (fun r va vb x h => bkind_any g a len cap bs s r va vb x h)
  have C1 := hide (fun r va vb x h => bnum_any g a len cap bs s0 r va vb 8 x (by omega) h)
  have C2 := hide (fun r va vb x h => bnum_any g a len cap bs s1 r va vb 4 x (by omega) h)
  have C3 := hide (fun r va vb x h => bnum_any g a len cap bs s2 r va vb 8 x (by omega) h)
  rw [h0] at C0
  rw [h1] at C1
  rw [h2] at C2
  rw [h3] at C3
  have HGL := hide h.lt
  have hkd : kd = 1 := by rw [h0] at hk; exact hk
  subst hkd
  obtain ⟨ch, s4, h4⟩ : ∃ n s', pCh s3 = (n, s') := ⟨_, _, rfl⟩
  have C4 := hide (fun r va vb x h => bchange_any g a len cap bs s3 r va vb x h)
  rw [h4] at C4
  have hfin : Hid (pRec s = (⟨1, l, t, p, ch, 0, 0, 0, [], []⟩, s4)) := by
    show pRec s = _
    rw [rec_rest, h0]
    simp [recRest, bindP, pureP, pMay, h1, h2, h3, h4]
  clear h4
  clear hs hk bt h0 h1 h2 h3
  have HB0 : Hid (RbAt w g a len cap bs s Rec.zero (.slice none 0 0) (.slice none 0 0) ∧ w.grownBy w (some g)) := ⟨h, grown_refl w _⟩
  clear h
  go_enter Try.func88, Try.ntmps88
  go_wp2_with fail
  refine (C0.out _ _ _ _ HB0.out.1).mono ?_
  rintro e x1 ⟨rfl, hb, hg⟩
  have HX : Hid (RbAt x1 g a len cap bs s0 Rec.zero (.slice none 0 0) (.slice none 0 0) ∧ w.grownBy x1 (some g)) := ⟨hb, grown_trans HB0.out.2 hg⟩
  clear hb hg HB0 C0
  obtain ⟨k, q, -, -⟩ := HX.out.1.row
  have c := q.cell 3 (.int .i64 0) rfl
  have f := q.free 3
  clear q
  have HB1 : Hid (RbAt (x1.setCell ⟨g, 3, none⟩ (.int .i64 1)) g a len cap bs s0 ⟨1, 0, 0, 0, Ch.zero, 0, 0, 0, [], []⟩ (.slice none 0 0) (.slice none 0 0) ∧ w.grownBy (x1.setCell ⟨g, 3, none⟩ (.int .i64 1)) (some g)) := ⟨HX.out.1.setc 3 (.int .i64 1) ⟨1, 0, 0, 0, Ch.zero, 0, 0, 0, [], []⟩ _ _ (fun _ => rfl), grown_set _ HX.out.2⟩
  clear HX
  go_wp2_with fail
  refine gen_calls (fun x => Hid (RbAt x g a len cap bs s0 ⟨1, 0, 0, 0, Ch.zero, 0, 0, 0, [], []⟩ (.slice none 0 0) (.slice none 0 0) ∧ w.grownBy x (some g))) HB1 ?_
  clear HB1 c f
  intro y1 HB1
  refine (C1.out _ _ _ _ HB1.out.1).mono ?_
  rintro e x2 ⟨rfl, hb, hg⟩
  have HX : Hid (RbAt x2 g a len cap bs s1 ⟨1, 0, 0, 0, Ch.zero, 0, 0, 0, [], []⟩ (.slice none 0 0) (.slice none 0 0) ∧ w.grownBy x2 (some g)) := ⟨hb, grown_trans HB1.out.2 hg⟩
  clear hb hg HB1 C1
  obtain ⟨k, q, -, -⟩ := HX.out.1.row
  have c := q.cell 4 (.int .u64 0) rfl
  have f := q.free 4
  clear q
  have HB2 : Hid (RbAt (x2.setCell ⟨g, 4, none⟩ (.int .u64 ((l : Nat) : Int))) g a len cap bs s1 ⟨1, l, 0, 0, Ch.zero, 0, 0, 0, [], []⟩ (.slice none 0 0) (.slice none 0 0) ∧ w.grownBy (x2.setCell ⟨g, 4, none⟩ (.int .u64 ((l : Nat) : Int))) (some g)) := ⟨HX.out.1.setc 4 (.int .u64 ((l : Nat) : Int)) ⟨1, l, 0, 0, Ch.zero, 0, 0, 0, [], []⟩ _ _ (fun _ => rfl), grown_set _ HX.out.2⟩
  clear HX
  go_wp2_with fail
  refine gen_calls (fun x => Hid (RbAt x g a len cap bs s1 ⟨1, l, 0, 0, Ch.zero, 0, 0, 0, [], []⟩ (.slice none 0 0) (.slice none 0 0) ∧ w.grownBy x (some g))) HB2 ?_
  clear HB2 c f
  intro y2 HB2
  refine (C2.out _ _ _ _ HB2.out.1).mono ?_
  rintro e x3 ⟨rfl, hb, hg⟩
  have HX : Hid (RbAt x3 g a len cap bs s2 ⟨1, l, 0, 0, Ch.zero, 0, 0, 0, [], []⟩ (.slice none 0 0) (.slice none 0 0) ∧ w.grownBy x3 (some g)) := ⟨hb, grown_trans HB2.out.2 hg⟩
  clear hb hg HB2 C2
  obtain ⟨k, q, -, -⟩ := HX.out.1.row
  have c := q.cell 5 (.int .i64 0) rfl
  have f := q.free 5
  clear q
  have HB3 : Hid (RbAt (x3.setCell ⟨g, 5, none⟩ (.int .i64 (t : Int))) g a len cap bs s2 ⟨1, l, t, 0, Ch.zero, 0, 0, 0, [], []⟩ (.slice none 0 0) (.slice none 0 0) ∧ w.grownBy (x3.setCell ⟨g, 5, none⟩ (.int .i64 (t : Int))) (some g)) := ⟨HX.out.1.setc 5 (.int .i64 (t : Int)) ⟨1, l, t, 0, Ch.zero, 0, 0, 0, [], []⟩ _ _ (fun _ => rfl), grown_set _ HX.out.2⟩
  clear HX
  go_wp2_with fail
  refine gen_calls (fun x => Hid (RbAt x g a len cap bs s2 ⟨1, l, t, 0, Ch.zero, 0, 0, 0, [], []⟩ (.slice none 0 0) (.slice none 0 0) ∧ w.grownBy x (some g))) HB3 ?_
  clear HB3 c f
  intro y3 HB3
  refine (C3.out _ _ _ _ HB3.out.1).mono ?_
  rintro e x4 ⟨rfl, hb, hg⟩
  have HX : Hid (RbAt x4 g a len cap bs s3 ⟨1, l, t, 0, Ch.zero, 0, 0, 0, [], []⟩ (.slice none 0 0) (.slice none 0 0) ∧ w.grownBy x4 (some g)) := ⟨hb, grown_trans HB3.out.2 hg⟩
  clear hb hg HB3 C3
  obtain ⟨k, q, -, -⟩ := HX.out.1.row
  have c := q.cell 6 (.int .u64 0) rfl
  have f := q.free 6
  have c3 := q.cell 3 (.int .i64 1) rfl
  clear q
  have HB4 : Hid (RbAt (x4.setCell ⟨g, 6, none⟩ (.int .u64 ((p : Nat) : Int))) g a len cap bs s3 ⟨1, l, t, p, Ch.zero, 0, 0, 0, [], []⟩ (.slice none 0 0) (.slice none 0 0) ∧ w.grownBy (x4.setCell ⟨g, 6, none⟩ (.int .u64 ((p : Nat) : Int))) (some g)) := ⟨HX.out.1.setc 6 (.int .u64 ((p : Nat) : Int)) ⟨1, l, t, p, Ch.zero, 0, 0, 0, [], []⟩ _ _ (fun _ => rfl), grown_set _ HX.out.2⟩
  clear HX
  go_wp2_with fail
  refine gen_calls (fun x => Hid (RbAt x g a len cap bs s3 ⟨1, l, t, p, Ch.zero, 0, 0, 0, [], []⟩ (.slice none 0 0) (.slice none 0 0) ∧ w.grownBy x (some g))) HB4 ?_
  clear HB4 c f c3
  intro y4 HB4
  refine (C4.out _ _ _ _ HB4.out.1).mono ?_
  rintro e x5 ⟨rfl, hb, hg⟩
  have HX : Hid (RbAt x5 g a len cap bs s4 ⟨1, l, t, p, Ch.zero, 0, 0, 0, [], []⟩ (.slice none 0 0) (.slice none 0 0) ∧ w.grownBy x5 (some g)) := ⟨hb, grown_trans HB4.out.2 hg⟩
  have HTH := hide hb.there
  clear hb hg HB4 C4
  have HB5 : Hid (RbAt (x5.setCells g 7 (chA ch).toList) g a len cap bs s4 ⟨1, l, t, p, ch, 0, 0, 0, [], []⟩ (.slice none 0 0) (.slice none 0 0) ∧ w.grownBy (x5.setCells g 7 (chA ch).toList) (some g)) := ⟨HX.out.1.setch ch, grown_setch HX.out.2 ch⟩
  clear HX
  go_wp2_with (refine wpList_store_mid rfl 39 (.tmp 39) (.tmp 36) rfl g 7 (chA ch) rfl rfl HTH.out infoCh (chA_one _) ?_)
  go_end0
  refine ⟨rfl, ⟨1, l, t, p, ch, 0, 0, 0, [], []⟩, _, _, by rw [hfin.out]; exact HB5.out.1, fun _ => by rw [hfin.out], World.ownsRow_nil _ _ _ _, World.ownsRow_nil _ _ _ _, HB5.out.2⟩
end Go.Proofs.Ytfbelaalmdcaaaa

/-
  The reader of package record: record, kind 2.
-/
namespace Go.Proofs.Ytfbelaalmdcaaaa
open Go.RowKit
set_option linter.unusedVariables false

set_option maxRecDepth 4000 in
set_option maxHeartbeats 3200000 in
theorem brec_2 (g : Nat) (a : Option Addr) (len cap : Nat) (bs : List UInt8) (s : St) (hs : s.e = 0) (w : World) (hk : (pIn 1 8 s).1 = 2) (h : RbAt w g a len cap bs s Rec.zero (.slice none 0 0) (.slice none 0 0)) :
    Calls Try.prog 88 #[.pointer (some ⟨g, 0, none⟩)] w fun e w' => e = .returned (.tuple #[]) ∧ RecDone w w' g a len cap bs s := by
  obtain ⟨kd, s0, h0⟩ : ∃ n s', pIn 1 8 s = (n, s') := ⟨_, _, rfl⟩
  obtain ⟨l, s1, h1⟩ : ∃ n s', pNum 8 s0 = (n, s') := ⟨_, _, rfl⟩
  obtain ⟨t, s2, h2⟩ : ∃ n s', pNum 4 s1 = (n, s') := ⟨_, _, rfl⟩
  obtain ⟨p, s3, h3⟩ : ∃ n s', pNum 8 s2 = (n, s') := ⟨_, _, rfl⟩
  have bt : t < 256 ^ 4 := by have := num_lt 4 s1; rw [h2] at this; exact this
  have ewt := conv_i64 t (by omega)
  have C0 := hide (fun r va vb x h => bkind_any g a len cap bs s r va vb x h)
  have C1 := hide (fun r va vb x h => bnum_any g a len cap bs s0 r va vb 8 x (by omega) h)
  have C2 := hide (fun r va vb x h => bnum_any g a len cap bs s1 r va vb 4 x (by omega) h)
  have C3 := hide (fun r va vb x h => bnum_any g a len cap bs s2 r va vb 8 x (by omega) h)
  rw [h0] at C0
  rw [h1] at C1
  rw [h2] at C2
  rw [h3] at C3
  have HGL := hide h.lt
  have hkd : kd = 2 := by rw [h0] at hk; exact hk
  subst hkd
  obtain ⟨ch, s4, h4⟩ : ∃ n s', pCh s3 = (n, s') := ⟨_, _, rfl⟩
  have C4 := hide (fun r va vb x h => bchange_any g a len cap bs s3 r va vb x h)
  rw [h4] at C4
  obtain ⟨n, s5, h5⟩ : ∃ n s', pNum 8 s4 = (n, s') := ⟨_, _, rfl⟩
  have C5 := hide (fun r va vb x h => bnum_any g a len cap bs s4 r va vb 8 x (by omega) h)
  rw [h5] at C5
  have hfin : Hid (pRec s = (⟨2, l, t, p, ch, n, 0, 0, [], []⟩, s5)) := by
    show pRec s = _
    rw [rec_rest, h0]
    simp [recRest, bindP, pureP, pMay, h1, h2, h3, h4, h5]
  clear h4 h5
  clear hs hk bt h0 h1 h2 h3
  have HB0 : Hid (RbAt w g a len cap bs s Rec.zero (.slice none 0 0) (.slice none 0 0) ∧ w.grownBy w (some g)) := ⟨h, grown_refl w _⟩
  clear h
  go_enter Try.func88, Try.ntmps88
  go_wp2_with fail
  refine (C0.out _ _ _ _ HB0.out.1).mono ?_
  rintro e x1 ⟨rfl, hb, hg⟩
  have HX : Hid (RbAt x1 g a len cap bs s0 Rec.zero (.slice none 0 0) (.slice none 0 0) ∧ w.grownBy x1 (some g)) := ⟨hb, grown_trans HB0.out.2 hg⟩
  clear hb hg HB0 C0
  obtain ⟨k, q, -, -⟩ := HX.out.1.row
  have c := q.cell 3 (.int .i64 0) rfl
  have f := q.free 3
  clear q
  have HB1 : Hid (RbAt (x1.setCell ⟨g, 3, none⟩ (.int .i64 2)) g a len cap bs s0 ⟨2, 0, 0, 0, Ch.zero, 0, 0, 0, [], []⟩ (.slice none 0 0) (.slice none 0 0) ∧ w.grownBy (x1.setCell ⟨g, 3, none⟩ (.int .i64 2)) (some g)) := ⟨HX.out.1.setc 3 (.int .i64 2) ⟨2, 0, 0, 0, Ch.zero, 0, 0, 0, [], []⟩ _ _ (fun _ => rfl), grown_set _ HX.out.2⟩
  clear HX
  go_wp2_with fail
  refine gen_calls (fun x => Hid (RbAt x g a len cap bs s0 ⟨2, 0, 0, 0, Ch.zero, 0, 0, 0, [], []⟩ (.slice none 0 0) (.slice none 0 0) ∧ w.grownBy x (some g))) HB1 ?_
  clear HB1 c f
  intro y1 HB1
  refine (C1.out _ _ _ _ HB1.out.1).mono ?_
  rintro e x2 ⟨rfl, hb, hg⟩
  have HX : Hid (RbAt x2 g a len cap bs s1 ⟨2, 0, 0, 0, Ch.zero, 0, 0, 0, [], []⟩ (.slice none 0 0) (.slice none 0 0) ∧ w.grownBy x2 (some g)) := ⟨hb, grown_trans HB1.out.2 hg⟩
  clear hb hg HB1 C1
  obtain ⟨k, q, -, -⟩ := HX.out.1.row
  have c := q.cell 4 (.int .u64 0) rfl
  have f := q.free 4
  clear q
  have HB2 : Hid (RbAt (x2.setCell ⟨g, 4, none⟩ (.int .u64 ((l : Nat) : Int))) g a len cap bs s1 ⟨2, l, 0, 0, Ch.zero, 0, 0, 0, [], []⟩ (.slice none 0 0) (.slice none 0 0) ∧ w.grownBy (x2.setCell ⟨g, 4, none⟩ (.int .u64 ((l : Nat) : Int))) (some g)) := ⟨HX.out.1.setc 4 (.int .u64 ((l : Nat) : Int)) ⟨2, l, 0, 0, Ch.zero, 0, 0, 0, [], []⟩ _ _ (fun _ => rfl), grown_set _ HX.out.2⟩
  clear HX
  go_wp2_with fail
  refine gen_calls (fun x => Hid (RbAt x g a len cap bs s1 ⟨2, l, 0, 0, Ch.zero, 0, 0, 0, [], []⟩ (.slice none 0 0) (.slice none 0 0) ∧ w.grownBy x (some g))) HB2 ?_
  clear HB2 c f
  intro y2 HB2
  refine (C2.out _ _ _ _ HB2.out.1).mono ?_
  rintro e x3 ⟨rfl, hb, hg⟩
  have HX : Hid (RbAt x3 g a len cap bs s2 ⟨2, l, 0, 0, Ch.zero, 0, 0, 0, [], []⟩ (.slice none 0 0) (.slice none 0 0) ∧ w.grownBy x3 (some g)) := ⟨hb, grown_trans HB2.out.2 hg⟩
  clear hb hg HB2 C2
  obtain ⟨k, q, -, -⟩ := HX.out.1.row
  have c := q.cell 5 (.int .i64 0) rfl
  have f := q.free 5
  clear q
  have HB3 : Hid (RbAt (x3.setCell ⟨g, 5, none⟩ (.int .i64 (t : Int))) g a len cap bs s2 ⟨2, l, t, 0, Ch.zero, 0, 0, 0, [], []⟩ (.slice none 0 0) (.slice none 0 0) ∧ w.grownBy (x3.setCell ⟨g, 5, none⟩ (.int .i64 (t : Int))) (some g)) := ⟨HX.out.1.setc 5 (.int .i64 (t : Int)) ⟨2, l, t, 0, Ch.zero, 0, 0, 0, [], []⟩ _ _ (fun _ => rfl), grown_set _ HX.out.2⟩
  clear HX
  go_wp2_with fail
  refine gen_calls (fun x => Hid (RbAt x g a len cap bs s2 ⟨2, l, t, 0, Ch.zero, 0, 0, 0, [], []⟩ (.slice none 0 0) (.slice none 0 0) ∧ w.grownBy x (some g))) HB3 ?_
  clear HB3 c f
  intro y3 HB3
  refine (C3.out _ _ _ _ HB3.out.1).mono ?_
  rintro e x4 ⟨rfl, hb, hg⟩
  have HX : Hid (RbAt x4 g a len cap bs s3 ⟨2, l, t, 0, Ch.zero, 0, 0, 0, [], []⟩ (.slice none 0 0) (.slice none 0 0) ∧ w.grownBy x4 (some g)) := ⟨hb, grown_trans HB3.out.2 hg⟩
  clear hb hg HB3 C3
  obtain ⟨k, q, -, -⟩ := HX.out.1.row
  have c := q.cell 6 (.int .u64 0) rfl
  have f := q.free 6
  have c3 := q.cell 3 (.int .i64 2) rfl
  clear q
  have HB4 : Hid (RbAt (x4.setCell ⟨g, 6, none⟩ (.int .u64 ((p : Nat) : Int))) g a len cap bs s3 ⟨2, l, t, p, Ch.zero, 0, 0, 0, [], []⟩ (.slice none 0 0) (.slice none 0 0) ∧ w.grownBy (x4.setCell ⟨g, 6, none⟩ (.int .u64 ((p : Nat) : Int))) (some g)) := ⟨HX.out.1.setc 6 (.int .u64 ((p : Nat) : Int)) ⟨2, l, t, p, Ch.zero, 0, 0, 0, [], []⟩ _ _ (fun _ => rfl), grown_set _ HX.out.2⟩
  clear HX
  go_wp2_with fail
  refine gen_calls (fun x => Hid (RbAt x g a len cap bs s3 ⟨2, l, t, p, Ch.zero, 0, 0, 0, [], []⟩ (.slice none 0 0) (.slice none 0 0) ∧ w.grownBy x (some g))) HB4 ?_
  clear HB4 c f c3
  intro y4 HB4
  refine (C4.out _ _ _ _ HB4.out.1).mono ?_
  rintro e x5 ⟨rfl, hb, hg⟩
  have HX : Hid (RbAt x5 g a len cap bs s4 ⟨2, l, t, p, Ch.zero, 0, 0, 0, [], []⟩ (.slice none 0 0) (.slice none 0 0) ∧ w.grownBy x5 (some g)) := ⟨hb, grown_trans HB4.out.2 hg⟩
  have HTH := hide hb.there
  clear hb hg HB4 C4
  have HB5 : Hid (RbAt (x5.setCells g 7 (chA ch).toList) g a len cap bs s4 ⟨2, l, t, p, ch, 0, 0, 0, [], []⟩ (.slice none 0 0) (.slice none 0 0) ∧ w.grownBy (x5.setCells g 7 (chA ch).toList) (some g)) := ⟨HX.out.1.setch ch, grown_setch HX.out.2 ch⟩
  clear HX
  go_wp2_with (refine wpList_store_mid rfl 39 (.tmp 47) (.tmp 44) rfl g 7 (chA ch) rfl rfl HTH.out infoCh (chA_one _) ?_; refine gen_w (fun x => Hid (RbAt x g a len cap bs s4 ⟨2, l, t, p, ch, 0, 0, 0, [], []⟩ (.slice none 0 0) (.slice none 0 0) ∧ w.grownBy x (some g))) HB5 ?_; clear HB5 HTH; intro y5 HB5)
  refine (C5.out _ _ _ _ HB5.out.1).mono ?_
  rintro e x6 ⟨rfl, hb, hg⟩
  have HX : Hid (RbAt x6 g a len cap bs s5 ⟨2, l, t, p, ch, 0, 0, 0, [], []⟩ (.slice none 0 0) (.slice none 0 0) ∧ w.grownBy x6 (some g)) := ⟨hb, grown_trans HB5.out.2 hg⟩
  clear hb hg HB5 C5
  obtain ⟨k, q, -, -⟩ := HX.out.1.row
  have c := q.cell 12 (.int .u64 0) rfl
  have f := q.free 12
  clear q
  have HB6 : Hid (RbAt (x6.setCell ⟨g, 12, none⟩ (.int .u64 ((n : Nat) : Int))) g a len cap bs s5 ⟨2, l, t, p, ch, n, 0, 0, [], []⟩ (.slice none 0 0) (.slice none 0 0) ∧ w.grownBy (x6.setCell ⟨g, 12, none⟩ (.int .u64 ((n : Nat) : Int))) (some g)) := ⟨HX.out.1.setc 12 (.int .u64 ((n : Nat) : Int)) ⟨2, l, t, p, ch, n, 0, 0, [], []⟩ _ _ (fun _ => rfl), grown_set _ HX.out.2⟩
  clear HX
  go_wp2
  go_end0
  refine ⟨rfl, ⟨2, l, t, p, ch, n, 0, 0, [], []⟩, _, _, by rw [hfin.out]; exact HB6.out.1, fun _ => by rw [hfin.out], World.ownsRow_nil _ _ _ _, World.ownsRow_nil _ _ _ _, HB6.out.2⟩
end Go.Proofs.Ytfbelaalmdcaaaa

/-
  The reader of package record: record, kind 3.
-/
namespace Go.Proofs.Ytfbelaalmdcaaaa
open Go.RowKit
set_option linter.unusedVariables false

set_option maxRecDepth 4000 in
set_option maxHeartbeats 3200000 in
theorem brec_3 (g : Nat) (a : Option Addr) (len cap : Nat) (bs : List UInt8) (s : St) (hs : s.e = 0) (w : World) (hk : (pIn 1 8 s).1 = 3) (h : RbAt w g a len cap bs s Rec.zero (.slice none 0 0) (.slice none 0 0)) :
    Calls Try.prog 88 #[.pointer (some ⟨g, 0, none⟩)] w fun e w' => e = .returned (.tuple #[]) ∧ RecDone w w' g a len cap bs s := by
  obtain ⟨kd, s0, h0⟩ : ∃ n s', pIn 1 8 s = (n, s') := ⟨_, _, rfl⟩
  obtain ⟨l, s1, h1⟩ : ∃ n s', pNum 8 s0 = (n, s') := ⟨_, _, rfl⟩
  obtain ⟨t, s2, h2⟩ : ∃ n s', pNum 4 s1 = (n, s') := ⟨_, _, rfl⟩
  obtain ⟨p, s3, h3⟩ : ∃ n s', pNum 8 s2 = (n, s') := ⟨_, _, rfl⟩
  have bt : t < 256 ^ 4 := by have := num_lt 4 s1; rw [h2] at this; exact this
  have ewt := conv_i64 t (by omega)
  have C0 := hide (fun r va vb x h => bkind_any g a len cap bs s r va vb x h)
  have C1 := hide (fun r va vb x h => bnum_any g a len cap bs s0 r va vb 8 x (by omega) h)
  have C2 := hide (fun r va vb x h => bnum_any g a len cap bs s1 r va vb 4 x (by omega) h)
  have C3 := hide (fun r va vb x h => bnum_any g a len cap bs s2 r va vb 8 x (by omega) h)
  rw [h0] at C0
  rw [h1] at C1
  rw [h2] at C2
  rw [h3] at C3
  have HGL := hide h.lt
  have hkd : kd = 3 := by rw [h0] at hk; exact hk
  subst hkd
  have hfin : Hid (pRec s = (⟨3, l, t, p, Ch.zero, 0, 0, 0, [], []⟩, s3)) := by
    show pRec s = _
    rw [rec_rest, h0]
    simp [recRest, bindP, pureP, pMay, h1, h2, h3]
  clear hs hk bt h0 h1 h2 h3
  have HB0 : Hid (RbAt w g a len cap bs s Rec.zero (.slice none 0 0) (.slice none 0 0) ∧ w.grownBy w (some g)) := ⟨h, grown_refl w _⟩
  clear h
  go_enter Try.func88, Try.ntmps88
  go_wp2_with fail
  refine (C0.out _ _ _ _ HB0.out.1).mono ?_
  rintro e x1 ⟨rfl, hb, hg⟩
  have HX : Hid (RbAt x1 g a len cap bs s0 Rec.zero (.slice none 0 0) (.slice none 0 0) ∧ w.grownBy x1 (some g)) := ⟨hb, grown_trans HB0.out.2 hg⟩
  clear hb hg HB0 C0
  obtain ⟨k, q, -, -⟩ := HX.out.1.row
  have c := q.cell 3 (.int .i64 0) rfl
  have f := q.free 3
  clear q
  have HB1 : Hid (RbAt (x1.setCell ⟨g, 3, none⟩ (.int .i64 3)) g a len cap bs s0 ⟨3, 0, 0, 0, Ch.zero, 0, 0, 0, [], []⟩ (.slice none 0 0) (.slice none 0 0) ∧ w.grownBy (x1.setCell ⟨g, 3, none⟩ (.int .i64 3)) (some g)) := ⟨HX.out.1.setc 3 (.int .i64 3) ⟨3, 0, 0, 0, Ch.zero, 0, 0, 0, [], []⟩ _ _ (fun _ => rfl), grown_set _ HX.out.2⟩
  clear HX
  go_wp2_with fail
  refine gen_calls (fun x => Hid (RbAt x g a len cap bs s0 ⟨3, 0, 0, 0, Ch.zero, 0, 0, 0, [], []⟩ (.slice none 0 0) (.slice none 0 0) ∧ w.grownBy x (some g))) HB1 ?_
  clear HB1 c f
  intro y1 HB1
  refine (C1.out _ _ _ _ HB1.out.1).mono ?_
  rintro e x2 ⟨rfl, hb, hg⟩
  have HX : Hid (RbAt x2 g a len cap bs s1 ⟨3, 0, 0, 0, Ch.zero, 0, 0, 0, [], []⟩ (.slice none 0 0) (.slice none 0 0) ∧ w.grownBy x2 (some g)) := ⟨hb, grown_trans HB1.out.2 hg⟩
  clear hb hg HB1 C1
  obtain ⟨k, q, -, -⟩ := HX.out.1.row
  have c := q.cell 4 (.int .u64 0) rfl
  have f := q.free 4
  clear q
  have HB2 : Hid (RbAt (x2.setCell ⟨g, 4, none⟩ (.int .u64 ((l : Nat) : Int))) g a len cap bs s1 ⟨3, l, 0, 0, Ch.zero, 0, 0, 0, [], []⟩ (.slice none 0 0) (.slice none 0 0) ∧ w.grownBy (x2.setCell ⟨g, 4, none⟩ (.int .u64 ((l : Nat) : Int))) (some g)) := ⟨HX.out.1.setc 4 (.int .u64 ((l : Nat) : Int)) ⟨3, l, 0, 0, Ch.zero, 0, 0, 0, [], []⟩ _ _ (fun _ => rfl), grown_set _ HX.out.2⟩
  clear HX
  go_wp2_with fail
  refine gen_calls (fun x => Hid (RbAt x g a len cap bs s1 ⟨3, l, 0, 0, Ch.zero, 0, 0, 0, [], []⟩ (.slice none 0 0) (.slice none 0 0) ∧ w.grownBy x (some g))) HB2 ?_
  clear HB2 c f
  intro y2 HB2
  refine (C2.out _ _ _ _ HB2.out.1).mono ?_
  rintro e x3 ⟨rfl, hb, hg⟩
  have HX : Hid (RbAt x3 g a len cap bs s2 ⟨3, l, 0, 0, Ch.zero, 0, 0, 0, [], []⟩ (.slice none 0 0) (.slice none 0 0) ∧ w.grownBy x3 (some g)) := ⟨hb, grown_trans HB2.out.2 hg⟩
  clear hb hg HB2 C2
  obtain ⟨k, q, -, -⟩ := HX.out.1.row
  have c := q.cell 5 (.int .i64 0) rfl
  have f := q.free 5
  clear q
  have HB3 : Hid (RbAt (x3.setCell ⟨g, 5, none⟩ (.int .i64 (t : Int))) g a len cap bs s2 ⟨3, l, t, 0, Ch.zero, 0, 0, 0, [], []⟩ (.slice none 0 0) (.slice none 0 0) ∧ w.grownBy (x3.setCell ⟨g, 5, none⟩ (.int .i64 (t : Int))) (some g)) := ⟨HX.out.1.setc 5 (.int .i64 (t : Int)) ⟨3, l, t, 0, Ch.zero, 0, 0, 0, [], []⟩ _ _ (fun _ => rfl), grown_set _ HX.out.2⟩
  clear HX
  go_wp2_with fail
  refine gen_calls (fun x => Hid (RbAt x g a len cap bs s2 ⟨3, l, t, 0, Ch.zero, 0, 0, 0, [], []⟩ (.slice none 0 0) (.slice none 0 0) ∧ w.grownBy x (some g))) HB3 ?_
  clear HB3 c f
  intro y3 HB3
  refine (C3.out _ _ _ _ HB3.out.1).mono ?_
  rintro e x4 ⟨rfl, hb, hg⟩
  have HX : Hid (RbAt x4 g a len cap bs s3 ⟨3, l, t, 0, Ch.zero, 0, 0, 0, [], []⟩ (.slice none 0 0) (.slice none 0 0) ∧ w.grownBy x4 (some g)) := ⟨hb, grown_trans HB3.out.2 hg⟩
  clear hb hg HB3 C3
  obtain ⟨k, q, -, -⟩ := HX.out.1.row
  have c := q.cell 6 (.int .u64 0) rfl
  have f := q.free 6
  have c3 := q.cell 3 (.int .i64 3) rfl
  clear q
  have HB4 : Hid (RbAt (x4.setCell ⟨g, 6, none⟩ (.int .u64 ((p : Nat) : Int))) g a len cap bs s3 ⟨3, l, t, p, Ch.zero, 0, 0, 0, [], []⟩ (.slice none 0 0) (.slice none 0 0) ∧ w.grownBy (x4.setCell ⟨g, 6, none⟩ (.int .u64 ((p : Nat) : Int))) (some g)) := ⟨HX.out.1.setc 6 (.int .u64 ((p : Nat) : Int)) ⟨3, l, t, p, Ch.zero, 0, 0, 0, [], []⟩ _ _ (fun _ => rfl), grown_set _ HX.out.2⟩
  clear HX
  go_wp2
  go_end0
  refine ⟨rfl, ⟨3, l, t, p, Ch.zero, 0, 0, 0, [], []⟩, _, _, by rw [hfin.out]; exact HB4.out.1, fun _ => by rw [hfin.out], World.ownsRow_nil _ _ _ _, World.ownsRow_nil _ _ _ _, HB4.out.2⟩
end Go.Proofs.Ytfbelaalmdcaaaa

/-
  The reader of package record: record, kind 4.
-/
namespace Go.Proofs.Ytfbelaalmdcaaaa
open Go.RowKit
set_option linter.unusedVariables false

set_option maxRecDepth 4000 in
set_option maxHeartbeats 3200000 in
theorem brec_4 (g : Nat) (a : Option Addr) (len cap : Nat) (bs : List UInt8) (s : St) (hs : s.e = 0) (w : World) (hk : (pIn 1 8 s).1 = 4) (h : RbAt w g a len cap bs s Rec.zero (.slice none 0 0) (.slice none 0 0)) :
    Calls Try.prog 88 #[.pointer (some ⟨g, 0, none⟩)] w fun e w' => e = .returned (.tuple #[]) ∧ RecDone w w' g a len cap bs s := by
  obtain ⟨kd, s0, h0⟩ : ∃ n s', pIn 1 8 s = (n, s') := ⟨_, _, rfl⟩
  obtain ⟨l, s1, h1⟩ : ∃ n s', pNum 8 s0 = (n, s') := ⟨_, _, rfl⟩
  obtain ⟨t, s2, h2⟩ : ∃ n s', pNum 4 s1 = (n, s') := ⟨_, _, rfl⟩
  obtain ⟨p, s3, h3⟩ : ∃ n s', pNum 8 s2 = (n, s') := ⟨_, _, rfl⟩
  have bt : t < 256 ^ 4 := by have := num_lt 4 s1; rw [h2] at this; exact this
  have ewt := conv_i64 t (by omega)
  have C0 := hide (fun r va vb x h => bkind_any g a len cap bs s r va vb x h)
  have C1 := hide (fun r va vb x h => bnum_any g a len cap bs s0 r va vb 8 x (by omega) h)
  have C2 := hide (fun r va vb x h => bnum_any g a len cap bs s1 r va vb 4 x (by omega) h)
  have C3 := hide (fun r va vb x h => bnum_any g a len cap bs s2 r va vb 8 x (by omega) h)
  rw [h0] at C0
  rw [h1] at C1
  rw [h2] at C2
  rw [h3] at C3
  have HGL := hide h.lt
  have hkd : kd = 4 := by rw [h0] at hk; exact hk
  subst hkd
  have hfin : Hid (pRec s = (⟨4, l, t, p, Ch.zero, 0, 0, 0, [], []⟩, s3)) := by
    show pRec s = _
    rw [rec_rest, h0]
    simp [recRest, bindP, pureP, pMay, h1, h2, h3]
  clear hs hk bt h0 h1 h2 h3
  have HB0 : Hid (RbAt w g a len cap bs s Rec.zero (.slice none 0 0) (.slice none 0 0) ∧ w.grownBy w (some g)) := ⟨h, grown_refl w _⟩
  clear h
  go_enter Try.func88, Try.ntmps88
  go_wp2_with fail
  refine (C0.out _ _ _ _ HB0.out.1).mono ?_
  rintro e x1 ⟨rfl, hb, hg⟩
  have HX : Hid (RbAt x1 g a len cap bs s0 Rec.zero (.slice none 0 0) (.slice none 0 0) ∧ w.grownBy x1 (some g)) := ⟨hb, grown_trans HB0.out.2 hg⟩
  clear hb hg HB0 C0
  obtain ⟨k, q, -, -⟩ := HX.out.1.row
  have c := q.cell 3 (.int .i64 0) rfl
  have f := q.free 3
  clear q
  have HB1 : Hid (RbAt (x1.setCell ⟨g, 3, none⟩ (.int .i64 4)) g a len cap bs s0 ⟨4, 0, 0, 0, Ch.zero, 0, 0, 0, [], []⟩ (.slice none 0 0) (.slice none 0 0) ∧ w.grownBy (x1.setCell ⟨g, 3, none⟩ (.int .i64 4)) (some g)) := ⟨HX.out.1.setc 3 (.int .i64 4) ⟨4, 0, 0, 0, Ch.zero, 0, 0, 0, [], []⟩ _ _ (fun _ => rfl), grown_set _ HX.out.2⟩
  clear HX
  go_wp2_with fail
  refine gen_calls (fun x => Hid (RbAt x g a len cap bs s0 ⟨4, 0, 0, 0, Ch.zero, 0, 0, 0, [], []⟩ (.slice none 0 0) (.slice none 0 0) ∧ w.grownBy x (some g))) HB1 ?_
  clear HB1 c f
  intro y1 HB1
  refine (C1.out _ _ _ _ HB1.out.1).mono ?_
  rintro e x2 ⟨rfl, hb, hg⟩
  have HX : Hid (RbAt x2 g a len cap bs s1 ⟨4, 0, 0, 0, Ch.zero, 0, 0, 0, [], []⟩ (.slice none 0 0) (.slice none 0 0) ∧ w.grownBy x2 (some g)) := ⟨hb, grown_trans HB1.out.2 hg⟩
  clear hb hg HB1 C1
  obtain ⟨k, q, -, -⟩ := HX.out.1.row
  have c := q.cell 4 (.int .u64 0) rfl
  have f := q.free 4
  clear q
  have HB2 : Hid (RbAt (x2.setCell ⟨g, 4, none⟩ (.int .u64 ((l : Nat) : Int))) g a len cap bs s1 ⟨4, l, 0, 0, Ch.zero, 0, 0, 0, [], []⟩ (.slice none 0 0) (.slice none 0 0) ∧ w.grownBy (x2.setCell ⟨g, 4, none⟩ (.int .u64 ((l : Nat) : Int))) (some g)) := ⟨HX.out.1.setc 4 (.int .u64 ((l : Nat) : Int)) ⟨4, l, 0, 0, Ch.zero, 0, 0, 0, [], []⟩ _ _ (fun _ => rfl), grown_set _ HX.out.2⟩
  clear HX
  go_wp2_with fail
  refine gen_calls (fun x => Hid (RbAt x g a len cap bs s1 ⟨4, l, 0, 0, Ch.zero, 0, 0, 0, [], []⟩ (.slice none 0 0) (.slice none 0 0) ∧ w.grownBy x (some g))) HB2 ?_
  clear HB2 c f
  intro y2 HB2
  refine (C2.out _ _ _ _ HB2.out.1).mono ?_
  rintro e x3 ⟨rfl, hb, hg⟩
  have HX : Hid (RbAt x3 g a len cap bs s2 ⟨4, l, 0, 0, Ch.zero, 0, 0, 0, [], []⟩ (.slice none 0 0) (.slice none 0 0) ∧ w.grownBy x3 (some g)) := ⟨hb, grown_trans HB2.out.2 hg⟩
  clear hb hg HB2 C2
  obtain ⟨k, q, -, -⟩ := HX.out.1.row
  have c := q.cell 5 (.int .i64 0) rfl
  have f := q.free 5
  clear q
  have HB3 : Hid (RbAt (x3.setCell ⟨g, 5, none⟩ (.int .i64 (t : Int))) g a len cap bs s2 ⟨4, l, t, 0, Ch.zero, 0, 0, 0, [], []⟩ (.slice none 0 0) (.slice none 0 0) ∧ w.grownBy (x3.setCell ⟨g, 5, none⟩ (.int .i64 (t : Int))) (some g)) := ⟨HX.out.1.setc 5 (.int .i64 (t : Int)) ⟨4, l, t, 0, Ch.zero, 0, 0, 0, [], []⟩ _ _ (fun _ => rfl), grown_set _ HX.out.2⟩
  clear HX
  go_wp2_with fail
  refine gen_calls (fun x => Hid (RbAt x g a len cap bs s2 ⟨4, l, t, 0, Ch.zero, 0, 0, 0, [], []⟩ (.slice none 0 0) (.slice none 0 0) ∧ w.grownBy x (some g))) HB3 ?_
  clear HB3 c f
  intro y3 HB3
  refine (C3.out _ _ _ _ HB3.out.1).mono ?_
  rintro e x4 ⟨rfl, hb, hg⟩
  have HX : Hid (RbAt x4 g a len cap bs s3 ⟨4, l, t, 0, Ch.zero, 0, 0, 0, [], []⟩ (.slice none 0 0) (.slice none 0 0) ∧ w.grownBy x4 (some g)) := ⟨hb, grown_trans HB3.out.2 hg⟩
  clear hb hg HB3 C3
  obtain ⟨k, q, -, -⟩ := HX.out.1.row
  have c := q.cell 6 (.int .u64 0) rfl
  have f := q.free 6
  have c3 := q.cell 3 (.int .i64 4) rfl
  clear q
  have HB4 : Hid (RbAt (x4.setCell ⟨g, 6, none⟩ (.int .u64 ((p : Nat) : Int))) g a len cap bs s3 ⟨4, l, t, p, Ch.zero, 0, 0, 0, [], []⟩ (.slice none 0 0) (.slice none 0 0) ∧ w.grownBy (x4.setCell ⟨g, 6, none⟩ (.int .u64 ((p : Nat) : Int))) (some g)) := ⟨HX.out.1.setc 6 (.int .u64 ((p : Nat) : Int)) ⟨4, l, t, p, Ch.zero, 0, 0, 0, [], []⟩ _ _ (fun _ => rfl), grown_set _ HX.out.2⟩
  clear HX
  go_wp2
  go_end0
  refine ⟨rfl, ⟨4, l, t, p, Ch.zero, 0, 0, 0, [], []⟩, _, _, by rw [hfin.out]; exact HB4.out.1, fun _ => by rw [hfin.out], World.ownsRow_nil _ _ _ _, World.ownsRow_nil _ _ _ _, HB4.out.2⟩
end Go.Proofs.Ytfbelaalmdcaaaa

/-
  The reader of package record: record, kind 5.
-/
namespace Go.Proofs.Ytfbelaalmdcaaaa
open Go.RowKit
set_option linter.unusedVariables false

set_option maxRecDepth 4000 in
set_option maxHeartbeats 3200000 in
theorem brec_5 (g : Nat) (a : Option Addr) (len cap : Nat) (bs : List UInt8) (s : St) (hs : s.e = 0) (w : World) (hk : (pIn 1 8 s).1 = 5) (h : RbAt w g a len cap bs s Rec.zero (.slice none 0 0) (.slice none 0 0)) :
    Calls Try.prog 88 #[.pointer (some ⟨g, 0, none⟩)] w fun e w' => e = .returned (.tuple #[]) ∧ RecDone w w' g a len cap bs s := by
  obtain ⟨kd, s0, h0⟩ : ∃ n s', pIn 1 8 s = (n, s') := ⟨_, _, rfl⟩
  obtain ⟨l, s1, h1⟩ : ∃ n s', pNum 8 s0 = (n, s') := ⟨_, _, rfl⟩
  obtain ⟨t, s2, h2⟩ : ∃ n s', pNum 4 s1 = (n, s') := ⟨_, _, rfl⟩
  obtain ⟨p, s3, h3⟩ : ∃ n s', pNum 8 s2 = (n, s') := ⟨_, _, rfl⟩
  have bt : t < 256 ^ 4 := by have := num_lt 4 s1; rw [h2] at this; exact this
  have ewt := conv_i64 t (by omega)
  have C0 := hide (fun r va vb x h => bkind_any g a len cap bs s r va vb x h)
  have C1 := hide (fun r va vb x h => bnum_any g a len cap bs s0 r va vb 8 x (by omega) h)
  have C2 := hide (fun r va vb x h => bnum_any g a len cap bs s1 r va vb 4 x (by omega) h)
  have C3 := hide (fun r va vb x h => bnum_any g a len cap bs s2 r va vb 8 x (by omega) h)
  rw [h0] at C0
  rw [h1] at C1
  rw [h2] at C2
  rw [h3] at C3
  have HGL := hide h.lt
  have hkd : kd = 5 := by rw [h0] at hk; exact hk
  subst hkd
  have hfin : Hid (pRec s = (⟨5, l, t, p, Ch.zero, 0, 0, 0, [], []⟩, s3)) := by
    show pRec s = _
    rw [rec_rest, h0]
    simp [recRest, bindP, pureP, pMay, h1, h2, h3]
  clear hs hk bt h0 h1 h2 h3
  have HB0 : Hid (RbAt w g a len cap bs s Rec.zero (.slice none 0 0) (.slice none 0 0) ∧ w.grownBy w (some g)) := ⟨h, grown_refl w _⟩
  clear h
  go_enter Try.func88, Try.ntmps88
  go_wp2_with fail
  refine (C0.out _ _ _ _ HB0.out.1).mono ?_
  rintro e x1 ⟨rfl, hb, hg⟩
  have HX : Hid (RbAt x1 g a len cap bs s0 Rec.zero (.slice none 0 0) (.slice none 0 0) ∧ w.grownBy x1 (some g)) := ⟨hb, grown_trans HB0.out.2 hg⟩
  clear hb hg HB0 C0
  obtain ⟨k, q, -, -⟩ := HX.out.1.row
  have c := q.cell 3 (.int .i64 0) rfl
  have f := q.free 3
  clear q
  have HB1 : Hid (RbAt (x1.setCell ⟨g, 3, none⟩ (.int .i64 5)) g a len cap bs s0 ⟨5, 0, 0, 0, Ch.zero, 0, 0, 0, [], []⟩ (.slice none 0 0) (.slice none 0 0) ∧ w.grownBy (x1.setCell ⟨g, 3, none⟩ (.int .i64 5)) (some g)) := ⟨HX.out.1.setc 3 (.int .i64 5) ⟨5, 0, 0, 0, Ch.zero, 0, 0, 0, [], []⟩ _ _ (fun _ => rfl), grown_set _ HX.out.2⟩
  clear HX
  go_wp2_with fail
  refine gen_calls (fun x => Hid (RbAt x g a len cap bs s0 ⟨5, 0, 0, 0, Ch.zero, 0, 0, 0, [], []⟩ (.slice none 0 0) (.slice none 0 0) ∧ w.grownBy x (some g))) HB1 ?_
  clear HB1 c f
  intro y1 HB1
  refine (C1.out _ _ _ _ HB1.out.1).mono ?_
  rintro e x2 ⟨rfl, hb, hg⟩
  have HX : Hid (RbAt x2 g a len cap bs s1 ⟨5, 0, 0, 0, Ch.zero, 0, 0, 0, [], []⟩ (.slice none 0 0) (.slice none 0 0) ∧ w.grownBy x2 (some g)) := ⟨hb, grown_trans HB1.out.2 hg⟩
  clear hb hg HB1 C1
  obtain ⟨k, q, -, -⟩ := HX.out.1.row
  have c := q.cell 4 (.int .u64 0) rfl
  have f := q.free 4
  clear q
  have HB2 : Hid (RbAt (x2.setCell ⟨g, 4, none⟩ (.int .u64 ((l : Nat) : Int))) g a len cap bs s1 ⟨5, l, 0, 0, Ch.zero, 0, 0, 0, [], []⟩ (.slice none 0 0) (.slice none 0 0) ∧ w.grownBy (x2.setCell ⟨g, 4, none⟩ (.int .u64 ((l : Nat) : Int))) (some g)) := ⟨HX.out.1.setc 4 (.int .u64 ((l : Nat) : Int)) ⟨5, l, 0, 0, Ch.zero, 0, 0, 0, [], []⟩ _ _ (fun _ => rfl), grown_set _ HX.out.2⟩
  clear HX
  go_wp2_with fail
  refine gen_calls (fun x => Hid (RbAt x g a len cap bs s1 ⟨5, l, 0, 0, Ch.zero, 0, 0, 0, [], []⟩ (.slice none 0 0) (.slice none 0 0) ∧ w.grownBy x (some g))) HB2 ?_
  clear HB2 c f
  intro y2 HB2
  refine (C2.out _ _ _ _ HB2.out.1).mono ?_
  rintro e x3 ⟨rfl, hb, hg⟩
  have HX : Hid (RbAt x3 g a len cap bs s2 ⟨5, l, 0, 0, Ch.zero, 0, 0, 0, [], []⟩ (.slice none 0 0) (.slice none 0 0) ∧ w.grownBy x3 (some g)) := ⟨hb, grown_trans HB2.out.2 hg⟩
  clear hb hg HB2 C2
  obtain ⟨k, q, -, -⟩ := HX.out.1.row
  have c := q.cell 5 (.int .i64 0) rfl
  have f := q.free 5
  clear q
  have HB3 : Hid (RbAt (x3.setCell ⟨g, 5, none⟩ (.int .i64 (t : Int))) g a len cap bs s2 ⟨5, l, t, 0, Ch.zero, 0, 0, 0, [], []⟩ (.slice none 0 0) (.slice none 0 0) ∧ w.grownBy (x3.setCell ⟨g, 5, none⟩ (.int .i64 (t : Int))) (some g)) := ⟨HX.out.1.setc 5 (.int .i64 (t : Int)) ⟨5, l, t, 0, Ch.zero, 0, 0, 0, [], []⟩ _ _ (fun _ => rfl), grown_set _ HX.out.2⟩
  clear HX
  go_wp2_with fail
  refine gen_calls (fun x => Hid (RbAt x g a len cap bs s2 ⟨5, l, t, 0, Ch.zero, 0, 0, 0, [], []⟩ (.slice none 0 0) (.slice none 0 0) ∧ w.grownBy x (some g))) HB3 ?_
  clear HB3 c f
  intro y3 HB3
  refine (C3.out _ _ _ _ HB3.out.1).mono ?_
  rintro e x4 ⟨rfl, hb, hg⟩
  have HX : Hid (RbAt x4 g a len cap bs s3 ⟨5, l, t, 0, Ch.zero, 0, 0, 0, [], []⟩ (.slice none 0 0) (.slice none 0 0) ∧ w.grownBy x4 (some g)) := ⟨hb, grown_trans HB3.out.2 hg⟩
  clear hb hg HB3 C3
  obtain ⟨k, q, -, -⟩ := HX.out.1.row
  have c := q.cell 6 (.int .u64 0) rfl
  have f := q.free 6
  have c3 := q.cell 3 (.int .i64 5) rfl
  clear q
  have HB4 : Hid (RbAt (x4.setCell ⟨g, 6, none⟩ (.int .u64 ((p : Nat) : Int))) g a len cap bs s3 ⟨5, l, t, p, Ch.zero, 0, 0, 0, [], []⟩ (.slice none 0 0) (.slice none 0 0) ∧ w.grownBy (x4.setCell ⟨g, 6, none⟩ (.int .u64 ((p : Nat) : Int))) (some g)) := ⟨HX.out.1.setc 6 (.int .u64 ((p : Nat) : Int)) ⟨5, l, t, p, Ch.zero, 0, 0, 0, [], []⟩ _ _ (fun _ => rfl), grown_set _ HX.out.2⟩
  clear HX
  go_wp2
  go_end0
  refine ⟨rfl, ⟨5, l, t, p, Ch.zero, 0, 0, 0, [], []⟩, _, _, by rw [hfin.out]; exact HB4.out.1, fun _ => by rw [hfin.out], World.ownsRow_nil _ _ _ _, World.ownsRow_nil _ _ _ _, HB4.out.2⟩
end Go.Proofs.Ytfbelaalmdcaaaa

/-
  The reader of package record: record, kind 6.
-/
namespace Go.Proofs.Ytfbelaalmdcaaaa
open Go.RowKit
set_option linter.unusedVariables false

set_option maxRecDepth 4000 in
set_option maxHeartbeats 3200000 in
theorem brec_6 (g : Nat) (a : Option Addr) (len cap : Nat) (bs : List UInt8) (s : St) (hs : s.e = 0) (w : World) (hk : (pIn 1 8 s).1 = 6) (h : RbAt w g a len cap bs s Rec.zero (.slice none 0 0) (.slice none 0 0)) :
    Calls Try.prog 88 #[.pointer (some ⟨g, 0, none⟩)] w fun e w' => e = .returned (.tuple #[]) ∧ RecDone w w' g a len cap bs s := by
  obtain ⟨kd, s0, h0⟩ : ∃ n s', pIn 1 8 s = (n, s') := ⟨_, _, rfl⟩
  obtain ⟨l, s1, h1⟩ : ∃ n s', pNum 8 s0 = (n, s') := ⟨_, _, rfl⟩
  obtain ⟨t, s2, h2⟩ : ∃ n s', pNum 4 s1 = (n, s') := ⟨_, _, rfl⟩
  obtain ⟨p, s3, h3⟩ : ∃ n s', pNum 8 s2 = (n, s') := ⟨_, _, rfl⟩
  have bt : t < 256 ^ 4 := by have := num_lt 4 s1; rw [h2] at this; exact this
  have ewt := conv_i64 t (by omega)
  have C0 := hide (fun r va vb x h => bkind_any g a len cap bs s r va vb x h)
  have C1 := hide (fun r va vb x h => bnum_any g a len cap bs s0 r va vb 8 x (by omega) h)
  have C2 := hide (fun r va vb x h => bnum_any g a len cap bs s1 r va vb 4 x (by omega) h)
  have C3 := hide (fun r va vb x h => bnum_any g a len cap bs s2 r va vb 8 x (by omega) h)
  rw [h0] at C0
  rw [h1] at C1
  rw [h2] at C2
  rw [h3] at C3
  have HGL := hide h.lt
  have hkd : kd = 6 := by rw [h0] at hk; exact hk
  subst hkd
  obtain ⟨n, s4, h4⟩ : ∃ n s', pNum 1 s3 = (n, s') := ⟨_, _, rfl⟩
  have bn : n < 256 ^ 1 := by have := num_lt 1 s3; rw [h4] at this; exact this
  have ewn := conv_i64 n (by omega)
  have C4 := hide (fun r va vb x h => bnum_any g a len cap bs s3 r va vb 1 x (by omega) h)
  rw [h4] at C4
  have hfin : Hid (pRec s = (⟨6, l, t, p, Ch.zero, 0, n, 0, [], []⟩, s4)) := by
    show pRec s = _
    rw [rec_rest, h0]
    simp [recRest, bindP, pureP, pMay, h1, h2, h3, h4]
  clear h4 bn
  clear hs hk bt h0 h1 h2 h3
  have HB0 : Hid (RbAt w g a len cap bs s Rec.zero (.slice none 0 0) (.slice none 0 0) ∧ w.grownBy w (some g)) := ⟨h, grown_refl w _⟩
  clear h
  go_enter Try.func88, Try.ntmps88
  go_wp2_with fail
  refine (C0.out _ _ _ _ HB0.out.1).mono ?_
  rintro e x1 ⟨rfl, hb, hg⟩
  have HX : Hid (RbAt x1 g a len cap bs s0 Rec.zero (.slice none 0 0) (.slice none 0 0) ∧ w.grownBy x1 (some g)) := ⟨hb, grown_trans HB0.out.2 hg⟩
  clear hb hg HB0 C0
  obtain ⟨k, q, -, -⟩ := HX.out.1.row
  have c := q.cell 3 (.int .i64 0) rfl
  have f := q.free 3
  clear q
  have HB1 : Hid (RbAt (x1.setCell ⟨g, 3, none⟩ (.int .i64 6)) g a len cap bs s0 ⟨6, 0, 0, 0, Ch.zero, 0, 0, 0, [], []⟩ (.slice none 0 0) (.slice none 0 0) ∧ w.grownBy (x1.setCell ⟨g, 3, none⟩ (.int .i64 6)) (some g)) := ⟨HX.out.1.setc 3 (.int .i64 6) ⟨6, 0, 0, 0, Ch.zero, 0, 0, 0, [], []⟩ _ _ (fun _ => rfl), grown_set _ HX.out.2⟩
  clear HX
  go_wp2_with fail
  refine gen_calls (fun x => Hid (RbAt x g a len cap bs s0 ⟨6, 0, 0, 0, Ch.zero, 0, 0, 0, [], []⟩ (.slice none 0 0) (.slice none 0 0) ∧ w.grownBy x (some g))) HB1 ?_
  clear HB1 c f
  intro y1 HB1
  refine (C1.out _ _ _ _ HB1.out.1).mono ?_
  rintro e x2 ⟨rfl, hb, hg⟩
  have HX : Hid (RbAt x2 g a len cap bs s1 ⟨6, 0, 0, 0, Ch.zero, 0, 0, 0, [], []⟩ (.slice none 0 0) (.slice none 0 0) ∧ w.grownBy x2 (some g)) := ⟨hb, grown_trans HB1.out.2 hg⟩
  clear hb hg HB1 C1
  obtain ⟨k, q, -, -⟩ := HX.out.1.row
  have c := q.cell 4 (.int .u64 0) rfl
  have f := q.free 4
  clear q
  have HB2 : Hid (RbAt (x2.setCell ⟨g, 4, none⟩ (.int .u64 ((l : Nat) : Int))) g a len cap bs s1 ⟨6, l, 0, 0, Ch.zero, 0, 0, 0, [], []⟩ (.slice none 0 0) (.slice none 0 0) ∧ w.grownBy (x2.setCell ⟨g, 4, none⟩ (.int .u64 ((l : Nat) : Int))) (some g)) := ⟨HX.out.1.setc 4 (.int .u64 ((l : Nat) : Int)) ⟨6, l, 0, 0, Ch.zero, 0, 0, 0, [], []⟩ _ _ (fun _ => rfl), grown_set _ HX.out.2⟩
  clear HX
  go_wp2_with fail
  refine gen_calls (fun x => Hid (RbAt x g a len cap bs s1 ⟨6, l, 0, 0, Ch.zero, 0, 0, 0, [], []⟩ (.slice none 0 0) (.slice none 0 0) ∧ w.grownBy x (some g))) HB2 ?_
  clear HB2 c f
  intro y2 HB2
  refine (C2.out _ _ _ _ HB2.out.1).mono ?_
  rintro e x3 ⟨rfl, hb, hg⟩
  have HX : Hid (RbAt x3 g a len cap bs s2 ⟨6, l, 0, 0, Ch.zero, 0, 0, 0, [], []⟩ (.slice none 0 0) (.slice none 0 0) ∧ w.grownBy x3 (some g)) := ⟨hb, grown_trans HB2.out.2 hg⟩
  clear hb hg HB2 C2
  obtain ⟨k, q, -, -⟩ := HX.out.1.row
  have c := q.cell 5 (.int .i64 0) rfl
  have f := q.free 5
  clear q
  have HB3 : Hid (RbAt (x3.setCell ⟨g, 5, none⟩ (.int .i64 (t : Int))) g a len cap bs s2 ⟨6, l, t, 0, Ch.zero, 0, 0, 0, [], []⟩ (.slice none 0 0) (.slice none 0 0) ∧ w.grownBy (x3.setCell ⟨g, 5, none⟩ (.int .i64 (t : Int))) (some g)) := ⟨HX.out.1.setc 5 (.int .i64 (t : Int)) ⟨6, l, t, 0, Ch.zero, 0, 0, 0, [], []⟩ _ _ (fun _ => rfl), grown_set _ HX.out.2⟩
  clear HX
  go_wp2_with fail
  refine gen_calls (fun x => Hid (RbAt x g a len cap bs s2 ⟨6, l, t, 0, Ch.zero, 0, 0, 0, [], []⟩ (.slice none 0 0) (.slice none 0 0) ∧ w.grownBy x (some g))) HB3 ?_
  clear HB3 c f
  intro y3 HB3
  refine (C3.out _ _ _ _ HB3.out.1).mono ?_
  rintro e x4 ⟨rfl, hb, hg⟩
  have HX : Hid (RbAt x4 g a len cap bs s3 ⟨6, l, t, 0, Ch.zero, 0, 0, 0, [], []⟩ (.slice none 0 0) (.slice none 0 0) ∧ w.grownBy x4 (some g)) := ⟨hb, grown_trans HB3.out.2 hg⟩
  clear hb hg HB3 C3
  obtain ⟨k, q, -, -⟩ := HX.out.1.row
  have c := q.cell 6 (.int .u64 0) rfl
  have f := q.free 6
  have c3 := q.cell 3 (.int .i64 6) rfl
  clear q
  have HB4 : Hid (RbAt (x4.setCell ⟨g, 6, none⟩ (.int .u64 ((p : Nat) : Int))) g a len cap bs s3 ⟨6, l, t, p, Ch.zero, 0, 0, 0, [], []⟩ (.slice none 0 0) (.slice none 0 0) ∧ w.grownBy (x4.setCell ⟨g, 6, none⟩ (.int .u64 ((p : Nat) : Int))) (some g)) := ⟨HX.out.1.setc 6 (.int .u64 ((p : Nat) : Int)) ⟨6, l, t, p, Ch.zero, 0, 0, 0, [], []⟩ _ _ (fun _ => rfl), grown_set _ HX.out.2⟩
  clear HX
  go_wp2_with fail
  refine gen_calls (fun x => Hid (RbAt x g a len cap bs s3 ⟨6, l, t, p, Ch.zero, 0, 0, 0, [], []⟩ (.slice none 0 0) (.slice none 0 0) ∧ w.grownBy x (some g))) HB4 ?_
  clear HB4 c f c3
  intro y4 HB4
  refine (C4.out _ _ _ _ HB4.out.1).mono ?_
  rintro e x5 ⟨rfl, hb, hg⟩
  have HX : Hid (RbAt x5 g a len cap bs s4 ⟨6, l, t, p, Ch.zero, 0, 0, 0, [], []⟩ (.slice none 0 0) (.slice none 0 0) ∧ w.grownBy x5 (some g)) := ⟨hb, grown_trans HB4.out.2 hg⟩
  clear hb hg HB4 C4
  obtain ⟨k, q, -, -⟩ := HX.out.1.row
  have c := q.cell 13 (.int .i64 0) rfl
  have f := q.free 13
  clear q
  have HB5 : Hid (RbAt (x5.setCell ⟨g, 13, none⟩ (.int .i64 ((n : Nat) : Int))) g a len cap bs s4 ⟨6, l, t, p, Ch.zero, 0, n, 0, [], []⟩ (.slice none 0 0) (.slice none 0 0) ∧ w.grownBy (x5.setCell ⟨g, 13, none⟩ (.int .i64 ((n : Nat) : Int))) (some g)) := ⟨HX.out.1.setc 13 (.int .i64 ((n : Nat) : Int)) ⟨6, l, t, p, Ch.zero, 0, n, 0, [], []⟩ _ _ (fun _ => rfl), grown_set _ HX.out.2⟩
  clear HX
  go_wp2
  go_end0
  refine ⟨rfl, ⟨6, l, t, p, Ch.zero, 0, n, 0, [], []⟩, _, _, by rw [hfin.out]; exact HB5.out.1, fun _ => by rw [hfin.out], World.ownsRow_nil _ _ _ _, World.ownsRow_nil _ _ _ _, HB5.out.2⟩
end Go.Proofs.Ytfbelaalmdcaaaa

/-
  The reader of package record: record, kind 7.
-/
namespace Go.Proofs.Ytfbelaalmdcaaaa
open Go.RowKit
set_option linter.unusedVariables false

set_option maxRecDepth 4000 in
set_option maxHeartbeats 3200000 in
theorem brec_7 (g : Nat) (a : Option Addr) (len cap : Nat) (bs : List UInt8) (s : St) (hs : s.e = 0) (w : World) (hk : (pIn 1 8 s).1 = 7) (h : RbAt w g a len cap bs s Rec.zero (.slice none 0 0) (.slice none 0 0)) :
    Calls Try.prog 88 #[.pointer (some ⟨g, 0, none⟩)] w fun e w' => e = .returned (.tuple #[]) ∧ RecDone w w' g a len cap bs s := by
  obtain ⟨kd, s0, h0⟩ : ∃ n s', pIn 1 8 s = (n, s') := ⟨_, _, rfl⟩
  obtain ⟨l, s1, h1⟩ : ∃ n s', pNum 8 s0 = (n, s') := ⟨_, _, rfl⟩
  obtain ⟨t, s2, h2⟩ : ∃ n s', pNum 4 s1 = (n, s') := ⟨_, _, rfl⟩
  obtain ⟨p, s3, h3⟩ : ∃ n s', pNum 8 s2 = (n, s') := ⟨_, _, rfl⟩
  have bt : t < 256 ^ 4 := by have := num_lt 4 s1; rw [h2] at this; exact this
  have ewt := conv_i64 t (by omega)
  have C0 := hide (fun r va vb x h => bkind_any g a len cap bs s r va vb x h)
  have C1 := hide (fun r va vb x h => bnum_any g a len cap bs s0 r va vb 8 x (by omega) h)
  have C2 := hide (fun r va vb x h => bnum_any g a len cap bs s1 r va vb 4 x (by omega) h)
  have C3 := hide (fun r va vb x h => bnum_any g a len cap bs s2 r va vb 8 x (by omega) h)
  rw [h0] at C0
  rw [h1] at C1
  rw [h2] at C2
  rw [h3] at C3
  have HGL := hide h.lt
  have hkd : kd = 7 := by rw [h0] at hk; exact hk
  subst hkd
  have hfin : Hid (pRec s = (⟨7, l, t, p, Ch.zero, 0, 0, 0, [], []⟩, s3)) := by
    show pRec s = _
    rw [rec_rest, h0]
    simp [recRest, bindP, pureP, pMay, h1, h2, h3]
  clear hs hk bt h0 h1 h2 h3
  have HB0 : Hid (RbAt w g a len cap bs s Rec.zero (.slice none 0 0) (.slice none 0 0) ∧ w.grownBy w (some g)) := ⟨h, grown_refl w _⟩
  clear h
  go_enter Try.func88, Try.ntmps88
  go_wp2_with fail
  refine (C0.out _ _ _ _ HB0.out.1).mono ?_
  rintro e x1 ⟨rfl, hb, hg⟩
  have HX : Hid (RbAt x1 g a len cap bs s0 Rec.zero (.slice none 0 0) (.slice none 0 0) ∧ w.grownBy x1 (some g)) := ⟨hb, grown_trans HB0.out.2 hg⟩
  clear hb hg HB0 C0
  obtain ⟨k, q, -, -⟩ := HX.out.1.row
  have c := q.cell 3 (.int .i64 0) rfl
  have f := q.free 3
  clear q
  have HB1 : Hid (RbAt (x1.setCell ⟨g, 3, none⟩ (.int .i64 7)) g a len cap bs s0 ⟨7, 0, 0, 0, Ch.zero, 0, 0, 0, [], []⟩ (.slice none 0 0) (.slice none 0 0) ∧ w.grownBy (x1.setCell ⟨g, 3, none⟩ (.int .i64 7)) (some g)) := ⟨HX.out.1.setc 3 (.int .i64 7) ⟨7, 0, 0, 0, Ch.zero, 0, 0, 0, [], []⟩ _ _ (fun _ => rfl), grown_set _ HX.out.2⟩
  clear HX
  go_wp2_with fail
  refine gen_calls (fun x => Hid (RbAt x g a len cap bs s0 ⟨7, 0, 0, 0, Ch.zero, 0, 0, 0, [], []⟩ (.slice none 0 0) (.slice none 0 0) ∧ w.grownBy x (some g))) HB1 ?_
  clear HB1 c f
  intro y1 HB1
  refine (C1.out _ _ _ _ HB1.out.1).mono ?_
  rintro e x2 ⟨rfl, hb, hg⟩
  have HX : Hid (RbAt x2 g a len cap bs s1 ⟨7, 0, 0, 0, Ch.zero, 0, 0, 0, [], []⟩ (.slice none 0 0) (.slice none 0 0) ∧ w.grownBy x2 (some g)) := ⟨hb, grown_trans HB1.out.2 hg⟩
  clear hb hg HB1 C1
  obtain ⟨k, q, -, -⟩ := HX.out.1.row
  have c := q.cell 4 (.int .u64 0) rfl
  have f := q.free 4
  clear q
  have HB2 : Hid (RbAt (x2.setCell ⟨g, 4, none⟩ (.int .u64 ((l : Nat) : Int))) g a len cap bs s1 ⟨7, l, 0, 0, Ch.zero, 0, 0, 0, [], []⟩ (.slice none 0 0) (.slice none 0 0) ∧ w.grownBy (x2.setCell ⟨g, 4, none⟩ (.int .u64 ((l : Nat) : Int))) (some g)) := ⟨HX.out.1.setc 4 (.int .u64 ((l : Nat) : Int)) ⟨7, l, 0, 0, Ch.zero, 0, 0, 0, [], []⟩ _ _ (fun _ => rfl), grown_set _ HX.out.2⟩
  clear HX
  go_wp2_with fail
  refine gen_calls (fun x => Hid (RbAt x g a len cap bs s1 ⟨7, l, 0, 0, Ch.zero, 0, 0, 0, [], []⟩ (.slice none 0 0) (.slice none 0 0) ∧ w.grownBy x (some g))) HB2 ?_
  clear HB2 c f
  intro y2 HB2
  refine (C2.out _ _ _ _ HB2.out.1).mono ?_
  rintro e x3 ⟨rfl, hb, hg⟩
  have HX : Hid (RbAt x3 g a len cap bs s2 ⟨7, l, 0, 0, Ch.zero, 0, 0, 0, [], []⟩ (.slice none 0 0) (.slice none 0 0) ∧ w.grownBy x3 (some g)) := ⟨hb, grown_trans HB2.out.2 hg⟩
  clear hb hg HB2 C2
  obtain ⟨k, q, -, -⟩ := HX.out.1.row
  have c := q.cell 5 (.int .i64 0) rfl
  have f := q.free 5
  clear q
  have HB3 : Hid (RbAt (x3.setCell ⟨g, 5, none⟩ (.int .i64 (t : Int))) g a len cap bs s2 ⟨7, l, t, 0, Ch.zero, 0, 0, 0, [], []⟩ (.slice none 0 0) (.slice none 0 0) ∧ w.grownBy (x3.setCell ⟨g, 5, none⟩ (.int .i64 (t : Int))) (some g)) := ⟨HX.out.1.setc 5 (.int .i64 (t : Int)) ⟨7, l, t, 0, Ch.zero, 0, 0, 0, [], []⟩ _ _ (fun _ => rfl), grown_set _ HX.out.2⟩
  clear HX
  go_wp2_with fail
  refine gen_calls (fun x => Hid (RbAt x g a len cap bs s2 ⟨7, l, t, 0, Ch.zero, 0, 0, 0, [], []⟩ (.slice none 0 0) (.slice none 0 0) ∧ w.grownBy x (some g))) HB3 ?_
  clear HB3 c f
  intro y3 HB3
  refine (C3.out _ _ _ _ HB3.out.1).mono ?_
  rintro e x4 ⟨rfl, hb, hg⟩
  have HX : Hid (RbAt x4 g a len cap bs s3 ⟨7, l, t, 0, Ch.zero, 0, 0, 0, [], []⟩ (.slice none 0 0) (.slice none 0 0) ∧ w.grownBy x4 (some g)) := ⟨hb, grown_trans HB3.out.2 hg⟩
  clear hb hg HB3 C3
  obtain ⟨k, q, -, -⟩ := HX.out.1.row
  have c := q.cell 6 (.int .u64 0) rfl
  have f := q.free 6
  have c3 := q.cell 3 (.int .i64 7) rfl
  clear q
  have HB4 : Hid (RbAt (x4.setCell ⟨g, 6, none⟩ (.int .u64 ((p : Nat) : Int))) g a len cap bs s3 ⟨7, l, t, p, Ch.zero, 0, 0, 0, [], []⟩ (.slice none 0 0) (.slice none 0 0) ∧ w.grownBy (x4.setCell ⟨g, 6, none⟩ (.int .u64 ((p : Nat) : Int))) (some g)) := ⟨HX.out.1.setc 6 (.int .u64 ((p : Nat) : Int)) ⟨7, l, t, p, Ch.zero, 0, 0, 0, [], []⟩ _ _ (fun _ => rfl), grown_set _ HX.out.2⟩
  clear HX
  go_wp2
  go_end0
  refine ⟨rfl, ⟨7, l, t, p, Ch.zero, 0, 0, 0, [], []⟩, _, _, by rw [hfin.out]; exact HB4.out.1, fun _ => by rw [hfin.out], World.ownsRow_nil _ _ _ _, World.ownsRow_nil _ _ _ _, HB4.out.2⟩
end Go.Proofs.Ytfbelaalmdcaaaa

/-
  The reader of package record: record, kind 8.
-/
namespace Go.Proofs.Ytfbelaalmdcaaaa
open Go.RowKit
set_option linter.unusedVariables false

set_option maxRecDepth 4000 in
set_option maxHeartbeats 3200000 in
theorem brec_8 (g : Nat) (a : Option Addr) (len cap : Nat) (bs : List UInt8) (s : St) (hs : s.e = 0) (w : World) (hk : (pIn 1 8 s).1 = 8) (h : RbAt w g a len cap bs s Rec.zero (.slice none 0 0) (.slice none 0 0)) :
    Calls Try.prog 88 #[.pointer (some ⟨g, 0, none⟩)] w fun e w' => e = .returned (.tuple #[]) ∧ RecDone w w' g a len cap bs s := by
  obtain ⟨kd, s0, h0⟩ : ∃ n s', pIn 1 8 s = (n, s') := ⟨_, _, rfl⟩
  obtain ⟨l, s1, h1⟩ : ∃ n s', pNum 8 s0 = (n, s') := ⟨_, _, rfl⟩
  obtain ⟨t, s2, h2⟩ : ∃ n s', pNum 4 s1 = (n, s') := ⟨_, _, rfl⟩
  obtain ⟨p, s3, h3⟩ : ∃ n s', pNum 8 s2 = (n, s') := ⟨_, _, rfl⟩
  have bt : t < 256 ^ 4 := by have := num_lt 4 s1; rw [h2] at this; exact this
  have ewt := conv_i64 t (by omega)
  have C0 := hide (fun r va vb x h => bkind_any g a len cap bs s r va vb x h)
  have C1 := hide (fun r va vb x h => bnum_any g a len cap bs s0 r va vb 8 x (by omega) h)
  have C2 := hide (fun r va vb x h => bnum_any g a len cap bs s1 r va vb 4 x (by omega) h)
  have C3 := hide (fun r va vb x h => bnum_any g a len cap bs s2 r va vb 8 x (by omega) h)
  rw [h0] at C0
  rw [h1] at C1
  rw [h2] at C2
  rw [h3] at C3
  have HGL := hide h.lt
  have hkd : kd = 8 := by rw [h0] at hk; exact hk
  subst hkd
  obtain ⟨n, s4, h4⟩ : ∃ n s', pNum 8 s3 = (n, s') := ⟨_, _, rfl⟩
  have C4 := hide (fun r va vb x h => bnum_any g a len cap bs s3 r va vb 8 x (by omega) h)
  rw [h4] at C4
  have T1 := cnt_some Good.tx 16 s4
  have D1 := hide (fun r va vb x h => btxns_any g a len cap bs s4 r va vb x h)
  obtain ⟨ts, hts⟩ : ∃ ts, ts = itL pTx (cntN 16 s4) (pIn 0 16 s4).2 := ⟨_, rfl⟩
  obtain ⟨s5, hs5⟩ : ∃ s', s' = itS pTx (cntN 16 s4) (pIn 0 16 s4).2 := ⟨_, rfl⟩
  have hl5 : cntN 16 s4 = ts.length := by rw [hts, itL_length]
  rw [← hts, ← hs5] at T1 D1
  have T2 := cnt_some Good.di 32 s5
  have D2 := hide (fun r va vb x h => bdirty_any g a len cap bs s5 r va vb x h)
  obtain ⟨ds, hds⟩ : ∃ ds, ds = itL pDi (cntN 32 s5) (pIn 0 32 s5).2 := ⟨_, rfl⟩
  obtain ⟨s6, hs6⟩ : ∃ s', s' = itS pDi (cntN 32 s5) (pIn 0 32 s5).2 := ⟨_, rfl⟩
  have hl6 : cntN 32 s5 = ds.length := by rw [hds, itL_length]
  rw [← hds, ← hs6] at T2 D2
  rw [hl5] at D1
  rw [hl6] at D2
  have C5 : Hid (∀ r va vb x, RbAt x g a len cap bs s4 r va vb → Calls Try.prog 101 #[.pointer (some ⟨g, 0, none⟩)] x fun e w' => ∃ v, e = .returned v ∧ w'.ownsRow x.heap.size 81 5 v ts.length (flatT ts) ∧ RbAt w' g a len cap bs s5 r va vb ∧ x.grownBy w' (some g)) := D1.out
  have C6 : Hid (∀ r va vb x, RbAt x g a len cap bs s5 r va vb → Calls Try.prog 102 #[.pointer (some ⟨g, 0, none⟩)] x fun e w' => ∃ v, e = .returned v ∧ w'.ownsRow x.heap.size 83 2 v ds.length (flatD ds) ∧ RbAt w' g a len cap bs s6 r va vb ∧ x.grownBy w' (some g)) := D2.out
  have hfin : Hid ((pRec s).2 = s6 ∧ ((pRec s).2.e = 0 → (pRec s).1 = ⟨8, l, t, p, Ch.zero, 0, 0, n, ts, ds⟩)) := by
    have e1 : pRec s = (⟨8, l, t, p, Ch.zero, 0, 0, n, (pSome pTx (pIn 0 16 s4).1 (pIn 0 16 s4).2).1, (pSome pDi (pIn 0 32 (pSome pTx (pIn 0 16 s4).1 (pIn 0 16 s4).2).2).1 (pIn 0 32 (pSome pTx (pIn 0 16 s4).1 (pIn 0 16 s4).2).2).2).1⟩, (pSome pDi (pIn 0 32 (pSome pTx (pIn 0 16 s4).1 (pIn 0 16 s4).2).2).1 (pIn 0 32 (pSome pTx (pIn 0 16 s4).1 (pIn 0 16 s4).2).2).2).2) := by
      rw [rec_rest, h0]
      simp [recRest, bindP, pureP, pMay, pCheck, h1, h2, h3, h4]
    rw [T1.1] at e1
    rw [e1]
    refine ⟨T2.1, fun h => ?_⟩
    have h6 := T2.2 h
    have h5 : s5.e = 0 := by
      by_cases hh : s5.e = 0
      · exact hh
      · have hst := ((Good.in 0 32).bind fun m => Good.some Good.di m).stick s5 hh
        have : (pSome pDi (pIn 0 32 s5).1 (pIn 0 32 s5).2).2 = s5 := hst
        rw [this] at h
        exact absurd h hh
    have h7 := T1.2 (by rw [T1.1]; exact h5)
    show (⟨8, l, t, p, Ch.zero, 0, 0, n, (pSome pTx (pIn 0 16 s4).1 (pIn 0 16 s4).2).1, (pSome pDi (pIn 0 32 s5).1 (pIn 0 32 s5).2).1⟩ : Rec) = _
    rw [h6, h7]
  clear h4 hts hs5 hds hs6 hl5 hl6 T1 T2 D1 D2
  clear hs hk bt h0 h1 h2 h3
  have HB0 : Hid (RbAt w g a len cap bs s Rec.zero (.slice none 0 0) (.slice none 0 0) ∧ w.grownBy w (some g)) := ⟨h, grown_refl w _⟩
  clear h
  go_enter Try.func88, Try.ntmps88
  go_wp2_with fail
  refine (C0.out _ _ _ _ HB0.out.1).mono ?_
  rintro e x1 ⟨rfl, hb, hg⟩
  have HX : Hid (RbAt x1 g a len cap bs s0 Rec.zero (.slice none 0 0) (.slice none 0 0) ∧ w.grownBy x1 (some g)) := ⟨hb, grown_trans HB0.out.2 hg⟩
  clear hb hg HB0 C0
  obtain ⟨k, q, -, -⟩ := HX.out.1.row
  have c := q.cell 3 (.int .i64 0) rfl
  have f := q.free 3
  clear q
  have HB1 : Hid (RbAt (x1.setCell ⟨g, 3, none⟩ (.int .i64 8)) g a len cap bs s0 ⟨8, 0, 0, 0, Ch.zero, 0, 0, 0, [], []⟩ (.slice none 0 0) (.slice none 0 0) ∧ w.grownBy (x1.setCell ⟨g, 3, none⟩ (.int .i64 8)) (some g)) := ⟨HX.out.1.setc 3 (.int .i64 8) ⟨8, 0, 0, 0, Ch.zero, 0, 0, 0, [], []⟩ _ _ (fun _ => rfl), grown_set _ HX.out.2⟩
  clear HX
  go_wp2_with fail
  refine gen_calls (fun x => Hid (RbAt x g a len cap bs s0 ⟨8, 0, 0, 0, Ch.zero, 0, 0, 0, [], []⟩ (.slice none 0 0) (.slice none 0 0) ∧ w.grownBy x (some g))) HB1 ?_
  clear HB1 c f
  intro y1 HB1
  refine (C1.out _ _ _ _ HB1.out.1).mono ?_
  rintro e x2 ⟨rfl, hb, hg⟩
  have HX : Hid (RbAt x2 g a len cap bs s1 ⟨8, 0, 0, 0, Ch.zero, 0, 0, 0, [], []⟩ (.slice none 0 0) (.slice none 0 0) ∧ w.grownBy x2 (some g)) := ⟨hb, grown_trans HB1.out.2 hg⟩
  clear hb hg HB1 C1
  obtain ⟨k, q, -, -⟩ := HX.out.1.row
  have c := q.cell 4 (.int .u64 0) rfl
  have f := q.free 4
  clear q
  have HB2 : Hid (RbAt (x2.setCell ⟨g, 4, none⟩ (.int .u64 ((l : Nat) : Int))) g a len cap bs s1 ⟨8, l, 0, 0, Ch.zero, 0, 0, 0, [], []⟩ (.slice none 0 0) (.slice none 0 0) ∧ w.grownBy (x2.setCell ⟨g, 4, none⟩ (.int .u64 ((l : Nat) : Int))) (some g)) := ⟨HX.out.1.setc 4 (.int .u64 ((l : Nat) : Int)) ⟨8, l, 0, 0, Ch.zero, 0, 0, 0, [], []⟩ _ _ (fun _ => rfl), grown_set _ HX.out.2⟩
  clear HX
  go_wp2_with fail
  refine gen_calls (fun x => Hid (RbAt x g a len cap bs s1 ⟨8, l, 0, 0, Ch.zero, 0, 0, 0, [], []⟩ (.slice none 0 0) (.slice none 0 0) ∧ w.grownBy x (some g))) HB2 ?_
  clear HB2 c f
  intro y2 HB2
  refine (C2.out _ _ _ _ HB2.out.1).mono ?_
  rintro e x3 ⟨rfl, hb, hg⟩
  have HX : Hid (RbAt x3 g a len cap bs s2 ⟨8, l, 0, 0, Ch.zero, 0, 0, 0, [], []⟩ (.slice none 0 0) (.slice none 0 0) ∧ w.grownBy x3 (some g)) := ⟨hb, grown_trans HB2.out.2 hg⟩
  clear hb hg HB2 C2
  obtain ⟨k, q, -, -⟩ := HX.out.1.row
  have c := q.cell 5 (.int .i64 0) rfl
  have f := q.free 5
  clear q
  have HB3 : Hid (RbAt (x3.setCell ⟨g, 5, none⟩ (.int .i64 (t : Int))) g a len cap bs s2 ⟨8, l, t, 0, Ch.zero, 0, 0, 0, [], []⟩ (.slice none 0 0) (.slice none 0 0) ∧ w.grownBy (x3.setCell ⟨g, 5, none⟩ (.int .i64 (t : Int))) (some g)) := ⟨HX.out.1.setc 5 (.int .i64 (t : Int)) ⟨8, l, t, 0, Ch.zero, 0, 0, 0, [], []⟩ _ _ (fun _ => rfl), grown_set _ HX.out.2⟩
  clear HX
  go_wp2_with fail
  refine gen_calls (fun x => Hid (RbAt x g a len cap bs s2 ⟨8, l, t, 0, Ch.zero, 0, 0, 0, [], []⟩ (.slice none 0 0) (.slice none 0 0) ∧ w.grownBy x (some g))) HB3 ?_
  clear HB3 c f
  intro y3 HB3
  refine (C3.out _ _ _ _ HB3.out.1).mono ?_
  rintro e x4 ⟨rfl, hb, hg⟩
  have HX : Hid (RbAt x4 g a len cap bs s3 ⟨8, l, t, 0, Ch.zero, 0, 0, 0, [], []⟩ (.slice none 0 0) (.slice none 0 0) ∧ w.grownBy x4 (some g)) := ⟨hb, grown_trans HB3.out.2 hg⟩
  clear hb hg HB3 C3
  obtain ⟨k, q, -, -⟩ := HX.out.1.row
  have c := q.cell 6 (.int .u64 0) rfl
  have f := q.free 6
  have c3 := q.cell 3 (.int .i64 8) rfl
  clear q
  have HB4 : Hid (RbAt (x4.setCell ⟨g, 6, none⟩ (.int .u64 ((p : Nat) : Int))) g a len cap bs s3 ⟨8, l, t, p, Ch.zero, 0, 0, 0, [], []⟩ (.slice none 0 0) (.slice none 0 0) ∧ w.grownBy (x4.setCell ⟨g, 6, none⟩ (.int .u64 ((p : Nat) : Int))) (some g)) := ⟨HX.out.1.setc 6 (.int .u64 ((p : Nat) : Int)) ⟨8, l, t, p, Ch.zero, 0, 0, 0, [], []⟩ _ _ (fun _ => rfl), grown_set _ HX.out.2⟩
  clear HX
  go_wp2_with fail
  refine gen_calls (fun x => Hid (RbAt x g a len cap bs s3 ⟨8, l, t, p, Ch.zero, 0, 0, 0, [], []⟩ (.slice none 0 0) (.slice none 0 0) ∧ w.grownBy x (some g))) HB4 ?_
  clear HB4 c f c3
  intro y4 HB4
  refine (C4.out _ _ _ _ HB4.out.1).mono ?_
  rintro e x5 ⟨rfl, hb, hg⟩
  have HX : Hid (RbAt x5 g a len cap bs s4 ⟨8, l, t, p, Ch.zero, 0, 0, 0, [], []⟩ (.slice none 0 0) (.slice none 0 0) ∧ w.grownBy x5 (some g)) := ⟨hb, grown_trans HB4.out.2 hg⟩
  clear hb hg HB4 C4
  obtain ⟨k, q, -, -⟩ := HX.out.1.row
  have c := q.cell 14 (.int .u64 0) rfl
  have f := q.free 14
  clear q
  have HB5 : Hid (RbAt (x5.setCell ⟨g, 14, none⟩ (.int .u64 ((n : Nat) : Int))) g a len cap bs s4 ⟨8, l, t, p, Ch.zero, 0, 0, n, [], []⟩ (.slice none 0 0) (.slice none 0 0) ∧ w.grownBy (x5.setCell ⟨g, 14, none⟩ (.int .u64 ((n : Nat) : Int))) (some g)) := ⟨HX.out.1.setc 14 (.int .u64 ((n : Nat) : Int)) ⟨8, l, t, p, Ch.zero, 0, 0, n, [], []⟩ _ _ (fun _ => rfl), grown_set _ HX.out.2⟩
  clear HX
  go_wp2_with fail
  refine gen_calls (fun x => Hid (RbAt x g a len cap bs s4 ⟨8, l, t, p, Ch.zero, 0, 0, n, [], []⟩ (.slice none 0 0) (.slice none 0 0) ∧ w.grownBy x (some g))) HB5 ?_
  clear HB5 c f
  intro y5 HB5
  refine (C5.out _ _ _ _ HB5.out.1).mono ?_
  rintro e x6 ⟨v, rfl, hown, hb, hg⟩
  have HX : Hid (RbAt x6 g a len cap bs s5 ⟨8, l, t, p, Ch.zero, 0, 0, n, [], []⟩ (.slice none 0 0) (.slice none 0 0) ∧ w.grownBy x6 (some g)) := ⟨hb, grown_trans HB5.out.2 hg⟩
  have HOA := hide (own_mono hown HB5.out.2.size)
  clear hb hg hown HB5 C5
  obtain ⟨k, q, -, -⟩ := HX.out.1.row
  have c := q.cell 15 (.slice none 0 0) rfl
  have f := q.free 15
  clear q
  obtain ⟨av, cv, hv⟩ := own_shape5 HOA.out
  have HB6 : Hid ((RbAt (x6.setCell ⟨g, 15, none⟩ v) g a len cap bs s5 ⟨8, l, t, p, Ch.zero, 0, 0, n, ts, []⟩ v (.slice none 0 0) ∧ w.grownBy (x6.setCell ⟨g, 15, none⟩ v) (some g)) ∧ (x6.setCell ⟨g, 15, none⟩ v).ownsRow w.heap.size 81 5 v ts.length (flatT ts)) := ⟨⟨HX.out.1.setc 15 v ⟨8, l, t, p, Ch.zero, 0, 0, n, ts, []⟩ v _ (fun _ => rfl), grown_set _ HX.out.2⟩, HOA.out.kept (grown_set v (grown_refl x6 (some g))) (.inr (fun e => own_ne HOA.out HGL.out e.symm))⟩
  clear HX HOA
  subst hv
  go_wp2_with fail
  refine gen_calls (fun x => Hid ((RbAt x g a len cap bs s5 ⟨8, l, t, p, Ch.zero, 0, 0, n, ts, []⟩ (.slice av ts.length cv) (.slice none 0 0) ∧ w.grownBy x (some g)) ∧ x.ownsRow w.heap.size 81 5 (.slice av ts.length cv) ts.length (flatT ts))) HB6 ?_
  clear HB6 c f
  intro y6 HB6
  refine (C6.out _ _ _ _ HB6.out.1.1).mono ?_
  rintro e x7 ⟨u, rfl, hown, hb, hg⟩
  have HX : Hid (RbAt x7 g a len cap bs s6 ⟨8, l, t, p, Ch.zero, 0, 0, n, ts, []⟩ (.slice av ts.length cv) (.slice none 0 0) ∧ w.grownBy x7 (some g)) := ⟨hb, grown_trans HB6.out.1.2 hg⟩
  have HOA := hide (HB6.out.2.kept hg (.inr (fun e => own_ne HB6.out.2 HGL.out e.symm)))
  have HOB := hide (own_mono hown HB6.out.1.2.size)
  clear hb hg hown HB6 C6
  obtain ⟨k, q, -, -⟩ := HX.out.1.row
  have c := q.cell 16 (.slice none 0 0) rfl
  have f := q.free 16
  clear q
  obtain ⟨au, cu, hu⟩ := own_shape5 HOB.out
  have HB7 : Hid ((RbAt (x7.setCell ⟨g, 16, none⟩ u) g a len cap bs s6 ⟨8, l, t, p, Ch.zero, 0, 0, n, ts, ds⟩ (.slice av ts.length cv) u ∧ w.grownBy (x7.setCell ⟨g, 16, none⟩ u) (some g)) ∧ (x7.setCell ⟨g, 16, none⟩ u).ownsRow w.heap.size 81 5 (.slice av ts.length cv) ts.length (flatT ts) ∧ (x7.setCell ⟨g, 16, none⟩ u).ownsRow w.heap.size 83 2 u ds.length (flatD ds)) := ⟨⟨HX.out.1.setc 16 u ⟨8, l, t, p, Ch.zero, 0, 0, n, ts, ds⟩ _ u (fun _ => rfl), grown_set _ HX.out.2⟩, HOA.out.kept (grown_set u (grown_refl x7 (some g))) (.inr (fun e => own_ne HOA.out HGL.out e.symm)), HOB.out.kept (grown_set u (grown_refl x7 (some g))) (.inr (fun e => own_ne HOB.out HGL.out e.symm))⟩
  clear HX HOA HOB
  subst hu
  go_wp2
  go_end0
  refine ⟨rfl, ⟨8, l, t, p, Ch.zero, 0, 0, n, ts, ds⟩, _, _, by rw [hfin.out.1]; exact HB7.out.1.1, fun h => (hfin.out.2 h).symm, HB7.out.2.1, HB7.out.2.2, HB7.out.1.2⟩
end Go.Proofs.Ytfbelaalmdcaaaa

/-
  What Decode's parser answers fits a machine; the lists of a record that was read.
-/
namespace Go.Proofs.Ytfbelaalmdcaaaa
open Go.RowKit
set_option linter.unusedVariables false

theorem wf_i64n (n : Nat) (h : n < 9223372036854775808) : (Lit.int .i64 (n : Int)).wf = true := by
  rw [← conv_i64 n h]
  exact wf_wrap _ _
theorem wf_u64n (n : Nat) (h : n < 18446744073709551616) : (Lit.int .u64 (n : Int)).wf = true := by
  have e : IntKind.u64.wrap (n : Int) = (n : Int) := by rw [IntKind.wrap_u64]; omega
  rw [← e]
  exact wf_wrap _ _
theorem text_len (s : St) : (pText s).1.size ≤ 255 := by
  unfold pText
  by_cases he : s.e ≠ 0
  · rw [if_pos he]
    exact Nat.zero_le _
  · rw [if_neg he]
    cases hs : s.l with
    | nil => exact Nat.zero_le _
    | cons b l =>
      simp only
      by_cases hk : b.toNat ≤ l.length
      · rw [if_pos hk]
        show (l.take b.toNat).toArray.size ≤ 255
        rw [List.size_toArray, List.length_take]
        have := b.toNat_lt
        omega
      · rw [if_neg hk]
        exact Nat.zero_le _
theorem num_wf (w : Nat) (hw : w ≤ 4) (s : St) : (Lit.int .i64 ((pNum w s).1 : Int)).wf = true := by
  have h := num_lt w s
  have h2 : 256 ^ w ≤ 256 ^ 4 := Nat.pow_le_pow_right (by omega) hw
  exact wf_i64n _ (by omega)
theorem num_wfu (w : Nat) (hw : w ≤ 8) (s : St) : (Lit.int .u64 ((pNum w s).1 : Int)).wf = true := by
  have h := num_lt w s
  have h2 : 256 ^ w ≤ 256 ^ 8 := Nat.pow_le_pow_right (by omega) hw
  exact wf_u64n _ (by omega)
theorem ch_fits (s : St) : (pCh s).1.fits := by
  have hm : (255 : Nat) ≤ maxLen := by unfold maxLen; omega
  exact ⟨num_wf 1 (by omega) _, num_wf 2 (by omega) _, num_wf 1 (by omega) _, Nat.le_trans (text_len _) hm, Nat.le_trans (text_len _) hm⟩
theorem tx_fits (s : St) : (pTx s).1.fits := ⟨num_wf 4 (by omega) _, num_wf 1 (by omega) _, num_wfu 8 (by omega) _, num_wfu 8 (by omega) _, num_wfu 8 (by omega) _⟩
theorem di_fits (s : St) : (pDi s).1.fits := ⟨num_wf 2 (by omega) _, num_wfu 8 (by omega) _⟩
theorem some_all {α : Type} {p : St → α × St} {G : α → Prop} (hp : ∀ s, G (p s).1) : ∀ n s, (∀ x ∈ (pSome p n s).1, G x) ∧ (pSome p n s).1.length ≤ n
  | 0, _ => ⟨fun x hx => (nomatch hx), Nat.le_refl _⟩
  | n + 1, s => by
    by_cases h : s.e ≠ 0
    · have e : pSome p (n + 1) s = ([], s) := by rw [pSome, if_pos h]
      rw [e]
      exact ⟨fun x hx => (nomatch hx), Nat.zero_le _⟩
    · have e : pSome p (n + 1) s = ((p s).1 :: (pSome p n (p s).2).1, (pSome p n (p s).2).2) := by rw [pSome, if_neg h]
      have ih := some_all hp n (p s).2
      rw [e]
      refine ⟨fun x hx => ?_, by show _ + 1 ≤ _; exact Nat.succ_le_succ ih.2⟩
      rcases List.mem_cons.1 hx with rfl | hx
      · exact hp s
      · exact ih.1 x hx
theorem may_ch_fits (q : Prop) [Decidable q] (s : St) : (pMay q Ch.zero pCh s).1.fits := by
  unfold pMay
  split
  · exact ch_fits s
  · exact zero_fits
theorem check_all (q : Prop) [Decidable q] (s : St) : (∀ x ∈ (pMay q (0, [], []) pCheck s).1.2.1, x.fits) ∧ (pMay q (0, [], []) pCheck s).1.2.1.length ≤ 255 ∧ (∀ x ∈ (pMay q (0, [], []) pCheck s).1.2.2, x.fits) ∧ (pMay q (0, [], []) pCheck s).1.2.2.length ≤ 255 := by
  unfold pMay
  split
  · have h1 := some_all (p := pTx) tx_fits (pIn 0 16 (pNum 8 s).2).1 (pIn 0 16 (pNum 8 s).2).2
    have h2 := some_all (p := pDi) di_fits (pIn 0 32 (pSome pTx (pIn 0 16 (pNum 8 s).2).1 (pIn 0 16 (pNum 8 s).2).2).2).1 (pIn 0 32 (pSome pTx (pIn 0 16 (pNum 8 s).2).1 (pIn 0 16 (pNum 8 s).2).2).2).2
    have b1 : (pIn 0 16 (pNum 8 s).2).1 ≤ 255 := by rw [in_val]; have := num_lt 1 (pNum 8 s).2; omega
    have b2 : (pIn 0 32 (pSome pTx (pIn 0 16 (pNum 8 s).2).1 (pIn 0 16 (pNum 8 s).2).2).2).1 ≤ 255 := by rw [in_val]; have := num_lt 1 (pSome pTx (pIn 0 16 (pNum 8 s).2).1 (pIn 0 16 (pNum 8 s).2).2).2; omega
    exact ⟨h1.1, Nat.le_trans h1.2 b1, h2.1, Nat.le_trans h2.2 b2⟩
  · exact ⟨fun x hx => (nomatch hx), Nat.zero_le _, fun x hx => (nomatch hx), Nat.zero_le _⟩
theorem rec_fits (s : St) : (pRec s).1.fits := by
  have hm : (255 : Nat) ≤ maxLen := by unfold maxLen; omega
  obtain ⟨c1, c2, c3, c4⟩ := check_all ((pIn 1 8 s).1 = 8) (pMay ((pIn 1 8 s).1 = 6) 0 (pNum 1) (pMay ((pIn 1 8 s).1 = 2) 0 (pNum 8) (pMay ((pIn 1 8 s).1 ≤ 2) Ch.zero pCh (pNum 8 (pNum 4 (pNum 8 (pIn 1 8 s).2).2).2).2).2).2).2
  exact ⟨may_ch_fits _ _, Nat.le_trans c2 hm, Nat.le_trans c4 hm, c1, c3⟩
theorem zero_rec_fits : Rec.zero.fits := ⟨zero_fits, Nat.zero_le _, Nat.zero_le _, fun x hx => (nomatch hx), fun x hx => (nomatch hx)⟩
theorem dec_fits (b : List UInt8) : (decR b).1.fits := by
  unfold decR
  split
  · exact zero_rec_fits
  · split
    · exact zero_rec_fits
    · exact rec_fits _

/-! ### The lists -/
def GotIn (base : Nat) (w : World) (r : Rec) (va vb : Value) : Prop := w.ownsRow base 81 5 va r.ts.length (flatT r.ts) ∧ w.ownsRow base 83 2 vb r.ds.length (flatD r.ds)
theorem GotIn.below {base : Nat} {w x : World} {r : Rec} {va vb : Value} (h : GotIn base w r va vb) (hb : Below w.heap.size w x) : GotIn base x r va vb := ⟨ownsRow_below h.1 hb, ownsRow_below h.2 hb⟩
theorem flat_get {α : Type} (f : α → Array Value) (n : Nat) (hf : ∀ x, (f x).size = n) (z : α) : ∀ (xs : List α) (i j : Nat), i < xs.length → j < n → (xs.flatMap fun x => (f x).toList)[i * n + j]? = (f (xs.getD i z)).toList[j]?
  | [], i, _, h, _ => absurd h (by simp)
  | x :: xs, 0, j, _, hj => by
    rw [List.flatMap_cons, List.getElem?_append_left (by rw [Array.length_toList, hf]; omega), Nat.zero_mul, Nat.zero_add]
    rfl
  | x :: xs, i + 1, j, h, hj => by
    have e : (i + 1) * n + j = (f x).toList.length + (i * n + j) := by rw [Array.length_toList, hf, Nat.add_mul, Nat.one_mul]; omega
    rw [List.flatMap_cons, e, List.getElem?_append_right (Nat.le_add_right _ _), Nat.add_sub_cancel_left]
    exact flat_get f n hf z xs i j (by simpa using h) hj
theorem own_rows {α : Type} (f : α → Array Value) (z : α) (n : Nat) (hf : ∀ x, (f x).size = n) {w : World} {base : Nat} {e : TypeId} {v : Value} {xs : List α} (h : w.ownsRow base e n v xs.length (xs.flatMap fun x => (f x).toList)) : RowsIn f z n w v xs := by
  rcases h.2 with ⟨h1, h2⟩ | ⟨g, cap, cur, h1, h2, h3, -⟩
  · exact ⟨none, 0, by rw [h1, h2], fun hp => absurd h2 (by omega)⟩
  · subst h1
    refine ⟨_, cap, rfl, fun hp => ⟨g, 0, rfl, (Array.getElem?_eq_some_iff.1 h3).1, fun i hi j u hu => ?_⟩⟩
    have hj : j < n := by
      have := (List.getElem?_eq_some_iff.1 hu).1
      rwa [Array.length_toList, hf] at this
    have hij : i * n + j < xs.length * n := by
      have h5 : (i + 1) * n ≤ xs.length * n := Nat.mul_le_mul_right n (by omega)
      rw [Nat.add_mul, Nat.one_mul] at h5
      omega
    rw [Nat.zero_add, h.cellAt (i * n + j) hij, flat_get f n hf z xs i j hi hj]
    exact hu
theorem GotIn.rc {base : Nat} {w : World} {r : Rec} {va vb : Value} (h : GotIn base w r va vb) : RcIn w r va vb := ⟨own_rows txA Tx.zero 5 (fun _ => rfl) h.1, own_rows diA Di.zero 2 (fun _ => rfl) h.2⟩
theorem RowAt.setSame {w : World} {b : Nat} {t : TypeId} {cs : Array Value} (h : RowAt w b t cs) (j : Nat) (v : Value) (hv : cs[j]? = some v) : RowAt (w.setCell ⟨b, j, none⟩ v) b t cs := by
  have h2 := h.set j v
  have e : cs.setIfInBounds j v = cs := by
    apply Array.ext_getElem?
    intro i
    rw [Array.getElem?_setIfInBounds]
    split
    · rename_i hij
      subst hij
      rw [hv]
      have := (Array.getElem?_eq_some_iff.1 hv).1
      simp [this]
    · rfl
  rwa [e] at h2

/-- THE CONTRACT of the reader's record. -/
theorem brecord_any (g : Nat) (a : Option Addr) (len cap : Nat) (bs : List UInt8) (s : St) (hs : s.e = 0) (w : World) (h : RbAt w g a len cap bs s Rec.zero (.slice none 0 0) (.slice none 0 0)) :
    Calls Try.prog 88 #[.pointer (some ⟨g, 0, none⟩)] w fun e w' => e = .returned (.tuple #[]) ∧ RecDone w w' g a len cap bs s := by
  by_cases hk : (pIn 1 8 s).2.e = 0
  · have hg := kind_good hk
    by_cases k1 : (pIn 1 8 s).1 = 1
    · exact brec_1 g a len cap bs s hs w k1 h
    by_cases k2 : (pIn 1 8 s).1 = 2
    · exact brec_2 g a len cap bs s hs w k2 h
    by_cases k3 : (pIn 1 8 s).1 = 3
    · exact brec_3 g a len cap bs s hs w k3 h
    by_cases k4 : (pIn 1 8 s).1 = 4
    · exact brec_4 g a len cap bs s hs w k4 h
    by_cases k5 : (pIn 1 8 s).1 = 5
    · exact brec_5 g a len cap bs s hs w k5 h
    by_cases k6 : (pIn 1 8 s).1 = 6
    · exact brec_6 g a len cap bs s hs w k6 h
    by_cases k7 : (pIn 1 8 s).1 = 7
    · exact brec_7 g a len cap bs s hs w k7 h
    exact brec_8 g a len cap bs s hs w (by omega) h
  · exact brec_no g a len cap bs s hs w hk h
end Go.Proofs.Ytfbelaalmdcaaaa

/-
  The contract of record.Decode.
-/
namespace Go.Proofs.Ytfbelaalmdcaaaa
open Go.RowKit
set_option linter.unusedVariables false

theorem rowat_drew {x : World} {b : Nat} {t : TypeId} {cs : Array Value} (h : RowAt x b t cs) : RowAt x.drew b t cs := h
theorem below_drew {B : Nat} {w x : World} (h : Below B w x) : Below B w x.drew := ⟨h.1, h.2, h.3, h.4, h.5⟩
/-- A row of the call's own, when a struct of another type is written. -/
theorem own_put {w w2 : World} {base n sz b : Nat} {e t : TypeId} {v : Value} {xs : List Value} {c0 : Array Value} (h : w.ownsRow base e sz v n xs) (hr : RowAt w b t c0) (ht : t ≠ e) (ho : ∀ k t' c', k ≠ b → RowAt w k t' c' → RowAt w2 k t' c') : w2.ownsRow base e sz v n xs := by
  refine ⟨h.1, h.2.imp id ?_⟩
  rintro ⟨g, cap, cur, h1, h2, h3, h4⟩
  refine ⟨g, cap, cur, h1, h2, ho g e cur (fun hg => ?_) h3, h4⟩
  subst hg
  have h5 := hr.symm.trans h3
  simp only [Option.some.injEq, Obj.cells.injEq] at h5
  exact ht h5.2.1
theorem rd_range {x : World} {g k : Nat} {v : Value} {e : Int} {r : Rec} {va vb : Value} (h : RowAt x g 130 (rdB v k e r va vb)) : x.rangeAt g 3 (rcA r va vb).toList := by
  intro j u hu
  have hj : j < 14 := (List.getElem?_eq_some_iff.1 hu).1
  refine h.cell (3 + j) u ?_
  rw [← hu, Array.getElem?_toList]
  match j, hj with
  | 0, _ => rfl
  | 1, _ => rfl
  | 2, _ => rfl
  | 3, _ => rfl
  | 4, _ => rfl
  | 5, _ => rfl
  | 6, _ => rfl
  | 7, _ => rfl
  | 8, _ => rfl
  | 9, _ => rfl
  | 10, _ => rfl
  | 11, _ => rfl
  | 12, _ => rfl
  | 13, _ => rfl

set_option maxRecDepth 4000 in
set_option maxHeartbeats 3200000 in
theorem dec_any (a : Option Addr) (len cap : Nat) (bs : List UInt8) (w : World) (hB : IsB w a len bs) (hl : len ≤ 140737488355328) (hc : len ≤ cap) :
    Calls Try.prog 78 #[.slice a len cap] w fun e w' => (∃ va vb, e = .returned (.tuple #[.agg (rcA (decR bs).1 va vb), .int .i64 (decR bs).2]) ∧ GotIn w.heap.size w' (decR bs).1 va vb) ∧ Below w.heap.size w w' := by
  have K2 := Keeps.two w 43 130 #[.int .i64 0, .int .u64 0, .int .i64 0, .int .u64 0, .int .i64 0, .int .i64 0, .int .i64 0, .string ⟨#[]⟩, .string ⟨#[]⟩, .int .u64 0, .int .i64 0, .int .u64 0, .slice none 0 0, .slice none 0 0] #[.slice a len cap, .int .i64 0, .int .i64 0, .int .i64 0, .int .u64 0, .int .i64 0, .int .u64 0, .int .i64 0, .int .i64 0, .int .i64 0, .string ⟨#[]⟩, .string ⟨#[]⟩, .int .u64 0, .int .i64 0, .int .u64 0, .slice none 0 0, .slice none 0 0]
  have HL2 := hide hB.1
  have HRB : Hid (RbAt ((w.alloc (.cells #[.int .i64 0, .int .u64 0, .int .i64 0, .int .u64 0, .int .i64 0, .int .i64 0, .int .i64 0, .string ⟨#[]⟩, .string ⟨#[]⟩, .int .u64 0, .int .i64 0, .int .u64 0, .slice none 0 0, .slice none 0 0] 43)).alloc (.cells #[.slice a len cap, .int .i64 0, .int .i64 0, .int .i64 0, .int .u64 0, .int .i64 0, .int .u64 0, .int .i64 0, .int .i64 0, .int .i64 0, .string ⟨#[]⟩, .string ⟨#[]⟩, .int .u64 0, .int .i64 0, .int .u64 0, .slice none 0 0, .slice none 0 0] 130)) (w.heap.size + 1) a len cap bs ⟨bs, 0⟩ Rec.zero (.slice none 0 0) (.slice none 0 0)) :=
    ⟨⟨0, K2.1.1, Nat.zero_le _, fun _ => rfl⟩, hB.below K2.2, ⟨hl, hc⟩, fun hp x hx => by
      obtain ⟨b, off, ha, hlt, _⟩ := hB.2 hp
      rw [ha] at hx
      cases hx
      show b < w.heap.size + 1
      omega⟩
  have HZR := hide (And.intro K2.1.2.1 K2.2)
  have HGI : Hid (w.heap.size ≤ w.heap.size ∧ w.heap.size ≠ w.heap.size + 1 ∧ w.heap.size ≤ w.heap.size + 1) := ⟨Nat.le_refl _, by omega, by omega⟩
  clear K2 hB hc
  have hml : len ≤ 140737488355328 := hl
  go_enter Try.func78, Try.ntmps78
  go_wp2_with fail
  obtain ⟨g, hg⟩ : ∃ g, g = w.heap.size + 1 := ⟨_, rfl⟩
  rw [← hg] at HRB HGI
  rw [← hg]
  refine gen_calls (fun x => Hid (RbAt x g a len cap bs ⟨bs, 0⟩ Rec.zero (.slice none 0 0) (.slice none 0 0)) ∧ Hid (RowAt x w.heap.size 43 #[.int .i64 0, .int .u64 0, .int .i64 0, .int .u64 0, .int .i64 0, .int .i64 0, .int .i64 0, .string ⟨#[]⟩, .string ⟨#[]⟩, .int .u64 0, .int .i64 0, .int .u64 0, .slice none 0 0, .slice none 0 0] ∧ Below w.heap.size w x)) ⟨HRB, HZR⟩ ?_
  clear HRB HZR hg
  rintro x0 ⟨HRB, HZR⟩
  have HGE := HGI
  refine (brecord_any g a len cap bs ⟨bs, 0⟩ rfl x0 HRB.out).mono ?_
  rintro e x1 ⟨rfl, r, va, vb, hrb, hreq, ho1, ho2, hgr⟩
  have HRB1 := hide hrb
  have HREQ := hide hreq
  have HGOT : Hid (GotIn w.heap.size x1 r va vb) := ⟨own_mono ho1 HZR.out.2.size, own_mono ho2 HZR.out.2.size⟩
  have HD : Hid (RowAt x1 w.heap.size 43 #[.int .i64 0, .int .u64 0, .int .i64 0, .int .u64 0, .int .i64 0, .int .i64 0, .int .i64 0, .string ⟨#[]⟩, .string ⟨#[]⟩, .int .u64 0, .int .i64 0, .int .u64 0, .slice none 0 0, .slice none 0 0] ∧ Below w.heap.size w x1) := ⟨row_grown HZR.out.1 hgr HGE.out.2.1, ⟨hgr.os.trans HZR.out.2.os, hgr.tape.trans HZR.out.2.tape, hgr.output.trans HZR.out.2.output, Nat.le_trans HZR.out.2.size hgr.size, fun k hk => (hgr.block k (Nat.lt_of_lt_of_le hk HZR.out.2.size) (fun e => by cases e; have := HGE.out.2.2; omega)).trans (HZR.out.2.block k hk)⟩⟩
  clear hrb hreq ho1 ho2 hgr HRB HZR HGI
  have HDR : Hid (decR bs = if (pRec ⟨bs, 0⟩).2.e ≠ 0 then (Rec.zero, (pRec ⟨bs, 0⟩).2.e) else if (pRec ⟨bs, 0⟩).2.l ≠ [] ∨ (pRec ⟨bs, 0⟩).1.rightB = false then (Rec.zero, 2) else ((pRec ⟨bs, 0⟩).1, 0)) := rfl
  have HFI := hide (rec_fits ⟨bs, 0⟩)
  generalize pRec ⟨bs, 0⟩ = pr at *
  obtain ⟨pr, s'⟩ := pr
  simp only at HREQ HDR HRB1 HFI
  obtain ⟨k, q, hkl, hd⟩ := HRB1.out.row
  have c2 := q.cell 2 (.int .i64 s'.e) rfl
  have HQ := hide q
  have HKL := hide hkl
  have HDL := hide hd
  clear q hkl hd
  by_cases he : s'.e = 0
  case neg =>
    have hdr : decR bs = (Rec.zero, s'.e) := by rw [HDR.out, if_pos he]
    have HDD := hide hdr
    have k0 : (s'.e == 0) = false := by rw [beq_eq_false_iff_ne]; exact he
    have k1 : (s'.e != 0) = true := by rw [bne, k0]; rfl
    clear hdr HDR he HREQ HQ HKL HDL HFI
    generalize s'.e = es at *
    have z0 := HD.out.1.cell 0 (.int .i64 0) rfl
    have zf0 := HD.out.1.free 0
    have z1 := HD.out.1.cell 1 (.int .u64 0) rfl
    have zf1 := HD.out.1.free 1
    have z2 := HD.out.1.cell 2 (.int .i64 0) rfl
    have zf2 := HD.out.1.free 2
    have z3 := HD.out.1.cell 3 (.int .u64 0) rfl
    have zf3 := HD.out.1.free 3
    have z4 := HD.out.1.cell 4 (.int .i64 0) rfl
    have zf4 := HD.out.1.free 4
    have z5 := HD.out.1.cell 5 (.int .i64 0) rfl
    have zf5 := HD.out.1.free 5
    have z6 := HD.out.1.cell 6 (.int .i64 0) rfl
    have zf6 := HD.out.1.free 6
    have z7 := HD.out.1.cell 7 (.string ⟨#[]⟩) rfl
    have zf7 := HD.out.1.free 7
    have z8 := HD.out.1.cell 8 (.string ⟨#[]⟩) rfl
    have zf8 := HD.out.1.free 8
    have z9 := HD.out.1.cell 9 (.int .u64 0) rfl
    have zf9 := HD.out.1.free 9
    have z10 := HD.out.1.cell 10 (.int .i64 0) rfl
    have zf10 := HD.out.1.free 10
    have z11 := HD.out.1.cell 11 (.int .u64 0) rfl
    have zf11 := HD.out.1.free 11
    have z12 := HD.out.1.cell 12 (.slice none 0 0) rfl
    have zf12 := HD.out.1.free 12
    have z13 := HD.out.1.cell 13 (.slice none 0 0) rfl
    have zf13 := HD.out.1.free 13
    have ne1 := HGE.out.2.1
    go_wp2_with fail
    go_region
    have HRW := hide ((((((((((((((HD.out.1.setSame 0 (.int .i64 0) rfl).setSame 1 (.int .u64 0) rfl).setSame 2 (.int .i64 0) rfl).setSame 3 (.int .u64 0) rfl).setSame 4 (.int .i64 0) rfl).setSame 5 (.int .i64 0) rfl).setSame 6 (.int .i64 0) rfl).setSame 7 (.string ⟨#[]⟩) rfl).setSame 8 (.string ⟨#[]⟩) rfl).setSame 9 (.int .u64 0) rfl).setSame 10 (.int .i64 0) rfl).setSame 11 (.int .u64 0) rfl).setSame 12 (.slice none 0 0) rfl).setSame 13 (.slice none 0 0) rfl)
    have HBW := hide ((((((((((((((HD.out.2.set1 HGE.out.1 0 (.int .i64 0)).set1 HGE.out.1 1 (.int .u64 0)).set1 HGE.out.1 2 (.int .i64 0)).set1 HGE.out.1 3 (.int .u64 0)).set1 HGE.out.1 4 (.int .i64 0)).set1 HGE.out.1 5 (.int .i64 0)).set1 HGE.out.1 6 (.int .i64 0)).set1 HGE.out.1 7 (.string ⟨#[]⟩)).set1 HGE.out.1 8 (.string ⟨#[]⟩)).set1 HGE.out.1 9 (.int .u64 0)).set1 HGE.out.1 10 (.int .i64 0)).set1 HGE.out.1 11 (.int .u64 0)).set1 HGE.out.1 12 (.slice none 0 0)).set1 HGE.out.1 13 (.slice none 0 0))
    refine gen_w (fun x => Hid (RowAt x w.heap.size 43 #[.int .i64 0, .int .u64 0, .int .i64 0, .int .u64 0, .int .i64 0, .int .i64 0, .int .i64 0, .string ⟨#[]⟩, .string ⟨#[]⟩, .int .u64 0, .int .i64 0, .int .u64 0, .slice none 0 0, .slice none 0 0]) ∧ Hid (Below w.heap.size w x)) (x := ((((((((((((((x1.setCell ⟨w.heap.size, 0, none⟩ (.int .i64 0)).setCell ⟨w.heap.size, 1, none⟩ (.int .u64 0)).setCell ⟨w.heap.size, 2, none⟩ (.int .i64 0)).setCell ⟨w.heap.size, 3, none⟩ (.int .u64 0)).setCell ⟨w.heap.size, 4, none⟩ (.int .i64 0)).setCell ⟨w.heap.size, 5, none⟩ (.int .i64 0)).setCell ⟨w.heap.size, 6, none⟩ (.int .i64 0)).setCell ⟨w.heap.size, 7, none⟩ (.string ⟨#[]⟩)).setCell ⟨w.heap.size, 8, none⟩ (.string ⟨#[]⟩)).setCell ⟨w.heap.size, 9, none⟩ (.int .u64 0)).setCell ⟨w.heap.size, 10, none⟩ (.int .i64 0)).setCell ⟨w.heap.size, 11, none⟩ (.int .u64 0)).setCell ⟨w.heap.size, 12, none⟩ (.slice none 0 0)).setCell ⟨w.heap.size, 13, none⟩ (.slice none 0 0)).drew) ⟨hide (rowat_drew HRW.out), hide (below_drew HBW.out)⟩ ?_
    clear HD HRW HBW z0 zf0 z1 zf1 z2 zf2 z3 zf3 z4 zf4 z5 zf5 z6 zf6 z7 zf7 z8 zf8 z9 zf9 z10 zf10 z11 zf11 z12 zf12 z13 zf13 ne1 c2
    rintro y0 ⟨HROW, HBL⟩
    go_wp2
    (try simp only [Exit.inBlock, Exit.then])
    refine bodyPost_ret (res_at rfl _ _ w.heap.size #[.int .i64 0, .int .u64 0, .int .i64 0, .int .u64 0, .int .i64 0, .int .i64 0, .int .i64 0, .string ⟨#[]⟩, .string ⟨#[]⟩, .int .u64 0, .int .i64 0, .int .u64 0, .slice none 0 0, .slice none 0 0] _ rfl HROW.out Try.underlying43 rfl infoRc) rfl ?_
    rw [HDD.out]
    exact ⟨⟨_, _, rfl, World.ownsRow_nil _ _ _ _, World.ownsRow_nil _ _ _ _⟩, HBL.out⟩
  rw [he] at c2 HQ
  obtain rfl := HREQ.out he
  obtain ⟨av, cv, hva⟩ := own_shape5 HGOT.out.1
  obtain ⟨au, cu, hvb⟩ := own_shape5 HGOT.out.2
  subst hva hvb
  have c1 := HQ.out.cell 1 (.int .i64 (k : Int)) rfl
  have HL0 := hide (HDL.out he)
  by_cases hk : k < len
  case pos =>
    have hne : s'.l ≠ [] := fun h => by
      have h2 := HL0.out
      rw [h] at h2
      have h3 := congrArg List.length h2
      rw [List.length_drop, HL2.out] at h3
      have h4 : len - k = 0 := h3
      omega
    have hdr : decR bs = (Rec.zero, 2) := by rw [HDR.out, if_neg (fun h => h he), if_pos (.inl hne)]
    clear hne
    have HDD := hide hdr
    have i1 : (k : Int) < (len : Int) := by omega
    clear hdr HDR he HREQ HQ HKL HDL HFI HL0
    go_wp2_with (refine wpList_store_at rfl 43 (.tmp 2) (.tmp 25) rfl w.heap.size #[.int .i64 0, .int .u64 0, .int .i64 0, .int .u64 0, .int .i64 0, .int .i64 0, .int .i64 0, .string ⟨#[]⟩, .string ⟨#[]⟩, .int .u64 0, .int .i64 0, .int .u64 0, .slice none 0 0, .slice none 0 0] #[.int .i64 0, .int .u64 0, .int .i64 0, .int .u64 0, .int .i64 0, .int .i64 0, .int .i64 0, .string ⟨#[]⟩, .string ⟨#[]⟩, .int .u64 0, .int .i64 0, .int .u64 0, .slice none 0 0, .slice none 0 0] rfl rfl HD.out.1 infoRc rfl (by simp [Value.oneCell']) ?_)
    intro w9 hr9 hk9 _
    have HROW := hide hr9
    have HBL := hide (hk9 _ _ HD.out.2 (Nat.le_refl _))
    clear hr9 hk9 HD c1 c2
    go_wp2
    (try simp only [Exit.inBlock, Exit.then])
    refine bodyPost_ret (res_at rfl _ _ w.heap.size #[.int .i64 0, .int .u64 0, .int .i64 0, .int .u64 0, .int .i64 0, .int .i64 0, .int .i64 0, .string ⟨#[]⟩, .string ⟨#[]⟩, .int .u64 0, .int .i64 0, .int .u64 0, .slice none 0 0, .slice none 0 0] _ rfl HROW.out Try.underlying43 rfl infoRc) rfl ?_
    rw [HDD.out]
    exact ⟨⟨_, _, rfl, World.ownsRow_nil _ _ _ _, World.ownsRow_nil _ _ _ _⟩, HBL.out⟩
  have hln : s'.l = [] := by
    have h2 := HL0.out
    rw [← h2]
    apply List.drop_eq_nil_of_le
    rw [HL2.out]
    omega
  have i1 : ¬ (k : Int) < (len : Int) := by omega
  have r0 := HQ.out.cell 3 (.int .i64 r.k) rfl
  have r1 := HQ.out.cell 4 (.int .u64 (r.l : Int)) rfl
  have r2 := HQ.out.cell 5 (.int .i64 r.t) rfl
  have r3 := HQ.out.cell 6 (.int .u64 (r.p : Int)) rfl
  have r4 := HQ.out.cell 7 (.int .i64 r.c.k) rfl
  have r5 := HQ.out.cell 8 (.int .i64 r.c.pg) rfl
  have r6 := HQ.out.cell 9 (.int .i64 r.c.sl) rfl
  have r7 := HQ.out.cell 10 (.string r.c.o) rfl
  have r8 := HQ.out.cell 11 (.string r.c.n) rfl
  have r9 := HQ.out.cell 12 (.int .u64 (r.n : Int)) rfl
  have r10 := HQ.out.cell 13 (.int .i64 r.s) rfl
  have r11 := HQ.out.cell 14 (.int .u64 (r.b : Int)) rfl
  have r12 := HQ.out.cell 15 (.slice av r.ts.length cv) rfl
  have r13 := HQ.out.cell 16 (.slice au r.ds.length cu) rfl
  by_cases hr : r.right
  case neg =>
    have hdr : decR bs = (Rec.zero, 2) := by rw [HDR.out, if_neg (fun h => h he), if_pos (.inr (rightB_no hr))]
    have HDD := hide hdr
    have HR := hide (right_at r (.slice av r.ts.length cv) (.slice au r.ds.length cu) x1 false (hide ⟨fun h => (nomatch h), fun h => absurd h hr⟩) HFI.out HGOT.out.rc)
    clear hdr HDR he HREQ HQ HKL HDL HFI HL0 hr hln hk
    go_wp2_with fail
    refine HR.out.mono ?_
    rintro e x2 ⟨rfl, hb2⟩
    have HD2 : Hid (RowAt x2 w.heap.size 43 #[.int .i64 0, .int .u64 0, .int .i64 0, .int .u64 0, .int .i64 0, .int .i64 0, .int .i64 0, .string ⟨#[]⟩, .string ⟨#[]⟩, .int .u64 0, .int .i64 0, .int .u64 0, .slice none 0 0, .slice none 0 0] ∧ Below w.heap.size w x2) := ⟨HD.out.1.later hb2, HD.out.2.trans (hb2.mono HD.out.2.size)⟩
    clear hb2 HD HR c1 c2 r0 r1 r2 r3 r4 r5 r6 r7 r8 r9 r10 r11 r12 r13
    go_wp2_with (refine wpList_store_at rfl 43 (.tmp 2) (.tmp 25) rfl w.heap.size #[.int .i64 0, .int .u64 0, .int .i64 0, .int .u64 0, .int .i64 0, .int .i64 0, .int .i64 0, .string ⟨#[]⟩, .string ⟨#[]⟩, .int .u64 0, .int .i64 0, .int .u64 0, .slice none 0 0, .slice none 0 0] #[.int .i64 0, .int .u64 0, .int .i64 0, .int .u64 0, .int .i64 0, .int .i64 0, .int .i64 0, .string ⟨#[]⟩, .string ⟨#[]⟩, .int .u64 0, .int .i64 0, .int .u64 0, .slice none 0 0, .slice none 0 0] rfl rfl HD2.out.1 infoRc rfl (by simp [Value.oneCell']) ?_)
    intro w9 hr9 hk9 _
    have HROW := hide hr9
    have HBL := hide (hk9 _ _ HD2.out.2 (Nat.le_refl _))
    clear hr9 hk9 HD2
    go_wp2
    (try simp only [Exit.inBlock, Exit.then])
    refine bodyPost_ret (res_at rfl _ _ w.heap.size #[.int .i64 0, .int .u64 0, .int .i64 0, .int .u64 0, .int .i64 0, .int .i64 0, .int .i64 0, .string ⟨#[]⟩, .string ⟨#[]⟩, .int .u64 0, .int .i64 0, .int .u64 0, .slice none 0 0, .slice none 0 0] _ rfl HROW.out Try.underlying43 rfl infoRc) rfl ?_
    rw [HDD.out]
    exact ⟨⟨_, _, rfl, World.ownsRow_nil _ _ _ _, World.ownsRow_nil _ _ _ _⟩, HBL.out⟩
  have hdr : decR bs = (r, 0) := by rw [HDR.out, if_neg (fun h => h he), if_neg (fun h => h.elim (fun h => h hln) (fun h => by rw [rightB_yes hr] at h; cases h))]
  have HDD := hide hdr
  have HR := hide (right_at r (.slice av r.ts.length cv) (.slice au r.ds.length cu) x1 true (hide ⟨fun _ => hr, fun _ => rfl⟩) HFI.out HGOT.out.rc)
  clear hdr HDR he HREQ HKL HDL HFI HL0 hr hln hk
  go_wp2_with fail
  refine HR.out.mono ?_
  rintro e x2 ⟨rfl, hb2⟩
  have HD2 : Hid (RowAt x2 w.heap.size 43 #[.int .i64 0, .int .u64 0, .int .i64 0, .int .u64 0, .int .i64 0, .int .i64 0, .int .i64 0, .string ⟨#[]⟩, .string ⟨#[]⟩, .int .u64 0, .int .i64 0, .int .u64 0, .slice none 0 0, .slice none 0 0] ∧ Below w.heap.size w x2) := ⟨HD.out.1.later hb2, HD.out.2.trans (hb2.mono HD.out.2.size)⟩
  have HGOT2 := hide (HGOT.out.below hb2)
  have HRG : Hid (x2.rangeAt g 3 (rcA r (.slice av r.ts.length cv) (.slice au r.ds.length cu)).toList) := rd_range (HQ.out.later hb2)
  clear hb2 HD HR HQ HGOT c1 c2 r0 r1 r2 r3 r4 r5 r6 r7 r8 r9 r10 r11 r12 r13
  go_wp2_with (first | (refine wpList_load_mid rfl 43 (.tmp 26) rfl g 3 (rcA r (.slice av r.ts.length cv) (.slice au r.ds.length cu)) rfl HRG.out _ Try.underlying43 rfl infoRc ?_) | (refine wpList_store_at rfl 43 (.tmp 2) (.tmp 27) rfl w.heap.size #[.int .i64 0, .int .u64 0, .int .i64 0, .int .u64 0, .int .i64 0, .int .i64 0, .int .i64 0, .string ⟨#[]⟩, .string ⟨#[]⟩, .int .u64 0, .int .i64 0, .int .u64 0, .slice none 0 0, .slice none 0 0] (rcA r (.slice av r.ts.length cv) (.slice au r.ds.length cu)) rfl rfl HD2.out.1 infoRc rfl (by simp [rcA, Value.oneCell']) ?_))
  intro w9 hr9 hk9 ho9
  have HROW := hide hr9
  have HBL := hide (hk9 _ _ HD2.out.2 (Nat.le_refl _))
  have HG9 : Hid (GotIn w.heap.size w9 r (.slice av r.ts.length cv) (.slice au r.ds.length cu)) := ⟨own_put HGOT2.out.1 HD2.out.1 (by decide) ho9, own_put HGOT2.out.2 HD2.out.1 (by decide) ho9⟩
  clear hr9 hk9 HD2 HGOT2 HRG ho9
  go_wp2
  (try simp only [Exit.inBlock, Exit.then])
  refine bodyPost_ret (res_at rfl _ _ w.heap.size (rcA r (.slice av r.ts.length cv) (.slice au r.ds.length cu)) _ rfl HROW.out Try.underlying43 rfl infoRc) rfl ?_
  rw [HDD.out]
  exact ⟨⟨_, _, rfl, HG9.out⟩, HBL.out⟩
end Go.Proofs.Ytfbelaalmdcaaaa

/-
  The contracts of package sum.
-/
namespace Go.Proofs.Ytfbelaalmdcaaaa
open Go.RowKit
set_option linter.unusedVariables false


theorem sx_yes (q : Nat) (hq : q < 2 ^ 32) (ht : q % 2 = 1) : bits .xor .u32 ((q : Int) / 2) 3988292384 = ((stp q : Nat) : Int) := by
  have e : ((q : Int) / 2) = ((q / 2 : Nat) : Int) := by omega
  have e2 : (3988292384 : Int) = ((3988292384 : Nat) : Int) := rfl
  rw [e, e2, u32_xor_nat (q / 2) 3988292384 (by omega) (by omega), stp, if_pos ht]
  rfl
theorem sx_no (q : Nat) (ht : ¬ q % 2 = 1) : (q : Int) / 2 = ((stp q : Nat) : Int) := by
  rw [stp, if_neg ht]
  omega

theorem sx_and (q : Nat) (hq : q < 2 ^ 32) : bits .and .u32 (q : Int) 1 = ((q % 2 : Nat) : Int) := by
  have e := u32_and_nat q 1 (by omega) (by omega)
  rw [Nat.and_one_is_mod] at e
  exact e
theorem sx_t (q : Nat) (hq : q < 2 ^ 32) (ht : q % 2 = 1) : (bits .and .u32 (q : Int) 1 == 1) = true := by
  rw [sx_and q hq, ht]
  rfl
theorem sx_f (q : Nat) (hq : q < 2 ^ 32) (ht : ¬ q % 2 = 1) : (bits .and .u32 (q : Int) 1 == 1) = false := by
  have h0 : q % 2 = 0 := by omega
  rw [sx_and q hq, h0]
  rfl

set_option maxRecDepth 4000 in
set_option maxHeartbeats 400000 in
theorem shift_at (r c x : Nat) (w : World) (hr : r < 2 ^ 32) (hc : c < 256) (hx : x < 2 ^ 32) (e0 : bits .xor .u32 (r : Int) (c : Int) = ((x : Nat) : Int)) :
    Calls Try.prog 97 #[.int .u32 r, .int .u8 c] w fun e w' => e = .returned (.int .u32 (stps 8 x : Nat)) ∧ w = w' := by
  go_enter Try.func97, Try.ntmps97
  go_wp2
  clear e0
  go_loop [0, 10] (fun q i => ∃ j : Nat, j ≤ 8 ∧ i = .int .i64 j ∧ q = .int .u32 (stps j x : Nat)) (fun _ i => 8 - (intOf i).toNat)
  case atStart => exact ⟨0, Nat.zero_le _, rfl, rfl⟩
  case round =>
    obtain ⟨j, hj, rfl, rfl⟩ := hrel
    by_cases hlt : j < 8
    · have hq := stps_lt j x hx
      have hs := stps_succ j x
      generalize stps j x = q at *
      by_cases ht : q % 2 = 1
      · have h1 := sx_t q hq ht
        go_wp2
        go_round
        case rel => exact ⟨j + 1, by omega, by go_num, by rw [hs]; exact congrArg (Value.int .u32) (sx_yes q hq ht)⟩
        case measure => simp [intOf]; omega
      · have h1 := sx_f q hq ht
        go_wp2
        go_round
        case rel => exact ⟨j + 1, by omega, by go_num, by rw [hs]; exact congrArg (Value.int .u32) (sx_no q ht)⟩
        case measure => simp [intOf]; omega
    · go_wp2
      go_ret
      obtain rfl : j = 8 := by omega
      exact ⟨rfl, rfl⟩

theorem shift_any (r : Nat) (c : UInt8) (w : World) (hr : r < 2 ^ 32) :
    Calls Try.prog 97 #[.int .u32 r, .int .u8 c.toNat] w fun e w' => e = .returned (.int .u32 (byteS r c : Nat)) ∧ w = w' :=
  shift_at r c.toNat (r ^^^ c.toNat) w hr c.toNat_lt (Nat.xor_lt_two_pow hr (u8_lt32 c)) (u32_xor_nat r c.toNat (by omega) (by have := c.toNat_lt; omega))

theorem told_step (q m j x : Nat) (hj : j < 4) (hm : m < 256) (hq : q < 256 ^ j) (hx : x = q + m * 256 ^ j) : bits .or .u32 (q : Int) ((m : Int) * 2 ^ (8 * j) % 4294967296) = ((x : Nat) : Int) := by
  subst hx
  have hp : 256 ^ j * 256 ≤ 4294967296 := by
    have h2 : 256 ^ (j + 1) ≤ 256 ^ 4 := Nat.pow_le_pow_right (by omega) (by omega)
    rw [Nat.pow_succ] at h2
    exact h2
  have e1 : (2 : Int) ^ (8 * j) = ((256 ^ j : Nat) : Int) := by
    rw [Int.pow_mul]
    simp
  have hmx : m * 256 ^ j + 256 ^ j ≤ 4294967296 := by
    have h3 : (m + 1) * 256 ^ j ≤ 256 * 256 ^ j := Nat.mul_le_mul_right _ (by omega)
    rw [Nat.add_mul, Nat.one_mul] at h3
    omega
  have e2 : (m : Int) * 2 ^ (8 * j) % 4294967296 = ((m * 256 ^ j : Nat) : Int) := by
    have e3 : (m : Int) * ((256 ^ j : Nat) : Int) = ((m * 256 ^ j : Nat) : Int) := by rw [Int.natCast_mul]
    rw [e1, e3]
    omega
  have hpw : 256 ^ j = 2 ^ (8 * j) := by rw [Nat.pow_mul]
  rw [e2, u32_or_nat q (m * 256 ^ j) (by omega) (by omega)]
  have e4 : q ||| m * 256 ^ j = q + m * 256 ^ j := by
    rw [Nat.or_comm, hpw, Nat.mul_comm m, ← Nat.two_pow_add_eq_or_of_lt (by rw [← hpw]; exact hq), Nat.add_comm]
  rw [e4]

set_option maxRecDepth 4000 in
set_option maxHeartbeats 400000 in
theorem told_ok (b off cap : Nat) (bs : List UInt8) (w : World) (hb : bs.length = 4)
    (hc : ∀ j, j < 4 → w.cell? ⟨b, off + j, none⟩ = some (.int .u8 ((bs.getD j 0).toNat : Int))) :
    Calls Try.prog 87 #[.slice (some ⟨b, off, none⟩) 4 cap] w fun e w' => e = .returned (.int .u32 (leN bs : Nat)) ∧ w = w' := by
  go_enter Try.func87, Try.ntmps87
  go_wp2
  go_loop [3, 5] (fun q i => ∃ j : Nat, j ≤ 4 ∧ i = .int .i64 j ∧ q = .int .u32 (leN (bs.take j) : Nat)) (fun _ i => 4 - (intOf i).toNat)
  case atStart => exact ⟨0, Nat.zero_le _, rfl, rfl⟩
  case round =>
    obtain ⟨j, hj, rfl, rfl⟩ := hrel
    by_cases hlt : j < 4
    · have hq := leN_lt (bs.take j)
      rw [List.length_take, Nat.min_eq_left (by omega)] at hq
      have hs := leN_take bs j (by omega)
      have hcj := hc j hlt
      have hm : (bs.getD j 0).toNat < 256 := (bs.getD j 0).toNat_lt
      clear hc
      generalize leN (bs.take j) = q at *
      generalize (bs.getD j 0).toNat = m at *
      go_wp2
      go_round
      case rel => exact ⟨j + 1, by omega, by go_num, congrArg (Value.int .u32) (told_step q m j _ hlt hm hq hs)⟩
      case measure => simp [intOf]; omega
    · go_wp2
      go_ret
      obtain rfl : j = 4 := by omega
      rw [List.take_of_length_le (by omega)]
      exact ⟨rfl, rfl⟩

theorem um_xor (m : Nat) (hm : m < 2 ^ 32) : bits .xor .u32 IntKind.u32.max (m : Int) = ((ones ^^^ m : Nat) : Int) := u32_xor_nat ones m (by decide) (by omega)

set_option maxRecDepth 4000 in
set_option maxHeartbeats 400000 in
theorem more_at (m x : Nat) (a : Option Addr) (len cap : Nat) (bs : List UInt8) (w : World) (hm : m < 2 ^ 32) (hx : x < 2 ^ 32) (hB : IsB w a len bs) (hl : len ≤ 140737488355328)
    (e0 : bits .xor .u32 IntKind.u32.max (m : Int) = ((x : Nat) : Int)) :
    Calls Try.prog 84 #[.int .u32 m, .slice a len cap] w fun e w' => e = .returned (.int .u32 (ones ^^^ crun x bs : Nat)) ∧ w = w' := by
  have hsg : ¬ IntKind.u32.signed = true := by decide
  go_enter Try.func84, Try.ntmps84
  go_wp2
  clear e0
  go_loop [5, 12] (fun q i => ∃ j : Nat, j ≤ len ∧ i = .int .i64 j ∧ q = .int .u32 (crun x (bs.take j) : Nat)) (fun _ i => len - (intOf i).toNat)
  case atStart => exact ⟨0, Nat.zero_le _, rfl, rfl⟩
  case round =>
    obtain ⟨j, hj, rfl, rfl⟩ := hrel
    by_cases hlt : j < len
    · obtain ⟨b, off, rfl, hbl, hc⟩ := hB.2 (by omega)
      have hq := crun_lt (bs.take j) x hx
      have hs : crun x (bs.take (j + 1)) = byteS (crun x (bs.take j)) (bs.getD j 0) := by
        have hjl : j < bs.length := by rw [hB.1]; exact hlt
        rw [List.take_succ_eq_append_getElem hjl, crun_snoc]
        simp [List.getD, List.getElem?_eq_getElem hjl]
      have hcj := hc j hlt
      clear hc hB
      generalize crun x (bs.take j) = q at *
      have R := shift_any q (bs.getD j 0) w hq
      have hm : (bs.getD j 0).toNat < 256 := (bs.getD j 0).toNat_lt
      generalize byteS q (bs.getD j 0) = q2 at *
      generalize (bs.getD j 0).toNat = c at *
      have HR := hide R
      clear R
      go_wp2_with fail
      refine HR.out.mono ?_
      rintro e w1 ⟨rfl, rfl⟩
      go_wp2
      go_round
      case rel => exact ⟨j + 1, by omega, by go_num, by rw [hs]⟩
      case measure => simp [intOf]; omega
    · obtain rfl : j = len := by omega
      have hx2 := crun_lt (bs.take j) x hx
      have e1 := um_xor _ hx2
      go_wp2
      go_ret
      have e2 := hB.1
      rw [List.take_of_length_le (by omega)]
      exact ⟨rfl, rfl⟩

theorem more_any (m : Nat) (a : Option Addr) (len cap : Nat) (bs : List UInt8) (w : World) (hm : m < 2 ^ 32) (hB : IsB w a len bs) (hl : len ≤ 140737488355328) :
    Calls Try.prog 84 #[.int .u32 m, .slice a len cap] w fun e w' => e = .returned (.int .u32 (crcMore m bs : Nat)) ∧ w = w' :=
  more_at m (ones ^^^ m) a len cap bs w hm (Nat.xor_lt_two_pow ones_lt hm) hB hl (um_xor m hm)

set_option maxRecDepth 4000 in
set_option maxHeartbeats 400000 in
theorem of_any (a : Option Addr) (len cap : Nat) (bs : List UInt8) (w : World) (hB : IsB w a len bs) (hl : len ≤ 140737488355328) :
    Calls Try.prog 70 #[.slice a len cap] w fun e w' => e = .returned (.int .u32 (crc bs : Nat)) ∧ w = w' := by
  have e0 : crcMore 0 bs = crc bs := by rw [crcMore, crc, Nat.xor_zero]
  have R := more_any 0 a len cap bs w (by decide) hB hl
  rw [e0] at R
  have HR := hide R
  clear R
  go_enter Try.func70, Try.ntmps70
  go_wp2_with fail
  refine HR.out.mono ?_
  rintro e w1 ⟨rfl, rfl⟩
  go_wp2
  go_ret
  exact ⟨rfl, rfl⟩

set_option maxRecDepth 4000 in
set_option maxHeartbeats 400000 in
theorem open_short (a : Option Addr) (len cap : Nat) (w : World) (h : len < 4) :
    Calls Try.prog 77 #[.slice a len cap] w fun e w' => e = .returned (.tuple #[.slice none 0 0, .int .i64 4]) ∧ w = w' := by
  go_enter Try.func77, Try.ntmps77
  go_wp2
  go_ret2
  exact ⟨rfl, rfl⟩

theorem below_drw {B : Nat} {w w' : World} (h : Below B w w') (k : Nat) : Below B w (w'.drewN k) := ⟨h.1, h.2, h.3, h.4, h.5⟩
theorem isB_drewN {w : World} {a : Option Addr} {len k : Nat} {bs : List UInt8} (h : IsB w a len bs) : IsB (w.drewN k) a len bs := h

theorem told_any (a : Option Addr) (cap : Nat) (bs : List UInt8) (w : World) (hB : IsB w a 4 bs) :
    Calls Try.prog 87 #[.slice a 4 cap] w fun e w' => e = .returned (.int .u32 (leN bs : Nat)) ∧ w = w' := by
  obtain ⟨b, off, rfl, _, hc⟩ := hB.2 (by omega)
  exact told_ok b off cap bs w hB.1 hc

theorem of_q (a : Option Addr) (len cap k : Nat) (bs : List UInt8) (w : World) (hB : IsB w a len bs) (hl : len ≤ 140737488355328) :
    Calls Try.prog 70 #[.slice a len cap] (w.drewN k) fun e w' => e = .returned (.int .u32 (crc bs : Nat)) ∧ w' = w.drewN k :=
  (of_any a len cap bs (w.drewN k) (isB_drewN hB) hl).mono fun e w' ⟨he, hw⟩ => ⟨he, hw.symm⟩
theorem told_q (a : Option Addr) (cap k : Nat) (bs : List UInt8) (w : World) (hB : IsB w a 4 bs) :
    Calls Try.prog 87 #[.slice a 4 cap] (w.drewN k) fun e w' => e = .returned (.int .u32 (leN bs : Nat)) ∧ w' = w.drewN k :=
  (told_any a cap bs (w.drewN k) (isB_drewN hB)).mono fun e w' ⟨he, hw⟩ => ⟨he, hw.symm⟩

set_option maxRecDepth 4000 in
set_option maxHeartbeats 400000 in
theorem open_no (b off n cap x y : Nat) (w : World) (hcap : n + 4 ≤ cap) (hl : n ≤ 140737488355328) (hne : ((x : Int) != (y : Int)) = true)
    (H1 : Hid (∀ k cap, Calls Try.prog 70 #[.slice (some ⟨b, off, none⟩) n cap] (w.drewN k) fun e w' => e = .returned (.int .u32 (x : Nat)) ∧ w' = w.drewN k))
    (H2 : Hid (∀ k cap, Calls Try.prog 87 #[.slice (some ⟨b, off + n, none⟩) 4 cap] (w.drewN k) fun e w' => e = .returned (.int .u32 (y : Nat)) ∧ w' = w.drewN k)) :
    Calls Try.prog 77 #[.slice (some ⟨b, off, none⟩) (n + 4) cap] w fun e w' => e = .returned (.tuple #[.slice none 0 0, .int .i64 3]) ∧ Below w.heap.size w w' := by
  go_enter Try.func77, Try.ntmps77
  go_wp2_with fail
  go_quiet (first | (go_at_call 70; exact Calls.quiet_of_same (H1.out _ _)) | (go_at_call 87; exact Calls.quiet_of_same (H2.out _ _)))
  go_wp2
  go_ret2
  exact ⟨rfl, below_drw (Below.refl _ _) nq⟩

set_option maxRecDepth 4000 in
set_option maxHeartbeats 400000 in
theorem open_yes (b off n cap x : Nat) (bs : List UInt8) (w : World) (hcap : n + 4 ≤ cap) (hl : n ≤ 140737488355328) (hB : IsB w (some ⟨b, off, none⟩) n bs)
    (H1 : Hid (∀ k cap, Calls Try.prog 70 #[.slice (some ⟨b, off, none⟩) n cap] (w.drewN k) fun e w' => e = .returned (.int .u32 (x : Nat)) ∧ w' = w.drewN k))
    (H2 : Hid (∀ k cap, Calls Try.prog 87 #[.slice (some ⟨b, off + n, none⟩) 4 cap] (w.drewN k) fun e w' => e = .returned (.int .u32 (x : Nat)) ∧ w' = w.drewN k)) :
    Calls Try.prog 77 #[.slice (some ⟨b, off, none⟩) (n + 4) cap] w fun e w' => ∃ v, e = .returned (.tuple #[v, .int .i64 0]) ∧ w'.ownsRow w.heap.size 5 1 v n (toV bs) ∧ Below w.heap.size w w' := by
  have hmk := run_mkn (P := Try.prog) 60 5 Try.underlying60 info8 n (by omega)
  have HB := hide hB
  clear hB
  go_enter Try.func77, Try.ntmps77
  go_wp2_with fail
  go_quiet (first | (go_at_call 70; exact Calls.quiet_of_same (H1.out _ _)) | (go_at_call 87; exact Calls.quiet_of_same (H2.out _ _)))
  have hB1 := isB_drewN (k := nq) HB.out
  have hb1 := below_drw (Below.refl w.heap.size w) nq
  generalize w.drewN nq = w1 at *
  clear H1 H2 HB
  have hrow : (w1.alloc (.cells (zrow n).toArray 5)).heap[w1.heap.size]? = some (.cells (zrow n).toArray 5 (0, 0)) := heap_alloc_new w1 _
  have hlb := hB1.1
  go_wp2_with (refine wpList_copy_splice rfl (.tmp 23) (.tmp 24) 60 60 rfl 5 Try.underlying60 info8s (some ⟨w1.heap.size, 0, none⟩) (some ⟨b, off, none⟩) n n (n + 4) cap rfl rfl w1.heap.size 0 (zrow n) 5 hrow (toV bs) (by rw [toV_length, hlb]; exact (Nat.min_eq_right (Nat.le_add_right n 4)).symm) (hB1.hpos _ _) (by rw [toV_length, zrow_length, hlb]; omega) (toV_one bs) w.heap.size w (hb1.alloc hb1.size _) hb1.size ?_)
  intro w2 HG hb2
  go_wp2
  go_ret2
  exact ⟨_, rfl, owns_spliced (m := 0) hlb hb1.size (by omega) HG.out, hb2⟩

theorem own_cap {w : World} {base n cap size : Nat} {e : TypeId} {a : Option Addr} {xs : List Value} (h : w.ownsRow base e size (.slice a n cap) n xs) : n ≤ cap := by
  rcases h.2 with ⟨hv, h0⟩ | ⟨g, cap', cur, hv, _, _, hn, _⟩
  · omega
  · injection hv with _ _ h3
    omega

/-- THE CONTRACT of Open. -/
theorem open_any (a : Option Addr) (len cap : Nat) (bs : List UInt8) (w : World) (hB : IsB w a len bs) (hl : len ≤ 140737488355328) (hcap : len ≤ cap) :
    Calls Try.prog 77 #[.slice a len cap] w fun e w' => ∃ v, e = .returned (.tuple #[v, .int .i64 (openS bs).2]) ∧ w'.ownsRow w.heap.size 5 1 v (openS bs).1.length (toV (openS bs).1) ∧ Below w.heap.size w w' := by
  have hb := hB.1
  by_cases h : len < 4
  · rw [openS_short bs (by omega)]
    refine (open_short a len cap w h).mono ?_
    rintro e w' ⟨rfl, rfl⟩
    exact ⟨_, rfl, World.ownsRow_nil _ _ _ _, Below.refl _ _⟩
  obtain ⟨n, rfl⟩ : ∃ n, len = n + 4 := ⟨len - 4, by omega⟩
  obtain ⟨b, off, rfl, hlt, hc⟩ := hB.2 (by omega)
  have e1 : bs.length - 4 = n := by omega
  have c1 : IsB w (some ⟨b, off, none⟩) n (bs.take n) := by
    have h1 := IsB.cut hb hlt hc 0 n (by omega)
    rwa [List.drop_zero] at h1
  have c2 : IsB w (some ⟨b, off + n, none⟩) 4 (bs.drop n) := by
    have h1 := IsB.cut hb hlt hc n 4 (by omega)
    rwa [List.take_of_length_le (by rw [List.length_drop]; omega)] at h1
  have H1 := fun k cap => of_q _ n cap k _ w c1 (by omega)
  have H2 := fun k cap => told_q _ cap k _ w c2
  by_cases h2 : leN (bs.drop (bs.length - 4)) = crc (bs.take (bs.length - 4))
  · rw [openS_ok bs (by omega) h2, e1]
    rw [e1] at h2
    rw [h2] at H2
    have e2 : (bs.take n).length = n := c1.1
    rw [e2]
    exact open_yes b off n cap _ _ w hcap (by omega) c1 H1 H2
  · rw [openS_no bs (by omega) h2]
    rw [e1] at h2
    refine (open_no b off n cap _ _ w hcap (by omega) (by rw [bne_iff_ne]; omega) H1 H2).mono ?_
    rintro e w' ⟨rfl, hbel⟩
    exact ⟨_, rfl, World.ownsRow_nil _ _ _ _, hbel⟩

set_option maxRecDepth 4000 in
set_option maxHeartbeats 400000 in
theorem seal_any (a : Option Addr) (len cap : Nat) (bs : List UInt8) (w : World) (hB : IsB w a len bs) (hl : len ≤ 140737488355328) :
    Calls Try.prog 53 #[.slice a len cap] w fun e w' => ∃ v, e = .returned v ∧ w'.ownsRow w.heap.size 5 1 v (len + 4) (toV (bs ++ leB (crc bs))) ∧ Below w.heap.size w w' := by
  obtain ⟨x, ex⟩ : ∃ x, x = crc bs := ⟨_, rfl⟩
  rw [← ex]
  obtain ⟨i0, hi, hz0, hz1, hz2⟩ := info_parts info8
  have hmk := run_mk (P := Try.prog) 60 5 Try.underlying60 info8 len 4 (by omega)
  have hmk2 : ∀ w : World, (Instr.makeSlice 60 (.int .i64 (len : Int)) (.int .i64 ((len : Int) + 4))).run Try.prog w = .ok (.slice (some ⟨w.heap.size, 0, none⟩) len (len + 4)) (w.alloc (.cells (zrow (len + 4)).toArray 5)) := hmk
  have hrow : (w.alloc (.cells (zrow (len + 4)).toArray 5)).heap[w.heap.size]? = some (.cells (zrow (len + 4)).toArray 5 (0, 0)) := heap_alloc_new w _
  clear hmk
  go_enter Try.func53, Try.ntmps53
  go_wp2_with (refine wpList_copy_splice rfl (.tmp 12) (.tmp 13) 60 60 rfl 5 Try.underlying60 info8s (some ⟨w.heap.size, 0, none⟩) a len (len + 4) len cap rfl rfl w.heap.size 0 (zrow (len + 4)) 5 hrow (toV bs) (by rw [toV_length, hB.1]; exact (Nat.min_self _).symm) (hB.hpos _ _) (by rw [toV_length, zrow_length, hB.1]; omega) (toV_one bs) w.heap.size w ((Below.refl _ _).alloc (Nat.le_refl _) _) (Nat.le_refl _) ?_)
  intro w2 HG hb2
  have hown := owns_spliced (m := 4) hB.1 (Nat.le_refl w.heap.size) (by omega) HG.out
  have R := of_any a len cap bs w2 (hB.below hb2) hl
  have hx := crc_lt bs
  rw [← ex] at R hx
  clear ex
  have HR := hide R
  clear R HG hrow hmk2
  go_wp2_with fail
  refine HR.out.mono ?_
  rintro e w1 ⟨rfl, rfl⟩
  go_wp2
  go_loopw [3, 17] (fun v i wr => ∃ j : Nat, j ≤ 4 ∧ i = .int .i64 j ∧ v = .slice (some ⟨w.heap.size, 0, none⟩) (len + j) (len + 4) ∧ wr.ownsRow w.heap.size 5 1 (.slice (some ⟨w.heap.size, 0, none⟩) (len + j) (len + 4)) (len + j) (toV (bs ++ (leB x).take j)) ∧ Below w.heap.size w wr) (fun _ i _ => 4 - (intOf i).toNat)
  case atStart => exact ⟨0, Nat.zero_le _, rfl, rfl, by simpa using hown, hb2⟩
  case round =>
    obtain ⟨j, hj, rfl, rfl, hownr, hbr⟩ := hrel
    clear hown hb2
    by_cases hlt : j < 4
    · go_wp2_with (at_builtin; refine wpList_append_fits _ rfl (.tmp 20) (.tmp 26) 60 rfl w.heap.size 5 i0 1 Try.underlying60 hi hz1 w.heap.size (len + j) (len + 4) _ rfl (hownr.alloc _) ⟨wr.heap.size, 0, none⟩ 1 1 [.int .u8 ((x : Int) / 2 ^ (8 * j) % 256)] rfl rfl (cell_one_new _ _ _) (by simp [Value.oneCell']) (by omega) ?_)
      intro w2 hown2 hgr
      rw [byte_at] at hown2
      have hown3 := put_row hown2 (leB_take x j hlt)
      have hb3 : Below w.heap.size w w2 := (hbr.alloc hbr.size _).grown hgr (by simp; have := hbr.size; omega) (by simp)
      clear hown2 hgr hownr
      go_wp2
      go_roundw
      case rel => exact ⟨j + 1, by omega, by go_num, by simp [Nat.add_assoc], hown3, hb3⟩
      case measure => simp [intOf]; omega
    · go_wp2
      go_ret
      obtain rfl : j = 4 := by omega
      exact ⟨_, rfl, hownr, hbr⟩
end Go.Proofs.Ytfbelaalmdcaaaa

/-
  The contracts of frame.border and frame.Take.
-/
namespace Go.Proofs.Ytfbelaalmdcaaaa
open Go.RowKit
set_option linter.unusedVariables false

section
variable {P : Program}
theorem results_ctt {fn : Func} {p u v : Tmp} {t : TypeId} (h : fn.results = #[.cell p t, .tmp u, .tmp v]) (tmps : Array Value) (P : Program) (w : World) :
    (results fn tmps).run P w = ((asAddr (tmps.getD p undef)).run P w).andThen fun a w₁ => ((loadVar t a).run P w₁).andThen fun x w₂ => .ok (.tuple #[x, tmps.getD u undef, tmps.getD v undef]) w₂ := by
  simp only [results, h]
  simp [Sem.run_bind, Result.andThen]
/-- A struct and two numbers as a call's results. -/
theorem res_at3 {fn : Func} {p u v : Tmp} {t : TypeId} (h : fn.results = #[.cell p t, .tmp u, .tmp v]) (tmps : Array Value) (w : World) (g : Nat) (cs : Array Value) (d : TypeDesc) (hp : tmps.getD p undef = .pointer (some ⟨g, 0, none⟩)) (hg : RowAt w g t cs)
    (hu : P.underlying t = some d) (hd : (match d with | .struct _ | .array _ _ => true | _ => false) = true) (hi : (P.info? t).map (·.size) = some cs.size) :
    (results fn tmps).run P w = .ok (.tuple #[.agg cs, tmps.getD u undef, tmps.getD v undef]) w := by
  have h1 := run_loadVar_row (P := P) w g t t cs (0, 0) d hg hu hd hi
  rw [results_ctt h, hp]
  simp only [asAddr, Sem.run_pure, Result.andThen_ok, h1]
end

theorem two_lt {l : List UInt8} {n : Nat} (hn : be (l.take 2) = n) : n < 65536 := by
  rw [← hn]
  have h3 := be_lt (l.take 2)
  have h4 : (l.take 2).length ≤ 2 := by rw [List.length_take]; omega
  have h5 : 256 ^ (l.take 2).length ≤ 256 ^ 2 := Nat.pow_le_pow_right (by omega) h4
  omega

set_option maxRecDepth 4000 in
set_option maxHeartbeats 400000 in
theorem border_arg (a : Option Addr) (len cap : Nat) (p : Int) (w : World) (h : p < 0 ∨ (len : Int) < p) :
    Calls Try.prog 76 #[.slice a len cap, .int .i64 p] w fun e w' => e = .returned (.tuple #[.int .i64 0, .int .i64 1]) ∧ w = w' := by
  by_cases h1 : p < 0
  · clear h
    go_enter Try.func76, Try.ntmps76
    go_wp2
    go_ret2
    exact ⟨rfl, rfl⟩
  · have h2 : (len : Int) < p := by omega
    clear h
    go_enter Try.func76, Try.ntmps76
    go_wp2
    go_ret2
    exact ⟨rfl, rfl⟩

set_option maxRecDepth 4000 in
set_option maxHeartbeats 400000 in
theorem border_few (a : Option Addr) (len cap p : Nat) (bs : List UInt8) (w : World) (hB : IsB w a len bs) (hl : len ≤ 140737488355328) (hp : p ≤ len) (h : len - p < 2) :
    Calls Try.prog 76 #[.slice a len cap, .int .i64 (p : Int)] w fun e w' => e = .returned (.tuple #[.int .i64 0, .int .i64 4]) ∧ w = w' := by
  have HT := hide (take_any a len cap bs (p : Int) 2 w hB (by omega) (by omega))
  rw [takeS_short bs (p : Int) 2 (by omega) (by rw [hB.1]; omega)] at HT
  have h1 : ¬ (p : Int) < 0 := by omega
  have h2 : ¬ (len : Int) < (p : Int) := by omega
  clear h hB
  go_enter Try.func76, Try.ntmps76
  go_wp2_with fail
  refine HT.out.mono ?_
  rintro e w1 ⟨rfl, rfl⟩
  go_wp2
  go_ret2
  exact ⟨rfl, rfl⟩

set_option maxRecDepth 4000 in
set_option maxHeartbeats 400000 in
theorem border_two (a : Option Addr) (len cap p n : Nat) (bs : List UInt8) (w : World) (hB : IsB w a len bs) (hl : len ≤ 140737488355328) (hp : p ≤ len) (h : ¬ len - p < 2) (hn : be ((bs.drop p).take 2) = n) :
    (len < p + n + 6 → Calls Try.prog 76 #[.slice a len cap, .int .i64 (p : Int)] w fun e w' => e = .returned (.tuple #[.int .i64 0, .int .i64 4]) ∧ w = w') ∧
    (p + n + 6 ≤ len → Calls Try.prog 76 #[.slice a len cap, .int .i64 (p : Int)] w fun e w' => e = .returned (.tuple #[.int .i64 ((p + n + 6 : Nat) : Int), .int .i64 0]) ∧ w = w') := by
  have HT := hide (take_any a len cap bs (p : Int) 2 w hB (by omega) (by omega))
  have e1 : beAt bs (p : Int).toNat (2 : Int).toNat = n := by
    rw [← hn]
    rfl
  rw [takeS_ok bs (p : Int) 2 (by omega) (by rw [hB.1]; omega), e1] at HT
  have hn2 : n < 65536 := two_lt hn
  have h1 : ¬ (p : Int) < 0 := by omega
  have h2 : ¬ (len : Int) < (p : Int) := by omega
  clear h hB hn e1
  constructor
  · intro h3
    go_enter Try.func76, Try.ntmps76
    go_wp2_with fail
    refine HT.out.mono ?_
    rintro e w1 ⟨rfl, rfl⟩
    clear HT
    have h6 : (len : Int) - (p : Int) < (n : Int) + 6 := by omega
    go_wp2
    go_ret2
    exact ⟨rfl, rfl⟩
  · intro h3
    go_enter Try.func76, Try.ntmps76
    go_wp2_with fail
    refine HT.out.mono ?_
    rintro e w1 ⟨rfl, rfl⟩
    clear HT
    have h6 : ¬ (len : Int) - (p : Int) < (n : Int) + 6 := by omega
    go_wp2
    go_ret2
    exact ⟨rfl, rfl⟩

/-- What Take answers. -/
def takF (bs : List UInt8) (p : Int) : Rec × Int × Int :=
  if p < 0 ∨ (bs.length : Int) < p then (Rec.zero, 0, 1)
  else ((headF (bs.drop p.toNat)).1, if (headF (bs.drop p.toNat)).2.2 = 0 then p + ((headF (bs.drop p.toNat)).2.1 : Int) else 0, (headF (bs.drop p.toNat)).2.2)
def TakAns (w : World) (t : Rec × Int × Int) (e : Ending) (w' : World) : Prop := (∃ va vb, e = .returned (.tuple #[.agg (rcA t.1 va vb), .int .i64 t.2.1, .int .i64 t.2.2]) ∧ GotIn w.heap.size w' t.1 va vb) ∧ Below w.heap.size w w'
def zeroA : Array Value := #[.int .i64 0, .int .u64 0, .int .i64 0, .int .u64 0, .int .i64 0, .int .i64 0, .int .i64 0, .string ⟨#[]⟩, .string ⟨#[]⟩, .int .u64 0, .int .i64 0, .int .u64 0, .slice none 0 0, .slice none 0 0]
theorem zeroA_rc : rcA Rec.zero (.slice none 0 0) (.slice none 0 0) = zeroA := rfl
theorem zero_got (base : Nat) (w : World) : GotIn base w Rec.zero (.slice none 0 0) (.slice none 0 0) := ⟨World.ownsRow_nil _ _ _ _, World.ownsRow_nil _ _ _ _⟩

set_option maxRecDepth 4000 in
set_option maxHeartbeats 1600000 in
theorem take_bad (v : Value) (p er : Int) (w : World) (hv : ∃ a len cap, v = .slice a len cap) (h0 : er ≠ 0) (HBR : ∀ w', Below w.heap.size w w' → Calls Try.prog 76 #[v, .int .i64 p] w' fun e w2 => e = .returned (.tuple #[.int .i64 0, .int .i64 er]) ∧ w' = w2) :
    Calls Try.prog 61 #[v, .int .i64 p] w (TakAns w (Rec.zero, 0, er)) := by
  obtain ⟨a, len, cap, rfl⟩ := hv
  have HB := hide HBR
  have k0 : (er == 0) = false := by rw [beq_eq_false_iff_ne]; exact h0
  have k1 : (er != 0) = true := by rw [bne, k0]; rfl
  have HK0 := hide (Keeps.one w 43 zeroA)
  clear HBR h0
  unfold TakAns
  go_enter Try.func61, Try.ntmps61
  go_wp2_with fail
  refine (HB.out _ HK0.out.2).mono ?_
  rintro e w1 ⟨rfl, rfl⟩
  unfold zeroA at HK0
  go_wp2_with (refine wpList_store_at rfl 43 (.tmp 4) (.tmp 19) rfl w.heap.size zeroA zeroA rfl rfl HK0.out.1.1 infoRc rfl (by simp [zeroA, Value.oneCell']) ?_)
  intro w2 hr2 hk2 _
  have HR2 := hide hr2
  have HD2 := hide (hk2 _ _ HK0.out.2 (Nat.le_refl _))
  clear hr2 hk2 HK0 HB
  go_wp2
  (try simp only [Exit.inBlock, Exit.then])
  refine bodyPost_ret (res_at3 rfl _ _ w.heap.size zeroA _ rfl HR2.out Try.underlying43 rfl infoRc) rfl ?_
  exact ⟨⟨_, _, rfl, zero_got _ _⟩, HD2.out⟩

set_option maxRecDepth 4000 in
set_option maxHeartbeats 1600000 in
theorem take_sum (b off len cap p n : Nat) (bs : List UInt8) (w : World) (hB : IsB w (some ⟨b, off, none⟩) len bs) (hl : len ≤ 140737488355328) (hcap : len ≤ cap) (hp : p + n + 6 ≤ len) (hn : be ((bs.drop p).take 2) = n) (hne : (openS ((bs.drop p).take (n + 6))).2 ≠ 0) (h3 : (openS ((bs.drop p).take (n + 6))).1 = []) :
    Calls Try.prog 61 #[.slice (some ⟨b, off, none⟩) len cap, .int .i64 (p : Int)] w (TakAns w (Rec.zero, 0, 3)) := by
  have HB := hide hB
  have HBR := hide (fun w' (h : IsB w' (some ⟨b, off, none⟩) len bs) => (border_two (some ⟨b, off, none⟩) len cap p n bs w' h hl (by omega) (by omega) hn).2 (by omega))
  have HOP := hide (fun w' (h : IsB w' (some ⟨b, off + p, none⟩) (n + 6) ((bs.drop p).take (n + 6))) => open_any (some ⟨b, off + p, none⟩) (n + 6) (cap - p) ((bs.drop p).take (n + 6)) w' h (by omega) (by omega))
  rw [h3] at HOP
  generalize (openS ((bs.drop p).take (n + 6))).2 = eo at *
  have k0 : (eo == 0) = false := by rw [beq_eq_false_iff_ne]; exact hne
  have k1 : (eo != 0) = true := by rw [bne, k0]; rfl
  have HK0 := hide (Keeps.one w 43 zeroA)
  have hcp : ¬ cap = p := by omega
  have i1 : (0 : Int) ≤ (p : Int) := by omega
  have i2 : (p : Int) ≤ ((p + n + 6 : Nat) : Int) := by omega
  have i3 : ((p + n + 6 : Nat) : Int) ≤ (cap : Int) := by omega
  have HCU : Hid (∀ w', IsB w' (some ⟨b, off, none⟩) len bs → IsB w' (some ⟨b, off + p, none⟩) (n + 6) ((bs.drop p).take (n + 6))) := fun w' h => by
    obtain ⟨b', off', hb', hlt, hc⟩ := h.2 (by omega)
    cases hb'
    exact IsB.cut h.1 hlt hc p (n + 6) (by omega)
  have es : p + n + 6 - p = n + 6 := by omega
  have hpn : (p + n + 6 : Nat) ≤ 140737488355328 := by omega
  clear hB hn hne h3
  obtain ⟨q, hq⟩ : ∃ q, q = p + n + 6 := ⟨_, rfl⟩
  rw [← hq] at HBR i2 i3 es hpn
  clear hq hp
  unfold TakAns
  go_enter Try.func61, Try.ntmps61
  go_wp2_with fail
  refine (HBR.out _ (HB.out.below HK0.out.2)).mono ?_
  rintro e w1 ⟨rfl, rfl⟩
  have hlt : (p : Int) ≤ (q : Int) := i2
  go_wp2_with fail
  refine gen_calls (fun x => Hid (Keeps w x [(w.heap.size, 43, zeroA)])) HK0 ?_
  clear HK0
  intro x0 HK0
  refine (HOP.out _ (HCU.out _ (HB.out.below HK0.out.2))).mono ?_
  rintro e w2 ⟨v2, rfl, hown2, hb2⟩
  obtain ⟨a2, c2, rfl⟩ := own_shape5 hown2
  have HK2 := hide (HK0.out.later hb2)
  clear HK0 HOP hown2 hb2 HBR
  go_wp2_with (refine wpList_store_at rfl 43 (.tmp 4) (.tmp 31) rfl w.heap.size zeroA zeroA rfl rfl HK2.out.1.1 infoRc rfl (by simp [zeroA, Value.oneCell']) ?_)
  intro w3 hr3 hk3 _
  have HR3 := hide hr3
  have HD3 := hide (hk3 _ _ HK2.out.2 (Nat.le_refl _))
  clear hr3 hk3 HK2
  go_wp2
  (try simp only [Exit.inBlock, Exit.then])
  refine bodyPost_ret (res_at3 rfl _ _ w.heap.size zeroA _ rfl HR3.out Try.underlying43 rfl infoRc) rfl ?_
  exact ⟨⟨_, _, rfl, zero_got _ _⟩, HD3.out⟩

/-- Behind the two bytes. -/
theorem isB_two {w : World} {base n cap : Nat} {a : Option Addr} {q : List UInt8} (h : w.ownsRow base 5 1 (.slice a (n + 2) cap) (n + 2) (toV q)) (hq : q.length = n + 2) : ∃ g, a = some ⟨g, 0, none⟩ ∧ IsB w (some ⟨g, 2, none⟩) n (q.drop 2) ∧ n + 2 ≤ cap := by
  obtain ⟨g, c, h1, _⟩ := own_slice h (by omega)
  injection h1 with h2 h3 h4
  subst h2 h4
  refine ⟨g, rfl, ?_, own_cap h⟩
  have hB := h.isB hq
  obtain ⟨b, off, hb, hlt, hc⟩ := hB.2 (by omega)
  cases hb
  have h5 := IsB.cut hq hlt hc 2 n (by omega)
  rwa [List.take_of_length_le (by rw [List.length_drop]; omega)] at h5

set_option maxRecDepth 4000 in
set_option maxHeartbeats 3200000 in
theorem take_dec (b off len cap p n : Nat) (bs q : List UInt8) (r : Rec) (er : Int) (w : World) (hB : IsB w (some ⟨b, off, none⟩) len bs) (hl : len ≤ 140737488355328) (hcap : len ≤ cap) (hp : p + n + 6 ≤ len) (hn : be ((bs.drop p).take 2) = n) (ho : openS ((bs.drop p).take (n + 6)) = (q, 0)) (hq : q.length = n + 2) (hd : decR (q.drop 2) = (r, er)) (ans : Rec × Int × Int) (ha1 : er = 0 → ans = (r, ((p + n + 6 : Nat) : Int), 0)) (ha2 : er ≠ 0 → ans = (Rec.zero, 0, 2)) :
    Calls Try.prog 61 #[.slice (some ⟨b, off, none⟩) len cap, .int .i64 (p : Int)] w (TakAns w ans) := by
  have HB := hide hB
  have HBR := hide (fun w' (h : IsB w' (some ⟨b, off, none⟩) len bs) => (border_two (some ⟨b, off, none⟩) len cap p n bs w' h hl (by omega) (by omega) hn).2 (by omega))
  have HOP := hide (fun w' (h : IsB w' (some ⟨b, off + p, none⟩) (n + 6) ((bs.drop p).take (n + 6))) => open_any (some ⟨b, off + p, none⟩) (n + 6) (cap - p) ((bs.drop p).take (n + 6)) w' h (by omega) (by omega))
  rw [ho, hq] at HOP
  have HDE := hide (fun w' (a : Option Addr) c (h : IsB w' a n (q.drop 2)) (hc : n ≤ c) => dec_any a n c (q.drop 2) w' h (by omega) hc)
  rw [hd] at HDE
  have HK0 := hide (Keeps.one w 43 zeroA)
  have hcp : ¬ cap = p := by omega
  have i1 : (0 : Int) ≤ (p : Int) := by omega
  have i2 : (p : Int) ≤ ((p + n + 6 : Nat) : Int) := by omega
  have i3 : ((p + n + 6 : Nat) : Int) ≤ (cap : Int) := by omega
  have HCU : Hid (∀ w', IsB w' (some ⟨b, off, none⟩) len bs → IsB w' (some ⟨b, off + p, none⟩) (n + 6) ((bs.drop p).take (n + 6))) := fun w' h => by
    obtain ⟨b', off', hb', hlt, hc⟩ := h.2 (by omega)
    cases hb'
    exact IsB.cut h.1 hlt hc p (n + 6) (by omega)
  have es : p + n + 6 - p = n + 6 := by omega
  have hpn : (p + n + 6 : Nat) ≤ 140737488355328 := by omega
  have HQ := hide hq
  have HA1 := hide ha1
  have HA2 := hide ha2
  clear hB hn ho hq hd ha1 ha2
  obtain ⟨e9, he9⟩ : ∃ e9, e9 = p + n + 6 := ⟨_, rfl⟩
  rw [← he9] at HBR i2 i3 es hpn HA1
  clear he9 hp
  unfold TakAns
  go_enter Try.func61, Try.ntmps61
  go_wp2_with fail
  refine (HBR.out _ (HB.out.below HK0.out.2)).mono ?_
  rintro e w1 ⟨rfl, rfl⟩
  go_wp2_with fail
  refine gen_calls (fun x => Hid (Keeps w x [(w.heap.size, 43, zeroA)])) HK0 ?_
  clear HK0
  intro x0 HK0
  refine (HOP.out _ (HCU.out _ (HB.out.below HK0.out.2))).mono ?_
  rintro e w2 ⟨v2, rfl, hown2, hb2⟩
  obtain ⟨a2, c2, rfl⟩ := own_shape5 hown2
  obtain ⟨g2, rfl, hB2, hc2⟩ := isB_two hown2 HQ.out
  have HB2 := hide hB2
  have HK2 := hide (HK0.out.later hb2)
  clear HK0 HOP hown2 hb2 HBR hB2 i1 i2 i3 hcp es HCU
  have i4 : (2 : Int) ≤ (n : Int) + 2 := by omega
  have hlast : ∀ a c, IsB w2 a n (q.drop 2) → n ≤ c → Calls Try.prog 78 #[.slice a n c] w2 fun e w' => (∃ va vb, e = .returned (.tuple #[.agg (rcA r va vb), .int .i64 er]) ∧ GotIn w2.heap.size w' r va vb) ∧ Below w2.heap.size w2 w' := fun a c h hc => HDE.out w2 a c h hc
  have HLA := hide hlast
  clear hlast HDE
  by_cases hcc : c2 = 2
  · obtain rfl : n = 0 := by omega
    subst hcc
    go_wp2_with fail
    refine (HLA.out _ _ ⟨HB2.out.1, fun h => absurd h (by omega)⟩ (by omega)).mono ?_
    rintro e w3 ⟨⟨va, vb, rfl, hgot⟩, hb3⟩
    obtain ⟨av, cv, rfl⟩ := own_shape5 hgot.1
    obtain ⟨au, cu, rfl⟩ := own_shape5 hgot.2
    have HG3 : Hid (GotIn w.heap.size w3 r (.slice av r.ts.length cv) (.slice au r.ds.length cu)) := ⟨own_mono hgot.1 HK2.out.2.size, own_mono hgot.2 HK2.out.2.size⟩
    have HK3 := hide (HK2.out.later hb3)
    clear hgot hb3 HK2 HLA HB2
    go_wp2_with (refine wpList_store_at rfl 43 (.tmp 10) (.tmp 36) rfl w3.heap.size zeroA (rcA r (.slice av r.ts.length cv) (.slice au r.ds.length cu)) rfl rfl (RowAt.new w3 43 zeroA) infoRc rfl (by simp [rcA, Value.oneCell']) ?_)
    intro w4 hr4 hk4 _
    have hb4 := hk4 _ _ ((Below.refl w3.heap.size w3).alloc (Nat.le_refl _) _) (Nat.le_refl _)
    have HG4 := hide (HG3.out.below hb4)
    have HK4 : Hid (Keeps w w4 [(w3.heap.size, 43, (rcA r (.slice av r.ts.length cv) (.slice au r.ds.length cu))), (w.heap.size, 43, zeroA)]) := HK3.out.laid hr4 hk4
    have HNE : Hid (w.heap.size ≠ w3.heap.size) := fun e => by
      have := HK3.out.1.1.lt
      omega
    clear hr4 hk4 hb4 HG3 HK3
    generalize w3.heap.size = g3 at *
    by_cases he : er = 0
    · subst he
      go_wp2_with (first | (refine wpList_load_at rfl 43 (.tmp 10) rfl g3 rfl (rcA r (.slice av r.ts.length cv) (.slice au r.ds.length cu)) HK4.out.1.1 _ Try.underlying43 rfl infoRc ?_) | (refine wpList_store_at rfl 43 (.tmp 4) (.tmp 41) rfl w.heap.size zeroA (rcA r (.slice av r.ts.length cv) (.slice au r.ds.length cu)) rfl rfl HK4.out.1.2.1 infoRc rfl (by simp [rcA, Value.oneCell']) ?_))
      intro w5 hr5 hk5 ho5
      have HR5 := hide hr5
      have HD5 := hide (hk5 _ _ HK4.out.2 (Nat.le_refl _))
      have HG5 : Hid (GotIn w.heap.size w5 r (.slice av r.ts.length cv) (.slice au r.ds.length cu)) := ⟨own_put HG4.out.1 HK4.out.1.2.1 (show (43 : TypeId) ≠ 81 by decide) ho5, own_put HG4.out.2 HK4.out.1.2.1 (show (43 : TypeId) ≠ 83 by decide) ho5⟩
      clear hr5 hk5 ho5 HK4 HG4
      go_wp2
      (try simp only [Exit.inBlock, Exit.then])
      refine bodyPost_ret (res_at3 rfl _ _ w.heap.size (rcA r (.slice av r.ts.length cv) (.slice au r.ds.length cu)) _ rfl HR5.out Try.underlying43 rfl infoRc) rfl ?_
      rw [HA1.out trivial]
      exact ⟨⟨_, _, rfl, HG5.out⟩, HD5.out⟩
    · have k0 : (er == 0) = false := by rw [beq_eq_false_iff_ne]; exact he
      have k1 : (er != 0) = true := by rw [bne, k0]; rfl
      have HE := hide he
      clear he
      go_wp2_with (refine wpList_store_at rfl 43 (.tmp 4) (.tmp 40) rfl w.heap.size zeroA zeroA rfl rfl HK4.out.1.2.1 infoRc rfl (by simp [zeroA, Value.oneCell']) ?_)
      intro w5 hr5 hk5 _
      have HR5 := hide hr5
      have HD5 := hide (hk5 _ _ HK4.out.2 (Nat.le_refl _))
      clear hr5 hk5 HK4 HG4
      go_wp2
      (try simp only [Exit.inBlock, Exit.then])
      refine bodyPost_ret (res_at3 rfl _ _ w.heap.size zeroA _ rfl HR5.out Try.underlying43 rfl infoRc) rfl ?_
      rw [HA2.out HE.out]
      exact ⟨⟨_, _, rfl, zero_got _ _⟩, HD5.out⟩
  · go_wp2_with fail
    refine (HLA.out _ _ HB2.out (by omega)).mono ?_
    rintro e w3 ⟨⟨va, vb, rfl, hgot⟩, hb3⟩
    obtain ⟨av, cv, rfl⟩ := own_shape5 hgot.1
    obtain ⟨au, cu, rfl⟩ := own_shape5 hgot.2
    have HG3 : Hid (GotIn w.heap.size w3 r (.slice av r.ts.length cv) (.slice au r.ds.length cu)) := ⟨own_mono hgot.1 HK2.out.2.size, own_mono hgot.2 HK2.out.2.size⟩
    have HK3 := hide (HK2.out.later hb3)
    clear hgot hb3 HK2 HLA HB2
    go_wp2_with (refine wpList_store_at rfl 43 (.tmp 10) (.tmp 36) rfl w3.heap.size zeroA (rcA r (.slice av r.ts.length cv) (.slice au r.ds.length cu)) rfl rfl (RowAt.new w3 43 zeroA) infoRc rfl (by simp [rcA, Value.oneCell']) ?_)
    intro w4 hr4 hk4 _
    have hb4 := hk4 _ _ ((Below.refl w3.heap.size w3).alloc (Nat.le_refl _) _) (Nat.le_refl _)
    have HG4 := hide (HG3.out.below hb4)
    have HK4 : Hid (Keeps w w4 [(w3.heap.size, 43, (rcA r (.slice av r.ts.length cv) (.slice au r.ds.length cu))), (w.heap.size, 43, zeroA)]) := HK3.out.laid hr4 hk4
    have HNE : Hid (w.heap.size ≠ w3.heap.size) := fun e => by
      have := HK3.out.1.1.lt
      omega
    clear hr4 hk4 hb4 HG3 HK3
    generalize w3.heap.size = g3 at *
    by_cases he : er = 0
    · subst he
      go_wp2_with (first | (refine wpList_load_at rfl 43 (.tmp 10) rfl g3 rfl (rcA r (.slice av r.ts.length cv) (.slice au r.ds.length cu)) HK4.out.1.1 _ Try.underlying43 rfl infoRc ?_) | (refine wpList_store_at rfl 43 (.tmp 4) (.tmp 41) rfl w.heap.size zeroA (rcA r (.slice av r.ts.length cv) (.slice au r.ds.length cu)) rfl rfl HK4.out.1.2.1 infoRc rfl (by simp [rcA, Value.oneCell']) ?_))
      intro w5 hr5 hk5 ho5
      have HR5 := hide hr5
      have HD5 := hide (hk5 _ _ HK4.out.2 (Nat.le_refl _))
      have HG5 : Hid (GotIn w.heap.size w5 r (.slice av r.ts.length cv) (.slice au r.ds.length cu)) := ⟨own_put HG4.out.1 HK4.out.1.2.1 (show (43 : TypeId) ≠ 81 by decide) ho5, own_put HG4.out.2 HK4.out.1.2.1 (show (43 : TypeId) ≠ 83 by decide) ho5⟩
      clear hr5 hk5 ho5 HK4 HG4
      go_wp2
      (try simp only [Exit.inBlock, Exit.then])
      refine bodyPost_ret (res_at3 rfl _ _ w.heap.size (rcA r (.slice av r.ts.length cv) (.slice au r.ds.length cu)) _ rfl HR5.out Try.underlying43 rfl infoRc) rfl ?_
      rw [HA1.out trivial]
      exact ⟨⟨_, _, rfl, HG5.out⟩, HD5.out⟩
    · have k0 : (er == 0) = false := by rw [beq_eq_false_iff_ne]; exact he
      have k1 : (er != 0) = true := by rw [bne, k0]; rfl
      have HE := hide he
      clear he
      go_wp2_with (refine wpList_store_at rfl 43 (.tmp 4) (.tmp 40) rfl w.heap.size zeroA zeroA rfl rfl HK4.out.1.2.1 infoRc rfl (by simp [zeroA, Value.oneCell']) ?_)
      intro w5 hr5 hk5 _
      have HR5 := hide hr5
      have HD5 := hide (hk5 _ _ HK4.out.2 (Nat.le_refl _))
      clear hr5 hk5 HK4 HG4
      go_wp2
      (try simp only [Exit.inBlock, Exit.then])
      refine bodyPost_ret (res_at3 rfl _ _ w.heap.size zeroA _ rfl HR5.out Try.underlying43 rfl infoRc) rfl ?_
      rw [HA2.out HE.out]
      exact ⟨⟨_, _, rfl, zero_got _ _⟩, HD5.out⟩

/-- THE CONTRACT. -/
theorem ftake_any (a : Option Addr) (len cap : Nat) (bs : List UInt8) (p : Int) (w : World) (hB : IsB w a len bs) (hl : len ≤ 140737488355328) (hcap : len ≤ cap) :
    Calls Try.prog 61 #[.slice a len cap, .int .i64 p] w (TakAns w (takF bs p)) := by
  have hbl := hB.1
  by_cases h1 : p < 0 ∨ (bs.length : Int) < p
  · have e1 : takF bs p = (Rec.zero, 0, 1) := by unfold takF; rw [if_pos h1]
    rw [e1]
    exact take_bad _ p 1 w ⟨a, len, cap, rfl⟩ (by decide) (fun w' hw => border_arg a len cap p w' (by omega))
  obtain ⟨k, rfl⟩ := Int.eq_ofNat_of_zero_le (show 0 ≤ p by omega)
  have hk : k ≤ len := by omega
  have e1 : takF bs (k : Int) = ((headF (bs.drop k)).1, if (headF (bs.drop k)).2.2 = 0 then (k : Int) + ((headF (bs.drop k)).2.1 : Int) else 0, (headF (bs.drop k)).2.2) := by
    unfold takF
    rw [if_neg h1]
    rfl
  have hdl : (bs.drop k).length = len - k := by rw [List.length_drop, hbl]
  by_cases h2 : (bs.drop k).length < 2 ∨ (bs.drop k).length < be ((bs.drop k).take 2) + 6
  · have e2 : headF (bs.drop k) = (Rec.zero, 0, 4) := by unfold headF; rw [if_pos h2]
    rw [e1, e2]
    refine take_bad _ (k : Int) 4 w ⟨a, len, cap, rfl⟩ (by decide) (fun w' hw => ?_)
    have hB' := hB.below hw
    by_cases h3 : len - k < 2
    · exact border_few a len cap k bs w' hB' hl hk h3
    · exact (border_two a len cap k _ bs w' hB' hl hk h3 rfl).1 (by omega)
  generalize hn : be ((bs.drop k).take 2) = n at h2
  obtain ⟨b, off, rfl, _, _⟩ := hB.2 (by omega)
  by_cases h4 : (openS ((bs.drop k).take (n + 6))).2 ≠ 0
  · have e2 : headF (bs.drop k) = (Rec.zero, 0, 3) := by unfold headF; rw [hn, if_neg h2, if_pos h4]
    rw [e1, e2]
    refine take_sum b off len cap k n bs w hB hl hcap (by omega) hn h4 ?_
    generalize (bs.drop k).take (n + 6) = f at h4
    by_cases h5 : f.length < 4
    · rw [openS_short f h5]
    · by_cases h6 : leN (f.drop (f.length - 4)) = crc (f.take (f.length - 4))
      · rw [openS_ok f h5 h6] at h4
        exact absurd rfl h4
      · rw [openS_no f h5 h6]
  have h4' : (openS ((bs.drop k).take (n + 6))).2 = 0 := by omega
  have hfl : ((bs.drop k).take (n + 6)).length = n + 6 := by rw [List.length_take]; omega
  have hql : (openS ((bs.drop k).take (n + 6))).1.length = n + 2 := by
    have h5 := congrArg List.length (seal_open _ h4')
    rw [hfl, sealB_length] at h5
    omega
  have key := take_dec b off len cap k n bs (openS ((bs.drop k).take (n + 6))).1 (decR ((openS ((bs.drop k).take (n + 6))).1.drop 2)).1 (decR ((openS ((bs.drop k).take (n + 6))).1.drop 2)).2 w hB hl hcap (by omega) hn (by rw [← h4']) hql rfl
  by_cases h6 : (decR ((openS ((bs.drop k).take (n + 6))).1.drop 2)).2 = 0
  · have e2 : headF (bs.drop k) = ((decR ((openS ((bs.drop k).take (n + 6))).1.drop 2)).1, n + 6, 0) := by
      unfold headF
      rw [hn, if_neg h2, if_neg h4, if_neg (by omega)]
    rw [e1, e2]
    have e3 : (k : Int) + ((n + 6 : Nat) : Int) = ((k + n + 6 : Nat) : Int) := by omega
    simp only [if_true]
    rw [e3]
    exact key _ (fun _ => rfl) (fun h => absurd h6 h)
  · have e2 : headF (bs.drop k) = (Rec.zero, 0, 2) := by
      unfold headF
      rw [hn, if_neg h2, if_neg h4, if_pos h6]
    rw [e1, e2]
    exact key _ (fun h => absurd h h6) (fun _ => rfl)
end Go.Proofs.Ytfbelaalmdcaaaa

/-
  A range over a function whose iterator says of each thing that it hands over how it lies in memory: what the caller owes. Of no program.
-/
namespace Go.Proofs.Ytfbelaalmdcaaaa
open Go.RowKit
set_option linter.unusedVariables false

/-- Whatever lies below n, and every block of cells, is as it was. -/
structure Hush (n : Nat) (A B : World) : Prop where
  os : B.os = A.os
  tape : B.tape = A.tape
  output : B.output = A.output
  size : A.heap.size ≤ B.heap.size
  low : ∀ k, k < n → B.heap[k]? = A.heap[k]?
  cells : ∀ (k : Nat) (cs : Array Value) (t : TypeId) (f : Nat × Nat), A.heap[k]? = some (Obj.cells cs t f) → B.heap[k]? = some (Obj.cells cs t f)
theorem Hush.refl (n : Nat) (A : World) : Hush n A A := ⟨rfl, rfl, rfl, Nat.le_refl _, fun _ _ => rfl, fun _ _ _ _ h => h⟩
theorem Hush.trans {n : Nat} {A B C : World} (h : Hush n A B) (k : Hush n B C) : Hush n A C :=
  ⟨k.os.trans h.os, k.tape.trans h.tape, k.output.trans h.output, Nat.le_trans h.size k.size, fun i hi => (k.low i hi).trans (h.low i hi), fun i cs t f hi => k.cells i cs t f (h.cells i cs t f hi)⟩
theorem Hush.of_below {n : Nat} {A B : World} (h : Below A.heap.size A B) (hn : n ≤ A.heap.size) : Hush n A B :=
  ⟨h.os, h.tape, h.output, h.size, fun k hk => h.block k (Nat.lt_of_lt_of_le hk hn), fun k cs t f hk => (h.block k (Array.getElem?_eq_some_iff.1 hk).1).trans hk⟩
theorem Hush.put {n l : Nat} {A : World} {o : Obj} (o' : Obj) (hl : n ≤ l) (h : A.heap[l]? = some o) (ho : o.isCells = false) : Hush n A (A.putObj l o') := by
  refine ⟨rfl, rfl, rfl, by simp, fun k hk => World.putObj_heap_other (by omega), fun k cs t f hk => ?_⟩
  have hne : k ≠ l := fun e => by
    subst e
    rw [hk] at h
    cases h
    cases ho
  exact (World.putObj_heap_other hne).trans hk

/-- How a round may be left: on, or by the loop's own break. -/
def toldPost {α : Type} (n id : Nat) (Kp : World → World → Prop) (I Ix : List α → World → Prop) (pre : List α) (x : α) (W : World) : Exit → Act → World → Prop
  | .normal, _, W' => KeepsFrom n W W' ∧ Kp W W' ∧ I (pre ++ [x]) W'
  | .exit i, _, W' => i = id ∧ KeepsFrom n W W' ∧ Ix pre W'
  | _, _, _ => False

variable {F : Fence} {n : Nat} {P : Program}

theorem wpIn_range_told {α : Type} {g : Operand} {ps : Array Tmp} {assign body : Code} {Q : Exit → Act → World → Prop} {a : Act} {w : World} (hro : F.round = none) (h1 : 1 ≤ n)
    {gf : Nat} {lb : Array Value} (hg : a.eval g = .func (.func gf) #[] lb) (hFg : F.fn gf) (eg : ∀ args w, (callFunc gf args).run P w = .ok (.enter gf args) w)
    (encs : α → Array Value) (hps : ∀ x, (encs x).size = ps.size) (id : Nat)
    (G : List α → α → World → Prop) (E : List α → World → Prop) (Kp : World → World → Prop) (I Ix : List α → World → Prop) (Ac : List α → α → Act → World → Prop)
    (kr : ∀ A B C, Kp A B → Hush w.heap.size B C → Kp A C) (kk : ∀ A B C, Kp A B → Kp B C → Kp A C)
    (ci : ∀ s A B, Hush w.heap.size A B → I s A → I s B) (cx : ∀ s A B, Hush w.heap.size A B → Ix s A → Ix s B) (ca : ∀ s x c A B, Hush w.heap.size A B → Ac s x c A → Ac s x c B)
    (hseq : ∀ (l : Nat) (J Jx : List α → World → Prop) (W : World), Below w.heap.size w W → (∀ s A B, Below A.heap.size A B → J s A → J s B) →
      (∀ pre x A, J pre A → G pre x A → YieldAt F (n - 1 - 1) P l (encs x) A fun e B => (e = .returned (.bool true) ∧ J (pre ++ [x]) B ∧ Kp A B) ∨ (e = .returned (.bool false) ∧ Jx pre B)) → J [] W →
      CallsIn F (n - 1) P gf (#[.func (.yield l) #[] #[]] ++ lb) W fun e B => (∃ v, e = .returned v) ∧ ((∃ xs, E xs B ∧ J xs B) ∨ (∃ pre, Jx pre B)))
    (h0 : I [] w)
    (ce : ∀ s A B, Hush w.heap.size A B → E s A → E s B)
    (hassign : ∀ (l : Nat) (pre : List α) (x : α) (W : World) (K : Act → World → Prop), I pre W → G pre x W → (∀ c W', KeepsFrom w.heap.size W W' → Kp W W' → Ac pre x c W' → K c W') →
      assign.wpIn (F.inRound l) (n - 1 - 1) P (Exit.then K (fun _ _ _ => False)) { tmps := (ps.zip (encs x)).foldl (fun t (p, v) => t.setIfInBounds p v) a.tmps, defers := [] } W)
    (hbody : ∀ (l : Nat) (pre : List α) (x : α) (c : Act) (W : World), Ac pre x c W → body.wpIn (F.inRound l) (n - 1 - 1) P (toldPost w.heap.size id Kp I Ix pre x W) c W)
    (hdone : ∀ (D : Nat) (xs : List α) (W : World), w.heap.size ≤ D → E xs W → I xs W → W.heap[D]? = some (.deferred (some [])) → Q .normal { a with defers := { target := .collected D, args := #[] } :: a.defers } W)
    (hstop : ∀ (D : Nat) (pre : List α) (W : World), w.heap.size ≤ D → Ix pre W → W.heap[D]? = some (.deferred (some [])) → (Code.exit id).wpIn F n P Q { a with defers := { target := .collected D, args := #[] } :: a.defers } W) :
    (Code.rangeFunc g ps assign body).wpIn F n P Q a w := by
  refine wpIn_rangeFunc fun fn hfn => ?_
  rw [hro]
  -- the loop's record, by its state; it lies in block d + 1, the deferred calls of the rounds in block d
  generalize hd : w.heap.size = d at *
  let R : LoopState → Option Code → Obj := fun s p => .loop { state := s, pending := p, fn := fn, tmps := a.tmps, params := ps, assign := assign, body := body, defers := d }
  let Z : Obj := .deferred (some [])
  have sz1 : (w.alloc Z).heap.size = d + 1 := by rw [World.size_alloc, hd]
  have bel : Below d w ((w.alloc Z).alloc (R .ready none)) := by
    have h := ((Below.refl w.heap.size w).alloc (Nat.le_refl _) Z).alloc (by rw [sz1]; omega) (R .ready none)
    rwa [hd] at h
  have atL : ((w.alloc Z).alloc (R .ready none)).heap[d + 1]? = some (R .ready none) := by
    have h := World.alloc_heap_new (w.alloc Z) (R .ready none)
    rwa [sz1] at h
  have atD : ((w.alloc Z).alloc (R .ready none)).heap[d]? = some Z := by
    have h := World.alloc_heap_new w Z
    rw [hd] at h
    exact (Below.heap_alloc _ _ _ (by rw [sz1]; omega)).trans h
  have ent : (Instr.enterLoop fn a.tmps ps assign body none).run P w = .ok (d + 1, [{ target := .collected d, args := #[] }]) ((w.alloc Z).alloc (R .ready none)) := by
    have h := run_enterLoop_outer (P := P) (w := w) fn a.tmps ps assign body
    rw [hd] at h
    exact h
  have calm : Hush d w ((w.alloc Z).alloc (R .ready none)) := Hush.of_below (by rw [hd]; exact bel) (by omega)
  refine ⟨d + 1, _, (w.alloc Z).alloc (R .ready none), { target := .fn (.func gf) lb, args := #[.func (.yield (d + 1)) #[] #[]] }, (w.alloc Z).alloc (R .ready none), gf, #[.func (.yield (d + 1)) #[] #[]] ++ lb, (w.alloc Z).alloc (R .ready none), ent, ?_, ?_, ?_, fun _ => h1, ?_⟩
  · simp only [resolve, hg]
    simp [go_sem]
  · intro f' hf'
    simp [Target.leads] at hf'
    subst hf'
    exact hFg
  · simp [invoke, go_sem, eg]
  generalize (w.alloc Z).alloc (R .ready none) = W1 at *
  -- what is kept beside the caller's own word
  refine (hseq (d + 1) (fun s A => I s A ∧ A.heap[d + 1]? = some (R .ready none) ∧ A.heap[d]? = some Z) (fun s A => Ix s A ∧ A.heap[d + 1]? = some (R .done (some (.exit id))) ∧ A.heap[d]? = some Z) W1 bel ?_ ?_ ⟨ci _ _ _ calm h0, atL, atD⟩).mono ?_
  · rintro s A B hb ⟨hi, hl, hz⟩
    have lt1 := (Array.getElem?_eq_some_iff.1 hl).1
    exact ⟨ci _ _ _ (Hush.of_below hb (by omega)) hi, (hb.block _ lt1).trans hl, (hb.block _ (by omega)).trans hz⟩
  · rintro pre x A ⟨hi, hl, hz⟩ hgx
    refine ⟨fn, _, assign, body, run_yield (P := P) (args := encs x) hl (hps x), roundIn_of_wpIn hfn (hassign _ pre x A _ hi hgx fun c A1 k1 q1 ha1 => ?_)⟩
    have hl1 := k1.same _ _ (by omega) hl rfl
    have hz1 := k1.same _ _ (Nat.le_refl _) hz rfl
    refine ⟨_, run_beginRound hl1 rfl, ?_⟩
    have c1 : Hush d A1 (A1.putObj (d + 1) (R .busy none)) := Hush.put _ (by omega) hl1 rfl
    have hl2 : (A1.putObj (d + 1) (R .busy none)).heap[d + 1]? = some (R .busy none) := World.putObj_heap_same (Array.getElem?_eq_some_iff.1 hl1).1
    have hz2 : (A1.putObj (d + 1) (R .busy none)).heap[d]? = some Z := (World.putObj_heap_other (by omega)).trans hz1
    refine wpIn_mono (hbody (d + 1) pre x c _ (ca _ _ _ _ _ c1 ha1)) ?_
    rintro e c3 A3 hp
    cases e with
    | normal =>
      obtain ⟨k3, q3, i3⟩ := hp
      have hl3 := k3.same _ _ (by omega) hl2 rfl
      have c3' : Hush d A3 (A3.putObj (d + 1) (R .ready none)) := Hush.put _ (by omega) hl3 rfl
      refine ⟨_, _, run_endRound (P := P) none hl3, .inl ⟨rfl, ⟨ci _ _ _ c3' i3, World.putObj_heap_same (Array.getElem?_eq_some_iff.1 hl3).1, (World.putObj_heap_other (by omega)).trans (k3.same _ _ (Nat.le_refl _) hz2 rfl)⟩, ?_⟩⟩
      exact kr _ _ _ (kk _ _ _ (kr _ _ _ q1 c1) q3) c3'
    | exit i =>
      obtain ⟨rfl, k3, i3⟩ := hp
      have hl3 := k3.same _ _ (by omega) hl2 rfl
      have c3' : Hush d A3 (A3.putObj (d + 1) (R .done (some (.exit i)))) := Hush.put _ (by omega) hl3 rfl
      exact ⟨_, _, run_endRound (P := P) (some (.exit i)) hl3, .inr ⟨rfl, cx _ _ _ c3' i3, World.putObj_heap_same (Array.getElem?_eq_some_iff.1 hl3).1, (World.putObj_heap_other (by omega)).trans (k3.same _ _ (Nat.le_refl _) hz2 rfl)⟩⟩
    | ret => exact hp.elim
    | goto t => exact hp.elim
    | panic ch => exact hp.elim
    | outgrown => exact hp.elim
  · rintro e A ⟨⟨v, rfl⟩, (⟨xs, hE, hi, hl, hz⟩ | ⟨pre, hi, hl, hz⟩)⟩
    · have c3 : Hush d A (A.putObj (d + 1) (R .exhausted none)) := Hush.put _ (by omega) hl rfl
      exact ⟨none, _, run_endLoop (P := P) hl (by simp), hdone d xs _ (Nat.le_refl _) (ce _ _ _ c3 hE) (ci _ _ _ c3 hi) ((World.putObj_heap_other (by omega)).trans hz)⟩
    · have c3 : Hush d A (A.putObj (d + 1) (R .exhausted (some (.exit id)))) := Hush.put _ (by omega) hl rfl
      exact ⟨some (.exit id), _, run_endLoop (P := P) hl (by simp), hstop d pre _ (Nat.le_refl _) (cx _ _ _ c3 hi) ((World.putObj_heap_other (by omega)).trans hz)⟩
end Go.Proofs.Ytfbelaalmdcaaaa

/-
  A struct loaded and stored inside a fence. Of no program.
-/
namespace Go.Proofs.Ytfbelaalmdcaaaa
open Go.RowKit
set_option linter.unusedVariables false

section
variable {F : Fence} {n : Nat} {P : Program} {ops : Array Oper} {rest : List Oper} {o : Oper} {a : Act} {w : World} {Q : Exit → Act → World → Prop}

theorem wpListIn_load_at (hw : Region.wanted o (yielded ops a.tmps) = true) (t : TypeId) (x : Operand) (ho : o.op = .load t x) (g : Nat) (hx : a.eval x = .pointer (some ⟨g, 0, none⟩)) (cs : Array Value) (hg : RowAt w g t cs) (d : TypeDesc)
    (hu : P.underlying t = some d) (hd : (match d with | .struct _ | .array _ _ => true | _ => false) = true) (hi : (P.info? t).map (·.size) = some cs.size) (h : wpListIn F n P ops Q rest (a.put o.dst (.agg cs)) w) : wpListIn F n P ops Q (o :: rest) a w :=
  wpListIn_step fun K hK => by
    simp only [hw, if_true]
    unfold Oper.wpIn
    refine ⟨?_, ?_⟩
    · simp [Oper.about, ho]
    · rw [Oper.semAt_plain F _ _ (by rw [ho]; intro c hc; cases hc)]
      unfold execOp
      simp only [ho, hx, Instr.loadAt, Instr.sureAddr, Sem.run_bind, Sem.run_pure, Result.andThen_ok, run_loadVar_row w g t t cs (0, 0) d hg hu hd hi]
      exact hK _ _ h

theorem wpListIn_store_at (hgd : o.guard = none) (t : TypeId) (x y : Operand) (ho : o.op = .store t x y) (g : Nat) (c0 cs : Array Value) (hx : a.eval x = .pointer (some ⟨g, 0, none⟩)) (hy : a.eval y = .agg cs) (hg : RowAt w g t c0)
    (hi : (P.info? t).map (·.size) = some cs.size) (hz : c0.size = cs.size) (h1 : cs.all (·.oneCell') = true)
    (h : ∀ w2, RowAt w2 g t cs → w.grownBy w2 (some g) → wpListIn F n P ops Q rest (a.put o.dst undef) w2) : wpListIn F n P ops Q (o :: rest) a w := by
  have h2 := h (w.setRow g cs) (setRow_heap w g c0 cs t (0, 0) hg) ⟨rfl, rfl, rfl, by simp [World.setRow], fun k hk hne => setRow_other w g k _ (fun e => hne (by rw [e]))⟩
  refine wpListIn_plain hgd fun K hK => ?_
  unfold Oper.wpIn
  refine ⟨?_, ?_⟩
  · simp [Oper.about, ho]
  · rw [Oper.semAt_plain F _ _ (by rw [ho]; intro c hc; cases hc)]
    unfold execOp
    simp only [ho, hx, hy, Instr.storeAt, Instr.sureAddr, Sem.run_bind, Sem.run_pure, Result.andThen_ok, run_storeVar_row w g t t c0 cs hg hi hz h1]
    exact hK _ _ h2
end
end Go.Proofs.Ytfbelaalmdcaaaa

/-
  The contract of the iterator that frame.frames makes.
-/
namespace Go.Proofs.Ytfbelaalmdcaaaa
open Go.RowKit Go.Shelf
set_option linter.unusedVariables false
attribute [local go_sem] Oper.semAt_some

/-- What is handed over: a record with the values of its lists, and the place behind its frame. -/
abbrev Hd := (Rec × Value × Value) × Nat
def recs (xs : List Hd) : List Rec := xs.map (·.1.1)
theorem recs_snoc (xs : List Hd) (x : Hd) : recs (xs ++ [x]) = recs xs ++ [x.1.1] := by simp [recs]
theorem framesB_snoc (rs : List Rec) (r : Rec) : framesB (rs ++ [r]) = framesB rs ++ frameB r := by simp [framesB]
def encH (x : Hd) : Array Value := #[.agg (rcF x.1), .int .i64 (x.2 : Int)]
/-- What is said of each. -/
def Told (base : Nat) (bs : List UInt8) (pre : List Hd) (x : Hd) (W : World) : Prop :=
  x.1.1.right ∧ x.1.1.fits ∧ GotIn base W x.1.1 x.1.2.1 x.1.2.2 ∧ x.2 = (framesB (recs (pre ++ [x]))).length ∧ ∃ y, bs = framesB (recs (pre ++ [x])) ++ y
/-- All have come. -/
def Over (bs : List UInt8) (xs : List Hd) : Prop := ∃ y, bs = framesB (recs xs) ++ y ∧ (headF y).2.2 ≠ 0
theorem head_fits (y : List UInt8) : (headF y).1.fits := by
  unfold headF
  split
  · exact zero_rec_fits
  · split
    · exact zero_rec_fits
    · split
      · exact zero_rec_fits
      · exact dec_fits _
/-- What a round keeps: what lay at the call of Scan, and the iterator's own box. -/
def KpI (n0 gb : Nat) (A B : World) : Prop := Below n0 A B ∧ ∀ cs, RowAt A gb 60 cs → RowAt B gb 60 cs

theorem head_over {bs y : List UInt8} {xs : List Hd} (h : bs = framesB (recs xs) ++ y) : takF bs ((framesB (recs xs)).length : Int) = ((headF y).1, if (headF y).2.2 = 0 then ((framesB (recs xs)).length : Int) + ((headF y).2.1 : Int) else 0, (headF y).2.2) := by
  unfold takF
  have e : bs.drop ((framesB (recs xs)).length : Int).toNat = y := by
    rw [Int.toNat_natCast, h]
    exact List.drop_left' rfl
  rw [if_neg (by rw [h, List.length_append]; omega), e]

theorem frames_step {bs y : List UInt8} {xs : List Hd} (h : bs = framesB (recs xs) ++ y) (he : (headF y).2.2 = 0) (va vb : Value) :
    (headF y).1.right ∧ ∃ y', bs = framesB (recs (xs ++ [(((headF y).1, va, vb), (framesB (recs xs)).length + (headF y).2.1)])) ++ y' ∧ (framesB (recs (xs ++ [(((headF y).1, va, vb), (framesB (recs xs)).length + (headF y).2.1)]))).length = (framesB (recs xs)).length + (headF y).2.1 ∧ 6 ≤ (headF y).2.1 := by
  obtain ⟨h1, h2, h3, h4⟩ := head_ok y he
  refine ⟨h1, y.drop (headF y).2.1, ?_, ?_, ?_⟩
  · rw [recs_snoc, framesB_snoc, ← h2, List.append_assoc, List.take_append_drop]
    exact h
  · rw [recs_snoc, framesB_snoc, List.length_append, ← h3]
  · rw [h3, frameB_length]
    omega

set_option maxRecDepth 100000 in
set_option maxHeartbeats 3200000 in
theorem iter_any (l n gb n0 : Nat) (a : Option Addr) (len cap : Nat) (bs : List UInt8) (hn : 1 ≤ n) (hl : len ≤ 140737488355328) (hcap : len ≤ cap) (J Jx : List Hd → World → Prop)
    (hJ : ∀ s A B, Below A.heap.size A B → J s A → J s B)
    (hY : ∀ pre x A, J pre A → Told n0 bs pre x A → YieldAt Fence.wide (n - 1) Try.prog l (encH x) A fun e B => (e = .returned (.bool true) ∧ J (pre ++ [x]) B ∧ KpI n0 gb A B) ∨ (e = .returned (.bool false) ∧ Jx pre B))
    (W : World) (hB : ∀ W', Below n0 W W' → IsB W' a len bs) (hn0 : n0 ≤ W.heap.size) (hbox : RowAt W gb 60 #[.slice a len cap]) (h0 : J [] W) :
    CallsIn Fence.wide n Try.prog 60 #[.func (.yield l) #[] #[], .pointer (some ⟨gb, 0, none⟩)] W fun e B => (∃ v, e = .returned v) ∧ ((∃ xs, Over bs xs ∧ J xs B) ∨ (∃ pre, Jx pre B)) := by
  have HJ := hide hJ
  have HY := hide hY
  have HBX := hide hB
  clear hJ hY hB
  refine callsIn_of_wp Try.func60 rfl trivial ?_ rfl
  simp only [Try.ntmps60, List.size_toArray, List.length_cons, List.length_nil, Nat.reduceAdd, Nat.reduceSub, Array.replicate_succ, Array.replicate_zero, List.push_toArray, List.append_toArray, List.nil_append, List.cons_append]
  gi_wp2
  gi_loopw [3] (fun p wr => ∃ (pre : List Hd) (y : List UInt8), p = .int .i64 ((framesB (recs pre)).length : Int) ∧ Hid (bs = framesB (recs pre) ++ y) ∧ Hid (J pre wr ∧ Below n0 W wr ∧ RowAt wr gb 60 #[.slice a len cap])) (fun p _ => len - (intOf p).toNat)
  case atStart => exact ⟨[], bs, rfl, rfl, h0, Below.refl _ _, hbox⟩
  case round =>
    obtain ⟨pre, y, rfl, HBS, HST⟩ := hrel
    clear hbox h0
    have c0 := HST.out.2.2.cell 0 (.slice a len cap) rfl
    have HBW := hide (HBX.out _ HST.out.2.1)
    have HT := hide (ftake_any a len cap bs ((framesB (recs pre)).length : Int) wr HBW.out hl hcap)
    rw [head_over HBS.out] at HT
    unfold TakAns at HT
    gi_wp2_with fail
    refine ⟨trivial, (callsIn_wide.2 HT.out).mono ?_⟩
    rintro e w1 ⟨⟨va, vb, rfl, hgot⟩, hb1⟩
    obtain ⟨av, cv, rfl⟩ := own_shape5 hgot.1
    obtain ⟨au, cu, rfl⟩ := own_shape5 hgot.2
    have HFS := hide (fun he va vb => frames_step HBS.out he va vb)
    have HOV : Hid ((headF y).2.2 ≠ 0 → Over bs pre) := fun he => ⟨y, HBS.out, he⟩
    have HFI : Hid (headF y).1.fits := head_fits y
    have HGT := hide (show GotIn n0 w1 (headF y).1 (.slice av (headF y).1.ts.length cv) (.slice au (headF y).1.ds.length cu) from ⟨own_mono hgot.1 (Nat.le_trans hn0 HST.out.2.1.size), own_mono hgot.2 (Nat.le_trans hn0 HST.out.2.1.size)⟩)
    have HS1 : Hid (J pre w1 ∧ Below n0 W w1 ∧ RowAt w1 gb 60 #[.slice a len cap]) := ⟨HJ.out _ _ _ hb1 HST.out.1, HST.out.2.1.trans (hb1.mono (Nat.le_trans hn0 HST.out.2.1.size)), HST.out.2.2.later hb1⟩
    clear HT HST HBW hgot hb1 c0
    generalize headF y = hy9 at *
    obtain ⟨r, k, er⟩ := hy9
    simp only at HFS HOV HGT HFI ⊢
    by_cases he : er = 0
    · subst he
      rw [if_pos rfl]
      obtain ⟨p9, hp9⟩ : ∃ p9 : Nat, p9 = (framesB (recs pre)).length + k := ⟨_, rfl⟩
      have e9 : ((framesB (recs pre)).length : Int) + (k : Int) = (p9 : Int) := by omega
      rw [e9]
      have HP9 := hide hp9
      clear hp9 e9
      gi_wp2_with (refine wpListIn_store_at rfl 43 (.tmp 4) (.tmp 11) rfl w1.heap.size zeroA (rcA r (.slice av r.ts.length cv) (.slice au r.ds.length cu)) rfl rfl (RowAt.new w1 43 zeroA) infoRc rfl (by simp [rcA, Value.oneCell']) ?_)
      intro w2 hr2 hg2
      have hb2 : Below w1.heap.size w1 w2 := ((Below.refl w1.heap.size w1).alloc (Nat.le_refl _) (.cells zeroA 43)).grown hg2 (by simp) (fun k hk => by cases hk; exact Nat.le_refl _)
      have HS2 : Hid (J pre w2 ∧ Below n0 W w2 ∧ RowAt w2 gb 60 #[.slice a len cap]) := ⟨HJ.out _ _ _ hb2 HS1.out.1, HS1.out.2.1.trans (hb2.mono (Nat.le_trans hn0 HS1.out.2.1.size)), HS1.out.2.2.later hb2⟩
      have HG2 := hide (HGT.out.below hb2)
      have HR2 := hide hr2
      clear hr2 hg2 hb2 HS1 HGT
      generalize w1.heap.size = g1 at *
      obtain ⟨hr, y2, hbs2, hlen2, hk6⟩ := HFS.out trivial (.slice av r.ts.length cv) (.slice au r.ds.length cu)
      rw [← HP9.out] at hbs2 hlen2
      obtain ⟨fn, tmps, assign, body, hyd, hR⟩ := HY.out pre ((r, .slice av r.ts.length cv, .slice au r.ds.length cu), p9) w2 HS2.out.1 ⟨hr, HFI.out, HG2.out, hlen2.symm, y2, hbs2⟩
      have HN2 := hide hbs2
      have HL2 := hide hlen2
      have HRR := hide hR
      have hle : p9 ≤ len := by
        have := congrArg List.length hbs2
        rw [(HBX.out _ (Below.refl _ _)).1, List.length_append, hlen2] at this
        omega
      have hgt : (framesB (recs pre)).length < p9 := by
        have := HP9.out
        omega
      clear hr hbs2 hlen2 hR HFS HOV hk6 HP9
      dsimp only [encH, rcF] at hyd
      gi_wp2_with (refine wpListIn_load_at rfl 43 (.tmp 4) rfl g1 rfl (rcA r (.slice av r.ts.length cv) (.slice au r.ds.length cu)) HR2.out _ Try.underlying43 rfl infoRc ?_)
      refine HRR.out.mono ?_
      rintro e w3 (⟨rfl, hJ3, hk3⟩ | ⟨rfl, hJx3⟩)
      · have HS3 : Hid (J (pre ++ [((r, .slice av r.ts.length cv, .slice au r.ds.length cu), p9)]) w3 ∧ Below n0 W w3 ∧ RowAt w3 gb 60 #[.slice a len cap]) := ⟨hJ3, HS2.out.2.1.trans hk3.1, hk3.2 _ HS2.out.2.2⟩
        clear hJ3 hk3 HS2 HG2 HR2 HRR hyd
        gi_wp2
        go_roundw
        case rel => exact ⟨_, y2, by rw [HL2.out], HN2, HS3⟩
        case measure => simp [intOf]; omega
      · have HX3 := hide hJx3
        clear hJx3 HS2 HG2 HR2 HRR hyd
        gi_wp2
        refine bodyPost_ret (results_none rfl _ _ _) rfl ?_
        exact ⟨⟨_, rfl⟩, .inr ⟨pre, HX3.out⟩⟩
    · rw [if_neg he]
      have k0 : (er == 0) = false := by rw [beq_eq_false_iff_ne]; exact he
      have k1 : (er != 0) = true := by rw [bne, k0]; rfl
      have HO := hide (HOV.out he)
      clear he HOV HFS
      gi_wp2_with (refine wpListIn_store_at rfl 43 (.tmp 4) (.tmp 11) rfl w1.heap.size zeroA (rcA r (.slice av r.ts.length cv) (.slice au r.ds.length cu)) rfl rfl (RowAt.new w1 43 zeroA) infoRc rfl (by simp [rcA, Value.oneCell']) ?_)
      intro w2 hr2 hg2
      have hb2 : Below w1.heap.size w1 w2 := ((Below.refl w1.heap.size w1).alloc (Nat.le_refl _) (.cells zeroA 43)).grown hg2 (by simp) (fun k hk => by cases hk; exact Nat.le_refl _)
      have HS2 : Hid (J pre w2 ∧ Below n0 W w2 ∧ RowAt w2 gb 60 #[.slice a len cap]) := ⟨HJ.out _ _ _ hb2 HS1.out.1, HS1.out.2.1.trans (hb2.mono (Nat.le_trans hn0 HS1.out.2.1.size)), HS1.out.2.2.later hb2⟩
      have HG2 := hide (HGT.out.below hb2)
      have HR2 := hide hr2
      clear hr2 hg2 hb2 HS1 HGT
      generalize w1.heap.size = g1 at *
      gi_wp2
      refine ⟨fun _ h => (by cases h), ?_⟩
      gi_wp2
      refine bodyPost_ret (results_none rfl _ _ _) rfl ?_
      exact ⟨⟨_, rfl⟩, .inl ⟨pre, HO.out, HS2.out.1⟩⟩
end Go.Proofs.Ytfbelaalmdcaaaa
