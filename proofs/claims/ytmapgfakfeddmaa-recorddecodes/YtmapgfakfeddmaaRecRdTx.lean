/-
  The reader of package record: txns.
-/
import Derived.Test.YtmapgfakfeddmaaRecRdRows
namespace Go.Proofs.Ytmapgfakfeddmaa
open Go.RowKit
set_option linter.unusedVariables false

set_option maxRecDepth 4000 in
set_option maxHeartbeats 3200000 in
theorem btxns_any (g : Nat) (a : Option Addr) (len cap : Nat) (bs : List UInt8) (s : St) (r : Rec) (va vb : Value) (w : World) (h : RbAt w g a len cap bs s r va vb) :
    Calls Try.prog 47 #[.pointer (some ⟨g, 0, none⟩)] w fun e w' => ∃ v, e = .returned v ∧ w'.ownsRow w.heap.size 65 5 v (cntN 16 s) (flatT (itL pTx (cntN 16 s) (pIn 0 16 s).2)) ∧ RbAt w' g a len cap bs (itS pTx (cntN 16 s) (pIn 0 16 s).2) r va vb ∧ w.grownBy w' (some g) := by
  have HC := hide (fun x h => bcount_any g a len cap bs s r va vb 16 x (by omega) h)
  have hcn : cntN 16 s ≤ 255 := by
    unfold cntN
    split
    · rw [in_val]
      have := num_lt 1 s
      omega
    · omega
  have HG := hide h.lt
  generalize hcN : cntN 16 s = cn at *
  generalize hs0 : (pIn 0 16 s).2 = s0 at *
  clear hcN hs0
  have hb0 := (Below.refl w.heap.size w).alloc (Nat.le_refl _) (.cells #[] 65)
  have HK0 : Hid (TK w (w.alloc (.cells #[] 65)) g a len cap bs s r va vb 65 5 (.slice (some ⟨w.heap.size, 0, none⟩) 0 0) 0 [] []) :=
    ⟨⟨h.later hb0, of_below hb0, trivial⟩, World.ownsRow_made w #[] 0 (Nat.le_refl _) (by unfold maxLen; omega) rfl, fun e he => (nomatch he), h.lt⟩
  clear hb0 h
  go_enter Try.func47, Try.ntmps47
  go_wp2_with fail
  refine (HC.out _ HK0.out.rb).mono ?_
  rintro e x1 ⟨rfl, hb, hg⟩
  have HK1 := hide (HK0.out.step hb hg (fun e he => nomatch he))
  clear hb hg HK0 HC
  obtain ⟨v0, hv0⟩ : ∃ v0, v0 = Value.slice (some ⟨w.heap.size, 0, none⟩) 0 0 := ⟨_, rfl⟩
  rw [← hv0] at HK1
  go_wp2
  rw [← hv0]
  clear hv0
  go_loopw [8, 3] (fun i v wr => ∃ j : Nat, j ≤ cn ∧ i = .int .i64 j ∧ TK w wr g a len cap bs (itS pTx j s0) r va vb 65 5 v j (flatT (itL pTx j s0)) []) (fun i _ _ => cn - (intOf i).toNat)
  case atStart => exact ⟨0, Nat.zero_le _, rfl, HK1.out⟩
  case round =>
    obtain ⟨j, hj, rfl, hk⟩ := hrel
    have HKJ := hide hk
    clear hk HK1
    by_cases hlt : j < cn
    case neg =>
      obtain rfl : j = cn := by omega
      have HX := HKJ
      clear HKJ HG
      go_wp2
      go_ret
      exact ⟨_, rfl, HX.out.own, HX.out.rb, HX.out.rk.gr⟩
    have jlt : (j : Int) < (cn : Int) := by omega
    obtain ⟨s, hsj⟩ : ∃ s', s' = itS pTx j s0 := ⟨_, rfl⟩
    obtain ⟨xs, hxs⟩ : ∃ xs, xs = flatT (itL pTx j s0) := ⟨_, rfl⟩
    rw [← hsj, ← hxs] at HKJ
    have HSJ := hide hsj
    have HXS := hide hxs
    clear hsj hxs
    obtain ⟨n1, s1, h1⟩ : ∃ n s', pNum 4 s = (n, s') := ⟨_, _, rfl⟩
    have b1 : n1 < 256 ^ 4 := by have := num_lt 4 s; rw [h1] at this; exact this
    have N1 := hide (fun x h => bnum_any g a len cap bs s r va vb 4 x (by omega) h)
    have ew1 := conv_i64 n1 (by omega)
    rw [h1] at N1
    obtain ⟨n2, s2, h2⟩ : ∃ n s', pNum 1 s1 = (n, s') := ⟨_, _, rfl⟩
    have b2 : n2 < 256 ^ 1 := by have := num_lt 1 s1; rw [h2] at this; exact this
    have N2 := hide (fun x h => bnum_any g a len cap bs s1 r va vb 1 x (by omega) h)
    have ew2 := conv_i64 n2 (by omega)
    rw [h2] at N2
    obtain ⟨n3, s3, h3⟩ : ∃ n s', pNum 8 s2 = (n, s') := ⟨_, _, rfl⟩
    have b3 : n3 < 256 ^ 8 := by have := num_lt 8 s2; rw [h3] at this; exact this
    have N3 := hide (fun x h => bnum_any g a len cap bs s2 r va vb 8 x (by omega) h)
    rw [h3] at N3
    obtain ⟨n4, s4, h4⟩ : ∃ n s', pNum 8 s3 = (n, s') := ⟨_, _, rfl⟩
    have b4 : n4 < 256 ^ 8 := by have := num_lt 8 s3; rw [h4] at this; exact this
    have N4 := hide (fun x h => bnum_any g a len cap bs s3 r va vb 8 x (by omega) h)
    rw [h4] at N4
    obtain ⟨n5, s5, h5⟩ : ∃ n s', pNum 8 s4 = (n, s') := ⟨_, _, rfl⟩
    have b5 : n5 < 256 ^ 8 := by have := num_lt 8 s4; rw [h5] at this; exact this
    have N5 := hide (fun x h => bnum_any g a len cap bs s4 r va vb 8 x (by omega) h)
    rw [h5] at N5
    have hP : pTx s = (⟨n1, n2, n3, n4, n5⟩, s5) := by
      simp only [pTx, bindP, pureP, h1, h2, h3, h4, h5]
    have HP := hide hP
    clear hP h1 b1 h2 b2 h3 b3 h4 b4 h5 b5
    obtain ⟨gt, hgt⟩ : ∃ gt, gt = wr.heap.size := ⟨_, rfl⟩
    have HK0 : Hid (TK w (wr.alloc (.cells #[.int .i64 0, .int .i64 0, .int .u64 0, .int .u64 0, .int .u64 0] 65)) g a len cap bs s r va vb 65 5 u3 j xs [(wr.heap.size, 65, #[.int .i64 0, .int .i64 0, .int .u64 0, .int .u64 0, .int .u64 0])]) := HKJ.out.more ((Below.refl _ _).alloc (Nat.le_refl _) _) (RowAt.new _ _ _)
    have HGG : Hid (g < gt ∧ w.heap.size ≤ gt) := ⟨by rw [hgt]; exact HKJ.out.rb.lt, by rw [hgt]; exact HKJ.out.rk.gr.size⟩
    have HRS : Hid (∀ e ∈ ([] : List (Nat × TypeId × Array Value)), e.1 ≠ gt) := fun e he => nomatch he
    have HO0 : Hid (∀ cs : Array Value, Off g [(gt, 65, cs)]) := fun cs e he => by
      simp only [List.mem_cons, List.not_mem_nil, or_false] at he
      subst he
      exact Nat.ne_of_gt HGG.out.1
    clear HKJ
    go_wp2_with fail
    rw [← hgt] at HK0
    rw [← hgt]
    refine gen_calls (fun x => Hid (TK w x g a len cap bs s r va vb 65 5 u3 j xs [(gt, 65, #[.int .i64 0, .int .i64 0, .int .u64 0, .int .u64 0, .int .u64 0])])) HK0 ?_
    clear HK0 hgt
    intro y0 HK0
    refine (N1.out _ HK0.out.rb).mono ?_
    rintro e x1 ⟨rfl, hb, hg⟩
    have HL1 := hide (HK0.out.step hb hg (HO0.out _))
    clear hb hg HK0 N1
    have d := HL1.out.has.1.cell 0 (.int .i64 0) rfl
    have f := HL1.out.has.1.free 0
    have HK1 : Hid (TK w (x1.setCell ⟨gt, 0, none⟩ (.int .i64 (n1 : Int))) g a len cap bs s1 r va vb 65 5 u3 j xs [(gt, 65, #[.int .i64 (n1 : Int), .int .i64 0, .int .u64 0, .int .u64 0, .int .u64 0])]) := HL1.out.put HGG.out.1 HGG.out.2 HRS.out 0 (.int .i64 (n1 : Int))
    clear HL1
    go_wp2_with fail
    refine gen_calls (fun x => Hid (TK w x g a len cap bs s1 r va vb 65 5 u3 j xs [(gt, 65, #[.int .i64 (n1 : Int), .int .i64 0, .int .u64 0, .int .u64 0, .int .u64 0])])) HK1 ?_
    clear HK1 d f
    intro y1 HK1
    refine (N2.out _ HK1.out.rb).mono ?_
    rintro e x2 ⟨rfl, hb, hg⟩
    have HL2 := hide (HK1.out.step hb hg (HO0.out _))
    clear hb hg HK1 N2
    have d := HL2.out.has.1.cell 1 (.int .i64 0) rfl
    have f := HL2.out.has.1.free 1
    have HK2 : Hid (TK w (x2.setCell ⟨gt, 1, none⟩ (.int .i64 (n2 : Int))) g a len cap bs s2 r va vb 65 5 u3 j xs [(gt, 65, #[.int .i64 (n1 : Int), .int .i64 (n2 : Int), .int .u64 0, .int .u64 0, .int .u64 0])]) := HL2.out.put HGG.out.1 HGG.out.2 HRS.out 1 (.int .i64 (n2 : Int))
    clear HL2
    go_wp2_with fail
    refine gen_calls (fun x => Hid (TK w x g a len cap bs s2 r va vb 65 5 u3 j xs [(gt, 65, #[.int .i64 (n1 : Int), .int .i64 (n2 : Int), .int .u64 0, .int .u64 0, .int .u64 0])])) HK2 ?_
    clear HK2 d f
    intro y2 HK2
    refine (N3.out _ HK2.out.rb).mono ?_
    rintro e x3 ⟨rfl, hb, hg⟩
    have HL3 := hide (HK2.out.step hb hg (HO0.out _))
    clear hb hg HK2 N3
    have d := HL3.out.has.1.cell 2 (.int .u64 0) rfl
    have f := HL3.out.has.1.free 2
    have HK3 : Hid (TK w (x3.setCell ⟨gt, 2, none⟩ (.int .u64 (n3 : Int))) g a len cap bs s3 r va vb 65 5 u3 j xs [(gt, 65, #[.int .i64 (n1 : Int), .int .i64 (n2 : Int), .int .u64 (n3 : Int), .int .u64 0, .int .u64 0])]) := HL3.out.put HGG.out.1 HGG.out.2 HRS.out 2 (.int .u64 (n3 : Int))
    clear HL3
    go_wp2_with fail
    refine gen_calls (fun x => Hid (TK w x g a len cap bs s3 r va vb 65 5 u3 j xs [(gt, 65, #[.int .i64 (n1 : Int), .int .i64 (n2 : Int), .int .u64 (n3 : Int), .int .u64 0, .int .u64 0])])) HK3 ?_
    clear HK3 d f
    intro y3 HK3
    refine (N4.out _ HK3.out.rb).mono ?_
    rintro e x4 ⟨rfl, hb, hg⟩
    have HL4 := hide (HK3.out.step hb hg (HO0.out _))
    clear hb hg HK3 N4
    have d := HL4.out.has.1.cell 3 (.int .u64 0) rfl
    have f := HL4.out.has.1.free 3
    have HK4 : Hid (TK w (x4.setCell ⟨gt, 3, none⟩ (.int .u64 (n4 : Int))) g a len cap bs s4 r va vb 65 5 u3 j xs [(gt, 65, #[.int .i64 (n1 : Int), .int .i64 (n2 : Int), .int .u64 (n3 : Int), .int .u64 (n4 : Int), .int .u64 0])]) := HL4.out.put HGG.out.1 HGG.out.2 HRS.out 3 (.int .u64 (n4 : Int))
    clear HL4
    go_wp2_with fail
    refine gen_calls (fun x => Hid (TK w x g a len cap bs s4 r va vb 65 5 u3 j xs [(gt, 65, #[.int .i64 (n1 : Int), .int .i64 (n2 : Int), .int .u64 (n3 : Int), .int .u64 (n4 : Int), .int .u64 0])])) HK4 ?_
    clear HK4 d f
    intro y4 HK4
    refine (N5.out _ HK4.out.rb).mono ?_
    rintro e x5 ⟨rfl, hb, hg⟩
    have HL5 := hide (HK4.out.step hb hg (HO0.out _))
    clear hb hg HK4 N5
    have d := HL5.out.has.1.cell 4 (.int .u64 0) rfl
    have f := HL5.out.has.1.free 4
    have HK5 : Hid (TK w (x5.setCell ⟨gt, 4, none⟩ (.int .u64 (n5 : Int))) g a len cap bs s5 r va vb 65 5 u3 j xs [(gt, 65, #[.int .i64 (n1 : Int), .int .i64 (n2 : Int), .int .u64 (n3 : Int), .int .u64 (n4 : Int), .int .u64 (n5 : Int)])]) := HL5.out.put HGG.out.1 HGG.out.2 HRS.out 4 (.int .u64 (n5 : Int))
    clear HL5
    go_wp2_with (first | (refine wpList_load_at rfl 65 (.tmp 4) rfl gt rfl #[.int .i64 (n1 : Int), .int .i64 (n2 : Int), .int .u64 (n3 : Int), .int .u64 (n4 : Int), .int .u64 (n5 : Int)] HK5.out.has.1 _ Try.underlying65 rfl infoTx ?_) | (at_builtin; refine wpList_append_row _ rfl (.tmp 28) (.tmp 30) 25 65 rfl #[.int .i64 0, .int .i64 0, .int .u64 0, .int .u64 0, .int .u64 0] 5 40 Try.underlying25 infoTx3 rfl (by decide) w.heap.size u3 j xs rfl (ownsRow_below HK5.out.own ((Below.refl (x5.setCell ⟨gt, 4, none⟩ (.int .u64 (n5 : Int))).heap.size (x5.setCell ⟨gt, 4, none⟩ (.int .u64 (n5 : Int)))).alloc (Nat.le_refl _) (.cells #[.int .i64 (n1 : Int), .int .i64 (n2 : Int), .int .u64 (n3 : Int), .int .u64 (n4 : Int), .int .u64 (n5 : Int)] 65))) x5.heap.size #[.int .i64 (n1 : Int), .int .i64 (n2 : Int), .int .u64 (n3 : Int), .int .u64 (n4 : Int), .int .u64 (n5 : Int)] rfl (by simp [Value.oneCell']) rfl (row_new2 (x5.setCell ⟨gt, 4, none⟩ (.int .u64 (n5 : Int))) 65 #[.int .i64 (n1 : Int), .int .i64 (n2 : Int), .int .u64 (n3 : Int), .int .u64 (n4 : Int), .int .u64 (n5 : Int)] (by simp)) (by omega) (by omega) (Nat.le_trans HK5.out.rk.gr.size (by simp)) ?_))
    intro v' w9 ho9 hg9
    have HN := hide (HK5.out.push ((Below.refl (x5.setCell ⟨gt, 4, none⟩ (.int .u64 (n5 : Int))).heap.size (x5.setCell ⟨gt, 4, none⟩ (.int .u64 (n5 : Int)))).alloc (Nat.le_refl _) (.cells #[.int .i64 (n1 : Int), .int .i64 (n2 : Int), .int .u64 (n3 : Int), .int .u64 (n4 : Int), .int .u64 (n5 : Int)] 65)) ho9 hg9)
    clear ho9 hg9 HK5 d f HGG HRS HO0
    go_wp2
    go_roundw
    case rel =>
      refine ⟨j + 1, by omega, by go_num, ?_⟩
      have e1 : itS pTx (j + 1) s0 = s5 := by rw [itS_more, ← HSJ.out, HP.out]
      have e2 : flatT (itL pTx (j + 1) s0) = xs ++ (#[.int .i64 (n1 : Int), .int .i64 (n2 : Int), .int .u64 (n3 : Int), .int .u64 (n4 : Int), .int .u64 (n5 : Int)] : Array Value).toList := by
        rw [itL_more, ← HSJ.out, HP.out, HXS.out]
        unfold flatT
        rw [List.flatMap_append]
        simp [txA]
      rw [e1, e2]
      exact HN.out
    case measure => simp [intOf]; omega
end Go.Proofs.Ytmapgfakfeddmaa
