/-
  The reader of package record: dirty.
-/
import Derived.Test.YtmapgfakfeddmaaRecRdRows
namespace Go.Proofs.Ytmapgfakfeddmaa
open Go.RowKit
set_option linter.unusedVariables false

set_option maxRecDepth 4000 in
set_option maxHeartbeats 3200000 in
theorem bdirty_any (g : Nat) (a : Option Addr) (len cap : Nat) (bs : List UInt8) (s : St) (r : Rec) (va vb : Value) (w : World) (h : RbAt w g a len cap bs s r va vb) :
    Calls Try.prog 48 #[.pointer (some ⟨g, 0, none⟩)] w fun e w' => ∃ v, e = .returned v ∧ w'.ownsRow w.heap.size 67 2 v (cntN 32 s) (flatD (itL pDi (cntN 32 s) (pIn 0 32 s).2)) ∧ RbAt w' g a len cap bs (itS pDi (cntN 32 s) (pIn 0 32 s).2) r va vb ∧ w.grownBy w' (some g) := by
  have HC := hide (fun x h => bcount_any g a len cap bs s r va vb 32 x (by omega) h)
  have hcn : cntN 32 s ≤ 255 := by
    unfold cntN
    split
    · rw [in_val]
      have := num_lt 1 s
      omega
    · omega
  have HG := hide h.lt
  generalize hcN : cntN 32 s = cn at *
  generalize hs0 : (pIn 0 32 s).2 = s0 at *
  clear hcN hs0
  have hb0 := (Below.refl w.heap.size w).alloc (Nat.le_refl _) (.cells #[] 67)
  have HK0 : Hid (TK w (w.alloc (.cells #[] 67)) g a len cap bs s r va vb 67 2 (.slice (some ⟨w.heap.size, 0, none⟩) 0 0) 0 [] []) :=
    ⟨⟨h.later hb0, of_below hb0, trivial⟩, World.ownsRow_made w #[] 0 (Nat.le_refl _) (by unfold maxLen; omega) rfl, fun e he => (nomatch he), h.lt⟩
  clear hb0 h
  go_enter Try.func48, Try.ntmps48
  go_wp2_with fail
  refine (HC.out _ HK0.out.rb).mono ?_
  rintro e x1 ⟨rfl, hb, hg⟩
  have HK1 := hide (HK0.out.step hb hg (fun e he => nomatch he))
  clear hb hg HK0 HC
  obtain ⟨v0, hv0⟩ : ∃ v0, v0 = Value.slice (some ⟨w.heap.size, 0, none⟩) 0 0 := ⟨_, rfl⟩
  rw [← hv0] at HK1
  go_wp2
  rw [← hv0]
  clear hv0
  go_loopw [8, 3] (fun i v wr => ∃ j : Nat, j ≤ cn ∧ i = .int .i64 j ∧ TK w wr g a len cap bs (itS pDi j s0) r va vb 67 2 v j (flatD (itL pDi j s0)) []) (fun i _ _ => cn - (intOf i).toNat)
  case atStart => exact ⟨0, Nat.zero_le _, rfl, HK1.out⟩
  case round =>
    obtain ⟨j, hj, rfl, hk⟩ := hrel
    have HKJ := hide hk
    clear hk HK1
    by_cases hlt : j < cn
    case neg =>
      obtain rfl : j = cn := by omega
      have HX := HKJ
      clear HKJ HG
      go_wp2
      go_ret
      exact ⟨_, rfl, HX.out.own, HX.out.rb, HX.out.rk.gr⟩
    have jlt : (j : Int) < (cn : Int) := by omega
    obtain ⟨s, hsj⟩ : ∃ s', s' = itS pDi j s0 := ⟨_, rfl⟩
    obtain ⟨xs, hxs⟩ : ∃ xs, xs = flatD (itL pDi j s0) := ⟨_, rfl⟩
    rw [← hsj, ← hxs] at HKJ
    have HSJ := hide hsj
    have HXS := hide hxs
    clear hsj hxs
    obtain ⟨n1, s1, h1⟩ : ∃ n s', pNum 2 s = (n, s') := ⟨_, _, rfl⟩
    have b1 : n1 < 256 ^ 2 := by have := num_lt 2 s; rw [h1] at this; exact this
    have N1 := hide (fun x h => bnum_any g a len cap bs s r va vb 2 x (by omega) h)
    have ew1 := conv_i64 n1 (by omega)
    rw [h1] at N1
    obtain ⟨n2, s2, h2⟩ : ∃ n s', pNum 8 s1 = (n, s') := ⟨_, _, rfl⟩
    have b2 : n2 < 256 ^ 8 := by have := num_lt 8 s1; rw [h2] at this; exact this
    have N2 := hide (fun x h => bnum_any g a len cap bs s1 r va vb 8 x (by omega) h)
    rw [h2] at N2
    have hP : pDi s = (⟨n1, n2⟩, s2) := by
      simp only [pDi, bindP, pureP, h1, h2]
    have HP := hide hP
    clear hP h1 b1 h2 b2
    obtain ⟨gt, hgt⟩ : ∃ gt, gt = wr.heap.size := ⟨_, rfl⟩
    have HK0 : Hid (TK w (wr.alloc (.cells #[.int .i64 0, .int .u64 0] 67)) g a len cap bs s r va vb 67 2 u3 j xs [(wr.heap.size, 67, #[.int .i64 0, .int .u64 0])]) := HKJ.out.more ((Below.refl _ _).alloc (Nat.le_refl _) _) (RowAt.new _ _ _)
    have HGG : Hid (g < gt ∧ w.heap.size ≤ gt) := ⟨by rw [hgt]; exact HKJ.out.rb.lt, by rw [hgt]; exact HKJ.out.rk.gr.size⟩
    have HRS : Hid (∀ e ∈ ([] : List (Nat × TypeId × Array Value)), e.1 ≠ gt) := fun e he => nomatch he
    have HO0 : Hid (∀ cs : Array Value, Off g [(gt, 67, cs)]) := fun cs e he => by
      simp only [List.mem_cons, List.not_mem_nil, or_false] at he
      subst he
      exact Nat.ne_of_gt HGG.out.1
    clear HKJ
    go_wp2_with fail
    rw [← hgt] at HK0
    rw [← hgt]
    refine gen_calls (fun x => Hid (TK w x g a len cap bs s r va vb 67 2 u3 j xs [(gt, 67, #[.int .i64 0, .int .u64 0])])) HK0 ?_
    clear HK0 hgt
    intro y0 HK0
    refine (N1.out _ HK0.out.rb).mono ?_
    rintro e x1 ⟨rfl, hb, hg⟩
    have HL1 := hide (HK0.out.step hb hg (HO0.out _))
    clear hb hg HK0 N1
    have d := HL1.out.has.1.cell 0 (.int .i64 0) rfl
    have f := HL1.out.has.1.free 0
    have HK1 : Hid (TK w (x1.setCell ⟨gt, 0, none⟩ (.int .i64 (n1 : Int))) g a len cap bs s1 r va vb 67 2 u3 j xs [(gt, 67, #[.int .i64 (n1 : Int), .int .u64 0])]) := HL1.out.put HGG.out.1 HGG.out.2 HRS.out 0 (.int .i64 (n1 : Int))
    clear HL1
    go_wp2_with fail
    refine gen_calls (fun x => Hid (TK w x g a len cap bs s1 r va vb 67 2 u3 j xs [(gt, 67, #[.int .i64 (n1 : Int), .int .u64 0])])) HK1 ?_
    clear HK1 d f
    intro y1 HK1
    refine (N2.out _ HK1.out.rb).mono ?_
    rintro e x2 ⟨rfl, hb, hg⟩
    have HL2 := hide (HK1.out.step hb hg (HO0.out _))
    clear hb hg HK1 N2
    have d := HL2.out.has.1.cell 1 (.int .u64 0) rfl
    have f := HL2.out.has.1.free 1
    have HK2 : Hid (TK w (x2.setCell ⟨gt, 1, none⟩ (.int .u64 (n2 : Int))) g a len cap bs s2 r va vb 67 2 u3 j xs [(gt, 67, #[.int .i64 (n1 : Int), .int .u64 (n2 : Int)])]) := HL2.out.put HGG.out.1 HGG.out.2 HRS.out 1 (.int .u64 (n2 : Int))
    clear HL2
    go_wp2_with (first | (refine wpList_load_at rfl 67 (.tmp 4) rfl gt rfl #[.int .i64 (n1 : Int), .int .u64 (n2 : Int)] HK2.out.has.1 _ Try.underlying67 rfl infoDi ?_) | (at_builtin; refine wpList_append_row _ rfl (.tmp 18) (.tmp 20) 26 67 rfl #[.int .i64 0, .int .u64 0] 2 16 Try.underlying26 infoDi3 rfl (by decide) w.heap.size u3 j xs rfl (ownsRow_below HK2.out.own ((Below.refl (x2.setCell ⟨gt, 1, none⟩ (.int .u64 (n2 : Int))).heap.size (x2.setCell ⟨gt, 1, none⟩ (.int .u64 (n2 : Int)))).alloc (Nat.le_refl _) (.cells #[.int .i64 (n1 : Int), .int .u64 (n2 : Int)] 67))) x2.heap.size #[.int .i64 (n1 : Int), .int .u64 (n2 : Int)] rfl (by simp [Value.oneCell']) rfl (row_new2 (x2.setCell ⟨gt, 1, none⟩ (.int .u64 (n2 : Int))) 67 #[.int .i64 (n1 : Int), .int .u64 (n2 : Int)] (by simp)) (by omega) (by omega) (Nat.le_trans HK2.out.rk.gr.size (by simp)) ?_))
    intro v' w9 ho9 hg9
    have HN := hide (HK2.out.push ((Below.refl (x2.setCell ⟨gt, 1, none⟩ (.int .u64 (n2 : Int))).heap.size (x2.setCell ⟨gt, 1, none⟩ (.int .u64 (n2 : Int)))).alloc (Nat.le_refl _) (.cells #[.int .i64 (n1 : Int), .int .u64 (n2 : Int)] 67)) ho9 hg9)
    clear ho9 hg9 HK2 d f HGG HRS HO0
    go_wp2
    go_roundw
    case rel =>
      refine ⟨j + 1, by omega, by go_num, ?_⟩
      have e1 : itS pDi (j + 1) s0 = s2 := by rw [itS_more, ← HSJ.out, HP.out]
      have e2 : flatD (itL pDi (j + 1) s0) = xs ++ (#[.int .i64 (n1 : Int), .int .u64 (n2 : Int)] : Array Value).toList := by
        rw [itL_more, ← HSJ.out, HP.out, HXS.out]
        unfold flatD
        rw [List.flatMap_append]
        simp [diA]
      rw [e1, e2]
      exact HN.out
    case measure => simp [intOf]; omega
end Go.Proofs.Ytmapgfakfeddmaa
