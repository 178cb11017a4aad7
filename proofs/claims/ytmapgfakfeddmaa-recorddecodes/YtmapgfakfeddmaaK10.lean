/-
  Texts that lean on one another, one behind the other: each opens with its own remark.
-/
import Derived.Test.YtmapgfakfeddmaaProg
import Derived.WalkSpells
import Derived.Test.YtmapgfakfeddmaaK09
import Derived.Test.YtmapgfakfeddmaaK00
import Derived.Test.YtmapgfakfeddmaaK03

/-
  The contract of quaysideref06.Same: the lists.
-/
namespace Go.Proofs.Ytmapgfakfeddmaa
open Go.RowKit
set_option linter.unusedVariables false

set_option maxRecDepth 4000 in
set_option maxHeartbeats 6400000 in
theorem rsame_yes (a b : Rec) (va vb ua ub : Value) (w : World) (q : Bool) (Hq : Hid (q = true ↔ a = b)) (hn : Rec.flat a b) (fa : a.fits) (fb : b.fits) (ha : RcIn w a va vb) (hb : RcIn w b ua ub) :
    Calls Try.prog 17 #[.agg (rcA a va vb), .agg (rcA b ua ub)] w fun e w' => e = .returned (.bool q) ∧ Below w.heap.size w w' := by
  have HFA := hide fa
  have HFB := hide fb
  have hml : maxLen = 9223372036854775807 := rfl
  have ltx := fa.tl
  have ldx := fa.dl
  have HF : Hid (¬ a = b → q = false) := fun h => by
    cases q
    · rfl
    · exact absurd (Hq.out.1 rfl) h
  have HT : Hid (a.ts = b.ts → a.ds = b.ds → q = true) := fun h1 h2 => Hq.out.2 (rec_ext hn.1 hn.2.1 hn.2.2.1 hn.2.2.2.1 hn.2.2.2.2.1 hn.2.2.2.2.2.1 hn.2.2.2.2.2.2.1 hn.2.2.2.2.2.2.2 h1 h2)
  clear Hq fa fb
  obtain ⟨hk, hl, ht, hp, hc, hnn, hs, hbb⟩ := hn
  have HA := hide ha
  have HB := hide hb
  obtain ⟨⟨a1, cap1, rfl, -⟩, ⟨a2, cap2, rfl, -⟩⟩ := ha
  obtain ⟨⟨b1, dap1, rfl, -⟩, ⟨b2, dap2, rfl, -⟩⟩ := hb
  have K0 := Keeps.two w 28 28 (rcA a (.slice a1 a.ts.length cap1) (.slice a2 a.ds.length cap2)) (rcA b (.slice b1 b.ts.length dap1) (.slice b2 b.ds.length dap2))
  have HK := hide K0
  obtain ⟨c0, c1, c2, c3, c9, c10, c11, c12, c13⟩ := rc_cells K0.1.2.1
  obtain ⟨d0, d1, d2, d3, d9, d10, d11, d12, d13⟩ := rc_cells K0.1.1
  obtain ⟨c4, c5, c6, c7, c8⟩ := rc_chg K0.1.2.1
  obtain ⟨d4, d5, d6, d7, d8⟩ := rc_chg K0.1.1
  have hb0 := K0.2
  clear K0
  have gk : (a.k == b.k) = true := beq_yes (hk)
  have kk : (a.k != b.k) = false := bne_no (hk)
  have gl : ((a.l : Int) == (b.l : Int)) = true := beq_yes (congrArg Int.ofNat hl)
  have kl : ((a.l : Int) != (b.l : Int)) = false := bne_no (congrArg Int.ofNat hl)
  have gt : (a.t == b.t) = true := beq_yes (ht)
  have kt : (a.t != b.t) = false := bne_no (ht)
  have gp : ((a.p : Int) == (b.p : Int)) = true := beq_yes (congrArg Int.ofNat hp)
  have kp : ((a.p : Int) != (b.p : Int)) = false := bne_no (congrArg Int.ofNat hp)
  have gck : (a.c.k == b.c.k) = true := beq_yes (congrArg Ch.k hc)
  have kck : (a.c.k != b.c.k) = false := bne_no (congrArg Ch.k hc)
  have gcp : (a.c.pg == b.c.pg) = true := beq_yes (congrArg Ch.pg hc)
  have kcp : (a.c.pg != b.c.pg) = false := bne_no (congrArg Ch.pg hc)
  have gcs : (a.c.sl == b.c.sl) = true := beq_yes (congrArg Ch.sl hc)
  have kcs : (a.c.sl != b.c.sl) = false := bne_no (congrArg Ch.sl hc)
  have gn : ((a.n : Int) == (b.n : Int)) = true := beq_yes (congrArg Int.ofNat hnn)
  have kn : ((a.n : Int) != (b.n : Int)) = false := bne_no (congrArg Int.ofNat hnn)
  have gs : (a.s == b.s) = true := beq_yes (hs)
  have ks : (a.s != b.s) = false := bne_no (hs)
  have gb : ((a.b : Int) == (b.b : Int)) = true := beq_yes (congrArg Int.ofNat hbb)
  have kb : ((a.b : Int) != (b.b : Int)) = false := bne_no (congrArg Int.ofNat hbb)
  have hco : a.c.o.toList = b.c.o.toList := by rw [hc]
  have hcn : a.c.n.toList = b.c.n.toList := by rw [hc]
  clear hk hl ht hp hc hnn hs hbb
  by_cases lt : a.ts.length = b.ts.length
  case neg =>
    obtain rfl := HF.out (fun h => lt (by rw [h]))
    have i1 : ((a.ts.length : Int) == (b.ts.length : Int)) = false := beq_no (by omega)
    have i2 : ((a.ts.length : Int) != (b.ts.length : Int)) = true := bne_yes (by omega)
    clear HF HT HFA HFB HA HB HK lt ltx ldx hml
    go_enter Try.func17, Try.ntmps17
    go_wp2
    go_ret
    exact ⟨rfl, hb0⟩
  have i1 : ((a.ts.length : Int) == (b.ts.length : Int)) = true := beq_yes (by omega)
  have i2 : ((a.ts.length : Int) != (b.ts.length : Int)) = false := bne_no (by omega)
  by_cases ld : a.ds.length = b.ds.length
  case neg =>
    obtain rfl := HF.out (fun h => ld (by rw [h]))
    have j1 : ((a.ds.length : Int) == (b.ds.length : Int)) = false := beq_no (by omega)
    have j2 : ((a.ds.length : Int) != (b.ds.length : Int)) = true := bne_yes (by omega)
    clear HF HT HFA HFB HA HB HK lt ld ltx ldx hml
    go_enter Try.func17, Try.ntmps17
    go_wp2
    go_ret
    exact ⟨rfl, hb0⟩
  have j1 : ((a.ds.length : Int) == (b.ds.length : Int)) = true := beq_yes (by omega)
  have j2 : ((a.ds.length : Int) != (b.ds.length : Int)) = false := bne_no (by omega)
  have HLT := hide lt
  have HLD := hide ld
  clear lt ld
  go_enter Try.func17, Try.ntmps17
  go_wp2
  obtain ⟨A, hA⟩ : ∃ A, A = rcA a (.slice a1 a.ts.length cap1) (.slice a2 a.ds.length cap2) := ⟨_, rfl⟩
  obtain ⟨B, hB⟩ : ∃ B, B = rcA b (.slice b1 b.ts.length dap1) (.slice b2 b.ds.length dap2) := ⟨_, rfl⟩
  obtain ⟨g1, hg1⟩ : ∃ g1, g1 = w.heap.size + 1 := ⟨_, rfl⟩
  rw [← hA, ← hB, ← hg1] at HK
  rw [← hA, ← hB, ← hg1]
  have HEA := hide hA
  have HEB := hide hB
  clear hA hB hg1 c0 c1 c2 c3 c4 c5 c6 c7 c8 c9 c10 c11 c12 c13 d0 d1 d2 d3 d4 d5 d6 d7 d8 d9 d10 d11 d12 d13 hb0 gk gl gt gp gck gcp gcs gn gs gb kk kl kt kp kck kcp kcs kn ks kb hco hcn i1 i2 j1 j2
  go_loopw [80, 5] (fun v _ wr => ∃ j : Nat, j ≤ a.ts.length ∧ v = .int .i64 j ∧ Keeps w wr [(g1, 28, B), (w.heap.size, 28, A)] ∧ ∀ i, i < j → a.ts.getD i Tx.zero = b.ts.getD i Tx.zero) (fun v _ _ => a.ts.length - (intOf v).toNat)
  case atStart => exact ⟨0, Nat.zero_le _, rfl, HK.out, fun i hi => absurd hi (by omega)⟩
  case round =>
    obtain ⟨j, hj, rfl, hk, hat⟩ := hrel
    have HAT := hide hat
    clear HK
    have HK := hide hk
    clear hat hk
    by_cases hlt : j < a.ts.length
    case neg =>
      obtain rfl : j = a.ts.length := by omega
      have HE := hide (list_same (z := Tx.zero) HLT.out HAT.out)
      clear HAT
      have HETS := HE
      clear HE
      have c13 : wr.cell? ⟨w.heap.size, 13, none⟩ = some (.slice a2 a.ds.length cap2) := by have h := HK.out.1.2.1; rw [HEA.out] at h; exact h.cell 13 _ rfl
      go_wp2
      clear c13
      go_loopw [98, 6] (fun v _ wr => ∃ j : Nat, j ≤ a.ds.length ∧ v = .int .i64 j ∧ Keeps w wr [(g1, 28, B), (w.heap.size, 28, A)] ∧ ∀ i, i < j → a.ds.getD i Di.zero = b.ds.getD i Di.zero) (fun v _ _ => a.ds.length - (intOf v).toNat)
      case atStart => exact ⟨0, Nat.zero_le _, rfl, HK.out, fun i hi => absurd hi (by omega)⟩
      case round =>
        obtain ⟨j, hj, rfl, hk, hat⟩ := hrel
        have HAT := hide hat
        clear HK
        have HK := hide hk
        clear hat hk
        by_cases hlt : j < a.ds.length
        case neg =>
          obtain rfl : j = a.ds.length := by omega
          have HE := hide (list_same (z := Di.zero) HLD.out HAT.out)
          clear HAT
          obtain rfl := HT.out HETS.out HE.out
          have d3 := HK.out.2
          clear HF HT HFA HFB HA HB HK HE HETS HEA HEB
          go_wp2
          go_ret
          exact ⟨rfl, d3⟩
        have jlt : (j : Int) < (a.ds.length : Int) := by omega
        obtain ⟨u1, k1, e1, hrow1⟩ := (HA.out.below HK.out.2).2
        obtain ⟨u2, k2, e2, hrow2⟩ := (HB.out.below HK.out.2).2
        rw [← HLD.out] at e2
        cases e1
        cases e2
        obtain ⟨p1, off1, hp1, -, hc1⟩ := hrow1 (by omega)
        obtain ⟨p2, off2, hp2, -, hc2⟩ := hrow2 (by rw [← HLD.out]; omega)
        have HR1 := hide (hc1 j hlt)
        have HR2 := hide (hc2 j (by rw [← HLD.out]; exact hlt))
        have HPP : Hid (a2 = some ⟨p1, off1, none⟩ ∧ b2 = some ⟨p2, off2, none⟩) := ⟨hp1, hp2⟩
        clear hrow1 hrow2 hc1 hc2 hp1 hp2
        have HF1 := hide (HFA.out.ds _ (getD_mem a.ds j Di.zero hlt))
        have HF2 := hide (HFB.out.ds _ (getD_mem b.ds j Di.zero (by rw [← HLD.out]; exact hlt)))
        obtain ⟨x, hx⟩ : ∃ x, x = a.ds.getD j Di.zero := ⟨_, rfl⟩
        obtain ⟨y, hy⟩ : ∃ y, y = b.ds.getD j Di.zero := ⟨_, rfl⟩
        have HXY : Hid (x = a.ds.getD j Di.zero ∧ y = b.ds.getD j Di.zero) := ⟨hx, hy⟩
        rw [← hx] at HR1 HF1
        rw [← hy] at HR2 HF2
        clear hx hy
        obtain ⟨p, hp⟩ : ∃ p : Bool, p = false ↔ x = y := ⟨!(@decide (x = y) (Classical.propDecidable _)), by simp⟩
        have HP := hide hp
        clear hp
        go_wp2_with fail
        refine wp_region_in (fun z => Keeps w z [(g1, 28, B), (w.heap.size, 28, A)] ∧ z.rangeAt p1 (off1 + j * 2) (diA x).toList ∧ z.rangeAt p2 (off2 + j * 2) (diA y).toList) (by kernel_rfl) (by kernel_rfl) ⟨HK.out.drew, HR1.out, HR2.out⟩ ?_
        clear HK HR1 HR2
        repeat (first
          | go_big_quiet_skip
          | (refine wpQuiet_load rfl 26 (.tmp 101) rfl _ (.slice (some ⟨p1, off1, none⟩) a.ds.length cap2) rfl (fun z hz => load_dis z _ _ _ (show z.cell? ⟨w.heap.size, 13, none⟩ = _ from by have h := hz.1.1.2.1; rw [HEA.out, HPP.out.1] at h; exact h.cell 13 _ rfl)) ?_; simp only [Act.put, Array.setIfInBounds, List.size_toArray, List.length_cons, List.length_nil, Nat.reduceAdd, Nat.reduceLT, ↓reduceDIte, List.set_toArray, List.set_cons_succ, List.set_cons_zero])
          | (refine wpQuiet_load rfl 26 (.tmp 106) rfl _ (.slice (some ⟨p2, off2, none⟩) a.ds.length dap2) rfl (fun z hz => load_dis z _ _ _ (show z.cell? ⟨g1, 13, none⟩ = _ from by have h := hz.1.1.1; rw [HEB.out, HPP.out.2, ← HLD.out] at h; exact h.cell 13 _ rfl)) ?_; simp only [Act.put, Array.setIfInBounds, List.size_toArray, List.length_cons, List.length_nil, Nat.reduceAdd, Nat.reduceLT, ↓reduceDIte, List.set_toArray, List.set_cons_succ, List.set_cons_zero])
          | (refine wpQuiet_load rfl 67 (.tmp 104) rfl _ (.agg (diA x)) rfl (fun z hz => load_di z p1 _ x hz.2.1) ?_; simp only [Act.put, Array.setIfInBounds, List.size_toArray, List.length_cons, List.length_nil, Nat.reduceAdd, Nat.reduceLT, ↓reduceDIte, List.set_toArray, List.set_cons_succ, List.set_cons_zero])
          | (refine wpQuiet_load rfl 67 (.tmp 109) rfl _ (.agg (diA y)) rfl (fun z hz => load_di z p2 _ y hz.2.2) ?_; simp only [Act.put, Array.setIfInBounds, List.size_toArray, List.length_cons, List.length_nil, Nat.reduceAdd, Nat.reduceLT, ↓reduceDIte, List.set_toArray, List.set_cons_succ, List.set_cons_zero])
          | (refine wpQuiet_binop rfl .neq 67 _ (.tmp 105) (.tmp 110) rfl (.agg (diA x)) (.agg (diA y)) (.bool p) rfl rfl (fun z => di_guard .neq _ _ x y z) (fun z => run_di_neq x y HF1.out HF2.out p HP.out z) ?_; simp only [Act.put, Array.setIfInBounds, List.size_toArray, List.length_cons, List.length_nil, Nat.reduceAdd, Nat.reduceLT, ↓reduceDIte, List.set_toArray, List.set_cons_succ, List.set_cons_zero])
          | (refine wpQuiet_plain rfl (fun K hK => ?_); go_simp; refine hK _ ?_; clear hK K))
        refine wpQuiet_nil ?_
        intro w3 h3
        have H3 := hide h3.1
        clear h3
        cases p
        · have HE := hide (HP.out.1 rfl)
          clear HP
          go_wp2
          go_roundw
          case rel => exact ⟨j + 1, by omega, by go_num, H3.out, at_more HAT.out (by rw [← HXY.out.1, ← HXY.out.2]; exact HE.out)⟩
          case measure => simp [intOf]; omega
        · obtain rfl := HF.out (fun h => absurd (HP.out.2 (by rw [HXY.out.1, HXY.out.2, h])) (by simp))
          have d3 := H3.out.2
          clear HP HXY HAT HF1 HF2 H3
          go_wp2
          go_ret
          exact ⟨rfl, d3⟩
    have jlt : (j : Int) < (a.ts.length : Int) := by omega
    obtain ⟨u1, k1, e1, hrow1⟩ := (HA.out.below HK.out.2).1
    obtain ⟨u2, k2, e2, hrow2⟩ := (HB.out.below HK.out.2).1
    rw [← HLT.out] at e2
    cases e1
    cases e2
    obtain ⟨p1, off1, hp1, -, hc1⟩ := hrow1 (by omega)
    obtain ⟨p2, off2, hp2, -, hc2⟩ := hrow2 (by rw [← HLT.out]; omega)
    have HR1 := hide (hc1 j hlt)
    have HR2 := hide (hc2 j (by rw [← HLT.out]; exact hlt))
    have HPP : Hid (a1 = some ⟨p1, off1, none⟩ ∧ b1 = some ⟨p2, off2, none⟩) := ⟨hp1, hp2⟩
    clear hrow1 hrow2 hc1 hc2 hp1 hp2
    have HF1 := hide (HFA.out.ts _ (getD_mem a.ts j Tx.zero hlt))
    have HF2 := hide (HFB.out.ts _ (getD_mem b.ts j Tx.zero (by rw [← HLT.out]; exact hlt)))
    obtain ⟨x, hx⟩ : ∃ x, x = a.ts.getD j Tx.zero := ⟨_, rfl⟩
    obtain ⟨y, hy⟩ : ∃ y, y = b.ts.getD j Tx.zero := ⟨_, rfl⟩
    have HXY : Hid (x = a.ts.getD j Tx.zero ∧ y = b.ts.getD j Tx.zero) := ⟨hx, hy⟩
    rw [← hx] at HR1 HF1
    rw [← hy] at HR2 HF2
    clear hx hy
    obtain ⟨p, hp⟩ : ∃ p : Bool, p = false ↔ x = y := ⟨!(@decide (x = y) (Classical.propDecidable _)), by simp⟩
    have HP := hide hp
    clear hp
    go_wp2_with fail
    refine wp_region_in (fun z => Keeps w z [(g1, 28, B), (w.heap.size, 28, A)] ∧ z.rangeAt p1 (off1 + j * 5) (txA x).toList ∧ z.rangeAt p2 (off2 + j * 5) (txA y).toList) (by kernel_rfl) (by kernel_rfl) ⟨HK.out.drew, HR1.out, HR2.out⟩ ?_
    clear HK HR1 HR2
    repeat (first
      | go_big_quiet_skip
      | (refine wpQuiet_load rfl 25 (.tmp 83) rfl _ (.slice (some ⟨p1, off1, none⟩) a.ts.length cap1) rfl (fun z hz => load_txs z _ _ _ (show z.cell? ⟨w.heap.size, 12, none⟩ = _ from by have h := hz.1.1.2.1; rw [HEA.out, HPP.out.1] at h; exact h.cell 12 _ rfl)) ?_; simp only [Act.put, Array.setIfInBounds, List.size_toArray, List.length_cons, List.length_nil, Nat.reduceAdd, Nat.reduceLT, ↓reduceDIte, List.set_toArray, List.set_cons_succ, List.set_cons_zero])
      | (refine wpQuiet_load rfl 25 (.tmp 88) rfl _ (.slice (some ⟨p2, off2, none⟩) a.ts.length dap1) rfl (fun z hz => load_txs z _ _ _ (show z.cell? ⟨g1, 12, none⟩ = _ from by have h := hz.1.1.1; rw [HEB.out, HPP.out.2, ← HLT.out] at h; exact h.cell 12 _ rfl)) ?_; simp only [Act.put, Array.setIfInBounds, List.size_toArray, List.length_cons, List.length_nil, Nat.reduceAdd, Nat.reduceLT, ↓reduceDIte, List.set_toArray, List.set_cons_succ, List.set_cons_zero])
      | (refine wpQuiet_load rfl 65 (.tmp 86) rfl _ (.agg (txA x)) rfl (fun z hz => load_tx z p1 _ x hz.2.1) ?_; simp only [Act.put, Array.setIfInBounds, List.size_toArray, List.length_cons, List.length_nil, Nat.reduceAdd, Nat.reduceLT, ↓reduceDIte, List.set_toArray, List.set_cons_succ, List.set_cons_zero])
      | (refine wpQuiet_load rfl 65 (.tmp 91) rfl _ (.agg (txA y)) rfl (fun z hz => load_tx z p2 _ y hz.2.2) ?_; simp only [Act.put, Array.setIfInBounds, List.size_toArray, List.length_cons, List.length_nil, Nat.reduceAdd, Nat.reduceLT, ↓reduceDIte, List.set_toArray, List.set_cons_succ, List.set_cons_zero])
      | (refine wpQuiet_binop rfl .neq 65 _ (.tmp 87) (.tmp 92) rfl (.agg (txA x)) (.agg (txA y)) (.bool p) rfl rfl (fun z => tx_guard .neq _ _ x y z) (fun z => run_tx_neq x y HF1.out HF2.out p HP.out z) ?_; simp only [Act.put, Array.setIfInBounds, List.size_toArray, List.length_cons, List.length_nil, Nat.reduceAdd, Nat.reduceLT, ↓reduceDIte, List.set_toArray, List.set_cons_succ, List.set_cons_zero])
      | (refine wpQuiet_plain rfl (fun K hK => ?_); go_simp; refine hK _ ?_; clear hK K))
    refine wpQuiet_nil ?_
    intro w3 h3
    have H3 := hide h3.1
    clear h3
    cases p
    · have HE := hide (HP.out.1 rfl)
      clear HP
      go_wp2
      go_roundw
      case rel => exact ⟨j + 1, by omega, by go_num, H3.out, at_more HAT.out (by rw [← HXY.out.1, ← HXY.out.2]; exact HE.out)⟩
      case measure => simp [intOf]; omega
    · obtain rfl := HF.out (fun h => absurd (HP.out.2 (by rw [HXY.out.1, HXY.out.2, h])) (by simp))
      have d3 := H3.out.2
      clear HP HXY HAT HF1 HF2 H3
      go_wp2
      go_ret
      exact ⟨rfl, d3⟩

/-- THE CONTRACT. -/
theorem rsame_at (a b : Rec) (va vb ua ub : Value) (w : World) (q : Bool) (Hq : Hid (q = true ↔ a = b)) (fa : a.fits) (fb : b.fits) (ha : RcIn w a va vb) (hb : RcIn w b ua ub) :
    Calls Try.prog 17 #[.agg (rcA a va vb), .agg (rcA b ua ub)] w fun e w' => e = .returned (.bool q) ∧ Below w.heap.size w w' := by
  by_cases hn : Rec.flat a b
  · exact rsame_yes a b va vb ua ub w q Hq hn fa fb ha hb
  · obtain rfl : q = false := by
      cases q
      · rfl
      · have h := Hq.out.1 rfl
        subst h
        exact absurd ⟨rfl, rfl, rfl, rfl, rfl, rfl, rfl, rfl⟩ hn
    exact rsame_no a b va vb ua ub w hn ha hb
end Go.Proofs.Ytmapgfakfeddmaa

/-
  The contract of quaysideref01.Take: it answers 'takeS' too, over the string's bytes.
-/
namespace Go.Proofs.Ytmapgfakfeddmaa
open Go.RowKit
set_option linter.unusedVariables false

set_option maxRecDepth 4000 in
set_option maxHeartbeats 400000 in
theorem rtake_arg1 (s : ByteArray) (p k : Int) (w : World) (h : k < 1) :
    Calls Try.prog 49 #[.string s, .int .i64 p, .int .i64 k] w fun e w' => e = .returned (.tuple #[.int .u64 0, .int .i64 1]) ∧ w = w' := by
  go_enter Try.func49, Try.ntmps49
  go_wp2
  go_ret2
  exact ⟨rfl, rfl⟩

set_option maxRecDepth 4000 in
set_option maxHeartbeats 400000 in
theorem rtake_arg2 (s : ByteArray) (p k : Int) (w : World) (h : 8 < k) :
    Calls Try.prog 49 #[.string s, .int .i64 p, .int .i64 k] w fun e w' => e = .returned (.tuple #[.int .u64 0, .int .i64 1]) ∧ w = w' := by
  have h1 : ¬ k < 1 := by omega
  go_enter Try.func49, Try.ntmps49
  go_wp2
  go_ret2
  exact ⟨rfl, rfl⟩

set_option maxRecDepth 4000 in
set_option maxHeartbeats 400000 in
theorem rtake_arg3 (s : ByteArray) (p k : Int) (w : World) (h1 : 1 ≤ k) (h2 : k ≤ 8) (h3 : p < 0) :
    Calls Try.prog 49 #[.string s, .int .i64 p, .int .i64 k] w fun e w' => e = .returned (.tuple #[.int .u64 0, .int .i64 1]) ∧ w = w' := by
  have h4 : ¬ k < 1 := by omega
  have h5 : ¬ 8 < k := by omega
  go_enter Try.func49, Try.ntmps49
  go_wp2
  go_ret2
  exact ⟨rfl, rfl⟩

set_option maxRecDepth 4000 in
set_option maxHeartbeats 400000 in
theorem rtake_short1 (s : ByteArray) (p k : Int) (w : World) (h1 : 1 ≤ k) (h2 : k ≤ 8) (h3 : 0 ≤ p) (h4 : (s.size : Int) < p) :
    Calls Try.prog 49 #[.string s, .int .i64 p, .int .i64 k] w fun e w' => e = .returned (.tuple #[.int .u64 0, .int .i64 4]) ∧ w = w' := by
  have h5 : ¬ p < 0 := by omega
  have h6 : ¬ k < 1 := by omega
  have h7 : ¬ 8 < k := by omega
  go_enter Try.func49, Try.ntmps49
  go_wp2
  go_ret2
  exact ⟨rfl, rfl⟩

set_option maxRecDepth 4000 in
set_option maxHeartbeats 400000 in
theorem rtake_short2 (s : ByteArray) (p k : Int) (w : World) (hl : s.size ≤ 9223372036854775807) (h1 : 1 ≤ k) (h2 : k ≤ 8) (h3 : 0 ≤ p) (h4 : p ≤ (s.size : Int)) (h8 : (s.size : Int) - p < k) :
    Calls Try.prog 49 #[.string s, .int .i64 p, .int .i64 k] w fun e w' => e = .returned (.tuple #[.int .u64 0, .int .i64 4]) ∧ w = w' := by
  have h5 : ¬ p < 0 := by omega
  have h6 : ¬ k < 1 := by omega
  have h7 : ¬ 8 < k := by omega
  have h9 : ¬ (s.size : Int) < p := by omega
  go_enter Try.func49, Try.ntmps49
  go_wp2
  go_ret2
  exact ⟨rfl, rfl⟩

set_option maxRecDepth 4000 in
set_option maxHeartbeats 400000 in
theorem rtake_ok (s : ByteArray) (p k : Nat) (w : World) (hl : s.size ≤ 9223372036854775807) (h1 : 1 ≤ k) (h2 : k ≤ 8) (h4 : p + k ≤ s.size) :
    Calls Try.prog 49 #[.string s, .int .i64 p, .int .i64 k] w fun e w' => e = .returned (.tuple #[.int .u64 (beAt s.data.toList p k : Nat), .int .i64 0]) ∧ w = w' := by
  have h3 : ¬ (p : Int) < 0 := by omega
  have h5 : ¬ (s.size : Int) - (p : Int) < (k : Int) := by omega
  have h6 : ¬ (k : Int) < 1 := by omega
  have h7 : ¬ 8 < (k : Int) := by omega
  have h8 : ¬ (s.size : Int) < (p : Int) := by omega
  go_enter Try.func49, Try.ntmps49
  go_wp2
  go_loop [8, 9] (fun n i => ∃ j : Nat, j ≤ k ∧ i = .int .i64 j ∧ n = .int .u64 (beAt s.data.toList p j : Nat)) (fun _ i => k - (intOf i).toNat)
  case atStart => exact ⟨0, Nat.zero_le _, rfl, by rw [beAt_zero]; rfl⟩
  case round =>
    obtain ⟨j, hj, rfl, rfl⟩ := hrel
    by_cases hlt : j < k
    · have hn := beAt_lt7 s.data.toList p j (by omega)
      have hpj : p + j < s.size := by omega
      go_wp2
      go_round
      case rel => exact ⟨j + 1, by omega, by go_num, by rw [rtake_step s p j (by omega) (by omega)]⟩
      case measure => simp [intOf]; omega
    · go_wp2
      go_ret2
      obtain rfl : j = k := by omega
      exact ⟨rfl, rfl⟩

/-- THE CONTRACT. -/
theorem rtake_any (s : ByteArray) (p k : Int) (w : World) (hl : s.size ≤ 9223372036854775807) :
    Calls Try.prog 49 #[.string s, .int .i64 p, .int .i64 k] w fun e w' => e = .returned (.tuple #[.int .u64 (takeS s.data.toList p k).1, .int .i64 (takeS s.data.toList p k).2]) ∧ w = w' := by
  have hs : s.data.toList.length = s.size := by simp
  by_cases h1 : k < 1
  · rw [takeS_arg _ p k (Or.inl h1)]
    exact rtake_arg1 s p k w h1
  by_cases h2 : 8 < k
  · rw [takeS_arg _ p k (Or.inr (Or.inl h2))]
    exact rtake_arg2 s p k w h2
  by_cases h3 : p < 0
  · rw [takeS_arg _ p k (Or.inr (Or.inr h3))]
    exact rtake_arg3 s p k w (by omega) (by omega) h3
  have h0 : ¬ (k < 1 ∨ 8 < k ∨ p < 0) := by omega
  by_cases h4 : (s.data.toList.length : Int) - p < k
  · rw [takeS_short _ p k h0 h4]
    by_cases h5 : (s.size : Int) < p
    · exact rtake_short1 s p k w (by omega) (by omega) (by omega) h5
    · exact rtake_short2 s p k w hl (by omega) (by omega) (by omega) (by omega) (by omega)
  · rw [takeS_ok _ p k h0 h4]
    obtain ⟨pn, rfl⟩ := Int.eq_ofNat_of_zero_le (show 0 ≤ p by omega)
    obtain ⟨kn, rfl⟩ := Int.eq_ofNat_of_zero_le (show 0 ≤ k by omega)
    exact rtake_ok s pn kn w hl (by omega) (by omega) (by omega)
end Go.Proofs.Ytmapgfakfeddmaa

/-
  The contract of quaysideref01.TakeText: it answers 'textS' too, over the string's bytes.
-/
namespace Go.Proofs.Ytmapgfakfeddmaa
open Go.RowKit
set_option linter.unusedVariables false

set_option maxRecDepth 4000 in
set_option maxHeartbeats 400000 in
theorem rttext_arg (s : ByteArray) (p : Int) (w : World) (h : p < 0) :
    Calls Try.prog 50 #[.string s, .int .i64 p] w fun e w' => e = .returned (.tuple #[.string ⟨#[]⟩, .int .i64 0, .int .i64 1]) ∧ w = w' := by
  go_enter Try.func50, Try.ntmps50
  go_wp2
  go_ret3
  exact ⟨rfl, rfl⟩

set_option maxRecDepth 4000 in
set_option maxHeartbeats 400000 in
theorem rttext_short (s : ByteArray) (p : Int) (w : World) (h : ¬ p < 0) (h2 : (s.size : Int) ≤ p) :
    Calls Try.prog 50 #[.string s, .int .i64 p] w fun e w' => e = .returned (.tuple #[.string ⟨#[]⟩, .int .i64 0, .int .i64 4]) ∧ w = w' := by
  go_enter Try.func50, Try.ntmps50
  go_wp2
  go_ret3
  exact ⟨rfl, rfl⟩

set_option maxRecDepth 4000 in
set_option maxHeartbeats 400000 in
theorem rttext_few (s : ByteArray) (p : Nat) (w : World) (hl : s.size ≤ 140737488355328) (h1 : p < s.size) (h2 : (s.size : Int) - p - 1 < (s[p].toNat : Int)) :
    Calls Try.prog 50 #[.string s, .int .i64 p] w fun e w' => e = .returned (.tuple #[.string ⟨#[]⟩, .int .i64 0, .int .i64 4]) ∧ w = w' := by
  have hm : s[p].toNat < 256 := s[p].toNat_lt
  go_enter Try.func50, Try.ntmps50
  go_wp2
  go_ret3
  exact ⟨rfl, rfl⟩

set_option maxRecDepth 4000 in
set_option maxHeartbeats 400000 in
theorem rttext_ok (s : ByteArray) (p : Nat) (w : World) (hl : s.size ≤ 140737488355328) (h1 : p < s.size) (h2 : ¬ (s.size : Int) - p - 1 < (s[p].toNat : Int)) :
    Calls Try.prog 50 #[.string s, .int .i64 p] w fun e w' => e = .returned (.tuple #[.string (s.extract (p + 1) (p + 1 + s[p].toNat)), .int .i64 ((p : Int) + 1 + (s[p].toNat : Int)), .int .i64 0]) ∧ w = w' := by
  have hm : s[p].toNat < 256 := s[p].toNat_lt
  go_enter Try.func50, Try.ntmps50
  go_wp2
  go_ret3
  exact ⟨rfl, rfl⟩

/-- THE CONTRACT. -/
theorem rttext_any (s : ByteArray) (p : Int) (w : World) (hl : s.size ≤ 140737488355328) :
    Calls Try.prog 50 #[.string s, .int .i64 p] w fun e w' => e = .returned (.tuple #[.string ⟨(textS s.data.toList p).1.toArray⟩, .int .i64 (textS s.data.toList p).2.1, .int .i64 (textS s.data.toList p).2.2]) ∧ w = w' := by
  have hs : s.data.toList.length = s.size := by simp
  by_cases h1 : p < 0
  · rw [textS_arg _ p h1]
    exact rttext_arg s p w h1
  by_cases h2 : (s.data.toList.length : Int) ≤ p
  · rw [textS_short _ p h1 h2]
    exact rttext_short s p w h1 (by omega)
  obtain ⟨pn, rfl⟩ := Int.eq_ofNat_of_zero_le (show 0 ≤ p by omega)
  have hp : pn < s.size := by omega
  have hg : (s.data.toList.getD pn 0).toNat = s[pn].toNat := by rw [getD_str s pn hp]
  by_cases h3 : pn + 1 + s[pn].toNat ≤ s.size
  · rw [textS_ok _ pn _ (by omega) hg (by omega)]
    have R := rttext_ok s pn w hl hp (by omega)
    rw [extract_eq s (pn + 1) s[pn].toNat (by omega)] at R
    exact R
  · rw [textS_few _ pn _ (by omega) hg (by omega)]
    exact rttext_few s pn w hl hp (by omega)
end Go.Proofs.Ytmapgfakfeddmaa

/-
  The contracts of quaysideref06's reader.
-/
namespace Go.Proofs.Ytmapgfakfeddmaa
open Go.RowKit
set_option linter.unusedVariables false

def rdA (b : ByteArray) (k : Nat) (e : Int) : Array Value := #[.string b, .int .i64 (k : Int), .int .i64 e]
/-- A reader in memory: its bytes, and what is left of them. -/
def RdAt (w : World) (g : Nat) (b : ByteArray) (s : St) : Prop :=
  ∃ k : Nat, RowAt w g 60 (rdA b k s.e) ∧ k ≤ b.size + 8 ∧ (s.e = 0 → k ≤ b.size ∧ b.data.toList.drop k = s.l)

theorem grown_refl (w : World) (o : Option Nat) : w.grownBy w o := ⟨rfl, rfl, rfl, Nat.le_refl _, fun _ _ _ => rfl⟩
theorem grown_drew {w x : World} {o : Option Nat} (h : w.grownBy x o) : w.grownBy x.drew o := ⟨h.os, h.tape, h.output, h.size, h.block⟩
theorem grown_set {w x : World} {g j : Nat} (v : Value) (h : w.grownBy x (some g)) : w.grownBy (x.setCell ⟨g, j, none⟩ v) (some g) := by
  have hb : Below 0 x (x.setCell ⟨g, j, none⟩ v) := (Below.refl 0 x).setCell (Nat.zero_le _) _
  refine ⟨hb.os.trans h.os, hb.tape.trans h.tape, hb.output.trans h.output, Nat.le_trans h.size hb.size, fun k hk hn => ?_⟩
  rw [heap_setCell_other x ⟨g, j, none⟩ k v (fun e => hn (by rw [e]))]
  exact h.block k hk hn
theorem grown_any {w x : World} {o : Option Nat} (h : w.grownBy x none) : w.grownBy x o := ⟨h.os, h.tape, h.output, h.size, fun k hk _ => h.block k hk (by simp)⟩
theorem rd_set {w : World} {g : Nat} {b : ByteArray} {k : Nat} {e : Int} (h : RowAt w g 60 (rdA b k e)) (k2 : Nat) (e2 : Int) : RowAt ((w.setCell ⟨g, 2, none⟩ (.int .i64 e2)).setCell ⟨g, 1, none⟩ (.int .i64 (k2 : Int))) g 60 (rdA b k2 e2) := (h.set 2 (.int .i64 e2)).set 1 (.int .i64 (k2 : Int))
theorem load_s {b j : Nat} (x : World) (s : ByteArray) (h : x.cell? ⟨b, j, none⟩ = some (.string s)) : (Instr.loadAt 9 (.pointer (some ⟨b, j, none⟩))).run Try.prog x = .ok (.string s) x := by go_simp

/-- What 'num' answers, by what 'Take' answers. -/
theorem num_take (b : ByteArray) (s : St) (k w : Nat) (hw : 1 ≤ w ∧ w ≤ 8) (he : s.e = 0) (hk : k ≤ b.size) (hl : b.data.toList.drop k = s.l) :
    (takeS b.data.toList (k : Int) (w : Int)).1 = ((pNum w s).1 : Int) ∧ (takeS b.data.toList (k : Int) (w : Int)).2 = (pNum w s).2.e ∧ ((pNum w s).2.e = 0 → k + w ≤ b.size ∧ b.data.toList.drop (k + w) = (pNum w s).2.l) := by
  have hz := data_length b
  have hll : s.l.length = b.size - k := by rw [← hl, List.length_drop, hz]
  unfold pNum
  rw [if_neg (by simpa using he)]
  by_cases h : w ≤ s.l.length
  · rw [if_pos h, takeS_ok _ _ _ (by omega) (by rw [hz]; omega)]
    refine ⟨?_, rfl, fun _ => ⟨by omega, ?_⟩⟩
    · show ((beAt b.data.toList (k : Int).toNat (w : Int).toNat : Nat) : Int) = ((be (s.l.take w) : Nat) : Int)
      rw [Int.toNat_natCast, Int.toNat_natCast, ← hl]
      rfl
    · show _ = s.l.drop w
      rw [← hl, List.drop_drop]
  · rw [if_neg h, takeS_short _ _ _ (by omega) (by rw [hz]; omega)]
    exact ⟨rfl, rfl, fun h => by cases h⟩

set_option maxRecDepth 4000 in
set_option maxHeartbeats 1600000 in
theorem rnum_any (g : Nat) (b : ByteArray) (s : St) (k : Nat) (w : World) (hk : 1 ≤ k ∧ k ≤ 8) (hb : b.size ≤ 140737488355328) (h : RdAt w g b s) :
    Calls Try.prog 30 #[.pointer (some ⟨g, 0, none⟩), .int .i64 (k : Int)] w fun e w' => e = .returned (.int .u64 ((pNum k s).1 : Int)) ∧ RdAt w' g b (pNum k s).2 ∧ w.grownBy w' (some g) := by
  obtain ⟨p, hr, hp, hs⟩ := h
  have c0 := hr.cell 0 (.string b) rfl
  have c1 := hr.cell 1 (.int .i64 (p : Int)) rfl
  have c2 := hr.cell 2 (.int .i64 s.e) rfl
  have HR := hide hr
  clear hr
  by_cases he : s.e = 0
  · obtain ⟨hp2, hl⟩ := hs he
    obtain ⟨t1, t2, t3⟩ := num_take b s p k hk he hp2 hl
    have HT := hide (fun w => rtake_any b (p : Int) (k : Int) w (by omega))
    rw [t1, t2] at HT
    have H3 := hide t3
    rw [he] at c2 HR
    have ew : IntKind.i64.wrap ((p : Int) + (k : Int)) = (p : Int) + (k : Int) := by rw [IntKind.wrap_i64]; omega
    clear t1 t2 t3 hs hl he
    generalize pNum k s = ns at *
    obtain ⟨n, s'⟩ := ns
    simp only at HT H3
    go_enter Try.func30, Try.ntmps30
    go_wp2_with fail
    refine wp_region_in (fun x => w.grownBy x none ∧ RowAt x g 60 (rdA b p 0)) (by kernel_rfl) (by kernel_rfl) ⟨grown_drew (grown_refl w none), HR.out⟩ ?_
    clear HR c0 c1 c2
    repeat (first
      | go_big_quiet_skip
      | (refine wpQuiet_load rfl 9 (.tmp 15) rfl _ (.string b) rfl (fun y hy => load_s y b (hy.2.cell 0 (.string b) rfl)) ?_; simp only [Act.put, Array.setIfInBounds, List.size_toArray, List.length_cons, List.length_nil, Nat.reduceAdd, Nat.reduceLT, ↓reduceDIte, List.set_toArray, List.set_cons_succ, List.set_cons_zero])
      | (refine wpQuiet_load rfl 3 (.tmp 19) rfl _ (.int .i64 (p : Int)) rfl (fun y hy => load_i64 y (p : Int) (hy.2.cell 1 (.int .i64 (p : Int)) rfl)) ?_; simp only [Act.put, Array.setIfInBounds, List.size_toArray, List.length_cons, List.length_nil, Nat.reduceAdd, Nat.reduceLT, ↓reduceDIte, List.set_toArray, List.set_cons_succ, List.set_cons_zero])
      | (refine wpQuiet_call rfl 49 #[.string b, .int .i64 (p : Int), .int .i64 (k : Int)] (.tuple #[.int .u64 (n : Int), .int .i64 s'.e]) ?_ (fun x hC => (HT.out x).mono fun e x' h => ⟨h.1, h.2 ▸ hC⟩) ?_; (intro x; go_simp); simp only [Act.put, Array.setIfInBounds, List.size_toArray, List.length_cons, List.length_nil, Nat.reduceAdd, Nat.reduceLT, ↓reduceDIte, List.set_toArray, List.set_cons_succ, List.set_cons_zero])
      | (refine wpQuiet_plain rfl (fun K hK => ?_); go_simp; refine hK _ ?_; clear hK K))
    refine wpQuiet_nil ?_
    intro x hx
    have q1 := hx.2.cell 1 (.int .i64 (p : Int)) rfl
    have q2 := hx.2.cell 2 (.int .i64 0) rfl
    have f1 := hx.2.free 1
    have f2 := hx.2.free 2
    have HX : Hid (RdAt ((x.setCell ⟨g, 2, none⟩ (.int .i64 s'.e)).setCell ⟨g, 1, none⟩ (.int .i64 ((p : Int) + (k : Int)))) g b s' ∧ w.grownBy ((x.setCell ⟨g, 2, none⟩ (.int .i64 s'.e)).setCell ⟨g, 1, none⟩ (.int .i64 ((p : Int) + (k : Int)))) (some g)) :=
      ⟨⟨p + k, by have h := rd_set hx.2 (p + k) s'.e; rw [show ((p + k : Nat) : Int) = (p : Int) + (k : Int) by omega] at h; unfold rdA at h ⊢; rw [show ((p + k : Nat) : Int) = (p : Int) + (k : Int) by omega]; exact h, by omega, H3.out⟩, grown_set _ (grown_set _ (grown_any hx.1))⟩
    clear hx HT H3
    generalize s'.e = es at *
    go_wp2
    go_ret
    exact ⟨rfl, HX.out.1, HX.out.2⟩
  · have e : pNum k s = (0, s) := by unfold pNum; rw [if_pos he]
    rw [e]
    have k0 : (s.e == 0) = false := by rw [beq_eq_false_iff_ne]; exact he
    have k1 : (s.e != 0) = true := by rw [bne, k0]; rfl
    have HP := hide (show RdAt w g b s from ⟨p, HR.out, hp, fun h => absurd h he⟩)
    clear HR he hs e
    generalize s.e = es at *
    go_enter Try.func30, Try.ntmps30
    go_wp2
    go_ret
    exact ⟨rfl, HP.out, grown_refl _ _⟩

/-- What 'text' answers, by what 'TakeText' answers. -/
theorem text_take (b : ByteArray) (s : St) (k : Nat) (he : s.e = 0) (hk : k ≤ b.size) (hl : b.data.toList.drop k = s.l) :
    ∃ k2 : Nat, (textS b.data.toList (k : Int)).2.1 = (k2 : Int) ∧ k2 ≤ b.size ∧ (⟨(textS b.data.toList (k : Int)).1.toArray⟩ : ByteArray) = (pText s).1 ∧ (textS b.data.toList (k : Int)).2.2 = (pText s).2.e ∧ ((pText s).2.e = 0 → b.data.toList.drop k2 = (pText s).2.l) := by
  have hz := data_length b
  unfold pText
  rw [if_neg (by simpa using he)]
  cases hs : s.l with
  | nil =>
    have hkk : b.size ≤ k := by
      have h := congrArg List.length hl
      rw [hs, List.length_drop, hz] at h
      simp only [List.length_nil] at h
      omega
    rw [textS_short _ _ (by omega) (by rw [hz]; omega)]
    exact ⟨0, rfl, by omega, rfl, rfl, fun h => by cases h⟩
  | cons x l =>
    have hlen : k < b.size := by
      have h := congrArg List.length hl
      rw [hs, List.length_drop, hz, List.length_cons] at h
      omega
    have hll : l.length = b.size - k - 1 := by
      have h := congrArg List.length hl
      rw [hs, List.length_drop, hz, List.length_cons] at h
      omega
    have hx : b.data.toList.getD k 0 = x := by
      have h : (b.data.toList.drop k)[0]? = some x := by rw [hl, hs]; rfl
      rw [List.getElem?_drop, Nat.add_zero] at h
      rw [List.getD, h]
      rfl
    have hd : b.data.toList.drop (k + 1) = l := by
      have h : (b.data.toList.drop k).drop 1 = l := by rw [hl, hs]; rfl
      rwa [List.drop_drop] at h
    simp only
    by_cases hb : x.toNat ≤ l.length
    · rw [if_pos hb, textS_ok _ k x.toNat (by rw [hz]; omega) (by rw [hx]) (by rw [hz]; omega)]
      refine ⟨k + 1 + x.toNat, by show (k : Int) + 1 + (x.toNat : Int) = _; omega, by omega, by rw [hd], rfl, fun _ => ?_⟩
      show _ = l.drop x.toNat
      rw [← hd, List.drop_drop]
    · rw [if_neg hb, textS_few _ k x.toNat (by rw [hz]; omega) (by rw [hx]) (by rw [hz]; omega)]
      exact ⟨0, rfl, by omega, rfl, rfl, fun h => by cases h⟩

set_option maxRecDepth 4000 in
set_option maxHeartbeats 1600000 in
theorem rtext_any (g : Nat) (b : ByteArray) (s : St) (w : World) (hb : b.size ≤ 140737488355328) (h : RdAt w g b s) :
    Calls Try.prog 31 #[.pointer (some ⟨g, 0, none⟩)] w fun e w' => e = .returned (.string (pText s).1) ∧ RdAt w' g b (pText s).2 ∧ w.grownBy w' (some g) := by
  obtain ⟨p, hr, hp, hs⟩ := h
  have c0 := hr.cell 0 (.string b) rfl
  have c1 := hr.cell 1 (.int .i64 (p : Int)) rfl
  have c2 := hr.cell 2 (.int .i64 s.e) rfl
  have HR := hide hr
  clear hr
  by_cases he : s.e = 0
  · obtain ⟨hp2, hl⟩ := hs he
    obtain ⟨k2, t0, tz, t1, t2, t3⟩ := text_take b s p he hp2 hl
    have HT := hide (fun w => rttext_any b (p : Int) w hb)
    rw [t0, t1, t2] at HT
    have H3 := hide (And.intro tz t3)
    rw [he] at c2 HR
    clear t0 tz t1 t2 t3 hs hl he
    generalize pText s = ns at *
    obtain ⟨n, s'⟩ := ns
    simp only at HT H3
    go_enter Try.func31, Try.ntmps31
    go_wp2_with fail
    refine wp_region_in (fun x => w.grownBy x none ∧ RowAt x g 60 (rdA b p 0)) (by kernel_rfl) (by kernel_rfl) ⟨grown_drew (grown_refl w none), HR.out⟩ ?_
    clear HR c0 c1 c2
    repeat (first
      | go_big_quiet_skip
      | (refine wpQuiet_load rfl 9 (.tmp 14) rfl _ (.string b) rfl (fun y hy => load_s y b (hy.2.cell 0 (.string b) rfl)) ?_; simp only [Act.put, Array.setIfInBounds, List.size_toArray, List.length_cons, List.length_nil, Nat.reduceAdd, Nat.reduceLT, ↓reduceDIte, List.set_toArray, List.set_cons_succ, List.set_cons_zero])
      | (refine wpQuiet_load rfl 3 (.tmp 18) rfl _ (.int .i64 (p : Int)) rfl (fun y hy => load_i64 y (p : Int) (hy.2.cell 1 (.int .i64 (p : Int)) rfl)) ?_; simp only [Act.put, Array.setIfInBounds, List.size_toArray, List.length_cons, List.length_nil, Nat.reduceAdd, Nat.reduceLT, ↓reduceDIte, List.set_toArray, List.set_cons_succ, List.set_cons_zero])
      | (refine wpQuiet_call rfl 50 #[.string b, .int .i64 (p : Int)] (.tuple #[.string n, .int .i64 (k2 : Int), .int .i64 s'.e]) ?_ (fun x hC => (HT.out x).mono fun e x' h => ⟨h.1, h.2 ▸ hC⟩) ?_; (intro x; go_simp); simp only [Act.put, Array.setIfInBounds, List.size_toArray, List.length_cons, List.length_nil, Nat.reduceAdd, Nat.reduceLT, ↓reduceDIte, List.set_toArray, List.set_cons_succ, List.set_cons_zero])
      | (refine wpQuiet_plain rfl (fun K hK => ?_); go_simp; refine hK _ ?_; clear hK K))
    refine wpQuiet_nil ?_
    intro x hx
    have q1 := hx.2.cell 1 (.int .i64 (p : Int)) rfl
    have q2 := hx.2.cell 2 (.int .i64 0) rfl
    have f1 := hx.2.free 1
    have f2 := hx.2.free 2
    have HX : Hid (RdAt ((x.setCell ⟨g, 2, none⟩ (.int .i64 s'.e)).setCell ⟨g, 1, none⟩ (.int .i64 (k2 : Int))) g b s' ∧ w.grownBy ((x.setCell ⟨g, 2, none⟩ (.int .i64 s'.e)).setCell ⟨g, 1, none⟩ (.int .i64 (k2 : Int))) (some g)) :=
      ⟨⟨k2, rd_set hx.2 k2 s'.e, by have := H3.out.1; omega, fun h => ⟨H3.out.1, H3.out.2 h⟩⟩, grown_set _ (grown_set _ (grown_any hx.1))⟩
    clear hx HT H3
    generalize s'.e = es at *
    go_wp2
    go_ret
    exact ⟨rfl, HX.out.1, HX.out.2⟩
  · have e : pText s = (⟨#[]⟩, s) := by unfold pText; rw [if_pos he]
    rw [e]
    have k0 : (s.e == 0) = false := by rw [beq_eq_false_iff_ne]; exact he
    have k1 : (s.e != 0) = true := by rw [bne, k0]; rfl
    have HP := hide (show RdAt w g b s from ⟨p, HR.out, hp, fun h => absurd h he⟩)
    clear HR he hs e
    generalize s.e = es at *
    go_enter Try.func31, Try.ntmps31
    go_wp2
    go_ret
    exact ⟨rfl, HP.out, grown_refl _ _⟩

theorem grown_trans {w x y : World} {o : Option Nat} (h : w.grownBy x o) (g : x.grownBy y o) : w.grownBy y o :=
  ⟨g.os.trans h.os, g.tape.trans h.tape, g.output.trans h.output, Nat.le_trans h.size g.size, fun k hk hn => (g.block k (Nat.lt_of_lt_of_le hk h.size) hn).trans (h.block k hk hn)⟩

set_option maxRecDepth 4000 in
set_option maxHeartbeats 1600000 in
theorem rmany_any (g : Nat) (b : ByteArray) (s : St) (m : Nat) (w : World) (hb : b.size ≤ 140737488355328) (h : RdAt w g b s) :
    Calls Try.prog 32 #[.pointer (some ⟨g, 0, none⟩), .int .u64 (m : Int)] w fun e w' => e = .returned (.int .u64 ((pIn 0 m s).1 : Int)) ∧ RdAt w' g b (pIn 0 m s).2 ∧ w.grownBy w' (some g) := by
  have HN := hide (rnum_any g b s 1 w (by omega) hb h)
  have ei : pIn 0 m s = if (pNum 1 s).2.e = 0 ∧ ((pNum 1 s).1 < 0 ∨ m < (pNum 1 s).1) then ((pNum 1 s).1, ⟨(pNum 1 s).2.l, 2⟩) else pNum 1 s := rfl
  have HE := hide ei
  clear h ei
  generalize pIn 0 m s = r at *
  generalize pNum 1 s = ns at *
  obtain ⟨n, s'⟩ := ns
  simp only at HN HE
  go_enter Try.func32, Try.ntmps32
  go_wp2_with fail
  refine HN.out.mono ?_
  rintro e w1 ⟨rfl, hr, hg⟩
  clear HN
  obtain ⟨p, hr1, hp, hs⟩ := hr
  have c2 := hr1.cell 2 (.int .i64 s'.e) rfl
  have f2 := hr1.free 2
  by_cases he : s'.e = 0
  · by_cases hm : m < n
    · have er : r = (n, ⟨s'.l, 2⟩) := by rw [HE.out, if_pos ⟨he, .inr hm⟩]
      subst er
      have i1 : (m : Int) < (n : Int) := by omega
      have HX : Hid (RdAt (w1.setCell ⟨g, 2, none⟩ (.int .i64 2)) g b ⟨s'.l, 2⟩ ∧ w.grownBy (w1.setCell ⟨g, 2, none⟩ (.int .i64 2)) (some g)) := ⟨⟨p, hr1.set 2 (.int .i64 2), hp, fun h => by cases h⟩, grown_set _ hg⟩
      rw [he] at c2
      clear HE hr1 hs hg hm
      go_wp2
      go_ret
      exact ⟨rfl, HX.out.1, HX.out.2⟩
    · have er : r = (n, s') := by rw [HE.out, if_neg (by omega)]
      subst er
      have i1 : ¬ (m : Int) < (n : Int) := by omega
      have HX : Hid (RdAt w1 g b s' ∧ w.grownBy w1 (some g)) := ⟨⟨p, hr1, hp, hs⟩, hg⟩
      rw [he] at c2
      clear HE hr1 hs hg hm
      go_wp2
      go_ret
      exact ⟨rfl, HX.out.1, HX.out.2⟩
  · have er : r = (n, s') := by rw [HE.out, if_neg (fun h => he h.1)]
    subst er
    have k0 : (s'.e == 0) = false := by rw [beq_eq_false_iff_ne]; exact he
    have HX : Hid (RdAt w1 g b s' ∧ w.grownBy w1 (some g)) := ⟨⟨p, hr1, hp, hs⟩, hg⟩
    clear HE hr1 hs hg he
    generalize s'.e = es at *
    go_wp2
    go_ret
    exact ⟨rfl, HX.out.1, HX.out.2⟩
end Go.Proofs.Ytmapgfakfeddmaa
