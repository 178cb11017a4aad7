/-
  Texts that lean on one another, one behind the other: each opens with its own remark.
-/
import Derived.Lib.ConvBytes
import Derived.Lib.AppendStr
import Derived.ArgAppend
import Derived.Test.YtgobegpmojkhaabK05
import Derived.Test.YtgobegpmojkhaabK00
import Derived.Test.YtgobegpmojkhaabK03
import Derived.Test.YtgobegpmojkhaabK04

/-
  The contract of quaysideref06.Same: the lists.
-/
namespace Go.Proofs.Ytgobegpmojkhaab
open Go.RowKit
set_option linter.unusedVariables false

set_option maxRecDepth 4000 in
set_option maxHeartbeats 6400000 in
theorem rsame_yes (a b : Rec) (va vb ua ub : Value) (w : World) (q : Bool) (Hq : Hid (q = true ↔ a = b)) (hn : Rec.flat a b) (fa : a.fits) (fb : b.fits) (ha : RcIn w a va vb) (hb : RcIn w b ua ub) :
    Calls Try.prog 10 #[.agg (rcA a va vb), .agg (rcA b ua ub)] w fun e w' => e = .returned (.bool q) ∧ Below w.heap.size w w' := by
  have HFA := hide fa
  have HFB := hide fb
  have hml : maxLen = 9223372036854775807 := rfl
  have ltx := fa.tl
  have ldx := fa.dl
  have HF : Hid (¬ a = b → q = false) := fun h => by
    cases q
    · rfl
    · exact absurd (Hq.out.1 rfl) h
  have HT : Hid (a.ts = b.ts → a.ds = b.ds → q = true) := fun h1 h2 => Hq.out.2 (rec_ext hn.1 hn.2.1 hn.2.2.1 hn.2.2.2.1 hn.2.2.2.2.1 hn.2.2.2.2.2.1 hn.2.2.2.2.2.2.1 hn.2.2.2.2.2.2.2 h1 h2)
  clear Hq fa fb
  obtain ⟨hk, hl, ht, hp, hc, hnn, hs, hbb⟩ := hn
  have HA := hide ha
  have HB := hide hb
  obtain ⟨⟨a1, cap1, rfl, -⟩, ⟨a2, cap2, rfl, -⟩⟩ := ha
  obtain ⟨⟨b1, dap1, rfl, -⟩, ⟨b2, dap2, rfl, -⟩⟩ := hb
  have K0 := Keeps.two w 28 28 (rcA a (.slice a1 a.ts.length cap1) (.slice a2 a.ds.length cap2)) (rcA b (.slice b1 b.ts.length dap1) (.slice b2 b.ds.length dap2))
  have HK := hide K0
  obtain ⟨c0, c1, c2, c3, c9, c10, c11, c12, c13⟩ := rc_cells K0.1.2.1
  obtain ⟨d0, d1, d2, d3, d9, d10, d11, d12, d13⟩ := rc_cells K0.1.1
  obtain ⟨c4, c5, c6, c7, c8⟩ := rc_chg K0.1.2.1
  obtain ⟨d4, d5, d6, d7, d8⟩ := rc_chg K0.1.1
  have hb0 := K0.2
  clear K0
  have gk : (a.k == b.k) = true := beq_yes (hk)
  have kk : (a.k != b.k) = false := bne_no (hk)
  have gl : ((a.l : Int) == (b.l : Int)) = true := beq_yes (congrArg Int.ofNat hl)
  have kl : ((a.l : Int) != (b.l : Int)) = false := bne_no (congrArg Int.ofNat hl)
  have gt : (a.t == b.t) = true := beq_yes (ht)
  have kt : (a.t != b.t) = false := bne_no (ht)
  have gp : ((a.p : Int) == (b.p : Int)) = true := beq_yes (congrArg Int.ofNat hp)
  have kp : ((a.p : Int) != (b.p : Int)) = false := bne_no (congrArg Int.ofNat hp)
  have gck : (a.c.k == b.c.k) = true := beq_yes (congrArg Ch.k hc)
  have kck : (a.c.k != b.c.k) = false := bne_no (congrArg Ch.k hc)
  have gcp : (a.c.pg == b.c.pg) = true := beq_yes (congrArg Ch.pg hc)
  have kcp : (a.c.pg != b.c.pg) = false := bne_no (congrArg Ch.pg hc)
  have gcs : (a.c.sl == b.c.sl) = true := beq_yes (congrArg Ch.sl hc)
  have kcs : (a.c.sl != b.c.sl) = false := bne_no (congrArg Ch.sl hc)
  have gn : ((a.n : Int) == (b.n : Int)) = true := beq_yes (congrArg Int.ofNat hnn)
  have kn : ((a.n : Int) != (b.n : Int)) = false := bne_no (congrArg Int.ofNat hnn)
  have gs : (a.s == b.s) = true := beq_yes (hs)
  have ks : (a.s != b.s) = false := bne_no (hs)
  have gb : ((a.b : Int) == (b.b : Int)) = true := beq_yes (congrArg Int.ofNat hbb)
  have kb : ((a.b : Int) != (b.b : Int)) = false := bne_no (congrArg Int.ofNat hbb)
  have hco : a.c.o.toList = b.c.o.toList := by rw [hc]
  have hcn : a.c.n.toList = b.c.n.toList := by rw [hc]
  clear hk hl ht hp hc hnn hs hbb
  by_cases lt : a.ts.length = b.ts.length
  case neg =>
    obtain rfl := HF.out (fun h => lt (by rw [h]))
    have i1 : ((a.ts.length : Int) == (b.ts.length : Int)) = false := beq_no (by omega)
    have i2 : ((a.ts.length : Int) != (b.ts.length : Int)) = true := bne_yes (by omega)
    clear HF HT HFA HFB HA HB HK lt ltx ldx hml
    go_enter Try.func10, Try.ntmps10
    go_wp2
    go_ret
    exact ⟨rfl, hb0⟩
  have i1 : ((a.ts.length : Int) == (b.ts.length : Int)) = true := beq_yes (by omega)
  have i2 : ((a.ts.length : Int) != (b.ts.length : Int)) = false := bne_no (by omega)
  by_cases ld : a.ds.length = b.ds.length
  case neg =>
    obtain rfl := HF.out (fun h => ld (by rw [h]))
    have j1 : ((a.ds.length : Int) == (b.ds.length : Int)) = false := beq_no (by omega)
    have j2 : ((a.ds.length : Int) != (b.ds.length : Int)) = true := bne_yes (by omega)
    clear HF HT HFA HFB HA HB HK lt ld ltx ldx hml
    go_enter Try.func10, Try.ntmps10
    go_wp2
    go_ret
    exact ⟨rfl, hb0⟩
  have j1 : ((a.ds.length : Int) == (b.ds.length : Int)) = true := beq_yes (by omega)
  have j2 : ((a.ds.length : Int) != (b.ds.length : Int)) = false := bne_no (by omega)
  have HLT := hide lt
  have HLD := hide ld
  clear lt ld
  go_enter Try.func10, Try.ntmps10
  go_wp2
  obtain ⟨A, hA⟩ : ∃ A, A = rcA a (.slice a1 a.ts.length cap1) (.slice a2 a.ds.length cap2) := ⟨_, rfl⟩
  obtain ⟨B, hB⟩ : ∃ B, B = rcA b (.slice b1 b.ts.length dap1) (.slice b2 b.ds.length dap2) := ⟨_, rfl⟩
  obtain ⟨g1, hg1⟩ : ∃ g1, g1 = w.heap.size + 1 := ⟨_, rfl⟩
  rw [← hA, ← hB, ← hg1] at HK
  rw [← hA, ← hB, ← hg1]
  have HEA := hide hA
  have HEB := hide hB
  clear hA hB hg1 c0 c1 c2 c3 c4 c5 c6 c7 c8 c9 c10 c11 c12 c13 d0 d1 d2 d3 d4 d5 d6 d7 d8 d9 d10 d11 d12 d13 hb0 gk gl gt gp gck gcp gcs gn gs gb kk kl kt kp kck kcp kcs kn ks kb hco hcn i1 i2 j1 j2
  go_loopw [80, 5] (fun v _ wr => ∃ j : Nat, j ≤ a.ts.length ∧ v = .int .i64 j ∧ Keeps w wr [(g1, 28, B), (w.heap.size, 28, A)] ∧ ∀ i, i < j → a.ts.getD i Tx.zero = b.ts.getD i Tx.zero) (fun v _ _ => a.ts.length - (intOf v).toNat)
  case atStart => exact ⟨0, Nat.zero_le _, rfl, HK.out, fun i hi => absurd hi (by omega)⟩
  case round =>
    obtain ⟨j, hj, rfl, hk, hat⟩ := hrel
    have HAT := hide hat
    clear HK
    have HK := hide hk
    clear hat hk
    by_cases hlt : j < a.ts.length
    case neg =>
      obtain rfl : j = a.ts.length := by omega
      have HE := hide (list_same (z := Tx.zero) HLT.out HAT.out)
      clear HAT
      have HETS := HE
      clear HE
      have c13 : wr.cell? ⟨w.heap.size, 13, none⟩ = some (.slice a2 a.ds.length cap2) := by have h := HK.out.1.2.1; rw [HEA.out] at h; exact h.cell 13 _ rfl
      go_wp2
      clear c13
      go_loopw [98, 6] (fun v _ wr => ∃ j : Nat, j ≤ a.ds.length ∧ v = .int .i64 j ∧ Keeps w wr [(g1, 28, B), (w.heap.size, 28, A)] ∧ ∀ i, i < j → a.ds.getD i Di.zero = b.ds.getD i Di.zero) (fun v _ _ => a.ds.length - (intOf v).toNat)
      case atStart => exact ⟨0, Nat.zero_le _, rfl, HK.out, fun i hi => absurd hi (by omega)⟩
      case round =>
        obtain ⟨j, hj, rfl, hk, hat⟩ := hrel
        have HAT := hide hat
        clear HK
        have HK := hide hk
        clear hat hk
        by_cases hlt : j < a.ds.length
        case neg =>
          obtain rfl : j = a.ds.length := by omega
          have HE := hide (list_same (z := Di.zero) HLD.out HAT.out)
          clear HAT
          obtain rfl := HT.out HETS.out HE.out
          have d3 := HK.out.2
          clear HF HT HFA HFB HA HB HK HE HETS HEA HEB
          go_wp2
          go_ret
          exact ⟨rfl, d3⟩
        have jlt : (j : Int) < (a.ds.length : Int) := by omega
        obtain ⟨u1, k1, e1, hrow1⟩ := (HA.out.below HK.out.2).2
        obtain ⟨u2, k2, e2, hrow2⟩ := (HB.out.below HK.out.2).2
        rw [← HLD.out] at e2
        cases e1
        cases e2
        obtain ⟨p1, off1, hp1, -, hc1⟩ := hrow1 (by omega)
        obtain ⟨p2, off2, hp2, -, hc2⟩ := hrow2 (by rw [← HLD.out]; omega)
        have HR1 := hide (hc1 j hlt)
        have HR2 := hide (hc2 j (by rw [← HLD.out]; exact hlt))
        have HPP : Hid (a2 = some ⟨p1, off1, none⟩ ∧ b2 = some ⟨p2, off2, none⟩) := ⟨hp1, hp2⟩
        clear hrow1 hrow2 hc1 hc2 hp1 hp2
        have HF1 := hide (HFA.out.ds _ (getD_mem a.ds j Di.zero hlt))
        have HF2 := hide (HFB.out.ds _ (getD_mem b.ds j Di.zero (by rw [← HLD.out]; exact hlt)))
        obtain ⟨x, hx⟩ : ∃ x, x = a.ds.getD j Di.zero := ⟨_, rfl⟩
        obtain ⟨y, hy⟩ : ∃ y, y = b.ds.getD j Di.zero := ⟨_, rfl⟩
        have HXY : Hid (x = a.ds.getD j Di.zero ∧ y = b.ds.getD j Di.zero) := ⟨hx, hy⟩
        rw [← hx] at HR1 HF1
        rw [← hy] at HR2 HF2
        clear hx hy
        obtain ⟨p, hp⟩ : ∃ p : Bool, p = false ↔ x = y := ⟨!(@decide (x = y) (Classical.propDecidable _)), by simp⟩
        have HP := hide hp
        clear hp
        go_wp2_with fail
        refine wp_region_in (fun z => Keeps w z [(g1, 28, B), (w.heap.size, 28, A)] ∧ z.rangeAt p1 (off1 + j * 2) (diA x).toList ∧ z.rangeAt p2 (off2 + j * 2) (diA y).toList) (by kernel_rfl) (by kernel_rfl) ⟨HK.out.drew, HR1.out, HR2.out⟩ ?_
        clear HK HR1 HR2
        repeat (first
          | go_big_quiet_skip
          | (refine wpQuiet_load rfl 26 (.tmp 101) rfl _ (.slice (some ⟨p1, off1, none⟩) a.ds.length cap2) rfl (fun z hz => load_dis z _ _ _ (show z.cell? ⟨w.heap.size, 13, none⟩ = _ from by have h := hz.1.1.2.1; rw [HEA.out, HPP.out.1] at h; exact h.cell 13 _ rfl)) ?_; simp only [Act.put, Array.setIfInBounds, List.size_toArray, List.length_cons, List.length_nil, Nat.reduceAdd, Nat.reduceLT, ↓reduceDIte, List.set_toArray, List.set_cons_succ, List.set_cons_zero])
          | (refine wpQuiet_load rfl 26 (.tmp 106) rfl _ (.slice (some ⟨p2, off2, none⟩) a.ds.length dap2) rfl (fun z hz => load_dis z _ _ _ (show z.cell? ⟨g1, 13, none⟩ = _ from by have h := hz.1.1.1; rw [HEB.out, HPP.out.2, ← HLD.out] at h; exact h.cell 13 _ rfl)) ?_; simp only [Act.put, Array.setIfInBounds, List.size_toArray, List.length_cons, List.length_nil, Nat.reduceAdd, Nat.reduceLT, ↓reduceDIte, List.set_toArray, List.set_cons_succ, List.set_cons_zero])
          | (refine wpQuiet_load rfl 57 (.tmp 104) rfl _ (.agg (diA x)) rfl (fun z hz => load_di z p1 _ x hz.2.1) ?_; simp only [Act.put, Array.setIfInBounds, List.size_toArray, List.length_cons, List.length_nil, Nat.reduceAdd, Nat.reduceLT, ↓reduceDIte, List.set_toArray, List.set_cons_succ, List.set_cons_zero])
          | (refine wpQuiet_load rfl 57 (.tmp 109) rfl _ (.agg (diA y)) rfl (fun z hz => load_di z p2 _ y hz.2.2) ?_; simp only [Act.put, Array.setIfInBounds, List.size_toArray, List.length_cons, List.length_nil, Nat.reduceAdd, Nat.reduceLT, ↓reduceDIte, List.set_toArray, List.set_cons_succ, List.set_cons_zero])
          | (refine wpQuiet_binop rfl .neq 57 _ (.tmp 105) (.tmp 110) rfl (.agg (diA x)) (.agg (diA y)) (.bool p) rfl rfl (fun z => di_guard .neq _ _ x y z) (fun z => run_di_neq x y HF1.out HF2.out p HP.out z) ?_; simp only [Act.put, Array.setIfInBounds, List.size_toArray, List.length_cons, List.length_nil, Nat.reduceAdd, Nat.reduceLT, ↓reduceDIte, List.set_toArray, List.set_cons_succ, List.set_cons_zero])
          | (refine wpQuiet_plain rfl (fun K hK => ?_); go_simp; refine hK _ ?_; clear hK K))
        refine wpQuiet_nil ?_
        intro w3 h3
        have H3 := hide h3.1
        clear h3
        cases p
        · have HE := hide (HP.out.1 rfl)
          clear HP
          go_wp2
          go_roundw
          case rel => exact ⟨j + 1, by omega, by go_num, H3.out, at_more HAT.out (by rw [← HXY.out.1, ← HXY.out.2]; exact HE.out)⟩
          case measure => simp [intOf]; omega
        · obtain rfl := HF.out (fun h => absurd (HP.out.2 (by rw [HXY.out.1, HXY.out.2, h])) (by simp))
          have d3 := H3.out.2
          clear HP HXY HAT HF1 HF2 H3
          go_wp2
          go_ret
          exact ⟨rfl, d3⟩
    have jlt : (j : Int) < (a.ts.length : Int) := by omega
    obtain ⟨u1, k1, e1, hrow1⟩ := (HA.out.below HK.out.2).1
    obtain ⟨u2, k2, e2, hrow2⟩ := (HB.out.below HK.out.2).1
    rw [← HLT.out] at e2
    cases e1
    cases e2
    obtain ⟨p1, off1, hp1, -, hc1⟩ := hrow1 (by omega)
    obtain ⟨p2, off2, hp2, -, hc2⟩ := hrow2 (by rw [← HLT.out]; omega)
    have HR1 := hide (hc1 j hlt)
    have HR2 := hide (hc2 j (by rw [← HLT.out]; exact hlt))
    have HPP : Hid (a1 = some ⟨p1, off1, none⟩ ∧ b1 = some ⟨p2, off2, none⟩) := ⟨hp1, hp2⟩
    clear hrow1 hrow2 hc1 hc2 hp1 hp2
    have HF1 := hide (HFA.out.ts _ (getD_mem a.ts j Tx.zero hlt))
    have HF2 := hide (HFB.out.ts _ (getD_mem b.ts j Tx.zero (by rw [← HLT.out]; exact hlt)))
    obtain ⟨x, hx⟩ : ∃ x, x = a.ts.getD j Tx.zero := ⟨_, rfl⟩
    obtain ⟨y, hy⟩ : ∃ y, y = b.ts.getD j Tx.zero := ⟨_, rfl⟩
    have HXY : Hid (x = a.ts.getD j Tx.zero ∧ y = b.ts.getD j Tx.zero) := ⟨hx, hy⟩
    rw [← hx] at HR1 HF1
    rw [← hy] at HR2 HF2
    clear hx hy
    obtain ⟨p, hp⟩ : ∃ p : Bool, p = false ↔ x = y := ⟨!(@decide (x = y) (Classical.propDecidable _)), by simp⟩
    have HP := hide hp
    clear hp
    go_wp2_with fail
    refine wp_region_in (fun z => Keeps w z [(g1, 28, B), (w.heap.size, 28, A)] ∧ z.rangeAt p1 (off1 + j * 5) (txA x).toList ∧ z.rangeAt p2 (off2 + j * 5) (txA y).toList) (by kernel_rfl) (by kernel_rfl) ⟨HK.out.drew, HR1.out, HR2.out⟩ ?_
    clear HK HR1 HR2
    repeat (first
      | go_big_quiet_skip
      | (refine wpQuiet_load rfl 25 (.tmp 83) rfl _ (.slice (some ⟨p1, off1, none⟩) a.ts.length cap1) rfl (fun z hz => load_txs z _ _ _ (show z.cell? ⟨w.heap.size, 12, none⟩ = _ from by have h := hz.1.1.2.1; rw [HEA.out, HPP.out.1] at h; exact h.cell 12 _ rfl)) ?_; simp only [Act.put, Array.setIfInBounds, List.size_toArray, List.length_cons, List.length_nil, Nat.reduceAdd, Nat.reduceLT, ↓reduceDIte, List.set_toArray, List.set_cons_succ, List.set_cons_zero])
      | (refine wpQuiet_load rfl 25 (.tmp 88) rfl _ (.slice (some ⟨p2, off2, none⟩) a.ts.length dap1) rfl (fun z hz => load_txs z _ _ _ (show z.cell? ⟨g1, 12, none⟩ = _ from by have h := hz.1.1.1; rw [HEB.out, HPP.out.2, ← HLT.out] at h; exact h.cell 12 _ rfl)) ?_; simp only [Act.put, Array.setIfInBounds, List.size_toArray, List.length_cons, List.length_nil, Nat.reduceAdd, Nat.reduceLT, ↓reduceDIte, List.set_toArray, List.set_cons_succ, List.set_cons_zero])
      | (refine wpQuiet_load rfl 55 (.tmp 86) rfl _ (.agg (txA x)) rfl (fun z hz => load_tx z p1 _ x hz.2.1) ?_; simp only [Act.put, Array.setIfInBounds, List.size_toArray, List.length_cons, List.length_nil, Nat.reduceAdd, Nat.reduceLT, ↓reduceDIte, List.set_toArray, List.set_cons_succ, List.set_cons_zero])
      | (refine wpQuiet_load rfl 55 (.tmp 91) rfl _ (.agg (txA y)) rfl (fun z hz => load_tx z p2 _ y hz.2.2) ?_; simp only [Act.put, Array.setIfInBounds, List.size_toArray, List.length_cons, List.length_nil, Nat.reduceAdd, Nat.reduceLT, ↓reduceDIte, List.set_toArray, List.set_cons_succ, List.set_cons_zero])
      | (refine wpQuiet_binop rfl .neq 55 _ (.tmp 87) (.tmp 92) rfl (.agg (txA x)) (.agg (txA y)) (.bool p) rfl rfl (fun z => tx_guard .neq _ _ x y z) (fun z => run_tx_neq x y HF1.out HF2.out p HP.out z) ?_; simp only [Act.put, Array.setIfInBounds, List.size_toArray, List.length_cons, List.length_nil, Nat.reduceAdd, Nat.reduceLT, ↓reduceDIte, List.set_toArray, List.set_cons_succ, List.set_cons_zero])
      | (refine wpQuiet_plain rfl (fun K hK => ?_); go_simp; refine hK _ ?_; clear hK K))
    refine wpQuiet_nil ?_
    intro w3 h3
    have H3 := hide h3.1
    clear h3
    cases p
    · have HE := hide (HP.out.1 rfl)
      clear HP
      go_wp2
      go_roundw
      case rel => exact ⟨j + 1, by omega, by go_num, H3.out, at_more HAT.out (by rw [← HXY.out.1, ← HXY.out.2]; exact HE.out)⟩
      case measure => simp [intOf]; omega
    · obtain rfl := HF.out (fun h => absurd (HP.out.2 (by rw [HXY.out.1, HXY.out.2, h])) (by simp))
      have d3 := H3.out.2
      clear HP HXY HAT HF1 HF2 H3
      go_wp2
      go_ret
      exact ⟨rfl, d3⟩

/-- THE CONTRACT. -/
theorem rsame_at (a b : Rec) (va vb ua ub : Value) (w : World) (q : Bool) (Hq : Hid (q = true ↔ a = b)) (fa : a.fits) (fb : b.fits) (ha : RcIn w a va vb) (hb : RcIn w b ua ub) :
    Calls Try.prog 10 #[.agg (rcA a va vb), .agg (rcA b ua ub)] w fun e w' => e = .returned (.bool q) ∧ Below w.heap.size w w' := by
  by_cases hn : Rec.flat a b
  · exact rsame_yes a b va vb ua ub w q Hq hn fa fb ha hb
  · obtain rfl : q = false := by
      cases q
      · rfl
      · have h := Hq.out.1 rfl
        subst h
        exact absurd ⟨rfl, rfl, rfl, rfl, rfl, rfl, rfl, rfl⟩ hn
    exact rsame_no a b va vb ua ub w hn ha hb
end Go.Proofs.Ytgobegpmojkhaab

/-
  Bytes and texts put behind the bytes of a conversion, or of a row of the call's own: by cells. Of no program.
-/
namespace Go.Proofs.Ytgobegpmojkhaab
open Go.RowKit
set_option linter.unusedVariables false

theorem wpList_append_run {P : Program} {ops : Array Oper} {rest : List Oper} {o : Oper} {a : Act} {w w' : World} {Q : Exit → Act → World → Prop} (hgd : o.guard = none) (s x : Operand) (t u : TypeId) (hop : o.op = Op.call { callee := Callee.builtin Builtin.append, args := #[s, x], argTypes := #[t, u] })
    (vs vx v' : Value) (hs : a.eval s = vs) (hx : a.eval x = vx) (hrun : (Builtin.append_ #[t, u] o.type #[vs, vx]).run P w = .ok v' w') (h : wpList P ops Q rest (a.put o.dst v') w') : wpList P ops Q (o :: rest) a w := by
  refine wpList_plain hgd fun K hK => ?_
  unfold Oper.wp
  simp [execOp, hop, resolve, invoke, builtin, hs, hx, hrun, Result.andThen]
  exact hK _ _ h

/-- Bytes in a block, with room behind them that may be written. -/
structure BufC (w : World) (base g n cap : Nat) (bs : List UInt8) : Prop where
  low : base ≤ g
  lt : g < w.heap.size
  room : n ≤ cap
  len : bs.length = n
  cell : ∀ j, j < n → w.cell? ⟨g, j, none⟩ = some (.int .u8 ((bs.getD j 0).toNat : Int))
  free : ∀ j, j < cap → (w.cell? ⟨g, j, none⟩).isSome = true ∧ w.frozen? ⟨g, j, none⟩ = false
theorem BufC.isB {w : World} {base g n cap : Nat} {bs : List UInt8} (h : BufC w base g n cap bs) : IsB w (some ⟨g, 0, none⟩) n bs :=
  ⟨h.len, fun _ => ⟨g, 0, rfl, h.lt, fun j hj => by rw [Nat.zero_add]; exact h.cell j hj⟩⟩
theorem BufC.below {w x : World} {base g n cap : Nat} {bs : List UInt8} (h : BufC w base g n cap bs) (hb : Below w.heap.size w x) : BufC x base g n cap bs := by
  have hc : ∀ j, x.cell? ⟨g, j, none⟩ = w.cell? ⟨g, j, none⟩ := fun j => hb.cell (p := ⟨g, j, none⟩) h.lt
  have hf : ∀ j, x.frozen? ⟨g, j, none⟩ = w.frozen? ⟨g, j, none⟩ := fun j => World.frozen?_of_block (a := ⟨g, j, none⟩) (hb.block g h.lt)
  exact ⟨h.low, Nat.lt_of_lt_of_le h.lt hb.size, h.room, h.len, fun j hj => (hc j).trans (h.cell j hj), fun j hj => by rw [hc, hf]; exact h.free j hj⟩
theorem bufC_conv (w : World) (e : TypeId) (s : ByteArray) : BufC (Lib.bytesWorld w e s) w.heap.size w.heap.size s.size (grownCap w s.size 0 e) s.data.toList := by
  have hge := grownCap_ge w s.size 0 e
  have hsz : (Lib.bytesCells w e s).size = grownCap w s.size 0 e := by
    have h1 : s.data.size = s.size := rfl
    simp only [Lib.bytesCells, Array.size_append, Array.size_map, Array.size_replicate, h1]
    omega
  have hat := Lib.bytesWorld_at_new w e s
  rw [hsz] at hat
  refine ⟨Nat.le_refl _, by rw [Lib.bytesWorld_size]; omega, hge, data_length s, fun j hj => Lib.bytesWorld_cell w e s j hj, fun j hj => ⟨?_, ?_⟩⟩
  · rw [cell_of_row _ _ _ _ _ _ hat, Array.getElem?_eq_getElem (by rw [hsz]; exact hj)]
    rfl
  · simp only [World.frozen?, hat, Bool.and_eq_false_iff, decide_eq_false_iff_not]
    left
    omega
theorem bufC_own {w : World} {base n : Nat} {e : TypeId} {v : Value} {bs : List UInt8} (h : w.ownsRow base e 1 v n (toV bs)) (hn : 0 < n) : ∃ g cap, v = .slice (some ⟨g, 0, none⟩) n cap ∧ BufC w base g n cap bs := by
  have hl : bs.length = n := by
    have := h.1
    rw [toV_length] at this
    omega
  rcases h.2 with ⟨_, h0⟩ | ⟨g, cap, cur, rfl, hb, hg, hnc, _, hcs, _⟩
  · omega
  · refine ⟨g, cap, rfl, hb, (h.lt g rfl).2, hnc, hl, fun j hj => (h.cellAt j (by omega)).trans (toV_get bs j (by omega)), fun j hj => ⟨?_, h.frozenAt j⟩⟩
    rw [cell_of_row _ _ _ _ _ _ hg, Array.getElem?_eq_getElem (by omega)]
    rfl
theorem below_setCells {B b : Nat} : ∀ (vs : List Value) (o : Nat) (w : World), B ≤ b → Below B w (w.setCells b o vs)
  | [], _, w, _ => Below.refl _ _
  | v :: vs, o, w, h => ((Below.refl B w).setCell (p := ⟨b, o, none⟩) h v).trans (below_setCells vs (o + 1) _ h)
theorem BufC.put {w : World} {base g n cap : Nat} {bs ys : List UInt8} (h : BufC w base g n cap bs) (hr : n + ys.length ≤ cap) : BufC (w.setCells g n (toV ys)) base g (n + ys.length) cap (bs ++ ys) := by
  have hb := below_setCells (B := 0) (b := g) (toV ys) n w (Nat.zero_le _)
  have hin := World.cell?_setCells_in g (toV ys) n w (fun j hj => (h.free (n + j) (by rw [toV_length] at hj; omega)).1)
  refine ⟨h.low, Nat.lt_of_lt_of_le h.lt hb.size, hr, by rw [List.length_append, h.len], fun j hj => ?_, fun j hj => ⟨?_, by rw [World.frozen?_setCells]; exact (h.free j hj).2⟩⟩
  · by_cases hjn : j < n
    · rw [World.cell?_setCells_out g (toV ys) n w _ (fun _ _ => .inl hjn), h.cell j hjn]
      rw [List.getD_eq_getElem?_getD, List.getD_eq_getElem?_getD, List.getElem?_append_left (by rw [h.len]; exact hjn)]
    · obtain ⟨k, rfl⟩ : ∃ k, j = n + k := ⟨j - n, by omega⟩
      have hk : k < ys.length := by omega
      rw [hin k (by rw [toV_length]; exact hk)]
      have e : (bs ++ ys).getD (n + k) 0 = ys.getD k 0 := by
        rw [List.getD_eq_getElem?_getD, List.getD_eq_getElem?_getD, List.getElem?_append_right (by rw [h.len]; omega), h.len]
        congr 2
        omega
      rw [e]
      have h2 := toV_get ys k hk
      rw [List.getElem?_eq_getElem (by rw [toV_length]; exact hk)] at h2
      exact h2
  · by_cases hjn : n ≤ j ∧ j < n + ys.length
    · obtain ⟨k, rfl⟩ : ∃ k, j = n + k := ⟨j - n, by omega⟩
      rw [hin k (by rw [toV_length]; omega)]
      rfl
    · rw [World.cell?_setCells_out g (toV ys) n w _ (fun _ _ => by rw [toV_length]; show j < n ∨ n + ys.length ≤ j; omega)]
      exact (h.free j hj).1

section
variable {P : Program} (w : World) (t e : TypeId) (ht : P.underlying t = some (.slice e)) (hi : (P.info? e).map (fun i => (i.zero, i.size, i.bytes)) = some (some (.int .u8 0), 1, 1))
include ht hi
theorem run_append_c (ty : TypeId) {base g n cap : Nat} {bs : List UInt8} (h : BufC w base g n cap bs) (b2 off2 m c : Nat) (ys : List UInt8) (hY : IsB w (some ⟨b2, off2, none⟩) m ys) (hm : 0 < n + m) (hz : n + m ≤ 140737488355328) (hb : base ≤ w.heap.size) :
    ∃ g' cap' w', (Builtin.append_ #[t, t] ty #[.slice (some ⟨g, 0, none⟩) n cap, .slice (some ⟨b2, off2, none⟩) m c]).run P w = .ok (.slice (some ⟨g', 0, none⟩) (n + m) cap') w' ∧ BufC w' base g' (n + m) cap' (bs ++ ys) ∧ Below base w w' := by
  obtain ⟨i, hi0, hi1⟩ := Option.map_eq_some_iff.1 hi
  simp only [Prod.mk.injEq] at hi1
  have hyl := hY.1
  by_cases hr : n + m ≤ cap
  · have hrun := run_append_room_cells (P := P) w t ty e i ht hi0 g 0 n cap ⟨b2, off2, none⟩ m c (toV ys) (by rw [toV_length, hyl, hi1.2.1, Nat.mul_one]) (isB_cells hY) (toV_one ys) hr
      (fun j hj => by rw [toV_length] at hj; rw [hi1.2.1, Nat.mul_one, Nat.zero_add]; exact (h.free (n + j) (by omega)).1) (fun j hj => by rw [toV_length] at hj; rw [hi1.2.1, Nat.mul_one, Nat.zero_add]; exact (h.free (n + j) (by omega)).2)
    rw [hi1.2.1, Nat.mul_one, Nat.zero_add] at hrun
    have hp := h.put (ys := ys) (by omega)
    rw [hyl] at hp
    exact ⟨g, cap, _, hrun, hp, below_setCells _ _ _ h.low⟩
  · obtain ⟨v', w', hrun, r1, r2⟩ := run_append_arg_grows (P := P) w t ty e i (.int .u8 0) 1 1 ht hi0 hi1.1 hi1.2.1 hi1.2.2 rfl (by omega) ⟨g, 0, none⟩ n cap (toV bs) (by rw [toV_length, h.len, Nat.mul_one]) (isB_cells h.isB) ⟨b2, off2, none⟩ m c (toV ys) (by rw [toV_length, hyl, Nat.mul_one]) (isB_cells hY) (by omega) (by unfold maxLen; omega) (by omega)
    rw [← toV_append] at r1
    obtain ⟨g', cap', rfl, hB⟩ := bufC_own r1 hm
    exact ⟨g', cap', w', hrun, ⟨Nat.le_trans hb hB.low, hB.lt, hB.room, hB.len, hB.cell, hB.free⟩, ⟨r2.os, r2.tape, r2.output, r2.size, fun k hk => r2.block k (Nat.lt_of_lt_of_le hk hb) (by simp)⟩⟩
theorem run_append_cs (u ty : TypeId) (hu : P.underlying u = some .string) {base g n cap : Nat} {bs : List UInt8} (h : BufC w base g n cap bs) (s : ByteArray) (hm : 0 < n + s.size) (hz : n + s.size ≤ 140737488355328) (hb : base ≤ w.heap.size) :
    ∃ g' cap' w', (Builtin.append_ #[t, u] ty #[.slice (some ⟨g, 0, none⟩) n cap, .string s]).run P w = .ok (.slice (some ⟨g', 0, none⟩) (n + s.size) cap') w' ∧ BufC w' base g' (n + s.size) cap' (bs ++ s.data.toList) ∧ Below base w w' := by
  obtain ⟨i, hi0, hi1⟩ := Option.map_eq_some_iff.1 hi
  simp only [Prod.mk.injEq] at hi1
  have hsl := data_length s
  have hst0 : Lib.strCells s = toV s.data.toList := by
    have := toV_str [] s
    simpa [toV] using this
  by_cases hr : n + s.size ≤ cap
  · have hf := Lib.run_firstCells_string (P := P) w 1 s
    have hst := run_storeCells_cells (P := P) g n (Lib.strCells s) 0 w (fun j hj => by rw [Lib.strCells_length] at hj; exact (h.free (n + 0 + j) (by omega)).1) (fun j hj => by rw [Lib.strCells_length] at hj; exact (h.free (n + 0 + j) (by omega)).2) (Lib.strCells_oneCell s)
    simp only [Nat.add_zero] at hst
    have hrun : (Builtin.append_ #[t, u] ty #[.slice (some ⟨g, 0, none⟩) n cap, .string s]).run P w = .ok (.slice (some ⟨g, 0, none⟩) (n + s.size) cap) (w.setCells g n (Lib.strCells s)) := by
      simp [Builtin.append_, run_underlying ht, run_underlying hu, sizeOf, typeInfo, hi0, hi1.2.1, Builtin.lenOf, hr, hf, Addr.add_lit, hst]
    rw [hst0] at hrun
    have hp := h.put (ys := s.data.toList) (by omega)
    rw [hsl] at hp
    exact ⟨g, cap, _, hrun, hp, below_setCells _ _ _ h.low⟩
  · have hr2 := Lib.run_append_grow_string (P := P) w t u ty e i (.int .u8 0) ht hu hi0 hi1.1 ⟨g, 0, none⟩ n cap (toV bs) (by rw [toV_length, h.len, hi1.2.1, Nat.mul_one]) (isB_cells h.isB) s (by omega) (by omega) (by rw [hi1.2.2]; exact growslice_fits (by omega) (by omega))
    have hge := grownCap_ge w (n + s.size) cap e
    have hcm : grownCap w (n + s.size) cap e ≤ maxLen := grownCap_le_maxLen w (n + s.size) cap e (by unfold maxLen; omega)
    refine ⟨w.heap.size, _, _, hr2, ?_, ?_⟩
    · have hown : (w.drew.alloc (.cells ((toV bs).toArray ++ (Lib.strCells s).toArray ++ Builtin.zeroCells (Value.int .u8 0).cells (grownCap w (n + s.size) cap e - (n + s.size))) e)).ownsRow w.heap.size e 1 (.slice (some ⟨w.heap.size, 0, none⟩) (n + s.size) (grownCap w (n + s.size) cap e)) (n + s.size) (toV (bs ++ s.data.toList)) := by
        have hlen : (toV (bs ++ s.data.toList)).length = n + s.size := by rw [toV_length, List.length_append, h.len, hsl]
        refine ⟨by rw [hlen, Nat.mul_one], .inr ⟨w.heap.size, _, _, rfl, Nat.le_refl _, heap_alloc_new w.drew _, hge, hcm, ?_, ?_⟩⟩
        · have hz1 : (Value.int IntKind.u8 0).cells.size = 1 := rfl
          simp only [Array.size_append, List.size_toArray, size_zeroCells, hz1, toV_length, h.len, Lib.strCells_length]
          omega
        · simp only [Array.toList_append, List.append_assoc]
          rw [← List.append_assoc, hst0, ← toV_append, Nat.mul_one, ← hlen]
          exact List.take_left
      obtain ⟨g', cap', hv, hB⟩ := bufC_own hown hm
      injection hv with h1 h2 h3
      injection h1 with h4
      injection h4 with h5
      subst h5 h3
      exact ⟨Nat.le_trans hb hB.low, hB.lt, hB.room, hB.len, hB.cell, hB.free⟩
    · exact ⟨rfl, rfl, rfl, by simp, fun k hk => heap_alloc_old w.drew _ (show k < w.drew.heap.size from Nat.lt_of_lt_of_le hk hb)⟩
end
end Go.Proofs.Ytgobegpmojkhaab

/-
  A frame of which bits behind the two bytes of its length are turned.
-/
namespace Go.Proofs.Ytgobegpmojkhaab
open Go.RowKit
set_option linter.unusedVariables false

theorem fl_two (S : List UInt8) (k t : Nat) : ∀ i, (fl S (k + 16) t i).take 2 = S.take 2
  | 0 => rfl
  | i + 1 => by
    have ih := fl_two S k t i
    have e : fl S (k + 16) t (i + 1) = if t.testBit i then (fl S (k + 16) t i).set ((k + 16 + i) / 8) ((fl S (k + 16) t i).getD ((k + 16 + i) / 8) 0 ^^^ UInt8.ofNat (2 ^ ((k + 16 + i) % 8))) else fl S (k + 16) t i := rfl
    rw [e]
    by_cases h : t.testBit i
    · rw [if_pos h, List.take_set_of_le (by omega)]
      exact ih
    · rw [if_neg h]
      exact ih

theorem head_turned (r : Rec) (hr : r.right) (k t : Nat) (ht : t < 2 ^ 32) (h0 : t ≠ 0) (hk : k + 48 ≤ 8 * (frameB r).length) : headF (fl (frameB r) (k + 16) t 32) = (Rec.zero, 0, 3) := by
  have hL := frameB_length r
  have hn : be ((frameB r).take 2) = (recB r).length := by
    have := frame_two r hr []
    rwa [List.append_nil] at this
  have hl : (fl (frameB r) (k + 16) t 32).length = (recB r).length + 6 := by rw [fl_length, hL]
  have htk : (fl (frameB r) (k + 16) t 32).take ((recB r).length + 6) = fl (frameB r) (k + 16) t 32 := by rw [← hl, List.take_length]
  have hbl : (beB 2 (recB r).length ++ recB r).length + 4 = (frameB r).length := (sealB_length _).symm
  have ho : openS (fl (frameB r) (k + 16) t 32) = ([], 3) := by
    refine openS_turned (beB 2 (recB r).length ++ recB r) _ (k + 16) t ht h0 (by rw [fl_length]; exact hbl.symm) (by omega) fun i hi => ?_
    exact fl_bits (frameB r) (k + 16) t 32 (by omega) i (by omega)
  unfold headF
  rw [fl_two, hn, htk, ho, hl, if_neg (by omega), if_pos (by decide)]

theorem take_turned (r : Rec) (hr : r.right) (k t : Nat) (ht : t < 2 ^ 32) (h0 : t ≠ 0) (hk : k + 48 ≤ 8 * (frameB r).length) : takF (fl (frameB r) (k + 16) t 32) 0 = (Rec.zero, 0, 3) := by
  have e := head_turned r hr k t ht h0 hk
  have e0 : (fl (frameB r) (k + 16) t 32).drop (0 : Int).toNat = fl (frameB r) (k + 16) t 32 := rfl
  unfold takF
  rw [if_neg (by omega), e0, e]
  rfl

theorem scan_turned (r : Rec) (hr : r.right) (k t : Nat) (ht : t < 2 ^ 32) (h0 : t ≠ 0) (hk : k + 48 ≤ 8 * (frameB r).length) : scanL (fl (frameB r) (k + 16) t 32) = ([], 0) :=
  scan_stop _ _ _ (.inl (by rw [head_turned r hr k t ht h0 hk]; decide))
end Go.Proofs.Ytgobegpmojkhaab
