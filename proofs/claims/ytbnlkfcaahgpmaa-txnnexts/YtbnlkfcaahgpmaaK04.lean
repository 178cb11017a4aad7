/-
  Texts that lean on one another, one behind the other: each opens with its own remark.
-/
import Derived.WalkKit
import Derived.OpenShut
import Derived.ShutString
import Derived.SizedLaws
import Derived.ChangeOld
import Derived.Deep.Slices
import Derived.Lib.SmallJoins
import Derived.Test.YtbnlkfcaahgpmaaK03

/-
  The contract of quaysideref06.Same: the lists.
-/
namespace Go.Proofs.Ytbnlkfcaahgpmaa
open Go.RowKit
set_option linter.unusedVariables false

set_option maxRecDepth 4000 in
set_option maxHeartbeats 6400000 in
theorem rsame_yes (a b : Rec) (va vb ua ub : Value) (w : World) (q : Bool) (Hq : Hid (q = true ↔ a = b)) (hn : Rec.flat a b) (fa : a.fits) (fb : b.fits) (ha : RcIn w a va vb) (hb : RcIn w b ua ub) :
    Calls Try.prog 12 #[.agg (rcA a va vb), .agg (rcA b ua ub)] w fun e w' => e = .returned (.bool q) ∧ Below w.heap.size w w' := by
  have HFA := hide fa
  have HFB := hide fb
  have hml : maxLen = 9223372036854775807 := rfl
  have ltx := fa.tl
  have ldx := fa.dl
  have HF : Hid (¬ a = b → q = false) := fun h => by
    cases q
    · rfl
    · exact absurd (Hq.out.1 rfl) h
  have HT : Hid (a.ts = b.ts → a.ds = b.ds → q = true) := fun h1 h2 => Hq.out.2 (rec_ext hn.1 hn.2.1 hn.2.2.1 hn.2.2.2.1 hn.2.2.2.2.1 hn.2.2.2.2.2.1 hn.2.2.2.2.2.2.1 hn.2.2.2.2.2.2.2 h1 h2)
  clear Hq fa fb
  obtain ⟨hk, hl, ht, hp, hc, hnn, hs, hbb⟩ := hn
  have HA := hide ha
  have HB := hide hb
  obtain ⟨⟨a1, cap1, rfl, -⟩, ⟨a2, cap2, rfl, -⟩⟩ := ha
  obtain ⟨⟨b1, dap1, rfl, -⟩, ⟨b2, dap2, rfl, -⟩⟩ := hb
  have K0 := Keeps.two w 30 30 (rcA a (.slice a1 a.ts.length cap1) (.slice a2 a.ds.length cap2)) (rcA b (.slice b1 b.ts.length dap1) (.slice b2 b.ds.length dap2))
  have HK := hide K0
  obtain ⟨c0, c1, c2, c3, c9, c10, c11, c12, c13⟩ := rc_cells K0.1.2.1
  obtain ⟨d0, d1, d2, d3, d9, d10, d11, d12, d13⟩ := rc_cells K0.1.1
  obtain ⟨c4, c5, c6, c7, c8⟩ := rc_chg K0.1.2.1
  obtain ⟨d4, d5, d6, d7, d8⟩ := rc_chg K0.1.1
  have hb0 := K0.2
  clear K0
  have gk : (a.k == b.k) = true := beq_yes (hk)
  have kk : (a.k != b.k) = false := bne_no (hk)
  have gl : ((a.l : Int) == (b.l : Int)) = true := beq_yes (congrArg Int.ofNat hl)
  have kl : ((a.l : Int) != (b.l : Int)) = false := bne_no (congrArg Int.ofNat hl)
  have gt : (a.t == b.t) = true := beq_yes (ht)
  have kt : (a.t != b.t) = false := bne_no (ht)
  have gp : ((a.p : Int) == (b.p : Int)) = true := beq_yes (congrArg Int.ofNat hp)
  have kp : ((a.p : Int) != (b.p : Int)) = false := bne_no (congrArg Int.ofNat hp)
  have gck : (a.c.k == b.c.k) = true := beq_yes (congrArg Ch.k hc)
  have kck : (a.c.k != b.c.k) = false := bne_no (congrArg Ch.k hc)
  have gcp : (a.c.pg == b.c.pg) = true := beq_yes (congrArg Ch.pg hc)
  have kcp : (a.c.pg != b.c.pg) = false := bne_no (congrArg Ch.pg hc)
  have gcs : (a.c.sl == b.c.sl) = true := beq_yes (congrArg Ch.sl hc)
  have kcs : (a.c.sl != b.c.sl) = false := bne_no (congrArg Ch.sl hc)
  have gn : ((a.n : Int) == (b.n : Int)) = true := beq_yes (congrArg Int.ofNat hnn)
  have kn : ((a.n : Int) != (b.n : Int)) = false := bne_no (congrArg Int.ofNat hnn)
  have gs : (a.s == b.s) = true := beq_yes (hs)
  have ks : (a.s != b.s) = false := bne_no (hs)
  have gb : ((a.b : Int) == (b.b : Int)) = true := beq_yes (congrArg Int.ofNat hbb)
  have kb : ((a.b : Int) != (b.b : Int)) = false := bne_no (congrArg Int.ofNat hbb)
  have hco : a.c.o.toList = b.c.o.toList := by rw [hc]
  have hcn : a.c.n.toList = b.c.n.toList := by rw [hc]
  clear hk hl ht hp hc hnn hs hbb
  by_cases lt : a.ts.length = b.ts.length
  case neg =>
    obtain rfl := HF.out (fun h => lt (by rw [h]))
    have i1 : ((a.ts.length : Int) == (b.ts.length : Int)) = false := beq_no (by omega)
    have i2 : ((a.ts.length : Int) != (b.ts.length : Int)) = true := bne_yes (by omega)
    clear HF HT HFA HFB HA HB HK lt ltx ldx hml
    go_enter Try.func12, Try.ntmps12
    go_wp2
    go_ret
    exact ⟨rfl, hb0⟩
  have i1 : ((a.ts.length : Int) == (b.ts.length : Int)) = true := beq_yes (by omega)
  have i2 : ((a.ts.length : Int) != (b.ts.length : Int)) = false := bne_no (by omega)
  by_cases ld : a.ds.length = b.ds.length
  case neg =>
    obtain rfl := HF.out (fun h => ld (by rw [h]))
    have j1 : ((a.ds.length : Int) == (b.ds.length : Int)) = false := beq_no (by omega)
    have j2 : ((a.ds.length : Int) != (b.ds.length : Int)) = true := bne_yes (by omega)
    clear HF HT HFA HFB HA HB HK lt ld ltx ldx hml
    go_enter Try.func12, Try.ntmps12
    go_wp2
    go_ret
    exact ⟨rfl, hb0⟩
  have j1 : ((a.ds.length : Int) == (b.ds.length : Int)) = true := beq_yes (by omega)
  have j2 : ((a.ds.length : Int) != (b.ds.length : Int)) = false := bne_no (by omega)
  have HLT := hide lt
  have HLD := hide ld
  clear lt ld
  go_enter Try.func12, Try.ntmps12
  go_wp2
  obtain ⟨A, hA⟩ : ∃ A, A = rcA a (.slice a1 a.ts.length cap1) (.slice a2 a.ds.length cap2) := ⟨_, rfl⟩
  obtain ⟨B, hB⟩ : ∃ B, B = rcA b (.slice b1 b.ts.length dap1) (.slice b2 b.ds.length dap2) := ⟨_, rfl⟩
  obtain ⟨g1, hg1⟩ : ∃ g1, g1 = w.heap.size + 1 := ⟨_, rfl⟩
  rw [← hA, ← hB, ← hg1] at HK
  rw [← hA, ← hB, ← hg1]
  have HEA := hide hA
  have HEB := hide hB
  clear hA hB hg1 c0 c1 c2 c3 c4 c5 c6 c7 c8 c9 c10 c11 c12 c13 d0 d1 d2 d3 d4 d5 d6 d7 d8 d9 d10 d11 d12 d13 hb0 gk gl gt gp gck gcp gcs gn gs gb kk kl kt kp kck kcp kcs kn ks kb hco hcn i1 i2 j1 j2
  go_loopw [80, 5] (fun v _ wr => ∃ j : Nat, j ≤ a.ts.length ∧ v = .int .i64 j ∧ Keeps w wr [(g1, 30, B), (w.heap.size, 30, A)] ∧ ∀ i, i < j → a.ts.getD i Tx.zero = b.ts.getD i Tx.zero) (fun v _ _ => a.ts.length - (intOf v).toNat)
  case atStart => exact ⟨0, Nat.zero_le _, rfl, HK.out, fun i hi => absurd hi (by omega)⟩
  case round =>
    obtain ⟨j, hj, rfl, hk, hat⟩ := hrel
    have HAT := hide hat
    clear HK
    have HK := hide hk
    clear hat hk
    by_cases hlt : j < a.ts.length
    case neg =>
      obtain rfl : j = a.ts.length := by omega
      have HE := hide (list_same (z := Tx.zero) HLT.out HAT.out)
      clear HAT
      have HETS := HE
      clear HE
      have c13 : wr.cell? ⟨w.heap.size, 13, none⟩ = some (.slice a2 a.ds.length cap2) := by have h := HK.out.1.2.1; rw [HEA.out] at h; exact h.cell 13 _ rfl
      go_wp2
      clear c13
      go_loopw [98, 6] (fun v _ wr => ∃ j : Nat, j ≤ a.ds.length ∧ v = .int .i64 j ∧ Keeps w wr [(g1, 30, B), (w.heap.size, 30, A)] ∧ ∀ i, i < j → a.ds.getD i Di.zero = b.ds.getD i Di.zero) (fun v _ _ => a.ds.length - (intOf v).toNat)
      case atStart => exact ⟨0, Nat.zero_le _, rfl, HK.out, fun i hi => absurd hi (by omega)⟩
      case round =>
        obtain ⟨j, hj, rfl, hk, hat⟩ := hrel
        have HAT := hide hat
        clear HK
        have HK := hide hk
        clear hat hk
        by_cases hlt : j < a.ds.length
        case neg =>
          obtain rfl : j = a.ds.length := by omega
          have HE := hide (list_same (z := Di.zero) HLD.out HAT.out)
          clear HAT
          obtain rfl := HT.out HETS.out HE.out
          have d3 := HK.out.2
          clear HF HT HFA HFB HA HB HK HE HETS HEA HEB
          go_wp2
          go_ret
          exact ⟨rfl, d3⟩
        have jlt : (j : Int) < (a.ds.length : Int) := by omega
        obtain ⟨u1, k1, e1, hrow1⟩ := (HA.out.below HK.out.2).2
        obtain ⟨u2, k2, e2, hrow2⟩ := (HB.out.below HK.out.2).2
        rw [← HLD.out] at e2
        cases e1
        cases e2
        obtain ⟨p1, off1, hp1, -, hc1⟩ := hrow1 (by omega)
        obtain ⟨p2, off2, hp2, -, hc2⟩ := hrow2 (by rw [← HLD.out]; omega)
        have HR1 := hide (hc1 j hlt)
        have HR2 := hide (hc2 j (by rw [← HLD.out]; exact hlt))
        have HPP : Hid (a2 = some ⟨p1, off1, none⟩ ∧ b2 = some ⟨p2, off2, none⟩) := ⟨hp1, hp2⟩
        clear hrow1 hrow2 hc1 hc2 hp1 hp2
        have HF1 := hide (HFA.out.ds _ (getD_mem a.ds j Di.zero hlt))
        have HF2 := hide (HFB.out.ds _ (getD_mem b.ds j Di.zero (by rw [← HLD.out]; exact hlt)))
        obtain ⟨x, hx⟩ : ∃ x, x = a.ds.getD j Di.zero := ⟨_, rfl⟩
        obtain ⟨y, hy⟩ : ∃ y, y = b.ds.getD j Di.zero := ⟨_, rfl⟩
        have HXY : Hid (x = a.ds.getD j Di.zero ∧ y = b.ds.getD j Di.zero) := ⟨hx, hy⟩
        rw [← hx] at HR1 HF1
        rw [← hy] at HR2 HF2
        clear hx hy
        obtain ⟨p, hp⟩ : ∃ p : Bool, p = false ↔ x = y := ⟨!(@decide (x = y) (Classical.propDecidable _)), by simp⟩
        have HP := hide hp
        clear hp
        go_wp2_with fail
        refine wp_region_in (fun z => Keeps w z [(g1, 30, B), (w.heap.size, 30, A)] ∧ z.rangeAt p1 (off1 + j * 2) (diA x).toList ∧ z.rangeAt p2 (off2 + j * 2) (diA y).toList) (by kernel_rfl) (by kernel_rfl) ⟨HK.out.drew, HR1.out, HR2.out⟩ ?_
        clear HK HR1 HR2
        repeat (first
          | go_big_quiet_skip
          | (refine wpQuiet_load rfl 28 (.tmp 101) rfl _ (.slice (some ⟨p1, off1, none⟩) a.ds.length cap2) rfl (fun z hz => load_dis z _ _ _ (show z.cell? ⟨w.heap.size, 13, none⟩ = _ from by have h := hz.1.1.2.1; rw [HEA.out, HPP.out.1] at h; exact h.cell 13 _ rfl)) ?_; simp only [Act.put, Array.setIfInBounds, List.size_toArray, List.length_cons, List.length_nil, Nat.reduceAdd, Nat.reduceLT, ↓reduceDIte, List.set_toArray, List.set_cons_succ, List.set_cons_zero])
          | (refine wpQuiet_load rfl 28 (.tmp 106) rfl _ (.slice (some ⟨p2, off2, none⟩) a.ds.length dap2) rfl (fun z hz => load_dis z _ _ _ (show z.cell? ⟨g1, 13, none⟩ = _ from by have h := hz.1.1.1; rw [HEB.out, HPP.out.2, ← HLD.out] at h; exact h.cell 13 _ rfl)) ?_; simp only [Act.put, Array.setIfInBounds, List.size_toArray, List.length_cons, List.length_nil, Nat.reduceAdd, Nat.reduceLT, ↓reduceDIte, List.set_toArray, List.set_cons_succ, List.set_cons_zero])
          | (refine wpQuiet_load rfl 86 (.tmp 104) rfl _ (.agg (diA x)) rfl (fun z hz => load_di z p1 _ x hz.2.1) ?_; simp only [Act.put, Array.setIfInBounds, List.size_toArray, List.length_cons, List.length_nil, Nat.reduceAdd, Nat.reduceLT, ↓reduceDIte, List.set_toArray, List.set_cons_succ, List.set_cons_zero])
          | (refine wpQuiet_load rfl 86 (.tmp 109) rfl _ (.agg (diA y)) rfl (fun z hz => load_di z p2 _ y hz.2.2) ?_; simp only [Act.put, Array.setIfInBounds, List.size_toArray, List.length_cons, List.length_nil, Nat.reduceAdd, Nat.reduceLT, ↓reduceDIte, List.set_toArray, List.set_cons_succ, List.set_cons_zero])
          | (refine wpQuiet_binop rfl .neq 86 _ (.tmp 105) (.tmp 110) rfl (.agg (diA x)) (.agg (diA y)) (.bool p) rfl rfl (fun z => di_guard .neq _ _ x y z) (fun z => run_di_neq x y HF1.out HF2.out p HP.out z) ?_; simp only [Act.put, Array.setIfInBounds, List.size_toArray, List.length_cons, List.length_nil, Nat.reduceAdd, Nat.reduceLT, ↓reduceDIte, List.set_toArray, List.set_cons_succ, List.set_cons_zero])
          | (refine wpQuiet_plain rfl (fun K hK => ?_); go_simp; refine hK _ ?_; clear hK K))
        refine wpQuiet_nil ?_
        intro w3 h3
        have H3 := hide h3.1
        clear h3
        cases p
        · have HE := hide (HP.out.1 rfl)
          clear HP
          go_wp2
          go_roundw
          case rel => exact ⟨j + 1, by omega, by go_num, H3.out, at_more HAT.out (by rw [← HXY.out.1, ← HXY.out.2]; exact HE.out)⟩
          case measure => simp [intOf]; omega
        · obtain rfl := HF.out (fun h => absurd (HP.out.2 (by rw [HXY.out.1, HXY.out.2, h])) (by simp))
          have d3 := H3.out.2
          clear HP HXY HAT HF1 HF2 H3
          go_wp2
          go_ret
          exact ⟨rfl, d3⟩
    have jlt : (j : Int) < (a.ts.length : Int) := by omega
    obtain ⟨u1, k1, e1, hrow1⟩ := (HA.out.below HK.out.2).1
    obtain ⟨u2, k2, e2, hrow2⟩ := (HB.out.below HK.out.2).1
    rw [← HLT.out] at e2
    cases e1
    cases e2
    obtain ⟨p1, off1, hp1, -, hc1⟩ := hrow1 (by omega)
    obtain ⟨p2, off2, hp2, -, hc2⟩ := hrow2 (by rw [← HLT.out]; omega)
    have HR1 := hide (hc1 j hlt)
    have HR2 := hide (hc2 j (by rw [← HLT.out]; exact hlt))
    have HPP : Hid (a1 = some ⟨p1, off1, none⟩ ∧ b1 = some ⟨p2, off2, none⟩) := ⟨hp1, hp2⟩
    clear hrow1 hrow2 hc1 hc2 hp1 hp2
    have HF1 := hide (HFA.out.ts _ (getD_mem a.ts j Tx.zero hlt))
    have HF2 := hide (HFB.out.ts _ (getD_mem b.ts j Tx.zero (by rw [← HLT.out]; exact hlt)))
    obtain ⟨x, hx⟩ : ∃ x, x = a.ts.getD j Tx.zero := ⟨_, rfl⟩
    obtain ⟨y, hy⟩ : ∃ y, y = b.ts.getD j Tx.zero := ⟨_, rfl⟩
    have HXY : Hid (x = a.ts.getD j Tx.zero ∧ y = b.ts.getD j Tx.zero) := ⟨hx, hy⟩
    rw [← hx] at HR1 HF1
    rw [← hy] at HR2 HF2
    clear hx hy
    obtain ⟨p, hp⟩ : ∃ p : Bool, p = false ↔ x = y := ⟨!(@decide (x = y) (Classical.propDecidable _)), by simp⟩
    have HP := hide hp
    clear hp
    go_wp2_with fail
    refine wp_region_in (fun z => Keeps w z [(g1, 30, B), (w.heap.size, 30, A)] ∧ z.rangeAt p1 (off1 + j * 5) (txA x).toList ∧ z.rangeAt p2 (off2 + j * 5) (txA y).toList) (by kernel_rfl) (by kernel_rfl) ⟨HK.out.drew, HR1.out, HR2.out⟩ ?_
    clear HK HR1 HR2
    repeat (first
      | go_big_quiet_skip
      | (refine wpQuiet_load rfl 27 (.tmp 83) rfl _ (.slice (some ⟨p1, off1, none⟩) a.ts.length cap1) rfl (fun z hz => load_txs z _ _ _ (show z.cell? ⟨w.heap.size, 12, none⟩ = _ from by have h := hz.1.1.2.1; rw [HEA.out, HPP.out.1] at h; exact h.cell 12 _ rfl)) ?_; simp only [Act.put, Array.setIfInBounds, List.size_toArray, List.length_cons, List.length_nil, Nat.reduceAdd, Nat.reduceLT, ↓reduceDIte, List.set_toArray, List.set_cons_succ, List.set_cons_zero])
      | (refine wpQuiet_load rfl 27 (.tmp 88) rfl _ (.slice (some ⟨p2, off2, none⟩) a.ts.length dap1) rfl (fun z hz => load_txs z _ _ _ (show z.cell? ⟨g1, 12, none⟩ = _ from by have h := hz.1.1.1; rw [HEB.out, HPP.out.2, ← HLT.out] at h; exact h.cell 12 _ rfl)) ?_; simp only [Act.put, Array.setIfInBounds, List.size_toArray, List.length_cons, List.length_nil, Nat.reduceAdd, Nat.reduceLT, ↓reduceDIte, List.set_toArray, List.set_cons_succ, List.set_cons_zero])
      | (refine wpQuiet_load rfl 84 (.tmp 86) rfl _ (.agg (txA x)) rfl (fun z hz => load_tx z p1 _ x hz.2.1) ?_; simp only [Act.put, Array.setIfInBounds, List.size_toArray, List.length_cons, List.length_nil, Nat.reduceAdd, Nat.reduceLT, ↓reduceDIte, List.set_toArray, List.set_cons_succ, List.set_cons_zero])
      | (refine wpQuiet_load rfl 84 (.tmp 91) rfl _ (.agg (txA y)) rfl (fun z hz => load_tx z p2 _ y hz.2.2) ?_; simp only [Act.put, Array.setIfInBounds, List.size_toArray, List.length_cons, List.length_nil, Nat.reduceAdd, Nat.reduceLT, ↓reduceDIte, List.set_toArray, List.set_cons_succ, List.set_cons_zero])
      | (refine wpQuiet_binop rfl .neq 84 _ (.tmp 87) (.tmp 92) rfl (.agg (txA x)) (.agg (txA y)) (.bool p) rfl rfl (fun z => tx_guard .neq _ _ x y z) (fun z => run_tx_neq x y HF1.out HF2.out p HP.out z) ?_; simp only [Act.put, Array.setIfInBounds, List.size_toArray, List.length_cons, List.length_nil, Nat.reduceAdd, Nat.reduceLT, ↓reduceDIte, List.set_toArray, List.set_cons_succ, List.set_cons_zero])
      | (refine wpQuiet_plain rfl (fun K hK => ?_); go_simp; refine hK _ ?_; clear hK K))
    refine wpQuiet_nil ?_
    intro w3 h3
    have H3 := hide h3.1
    clear h3
    cases p
    · have HE := hide (HP.out.1 rfl)
      clear HP
      go_wp2
      go_roundw
      case rel => exact ⟨j + 1, by omega, by go_num, H3.out, at_more HAT.out (by rw [← HXY.out.1, ← HXY.out.2]; exact HE.out)⟩
      case measure => simp [intOf]; omega
    · obtain rfl := HF.out (fun h => absurd (HP.out.2 (by rw [HXY.out.1, HXY.out.2, h])) (by simp))
      have d3 := H3.out.2
      clear HP HXY HAT HF1 HF2 H3
      go_wp2
      go_ret
      exact ⟨rfl, d3⟩

/-- THE CONTRACT. -/
theorem rsame_at (a b : Rec) (va vb ua ub : Value) (w : World) (q : Bool) (Hq : Hid (q = true ↔ a = b)) (fa : a.fits) (fb : b.fits) (ha : RcIn w a va vb) (hb : RcIn w b ua ub) :
    Calls Try.prog 12 #[.agg (rcA a va vb), .agg (rcA b ua ub)] w fun e w' => e = .returned (.bool q) ∧ Below w.heap.size w w' := by
  by_cases hn : Rec.flat a b
  · exact rsame_yes a b va vb ua ub w q Hq hn fa fb ha hb
  · obtain rfl : q = false := by
      cases q
      · rfl
      · have h := Hq.out.1 rfl
        subst h
        exact absurd ⟨rfl, rfl, rfl, rfl, rfl, rfl, rfl, rfl⟩ hn
    exact rsame_no a b va vb ua ub w hn ha hb
end Go.Proofs.Ytbnlkfcaahgpmaa

/-
  A slice that came in, by its cells: what a walk is told of it. Of no program.
-/
namespace Go.Proofs.Ytbnlkfcaahgpmaa
open Go.RowKit
set_option linter.unusedVariables false

/-- A slice value of so many elements, each of 'sz' cells: element i's cell k holds 'f i k'. -/
def IsRow (w : World) (a : Option Addr) (len sz : Nat) (f : Nat → Nat → Value) : Prop :=
  0 < len → ∃ b off, a = some ⟨b, off, none⟩ ∧ b < w.heap.size ∧ ∀ i k, i < len → k < sz → w.cell? ⟨b, off + (i * sz + k), none⟩ = some (f i k)

theorem IsRow.below {w w' : World} {a : Option Addr} {len sz B : Nat} {f : Nat → Nat → Value} (h : IsRow w a len sz f) (hB : w.heap.size ≤ B) (hb : Below B w w') : IsRow w' a len sz f := by
  intro hp
  obtain ⟨b, off, ha, hlt, hc⟩ := h hp
  exact ⟨b, off, ha, Nat.lt_of_lt_of_le hlt hb.size, fun i k hi hk => (hb.cell (p := ⟨b, off + (i * sz + k), none⟩) (Nat.lt_of_lt_of_le hlt hB)).trans (hc i k hi hk)⟩
end Go.Proofs.Ytbnlkfcaahgpmaa

/-
  How an argument that is a slice of plain things, or a struct by value, is opened: of no program.
-/
namespace Go.Proofs.Ytbnlkfcaahgpmaa
open Go.ChangeShapes Go.WideShapes Go.ChangeAt Go.RowKit Go.Deep Go.Joins
set_option linter.unusedVariables false

section
variable {H : Type} {enc : TypeId × Value → H} {P : Program} {W : World}

theorem trod_places {t : TypeId} {v : Value} {d : DataW H} {p : List MemPlace} (h : DataW.Trod enc P W 0 (fun _ => true) true t v d p) : ∀ x ∈ p, x.block < W.heap.size := by
  obtain ⟨m, hm⟩ := h
  exact DataW.trod_lt m _ _ _ hm

theorem sized_each {ts : List TypeId} {ds : List (DataW H)} {j : Nat} {t : TypeId} {d : DataW H} (h : (DataW.weightsEach P ts ds).all (· ≤ reachBytes) = true) (ht : ts[j]? = some t) (hd : ds[j]? = some d) : ∀ n ∈ d.weights P t, n ≤ reachBytes := by
  intro n hn
  have := List.all_eq_true.1 h _ (DataW.weights_mem_each ht hd n hn)
  simpa using this

/-- A slice's outer form as data. -/
def SlForm (d : DataW H) (len cap : Nat) : Prop := (d = .nil ∧ len = 0 ∧ cap = 0) ∨ ∃ es sp, d = .slice es sp ∧ es.length = len ∧ es.length + sp.length = cap

theorem SlForm.sized {d : DataW H} {len cap : Nat} {t e : TypeId} (h : SlForm d len cap) (ht : P.underlying t = some (.slice e)) (hb : 1 ≤ P.bytesOf e) (hs : ∀ n ∈ d.weights P t, n ≤ reachBytes) : len ≤ 140737488351232 := by
  rcases h with ⟨_, rfl, _⟩ | ⟨es, sp, rfl, h1, h2⟩
  · omega
  · have h3 := hs ((es.length + sp.length) * P.bytesOf e) (by simp [DataW.weights, ht])
    have h4 : (es.length + sp.length) * 1 ≤ (es.length + sp.length) * P.bytesOf e := Nat.mul_le_mul_left _ hb
    have h5 : reachBytes = 140737488351232 := rfl
    omega

/-- A slice opened: each element's cells by a way to read an element. -/
theorem open_rows {α : Type} [Inhabited α] {t e : TypeId} {sz : Nat} {v : Value} {d : DataW H} {p : List MemPlace} {r : Reach} {b0 : Nat} (F : α → Nat → Value) (G : α → Prop)
    (hel : ∀ n cs y, DataW.trod enc P W 0 (fun _ => true) true n e cs = some y → ∃ x, G x ∧ ∀ k, k < sz → cs[k]? = some (F x k))
    (ht : P.underlying t = some (.slice e)) (hsz : P.cellsOf e = sz) (hpos : 0 < sz) (hv : Value.okWide P W r b0 t v) (h : DataW.Trod enc P W 0 (fun _ => true) true t v d p) :
    ∃ (a : Option Addr) (len cap : Nat) (f : Nat → α), v = .slice a len cap ∧ SlForm d len cap ∧ len ≤ cap ∧ (a = none → cap = 0) ∧ (∀ i, i < cap → G (f i)) ∧ IsRow W a len sz (fun i k => F (f i) k) := by
  obtain ⟨a, len, cap, rfl⟩ := okWide_slice ht hv
  obtain ⟨fuel, hf⟩ := h
  rcases open_slice ht hf with ⟨hcs, hx⟩ | ⟨x, l, c, m, n, D, Pl, hcs, _, hl, hm, hmm, hx, hall⟩
  · simp [Value.cells] at hcs
    obtain ⟨rfl, rfl, rfl⟩ := hcs
    simp only [Prod.mk.injEq] at hx
    exact ⟨none, 0, 0, fun _ => default, rfl, .inl ⟨hx.1, rfl, rfl⟩, Nat.le_refl _, fun _ => rfl, fun i hi => absurd hi (by omega), fun h => absurd h (by omega)⟩
  · simp [Value.cells] at hcs
    obtain ⟨rfl, rfl, rfl⟩ := hcs
    simp only [if_true] at hmm
    subst hmm
    simp only [Prod.mk.injEq] at hx
    obtain ⟨f, hf2⟩ := choose_lt (α := α) (p := fun i y => G y ∧ ∀ k, k < sz → W.cell? (x.add (i * sz + k)) = some (F y k)) (fun i hi => by
      obtain ⟨cs', h1, h2⟩ := hall i hi
      obtain ⟨y, hG, hF⟩ := hel _ _ _ h2
      rw [hsz] at h1
      obtain ⟨_, _, h3⟩ := World.cells?_some h1
      refine ⟨y, hG, fun k hk => ?_⟩
      have h4 := h3 k hk
      rw [hF k hk] at h4
      rw [← h4, Addr.add_add])
    refine ⟨some x, len, m, f, rfl, .inr ⟨_, _, hx.1, by simp, by simp; omega⟩, hl, (fun h => nomatch h), fun i hi => (hf2 i hi).1, fun hp => ?_⟩
    have hc0 := (hf2 0 (by omega)).2 0 hpos
    obtain ⟨b, off, spot⟩ := x
    have hspot : spot = none := by simpa [Addr.add] using World.cell?_spot hc0
    subst hspot
    refine ⟨b, off, rfl, ?_, fun i k hi hk => ?_⟩
    · have := World.block_lt_of_cell? W _ hc0
      simpa [Addr.add] using this
    · have := (hf2 i (by omega)).2 k hk
      rw [Addr.add_lit] at this
      exact this

/-- .. with a property of all places, also of those behind its end. -/
theorem open_rows_all {α : Type} [Inhabited α] {t e : TypeId} {sz : Nat} {v : Value} {d : DataW H} {p : List MemPlace} {r : Reach} {b0 : Nat} (F : α → Nat → Value) (G : α → Prop) (hd : G default)
    (hel : ∀ n cs y, DataW.trod enc P W 0 (fun _ => true) true n e cs = some y → ∃ x, G x ∧ ∀ k, k < sz → cs[k]? = some (F x k))
    (ht : P.underlying t = some (.slice e)) (hsz : P.cellsOf e = sz) (hpos : 0 < sz) (hv : Value.okWide P W r b0 t v) (h : DataW.Trod enc P W 0 (fun _ => true) true t v d p) :
    ∃ (a : Option Addr) (len cap : Nat) (f : Nat → α), v = .slice a len cap ∧ SlForm d len cap ∧ len ≤ cap ∧ (a = none → cap = 0) ∧ (∀ i, G (f i)) ∧ IsRow W a len sz (fun i k => F (f i) k) := by
  obtain ⟨a, len, cap, f, h1, h2, h3, h4, h5, h6⟩ := open_rows F G hel ht hsz hpos hv h
  refine ⟨a, len, cap, fun i => if i < cap then f i else default, h1, h2, h3, h4, fun i => ?_, fun hp => ?_⟩
  · by_cases hi : i < cap
    · simp only [if_pos hi]
      exact h5 i hi
    · simp only [if_neg hi]
      exact hd
  · obtain ⟨b, off, ha, hb, hc⟩ := h6 hp
    refine ⟨b, off, ha, hb, fun i k hi hk => ?_⟩
    have hi2 : i < cap := by omega
    rw [hc i k hi hk]
    simp only [if_pos hi2]

theorem elem_bool {e : TypeId} (he : P.underlying e = some .bool) (n : Nat) (cs : List Value) (y : DataW H × List MemPlace) (h : DataW.trod enc P W 0 (fun _ => true) true n e cs = some y) : ∃ x : Bool, True ∧ ∀ k, k < 1 → cs[k]? = some (Value.bool x) := by
  obtain ⟨b, rfl, _⟩ := DataW.trod_bool he h
  refine ⟨b, trivial, fun k hk => ?_⟩
  obtain rfl : k = 0 := by omega
  rfl

theorem elem_int {e : TypeId} {q : IntKind} (he : P.underlying e = some (.int q)) (n : Nat) (cs : List Value) (y : DataW H × List MemPlace) (h : DataW.trod enc P W 0 (fun _ => true) true n e cs = some y) : ∃ x : Int, (Lit.int q x).wf = true ∧ ∀ k, k < 1 → cs[k]? = some (Value.int q x) := by
  obtain ⟨b, rfl, _, hw⟩ := DataW.trod_int he h
  refine ⟨b, hw, fun k hk => ?_⟩
  obtain rfl : k = 0 := by omega
  rfl
end
end Go.Proofs.Ytbnlkfcaahgpmaa
