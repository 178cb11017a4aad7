/-
  The contracts of slices.Equal of a record's lists.
-/
import Derived.Test.YtmapgfakfeddmaaRecFits
import Derived.Test.YtmapgfakfeddmaaRecLoad
namespace Go.Proofs.Ytmapgfakfeddmaa
open Go.RowKit
set_option linter.unusedVariables false

set_option maxRecDepth 4000 in
set_option maxHeartbeats 3200000 in
theorem eqtx_at (va vb : Value) (xs ys : List Tx) (w : World) (q : Bool) (Hq : Hid (q = true ↔ xs = ys)) (hx : TxIn w va xs) (hy : TxIn w vb ys) (fx : ∀ x ∈ xs, x.fits) (fy : ∀ x ∈ ys, x.fits) (lx : xs.length ≤ maxLen) :
    Calls Try.prog 33 #[va, vb] w fun e w' => e = .returned (.bool q) ∧ Below w.heap.size w w' := by
  have HX := hide hx
  have HY := hide hy
  have HFX := hide fx
  have HFY := hide fy
  have hml : maxLen = 9223372036854775807 := rfl
  obtain ⟨a1, cap1, rfl, -⟩ := hx
  obtain ⟨a2, cap2, rfl, -⟩ := hy
  clear fx fy
  have hb0 := Below.refl w.heap.size w
  by_cases hl : xs.length = ys.length
  case neg =>
    obtain rfl : q = false := by
      cases q
      · rfl
      · exact absurd (congrArg List.length (Hq.out.1 rfl)) hl
    have i1 : ((xs.length : Int) == (ys.length : Int)) = false := by rw [beq_eq_false_iff_ne]; omega
    have i2 : ((xs.length : Int) != (ys.length : Int)) = true := by rw [bne, i1]; rfl
    clear Hq HX HY HFX HFY lx hml
    generalize xs.length = n1 at *
    generalize ys.length = n2 at *
    go_enter Try.func33, Try.ntmps33
    go_wp2
    go_ret
    exact ⟨rfl, hb0⟩
  have i1 : ((xs.length : Int) != (ys.length : Int)) = false := by rw [bne, hl, beq_self_eq_true]; rfl
  have i2 : ((xs.length : Int) == (ys.length : Int)) = true := by rw [hl]; exact beq_self_eq_true _
  have HL := hide hl
  clear hl
  rw [← HL.out] at i1 i2 ⊢
  go_enter Try.func33, Try.ntmps33
  go_wp2
  go_loopw [13, 5] (fun v _ wr => ∃ j : Nat, j ≤ xs.length ∧ v = .int .i64 j ∧ Below w.heap.size w wr ∧ ∀ i, i < j → xs.getD i Tx.zero = ys.getD i Tx.zero) (fun v _ _ => xs.length - (intOf v).toNat)
  case atStart => exact ⟨0, Nat.zero_le _, rfl, Below.refl _ _, fun i hi => absurd hi (by omega)⟩
  case round =>
    obtain ⟨j, hj, rfl, hb, hat⟩ := hrel
    have HAT := hide hat
    have HB := hide hb
    clear hat hb hb0
    by_cases hlt : j < xs.length
    · have jlt : (j : Int) < (xs.length : Int) := by omega
      obtain ⟨u1, k1, e1, hrow1⟩ := HX.out.below HB.out
      obtain ⟨u2, k2, e2, hrow2⟩ := HY.out.below HB.out
      rw [← HL.out] at e2
      cases e1
      cases e2
      obtain ⟨b1, off1, rfl, -, hc1⟩ := hrow1 (by omega)
      obtain ⟨b2, off2, rfl, -, hc2⟩ := hrow2 (by rw [← HL.out]; omega)
      have HR1 := hide (hc1 j hlt)
      have HR2 := hide (hc2 j (by rw [← HL.out]; exact hlt))
      clear hrow1 hrow2 hc1 hc2
      have HF1 := hide (HFX.out _ (getD_mem xs j Tx.zero hlt))
      have HF2 := hide (HFY.out _ (getD_mem ys j Tx.zero (by rw [← HL.out]; exact hlt)))
      obtain ⟨x, hx⟩ : ∃ x, x = xs.getD j Tx.zero := ⟨_, rfl⟩
      obtain ⟨y, hy⟩ : ∃ y, y = ys.getD j Tx.zero := ⟨_, rfl⟩
      have HXY : Hid (x = xs.getD j Tx.zero ∧ y = ys.getD j Tx.zero) := ⟨hx, hy⟩
      rw [← hx] at HR1 HF1
      rw [← hy] at HR2 HF2
      clear hx hy
      have hc := hide (Classical.em (x = y))
      obtain ⟨p, hp⟩ : ∃ p : Bool, p = false ↔ x = y := ⟨!(@decide (x = y) (Classical.propDecidable _)), by simp⟩
      have HP := hide hp
      clear hp
      go_wp2_with fail
      refine wp_region_in (fun z => Below w.heap.size w z ∧ z.rangeAt b1 (off1 + j * 5) (txA x).toList ∧ z.rangeAt b2 (off2 + j * 5) (txA y).toList) (by kernel_rfl) (by kernel_rfl) ⟨⟨HB.out.1, HB.out.2, HB.out.3, HB.out.4, HB.out.5⟩, HR1.out, HR2.out⟩ ?_
      clear HB HR1 HR2
      repeat (first
        | go_big_quiet_skip
        | (refine wpQuiet_load rfl 65 (.tmp 18) rfl _ (.agg (txA x)) rfl (fun z hz => load_tx z b1 _ x hz.2.1) ?_; simp only [Act.put, Array.setIfInBounds, List.size_toArray, List.length_cons, List.length_nil, Nat.reduceAdd, Nat.reduceLT, ↓reduceDIte, List.set_toArray, List.set_cons_succ, List.set_cons_zero])
        | (refine wpQuiet_load rfl 65 (.tmp 22) rfl _ (.agg (txA y)) rfl (fun z hz => load_tx z b2 _ y hz.2.2) ?_; simp only [Act.put, Array.setIfInBounds, List.size_toArray, List.length_cons, List.length_nil, Nat.reduceAdd, Nat.reduceLT, ↓reduceDIte, List.set_toArray, List.set_cons_succ, List.set_cons_zero])
        | (refine wpQuiet_binop rfl .neq 65 _ (.tmp 19) (.tmp 23) rfl (.agg (txA x)) (.agg (txA y)) (.bool p) rfl rfl (fun z => tx_guard .neq _ _ x y z) (fun z => run_tx_neq x y HF1.out HF2.out p HP.out z) ?_; simp only [Act.put, Array.setIfInBounds, List.size_toArray, List.length_cons, List.length_nil, Nat.reduceAdd, Nat.reduceLT, ↓reduceDIte, List.set_toArray, List.set_cons_succ, List.set_cons_zero])
        | (refine wpQuiet_plain rfl (fun K hK => ?_); go_simp; refine hK _ ?_; clear hK K))
      refine wpQuiet_nil ?_
      intro w3 h3
      have H3 := hide h3.1
      clear h3
      cases p
      · have HE := hide (HP.out.1 rfl)
        clear HP hc
        go_wp2
        go_roundw
        case rel => exact ⟨j + 1, by omega, by go_num, H3.out, at_more HAT.out (by rw [← HXY.out.1, ← HXY.out.2]; exact HE.out)⟩
        case measure => simp [intOf]; omega
      · obtain rfl : q = false := by
          cases q
          · rfl
          · have h1 := Hq.out.1 rfl
            exact absurd (HP.out.2 (by rw [HXY.out.1, HXY.out.2, h1])) (by simp)
        have d3 := H3.out
        clear Hq HP hc HXY HAT HX HY HFX HFY HF1 HF2 H3
        go_wp2
        go_ret
        exact ⟨rfl, d3⟩
    · obtain rfl : j = xs.length := by omega
      obtain rfl : q = true := Hq.out.2 (list_same (z := Tx.zero) HL.out HAT.out)
      have d3 := HB.out
      clear Hq HAT HX HY HFX HFY HB
      go_wp2
      go_ret
      exact ⟨rfl, d3⟩

set_option maxRecDepth 4000 in
set_option maxHeartbeats 3200000 in
theorem eqdi_at (va vb : Value) (xs ys : List Di) (w : World) (q : Bool) (Hq : Hid (q = true ↔ xs = ys)) (hx : DiIn w va xs) (hy : DiIn w vb ys) (fx : ∀ x ∈ xs, x.fits) (fy : ∀ x ∈ ys, x.fits) (lx : xs.length ≤ maxLen) :
    Calls Try.prog 34 #[va, vb] w fun e w' => e = .returned (.bool q) ∧ Below w.heap.size w w' := by
  have HX := hide hx
  have HY := hide hy
  have HFX := hide fx
  have HFY := hide fy
  have hml : maxLen = 9223372036854775807 := rfl
  obtain ⟨a1, cap1, rfl, -⟩ := hx
  obtain ⟨a2, cap2, rfl, -⟩ := hy
  clear fx fy
  have hb0 := Below.refl w.heap.size w
  by_cases hl : xs.length = ys.length
  case neg =>
    obtain rfl : q = false := by
      cases q
      · rfl
      · exact absurd (congrArg List.length (Hq.out.1 rfl)) hl
    have i1 : ((xs.length : Int) == (ys.length : Int)) = false := by rw [beq_eq_false_iff_ne]; omega
    have i2 : ((xs.length : Int) != (ys.length : Int)) = true := by rw [bne, i1]; rfl
    clear Hq HX HY HFX HFY lx hml
    generalize xs.length = n1 at *
    generalize ys.length = n2 at *
    go_enter Try.func34, Try.ntmps34
    go_wp2
    go_ret
    exact ⟨rfl, hb0⟩
  have i1 : ((xs.length : Int) != (ys.length : Int)) = false := by rw [bne, hl, beq_self_eq_true]; rfl
  have i2 : ((xs.length : Int) == (ys.length : Int)) = true := by rw [hl]; exact beq_self_eq_true _
  have HL := hide hl
  clear hl
  rw [← HL.out] at i1 i2 ⊢
  go_enter Try.func34, Try.ntmps34
  go_wp2
  go_loopw [13, 5] (fun v _ wr => ∃ j : Nat, j ≤ xs.length ∧ v = .int .i64 j ∧ Below w.heap.size w wr ∧ ∀ i, i < j → xs.getD i Di.zero = ys.getD i Di.zero) (fun v _ _ => xs.length - (intOf v).toNat)
  case atStart => exact ⟨0, Nat.zero_le _, rfl, Below.refl _ _, fun i hi => absurd hi (by omega)⟩
  case round =>
    obtain ⟨j, hj, rfl, hb, hat⟩ := hrel
    have HAT := hide hat
    have HB := hide hb
    clear hat hb hb0
    by_cases hlt : j < xs.length
    · have jlt : (j : Int) < (xs.length : Int) := by omega
      obtain ⟨u1, k1, e1, hrow1⟩ := HX.out.below HB.out
      obtain ⟨u2, k2, e2, hrow2⟩ := HY.out.below HB.out
      rw [← HL.out] at e2
      cases e1
      cases e2
      obtain ⟨b1, off1, rfl, -, hc1⟩ := hrow1 (by omega)
      obtain ⟨b2, off2, rfl, -, hc2⟩ := hrow2 (by rw [← HL.out]; omega)
      have HR1 := hide (hc1 j hlt)
      have HR2 := hide (hc2 j (by rw [← HL.out]; exact hlt))
      clear hrow1 hrow2 hc1 hc2
      have HF1 := hide (HFX.out _ (getD_mem xs j Di.zero hlt))
      have HF2 := hide (HFY.out _ (getD_mem ys j Di.zero (by rw [← HL.out]; exact hlt)))
      obtain ⟨x, hx⟩ : ∃ x, x = xs.getD j Di.zero := ⟨_, rfl⟩
      obtain ⟨y, hy⟩ : ∃ y, y = ys.getD j Di.zero := ⟨_, rfl⟩
      have HXY : Hid (x = xs.getD j Di.zero ∧ y = ys.getD j Di.zero) := ⟨hx, hy⟩
      rw [← hx] at HR1 HF1
      rw [← hy] at HR2 HF2
      clear hx hy
      have hc := hide (Classical.em (x = y))
      obtain ⟨p, hp⟩ : ∃ p : Bool, p = false ↔ x = y := ⟨!(@decide (x = y) (Classical.propDecidable _)), by simp⟩
      have HP := hide hp
      clear hp
      go_wp2_with fail
      refine wp_region_in (fun z => Below w.heap.size w z ∧ z.rangeAt b1 (off1 + j * 2) (diA x).toList ∧ z.rangeAt b2 (off2 + j * 2) (diA y).toList) (by kernel_rfl) (by kernel_rfl) ⟨⟨HB.out.1, HB.out.2, HB.out.3, HB.out.4, HB.out.5⟩, HR1.out, HR2.out⟩ ?_
      clear HB HR1 HR2
      repeat (first
        | go_big_quiet_skip
        | (refine wpQuiet_load rfl 67 (.tmp 18) rfl _ (.agg (diA x)) rfl (fun z hz => load_di z b1 _ x hz.2.1) ?_; simp only [Act.put, Array.setIfInBounds, List.size_toArray, List.length_cons, List.length_nil, Nat.reduceAdd, Nat.reduceLT, ↓reduceDIte, List.set_toArray, List.set_cons_succ, List.set_cons_zero])
        | (refine wpQuiet_load rfl 67 (.tmp 22) rfl _ (.agg (diA y)) rfl (fun z hz => load_di z b2 _ y hz.2.2) ?_; simp only [Act.put, Array.setIfInBounds, List.size_toArray, List.length_cons, List.length_nil, Nat.reduceAdd, Nat.reduceLT, ↓reduceDIte, List.set_toArray, List.set_cons_succ, List.set_cons_zero])
        | (refine wpQuiet_binop rfl .neq 67 _ (.tmp 19) (.tmp 23) rfl (.agg (diA x)) (.agg (diA y)) (.bool p) rfl rfl (fun z => di_guard .neq _ _ x y z) (fun z => run_di_neq x y HF1.out HF2.out p HP.out z) ?_; simp only [Act.put, Array.setIfInBounds, List.size_toArray, List.length_cons, List.length_nil, Nat.reduceAdd, Nat.reduceLT, ↓reduceDIte, List.set_toArray, List.set_cons_succ, List.set_cons_zero])
        | (refine wpQuiet_plain rfl (fun K hK => ?_); go_simp; refine hK _ ?_; clear hK K))
      refine wpQuiet_nil ?_
      intro w3 h3
      have H3 := hide h3.1
      clear h3
      cases p
      · have HE := hide (HP.out.1 rfl)
        clear HP hc
        go_wp2
        go_roundw
        case rel => exact ⟨j + 1, by omega, by go_num, H3.out, at_more HAT.out (by rw [← HXY.out.1, ← HXY.out.2]; exact HE.out)⟩
        case measure => simp [intOf]; omega
      · obtain rfl : q = false := by
          cases q
          · rfl
          · have h1 := Hq.out.1 rfl
            exact absurd (HP.out.2 (by rw [HXY.out.1, HXY.out.2, h1])) (by simp)
        have d3 := H3.out
        clear Hq HP hc HXY HAT HX HY HFX HFY HF1 HF2 H3
        go_wp2
        go_ret
        exact ⟨rfl, d3⟩
    · obtain rfl : j = xs.length := by omega
      obtain rfl : q = true := Hq.out.2 (list_same (z := Di.zero) HL.out HAT.out)
      have d3 := HB.out
      clear Hq HAT HX HY HFX HFY HB
      go_wp2
      go_ret
      exact ⟨rfl, d3⟩

end Go.Proofs.Ytmapgfakfeddmaa
