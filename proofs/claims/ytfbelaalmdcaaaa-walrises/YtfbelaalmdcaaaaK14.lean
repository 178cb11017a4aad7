/-
  Texts that lean on one another, one behind the other: each opens with its own remark.
-/
import Derived.Test.YtfbelaalmdcaaaaK05
import Derived.Test.YtfbelaalmdcaaaaK00

/-
  The contract of quaysideref06.Bytes, of a checkpoint's record.
-/
namespace Go.Proofs.Ytfbelaalmdcaaaa
open Go.RowKit
set_option linter.unusedVariables false

theorem take_flat {α : Type} (f : α → List UInt8) (z : α) (xs : List α) (j : Nat) (hj : j < xs.length) : (xs.take (j + 1)).flatMap f = (xs.take j).flatMap f ++ f (xs.getD j z) := by
  have e : xs.getD j z = xs[j] := by simp [List.getD, hj]
  rw [List.take_succ_eq_append_getElem hj, List.flatMap_append, e]
  simp
theorem mkS_eq {a b : List UInt8} (h : a = b) : mkS a = mkS b := by rw [h]

set_option maxRecDepth 8000 in
set_option maxHeartbeats 12800000 in
theorem bytes_check (r : Rec) (va vb : Value) (w : World) (hr : r.right) (hkc : r.k = 8) (hin : RcIn w r va vb) :
    Calls Try.prog 57 #[.agg (rcA r va vb)] w fun e w' => e = .returned (.string (mkS (recB r))) ∧ Below w.heap.size w w' := by
  obtain ⟨kk, hk⟩ := Int.eq_ofNat_of_zero_le (show 0 ≤ r.k by have := hr.k1; omega)
  obtain ⟨tt, ht⟩ := Int.eq_ofNat_of_zero_le (show 0 ≤ r.t by by_cases h : r.k ≤ 6; (have := hr.own h; omega); (have := hr.none (by omega); omega))
  have hll := hr.lm
  unfold maxP at hll
  have hpp : r.p < 18446744073709551616 := by by_cases h : r.k ≤ 6; (have := hr.own h; omega); (have := hr.none (by omega); omega)
  have htt : tt < 18446744073709551616 := by by_cases h : r.k ≤ 6; (have := hr.own h; omega); (have := hr.none (by omega); omega)
  have hkk : kk ≤ 8 := by have := hr.k8; omega
  have HN1 := hide (fun w => num6_any 1 kk w (by omega) (by omega))
  have HN2 := hide (fun w => num6_any 8 r.l w (by omega) (by omega))
  have HN3 := hide (fun w => num6_any 4 tt w (by omega) htt)
  have HN4 := hide (fun w => num6_any 8 r.p w (by omega) hpp)
  have z1 := mkS_size (beB 1 kk)
  have z2 := mkS_size (beB 8 r.l)
  have z3 := mkS_size (beB 4 tt)
  have z4 := mkS_size (beB 8 r.p)
  rw [beB_length] at z1 z2 z3 z4
  have u1 : IntKind.u64.wrap (kk : Int) = (kk : Int) := by rw [IntKind.wrap_u64]; omega
  have u2 : IntKind.u64.wrap (tt : Int) = (tt : Int) := by rw [IntKind.wrap_u64]; omega
  have hrow := hr.check hkc
  have HROW := hide hrow
  have hbb : r.b < 18446744073709551616 := by have := hrow.2.2.2.2.2; omega
  have HP1 := hide (fun w => num6_any 8 r.b w (by omega) hbb)
  have HP2 := hide (fun w => num6_any 1 r.ts.length w (by omega) (by have := hrow.1; omega))
  have HP3 := hide (fun w => num6_any 1 r.ds.length w (by omega) (by have := hrow.2.1; omega))
  have q1 := mkS_size (beB 8 r.b)
  have q2 := mkS_size (beB 1 r.ts.length)
  have q3 := mkS_size (beB 1 r.ds.length)
  rw [beB_length] at q1 q2 q3
  have n16 := hrow.1
  have n32 := hrow.2.1
  have v1 : IntKind.u64.wrap (r.ts.length : Int) = (r.ts.length : Int) := by rw [IntKind.wrap_u64]; omega
  have v2 : IntKind.u64.wrap (r.ds.length : Int) = (r.ds.length : Int) := by rw [IntKind.wrap_u64]; omega
  obtain ⟨hd, hhd⟩ : ∃ hd, hd = beB 1 kk ++ (beB 8 r.l ++ (beB 4 tt ++ (beB 8 r.p ++ (beB 8 r.b ++ beB 1 r.ts.length)))) := ⟨_, rfl⟩
  have he : mkS (beB 1 kk) ++ mkS (beB 8 r.l) ++ mkS (beB 4 tt) ++ mkS (beB 8 r.p) ++ mkS (beB 8 r.b) ++ mkS (beB 1 r.ts.length) = mkS hd := by
    rw [hhd]
    simp only [mkS_append, List.append_assoc]
  have hhl : hd.length = 30 := by
    rw [hhd]
    simp only [List.length_append, beB_length]
  have HE := hide he
  have hf : recB r = hd ++ (txsB r.ts ++ (beB 1 r.ds.length ++ disB r.ds)) := by
    rw [hhd]
    unfold recB mayB checkB
    rw [if_neg (by omega), if_neg (by omega), if_neg (by omega), if_pos hkc, hk, ht]
    simp only [Int.toNat_natCast, List.append_assoc, List.nil_append]
  have HFN := hide hf
  have H6 : Hid ((kk : Int) = 8) := show (kk : Int) = 8 by omega
  have HIN := hide hin
  obtain ⟨⟨e1, cap1, rfl, -⟩, ⟨e2, cap2, rfl, -⟩⟩ := hin
  clear hr hkc hkk hrow he hf hhd
  have HK0 := hide (Keeps.one w 43 (rcA r (.slice e1 r.ts.length cap1) (.slice e2 r.ds.length cap2)))
  obtain ⟨A, hA⟩ : ∃ A, A = rcA r (.slice e1 r.ts.length cap1) (.slice e2 r.ds.length cap2) := ⟨_, rfl⟩
  rw [← hA] at HK0 ⊢
  have HA := hide hA
  clear hA
  have HC : Hid (∀ y : World, RowAt y w.heap.size 43 A → y.cell? ⟨w.heap.size, 0, none⟩ = some (.int .i64 (kk : Int)) ∧ y.cell? ⟨w.heap.size, 1, none⟩ = some (.int .u64 (r.l : Int)) ∧ y.cell? ⟨w.heap.size, 2, none⟩ = some (.int .i64 (tt : Int)) ∧ y.cell? ⟨w.heap.size, 3, none⟩ = some (.int .u64 (r.p : Int))) := fun y h => by
    rw [HA.out] at h
    obtain ⟨a0, a1, a2, a3, -⟩ := rc_cells h
    rw [hk] at a0
    rw [ht] at a2
    exact ⟨a0, a1, a2, a3⟩
  generalize mkS (beB 1 kk) = N1 at *
  generalize mkS (beB 8 r.l) = N2 at *
  generalize mkS (beB 4 tt) = N3 at *
  generalize mkS (beB 8 r.p) = N4 at *
  go_enter Try.func57, Try.ntmps57
  go_wp2_with fail
  refine wp_region_in (fun x => Keeps w x [(w.heap.size, 43, A)]) (by kernel_rfl) (by kernel_rfl) HK0.out.drew ?_
  clear HK0
  repeat (first
    | go_big_quiet_skip
    | (refine wpQuiet_load rfl 3 (.tmp 8) rfl _ (.int .i64 (kk : Int)) rfl (fun y hy => load_i64 y _ (HC.out y hy.1.1).1) ?_; simp only [Act.put, Array.setIfInBounds, List.size_toArray, List.length_cons, List.length_nil, Nat.reduceAdd, Nat.reduceLT, ↓reduceDIte, List.set_toArray, List.set_cons_succ, List.set_cons_zero])
    | (refine wpQuiet_load rfl 31 (.tmp 12) rfl _ (.int .u64 (r.l : Int)) rfl (fun y hy => load_u64 y _ (HC.out y hy.1.1).2.1) ?_; simp only [Act.put, Array.setIfInBounds, List.size_toArray, List.length_cons, List.length_nil, Nat.reduceAdd, Nat.reduceLT, ↓reduceDIte, List.set_toArray, List.set_cons_succ, List.set_cons_zero])
    | (refine wpQuiet_load rfl 3 (.tmp 16) rfl _ (.int .i64 (tt : Int)) rfl (fun y hy => load_i64 y _ (HC.out y hy.1.1).2.2.1) ?_; simp only [Act.put, Array.setIfInBounds, List.size_toArray, List.length_cons, List.length_nil, Nat.reduceAdd, Nat.reduceLT, ↓reduceDIte, List.set_toArray, List.set_cons_succ, List.set_cons_zero])
    | (refine wpQuiet_load rfl 31 (.tmp 21) rfl _ (.int .u64 (r.p : Int)) rfl (fun y hy => load_u64 y _ (HC.out y hy.1.1).2.2.2) ?_; simp only [Act.put, Array.setIfInBounds, List.size_toArray, List.length_cons, List.length_nil, Nat.reduceAdd, Nat.reduceLT, ↓reduceDIte, List.set_toArray, List.set_cons_succ, List.set_cons_zero])
    | (refine wpQuiet_call rfl 73 #[.int .i64 1, .int .u64 (kk : Int)] (.string N1) ?_ (fun x hC => (HN1.out x).mono fun e x' h => ⟨h.1, hC.later h.2⟩) ?_; (intro x; go_simp); simp only [Act.put, Array.setIfInBounds, List.size_toArray, List.length_cons, List.length_nil, Nat.reduceAdd, Nat.reduceLT, ↓reduceDIte, List.set_toArray, List.set_cons_succ, List.set_cons_zero])
    | (refine wpQuiet_call rfl 73 #[.int .i64 8, .int .u64 (r.l : Int)] (.string N2) ?_ (fun x hC => (HN2.out x).mono fun e x' h => ⟨h.1, hC.later h.2⟩) ?_; (intro x; go_simp); simp only [Act.put, Array.setIfInBounds, List.size_toArray, List.length_cons, List.length_nil, Nat.reduceAdd, Nat.reduceLT, ↓reduceDIte, List.set_toArray, List.set_cons_succ, List.set_cons_zero])
    | (refine wpQuiet_call rfl 73 #[.int .i64 4, .int .u64 (tt : Int)] (.string N3) ?_ (fun x hC => (HN3.out x).mono fun e x' h => ⟨h.1, hC.later h.2⟩) ?_; (intro x; go_simp); simp only [Act.put, Array.setIfInBounds, List.size_toArray, List.length_cons, List.length_nil, Nat.reduceAdd, Nat.reduceLT, ↓reduceDIte, List.set_toArray, List.set_cons_succ, List.set_cons_zero])
    | (refine wpQuiet_call rfl 73 #[.int .i64 8, .int .u64 (r.p : Int)] (.string N4) ?_ (fun x hC => (HN4.out x).mono fun e x' h => ⟨h.1, hC.later h.2⟩) ?_; (intro x; go_simp); simp only [Act.put, Array.setIfInBounds, List.size_toArray, List.length_cons, List.length_nil, Nat.reduceAdd, Nat.reduceLT, ↓reduceDIte, List.set_toArray, List.set_cons_succ, List.set_cons_zero])
    | (refine wpQuiet_plain rfl (fun K hK => ?_); go_simp; refine hK _ ?_; clear hK K))
  refine wpQuiet_nil ?_
  intro w1 h1
  have c0 : w1.cell? ⟨w.heap.size, 0, none⟩ = some (.int .i64 (kk : Int)) := (HC.out w1 h1.1.1).1
  have HK1 := hide h1
  clear h1 HN1 HN2 HN3 HN4
  rw [H6.out] at c0
  generalize mkS (beB 8 r.b) = P1 at *
  generalize mkS (beB 1 r.ts.length) = P2 at *
  obtain ⟨P3, hP3⟩ : ∃ P3, P3 = mkS (beB 1 r.ds.length) := ⟨_, rfl⟩
  rw [← hP3] at HP3 q3
  have HPE : Hid (mkS (beB 1 r.ds.length) = P3) := hP3.symm
  clear hP3
  go_wp2_with fail
  clear c0
  refine wp_region_in (fun x => Keeps w x [(w.heap.size, 43, A)]) (by kernel_rfl) (by kernel_rfl) HK1.out.drew ?_
  clear HK1
  have HCB : Hid (∀ y : World, RowAt y w.heap.size 43 A → y.cell? ⟨w.heap.size, 11, none⟩ = some (.int .u64 (r.b : Int)) ∧ y.cell? ⟨w.heap.size, 12, none⟩ = some (.slice e1 r.ts.length cap1) ∧ y.cell? ⟨w.heap.size, 13, none⟩ = some (.slice e2 r.ds.length cap2)) := fun y h => by
    rw [HA.out] at h
    obtain ⟨-, -, -, -, -, -, a, b, c⟩ := rc_cells h
    exact ⟨a, b, c⟩
  repeat (first
    | go_big_quiet_skip
    | (refine wpQuiet_load rfl 31 (.tmp 74) rfl _ (.int .u64 (r.b : Int)) rfl (fun y hy => load_u64 y _ (HCB.out y hy.1.1).1) ?_; simp only [Act.put, Array.setIfInBounds, List.size_toArray, List.length_cons, List.length_nil, Nat.reduceAdd, Nat.reduceLT, ↓reduceDIte, List.set_toArray, List.set_cons_succ, List.set_cons_zero])
    | (refine wpQuiet_load rfl 40 (.tmp 78) rfl _ (.slice e1 r.ts.length cap1) rfl (fun y hy => load_txs y _ _ _ (HCB.out y hy.1.1).2.1) ?_; simp only [Act.put, Array.setIfInBounds, List.size_toArray, List.length_cons, List.length_nil, Nat.reduceAdd, Nat.reduceLT, ↓reduceDIte, List.set_toArray, List.set_cons_succ, List.set_cons_zero])
    | (refine wpQuiet_call rfl 73 #[.int .i64 8, .int .u64 (r.b : Int)] (.string P1) ?_ (fun x hC => (HP1.out x).mono fun e x' h => ⟨h.1, hC.later h.2⟩) ?_; (intro x; go_simp); simp only [Act.put, Array.setIfInBounds, List.size_toArray, List.length_cons, List.length_nil, Nat.reduceAdd, Nat.reduceLT, ↓reduceDIte, List.set_toArray, List.set_cons_succ, List.set_cons_zero])
    | (refine wpQuiet_call rfl 73 #[.int .i64 1, .int .u64 (r.ts.length : Int)] (.string P2) ?_ (fun x hC => (HP2.out x).mono fun e x' h => ⟨h.1, hC.later h.2⟩) ?_; (intro x; go_simp); simp only [Act.put, Array.setIfInBounds, List.size_toArray, List.length_cons, List.length_nil, Nat.reduceAdd, Nat.reduceLT, ↓reduceDIte, List.set_toArray, List.set_cons_succ, List.set_cons_zero])
    | (refine wpQuiet_plain rfl (fun K hK => ?_); go_simp; refine hK _ ?_; clear hK K))
  refine wpQuiet_nil ?_
  intro w2 h2
  rw [HE.out]
  have c12 := (HCB.out w2 h2.1.1).2.1
  have HK2 := hide h2
  clear h2 HE HP1 HP2 q1 q2 z1 z2 z3 z4 u1 u2
  go_wp2
  clear c12
  go_loopw [87, 3] (fun v v3 wr => ∃ j : Nat, j ≤ r.ts.length ∧ v = .int .i64 j ∧ v3 = .string (mkS (hd ++ txsB (r.ts.take j))) ∧ Keeps w wr [(w.heap.size, 43, A)]) (fun v _ _ => r.ts.length - (intOf v).toNat)
  case atStart => exact ⟨0, Nat.zero_le _, rfl, by rw [List.take_zero]; show _ = Value.string (mkS (hd ++ [])); rw [List.append_nil], HK2.out⟩
  case round =>
    obtain ⟨j, hj, rfl, rfl, hk'⟩ := hrel
    clear HK2
    have HK := hide hk'
    clear hk'
    have c12 := (HCB.out wr HK.out.1.1).2.1
    by_cases hlt : j < r.ts.length
    · have jlt : (j : Int) < (r.ts.length : Int) := by omega
      obtain ⟨a', cap', e', hrw⟩ := (HIN.out.1.below HK.out.2)
      cases e'
      obtain ⟨b, off, rfl, hb, hcell⟩ := hrw (by omega)
      have HRG := hide (hcell j hlt)
      clear hrw hcell hb
      obtain ⟨x, hx⟩ : ∃ x, x = r.ts.getD j Tx.zero := ⟨_, rfl⟩
      have HX := hide hx
      rw [← hx] at HRG
      have hok := (HROW.out.2.2.1 j hlt).1
      rw [← hx] at hok
      obtain ⟨k1, k2, k3, k4, k5, k6, k7, k8⟩ := hok
      obtain ⟨xt, hxt⟩ := Int.eq_ofNat_of_zero_le (show 0 ≤ x.t by omega)
      obtain ⟨xs, hxs⟩ := Int.eq_ofNat_of_zero_le (show 0 ≤ x.s by omega)
      have HM1 := hide (fun w => num6_any 4 xt w (by omega) (by omega))
      have HM2 := hide (fun w => num6_any 1 xs w (by omega) (by omega))
      have HM3 := hide (fun w => num6_any 8 x.f w (by omega) (by omega))
      have HM4 := hide (fun w => num6_any 8 x.l w (by omega) (by omega))
      have HM5 := hide (fun w => num6_any 8 x.n w (by omega) (by omega))
      have y1 := mkS_size (beB 4 xt)
      have y2 := mkS_size (beB 1 xs)
      have y3 := mkS_size (beB 8 x.f)
      have y4 := mkS_size (beB 8 x.l)
      have y5 := mkS_size (beB 8 x.n)
      rw [beB_length] at y1 y2 y3 y4 y5
      have w1' : IntKind.u64.wrap (xt : Int) = (xt : Int) := by rw [IntKind.wrap_u64]; omega
      have w2' : IntKind.u64.wrap (xs : Int) = (xs : Int) := by rw [IntKind.wrap_u64]; omega
      have hsz : (mkS (hd ++ txsB (r.ts.take j))).size ≤ 500 := by
        rw [mkS_size, List.length_append, hhl]
        unfold txsB
        rw [flat_len txB 29 txB_len, List.length_take]
        omega
      have hnx : mkS (hd ++ txsB (r.ts.take j)) ++ mkS (beB 4 xt) ++ mkS (beB 1 xs) ++ mkS (beB 8 x.f) ++ mkS (beB 8 x.l) ++ mkS (beB 8 x.n) = mkS (hd ++ txsB (r.ts.take (j + 1))) := by
        have e1 : txsB (r.ts.take (j + 1)) = txsB (r.ts.take j) ++ txB x := by
          unfold txsB
          rw [take_flat txB Tx.zero r.ts j hlt, ← HX.out]
        rw [e1]
        unfold txB
        rw [hxt, hxs]
        simp only [Int.toNat_natCast, mkS_append, List.append_assoc]
      have HNX := hide hnx
      have HTA : Hid (txA x = #[.int .i64 (xt : Int), .int .i64 (xs : Int), .int .u64 (x.f : Int), .int .u64 (x.l : Int), .int .u64 (x.n : Int)]) := by
        unfold txA
        rw [hxt, hxs]
        exact rfl
      clear hx hnx hxt hxs k1 k2 k3 k4 k5 k6 k7 k8
      go_wp2_with (first | (refine wpList_load_mid rfl 81 (.tmp 93) rfl b (off + j * 5) (txA x) rfl HRG.out _ Try.underlying81 rfl infoTx ?_) | (refine wpList_store_at rfl 81 (.tmp 6) (.tmp 94) rfl wr.heap.size (txA Tx.zero) (txA x) rfl rfl (RowAt.new wr 81 (txA Tx.zero)) infoTx rfl (txA_one _) ?_))
      intro w3 hr3 hk3 _
      have HK3 := hide (Keeps.laid HK.out hr3 hk3)
      clear hr3 hk3 HK c12 HRG
      generalize wr.heap.size = g at *
      rw [HTA.out] at HK3
      generalize mkS (hd ++ txsB (r.ts.take j)) = S at *
      generalize mkS (beB 4 xt) = M1 at *
      generalize mkS (beB 1 xs) = M2 at *
      generalize mkS (beB 8 x.f) = M3 at *
      generalize mkS (beB 8 x.l) = M4 at *
      generalize mkS (beB 8 x.n) = M5 at *
      have hs1 : S.size + M1.size ≤ 100000 := by omega
      have hs2 : (S ++ M1).size + M2.size ≤ 100000 := by simp only [ByteArray.size_append]; omega
      have hs3 : (S ++ M1 ++ M2).size + M3.size ≤ 100000 := by simp only [ByteArray.size_append]; omega
      have hs4 : (S ++ M1 ++ M2 ++ M3).size + M4.size ≤ 100000 := by simp only [ByteArray.size_append]; omega
      have hs5 : (S ++ M1 ++ M2 ++ M3 ++ M4).size + M5.size ≤ 100000 := by simp only [ByteArray.size_append]; omega
      have HS1 := hide hs1
      have HS2 := hide hs2
      have HS3 := hide hs3
      have HS4 := hide hs4
      have HS5 := hide hs5
      clear hs1 hs2 hs3 hs4 hs5
      go_wp2_with fail
      refine wp_region_in (fun y => Keeps w y [(g, 81, #[.int .i64 (xt : Int), .int .i64 (xs : Int), .int .u64 (x.f : Int), .int .u64 (x.l : Int), .int .u64 (x.n : Int)]), (w.heap.size, 43, A)]) (by kernel_rfl) (by kernel_rfl) HK3.out.drew ?_
      clear HK3
      repeat (first
        | go_big_quiet_skip
        | (refine wpQuiet_load rfl 3 (.tmp 96) rfl _ (.int .i64 (xt : Int)) rfl (fun y hy => load_i64 y _ (hy.1.1.cell 0 (.int .i64 (xt : Int)) rfl)) ?_; simp only [Act.put, Array.setIfInBounds, List.size_toArray, List.length_cons, List.length_nil, Nat.reduceAdd, Nat.reduceLT, ↓reduceDIte, List.set_toArray, List.set_cons_succ, List.set_cons_zero])
        | (refine wpQuiet_load rfl 3 (.tmp 101) rfl _ (.int .i64 (xs : Int)) rfl (fun y hy => load_i64 y _ (hy.1.1.cell 1 (.int .i64 (xs : Int)) rfl)) ?_; simp only [Act.put, Array.setIfInBounds, List.size_toArray, List.length_cons, List.length_nil, Nat.reduceAdd, Nat.reduceLT, ↓reduceDIte, List.set_toArray, List.set_cons_succ, List.set_cons_zero])
        | (refine wpQuiet_load rfl 31 (.tmp 106) rfl _ (.int .u64 (x.f : Int)) rfl (fun y hy => load_u64 y _ (hy.1.1.cell 2 (.int .u64 (x.f : Int)) rfl)) ?_; simp only [Act.put, Array.setIfInBounds, List.size_toArray, List.length_cons, List.length_nil, Nat.reduceAdd, Nat.reduceLT, ↓reduceDIte, List.set_toArray, List.set_cons_succ, List.set_cons_zero])
        | (refine wpQuiet_load rfl 31 (.tmp 110) rfl _ (.int .u64 (x.l : Int)) rfl (fun y hy => load_u64 y _ (hy.1.1.cell 3 (.int .u64 (x.l : Int)) rfl)) ?_; simp only [Act.put, Array.setIfInBounds, List.size_toArray, List.length_cons, List.length_nil, Nat.reduceAdd, Nat.reduceLT, ↓reduceDIte, List.set_toArray, List.set_cons_succ, List.set_cons_zero])
        | (refine wpQuiet_load rfl 31 (.tmp 114) rfl _ (.int .u64 (x.n : Int)) rfl (fun y hy => load_u64 y _ (hy.1.1.cell 4 (.int .u64 (x.n : Int)) rfl)) ?_; simp only [Act.put, Array.setIfInBounds, List.size_toArray, List.length_cons, List.length_nil, Nat.reduceAdd, Nat.reduceLT, ↓reduceDIte, List.set_toArray, List.set_cons_succ, List.set_cons_zero])
        | (refine wpQuiet_call rfl 73 #[.int .i64 4, .int .u64 (xt : Int)] (.string M1) ?_ (fun x hC => (HM1.out x).mono fun e x' h => ⟨h.1, hC.later h.2⟩) ?_; (intro z; go_simp); simp only [Act.put, Array.setIfInBounds, List.size_toArray, List.length_cons, List.length_nil, Nat.reduceAdd, Nat.reduceLT, ↓reduceDIte, List.set_toArray, List.set_cons_succ, List.set_cons_zero])
        | (refine wpQuiet_call rfl 73 #[.int .i64 1, .int .u64 (xs : Int)] (.string M2) ?_ (fun x hC => (HM2.out x).mono fun e x' h => ⟨h.1, hC.later h.2⟩) ?_; (intro z; go_simp); simp only [Act.put, Array.setIfInBounds, List.size_toArray, List.length_cons, List.length_nil, Nat.reduceAdd, Nat.reduceLT, ↓reduceDIte, List.set_toArray, List.set_cons_succ, List.set_cons_zero])
        | (refine wpQuiet_call rfl 73 #[.int .i64 8, .int .u64 (x.f : Int)] (.string M3) ?_ (fun z hC => (HM3.out z).mono fun e x' h => ⟨h.1, hC.later h.2⟩) ?_; (intro z; go_simp); simp only [Act.put, Array.setIfInBounds, List.size_toArray, List.length_cons, List.length_nil, Nat.reduceAdd, Nat.reduceLT, ↓reduceDIte, List.set_toArray, List.set_cons_succ, List.set_cons_zero])
        | (refine wpQuiet_call rfl 73 #[.int .i64 8, .int .u64 (x.l : Int)] (.string M4) ?_ (fun z hC => (HM4.out z).mono fun e x' h => ⟨h.1, hC.later h.2⟩) ?_; (intro z; go_simp); simp only [Act.put, Array.setIfInBounds, List.size_toArray, List.length_cons, List.length_nil, Nat.reduceAdd, Nat.reduceLT, ↓reduceDIte, List.set_toArray, List.set_cons_succ, List.set_cons_zero])
        | (refine wpQuiet_call rfl 73 #[.int .i64 8, .int .u64 (x.n : Int)] (.string M5) ?_ (fun z hC => (HM5.out z).mono fun e x' h => ⟨h.1, hC.later h.2⟩) ?_; (intro z; go_simp); simp only [Act.put, Array.setIfInBounds, List.size_toArray, List.length_cons, List.length_nil, Nat.reduceAdd, Nat.reduceLT, ↓reduceDIte, List.set_toArray, List.set_cons_succ, List.set_cons_zero])
        | (refine wpQuiet_binop rfl .add 9 9 (.tmp 95) (.tmp 99) rfl _ _ (.string (S ++ M1)) rfl rfl (fun y => add_guard _ _ _ _ y) (fun y => run_add_s _ _ HS1.out y) ?_; simp only [Act.put, Array.setIfInBounds, List.size_toArray, List.length_cons, List.length_nil, Nat.reduceAdd, Nat.reduceLT, ↓reduceDIte, List.set_toArray, List.set_cons_succ, List.set_cons_zero])
        | (refine wpQuiet_binop rfl .add 9 9 (.tmp 100) (.tmp 104) rfl _ _ (.string (S ++ M1 ++ M2)) rfl rfl (fun y => add_guard _ _ _ _ y) (fun y => run_add_s _ _ HS2.out y) ?_; simp only [Act.put, Array.setIfInBounds, List.size_toArray, List.length_cons, List.length_nil, Nat.reduceAdd, Nat.reduceLT, ↓reduceDIte, List.set_toArray, List.set_cons_succ, List.set_cons_zero])
        | (refine wpQuiet_binop rfl .add 9 9 (.tmp 105) (.tmp 108) rfl _ _ (.string (S ++ M1 ++ M2 ++ M3)) rfl rfl (fun y => add_guard _ _ _ _ y) (fun y => run_add_s _ _ HS3.out y) ?_; simp only [Act.put, Array.setIfInBounds, List.size_toArray, List.length_cons, List.length_nil, Nat.reduceAdd, Nat.reduceLT, ↓reduceDIte, List.set_toArray, List.set_cons_succ, List.set_cons_zero])
        | (refine wpQuiet_binop rfl .add 9 9 (.tmp 109) (.tmp 112) rfl _ _ (.string (S ++ M1 ++ M2 ++ M3 ++ M4)) rfl rfl (fun y => add_guard _ _ _ _ y) (fun y => run_add_s _ _ HS4.out y) ?_; simp only [Act.put, Array.setIfInBounds, List.size_toArray, List.length_cons, List.length_nil, Nat.reduceAdd, Nat.reduceLT, ↓reduceDIte, List.set_toArray, List.set_cons_succ, List.set_cons_zero])
        | (refine wpQuiet_binop rfl .add 9 9 (.tmp 113) (.tmp 116) rfl _ _ (.string (S ++ M1 ++ M2 ++ M3 ++ M4 ++ M5)) rfl rfl (fun y => add_guard _ _ _ _ y) (fun y => run_add_s _ _ HS5.out y) ?_; simp only [Act.put, Array.setIfInBounds, List.size_toArray, List.length_cons, List.length_nil, Nat.reduceAdd, Nat.reduceLT, ↓reduceDIte, List.set_toArray, List.set_cons_succ, List.set_cons_zero])
        | (refine wpQuiet_plain rfl (fun K hK => ?_); go_simp; refine hK _ ?_; clear hK K))
      refine wpQuiet_nil ?_
      intro w4 h4
      rw [HNX.out]
      have HK4 := hide h4
      clear h4
      go_wp2
      go_roundw
      case rel => exact ⟨j + 1, by omega, by go_num, rfl, ⟨HK4.out.1.2, HK4.out.2⟩⟩
      case measure => simp [intOf]; omega
    · have jge : ¬ (j : Int) < (r.ts.length : Int) := by omega
      obtain rfl : j = r.ts.length := by omega
      rw [List.take_length]
      have HK1 := hide HK.out
      have c13 := (HCB.out wr HK.out.1.1).2.2
      have hsz : (mkS (hd ++ txsB r.ts)).size ≤ 500 := by
        rw [mkS_size, List.length_append, hhl]
        unfold txsB
        rw [flat_len txB 29 txB_len]
        omega
      obtain ⟨h2, hh2⟩ : ∃ h2, h2 = hd ++ (txsB r.ts ++ beB 1 r.ds.length) := ⟨_, rfl⟩
      have hl2 : h2.length ≤ 600 := by
        rw [mkS_size] at hsz
        rw [hh2, List.length_append, List.length_append, beB_length]
        rw [List.length_append] at hsz
        omega
      have HF2 : Hid (recB r = h2 ++ disB r.ds) := by
        have h := HFN.out
        rw [hh2]
        simp only [List.append_assoc] at h ⊢
        exact h
      have hadd : mkS (hd ++ txsB r.ts) ++ mkS (beB 1 r.ds.length) = mkS h2 := by
        rw [mkS_append, hh2, List.append_assoc]
      have HAD := hide (HPE.out ▸ hadd)
      clear hadd hh2 HK jge hj
      generalize mkS (hd ++ txsB r.ts) = S at *
      have hz : (S.size : Int) + 1 ≤ 9223372036854775807 := by omega
      go_wp2_with fail
      refine (HP3.out _).mono ?_
      rintro e w3 ⟨rfl, hb3⟩
      have HK3 := hide (HK1.out.later hb3)
      have c13' := (HCB.out w3 HK3.out.1.1).2.2
      clear hb3 HK1 HP3 c13 c12
      go_wp2
      rw [HAD.out]
      clear c13'
      go_loopw [129, 3] (fun v v3 wq => ∃ j : Nat, j ≤ r.ds.length ∧ v = .int .i64 j ∧ v3 = .string (mkS (h2 ++ disB (r.ds.take j))) ∧ Keeps w wq [(w.heap.size, 43, A)]) (fun v _ _ => r.ds.length - (intOf v).toNat)
      case atStart => exact ⟨0, Nat.zero_le _, rfl, by rw [List.take_zero]; show _ = Value.string (mkS (h2 ++ [])); rw [List.append_nil], HK3.out⟩
      case round =>
        obtain ⟨j, hj, rfl, rfl, hk'⟩ := hrel
        clear HK3
        have HK := hide hk'
        clear hk'
        by_cases hlt : j < r.ds.length
        · have jlt : (j : Int) < (r.ds.length : Int) := by omega
          obtain ⟨a', cap', e', hrw⟩ := HIN.out.2
          cases e'
          obtain ⟨b, off, rfl, hb, hcell⟩ := hrw (by omega)
          have HRG := hide (hcell j hlt)
          have HBW := hide hb
          clear hrw hcell hb
          obtain ⟨x, hx⟩ : ∃ x, x = r.ds.getD j Di.zero := ⟨_, rfl⟩
          have HX := hide hx
          rw [← hx] at HRG
          have hok := (HROW.out.2.2.2.1 j hlt).1
          rw [← hx] at hok
          obtain ⟨k1, k2, k3, k4⟩ := hok
          obtain ⟨xp, hxp⟩ := Int.eq_ofNat_of_zero_le k1
          have HM1 := hide (fun w => num6_any 2 xp w (by omega) (by omega))
          have HM2 := hide (fun w => num6_any 8 x.r w (by omega) (by omega))
          have y1 := mkS_size (beB 2 xp)
          have y2 := mkS_size (beB 8 x.r)
          rw [beB_length] at y1 y2
          have w1' : IntKind.u64.wrap (xp : Int) = (xp : Int) := by rw [IntKind.wrap_u64]; omega
          have hsz2 : (mkS (h2 ++ disB (r.ds.take j))).size ≤ 1000 := by
            rw [mkS_size, List.length_append]
            unfold disB
            rw [flat_len diB 10 diB_len, List.length_take]
            omega
          have hnx : mkS (h2 ++ disB (r.ds.take j)) ++ mkS (beB 2 xp) ++ mkS (beB 8 x.r) = mkS (h2 ++ disB (r.ds.take (j + 1))) := by
            have e1 : disB (r.ds.take (j + 1)) = disB (r.ds.take j) ++ diB x := by
              unfold disB
              rw [take_flat diB Di.zero r.ds j hlt, ← HX.out]
            rw [e1]
            unfold diB
            rw [hxp]
            simp only [Int.toNat_natCast, mkS_append, List.append_assoc]
          have HNX := hide hnx
          have HTA : Hid (diA x = #[.int .i64 (xp : Int), .int .u64 (x.r : Int)]) := by
            unfold diA
            rw [hxp]
            exact rfl
          rw [HTA.out] at HRG
          clear hx hnx hxp k1 k2 k3 k4
          generalize mkS (h2 ++ disB (r.ds.take j)) = T at *
          generalize mkS (beB 2 xp) = M1 at *
          generalize mkS (beB 8 x.r) = M2 at *
          have hs1 : T.size + M1.size ≤ 100000 := by omega
          have hs2 : (T ++ M1).size + M2.size ≤ 100000 := by simp only [ByteArray.size_append]; omega
          have HS1 := hide hs1
          have HS2 := hide hs2
          clear hs1 hs2
          go_wp2_with fail
          refine wp_region_in (fun y => Keeps w y [(w.heap.size, 43, A)]) (by kernel_rfl) (by kernel_rfl) HK.out.drew ?_
          clear HK
          repeat (first
            | go_big_quiet_skip
            | (refine wpQuiet_load rfl 41 (.tmp 133) rfl _ (.slice (some ⟨b, off, none⟩) r.ds.length cap2) rfl (fun y hy => load_dis y _ _ _ (HCB.out y hy.1.1).2.2) ?_; simp only [Act.put, Array.setIfInBounds, List.size_toArray, List.length_cons, List.length_nil, Nat.reduceAdd, Nat.reduceLT, ↓reduceDIte, List.set_toArray, List.set_cons_succ, List.set_cons_zero])
            | (refine wpQuiet_load rfl 41 (.tmp 142) rfl _ (.slice (some ⟨b, off, none⟩) r.ds.length cap2) rfl (fun y hy => load_dis y _ _ _ (HCB.out y hy.1.1).2.2) ?_; simp only [Act.put, Array.setIfInBounds, List.size_toArray, List.length_cons, List.length_nil, Nat.reduceAdd, Nat.reduceLT, ↓reduceDIte, List.set_toArray, List.set_cons_succ, List.set_cons_zero])
            | (refine wpQuiet_load rfl 3 (.tmp 137) rfl _ (.int .i64 (xp : Int)) rfl (fun y hy => load_i64 y _ (rangeAt_below HRG.out hy.2 HBW.out 0 (.int .i64 (xp : Int)) rfl)) ?_; simp only [Act.put, Array.setIfInBounds, List.size_toArray, List.length_cons, List.length_nil, Nat.reduceAdd, Nat.reduceLT, ↓reduceDIte, List.set_toArray, List.set_cons_succ, List.set_cons_zero])
            | (refine wpQuiet_load rfl 31 (.tmp 146) rfl _ (.int .u64 (x.r : Int)) rfl (fun y hy => load_u64 y _ (rangeAt_below HRG.out hy.2 HBW.out 1 (.int .u64 (x.r : Int)) rfl)) ?_; simp only [Act.put, Array.setIfInBounds, List.size_toArray, List.length_cons, List.length_nil, Nat.reduceAdd, Nat.reduceLT, ↓reduceDIte, List.set_toArray, List.set_cons_succ, List.set_cons_zero])
            | (refine wpQuiet_call rfl 73 #[.int .i64 2, .int .u64 (xp : Int)] (.string M1) ?_ (fun z hC => (HM1.out z).mono fun e x' h => ⟨h.1, hC.later h.2⟩) ?_; (intro z; go_simp); simp only [Act.put, Array.setIfInBounds, List.size_toArray, List.length_cons, List.length_nil, Nat.reduceAdd, Nat.reduceLT, ↓reduceDIte, List.set_toArray, List.set_cons_succ, List.set_cons_zero])
            | (refine wpQuiet_call rfl 73 #[.int .i64 8, .int .u64 (x.r : Int)] (.string M2) ?_ (fun z hC => (HM2.out z).mono fun e x' h => ⟨h.1, hC.later h.2⟩) ?_; (intro z; go_simp); simp only [Act.put, Array.setIfInBounds, List.size_toArray, List.length_cons, List.length_nil, Nat.reduceAdd, Nat.reduceLT, ↓reduceDIte, List.set_toArray, List.set_cons_succ, List.set_cons_zero])
            | (refine wpQuiet_binop rfl .add 9 9 (.tmp 132) (.tmp 140) rfl _ _ (.string (T ++ M1)) rfl rfl (fun y => add_guard _ _ _ _ y) (fun y => run_add_s _ _ HS1.out y) ?_; simp only [Act.put, Array.setIfInBounds, List.size_toArray, List.length_cons, List.length_nil, Nat.reduceAdd, Nat.reduceLT, ↓reduceDIte, List.set_toArray, List.set_cons_succ, List.set_cons_zero])
            | (refine wpQuiet_binop rfl .add 9 9 (.tmp 141) (.tmp 148) rfl _ _ (.string (T ++ M1 ++ M2)) rfl rfl (fun y => add_guard _ _ _ _ y) (fun y => run_add_s _ _ HS2.out y) ?_; simp only [Act.put, Array.setIfInBounds, List.size_toArray, List.length_cons, List.length_nil, Nat.reduceAdd, Nat.reduceLT, ↓reduceDIte, List.set_toArray, List.set_cons_succ, List.set_cons_zero])
            | (refine wpQuiet_plain rfl (fun K hK => ?_); go_simp; refine hK _ ?_; clear hK K))
          refine wpQuiet_nil ?_
          intro w4 h4
          rw [HNX.out]
          have HK4 := hide h4
          clear h4
          go_wp2
          go_roundw
          case rel => exact ⟨j + 1, by omega, by go_num, rfl, HK4.out⟩
          case measure => simp [intOf]; omega
        · have jge : ¬ (j : Int) < (r.ds.length : Int) := by omega
          obtain rfl : j = r.ds.length := by omega
          rw [List.take_length, ← HF2.out]
          have d4 := HK.out.2
          clear HK
          go_wp2
          go_ret
          exact ⟨rfl, d4⟩
end Go.Proofs.Ytfbelaalmdcaaaa
