/-
  The contract of quaysideref06.Bytes, of records that are no checkpoint's.
-/
import Derived.Test.YtmapgfakfeddmaaRecRefText
import Derived.Test.YtmapgfakfeddmaaRecRefOwn
namespace Go.Proofs.Ytmapgfakfeddmaa
open Go.RowKit
set_option linter.unusedVariables false

theorem load_u64 {b j : Nat} (x : World) (v : Int) (h : x.cell? ⟨b, j, none⟩ = some (.int .u64 v)) : (Instr.loadAt 22 (.pointer (some ⟨b, j, none⟩))).run Try.prog x = .ok (.int .u64 v) x := by go_simp
theorem load_text {b j : Nat} (x : World) (s : ByteArray) (h : x.cell? ⟨b, j, none⟩ = some (.string s)) : (Instr.loadAt 9 (.pointer (some ⟨b, j, none⟩))).run Try.prog x = .ok (.string s) x := by go_simp

set_option maxRecDepth 8000 in
set_option maxHeartbeats 3200000 in
theorem bytes_end (r : Rec) (va vb : Value) (w : World) (hr : r.right) (hkc : r.k = 3 ∨ r.k = 4 ∨ r.k = 5 ∨ r.k = 7) (hin : RcIn w r va vb) :
    Calls Try.prog 23 #[.agg (rcA r va vb)] w fun e w' => e = .returned (.string (mkS (recB r))) ∧ Below w.heap.size w w' := by
  obtain ⟨kk, hk⟩ := Int.eq_ofNat_of_zero_le (show 0 ≤ r.k by have := hr.k1; omega)
  obtain ⟨tt, ht⟩ := Int.eq_ofNat_of_zero_le (show 0 ≤ r.t by by_cases h : r.k ≤ 6; (have := hr.own h; omega); (have := hr.none (by omega); omega))
  have hll := hr.lm
  unfold maxP at hll
  have hpp : r.p < 18446744073709551616 := by by_cases h : r.k ≤ 6; (have := hr.own h; omega); (have := hr.none (by omega); omega)
  have htt : tt < 18446744073709551616 := by by_cases h : r.k ≤ 6; (have := hr.own h; omega); (have := hr.none (by omega); omega)
  have hkk : kk ≤ 8 := by have := hr.k8; omega
  have HN1 := hide (fun w => num6_any 1 kk w (by omega) (by omega))
  have HN2 := hide (fun w => num6_any 8 r.l w (by omega) (by omega))
  have HN3 := hide (fun w => num6_any 4 tt w (by omega) htt)
  have HN4 := hide (fun w => num6_any 8 r.p w (by omega) hpp)
  have z1 := mkS_size (beB 1 kk)
  have z2 := mkS_size (beB 8 r.l)
  have z3 := mkS_size (beB 4 tt)
  have z4 := mkS_size (beB 8 r.p)
  rw [beB_length] at z1 z2 z3 z4
  have u1 : IntKind.u64.wrap (kk : Int) = (kk : Int) := by rw [IntKind.wrap_u64]; omega
  have u2 : IntKind.u64.wrap (tt : Int) = (tt : Int) := by rw [IntKind.wrap_u64]; omega
  have he : mkS (recB r) = mkS (beB 1 kk) ++ mkS (beB 8 r.l) ++ mkS (beB 4 tt) ++ mkS (beB 8 r.p) := by
    unfold recB mayB
    rw [if_neg (by omega), if_neg (by omega), if_neg (by omega), if_neg (by omega), hk, ht, Int.toNat_natCast, Int.toNat_natCast, mkS_append, mkS_append, mkS_append]
    simp only [List.append_nil, List.append_assoc]
  have HE := hide he
  clear he
  have m1 : ¬ (kk : Int) ≤ 2 := by omega
  have m2 : ((kk : Int) == 2) = false := by rw [beq_eq_false_iff_ne]; omega
  have m3 : ((kk : Int) == 6) = false := by rw [beq_eq_false_iff_ne]; omega
  have m4 : ((kk : Int) == 8) = false := by rw [beq_eq_false_iff_ne]; omega
  clear hr hkc hin hkk
  have HK0 := hide (Keeps.one w 28 (rcA r va vb))
  obtain ⟨A, hA⟩ : ∃ A, A = rcA r va vb := ⟨_, rfl⟩
  rw [← hA] at HK0 ⊢
  have HA := hide hA
  clear hA
  have HC : Hid (∀ y : World, RowAt y w.heap.size 28 A → y.cell? ⟨w.heap.size, 0, none⟩ = some (.int .i64 (kk : Int)) ∧ y.cell? ⟨w.heap.size, 1, none⟩ = some (.int .u64 (r.l : Int)) ∧ y.cell? ⟨w.heap.size, 2, none⟩ = some (.int .i64 (tt : Int)) ∧ y.cell? ⟨w.heap.size, 3, none⟩ = some (.int .u64 (r.p : Int))) := fun y h => by
    rw [HA.out] at h
    obtain ⟨a0, a1, a2, a3, -⟩ := rc_cells h
    rw [hk] at a0
    rw [ht] at a2
    exact ⟨a0, a1, a2, a3⟩
  generalize mkS (beB 1 kk) = N1 at *
  generalize mkS (beB 8 r.l) = N2 at *
  generalize mkS (beB 4 tt) = N3 at *
  generalize mkS (beB 8 r.p) = N4 at *
  go_enter Try.func23, Try.ntmps23
  go_wp2_with fail
  refine wp_region_in (fun x => Keeps w x [(w.heap.size, 28, A)]) (by kernel_rfl) (by kernel_rfl) HK0.out.drew ?_
  clear HK0
  repeat (first
    | go_big_quiet_skip
    | (refine wpQuiet_load rfl 3 (.tmp 8) rfl _ (.int .i64 (kk : Int)) rfl (fun y hy => load_i64 y _ (HC.out y hy.1.1).1) ?_; simp only [Act.put, Array.setIfInBounds, List.size_toArray, List.length_cons, List.length_nil, Nat.reduceAdd, Nat.reduceLT, ↓reduceDIte, List.set_toArray, List.set_cons_succ, List.set_cons_zero])
    | (refine wpQuiet_load rfl 22 (.tmp 12) rfl _ (.int .u64 (r.l : Int)) rfl (fun y hy => load_u64 y _ (HC.out y hy.1.1).2.1) ?_; simp only [Act.put, Array.setIfInBounds, List.size_toArray, List.length_cons, List.length_nil, Nat.reduceAdd, Nat.reduceLT, ↓reduceDIte, List.set_toArray, List.set_cons_succ, List.set_cons_zero])
    | (refine wpQuiet_load rfl 3 (.tmp 16) rfl _ (.int .i64 (tt : Int)) rfl (fun y hy => load_i64 y _ (HC.out y hy.1.1).2.2.1) ?_; simp only [Act.put, Array.setIfInBounds, List.size_toArray, List.length_cons, List.length_nil, Nat.reduceAdd, Nat.reduceLT, ↓reduceDIte, List.set_toArray, List.set_cons_succ, List.set_cons_zero])
    | (refine wpQuiet_load rfl 22 (.tmp 21) rfl _ (.int .u64 (r.p : Int)) rfl (fun y hy => load_u64 y _ (HC.out y hy.1.1).2.2.2) ?_; simp only [Act.put, Array.setIfInBounds, List.size_toArray, List.length_cons, List.length_nil, Nat.reduceAdd, Nat.reduceLT, ↓reduceDIte, List.set_toArray, List.set_cons_succ, List.set_cons_zero])
    | (refine wpQuiet_call rfl 37 #[.int .i64 1, .int .u64 (kk : Int)] (.string N1) ?_ (fun x hC => (HN1.out x).mono fun e x' h => ⟨h.1, hC.later h.2⟩) ?_; (intro x; go_simp); simp only [Act.put, Array.setIfInBounds, List.size_toArray, List.length_cons, List.length_nil, Nat.reduceAdd, Nat.reduceLT, ↓reduceDIte, List.set_toArray, List.set_cons_succ, List.set_cons_zero])
    | (refine wpQuiet_call rfl 37 #[.int .i64 8, .int .u64 (r.l : Int)] (.string N2) ?_ (fun x hC => (HN2.out x).mono fun e x' h => ⟨h.1, hC.later h.2⟩) ?_; (intro x; go_simp); simp only [Act.put, Array.setIfInBounds, List.size_toArray, List.length_cons, List.length_nil, Nat.reduceAdd, Nat.reduceLT, ↓reduceDIte, List.set_toArray, List.set_cons_succ, List.set_cons_zero])
    | (refine wpQuiet_call rfl 37 #[.int .i64 4, .int .u64 (tt : Int)] (.string N3) ?_ (fun x hC => (HN3.out x).mono fun e x' h => ⟨h.1, hC.later h.2⟩) ?_; (intro x; go_simp); simp only [Act.put, Array.setIfInBounds, List.size_toArray, List.length_cons, List.length_nil, Nat.reduceAdd, Nat.reduceLT, ↓reduceDIte, List.set_toArray, List.set_cons_succ, List.set_cons_zero])
    | (refine wpQuiet_call rfl 37 #[.int .i64 8, .int .u64 (r.p : Int)] (.string N4) ?_ (fun x hC => (HN4.out x).mono fun e x' h => ⟨h.1, hC.later h.2⟩) ?_; (intro x; go_simp); simp only [Act.put, Array.setIfInBounds, List.size_toArray, List.length_cons, List.length_nil, Nat.reduceAdd, Nat.reduceLT, ↓reduceDIte, List.set_toArray, List.set_cons_succ, List.set_cons_zero])
    | (refine wpQuiet_plain rfl (fun K hK => ?_); go_simp; refine hK _ ?_; clear hK K))
  refine wpQuiet_nil ?_
  intro w1 h1
  have c0 : w1.cell? ⟨w.heap.size, 0, none⟩ = some (.int .i64 (kk : Int)) := (HC.out w1 h1.1.1).1
  have HK1 := hide h1
  clear h1 HN1 HN2 HN3 HN4
  have d1 := HK1.out.2
  clear HK1
  go_wp2
  go_ret
  exact ⟨by rw [HE.out]; rfl, d1⟩

set_option maxRecDepth 8000 in
set_option maxHeartbeats 3200000 in
theorem bytes_save (r : Rec) (va vb : Value) (w : World) (hr : r.right) (hkc : r.k = 6) (hin : RcIn w r va vb) :
    Calls Try.prog 23 #[.agg (rcA r va vb)] w fun e w' => e = .returned (.string (mkS (recB r))) ∧ Below w.heap.size w w' := by
  obtain ⟨kk, hk⟩ := Int.eq_ofNat_of_zero_le (show 0 ≤ r.k by have := hr.k1; omega)
  obtain ⟨tt, ht⟩ := Int.eq_ofNat_of_zero_le (show 0 ≤ r.t by by_cases h : r.k ≤ 6; (have := hr.own h; omega); (have := hr.none (by omega); omega))
  have hll := hr.lm
  unfold maxP at hll
  have hpp : r.p < 18446744073709551616 := by by_cases h : r.k ≤ 6; (have := hr.own h; omega); (have := hr.none (by omega); omega)
  have htt : tt < 18446744073709551616 := by by_cases h : r.k ≤ 6; (have := hr.own h; omega); (have := hr.none (by omega); omega)
  have hkk : kk ≤ 8 := by have := hr.k8; omega
  have HN1 := hide (fun w => num6_any 1 kk w (by omega) (by omega))
  have HN2 := hide (fun w => num6_any 8 r.l w (by omega) (by omega))
  have HN3 := hide (fun w => num6_any 4 tt w (by omega) htt)
  have HN4 := hide (fun w => num6_any 8 r.p w (by omega) hpp)
  have z1 := mkS_size (beB 1 kk)
  have z2 := mkS_size (beB 8 r.l)
  have z3 := mkS_size (beB 4 tt)
  have z4 := mkS_size (beB 8 r.p)
  rw [beB_length] at z1 z2 z3 z4
  have u1 : IntKind.u64.wrap (kk : Int) = (kk : Int) := by rw [IntKind.wrap_u64]; omega
  have u2 : IntKind.u64.wrap (tt : Int) = (tt : Int) := by rw [IntKind.wrap_u64]; omega
  obtain ⟨ss, hs⟩ := Int.eq_ofNat_of_zero_le (show 0 ≤ r.s by have := hr.save hkc; omega)
  have hss : ss < 18446744073709551616 := by have := hr.save hkc; omega
  have HN5 := hide (fun w => num6_any 1 ss w (by omega) hss)
  have z5 := mkS_size (beB 1 ss)
  rw [beB_length] at z5
  have u3 : IntKind.u64.wrap (ss : Int) = (ss : Int) := by rw [IntKind.wrap_u64]; omega
  have he : mkS (recB r) = mkS (beB 1 kk) ++ mkS (beB 8 r.l) ++ mkS (beB 4 tt) ++ mkS (beB 8 r.p) ++ mkS (beB 1 ss) := by
    unfold recB mayB
    rw [if_neg (by omega), if_neg (by omega), if_pos hkc, if_neg (by omega), hk, ht, hs, Int.toNat_natCast, Int.toNat_natCast, Int.toNat_natCast, mkS_append, mkS_append, mkS_append, mkS_append]
    simp only [List.append_nil, List.append_assoc, List.nil_append]
  have HE := hide he
  clear he
  have H6 : Hid ((kk : Int) = 6) := show (kk : Int) = 6 by omega
  have HS := hide hs
  clear hr hkc hin hkk hs
  have HK0 := hide (Keeps.one w 28 (rcA r va vb))
  obtain ⟨A, hA⟩ : ∃ A, A = rcA r va vb := ⟨_, rfl⟩
  rw [← hA] at HK0 ⊢
  have HA := hide hA
  clear hA
  have HC : Hid (∀ y : World, RowAt y w.heap.size 28 A → y.cell? ⟨w.heap.size, 0, none⟩ = some (.int .i64 (kk : Int)) ∧ y.cell? ⟨w.heap.size, 1, none⟩ = some (.int .u64 (r.l : Int)) ∧ y.cell? ⟨w.heap.size, 2, none⟩ = some (.int .i64 (tt : Int)) ∧ y.cell? ⟨w.heap.size, 3, none⟩ = some (.int .u64 (r.p : Int))) := fun y h => by
    rw [HA.out] at h
    obtain ⟨a0, a1, a2, a3, -⟩ := rc_cells h
    rw [hk] at a0
    rw [ht] at a2
    exact ⟨a0, a1, a2, a3⟩
  generalize mkS (beB 1 kk) = N1 at *
  generalize mkS (beB 8 r.l) = N2 at *
  generalize mkS (beB 4 tt) = N3 at *
  generalize mkS (beB 8 r.p) = N4 at *
  go_enter Try.func23, Try.ntmps23
  go_wp2_with fail
  refine wp_region_in (fun x => Keeps w x [(w.heap.size, 28, A)]) (by kernel_rfl) (by kernel_rfl) HK0.out.drew ?_
  clear HK0
  repeat (first
    | go_big_quiet_skip
    | (refine wpQuiet_load rfl 3 (.tmp 8) rfl _ (.int .i64 (kk : Int)) rfl (fun y hy => load_i64 y _ (HC.out y hy.1.1).1) ?_; simp only [Act.put, Array.setIfInBounds, List.size_toArray, List.length_cons, List.length_nil, Nat.reduceAdd, Nat.reduceLT, ↓reduceDIte, List.set_toArray, List.set_cons_succ, List.set_cons_zero])
    | (refine wpQuiet_load rfl 22 (.tmp 12) rfl _ (.int .u64 (r.l : Int)) rfl (fun y hy => load_u64 y _ (HC.out y hy.1.1).2.1) ?_; simp only [Act.put, Array.setIfInBounds, List.size_toArray, List.length_cons, List.length_nil, Nat.reduceAdd, Nat.reduceLT, ↓reduceDIte, List.set_toArray, List.set_cons_succ, List.set_cons_zero])
    | (refine wpQuiet_load rfl 3 (.tmp 16) rfl _ (.int .i64 (tt : Int)) rfl (fun y hy => load_i64 y _ (HC.out y hy.1.1).2.2.1) ?_; simp only [Act.put, Array.setIfInBounds, List.size_toArray, List.length_cons, List.length_nil, Nat.reduceAdd, Nat.reduceLT, ↓reduceDIte, List.set_toArray, List.set_cons_succ, List.set_cons_zero])
    | (refine wpQuiet_load rfl 22 (.tmp 21) rfl _ (.int .u64 (r.p : Int)) rfl (fun y hy => load_u64 y _ (HC.out y hy.1.1).2.2.2) ?_; simp only [Act.put, Array.setIfInBounds, List.size_toArray, List.length_cons, List.length_nil, Nat.reduceAdd, Nat.reduceLT, ↓reduceDIte, List.set_toArray, List.set_cons_succ, List.set_cons_zero])
    | (refine wpQuiet_call rfl 37 #[.int .i64 1, .int .u64 (kk : Int)] (.string N1) ?_ (fun x hC => (HN1.out x).mono fun e x' h => ⟨h.1, hC.later h.2⟩) ?_; (intro x; go_simp); simp only [Act.put, Array.setIfInBounds, List.size_toArray, List.length_cons, List.length_nil, Nat.reduceAdd, Nat.reduceLT, ↓reduceDIte, List.set_toArray, List.set_cons_succ, List.set_cons_zero])
    | (refine wpQuiet_call rfl 37 #[.int .i64 8, .int .u64 (r.l : Int)] (.string N2) ?_ (fun x hC => (HN2.out x).mono fun e x' h => ⟨h.1, hC.later h.2⟩) ?_; (intro x; go_simp); simp only [Act.put, Array.setIfInBounds, List.size_toArray, List.length_cons, List.length_nil, Nat.reduceAdd, Nat.reduceLT, ↓reduceDIte, List.set_toArray, List.set_cons_succ, List.set_cons_zero])
    | (refine wpQuiet_call rfl 37 #[.int .i64 4, .int .u64 (tt : Int)] (.string N3) ?_ (fun x hC => (HN3.out x).mono fun e x' h => ⟨h.1, hC.later h.2⟩) ?_; (intro x; go_simp); simp only [Act.put, Array.setIfInBounds, List.size_toArray, List.length_cons, List.length_nil, Nat.reduceAdd, Nat.reduceLT, ↓reduceDIte, List.set_toArray, List.set_cons_succ, List.set_cons_zero])
    | (refine wpQuiet_call rfl 37 #[.int .i64 8, .int .u64 (r.p : Int)] (.string N4) ?_ (fun x hC => (HN4.out x).mono fun e x' h => ⟨h.1, hC.later h.2⟩) ?_; (intro x; go_simp); simp only [Act.put, Array.setIfInBounds, List.size_toArray, List.length_cons, List.length_nil, Nat.reduceAdd, Nat.reduceLT, ↓reduceDIte, List.set_toArray, List.set_cons_succ, List.set_cons_zero])
    | (refine wpQuiet_plain rfl (fun K hK => ?_); go_simp; refine hK _ ?_; clear hK K))
  refine wpQuiet_nil ?_
  intro w1 h1
  have c0 : w1.cell? ⟨w.heap.size, 0, none⟩ = some (.int .i64 (kk : Int)) := (HC.out w1 h1.1.1).1
  have HK1 := hide h1
  have c10 : w1.cell? ⟨w.heap.size, 10, none⟩ = some (.int .i64 (ss : Int)) := by have h := h1.1.1; rw [HA.out] at h; have h2 := (rc_cells h).2.2.2.2.2.1; rw [HS.out] at h2; exact h2
  clear h1 HN1 HN2 HN3 HN4
  rw [H6.out] at c0
  generalize mkS (beB 1 ss) = N5 at *
  go_wp2_with fail
  refine (HN5.out _).mono ?_
  rintro e w2 ⟨rfl, hb2⟩
  have d2 := (HK1.out.later hb2).2
  clear HK1 HN5 hb2
  go_wp2
  go_ret
  exact ⟨by rw [HE.out]; rfl, d2⟩

end Go.Proofs.Ytmapgfakfeddmaa
