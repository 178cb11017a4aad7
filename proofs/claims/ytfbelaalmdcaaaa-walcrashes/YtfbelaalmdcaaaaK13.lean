/-
  Texts that lean on one another, one behind the other: each opens with its own remark.
-/
import Derived.Test.YtfbelaalmdcaaaaK05

/-
  The contract of quaysideref06.Bytes, of changes.
-/
namespace Go.Proofs.Ytfbelaalmdcaaaa
open Go.RowKit
set_option linter.unusedVariables false

set_option maxRecDepth 8000 in
set_option maxHeartbeats 3200000 in
theorem bytes_update (r : Rec) (va vb : Value) (w : World) (hr : r.right) (hkc : r.k = 1) (hin : RcIn w r va vb) :
    Calls Try.prog 57 #[.agg (rcA r va vb)] w fun e w' => e = .returned (.string (mkS (recB r))) ∧ Below w.heap.size w w' := by
  obtain ⟨kk, hk⟩ := Int.eq_ofNat_of_zero_le (show 0 ≤ r.k by have := hr.k1; omega)
  obtain ⟨tt, ht⟩ := Int.eq_ofNat_of_zero_le (show 0 ≤ r.t by by_cases h : r.k ≤ 6; (have := hr.own h; omega); (have := hr.none (by omega); omega))
  have hll := hr.lm
  unfold maxP at hll
  have hpp : r.p < 18446744073709551616 := by by_cases h : r.k ≤ 6; (have := hr.own h; omega); (have := hr.none (by omega); omega)
  have htt : tt < 18446744073709551616 := by by_cases h : r.k ≤ 6; (have := hr.own h; omega); (have := hr.none (by omega); omega)
  have hkk : kk ≤ 8 := by have := hr.k8; omega
  have HN1 := hide (fun w => num6_any 1 kk w (by omega) (by omega))
  have HN2 := hide (fun w => num6_any 8 r.l w (by omega) (by omega))
  have HN3 := hide (fun w => num6_any 4 tt w (by omega) htt)
  have HN4 := hide (fun w => num6_any 8 r.p w (by omega) hpp)
  have z1 := mkS_size (beB 1 kk)
  have z2 := mkS_size (beB 8 r.l)
  have z3 := mkS_size (beB 4 tt)
  have z4 := mkS_size (beB 8 r.p)
  rw [beB_length] at z1 z2 z3 z4
  have u1 : IntKind.u64.wrap (kk : Int) = (kk : Int) := by rw [IntKind.wrap_u64]; omega
  have u2 : IntKind.u64.wrap (tt : Int) = (tt : Int) := by rw [IntKind.wrap_u64]; omega
  have hc := hr.ch (by omega)
  obtain ⟨ck, h1⟩ := Int.eq_ofNat_of_zero_le (show 0 ≤ r.c.k by rcases hc.2 with h | h | h <;> omega)
  obtain ⟨cp, h2⟩ := Int.eq_ofNat_of_zero_le hc.1.1
  obtain ⟨cs, h3⟩ := Int.eq_ofNat_of_zero_le hc.1.2.2.1
  have hck : ck < 18446744073709551616 := by rcases hc.2 with h | h | h <;> omega
  have hcp : cp < 18446744073709551616 := by have := hc.1; omega
  have hcs : cs < 18446744073709551616 := by have := hc.1; omega
  have HM1 := hide (fun w => num6_any 1 ck w (by omega) hck)
  have HM2 := hide (fun w => num6_any 2 cp w (by omega) hcp)
  have HM3 := hide (fun w => num6_any 1 cs w (by omega) hcs)
  have HM4 := hide (fun w => text6_any r.c.o w (by have := hc.1; omega))
  have HM5 := hide (fun w => text6_any r.c.n w (by have := hc.1; omega))
  have y1 := mkS_size (beB 1 ck)
  have y2 := mkS_size (beB 2 cp)
  have y3 := mkS_size (beB 1 cs)
  have y4 := mkS_size (textB r.c.o.data.toList)
  have y5 := mkS_size (textB r.c.n.data.toList)
  rw [beB_length] at y1 y2 y3
  rw [textB_length, data_length] at y4 y5
  have y6 := hc.1.2.2.2.2.1
  have y7 := hc.1.2.2.2.2.2
  have v1 : IntKind.u64.wrap (ck : Int) = (ck : Int) := by rw [IntKind.wrap_u64]; omega
  have v2 : IntKind.u64.wrap (cp : Int) = (cp : Int) := by rw [IntKind.wrap_u64]; omega
  have v3 : IntKind.u64.wrap (cs : Int) = (cs : Int) := by rw [IntKind.wrap_u64]; omega
  have he : mkS (recB r) = mkS (beB 1 kk) ++ mkS (beB 8 r.l) ++ mkS (beB 4 tt) ++ mkS (beB 8 r.p) ++ mkS (beB 1 ck) ++ mkS (beB 2 cp) ++ mkS (beB 1 cs) ++ mkS (textB r.c.o.data.toList) ++ mkS (textB r.c.n.data.toList) := by
    unfold recB mayB chB
    rw [if_pos (by omega), if_neg (by omega), if_neg (by omega), if_neg (by omega), hk, ht, h1, h2, h3]
    simp only [Int.toNat_natCast, mkS_append, List.append_nil, List.append_assoc]
  have HE := hide he
  clear he
  have H6 : Hid ((kk : Int) = 1) := show (kk : Int) = 1 by omega
  have HCE : Hid (chA r.c = #[.int .i64 (ck : Int), .int .i64 (cp : Int), .int .i64 (cs : Int), .string r.c.o, .string r.c.n]) := by
    unfold chA
    rw [h1, h2, h3]
    exact rfl
  clear hr hkc hin hkk hc h1 h2 h3
  have HH : True := trivial
  have HK0 := hide (Keeps.one w 43 (rcA r va vb))
  obtain ⟨A, hA⟩ : ∃ A, A = rcA r va vb := ⟨_, rfl⟩
  rw [← hA] at HK0 ⊢
  have HA := hide hA
  clear hA
  have HC : Hid (∀ y : World, RowAt y w.heap.size 43 A → y.cell? ⟨w.heap.size, 0, none⟩ = some (.int .i64 (kk : Int)) ∧ y.cell? ⟨w.heap.size, 1, none⟩ = some (.int .u64 (r.l : Int)) ∧ y.cell? ⟨w.heap.size, 2, none⟩ = some (.int .i64 (tt : Int)) ∧ y.cell? ⟨w.heap.size, 3, none⟩ = some (.int .u64 (r.p : Int))) := fun y h => by
    rw [HA.out] at h
    obtain ⟨a0, a1, a2, a3, -⟩ := rc_cells h
    rw [hk] at a0
    rw [ht] at a2
    exact ⟨a0, a1, a2, a3⟩
  generalize mkS (beB 1 kk) = N1 at *
  generalize mkS (beB 8 r.l) = N2 at *
  generalize mkS (beB 4 tt) = N3 at *
  generalize mkS (beB 8 r.p) = N4 at *
  go_enter Try.func57, Try.ntmps57
  go_wp2_with fail
  refine wp_region_in (fun x => Keeps w x [(w.heap.size, 43, A)]) (by kernel_rfl) (by kernel_rfl) HK0.out.drew ?_
  clear HK0
  repeat (first
    | go_big_quiet_skip
    | (refine wpQuiet_load rfl 3 (.tmp 8) rfl _ (.int .i64 (kk : Int)) rfl (fun y hy => load_i64 y _ (HC.out y hy.1.1).1) ?_; simp only [Act.put, Array.setIfInBounds, List.size_toArray, List.length_cons, List.length_nil, Nat.reduceAdd, Nat.reduceLT, ↓reduceDIte, List.set_toArray, List.set_cons_succ, List.set_cons_zero])
    | (refine wpQuiet_load rfl 31 (.tmp 12) rfl _ (.int .u64 (r.l : Int)) rfl (fun y hy => load_u64 y _ (HC.out y hy.1.1).2.1) ?_; simp only [Act.put, Array.setIfInBounds, List.size_toArray, List.length_cons, List.length_nil, Nat.reduceAdd, Nat.reduceLT, ↓reduceDIte, List.set_toArray, List.set_cons_succ, List.set_cons_zero])
    | (refine wpQuiet_load rfl 3 (.tmp 16) rfl _ (.int .i64 (tt : Int)) rfl (fun y hy => load_i64 y _ (HC.out y hy.1.1).2.2.1) ?_; simp only [Act.put, Array.setIfInBounds, List.size_toArray, List.length_cons, List.length_nil, Nat.reduceAdd, Nat.reduceLT, ↓reduceDIte, List.set_toArray, List.set_cons_succ, List.set_cons_zero])
    | (refine wpQuiet_load rfl 31 (.tmp 21) rfl _ (.int .u64 (r.p : Int)) rfl (fun y hy => load_u64 y _ (HC.out y hy.1.1).2.2.2) ?_; simp only [Act.put, Array.setIfInBounds, List.size_toArray, List.length_cons, List.length_nil, Nat.reduceAdd, Nat.reduceLT, ↓reduceDIte, List.set_toArray, List.set_cons_succ, List.set_cons_zero])
    | (refine wpQuiet_call rfl 73 #[.int .i64 1, .int .u64 (kk : Int)] (.string N1) ?_ (fun x hC => (HN1.out x).mono fun e x' h => ⟨h.1, hC.later h.2⟩) ?_; (intro x; go_simp); simp only [Act.put, Array.setIfInBounds, List.size_toArray, List.length_cons, List.length_nil, Nat.reduceAdd, Nat.reduceLT, ↓reduceDIte, List.set_toArray, List.set_cons_succ, List.set_cons_zero])
    | (refine wpQuiet_call rfl 73 #[.int .i64 8, .int .u64 (r.l : Int)] (.string N2) ?_ (fun x hC => (HN2.out x).mono fun e x' h => ⟨h.1, hC.later h.2⟩) ?_; (intro x; go_simp); simp only [Act.put, Array.setIfInBounds, List.size_toArray, List.length_cons, List.length_nil, Nat.reduceAdd, Nat.reduceLT, ↓reduceDIte, List.set_toArray, List.set_cons_succ, List.set_cons_zero])
    | (refine wpQuiet_call rfl 73 #[.int .i64 4, .int .u64 (tt : Int)] (.string N3) ?_ (fun x hC => (HN3.out x).mono fun e x' h => ⟨h.1, hC.later h.2⟩) ?_; (intro x; go_simp); simp only [Act.put, Array.setIfInBounds, List.size_toArray, List.length_cons, List.length_nil, Nat.reduceAdd, Nat.reduceLT, ↓reduceDIte, List.set_toArray, List.set_cons_succ, List.set_cons_zero])
    | (refine wpQuiet_call rfl 73 #[.int .i64 8, .int .u64 (r.p : Int)] (.string N4) ?_ (fun x hC => (HN4.out x).mono fun e x' h => ⟨h.1, hC.later h.2⟩) ?_; (intro x; go_simp); simp only [Act.put, Array.setIfInBounds, List.size_toArray, List.length_cons, List.length_nil, Nat.reduceAdd, Nat.reduceLT, ↓reduceDIte, List.set_toArray, List.set_cons_succ, List.set_cons_zero])
    | (refine wpQuiet_plain rfl (fun K hK => ?_); go_simp; refine hK _ ?_; clear hK K))
  refine wpQuiet_nil ?_
  intro w1 h1
  have c0 : w1.cell? ⟨w.heap.size, 0, none⟩ = some (.int .i64 (kk : Int)) := (HC.out w1 h1.1.1).1
  have HK1 := hide h1
  have cr : w1.rangeAt w.heap.size 4 (chA r.c).toList := by have h := h1.1.1; rw [HA.out] at h; exact rc_change h
  rw [HCE.out] at cr
  have d4 := cr 0 (.int .i64 (ck : Int)) rfl
  have d5 := cr 1 (.int .i64 (cp : Int)) rfl
  have d6 := cr 2 (.int .i64 (cs : Int)) rfl
  have d7 := cr 3 (.string r.c.o) rfl
  have d8 := cr 4 (.string r.c.n) rfl
  clear cr
  clear h1 HN1 HN2 HN3 HN4
  rw [H6.out] at c0
  generalize mkS (beB 1 ck) = M1 at *
  generalize mkS (beB 2 cp) = M2 at *
  generalize mkS (beB 1 cs) = M3 at *
  generalize mkS (textB r.c.o.data.toList) = M4 at *
  generalize mkS (textB r.c.n.data.toList) = M5 at *
  have hs4 : (N1 ++ N2 ++ N3 ++ N4 ++ M1 ++ M2 ++ M3).size + M4.size ≤ 100000 := by simp only [ByteArray.size_append]; omega
  have HS4 := hide hs4
  have hs5 : (N1 ++ N2 ++ N3 ++ N4 ++ M1 ++ M2 ++ M3 ++ M4).size + M5.size ≤ 100000 := by simp only [ByteArray.size_append]; omega
  have HS5 := hide hs5
  clear hs4 hs5
  go_wp2_with fail
  have HK2 := hide (Keeps.more HK1.out ((Below.refl w1.heap.size w1).alloc (Nat.le_refl _) (.cells #[.int .i64 (ck : Int), .int .i64 (cp : Int), .int .i64 (cs : Int), .string r.c.o, .string r.c.n] 39)) (RowAt.new w1 39 #[.int .i64 (ck : Int), .int .i64 (cp : Int), .int .i64 (cs : Int), .string r.c.o, .string r.c.n]))
  generalize w1.alloc (.cells #[.int .i64 (ck : Int), .int .i64 (cp : Int), .int .i64 (cs : Int), .string r.c.o, .string r.c.n] 39) = w2 at HK2 ⊢
  generalize w1.heap.size = g at HK2 ⊢
  clear HK1 c0 d4 d5 d6 d7 d8
  refine wp_region_in (fun x => Keeps w x [(g, 39, #[.int .i64 (ck : Int), .int .i64 (cp : Int), .int .i64 (cs : Int), .string r.c.o, .string r.c.n]), (w.heap.size, 43, A)]) (by kernel_rfl) (by kernel_rfl) HK2.out.drew ?_
  clear HK2
  repeat (first
    | go_big_quiet_skip
    | (refine wpQuiet_load rfl 3 (.tmp 31) rfl _ (.int .i64 (ck : Int)) rfl (fun y hy => load_i64 y _ (hy.1.1.cell 0 (.int .i64 (ck : Int)) rfl)) ?_; simp only [Act.put, Array.setIfInBounds, List.size_toArray, List.length_cons, List.length_nil, Nat.reduceAdd, Nat.reduceLT, ↓reduceDIte, List.set_toArray, List.set_cons_succ, List.set_cons_zero])
    | (refine wpQuiet_load rfl 3 (.tmp 36) rfl _ (.int .i64 (cp : Int)) rfl (fun y hy => load_i64 y _ (hy.1.1.cell 1 (.int .i64 (cp : Int)) rfl)) ?_; simp only [Act.put, Array.setIfInBounds, List.size_toArray, List.length_cons, List.length_nil, Nat.reduceAdd, Nat.reduceLT, ↓reduceDIte, List.set_toArray, List.set_cons_succ, List.set_cons_zero])
    | (refine wpQuiet_load rfl 3 (.tmp 41) rfl _ (.int .i64 (cs : Int)) rfl (fun y hy => load_i64 y _ (hy.1.1.cell 2 (.int .i64 (cs : Int)) rfl)) ?_; simp only [Act.put, Array.setIfInBounds, List.size_toArray, List.length_cons, List.length_nil, Nat.reduceAdd, Nat.reduceLT, ↓reduceDIte, List.set_toArray, List.set_cons_succ, List.set_cons_zero])
    | (refine wpQuiet_load rfl 9 (.tmp 46) rfl _ (.string r.c.o) rfl (fun y hy => load_text y _ (hy.1.1.cell 3 (.string r.c.o) rfl)) ?_; simp only [Act.put, Array.setIfInBounds, List.size_toArray, List.length_cons, List.length_nil, Nat.reduceAdd, Nat.reduceLT, ↓reduceDIte, List.set_toArray, List.set_cons_succ, List.set_cons_zero])
    | (refine wpQuiet_load rfl 9 (.tmp 50) rfl _ (.string r.c.n) rfl (fun y hy => load_text y _ (hy.1.1.cell 4 (.string r.c.n) rfl)) ?_; simp only [Act.put, Array.setIfInBounds, List.size_toArray, List.length_cons, List.length_nil, Nat.reduceAdd, Nat.reduceLT, ↓reduceDIte, List.set_toArray, List.set_cons_succ, List.set_cons_zero])
    | (refine wpQuiet_call rfl 73 #[.int .i64 1, .int .u64 (ck : Int)] (.string M1) ?_ (fun x hC => (HM1.out x).mono fun e x' h => ⟨h.1, hC.later h.2⟩) ?_; (intro x; go_simp); simp only [Act.put, Array.setIfInBounds, List.size_toArray, List.length_cons, List.length_nil, Nat.reduceAdd, Nat.reduceLT, ↓reduceDIte, List.set_toArray, List.set_cons_succ, List.set_cons_zero])
    | (refine wpQuiet_call rfl 73 #[.int .i64 2, .int .u64 (cp : Int)] (.string M2) ?_ (fun x hC => (HM2.out x).mono fun e x' h => ⟨h.1, hC.later h.2⟩) ?_; (intro x; go_simp); simp only [Act.put, Array.setIfInBounds, List.size_toArray, List.length_cons, List.length_nil, Nat.reduceAdd, Nat.reduceLT, ↓reduceDIte, List.set_toArray, List.set_cons_succ, List.set_cons_zero])
    | (refine wpQuiet_call rfl 73 #[.int .i64 1, .int .u64 (cs : Int)] (.string M3) ?_ (fun x hC => (HM3.out x).mono fun e x' h => ⟨h.1, hC.later h.2⟩) ?_; (intro x; go_simp); simp only [Act.put, Array.setIfInBounds, List.size_toArray, List.length_cons, List.length_nil, Nat.reduceAdd, Nat.reduceLT, ↓reduceDIte, List.set_toArray, List.set_cons_succ, List.set_cons_zero])
    | (refine wpQuiet_call rfl 74 #[.string r.c.o] (.string M4) ?_ (fun x hC => (HM4.out x).mono fun e x' h => ⟨h.1, hC.later h.2⟩) ?_; (intro x; go_simp); simp only [Act.put, Array.setIfInBounds, List.size_toArray, List.length_cons, List.length_nil, Nat.reduceAdd, Nat.reduceLT, ↓reduceDIte, List.set_toArray, List.set_cons_succ, List.set_cons_zero])
    | (refine wpQuiet_call rfl 74 #[.string r.c.n] (.string M5) ?_ (fun x hC => (HM5.out x).mono fun e x' h => ⟨h.1, hC.later h.2⟩) ?_; (intro x; go_simp); simp only [Act.put, Array.setIfInBounds, List.size_toArray, List.length_cons, List.length_nil, Nat.reduceAdd, Nat.reduceLT, ↓reduceDIte, List.set_toArray, List.set_cons_succ, List.set_cons_zero])
    | (refine wpQuiet_binop rfl .add 9 9 (.tmp 45) (.tmp 48) rfl _ _ (.string (N1 ++ N2 ++ N3 ++ N4 ++ M1 ++ M2 ++ M3 ++ M4)) rfl rfl (fun y => add_guard _ _ _ _ y) (fun y => run_add_s _ _ HS4.out y) ?_; simp only [Act.put, Array.setIfInBounds, List.size_toArray, List.length_cons, List.length_nil, Nat.reduceAdd, Nat.reduceLT, ↓reduceDIte, List.set_toArray, List.set_cons_succ, List.set_cons_zero])
    | (refine wpQuiet_binop rfl .add 9 9 (.tmp 49) (.tmp 52) rfl _ _ (.string (N1 ++ N2 ++ N3 ++ N4 ++ M1 ++ M2 ++ M3 ++ M4 ++ M5)) rfl rfl (fun y => add_guard _ _ _ _ y) (fun y => run_add_s _ _ HS5.out y) ?_; simp only [Act.put, Array.setIfInBounds, List.size_toArray, List.length_cons, List.length_nil, Nat.reduceAdd, Nat.reduceLT, ↓reduceDIte, List.set_toArray, List.set_cons_succ, List.set_cons_zero])
    | (refine wpQuiet_plain rfl (fun K hK => ?_); go_simp; refine hK _ ?_; clear hK K))
  refine wpQuiet_nil ?_
  intro w3 h3
  have c0 := (HC.out w3 h3.1.2.1).1
  rw [H6.out] at c0
  have d3 := h3.2
  clear h3 HM1 HM2 HM3 HM4 HM5
  go_wp2
  go_ret
  exact ⟨by rw [HE.out]; rfl, d3⟩

set_option maxRecDepth 8000 in
set_option maxHeartbeats 3200000 in
theorem bytes_clr (r : Rec) (va vb : Value) (w : World) (hr : r.right) (hkc : r.k = 2) (hin : RcIn w r va vb) :
    Calls Try.prog 57 #[.agg (rcA r va vb)] w fun e w' => e = .returned (.string (mkS (recB r))) ∧ Below w.heap.size w w' := by
  obtain ⟨kk, hk⟩ := Int.eq_ofNat_of_zero_le (show 0 ≤ r.k by have := hr.k1; omega)
  obtain ⟨tt, ht⟩ := Int.eq_ofNat_of_zero_le (show 0 ≤ r.t by by_cases h : r.k ≤ 6; (have := hr.own h; omega); (have := hr.none (by omega); omega))
  have hll := hr.lm
  unfold maxP at hll
  have hpp : r.p < 18446744073709551616 := by by_cases h : r.k ≤ 6; (have := hr.own h; omega); (have := hr.none (by omega); omega)
  have htt : tt < 18446744073709551616 := by by_cases h : r.k ≤ 6; (have := hr.own h; omega); (have := hr.none (by omega); omega)
  have hkk : kk ≤ 8 := by have := hr.k8; omega
  have HN1 := hide (fun w => num6_any 1 kk w (by omega) (by omega))
  have HN2 := hide (fun w => num6_any 8 r.l w (by omega) (by omega))
  have HN3 := hide (fun w => num6_any 4 tt w (by omega) htt)
  have HN4 := hide (fun w => num6_any 8 r.p w (by omega) hpp)
  have z1 := mkS_size (beB 1 kk)
  have z2 := mkS_size (beB 8 r.l)
  have z3 := mkS_size (beB 4 tt)
  have z4 := mkS_size (beB 8 r.p)
  rw [beB_length] at z1 z2 z3 z4
  have u1 : IntKind.u64.wrap (kk : Int) = (kk : Int) := by rw [IntKind.wrap_u64]; omega
  have u2 : IntKind.u64.wrap (tt : Int) = (tt : Int) := by rw [IntKind.wrap_u64]; omega
  have hc := hr.ch (by omega)
  obtain ⟨ck, h1⟩ := Int.eq_ofNat_of_zero_le (show 0 ≤ r.c.k by rcases hc.2 with h | h | h <;> omega)
  obtain ⟨cp, h2⟩ := Int.eq_ofNat_of_zero_le hc.1.1
  obtain ⟨cs, h3⟩ := Int.eq_ofNat_of_zero_le hc.1.2.2.1
  have hck : ck < 18446744073709551616 := by rcases hc.2 with h | h | h <;> omega
  have hcp : cp < 18446744073709551616 := by have := hc.1; omega
  have hcs : cs < 18446744073709551616 := by have := hc.1; omega
  have HM1 := hide (fun w => num6_any 1 ck w (by omega) hck)
  have HM2 := hide (fun w => num6_any 2 cp w (by omega) hcp)
  have HM3 := hide (fun w => num6_any 1 cs w (by omega) hcs)
  have HM4 := hide (fun w => text6_any r.c.o w (by have := hc.1; omega))
  have HM5 := hide (fun w => text6_any r.c.n w (by have := hc.1; omega))
  have y1 := mkS_size (beB 1 ck)
  have y2 := mkS_size (beB 2 cp)
  have y3 := mkS_size (beB 1 cs)
  have y4 := mkS_size (textB r.c.o.data.toList)
  have y5 := mkS_size (textB r.c.n.data.toList)
  rw [beB_length] at y1 y2 y3
  rw [textB_length, data_length] at y4 y5
  have y6 := hc.1.2.2.2.2.1
  have y7 := hc.1.2.2.2.2.2
  have v1 : IntKind.u64.wrap (ck : Int) = (ck : Int) := by rw [IntKind.wrap_u64]; omega
  have v2 : IntKind.u64.wrap (cp : Int) = (cp : Int) := by rw [IntKind.wrap_u64]; omega
  have v3 : IntKind.u64.wrap (cs : Int) = (cs : Int) := by rw [IntKind.wrap_u64]; omega
  have hnn : r.n < 18446744073709551616 := by have := hr.next hkc; omega
  have HM6 := hide (fun w => num6_any 8 r.n w (by omega) hnn)
  have y8 := mkS_size (beB 8 r.n)
  rw [beB_length] at y8
  have he : mkS (recB r) = mkS (beB 1 kk) ++ mkS (beB 8 r.l) ++ mkS (beB 4 tt) ++ mkS (beB 8 r.p) ++ mkS (beB 1 ck) ++ mkS (beB 2 cp) ++ mkS (beB 1 cs) ++ mkS (textB r.c.o.data.toList) ++ mkS (textB r.c.n.data.toList) ++ mkS (beB 8 r.n) := by
    unfold recB mayB chB
    rw [if_pos (by omega), if_pos hkc, if_neg (by omega), if_neg (by omega), hk, ht, h1, h2, h3]
    simp only [Int.toNat_natCast, mkS_append, List.append_nil, List.append_assoc]
  have HE := hide he
  clear he
  have H6 : Hid ((kk : Int) = 2) := show (kk : Int) = 2 by omega
  have HCE : Hid (chA r.c = #[.int .i64 (ck : Int), .int .i64 (cp : Int), .int .i64 (cs : Int), .string r.c.o, .string r.c.n]) := by
    unfold chA
    rw [h1, h2, h3]
    exact rfl
  clear hr hkc hin hkk hc h1 h2 h3
  have HH : True := trivial
  have HK0 := hide (Keeps.one w 43 (rcA r va vb))
  obtain ⟨A, hA⟩ : ∃ A, A = rcA r va vb := ⟨_, rfl⟩
  rw [← hA] at HK0 ⊢
  have HA := hide hA
  clear hA
  have HC : Hid (∀ y : World, RowAt y w.heap.size 43 A → y.cell? ⟨w.heap.size, 0, none⟩ = some (.int .i64 (kk : Int)) ∧ y.cell? ⟨w.heap.size, 1, none⟩ = some (.int .u64 (r.l : Int)) ∧ y.cell? ⟨w.heap.size, 2, none⟩ = some (.int .i64 (tt : Int)) ∧ y.cell? ⟨w.heap.size, 3, none⟩ = some (.int .u64 (r.p : Int))) := fun y h => by
    rw [HA.out] at h
    obtain ⟨a0, a1, a2, a3, -⟩ := rc_cells h
    rw [hk] at a0
    rw [ht] at a2
    exact ⟨a0, a1, a2, a3⟩
  generalize mkS (beB 1 kk) = N1 at *
  generalize mkS (beB 8 r.l) = N2 at *
  generalize mkS (beB 4 tt) = N3 at *
  generalize mkS (beB 8 r.p) = N4 at *
  go_enter Try.func57, Try.ntmps57
  go_wp2_with fail
  refine wp_region_in (fun x => Keeps w x [(w.heap.size, 43, A)]) (by kernel_rfl) (by kernel_rfl) HK0.out.drew ?_
  clear HK0
  repeat (first
    | go_big_quiet_skip
    | (refine wpQuiet_load rfl 3 (.tmp 8) rfl _ (.int .i64 (kk : Int)) rfl (fun y hy => load_i64 y _ (HC.out y hy.1.1).1) ?_; simp only [Act.put, Array.setIfInBounds, List.size_toArray, List.length_cons, List.length_nil, Nat.reduceAdd, Nat.reduceLT, ↓reduceDIte, List.set_toArray, List.set_cons_succ, List.set_cons_zero])
    | (refine wpQuiet_load rfl 31 (.tmp 12) rfl _ (.int .u64 (r.l : Int)) rfl (fun y hy => load_u64 y _ (HC.out y hy.1.1).2.1) ?_; simp only [Act.put, Array.setIfInBounds, List.size_toArray, List.length_cons, List.length_nil, Nat.reduceAdd, Nat.reduceLT, ↓reduceDIte, List.set_toArray, List.set_cons_succ, List.set_cons_zero])
    | (refine wpQuiet_load rfl 3 (.tmp 16) rfl _ (.int .i64 (tt : Int)) rfl (fun y hy => load_i64 y _ (HC.out y hy.1.1).2.2.1) ?_; simp only [Act.put, Array.setIfInBounds, List.size_toArray, List.length_cons, List.length_nil, Nat.reduceAdd, Nat.reduceLT, ↓reduceDIte, List.set_toArray, List.set_cons_succ, List.set_cons_zero])
    | (refine wpQuiet_load rfl 31 (.tmp 21) rfl _ (.int .u64 (r.p : Int)) rfl (fun y hy => load_u64 y _ (HC.out y hy.1.1).2.2.2) ?_; simp only [Act.put, Array.setIfInBounds, List.size_toArray, List.length_cons, List.length_nil, Nat.reduceAdd, Nat.reduceLT, ↓reduceDIte, List.set_toArray, List.set_cons_succ, List.set_cons_zero])
    | (refine wpQuiet_call rfl 73 #[.int .i64 1, .int .u64 (kk : Int)] (.string N1) ?_ (fun x hC => (HN1.out x).mono fun e x' h => ⟨h.1, hC.later h.2⟩) ?_; (intro x; go_simp); simp only [Act.put, Array.setIfInBounds, List.size_toArray, List.length_cons, List.length_nil, Nat.reduceAdd, Nat.reduceLT, ↓reduceDIte, List.set_toArray, List.set_cons_succ, List.set_cons_zero])
    | (refine wpQuiet_call rfl 73 #[.int .i64 8, .int .u64 (r.l : Int)] (.string N2) ?_ (fun x hC => (HN2.out x).mono fun e x' h => ⟨h.1, hC.later h.2⟩) ?_; (intro x; go_simp); simp only [Act.put, Array.setIfInBounds, List.size_toArray, List.length_cons, List.length_nil, Nat.reduceAdd, Nat.reduceLT, ↓reduceDIte, List.set_toArray, List.set_cons_succ, List.set_cons_zero])
    | (refine wpQuiet_call rfl 73 #[.int .i64 4, .int .u64 (tt : Int)] (.string N3) ?_ (fun x hC => (HN3.out x).mono fun e x' h => ⟨h.1, hC.later h.2⟩) ?_; (intro x; go_simp); simp only [Act.put, Array.setIfInBounds, List.size_toArray, List.length_cons, List.length_nil, Nat.reduceAdd, Nat.reduceLT, ↓reduceDIte, List.set_toArray, List.set_cons_succ, List.set_cons_zero])
    | (refine wpQuiet_call rfl 73 #[.int .i64 8, .int .u64 (r.p : Int)] (.string N4) ?_ (fun x hC => (HN4.out x).mono fun e x' h => ⟨h.1, hC.later h.2⟩) ?_; (intro x; go_simp); simp only [Act.put, Array.setIfInBounds, List.size_toArray, List.length_cons, List.length_nil, Nat.reduceAdd, Nat.reduceLT, ↓reduceDIte, List.set_toArray, List.set_cons_succ, List.set_cons_zero])
    | (refine wpQuiet_plain rfl (fun K hK => ?_); go_simp; refine hK _ ?_; clear hK K))
  refine wpQuiet_nil ?_
  intro w1 h1
  have c0 : w1.cell? ⟨w.heap.size, 0, none⟩ = some (.int .i64 (kk : Int)) := (HC.out w1 h1.1.1).1
  have HK1 := hide h1
  have cr : w1.rangeAt w.heap.size 4 (chA r.c).toList := by have h := h1.1.1; rw [HA.out] at h; exact rc_change h
  rw [HCE.out] at cr
  have d4 := cr 0 (.int .i64 (ck : Int)) rfl
  have d5 := cr 1 (.int .i64 (cp : Int)) rfl
  have d6 := cr 2 (.int .i64 (cs : Int)) rfl
  have d7 := cr 3 (.string r.c.o) rfl
  have d8 := cr 4 (.string r.c.n) rfl
  clear cr
  clear h1 HN1 HN2 HN3 HN4
  rw [H6.out] at c0
  generalize mkS (beB 1 ck) = M1 at *
  generalize mkS (beB 2 cp) = M2 at *
  generalize mkS (beB 1 cs) = M3 at *
  generalize mkS (textB r.c.o.data.toList) = M4 at *
  generalize mkS (textB r.c.n.data.toList) = M5 at *
  have hs4 : (N1 ++ N2 ++ N3 ++ N4 ++ M1 ++ M2 ++ M3).size + M4.size ≤ 100000 := by simp only [ByteArray.size_append]; omega
  have HS4 := hide hs4
  have hs5 : (N1 ++ N2 ++ N3 ++ N4 ++ M1 ++ M2 ++ M3 ++ M4).size + M5.size ≤ 100000 := by simp only [ByteArray.size_append]; omega
  have HS5 := hide hs5
  clear hs4 hs5
  generalize mkS (beB 8 r.n) = M6 at *
  have HS6 : (((N1 ++ N2 ++ N3 ++ N4 ++ M1 ++ M2 ++ M3 ++ M4 ++ M5).size : Nat) : Int) + (M6.size : Int) ≤ 9223372036854775807 := by simp only [ByteArray.size_append]; omega
  go_wp2_with fail
  have HK2 := hide (Keeps.more HK1.out ((Below.refl w1.heap.size w1).alloc (Nat.le_refl _) (.cells #[.int .i64 (ck : Int), .int .i64 (cp : Int), .int .i64 (cs : Int), .string r.c.o, .string r.c.n] 39)) (RowAt.new w1 39 #[.int .i64 (ck : Int), .int .i64 (cp : Int), .int .i64 (cs : Int), .string r.c.o, .string r.c.n]))
  generalize w1.alloc (.cells #[.int .i64 (ck : Int), .int .i64 (cp : Int), .int .i64 (cs : Int), .string r.c.o, .string r.c.n] 39) = w2 at HK2 ⊢
  generalize w1.heap.size = g at HK2 ⊢
  clear HK1 c0 d4 d5 d6 d7 d8
  refine wp_region_in (fun x => Keeps w x [(g, 39, #[.int .i64 (ck : Int), .int .i64 (cp : Int), .int .i64 (cs : Int), .string r.c.o, .string r.c.n]), (w.heap.size, 43, A)]) (by kernel_rfl) (by kernel_rfl) HK2.out.drew ?_
  clear HK2
  repeat (first
    | go_big_quiet_skip
    | (refine wpQuiet_load rfl 3 (.tmp 31) rfl _ (.int .i64 (ck : Int)) rfl (fun y hy => load_i64 y _ (hy.1.1.cell 0 (.int .i64 (ck : Int)) rfl)) ?_; simp only [Act.put, Array.setIfInBounds, List.size_toArray, List.length_cons, List.length_nil, Nat.reduceAdd, Nat.reduceLT, ↓reduceDIte, List.set_toArray, List.set_cons_succ, List.set_cons_zero])
    | (refine wpQuiet_load rfl 3 (.tmp 36) rfl _ (.int .i64 (cp : Int)) rfl (fun y hy => load_i64 y _ (hy.1.1.cell 1 (.int .i64 (cp : Int)) rfl)) ?_; simp only [Act.put, Array.setIfInBounds, List.size_toArray, List.length_cons, List.length_nil, Nat.reduceAdd, Nat.reduceLT, ↓reduceDIte, List.set_toArray, List.set_cons_succ, List.set_cons_zero])
    | (refine wpQuiet_load rfl 3 (.tmp 41) rfl _ (.int .i64 (cs : Int)) rfl (fun y hy => load_i64 y _ (hy.1.1.cell 2 (.int .i64 (cs : Int)) rfl)) ?_; simp only [Act.put, Array.setIfInBounds, List.size_toArray, List.length_cons, List.length_nil, Nat.reduceAdd, Nat.reduceLT, ↓reduceDIte, List.set_toArray, List.set_cons_succ, List.set_cons_zero])
    | (refine wpQuiet_load rfl 9 (.tmp 46) rfl _ (.string r.c.o) rfl (fun y hy => load_text y _ (hy.1.1.cell 3 (.string r.c.o) rfl)) ?_; simp only [Act.put, Array.setIfInBounds, List.size_toArray, List.length_cons, List.length_nil, Nat.reduceAdd, Nat.reduceLT, ↓reduceDIte, List.set_toArray, List.set_cons_succ, List.set_cons_zero])
    | (refine wpQuiet_load rfl 9 (.tmp 50) rfl _ (.string r.c.n) rfl (fun y hy => load_text y _ (hy.1.1.cell 4 (.string r.c.n) rfl)) ?_; simp only [Act.put, Array.setIfInBounds, List.size_toArray, List.length_cons, List.length_nil, Nat.reduceAdd, Nat.reduceLT, ↓reduceDIte, List.set_toArray, List.set_cons_succ, List.set_cons_zero])
    | (refine wpQuiet_call rfl 73 #[.int .i64 1, .int .u64 (ck : Int)] (.string M1) ?_ (fun x hC => (HM1.out x).mono fun e x' h => ⟨h.1, hC.later h.2⟩) ?_; (intro x; go_simp); simp only [Act.put, Array.setIfInBounds, List.size_toArray, List.length_cons, List.length_nil, Nat.reduceAdd, Nat.reduceLT, ↓reduceDIte, List.set_toArray, List.set_cons_succ, List.set_cons_zero])
    | (refine wpQuiet_call rfl 73 #[.int .i64 2, .int .u64 (cp : Int)] (.string M2) ?_ (fun x hC => (HM2.out x).mono fun e x' h => ⟨h.1, hC.later h.2⟩) ?_; (intro x; go_simp); simp only [Act.put, Array.setIfInBounds, List.size_toArray, List.length_cons, List.length_nil, Nat.reduceAdd, Nat.reduceLT, ↓reduceDIte, List.set_toArray, List.set_cons_succ, List.set_cons_zero])
    | (refine wpQuiet_call rfl 73 #[.int .i64 1, .int .u64 (cs : Int)] (.string M3) ?_ (fun x hC => (HM3.out x).mono fun e x' h => ⟨h.1, hC.later h.2⟩) ?_; (intro x; go_simp); simp only [Act.put, Array.setIfInBounds, List.size_toArray, List.length_cons, List.length_nil, Nat.reduceAdd, Nat.reduceLT, ↓reduceDIte, List.set_toArray, List.set_cons_succ, List.set_cons_zero])
    | (refine wpQuiet_call rfl 74 #[.string r.c.o] (.string M4) ?_ (fun x hC => (HM4.out x).mono fun e x' h => ⟨h.1, hC.later h.2⟩) ?_; (intro x; go_simp); simp only [Act.put, Array.setIfInBounds, List.size_toArray, List.length_cons, List.length_nil, Nat.reduceAdd, Nat.reduceLT, ↓reduceDIte, List.set_toArray, List.set_cons_succ, List.set_cons_zero])
    | (refine wpQuiet_call rfl 74 #[.string r.c.n] (.string M5) ?_ (fun x hC => (HM5.out x).mono fun e x' h => ⟨h.1, hC.later h.2⟩) ?_; (intro x; go_simp); simp only [Act.put, Array.setIfInBounds, List.size_toArray, List.length_cons, List.length_nil, Nat.reduceAdd, Nat.reduceLT, ↓reduceDIte, List.set_toArray, List.set_cons_succ, List.set_cons_zero])
    | (refine wpQuiet_binop rfl .add 9 9 (.tmp 45) (.tmp 48) rfl _ _ (.string (N1 ++ N2 ++ N3 ++ N4 ++ M1 ++ M2 ++ M3 ++ M4)) rfl rfl (fun y => add_guard _ _ _ _ y) (fun y => run_add_s _ _ HS4.out y) ?_; simp only [Act.put, Array.setIfInBounds, List.size_toArray, List.length_cons, List.length_nil, Nat.reduceAdd, Nat.reduceLT, ↓reduceDIte, List.set_toArray, List.set_cons_succ, List.set_cons_zero])
    | (refine wpQuiet_binop rfl .add 9 9 (.tmp 49) (.tmp 52) rfl _ _ (.string (N1 ++ N2 ++ N3 ++ N4 ++ M1 ++ M2 ++ M3 ++ M4 ++ M5)) rfl rfl (fun y => add_guard _ _ _ _ y) (fun y => run_add_s _ _ HS5.out y) ?_; simp only [Act.put, Array.setIfInBounds, List.size_toArray, List.length_cons, List.length_nil, Nat.reduceAdd, Nat.reduceLT, ↓reduceDIte, List.set_toArray, List.set_cons_succ, List.set_cons_zero])
    | (refine wpQuiet_plain rfl (fun K hK => ?_); go_simp; refine hK _ ?_; clear hK K))
  refine wpQuiet_nil ?_
  intro w3 h3
  have c0 := (HC.out w3 h3.1.2.1).1
  rw [H6.out] at c0
  have c9 : w3.cell? ⟨w.heap.size, 9, none⟩ = some (.int .u64 (r.n : Int)) := by have h := h3.1.2.1; rw [HA.out] at h; exact (rc_cells h).2.2.2.2.1
  have HK3 := hide h3
  clear h3 HM1 HM2 HM3 HM4 HM5
  go_wp2_with fail
  refine (HM6.out _).mono ?_
  rintro e w4 ⟨rfl, hb4⟩
  have d4 := (HK3.out.later hb4).2
  clear HK3 HM6 hb4 c0 c9
  go_wp2
  go_ret
  exact ⟨by rw [HE.out]; rfl, d4⟩

end Go.Proofs.Ytfbelaalmdcaaaa
