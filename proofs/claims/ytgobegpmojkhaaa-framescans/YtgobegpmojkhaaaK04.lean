/-
  Texts that lean on one another, one behind the other: each opens with its own remark.
-/
import Derived.WalkSpells
import Derived.Laws.CopyOwn
import Derived.Deep.QuietTactic
import Derived.BigQuiet
import Derived.Test.YtgobegpmojkhaaaProg
import Derived.Laws.AppendOwn
import Derived.Laws.OwnMore
import Derived.Test.YtgobegpmojkhaaaK03
import Derived.Test.YtgobegpmojkhaaaK00
import Derived.Test.YtgobegpmojkhaaaK02

/-
  The contract of quaysideref06.Bytes, of changes.
-/
namespace Go.Proofs.Ytgobegpmojkhaaa
open Go.RowKit
set_option linter.unusedVariables false

set_option maxRecDepth 8000 in
set_option maxHeartbeats 3200000 in
theorem bytes_update (r : Rec) (va vb : Value) (w : World) (hr : r.right) (hkc : r.k = 1) (hin : RcIn w r va vb) :
    Calls Try.prog 45 #[.agg (rcA r va vb)] w fun e w' => e = .returned (.string (mkS (recB r))) ∧ Below w.heap.size w w' := by
  obtain ⟨kk, hk⟩ := Int.eq_ofNat_of_zero_le (show 0 ≤ r.k by have := hr.k1; omega)
  obtain ⟨tt, ht⟩ := Int.eq_ofNat_of_zero_le (show 0 ≤ r.t by by_cases h : r.k ≤ 6; (have := hr.own h; omega); (have := hr.none (by omega); omega))
  have hll := hr.lm
  unfold maxP at hll
  have hpp : r.p < 18446744073709551616 := by by_cases h : r.k ≤ 6; (have := hr.own h; omega); (have := hr.none (by omega); omega)
  have htt : tt < 18446744073709551616 := by by_cases h : r.k ≤ 6; (have := hr.own h; omega); (have := hr.none (by omega); omega)
  have hkk : kk ≤ 8 := by have := hr.k8; omega
  have HN1 := hide (fun w => num6_any 1 kk w (by omega) (by omega))
  have HN2 := hide (fun w => num6_any 8 r.l w (by omega) (by omega))
  have HN3 := hide (fun w => num6_any 4 tt w (by omega) htt)
  have HN4 := hide (fun w => num6_any 8 r.p w (by omega) hpp)
  have z1 := mkS_size (beB 1 kk)
  have z2 := mkS_size (beB 8 r.l)
  have z3 := mkS_size (beB 4 tt)
  have z4 := mkS_size (beB 8 r.p)
  rw [beB_length] at z1 z2 z3 z4
  have u1 : IntKind.u64.wrap (kk : Int) = (kk : Int) := by rw [IntKind.wrap_u64]; omega
  have u2 : IntKind.u64.wrap (tt : Int) = (tt : Int) := by rw [IntKind.wrap_u64]; omega
  have hc := hr.ch (by omega)
  obtain ⟨ck, h1⟩ := Int.eq_ofNat_of_zero_le (show 0 ≤ r.c.k by rcases hc.2 with h | h | h <;> omega)
  obtain ⟨cp, h2⟩ := Int.eq_ofNat_of_zero_le hc.1.1
  obtain ⟨cs, h3⟩ := Int.eq_ofNat_of_zero_le hc.1.2.2.1
  have hck : ck < 18446744073709551616 := by rcases hc.2 with h | h | h <;> omega
  have hcp : cp < 18446744073709551616 := by have := hc.1; omega
  have hcs : cs < 18446744073709551616 := by have := hc.1; omega
  have HM1 := hide (fun w => num6_any 1 ck w (by omega) hck)
  have HM2 := hide (fun w => num6_any 2 cp w (by omega) hcp)
  have HM3 := hide (fun w => num6_any 1 cs w (by omega) hcs)
  have HM4 := hide (fun w => text6_any r.c.o w (by have := hc.1; omega))
  have HM5 := hide (fun w => text6_any r.c.n w (by have := hc.1; omega))
  have y1 := mkS_size (beB 1 ck)
  have y2 := mkS_size (beB 2 cp)
  have y3 := mkS_size (beB 1 cs)
  have y4 := mkS_size (textB r.c.o.data.toList)
  have y5 := mkS_size (textB r.c.n.data.toList)
  rw [beB_length] at y1 y2 y3
  rw [textB_length, data_length] at y4 y5
  have y6 := hc.1.2.2.2.2.1
  have y7 := hc.1.2.2.2.2.2
  have v1 : IntKind.u64.wrap (ck : Int) = (ck : Int) := by rw [IntKind.wrap_u64]; omega
  have v2 : IntKind.u64.wrap (cp : Int) = (cp : Int) := by rw [IntKind.wrap_u64]; omega
  have v3 : IntKind.u64.wrap (cs : Int) = (cs : Int) := by rw [IntKind.wrap_u64]; omega
  have he : mkS (recB r) = mkS (beB 1 kk) ++ mkS (beB 8 r.l) ++ mkS (beB 4 tt) ++ mkS (beB 8 r.p) ++ mkS (beB 1 ck) ++ mkS (beB 2 cp) ++ mkS (beB 1 cs) ++ mkS (textB r.c.o.data.toList) ++ mkS (textB r.c.n.data.toList) := by
    unfold recB mayB chB
    rw [if_pos (by omega), if_neg (by omega), if_neg (by omega), if_neg (by omega), hk, ht, h1, h2, h3]
    simp only [Int.toNat_natCast, mkS_append, List.append_nil, List.append_assoc]
  have HE := hide he
  clear he
  have H6 : Hid ((kk : Int) = 1) := show (kk : Int) = 1 by omega
  have HCE : Hid (chA r.c = #[.int .i64 (ck : Int), .int .i64 (cp : Int), .int .i64 (cs : Int), .string r.c.o, .string r.c.n]) := by
    unfold chA
    rw [h1, h2, h3]
    exact rfl
  clear hr hkc hin hkk hc h1 h2 h3
  have HH : True := trivial
  have HK0 := hide (Keeps.one w 28 (rcA r va vb))
  obtain ⟨A, hA⟩ : ∃ A, A = rcA r va vb := ⟨_, rfl⟩
  rw [← hA] at HK0 ⊢
  have HA := hide hA
  clear hA
  have HC : Hid (∀ y : World, RowAt y w.heap.size 28 A → y.cell? ⟨w.heap.size, 0, none⟩ = some (.int .i64 (kk : Int)) ∧ y.cell? ⟨w.heap.size, 1, none⟩ = some (.int .u64 (r.l : Int)) ∧ y.cell? ⟨w.heap.size, 2, none⟩ = some (.int .i64 (tt : Int)) ∧ y.cell? ⟨w.heap.size, 3, none⟩ = some (.int .u64 (r.p : Int))) := fun y h => by
    rw [HA.out] at h
    obtain ⟨a0, a1, a2, a3, -⟩ := rc_cells h
    rw [hk] at a0
    rw [ht] at a2
    exact ⟨a0, a1, a2, a3⟩
  generalize mkS (beB 1 kk) = N1 at *
  generalize mkS (beB 8 r.l) = N2 at *
  generalize mkS (beB 4 tt) = N3 at *
  generalize mkS (beB 8 r.p) = N4 at *
  go_enter Try.func45, Try.ntmps45
  go_wp2_with fail
  refine wp_region_in (fun x => Keeps w x [(w.heap.size, 28, A)]) (by kernel_rfl) (by kernel_rfl) HK0.out.drew ?_
  clear HK0
  repeat (first
    | go_big_quiet_skip
    | (refine wpQuiet_load rfl 3 (.tmp 8) rfl _ (.int .i64 (kk : Int)) rfl (fun y hy => load_i64 y _ (HC.out y hy.1.1).1) ?_; simp only [Act.put, Array.setIfInBounds, List.size_toArray, List.length_cons, List.length_nil, Nat.reduceAdd, Nat.reduceLT, ↓reduceDIte, List.set_toArray, List.set_cons_succ, List.set_cons_zero])
    | (refine wpQuiet_load rfl 22 (.tmp 12) rfl _ (.int .u64 (r.l : Int)) rfl (fun y hy => load_u64 y _ (HC.out y hy.1.1).2.1) ?_; simp only [Act.put, Array.setIfInBounds, List.size_toArray, List.length_cons, List.length_nil, Nat.reduceAdd, Nat.reduceLT, ↓reduceDIte, List.set_toArray, List.set_cons_succ, List.set_cons_zero])
    | (refine wpQuiet_load rfl 3 (.tmp 16) rfl _ (.int .i64 (tt : Int)) rfl (fun y hy => load_i64 y _ (HC.out y hy.1.1).2.2.1) ?_; simp only [Act.put, Array.setIfInBounds, List.size_toArray, List.length_cons, List.length_nil, Nat.reduceAdd, Nat.reduceLT, ↓reduceDIte, List.set_toArray, List.set_cons_succ, List.set_cons_zero])
    | (refine wpQuiet_load rfl 22 (.tmp 21) rfl _ (.int .u64 (r.p : Int)) rfl (fun y hy => load_u64 y _ (HC.out y hy.1.1).2.2.2) ?_; simp only [Act.put, Array.setIfInBounds, List.size_toArray, List.length_cons, List.length_nil, Nat.reduceAdd, Nat.reduceLT, ↓reduceDIte, List.set_toArray, List.set_cons_succ, List.set_cons_zero])
    | (refine wpQuiet_call rfl 61 #[.int .i64 1, .int .u64 (kk : Int)] (.string N1) ?_ (fun x hC => (HN1.out x).mono fun e x' h => ⟨h.1, hC.later h.2⟩) ?_; (intro x; go_simp); simp only [Act.put, Array.setIfInBounds, List.size_toArray, List.length_cons, List.length_nil, Nat.reduceAdd, Nat.reduceLT, ↓reduceDIte, List.set_toArray, List.set_cons_succ, List.set_cons_zero])
    | (refine wpQuiet_call rfl 61 #[.int .i64 8, .int .u64 (r.l : Int)] (.string N2) ?_ (fun x hC => (HN2.out x).mono fun e x' h => ⟨h.1, hC.later h.2⟩) ?_; (intro x; go_simp); simp only [Act.put, Array.setIfInBounds, List.size_toArray, List.length_cons, List.length_nil, Nat.reduceAdd, Nat.reduceLT, ↓reduceDIte, List.set_toArray, List.set_cons_succ, List.set_cons_zero])
    | (refine wpQuiet_call rfl 61 #[.int .i64 4, .int .u64 (tt : Int)] (.string N3) ?_ (fun x hC => (HN3.out x).mono fun e x' h => ⟨h.1, hC.later h.2⟩) ?_; (intro x; go_simp); simp only [Act.put, Array.setIfInBounds, List.size_toArray, List.length_cons, List.length_nil, Nat.reduceAdd, Nat.reduceLT, ↓reduceDIte, List.set_toArray, List.set_cons_succ, List.set_cons_zero])
    | (refine wpQuiet_call rfl 61 #[.int .i64 8, .int .u64 (r.p : Int)] (.string N4) ?_ (fun x hC => (HN4.out x).mono fun e x' h => ⟨h.1, hC.later h.2⟩) ?_; (intro x; go_simp); simp only [Act.put, Array.setIfInBounds, List.size_toArray, List.length_cons, List.length_nil, Nat.reduceAdd, Nat.reduceLT, ↓reduceDIte, List.set_toArray, List.set_cons_succ, List.set_cons_zero])
    | (refine wpQuiet_plain rfl (fun K hK => ?_); go_simp; refine hK _ ?_; clear hK K))
  refine wpQuiet_nil ?_
  intro w1 h1
  have c0 : w1.cell? ⟨w.heap.size, 0, none⟩ = some (.int .i64 (kk : Int)) := (HC.out w1 h1.1.1).1
  have HK1 := hide h1
  have cr : w1.rangeAt w.heap.size 4 (chA r.c).toList := by have h := h1.1.1; rw [HA.out] at h; exact rc_change h
  rw [HCE.out] at cr
  have d4 := cr 0 (.int .i64 (ck : Int)) rfl
  have d5 := cr 1 (.int .i64 (cp : Int)) rfl
  have d6 := cr 2 (.int .i64 (cs : Int)) rfl
  have d7 := cr 3 (.string r.c.o) rfl
  have d8 := cr 4 (.string r.c.n) rfl
  clear cr
  clear h1 HN1 HN2 HN3 HN4
  rw [H6.out] at c0
  generalize mkS (beB 1 ck) = M1 at *
  generalize mkS (beB 2 cp) = M2 at *
  generalize mkS (beB 1 cs) = M3 at *
  generalize mkS (textB r.c.o.data.toList) = M4 at *
  generalize mkS (textB r.c.n.data.toList) = M5 at *
  have hs4 : (N1 ++ N2 ++ N3 ++ N4 ++ M1 ++ M2 ++ M3).size + M4.size ≤ 100000 := by simp only [ByteArray.size_append]; omega
  have HS4 := hide hs4
  have hs5 : (N1 ++ N2 ++ N3 ++ N4 ++ M1 ++ M2 ++ M3 ++ M4).size + M5.size ≤ 100000 := by simp only [ByteArray.size_append]; omega
  have HS5 := hide hs5
  clear hs4 hs5
  go_wp2_with fail
  have HK2 := hide (Keeps.more HK1.out ((Below.refl w1.heap.size w1).alloc (Nat.le_refl _) (.cells #[.int .i64 (ck : Int), .int .i64 (cp : Int), .int .i64 (cs : Int), .string r.c.o, .string r.c.n] 24)) (RowAt.new w1 24 #[.int .i64 (ck : Int), .int .i64 (cp : Int), .int .i64 (cs : Int), .string r.c.o, .string r.c.n]))
  generalize w1.alloc (.cells #[.int .i64 (ck : Int), .int .i64 (cp : Int), .int .i64 (cs : Int), .string r.c.o, .string r.c.n] 24) = w2 at HK2 ⊢
  generalize w1.heap.size = g at HK2 ⊢
  clear HK1 c0 d4 d5 d6 d7 d8
  refine wp_region_in (fun x => Keeps w x [(g, 24, #[.int .i64 (ck : Int), .int .i64 (cp : Int), .int .i64 (cs : Int), .string r.c.o, .string r.c.n]), (w.heap.size, 28, A)]) (by kernel_rfl) (by kernel_rfl) HK2.out.drew ?_
  clear HK2
  repeat (first
    | go_big_quiet_skip
    | (refine wpQuiet_load rfl 3 (.tmp 31) rfl _ (.int .i64 (ck : Int)) rfl (fun y hy => load_i64 y _ (hy.1.1.cell 0 (.int .i64 (ck : Int)) rfl)) ?_; simp only [Act.put, Array.setIfInBounds, List.size_toArray, List.length_cons, List.length_nil, Nat.reduceAdd, Nat.reduceLT, ↓reduceDIte, List.set_toArray, List.set_cons_succ, List.set_cons_zero])
    | (refine wpQuiet_load rfl 3 (.tmp 36) rfl _ (.int .i64 (cp : Int)) rfl (fun y hy => load_i64 y _ (hy.1.1.cell 1 (.int .i64 (cp : Int)) rfl)) ?_; simp only [Act.put, Array.setIfInBounds, List.size_toArray, List.length_cons, List.length_nil, Nat.reduceAdd, Nat.reduceLT, ↓reduceDIte, List.set_toArray, List.set_cons_succ, List.set_cons_zero])
    | (refine wpQuiet_load rfl 3 (.tmp 41) rfl _ (.int .i64 (cs : Int)) rfl (fun y hy => load_i64 y _ (hy.1.1.cell 2 (.int .i64 (cs : Int)) rfl)) ?_; simp only [Act.put, Array.setIfInBounds, List.size_toArray, List.length_cons, List.length_nil, Nat.reduceAdd, Nat.reduceLT, ↓reduceDIte, List.set_toArray, List.set_cons_succ, List.set_cons_zero])
    | (refine wpQuiet_load rfl 9 (.tmp 46) rfl _ (.string r.c.o) rfl (fun y hy => load_text y _ (hy.1.1.cell 3 (.string r.c.o) rfl)) ?_; simp only [Act.put, Array.setIfInBounds, List.size_toArray, List.length_cons, List.length_nil, Nat.reduceAdd, Nat.reduceLT, ↓reduceDIte, List.set_toArray, List.set_cons_succ, List.set_cons_zero])
    | (refine wpQuiet_load rfl 9 (.tmp 50) rfl _ (.string r.c.n) rfl (fun y hy => load_text y _ (hy.1.1.cell 4 (.string r.c.n) rfl)) ?_; simp only [Act.put, Array.setIfInBounds, List.size_toArray, List.length_cons, List.length_nil, Nat.reduceAdd, Nat.reduceLT, ↓reduceDIte, List.set_toArray, List.set_cons_succ, List.set_cons_zero])
    | (refine wpQuiet_call rfl 61 #[.int .i64 1, .int .u64 (ck : Int)] (.string M1) ?_ (fun x hC => (HM1.out x).mono fun e x' h => ⟨h.1, hC.later h.2⟩) ?_; (intro x; go_simp); simp only [Act.put, Array.setIfInBounds, List.size_toArray, List.length_cons, List.length_nil, Nat.reduceAdd, Nat.reduceLT, ↓reduceDIte, List.set_toArray, List.set_cons_succ, List.set_cons_zero])
    | (refine wpQuiet_call rfl 61 #[.int .i64 2, .int .u64 (cp : Int)] (.string M2) ?_ (fun x hC => (HM2.out x).mono fun e x' h => ⟨h.1, hC.later h.2⟩) ?_; (intro x; go_simp); simp only [Act.put, Array.setIfInBounds, List.size_toArray, List.length_cons, List.length_nil, Nat.reduceAdd, Nat.reduceLT, ↓reduceDIte, List.set_toArray, List.set_cons_succ, List.set_cons_zero])
    | (refine wpQuiet_call rfl 61 #[.int .i64 1, .int .u64 (cs : Int)] (.string M3) ?_ (fun x hC => (HM3.out x).mono fun e x' h => ⟨h.1, hC.later h.2⟩) ?_; (intro x; go_simp); simp only [Act.put, Array.setIfInBounds, List.size_toArray, List.length_cons, List.length_nil, Nat.reduceAdd, Nat.reduceLT, ↓reduceDIte, List.set_toArray, List.set_cons_succ, List.set_cons_zero])
    | (refine wpQuiet_call rfl 62 #[.string r.c.o] (.string M4) ?_ (fun x hC => (HM4.out x).mono fun e x' h => ⟨h.1, hC.later h.2⟩) ?_; (intro x; go_simp); simp only [Act.put, Array.setIfInBounds, List.size_toArray, List.length_cons, List.length_nil, Nat.reduceAdd, Nat.reduceLT, ↓reduceDIte, List.set_toArray, List.set_cons_succ, List.set_cons_zero])
    | (refine wpQuiet_call rfl 62 #[.string r.c.n] (.string M5) ?_ (fun x hC => (HM5.out x).mono fun e x' h => ⟨h.1, hC.later h.2⟩) ?_; (intro x; go_simp); simp only [Act.put, Array.setIfInBounds, List.size_toArray, List.length_cons, List.length_nil, Nat.reduceAdd, Nat.reduceLT, ↓reduceDIte, List.set_toArray, List.set_cons_succ, List.set_cons_zero])
    | (refine wpQuiet_binop rfl .add 9 9 (.tmp 45) (.tmp 48) rfl _ _ (.string (N1 ++ N2 ++ N3 ++ N4 ++ M1 ++ M2 ++ M3 ++ M4)) rfl rfl (fun y => add_guard _ _ _ _ y) (fun y => run_add_s _ _ HS4.out y) ?_; simp only [Act.put, Array.setIfInBounds, List.size_toArray, List.length_cons, List.length_nil, Nat.reduceAdd, Nat.reduceLT, ↓reduceDIte, List.set_toArray, List.set_cons_succ, List.set_cons_zero])
    | (refine wpQuiet_binop rfl .add 9 9 (.tmp 49) (.tmp 52) rfl _ _ (.string (N1 ++ N2 ++ N3 ++ N4 ++ M1 ++ M2 ++ M3 ++ M4 ++ M5)) rfl rfl (fun y => add_guard _ _ _ _ y) (fun y => run_add_s _ _ HS5.out y) ?_; simp only [Act.put, Array.setIfInBounds, List.size_toArray, List.length_cons, List.length_nil, Nat.reduceAdd, Nat.reduceLT, ↓reduceDIte, List.set_toArray, List.set_cons_succ, List.set_cons_zero])
    | (refine wpQuiet_plain rfl (fun K hK => ?_); go_simp; refine hK _ ?_; clear hK K))
  refine wpQuiet_nil ?_
  intro w3 h3
  have c0 := (HC.out w3 h3.1.2.1).1
  rw [H6.out] at c0
  have d3 := h3.2
  clear h3 HM1 HM2 HM3 HM4 HM5
  go_wp2
  go_ret
  exact ⟨by rw [HE.out]; rfl, d3⟩

set_option maxRecDepth 8000 in
set_option maxHeartbeats 3200000 in
theorem bytes_clr (r : Rec) (va vb : Value) (w : World) (hr : r.right) (hkc : r.k = 2) (hin : RcIn w r va vb) :
    Calls Try.prog 45 #[.agg (rcA r va vb)] w fun e w' => e = .returned (.string (mkS (recB r))) ∧ Below w.heap.size w w' := by
  obtain ⟨kk, hk⟩ := Int.eq_ofNat_of_zero_le (show 0 ≤ r.k by have := hr.k1; omega)
  obtain ⟨tt, ht⟩ := Int.eq_ofNat_of_zero_le (show 0 ≤ r.t by by_cases h : r.k ≤ 6; (have := hr.own h; omega); (have := hr.none (by omega); omega))
  have hll := hr.lm
  unfold maxP at hll
  have hpp : r.p < 18446744073709551616 := by by_cases h : r.k ≤ 6; (have := hr.own h; omega); (have := hr.none (by omega); omega)
  have htt : tt < 18446744073709551616 := by by_cases h : r.k ≤ 6; (have := hr.own h; omega); (have := hr.none (by omega); omega)
  have hkk : kk ≤ 8 := by have := hr.k8; omega
  have HN1 := hide (fun w => num6_any 1 kk w (by omega) (by omega))
  have HN2 := hide (fun w => num6_any 8 r.l w (by omega) (by omega))
  have HN3 := hide (fun w => num6_any 4 tt w (by omega) htt)
  have HN4 := hide (fun w => num6_any 8 r.p w (by omega) hpp)
  have z1 := mkS_size (beB 1 kk)
  have z2 := mkS_size (beB 8 r.l)
  have z3 := mkS_size (beB 4 tt)
  have z4 := mkS_size (beB 8 r.p)
  rw [beB_length] at z1 z2 z3 z4
  have u1 : IntKind.u64.wrap (kk : Int) = (kk : Int) := by rw [IntKind.wrap_u64]; omega
  have u2 : IntKind.u64.wrap (tt : Int) = (tt : Int) := by rw [IntKind.wrap_u64]; omega
  have hc := hr.ch (by omega)
  obtain ⟨ck, h1⟩ := Int.eq_ofNat_of_zero_le (show 0 ≤ r.c.k by rcases hc.2 with h | h | h <;> omega)
  obtain ⟨cp, h2⟩ := Int.eq_ofNat_of_zero_le hc.1.1
  obtain ⟨cs, h3⟩ := Int.eq_ofNat_of_zero_le hc.1.2.2.1
  have hck : ck < 18446744073709551616 := by rcases hc.2 with h | h | h <;> omega
  have hcp : cp < 18446744073709551616 := by have := hc.1; omega
  have hcs : cs < 18446744073709551616 := by have := hc.1; omega
  have HM1 := hide (fun w => num6_any 1 ck w (by omega) hck)
  have HM2 := hide (fun w => num6_any 2 cp w (by omega) hcp)
  have HM3 := hide (fun w => num6_any 1 cs w (by omega) hcs)
  have HM4 := hide (fun w => text6_any r.c.o w (by have := hc.1; omega))
  have HM5 := hide (fun w => text6_any r.c.n w (by have := hc.1; omega))
  have y1 := mkS_size (beB 1 ck)
  have y2 := mkS_size (beB 2 cp)
  have y3 := mkS_size (beB 1 cs)
  have y4 := mkS_size (textB r.c.o.data.toList)
  have y5 := mkS_size (textB r.c.n.data.toList)
  rw [beB_length] at y1 y2 y3
  rw [textB_length, data_length] at y4 y5
  have y6 := hc.1.2.2.2.2.1
  have y7 := hc.1.2.2.2.2.2
  have v1 : IntKind.u64.wrap (ck : Int) = (ck : Int) := by rw [IntKind.wrap_u64]; omega
  have v2 : IntKind.u64.wrap (cp : Int) = (cp : Int) := by rw [IntKind.wrap_u64]; omega
  have v3 : IntKind.u64.wrap (cs : Int) = (cs : Int) := by rw [IntKind.wrap_u64]; omega
  have hnn : r.n < 18446744073709551616 := by have := hr.next hkc; omega
  have HM6 := hide (fun w => num6_any 8 r.n w (by omega) hnn)
  have y8 := mkS_size (beB 8 r.n)
  rw [beB_length] at y8
  have he : mkS (recB r) = mkS (beB 1 kk) ++ mkS (beB 8 r.l) ++ mkS (beB 4 tt) ++ mkS (beB 8 r.p) ++ mkS (beB 1 ck) ++ mkS (beB 2 cp) ++ mkS (beB 1 cs) ++ mkS (textB r.c.o.data.toList) ++ mkS (textB r.c.n.data.toList) ++ mkS (beB 8 r.n) := by
    unfold recB mayB chB
    rw [if_pos (by omega), if_pos hkc, if_neg (by omega), if_neg (by omega), hk, ht, h1, h2, h3]
    simp only [Int.toNat_natCast, mkS_append, List.append_nil, List.append_assoc]
  have HE := hide he
  clear he
  have H6 : Hid ((kk : Int) = 2) := show (kk : Int) = 2 by omega
  have HCE : Hid (chA r.c = #[.int .i64 (ck : Int), .int .i64 (cp : Int), .int .i64 (cs : Int), .string r.c.o, .string r.c.n]) := by
    unfold chA
    rw [h1, h2, h3]
    exact rfl
  clear hr hkc hin hkk hc h1 h2 h3
  have HH : True := trivial
  have HK0 := hide (Keeps.one w 28 (rcA r va vb))
  obtain ⟨A, hA⟩ : ∃ A, A = rcA r va vb := ⟨_, rfl⟩
  rw [← hA] at HK0 ⊢
  have HA := hide hA
  clear hA
  have HC : Hid (∀ y : World, RowAt y w.heap.size 28 A → y.cell? ⟨w.heap.size, 0, none⟩ = some (.int .i64 (kk : Int)) ∧ y.cell? ⟨w.heap.size, 1, none⟩ = some (.int .u64 (r.l : Int)) ∧ y.cell? ⟨w.heap.size, 2, none⟩ = some (.int .i64 (tt : Int)) ∧ y.cell? ⟨w.heap.size, 3, none⟩ = some (.int .u64 (r.p : Int))) := fun y h => by
    rw [HA.out] at h
    obtain ⟨a0, a1, a2, a3, -⟩ := rc_cells h
    rw [hk] at a0
    rw [ht] at a2
    exact ⟨a0, a1, a2, a3⟩
  generalize mkS (beB 1 kk) = N1 at *
  generalize mkS (beB 8 r.l) = N2 at *
  generalize mkS (beB 4 tt) = N3 at *
  generalize mkS (beB 8 r.p) = N4 at *
  go_enter Try.func45, Try.ntmps45
  go_wp2_with fail
  refine wp_region_in (fun x => Keeps w x [(w.heap.size, 28, A)]) (by kernel_rfl) (by kernel_rfl) HK0.out.drew ?_
  clear HK0
  repeat (first
    | go_big_quiet_skip
    | (refine wpQuiet_load rfl 3 (.tmp 8) rfl _ (.int .i64 (kk : Int)) rfl (fun y hy => load_i64 y _ (HC.out y hy.1.1).1) ?_; simp only [Act.put, Array.setIfInBounds, List.size_toArray, List.length_cons, List.length_nil, Nat.reduceAdd, Nat.reduceLT, ↓reduceDIte, List.set_toArray, List.set_cons_succ, List.set_cons_zero])
    | (refine wpQuiet_load rfl 22 (.tmp 12) rfl _ (.int .u64 (r.l : Int)) rfl (fun y hy => load_u64 y _ (HC.out y hy.1.1).2.1) ?_; simp only [Act.put, Array.setIfInBounds, List.size_toArray, List.length_cons, List.length_nil, Nat.reduceAdd, Nat.reduceLT, ↓reduceDIte, List.set_toArray, List.set_cons_succ, List.set_cons_zero])
    | (refine wpQuiet_load rfl 3 (.tmp 16) rfl _ (.int .i64 (tt : Int)) rfl (fun y hy => load_i64 y _ (HC.out y hy.1.1).2.2.1) ?_; simp only [Act.put, Array.setIfInBounds, List.size_toArray, List.length_cons, List.length_nil, Nat.reduceAdd, Nat.reduceLT, ↓reduceDIte, List.set_toArray, List.set_cons_succ, List.set_cons_zero])
    | (refine wpQuiet_load rfl 22 (.tmp 21) rfl _ (.int .u64 (r.p : Int)) rfl (fun y hy => load_u64 y _ (HC.out y hy.1.1).2.2.2) ?_; simp only [Act.put, Array.setIfInBounds, List.size_toArray, List.length_cons, List.length_nil, Nat.reduceAdd, Nat.reduceLT, ↓reduceDIte, List.set_toArray, List.set_cons_succ, List.set_cons_zero])
    | (refine wpQuiet_call rfl 61 #[.int .i64 1, .int .u64 (kk : Int)] (.string N1) ?_ (fun x hC => (HN1.out x).mono fun e x' h => ⟨h.1, hC.later h.2⟩) ?_; (intro x; go_simp); simp only [Act.put, Array.setIfInBounds, List.size_toArray, List.length_cons, List.length_nil, Nat.reduceAdd, Nat.reduceLT, ↓reduceDIte, List.set_toArray, List.set_cons_succ, List.set_cons_zero])
    | (refine wpQuiet_call rfl 61 #[.int .i64 8, .int .u64 (r.l : Int)] (.string N2) ?_ (fun x hC => (HN2.out x).mono fun e x' h => ⟨h.1, hC.later h.2⟩) ?_; (intro x; go_simp); simp only [Act.put, Array.setIfInBounds, List.size_toArray, List.length_cons, List.length_nil, Nat.reduceAdd, Nat.reduceLT, ↓reduceDIte, List.set_toArray, List.set_cons_succ, List.set_cons_zero])
    | (refine wpQuiet_call rfl 61 #[.int .i64 4, .int .u64 (tt : Int)] (.string N3) ?_ (fun x hC => (HN3.out x).mono fun e x' h => ⟨h.1, hC.later h.2⟩) ?_; (intro x; go_simp); simp only [Act.put, Array.setIfInBounds, List.size_toArray, List.length_cons, List.length_nil, Nat.reduceAdd, Nat.reduceLT, ↓reduceDIte, List.set_toArray, List.set_cons_succ, List.set_cons_zero])
    | (refine wpQuiet_call rfl 61 #[.int .i64 8, .int .u64 (r.p : Int)] (.string N4) ?_ (fun x hC => (HN4.out x).mono fun e x' h => ⟨h.1, hC.later h.2⟩) ?_; (intro x; go_simp); simp only [Act.put, Array.setIfInBounds, List.size_toArray, List.length_cons, List.length_nil, Nat.reduceAdd, Nat.reduceLT, ↓reduceDIte, List.set_toArray, List.set_cons_succ, List.set_cons_zero])
    | (refine wpQuiet_plain rfl (fun K hK => ?_); go_simp; refine hK _ ?_; clear hK K))
  refine wpQuiet_nil ?_
  intro w1 h1
  have c0 : w1.cell? ⟨w.heap.size, 0, none⟩ = some (.int .i64 (kk : Int)) := (HC.out w1 h1.1.1).1
  have HK1 := hide h1
  have cr : w1.rangeAt w.heap.size 4 (chA r.c).toList := by have h := h1.1.1; rw [HA.out] at h; exact rc_change h
  rw [HCE.out] at cr
  have d4 := cr 0 (.int .i64 (ck : Int)) rfl
  have d5 := cr 1 (.int .i64 (cp : Int)) rfl
  have d6 := cr 2 (.int .i64 (cs : Int)) rfl
  have d7 := cr 3 (.string r.c.o) rfl
  have d8 := cr 4 (.string r.c.n) rfl
  clear cr
  clear h1 HN1 HN2 HN3 HN4
  rw [H6.out] at c0
  generalize mkS (beB 1 ck) = M1 at *
  generalize mkS (beB 2 cp) = M2 at *
  generalize mkS (beB 1 cs) = M3 at *
  generalize mkS (textB r.c.o.data.toList) = M4 at *
  generalize mkS (textB r.c.n.data.toList) = M5 at *
  have hs4 : (N1 ++ N2 ++ N3 ++ N4 ++ M1 ++ M2 ++ M3).size + M4.size ≤ 100000 := by simp only [ByteArray.size_append]; omega
  have HS4 := hide hs4
  have hs5 : (N1 ++ N2 ++ N3 ++ N4 ++ M1 ++ M2 ++ M3 ++ M4).size + M5.size ≤ 100000 := by simp only [ByteArray.size_append]; omega
  have HS5 := hide hs5
  clear hs4 hs5
  generalize mkS (beB 8 r.n) = M6 at *
  have HS6 : (((N1 ++ N2 ++ N3 ++ N4 ++ M1 ++ M2 ++ M3 ++ M4 ++ M5).size : Nat) : Int) + (M6.size : Int) ≤ 9223372036854775807 := by simp only [ByteArray.size_append]; omega
  go_wp2_with fail
  have HK2 := hide (Keeps.more HK1.out ((Below.refl w1.heap.size w1).alloc (Nat.le_refl _) (.cells #[.int .i64 (ck : Int), .int .i64 (cp : Int), .int .i64 (cs : Int), .string r.c.o, .string r.c.n] 24)) (RowAt.new w1 24 #[.int .i64 (ck : Int), .int .i64 (cp : Int), .int .i64 (cs : Int), .string r.c.o, .string r.c.n]))
  generalize w1.alloc (.cells #[.int .i64 (ck : Int), .int .i64 (cp : Int), .int .i64 (cs : Int), .string r.c.o, .string r.c.n] 24) = w2 at HK2 ⊢
  generalize w1.heap.size = g at HK2 ⊢
  clear HK1 c0 d4 d5 d6 d7 d8
  refine wp_region_in (fun x => Keeps w x [(g, 24, #[.int .i64 (ck : Int), .int .i64 (cp : Int), .int .i64 (cs : Int), .string r.c.o, .string r.c.n]), (w.heap.size, 28, A)]) (by kernel_rfl) (by kernel_rfl) HK2.out.drew ?_
  clear HK2
  repeat (first
    | go_big_quiet_skip
    | (refine wpQuiet_load rfl 3 (.tmp 31) rfl _ (.int .i64 (ck : Int)) rfl (fun y hy => load_i64 y _ (hy.1.1.cell 0 (.int .i64 (ck : Int)) rfl)) ?_; simp only [Act.put, Array.setIfInBounds, List.size_toArray, List.length_cons, List.length_nil, Nat.reduceAdd, Nat.reduceLT, ↓reduceDIte, List.set_toArray, List.set_cons_succ, List.set_cons_zero])
    | (refine wpQuiet_load rfl 3 (.tmp 36) rfl _ (.int .i64 (cp : Int)) rfl (fun y hy => load_i64 y _ (hy.1.1.cell 1 (.int .i64 (cp : Int)) rfl)) ?_; simp only [Act.put, Array.setIfInBounds, List.size_toArray, List.length_cons, List.length_nil, Nat.reduceAdd, Nat.reduceLT, ↓reduceDIte, List.set_toArray, List.set_cons_succ, List.set_cons_zero])
    | (refine wpQuiet_load rfl 3 (.tmp 41) rfl _ (.int .i64 (cs : Int)) rfl (fun y hy => load_i64 y _ (hy.1.1.cell 2 (.int .i64 (cs : Int)) rfl)) ?_; simp only [Act.put, Array.setIfInBounds, List.size_toArray, List.length_cons, List.length_nil, Nat.reduceAdd, Nat.reduceLT, ↓reduceDIte, List.set_toArray, List.set_cons_succ, List.set_cons_zero])
    | (refine wpQuiet_load rfl 9 (.tmp 46) rfl _ (.string r.c.o) rfl (fun y hy => load_text y _ (hy.1.1.cell 3 (.string r.c.o) rfl)) ?_; simp only [Act.put, Array.setIfInBounds, List.size_toArray, List.length_cons, List.length_nil, Nat.reduceAdd, Nat.reduceLT, ↓reduceDIte, List.set_toArray, List.set_cons_succ, List.set_cons_zero])
    | (refine wpQuiet_load rfl 9 (.tmp 50) rfl _ (.string r.c.n) rfl (fun y hy => load_text y _ (hy.1.1.cell 4 (.string r.c.n) rfl)) ?_; simp only [Act.put, Array.setIfInBounds, List.size_toArray, List.length_cons, List.length_nil, Nat.reduceAdd, Nat.reduceLT, ↓reduceDIte, List.set_toArray, List.set_cons_succ, List.set_cons_zero])
    | (refine wpQuiet_call rfl 61 #[.int .i64 1, .int .u64 (ck : Int)] (.string M1) ?_ (fun x hC => (HM1.out x).mono fun e x' h => ⟨h.1, hC.later h.2⟩) ?_; (intro x; go_simp); simp only [Act.put, Array.setIfInBounds, List.size_toArray, List.length_cons, List.length_nil, Nat.reduceAdd, Nat.reduceLT, ↓reduceDIte, List.set_toArray, List.set_cons_succ, List.set_cons_zero])
    | (refine wpQuiet_call rfl 61 #[.int .i64 2, .int .u64 (cp : Int)] (.string M2) ?_ (fun x hC => (HM2.out x).mono fun e x' h => ⟨h.1, hC.later h.2⟩) ?_; (intro x; go_simp); simp only [Act.put, Array.setIfInBounds, List.size_toArray, List.length_cons, List.length_nil, Nat.reduceAdd, Nat.reduceLT, ↓reduceDIte, List.set_toArray, List.set_cons_succ, List.set_cons_zero])
    | (refine wpQuiet_call rfl 61 #[.int .i64 1, .int .u64 (cs : Int)] (.string M3) ?_ (fun x hC => (HM3.out x).mono fun e x' h => ⟨h.1, hC.later h.2⟩) ?_; (intro x; go_simp); simp only [Act.put, Array.setIfInBounds, List.size_toArray, List.length_cons, List.length_nil, Nat.reduceAdd, Nat.reduceLT, ↓reduceDIte, List.set_toArray, List.set_cons_succ, List.set_cons_zero])
    | (refine wpQuiet_call rfl 62 #[.string r.c.o] (.string M4) ?_ (fun x hC => (HM4.out x).mono fun e x' h => ⟨h.1, hC.later h.2⟩) ?_; (intro x; go_simp); simp only [Act.put, Array.setIfInBounds, List.size_toArray, List.length_cons, List.length_nil, Nat.reduceAdd, Nat.reduceLT, ↓reduceDIte, List.set_toArray, List.set_cons_succ, List.set_cons_zero])
    | (refine wpQuiet_call rfl 62 #[.string r.c.n] (.string M5) ?_ (fun x hC => (HM5.out x).mono fun e x' h => ⟨h.1, hC.later h.2⟩) ?_; (intro x; go_simp); simp only [Act.put, Array.setIfInBounds, List.size_toArray, List.length_cons, List.length_nil, Nat.reduceAdd, Nat.reduceLT, ↓reduceDIte, List.set_toArray, List.set_cons_succ, List.set_cons_zero])
    | (refine wpQuiet_binop rfl .add 9 9 (.tmp 45) (.tmp 48) rfl _ _ (.string (N1 ++ N2 ++ N3 ++ N4 ++ M1 ++ M2 ++ M3 ++ M4)) rfl rfl (fun y => add_guard _ _ _ _ y) (fun y => run_add_s _ _ HS4.out y) ?_; simp only [Act.put, Array.setIfInBounds, List.size_toArray, List.length_cons, List.length_nil, Nat.reduceAdd, Nat.reduceLT, ↓reduceDIte, List.set_toArray, List.set_cons_succ, List.set_cons_zero])
    | (refine wpQuiet_binop rfl .add 9 9 (.tmp 49) (.tmp 52) rfl _ _ (.string (N1 ++ N2 ++ N3 ++ N4 ++ M1 ++ M2 ++ M3 ++ M4 ++ M5)) rfl rfl (fun y => add_guard _ _ _ _ y) (fun y => run_add_s _ _ HS5.out y) ?_; simp only [Act.put, Array.setIfInBounds, List.size_toArray, List.length_cons, List.length_nil, Nat.reduceAdd, Nat.reduceLT, ↓reduceDIte, List.set_toArray, List.set_cons_succ, List.set_cons_zero])
    | (refine wpQuiet_plain rfl (fun K hK => ?_); go_simp; refine hK _ ?_; clear hK K))
  refine wpQuiet_nil ?_
  intro w3 h3
  have c0 := (HC.out w3 h3.1.2.1).1
  rw [H6.out] at c0
  have c9 : w3.cell? ⟨w.heap.size, 9, none⟩ = some (.int .u64 (r.n : Int)) := by have h := h3.1.2.1; rw [HA.out] at h; exact (rc_cells h).2.2.2.2.1
  have HK3 := hide h3
  clear h3 HM1 HM2 HM3 HM4 HM5
  go_wp2_with fail
  refine (HM6.out _).mono ?_
  rintro e w4 ⟨rfl, hb4⟩
  have d4 := (HK3.out.later hb4).2
  clear HK3 HM6 hb4 c0 c9
  go_wp2
  go_ret
  exact ⟨by rw [HE.out]; rfl, d4⟩

end Go.Proofs.Ytgobegpmojkhaaa

/-
  The contract of quaysideref06.Bytes, of a checkpoint's record.
-/
namespace Go.Proofs.Ytgobegpmojkhaaa
open Go.RowKit
set_option linter.unusedVariables false

theorem take_flat {α : Type} (f : α → List UInt8) (z : α) (xs : List α) (j : Nat) (hj : j < xs.length) : (xs.take (j + 1)).flatMap f = (xs.take j).flatMap f ++ f (xs.getD j z) := by
  have e : xs.getD j z = xs[j] := by simp [List.getD, hj]
  rw [List.take_succ_eq_append_getElem hj, List.flatMap_append, e]
  simp
theorem mkS_eq {a b : List UInt8} (h : a = b) : mkS a = mkS b := by rw [h]

set_option maxRecDepth 8000 in
set_option maxHeartbeats 12800000 in
theorem bytes_check (r : Rec) (va vb : Value) (w : World) (hr : r.right) (hkc : r.k = 8) (hin : RcIn w r va vb) :
    Calls Try.prog 45 #[.agg (rcA r va vb)] w fun e w' => e = .returned (.string (mkS (recB r))) ∧ Below w.heap.size w w' := by
  obtain ⟨kk, hk⟩ := Int.eq_ofNat_of_zero_le (show 0 ≤ r.k by have := hr.k1; omega)
  obtain ⟨tt, ht⟩ := Int.eq_ofNat_of_zero_le (show 0 ≤ r.t by by_cases h : r.k ≤ 6; (have := hr.own h; omega); (have := hr.none (by omega); omega))
  have hll := hr.lm
  unfold maxP at hll
  have hpp : r.p < 18446744073709551616 := by by_cases h : r.k ≤ 6; (have := hr.own h; omega); (have := hr.none (by omega); omega)
  have htt : tt < 18446744073709551616 := by by_cases h : r.k ≤ 6; (have := hr.own h; omega); (have := hr.none (by omega); omega)
  have hkk : kk ≤ 8 := by have := hr.k8; omega
  have HN1 := hide (fun w => num6_any 1 kk w (by omega) (by omega))
  have HN2 := hide (fun w => num6_any 8 r.l w (by omega) (by omega))
  have HN3 := hide (fun w => num6_any 4 tt w (by omega) htt)
  have HN4 := hide (fun w => num6_any 8 r.p w (by omega) hpp)
  have z1 := mkS_size (beB 1 kk)
  have z2 := mkS_size (beB 8 r.l)
  have z3 := mkS_size (beB 4 tt)
  have z4 := mkS_size (beB 8 r.p)
  rw [beB_length] at z1 z2 z3 z4
  have u1 : IntKind.u64.wrap (kk : Int) = (kk : Int) := by rw [IntKind.wrap_u64]; omega
  have u2 : IntKind.u64.wrap (tt : Int) = (tt : Int) := by rw [IntKind.wrap_u64]; omega
  have hrow := hr.check hkc
  have HROW := hide hrow
  have hbb : r.b < 18446744073709551616 := by have := hrow.2.2.2.2.2; omega
  have HP1 := hide (fun w => num6_any 8 r.b w (by omega) hbb)
  have HP2 := hide (fun w => num6_any 1 r.ts.length w (by omega) (by have := hrow.1; omega))
  have HP3 := hide (fun w => num6_any 1 r.ds.length w (by omega) (by have := hrow.2.1; omega))
  have q1 := mkS_size (beB 8 r.b)
  have q2 := mkS_size (beB 1 r.ts.length)
  have q3 := mkS_size (beB 1 r.ds.length)
  rw [beB_length] at q1 q2 q3
  have n16 := hrow.1
  have n32 := hrow.2.1
  have v1 : IntKind.u64.wrap (r.ts.length : Int) = (r.ts.length : Int) := by rw [IntKind.wrap_u64]; omega
  have v2 : IntKind.u64.wrap (r.ds.length : Int) = (r.ds.length : Int) := by rw [IntKind.wrap_u64]; omega
  obtain ⟨hd, hhd⟩ : ∃ hd, hd = beB 1 kk ++ (beB 8 r.l ++ (beB 4 tt ++ (beB 8 r.p ++ (beB 8 r.b ++ beB 1 r.ts.length)))) := ⟨_, rfl⟩
  have he : mkS (beB 1 kk) ++ mkS (beB 8 r.l) ++ mkS (beB 4 tt) ++ mkS (beB 8 r.p) ++ mkS (beB 8 r.b) ++ mkS (beB 1 r.ts.length) = mkS hd := by
    rw [hhd]
    simp only [mkS_append, List.append_assoc]
  have hhl : hd.length = 30 := by
    rw [hhd]
    simp only [List.length_append, beB_length]
  have HE := hide he
  have hf : recB r = hd ++ (txsB r.ts ++ (beB 1 r.ds.length ++ disB r.ds)) := by
    rw [hhd]
    unfold recB mayB checkB
    rw [if_neg (by omega), if_neg (by omega), if_neg (by omega), if_pos hkc, hk, ht]
    simp only [Int.toNat_natCast, List.append_assoc, List.nil_append]
  have HFN := hide hf
  have H6 : Hid ((kk : Int) = 8) := show (kk : Int) = 8 by omega
  have HIN := hide hin
  obtain ⟨⟨e1, cap1, rfl, -⟩, ⟨e2, cap2, rfl, -⟩⟩ := hin
  clear hr hkc hkk hrow he hf hhd
  have HK0 := hide (Keeps.one w 28 (rcA r (.slice e1 r.ts.length cap1) (.slice e2 r.ds.length cap2)))
  obtain ⟨A, hA⟩ : ∃ A, A = rcA r (.slice e1 r.ts.length cap1) (.slice e2 r.ds.length cap2) := ⟨_, rfl⟩
  rw [← hA] at HK0 ⊢
  have HA := hide hA
  clear hA
  have HC : Hid (∀ y : World, RowAt y w.heap.size 28 A → y.cell? ⟨w.heap.size, 0, none⟩ = some (.int .i64 (kk : Int)) ∧ y.cell? ⟨w.heap.size, 1, none⟩ = some (.int .u64 (r.l : Int)) ∧ y.cell? ⟨w.heap.size, 2, none⟩ = some (.int .i64 (tt : Int)) ∧ y.cell? ⟨w.heap.size, 3, none⟩ = some (.int .u64 (r.p : Int))) := fun y h => by
    rw [HA.out] at h
    obtain ⟨a0, a1, a2, a3, -⟩ := rc_cells h
    rw [hk] at a0
    rw [ht] at a2
    exact ⟨a0, a1, a2, a3⟩
  generalize mkS (beB 1 kk) = N1 at *
  generalize mkS (beB 8 r.l) = N2 at *
  generalize mkS (beB 4 tt) = N3 at *
  generalize mkS (beB 8 r.p) = N4 at *
  go_enter Try.func45, Try.ntmps45
  go_wp2_with fail
  refine wp_region_in (fun x => Keeps w x [(w.heap.size, 28, A)]) (by kernel_rfl) (by kernel_rfl) HK0.out.drew ?_
  clear HK0
  repeat (first
    | go_big_quiet_skip
    | (refine wpQuiet_load rfl 3 (.tmp 8) rfl _ (.int .i64 (kk : Int)) rfl (fun y hy => load_i64 y _ (HC.out y hy.1.1).1) ?_; simp only [Act.put, Array.setIfInBounds, List.size_toArray, List.length_cons, List.length_nil, Nat.reduceAdd, Nat.reduceLT, ↓reduceDIte, List.set_toArray, List.set_cons_succ, List.set_cons_zero])
    | (refine wpQuiet_load rfl 22 (.tmp 12) rfl _ (.int .u64 (r.l : Int)) rfl (fun y hy => load_u64 y _ (HC.out y hy.1.1).2.1) ?_; simp only [Act.put, Array.setIfInBounds, List.size_toArray, List.length_cons, List.length_nil, Nat.reduceAdd, Nat.reduceLT, ↓reduceDIte, List.set_toArray, List.set_cons_succ, List.set_cons_zero])
    | (refine wpQuiet_load rfl 3 (.tmp 16) rfl _ (.int .i64 (tt : Int)) rfl (fun y hy => load_i64 y _ (HC.out y hy.1.1).2.2.1) ?_; simp only [Act.put, Array.setIfInBounds, List.size_toArray, List.length_cons, List.length_nil, Nat.reduceAdd, Nat.reduceLT, ↓reduceDIte, List.set_toArray, List.set_cons_succ, List.set_cons_zero])
    | (refine wpQuiet_load rfl 22 (.tmp 21) rfl _ (.int .u64 (r.p : Int)) rfl (fun y hy => load_u64 y _ (HC.out y hy.1.1).2.2.2) ?_; simp only [Act.put, Array.setIfInBounds, List.size_toArray, List.length_cons, List.length_nil, Nat.reduceAdd, Nat.reduceLT, ↓reduceDIte, List.set_toArray, List.set_cons_succ, List.set_cons_zero])
    | (refine wpQuiet_call rfl 61 #[.int .i64 1, .int .u64 (kk : Int)] (.string N1) ?_ (fun x hC => (HN1.out x).mono fun e x' h => ⟨h.1, hC.later h.2⟩) ?_; (intro x; go_simp); simp only [Act.put, Array.setIfInBounds, List.size_toArray, List.length_cons, List.length_nil, Nat.reduceAdd, Nat.reduceLT, ↓reduceDIte, List.set_toArray, List.set_cons_succ, List.set_cons_zero])
    | (refine wpQuiet_call rfl 61 #[.int .i64 8, .int .u64 (r.l : Int)] (.string N2) ?_ (fun x hC => (HN2.out x).mono fun e x' h => ⟨h.1, hC.later h.2⟩) ?_; (intro x; go_simp); simp only [Act.put, Array.setIfInBounds, List.size_toArray, List.length_cons, List.length_nil, Nat.reduceAdd, Nat.reduceLT, ↓reduceDIte, List.set_toArray, List.set_cons_succ, List.set_cons_zero])
    | (refine wpQuiet_call rfl 61 #[.int .i64 4, .int .u64 (tt : Int)] (.string N3) ?_ (fun x hC => (HN3.out x).mono fun e x' h => ⟨h.1, hC.later h.2⟩) ?_; (intro x; go_simp); simp only [Act.put, Array.setIfInBounds, List.size_toArray, List.length_cons, List.length_nil, Nat.reduceAdd, Nat.reduceLT, ↓reduceDIte, List.set_toArray, List.set_cons_succ, List.set_cons_zero])
    | (refine wpQuiet_call rfl 61 #[.int .i64 8, .int .u64 (r.p : Int)] (.string N4) ?_ (fun x hC => (HN4.out x).mono fun e x' h => ⟨h.1, hC.later h.2⟩) ?_; (intro x; go_simp); simp only [Act.put, Array.setIfInBounds, List.size_toArray, List.length_cons, List.length_nil, Nat.reduceAdd, Nat.reduceLT, ↓reduceDIte, List.set_toArray, List.set_cons_succ, List.set_cons_zero])
    | (refine wpQuiet_plain rfl (fun K hK => ?_); go_simp; refine hK _ ?_; clear hK K))
  refine wpQuiet_nil ?_
  intro w1 h1
  have c0 : w1.cell? ⟨w.heap.size, 0, none⟩ = some (.int .i64 (kk : Int)) := (HC.out w1 h1.1.1).1
  have HK1 := hide h1
  clear h1 HN1 HN2 HN3 HN4
  rw [H6.out] at c0
  generalize mkS (beB 8 r.b) = P1 at *
  generalize mkS (beB 1 r.ts.length) = P2 at *
  obtain ⟨P3, hP3⟩ : ∃ P3, P3 = mkS (beB 1 r.ds.length) := ⟨_, rfl⟩
  rw [← hP3] at HP3 q3
  have HPE : Hid (mkS (beB 1 r.ds.length) = P3) := hP3.symm
  clear hP3
  go_wp2_with fail
  clear c0
  refine wp_region_in (fun x => Keeps w x [(w.heap.size, 28, A)]) (by kernel_rfl) (by kernel_rfl) HK1.out.drew ?_
  clear HK1
  have HCB : Hid (∀ y : World, RowAt y w.heap.size 28 A → y.cell? ⟨w.heap.size, 11, none⟩ = some (.int .u64 (r.b : Int)) ∧ y.cell? ⟨w.heap.size, 12, none⟩ = some (.slice e1 r.ts.length cap1) ∧ y.cell? ⟨w.heap.size, 13, none⟩ = some (.slice e2 r.ds.length cap2)) := fun y h => by
    rw [HA.out] at h
    obtain ⟨-, -, -, -, -, -, a, b, c⟩ := rc_cells h
    exact ⟨a, b, c⟩
  repeat (first
    | go_big_quiet_skip
    | (refine wpQuiet_load rfl 22 (.tmp 74) rfl _ (.int .u64 (r.b : Int)) rfl (fun y hy => load_u64 y _ (HCB.out y hy.1.1).1) ?_; simp only [Act.put, Array.setIfInBounds, List.size_toArray, List.length_cons, List.length_nil, Nat.reduceAdd, Nat.reduceLT, ↓reduceDIte, List.set_toArray, List.set_cons_succ, List.set_cons_zero])
    | (refine wpQuiet_load rfl 25 (.tmp 78) rfl _ (.slice e1 r.ts.length cap1) rfl (fun y hy => load_txs y _ _ _ (HCB.out y hy.1.1).2.1) ?_; simp only [Act.put, Array.setIfInBounds, List.size_toArray, List.length_cons, List.length_nil, Nat.reduceAdd, Nat.reduceLT, ↓reduceDIte, List.set_toArray, List.set_cons_succ, List.set_cons_zero])
    | (refine wpQuiet_call rfl 61 #[.int .i64 8, .int .u64 (r.b : Int)] (.string P1) ?_ (fun x hC => (HP1.out x).mono fun e x' h => ⟨h.1, hC.later h.2⟩) ?_; (intro x; go_simp); simp only [Act.put, Array.setIfInBounds, List.size_toArray, List.length_cons, List.length_nil, Nat.reduceAdd, Nat.reduceLT, ↓reduceDIte, List.set_toArray, List.set_cons_succ, List.set_cons_zero])
    | (refine wpQuiet_call rfl 61 #[.int .i64 1, .int .u64 (r.ts.length : Int)] (.string P2) ?_ (fun x hC => (HP2.out x).mono fun e x' h => ⟨h.1, hC.later h.2⟩) ?_; (intro x; go_simp); simp only [Act.put, Array.setIfInBounds, List.size_toArray, List.length_cons, List.length_nil, Nat.reduceAdd, Nat.reduceLT, ↓reduceDIte, List.set_toArray, List.set_cons_succ, List.set_cons_zero])
    | (refine wpQuiet_plain rfl (fun K hK => ?_); go_simp; refine hK _ ?_; clear hK K))
  refine wpQuiet_nil ?_
  intro w2 h2
  rw [HE.out]
  have c12 := (HCB.out w2 h2.1.1).2.1
  have HK2 := hide h2
  clear h2 HE HP1 HP2 q1 q2 z1 z2 z3 z4 u1 u2
  go_wp2
  clear c12
  go_loopw [87, 3] (fun v v3 wr => ∃ j : Nat, j ≤ r.ts.length ∧ v = .int .i64 j ∧ v3 = .string (mkS (hd ++ txsB (r.ts.take j))) ∧ Keeps w wr [(w.heap.size, 28, A)]) (fun v _ _ => r.ts.length - (intOf v).toNat)
  case atStart => exact ⟨0, Nat.zero_le _, rfl, by rw [List.take_zero]; show _ = Value.string (mkS (hd ++ [])); rw [List.append_nil], HK2.out⟩
  case round =>
    obtain ⟨j, hj, rfl, rfl, hk'⟩ := hrel
    clear HK2
    have HK := hide hk'
    clear hk'
    have c12 := (HCB.out wr HK.out.1.1).2.1
    by_cases hlt : j < r.ts.length
    · have jlt : (j : Int) < (r.ts.length : Int) := by omega
      obtain ⟨a', cap', e', hrw⟩ := (HIN.out.1.below HK.out.2)
      cases e'
      obtain ⟨b, off, rfl, hb, hcell⟩ := hrw (by omega)
      have HRG := hide (hcell j hlt)
      clear hrw hcell hb
      obtain ⟨x, hx⟩ : ∃ x, x = r.ts.getD j Tx.zero := ⟨_, rfl⟩
      have HX := hide hx
      rw [← hx] at HRG
      have hok := (HROW.out.2.2.1 j hlt).1
      rw [← hx] at hok
      obtain ⟨k1, k2, k3, k4, k5, k6, k7, k8⟩ := hok
      obtain ⟨xt, hxt⟩ := Int.eq_ofNat_of_zero_le (show 0 ≤ x.t by omega)
      obtain ⟨xs, hxs⟩ := Int.eq_ofNat_of_zero_le (show 0 ≤ x.s by omega)
      have HM1 := hide (fun w => num6_any 4 xt w (by omega) (by omega))
      have HM2 := hide (fun w => num6_any 1 xs w (by omega) (by omega))
      have HM3 := hide (fun w => num6_any 8 x.f w (by omega) (by omega))
      have HM4 := hide (fun w => num6_any 8 x.l w (by omega) (by omega))
      have HM5 := hide (fun w => num6_any 8 x.n w (by omega) (by omega))
      have y1 := mkS_size (beB 4 xt)
      have y2 := mkS_size (beB 1 xs)
      have y3 := mkS_size (beB 8 x.f)
      have y4 := mkS_size (beB 8 x.l)
      have y5 := mkS_size (beB 8 x.n)
      rw [beB_length] at y1 y2 y3 y4 y5
      have w1' : IntKind.u64.wrap (xt : Int) = (xt : Int) := by rw [IntKind.wrap_u64]; omega
      have w2' : IntKind.u64.wrap (xs : Int) = (xs : Int) := by rw [IntKind.wrap_u64]; omega
      have hsz : (mkS (hd ++ txsB (r.ts.take j))).size ≤ 500 := by
        rw [mkS_size, List.length_append, hhl]
        unfold txsB
        rw [flat_len txB 29 txB_len, List.length_take]
        omega
      have hnx : mkS (hd ++ txsB (r.ts.take j)) ++ mkS (beB 4 xt) ++ mkS (beB 1 xs) ++ mkS (beB 8 x.f) ++ mkS (beB 8 x.l) ++ mkS (beB 8 x.n) = mkS (hd ++ txsB (r.ts.take (j + 1))) := by
        have e1 : txsB (r.ts.take (j + 1)) = txsB (r.ts.take j) ++ txB x := by
          unfold txsB
          rw [take_flat txB Tx.zero r.ts j hlt, ← HX.out]
        rw [e1]
        unfold txB
        rw [hxt, hxs]
        simp only [Int.toNat_natCast, mkS_append, List.append_assoc]
      have HNX := hide hnx
      have HTA : Hid (txA x = #[.int .i64 (xt : Int), .int .i64 (xs : Int), .int .u64 (x.f : Int), .int .u64 (x.l : Int), .int .u64 (x.n : Int)]) := by
        unfold txA
        rw [hxt, hxs]
        exact rfl
      clear hx hnx hxt hxs k1 k2 k3 k4 k5 k6 k7 k8
      go_wp2_with (first | (refine wpList_load_mid rfl 70 (.tmp 93) rfl b (off + j * 5) (txA x) rfl HRG.out _ Try.underlying70 rfl infoTx ?_) | (refine wpList_store_at rfl 70 (.tmp 6) (.tmp 94) rfl wr.heap.size (txA Tx.zero) (txA x) rfl rfl (RowAt.new wr 70 (txA Tx.zero)) infoTx rfl (txA_one _) ?_))
      intro w3 hr3 hk3 _
      have HK3 := hide (Keeps.laid HK.out hr3 hk3)
      clear hr3 hk3 HK c12 HRG
      generalize wr.heap.size = g at *
      rw [HTA.out] at HK3
      generalize mkS (hd ++ txsB (r.ts.take j)) = S at *
      generalize mkS (beB 4 xt) = M1 at *
      generalize mkS (beB 1 xs) = M2 at *
      generalize mkS (beB 8 x.f) = M3 at *
      generalize mkS (beB 8 x.l) = M4 at *
      generalize mkS (beB 8 x.n) = M5 at *
      have hs1 : S.size + M1.size ≤ 100000 := by omega
      have hs2 : (S ++ M1).size + M2.size ≤ 100000 := by simp only [ByteArray.size_append]; omega
      have hs3 : (S ++ M1 ++ M2).size + M3.size ≤ 100000 := by simp only [ByteArray.size_append]; omega
      have hs4 : (S ++ M1 ++ M2 ++ M3).size + M4.size ≤ 100000 := by simp only [ByteArray.size_append]; omega
      have hs5 : (S ++ M1 ++ M2 ++ M3 ++ M4).size + M5.size ≤ 100000 := by simp only [ByteArray.size_append]; omega
      have HS1 := hide hs1
      have HS2 := hide hs2
      have HS3 := hide hs3
      have HS4 := hide hs4
      have HS5 := hide hs5
      clear hs1 hs2 hs3 hs4 hs5
      go_wp2_with fail
      refine wp_region_in (fun y => Keeps w y [(g, 70, #[.int .i64 (xt : Int), .int .i64 (xs : Int), .int .u64 (x.f : Int), .int .u64 (x.l : Int), .int .u64 (x.n : Int)]), (w.heap.size, 28, A)]) (by kernel_rfl) (by kernel_rfl) HK3.out.drew ?_
      clear HK3
      repeat (first
        | go_big_quiet_skip
        | (refine wpQuiet_load rfl 3 (.tmp 96) rfl _ (.int .i64 (xt : Int)) rfl (fun y hy => load_i64 y _ (hy.1.1.cell 0 (.int .i64 (xt : Int)) rfl)) ?_; simp only [Act.put, Array.setIfInBounds, List.size_toArray, List.length_cons, List.length_nil, Nat.reduceAdd, Nat.reduceLT, ↓reduceDIte, List.set_toArray, List.set_cons_succ, List.set_cons_zero])
        | (refine wpQuiet_load rfl 3 (.tmp 101) rfl _ (.int .i64 (xs : Int)) rfl (fun y hy => load_i64 y _ (hy.1.1.cell 1 (.int .i64 (xs : Int)) rfl)) ?_; simp only [Act.put, Array.setIfInBounds, List.size_toArray, List.length_cons, List.length_nil, Nat.reduceAdd, Nat.reduceLT, ↓reduceDIte, List.set_toArray, List.set_cons_succ, List.set_cons_zero])
        | (refine wpQuiet_load rfl 22 (.tmp 106) rfl _ (.int .u64 (x.f : Int)) rfl (fun y hy => load_u64 y _ (hy.1.1.cell 2 (.int .u64 (x.f : Int)) rfl)) ?_; simp only [Act.put, Array.setIfInBounds, List.size_toArray, List.length_cons, List.length_nil, Nat.reduceAdd, Nat.reduceLT, ↓reduceDIte, List.set_toArray, List.set_cons_succ, List.set_cons_zero])
        | (refine wpQuiet_load rfl 22 (.tmp 110) rfl _ (.int .u64 (x.l : Int)) rfl (fun y hy => load_u64 y _ (hy.1.1.cell 3 (.int .u64 (x.l : Int)) rfl)) ?_; simp only [Act.put, Array.setIfInBounds, List.size_toArray, List.length_cons, List.length_nil, Nat.reduceAdd, Nat.reduceLT, ↓reduceDIte, List.set_toArray, List.set_cons_succ, List.set_cons_zero])
        | (refine wpQuiet_load rfl 22 (.tmp 114) rfl _ (.int .u64 (x.n : Int)) rfl (fun y hy => load_u64 y _ (hy.1.1.cell 4 (.int .u64 (x.n : Int)) rfl)) ?_; simp only [Act.put, Array.setIfInBounds, List.size_toArray, List.length_cons, List.length_nil, Nat.reduceAdd, Nat.reduceLT, ↓reduceDIte, List.set_toArray, List.set_cons_succ, List.set_cons_zero])
        | (refine wpQuiet_call rfl 61 #[.int .i64 4, .int .u64 (xt : Int)] (.string M1) ?_ (fun x hC => (HM1.out x).mono fun e x' h => ⟨h.1, hC.later h.2⟩) ?_; (intro z; go_simp); simp only [Act.put, Array.setIfInBounds, List.size_toArray, List.length_cons, List.length_nil, Nat.reduceAdd, Nat.reduceLT, ↓reduceDIte, List.set_toArray, List.set_cons_succ, List.set_cons_zero])
        | (refine wpQuiet_call rfl 61 #[.int .i64 1, .int .u64 (xs : Int)] (.string M2) ?_ (fun x hC => (HM2.out x).mono fun e x' h => ⟨h.1, hC.later h.2⟩) ?_; (intro z; go_simp); simp only [Act.put, Array.setIfInBounds, List.size_toArray, List.length_cons, List.length_nil, Nat.reduceAdd, Nat.reduceLT, ↓reduceDIte, List.set_toArray, List.set_cons_succ, List.set_cons_zero])
        | (refine wpQuiet_call rfl 61 #[.int .i64 8, .int .u64 (x.f : Int)] (.string M3) ?_ (fun z hC => (HM3.out z).mono fun e x' h => ⟨h.1, hC.later h.2⟩) ?_; (intro z; go_simp); simp only [Act.put, Array.setIfInBounds, List.size_toArray, List.length_cons, List.length_nil, Nat.reduceAdd, Nat.reduceLT, ↓reduceDIte, List.set_toArray, List.set_cons_succ, List.set_cons_zero])
        | (refine wpQuiet_call rfl 61 #[.int .i64 8, .int .u64 (x.l : Int)] (.string M4) ?_ (fun z hC => (HM4.out z).mono fun e x' h => ⟨h.1, hC.later h.2⟩) ?_; (intro z; go_simp); simp only [Act.put, Array.setIfInBounds, List.size_toArray, List.length_cons, List.length_nil, Nat.reduceAdd, Nat.reduceLT, ↓reduceDIte, List.set_toArray, List.set_cons_succ, List.set_cons_zero])
        | (refine wpQuiet_call rfl 61 #[.int .i64 8, .int .u64 (x.n : Int)] (.string M5) ?_ (fun z hC => (HM5.out z).mono fun e x' h => ⟨h.1, hC.later h.2⟩) ?_; (intro z; go_simp); simp only [Act.put, Array.setIfInBounds, List.size_toArray, List.length_cons, List.length_nil, Nat.reduceAdd, Nat.reduceLT, ↓reduceDIte, List.set_toArray, List.set_cons_succ, List.set_cons_zero])
        | (refine wpQuiet_binop rfl .add 9 9 (.tmp 95) (.tmp 99) rfl _ _ (.string (S ++ M1)) rfl rfl (fun y => add_guard _ _ _ _ y) (fun y => run_add_s _ _ HS1.out y) ?_; simp only [Act.put, Array.setIfInBounds, List.size_toArray, List.length_cons, List.length_nil, Nat.reduceAdd, Nat.reduceLT, ↓reduceDIte, List.set_toArray, List.set_cons_succ, List.set_cons_zero])
        | (refine wpQuiet_binop rfl .add 9 9 (.tmp 100) (.tmp 104) rfl _ _ (.string (S ++ M1 ++ M2)) rfl rfl (fun y => add_guard _ _ _ _ y) (fun y => run_add_s _ _ HS2.out y) ?_; simp only [Act.put, Array.setIfInBounds, List.size_toArray, List.length_cons, List.length_nil, Nat.reduceAdd, Nat.reduceLT, ↓reduceDIte, List.set_toArray, List.set_cons_succ, List.set_cons_zero])
        | (refine wpQuiet_binop rfl .add 9 9 (.tmp 105) (.tmp 108) rfl _ _ (.string (S ++ M1 ++ M2 ++ M3)) rfl rfl (fun y => add_guard _ _ _ _ y) (fun y => run_add_s _ _ HS3.out y) ?_; simp only [Act.put, Array.setIfInBounds, List.size_toArray, List.length_cons, List.length_nil, Nat.reduceAdd, Nat.reduceLT, ↓reduceDIte, List.set_toArray, List.set_cons_succ, List.set_cons_zero])
        | (refine wpQuiet_binop rfl .add 9 9 (.tmp 109) (.tmp 112) rfl _ _ (.string (S ++ M1 ++ M2 ++ M3 ++ M4)) rfl rfl (fun y => add_guard _ _ _ _ y) (fun y => run_add_s _ _ HS4.out y) ?_; simp only [Act.put, Array.setIfInBounds, List.size_toArray, List.length_cons, List.length_nil, Nat.reduceAdd, Nat.reduceLT, ↓reduceDIte, List.set_toArray, List.set_cons_succ, List.set_cons_zero])
        | (refine wpQuiet_binop rfl .add 9 9 (.tmp 113) (.tmp 116) rfl _ _ (.string (S ++ M1 ++ M2 ++ M3 ++ M4 ++ M5)) rfl rfl (fun y => add_guard _ _ _ _ y) (fun y => run_add_s _ _ HS5.out y) ?_; simp only [Act.put, Array.setIfInBounds, List.size_toArray, List.length_cons, List.length_nil, Nat.reduceAdd, Nat.reduceLT, ↓reduceDIte, List.set_toArray, List.set_cons_succ, List.set_cons_zero])
        | (refine wpQuiet_plain rfl (fun K hK => ?_); go_simp; refine hK _ ?_; clear hK K))
      refine wpQuiet_nil ?_
      intro w4 h4
      rw [HNX.out]
      have HK4 := hide h4
      clear h4
      go_wp2
      go_roundw
      case rel => exact ⟨j + 1, by omega, by go_num, rfl, ⟨HK4.out.1.2, HK4.out.2⟩⟩
      case measure => simp [intOf]; omega
    · have jge : ¬ (j : Int) < (r.ts.length : Int) := by omega
      obtain rfl : j = r.ts.length := by omega
      rw [List.take_length]
      have HK1 := hide HK.out
      have c13 := (HCB.out wr HK.out.1.1).2.2
      have hsz : (mkS (hd ++ txsB r.ts)).size ≤ 500 := by
        rw [mkS_size, List.length_append, hhl]
        unfold txsB
        rw [flat_len txB 29 txB_len]
        omega
      obtain ⟨h2, hh2⟩ : ∃ h2, h2 = hd ++ (txsB r.ts ++ beB 1 r.ds.length) := ⟨_, rfl⟩
      have hl2 : h2.length ≤ 600 := by
        rw [mkS_size] at hsz
        rw [hh2, List.length_append, List.length_append, beB_length]
        rw [List.length_append] at hsz
        omega
      have HF2 : Hid (recB r = h2 ++ disB r.ds) := by
        have h := HFN.out
        rw [hh2]
        simp only [List.append_assoc] at h ⊢
        exact h
      have hadd : mkS (hd ++ txsB r.ts) ++ mkS (beB 1 r.ds.length) = mkS h2 := by
        rw [mkS_append, hh2, List.append_assoc]
      have HAD := hide (HPE.out ▸ hadd)
      clear hadd hh2 HK jge hj
      generalize mkS (hd ++ txsB r.ts) = S at *
      have hz : (S.size : Int) + 1 ≤ 9223372036854775807 := by omega
      go_wp2_with fail
      refine (HP3.out _).mono ?_
      rintro e w3 ⟨rfl, hb3⟩
      have HK3 := hide (HK1.out.later hb3)
      have c13' := (HCB.out w3 HK3.out.1.1).2.2
      clear hb3 HK1 HP3 c13 c12
      go_wp2
      rw [HAD.out]
      clear c13'
      go_loopw [129, 3] (fun v v3 wq => ∃ j : Nat, j ≤ r.ds.length ∧ v = .int .i64 j ∧ v3 = .string (mkS (h2 ++ disB (r.ds.take j))) ∧ Keeps w wq [(w.heap.size, 28, A)]) (fun v _ _ => r.ds.length - (intOf v).toNat)
      case atStart => exact ⟨0, Nat.zero_le _, rfl, by rw [List.take_zero]; show _ = Value.string (mkS (h2 ++ [])); rw [List.append_nil], HK3.out⟩
      case round =>
        obtain ⟨j, hj, rfl, rfl, hk'⟩ := hrel
        clear HK3
        have HK := hide hk'
        clear hk'
        by_cases hlt : j < r.ds.length
        · have jlt : (j : Int) < (r.ds.length : Int) := by omega
          obtain ⟨a', cap', e', hrw⟩ := HIN.out.2
          cases e'
          obtain ⟨b, off, rfl, hb, hcell⟩ := hrw (by omega)
          have HRG := hide (hcell j hlt)
          have HBW := hide hb
          clear hrw hcell hb
          obtain ⟨x, hx⟩ : ∃ x, x = r.ds.getD j Di.zero := ⟨_, rfl⟩
          have HX := hide hx
          rw [← hx] at HRG
          have hok := (HROW.out.2.2.2.1 j hlt).1
          rw [← hx] at hok
          obtain ⟨k1, k2, k3, k4⟩ := hok
          obtain ⟨xp, hxp⟩ := Int.eq_ofNat_of_zero_le k1
          have HM1 := hide (fun w => num6_any 2 xp w (by omega) (by omega))
          have HM2 := hide (fun w => num6_any 8 x.r w (by omega) (by omega))
          have y1 := mkS_size (beB 2 xp)
          have y2 := mkS_size (beB 8 x.r)
          rw [beB_length] at y1 y2
          have w1' : IntKind.u64.wrap (xp : Int) = (xp : Int) := by rw [IntKind.wrap_u64]; omega
          have hsz2 : (mkS (h2 ++ disB (r.ds.take j))).size ≤ 1000 := by
            rw [mkS_size, List.length_append]
            unfold disB
            rw [flat_len diB 10 diB_len, List.length_take]
            omega
          have hnx : mkS (h2 ++ disB (r.ds.take j)) ++ mkS (beB 2 xp) ++ mkS (beB 8 x.r) = mkS (h2 ++ disB (r.ds.take (j + 1))) := by
            have e1 : disB (r.ds.take (j + 1)) = disB (r.ds.take j) ++ diB x := by
              unfold disB
              rw [take_flat diB Di.zero r.ds j hlt, ← HX.out]
            rw [e1]
            unfold diB
            rw [hxp]
            simp only [Int.toNat_natCast, mkS_append, List.append_assoc]
          have HNX := hide hnx
          have HTA : Hid (diA x = #[.int .i64 (xp : Int), .int .u64 (x.r : Int)]) := by
            unfold diA
            rw [hxp]
            exact rfl
          rw [HTA.out] at HRG
          clear hx hnx hxp k1 k2 k3 k4
          generalize mkS (h2 ++ disB (r.ds.take j)) = T at *
          generalize mkS (beB 2 xp) = M1 at *
          generalize mkS (beB 8 x.r) = M2 at *
          have hs1 : T.size + M1.size ≤ 100000 := by omega
          have hs2 : (T ++ M1).size + M2.size ≤ 100000 := by simp only [ByteArray.size_append]; omega
          have HS1 := hide hs1
          have HS2 := hide hs2
          clear hs1 hs2
          go_wp2_with fail
          refine wp_region_in (fun y => Keeps w y [(w.heap.size, 28, A)]) (by kernel_rfl) (by kernel_rfl) HK.out.drew ?_
          clear HK
          repeat (first
            | go_big_quiet_skip
            | (refine wpQuiet_load rfl 26 (.tmp 133) rfl _ (.slice (some ⟨b, off, none⟩) r.ds.length cap2) rfl (fun y hy => load_dis y _ _ _ (HCB.out y hy.1.1).2.2) ?_; simp only [Act.put, Array.setIfInBounds, List.size_toArray, List.length_cons, List.length_nil, Nat.reduceAdd, Nat.reduceLT, ↓reduceDIte, List.set_toArray, List.set_cons_succ, List.set_cons_zero])
            | (refine wpQuiet_load rfl 26 (.tmp 142) rfl _ (.slice (some ⟨b, off, none⟩) r.ds.length cap2) rfl (fun y hy => load_dis y _ _ _ (HCB.out y hy.1.1).2.2) ?_; simp only [Act.put, Array.setIfInBounds, List.size_toArray, List.length_cons, List.length_nil, Nat.reduceAdd, Nat.reduceLT, ↓reduceDIte, List.set_toArray, List.set_cons_succ, List.set_cons_zero])
            | (refine wpQuiet_load rfl 3 (.tmp 137) rfl _ (.int .i64 (xp : Int)) rfl (fun y hy => load_i64 y _ (rangeAt_below HRG.out hy.2 HBW.out 0 (.int .i64 (xp : Int)) rfl)) ?_; simp only [Act.put, Array.setIfInBounds, List.size_toArray, List.length_cons, List.length_nil, Nat.reduceAdd, Nat.reduceLT, ↓reduceDIte, List.set_toArray, List.set_cons_succ, List.set_cons_zero])
            | (refine wpQuiet_load rfl 22 (.tmp 146) rfl _ (.int .u64 (x.r : Int)) rfl (fun y hy => load_u64 y _ (rangeAt_below HRG.out hy.2 HBW.out 1 (.int .u64 (x.r : Int)) rfl)) ?_; simp only [Act.put, Array.setIfInBounds, List.size_toArray, List.length_cons, List.length_nil, Nat.reduceAdd, Nat.reduceLT, ↓reduceDIte, List.set_toArray, List.set_cons_succ, List.set_cons_zero])
            | (refine wpQuiet_call rfl 61 #[.int .i64 2, .int .u64 (xp : Int)] (.string M1) ?_ (fun z hC => (HM1.out z).mono fun e x' h => ⟨h.1, hC.later h.2⟩) ?_; (intro z; go_simp); simp only [Act.put, Array.setIfInBounds, List.size_toArray, List.length_cons, List.length_nil, Nat.reduceAdd, Nat.reduceLT, ↓reduceDIte, List.set_toArray, List.set_cons_succ, List.set_cons_zero])
            | (refine wpQuiet_call rfl 61 #[.int .i64 8, .int .u64 (x.r : Int)] (.string M2) ?_ (fun z hC => (HM2.out z).mono fun e x' h => ⟨h.1, hC.later h.2⟩) ?_; (intro z; go_simp); simp only [Act.put, Array.setIfInBounds, List.size_toArray, List.length_cons, List.length_nil, Nat.reduceAdd, Nat.reduceLT, ↓reduceDIte, List.set_toArray, List.set_cons_succ, List.set_cons_zero])
            | (refine wpQuiet_binop rfl .add 9 9 (.tmp 132) (.tmp 140) rfl _ _ (.string (T ++ M1)) rfl rfl (fun y => add_guard _ _ _ _ y) (fun y => run_add_s _ _ HS1.out y) ?_; simp only [Act.put, Array.setIfInBounds, List.size_toArray, List.length_cons, List.length_nil, Nat.reduceAdd, Nat.reduceLT, ↓reduceDIte, List.set_toArray, List.set_cons_succ, List.set_cons_zero])
            | (refine wpQuiet_binop rfl .add 9 9 (.tmp 141) (.tmp 148) rfl _ _ (.string (T ++ M1 ++ M2)) rfl rfl (fun y => add_guard _ _ _ _ y) (fun y => run_add_s _ _ HS2.out y) ?_; simp only [Act.put, Array.setIfInBounds, List.size_toArray, List.length_cons, List.length_nil, Nat.reduceAdd, Nat.reduceLT, ↓reduceDIte, List.set_toArray, List.set_cons_succ, List.set_cons_zero])
            | (refine wpQuiet_plain rfl (fun K hK => ?_); go_simp; refine hK _ ?_; clear hK K))
          refine wpQuiet_nil ?_
          intro w4 h4
          rw [HNX.out]
          have HK4 := hide h4
          clear h4
          go_wp2
          go_roundw
          case rel => exact ⟨j + 1, by omega, by go_num, rfl, HK4.out⟩
          case measure => simp [intOf]; omega
        · have jge : ¬ (j : Int) < (r.ds.length : Int) := by omega
          obtain rfl : j = r.ds.length := by omega
          rw [List.take_length, ← HF2.out]
          have d4 := HK.out.2
          clear HK
          go_wp2
          go_ret
          exact ⟨rfl, d4⟩
end Go.Proofs.Ytgobegpmojkhaaa

/-
  The contract of quaysideref06.Encode.
-/
namespace Go.Proofs.Ytgobegpmojkhaaa
open Go.RowKit
set_option linter.unusedVariables false

theorem bytes_any (r : Rec) (va vb : Value) (w : World) (hr : r.right) (hin : RcIn w r va vb) :
    Calls Try.prog 45 #[.agg (rcA r va vb)] w fun e w' => e = .returned (.string (mkS (recB r))) ∧ Below w.heap.size w w' := by
  have h1 := hr.k1
  have h8 := hr.k8
  by_cases k1 : r.k = 1
  · exact bytes_update r va vb w hr k1 hin
  by_cases k2 : r.k = 2
  · exact bytes_clr r va vb w hr k2 hin
  by_cases k6 : r.k = 6
  · exact bytes_save r va vb w hr k6 hin
  by_cases k8 : r.k = 8
  · exact bytes_check r va vb w hr k8 hin
  exact bytes_end r va vb w hr (by omega) hin

/-- What 'Encode' answers. -/
noncomputable def encE (r : Rec) : Int := if r.rightB = true then 0 else 1
noncomputable def encL (r : Rec) : List UInt8 := if r.rightB = true then recB r else []

end Go.Proofs.Ytgobegpmojkhaaa

/-
  The contracts of record.Encode and Size, whole, and of awake.
-/
namespace Go.Proofs.Ytgobegpmojkhaaa
open Go.RowKit
set_option linter.unusedVariables false

set_option maxRecDepth 4000 in
set_option maxHeartbeats 1600000 in
theorem enc_no (r : Rec) (va vb : Value) (w : World) (hr : ¬ r.right) (hf : r.fits) (hin : RcIn w r va vb) :
    Calls Try.prog 21 #[.agg (rcA r va vb)] w fun e w' => e = .returned (.tuple #[.slice none 0 0, .int .i64 1]) ∧ Below w.heap.size w w' := by
  have HIN := hide hin
  have HRT := hide (fun w h => right_at r va vb w false (hide ⟨fun h => (nomatch h), fun h => absurd h hr⟩) hf h)
  have HK0 := hide (Keeps.one w 28 (rcA r va vb))
  clear hr hf hin
  obtain ⟨A, hA⟩ : ∃ A, A = rcA r va vb := ⟨_, rfl⟩
  rw [← hA] at HK0 HRT ⊢
  have HIA : Hid ((Try.prog.info? 28).map (·.size) = some A.size) := by
    rw [hA]
    exact infoRc
  clear hA
  go_enter Try.func21, Try.ntmps21
  go_wp2_with (refine wpList_load_at rfl 28 (.tmp 1) rfl w.heap.size rfl A HK0.out.1.1 _ Try.underlying28 rfl HIA.out ?_)
  refine (HRT.out _ (HIN.out.below HK0.out.2)).mono ?_
  rintro e w1 ⟨rfl, hb1⟩
  have d1 := (HK0.out.later hb1).2
  clear HK0 HRT hb1
  go_wp2
  go_ret2
  exact ⟨rfl, d1⟩

/-- THE CONTRACT. -/
theorem enc_any (r : Rec) (va vb : Value) (w : World) (hf : r.fits) (hin : RcIn w r va vb) :
    Calls Try.prog 21 #[.agg (rcA r va vb)] w fun e w' => (∃ v, e = .returned (.tuple #[v, .int .i64 (encE r)]) ∧ EncIn w' v (encL r)) ∧ Below w.heap.size w w' := by
  by_cases hr : r.right
  · have e1 : encL r = recB r := by unfold encL; rw [if_pos (rightB_yes hr)]
    have e2 : encE r = 0 := by unfold encE; rw [if_pos (rightB_yes hr)]
    rw [e1, e2]
    have h1 := hr.k1
    have h8 := hr.k8
    by_cases k1 : r.k = 1
    · exact enc_1 r va vb w hr k1 hf hin
    by_cases k2 : r.k = 2
    · exact enc_2 r va vb w hr k2 hf hin
    by_cases k3 : r.k = 3
    · exact enc_3 r va vb w hr k3 hf hin
    by_cases k4 : r.k = 4
    · exact enc_4 r va vb w hr k4 hf hin
    by_cases k5 : r.k = 5
    · exact enc_5 r va vb w hr k5 hf hin
    by_cases k6 : r.k = 6
    · exact enc_6 r va vb w hr k6 hf hin
    by_cases k7 : r.k = 7
    · exact enc_7 r va vb w hr k7 hf hin
    exact enc_8 r va vb w hr (by omega) hf hin
  · have e1 : encL r = [] := by unfold encL; rw [if_neg (by rw [rightB_no hr]; decide)]
    have e2 : encE r = 1 := by unfold encE; rw [if_neg (by rw [rightB_no hr]; decide)]
    rw [e1, e2]
    refine (enc_no r va vb w hr hf hin).mono ?_
    rintro e w1 ⟨rfl, hb1⟩
    exact ⟨⟨_, rfl, none, 0, rfl, fun _ => rfl, Nat.le_refl _, isB_nil _⟩, hb1⟩

set_option maxRecDepth 4000 in
set_option maxHeartbeats 1600000 in
theorem size_any (r : Rec) (va vb : Value) (w : World) (hf : r.fits) (hin : RcIn w r va vb) :
    Calls Try.prog 27 #[.agg (rcA r va vb)] w fun e w' => e = .returned (.int .i64 ((encL r).length : Int)) ∧ Below w.heap.size w w' := by
  have HIN := hide hin
  have HE := hide (fun w h => enc_any r va vb w hf h)
  have HK0 := hide (Keeps.one w 28 (rcA r va vb))
  clear hf hin
  obtain ⟨A, hA⟩ : ∃ A, A = rcA r va vb := ⟨_, rfl⟩
  rw [← hA] at HK0 HE ⊢
  have HIA : Hid ((Try.prog.info? 28).map (·.size) = some A.size) := by
    rw [hA]
    exact infoRc
  clear hA
  go_enter Try.func27, Try.ntmps27
  go_wp2_with (refine wpList_load_at rfl 28 (.tmp 1) rfl w.heap.size rfl A HK0.out.1.1 _ Try.underlying28 rfl HIA.out ?_)
  refine (HE.out _ (HIN.out.below HK0.out.2)).mono ?_
  rintro e w1 ⟨⟨v, rfl, a, c, rfl, -⟩, hb1⟩
  have d1 := (HK0.out.later hb1).2
  clear HK0 HE hb1
  go_wp2
  go_ret
  exact ⟨rfl, d1⟩

/-! ### awake -/
def awR : Rec := ⟨3, 5, 2, 3, Ch.zero, 0, 0, 0, [], []⟩
theorem awR_right : awR.right := ⟨by decide, by decide, by decide, by decide, fun _ => by decide, fun h => absurd h (by decide), fun h => absurd h (by decide), fun _ => rfl, fun h => absurd h (by decide), fun _ => rfl, fun h => absurd h (by decide), fun _ => rfl, fun h => absurd h (by decide), fun _ => ⟨rfl, rfl, rfl⟩⟩
theorem awR_fits : awR.fits := ⟨zero_fits, Nat.zero_le _, Nat.zero_le _, fun x hx => (nomatch hx), fun x hx => (nomatch hx)⟩
theorem awR_in (w : World) : RcIn w awR (.slice none 0 0) (.slice none 0 0) := ⟨⟨none, 0, rfl, fun h => absurd h (by decide)⟩, ⟨none, 0, rfl, fun h => absurd h (by decide)⟩⟩
def awL : Array Value := #[.int .i64 3, .int .u64 5, .int .i64 2, .int .u64 3, .int .i64 0, .int .i64 0, .int .i64 0, .string ⟨#[]⟩, .string ⟨#[]⟩, .int .u64 0, .int .i64 0, .int .u64 0, .slice none 0 0, .slice none 0 0]
theorem awA : rcA awR (.slice none 0 0) (.slice none 0 0) = awL := rfl
theorem awB : recB awR = [3, 0, 0, 0, 0, 0, 0, 0, 5, 0, 0, 0, 2, 0, 0, 0, 0, 0, 0, 0, 3] := by decide

end Go.Proofs.Ytgobegpmojkhaaa

/-
  The contracts of package sum.
-/
namespace Go.Proofs.Ytgobegpmojkhaaa
open Go.RowKit
set_option linter.unusedVariables false


theorem sx_yes (q : Nat) (hq : q < 2 ^ 32) (ht : q % 2 = 1) : bits .xor .u32 ((q : Int) / 2) 3988292384 = ((stp q : Nat) : Int) := by
  have e : ((q : Int) / 2) = ((q / 2 : Nat) : Int) := by omega
  have e2 : (3988292384 : Int) = ((3988292384 : Nat) : Int) := rfl
  rw [e, e2, u32_xor_nat (q / 2) 3988292384 (by omega) (by omega), stp, if_pos ht]
  rfl
theorem sx_no (q : Nat) (ht : ¬ q % 2 = 1) : (q : Int) / 2 = ((stp q : Nat) : Int) := by
  rw [stp, if_neg ht]
  omega

theorem sx_and (q : Nat) (hq : q < 2 ^ 32) : bits .and .u32 (q : Int) 1 = ((q % 2 : Nat) : Int) := by
  have e := u32_and_nat q 1 (by omega) (by omega)
  rw [Nat.and_one_is_mod] at e
  exact e
theorem sx_t (q : Nat) (hq : q < 2 ^ 32) (ht : q % 2 = 1) : (bits .and .u32 (q : Int) 1 == 1) = true := by
  rw [sx_and q hq, ht]
  rfl
theorem sx_f (q : Nat) (hq : q < 2 ^ 32) (ht : ¬ q % 2 = 1) : (bits .and .u32 (q : Int) 1 == 1) = false := by
  have h0 : q % 2 = 0 := by omega
  rw [sx_and q hq, h0]
  rfl

set_option maxRecDepth 4000 in
set_option maxHeartbeats 400000 in
theorem shift_at (r c x : Nat) (w : World) (hr : r < 2 ^ 32) (hc : c < 256) (hx : x < 2 ^ 32) (e0 : bits .xor .u32 (r : Int) (c : Int) = ((x : Nat) : Int)) :
    Calls Try.prog 78 #[.int .u32 r, .int .u8 c] w fun e w' => e = .returned (.int .u32 (stps 8 x : Nat)) ∧ w = w' := by
  go_enter Try.func78, Try.ntmps78
  go_wp2
  clear e0
  go_loop [0, 10] (fun q i => ∃ j : Nat, j ≤ 8 ∧ i = .int .i64 j ∧ q = .int .u32 (stps j x : Nat)) (fun _ i => 8 - (intOf i).toNat)
  case atStart => exact ⟨0, Nat.zero_le _, rfl, rfl⟩
  case round =>
    obtain ⟨j, hj, rfl, rfl⟩ := hrel
    by_cases hlt : j < 8
    · have hq := stps_lt j x hx
      have hs := stps_succ j x
      generalize stps j x = q at *
      by_cases ht : q % 2 = 1
      · have h1 := sx_t q hq ht
        go_wp2
        go_round
        case rel => exact ⟨j + 1, by omega, by go_num, by rw [hs]; exact congrArg (Value.int .u32) (sx_yes q hq ht)⟩
        case measure => simp [intOf]; omega
      · have h1 := sx_f q hq ht
        go_wp2
        go_round
        case rel => exact ⟨j + 1, by omega, by go_num, by rw [hs]; exact congrArg (Value.int .u32) (sx_no q ht)⟩
        case measure => simp [intOf]; omega
    · go_wp2
      go_ret
      obtain rfl : j = 8 := by omega
      exact ⟨rfl, rfl⟩

theorem shift_any (r : Nat) (c : UInt8) (w : World) (hr : r < 2 ^ 32) :
    Calls Try.prog 78 #[.int .u32 r, .int .u8 c.toNat] w fun e w' => e = .returned (.int .u32 (byteS r c : Nat)) ∧ w = w' :=
  shift_at r c.toNat (r ^^^ c.toNat) w hr c.toNat_lt (Nat.xor_lt_two_pow hr (u8_lt32 c)) (u32_xor_nat r c.toNat (by omega) (by have := c.toNat_lt; omega))

theorem told_step (q m j x : Nat) (hj : j < 4) (hm : m < 256) (hq : q < 256 ^ j) (hx : x = q + m * 256 ^ j) : bits .or .u32 (q : Int) ((m : Int) * 2 ^ (8 * j) % 4294967296) = ((x : Nat) : Int) := by
  subst hx
  have hp : 256 ^ j * 256 ≤ 4294967296 := by
    have h2 : 256 ^ (j + 1) ≤ 256 ^ 4 := Nat.pow_le_pow_right (by omega) (by omega)
    rw [Nat.pow_succ] at h2
    exact h2
  have e1 : (2 : Int) ^ (8 * j) = ((256 ^ j : Nat) : Int) := by
    rw [Int.pow_mul]
    simp
  have hmx : m * 256 ^ j + 256 ^ j ≤ 4294967296 := by
    have h3 : (m + 1) * 256 ^ j ≤ 256 * 256 ^ j := Nat.mul_le_mul_right _ (by omega)
    rw [Nat.add_mul, Nat.one_mul] at h3
    omega
  have e2 : (m : Int) * 2 ^ (8 * j) % 4294967296 = ((m * 256 ^ j : Nat) : Int) := by
    have e3 : (m : Int) * ((256 ^ j : Nat) : Int) = ((m * 256 ^ j : Nat) : Int) := by rw [Int.natCast_mul]
    rw [e1, e3]
    omega
  have hpw : 256 ^ j = 2 ^ (8 * j) := by rw [Nat.pow_mul]
  rw [e2, u32_or_nat q (m * 256 ^ j) (by omega) (by omega)]
  have e4 : q ||| m * 256 ^ j = q + m * 256 ^ j := by
    rw [Nat.or_comm, hpw, Nat.mul_comm m, ← Nat.two_pow_add_eq_or_of_lt (by rw [← hpw]; exact hq), Nat.add_comm]
  rw [e4]

set_option maxRecDepth 4000 in
set_option maxHeartbeats 400000 in
theorem told_ok (b off cap : Nat) (bs : List UInt8) (w : World) (hb : bs.length = 4)
    (hc : ∀ j, j < 4 → w.cell? ⟨b, off + j, none⟩ = some (.int .u8 ((bs.getD j 0).toNat : Int))) :
    Calls Try.prog 52 #[.slice (some ⟨b, off, none⟩) 4 cap] w fun e w' => e = .returned (.int .u32 (leN bs : Nat)) ∧ w = w' := by
  go_enter Try.func52, Try.ntmps52
  go_wp2
  go_loop [3, 5] (fun q i => ∃ j : Nat, j ≤ 4 ∧ i = .int .i64 j ∧ q = .int .u32 (leN (bs.take j) : Nat)) (fun _ i => 4 - (intOf i).toNat)
  case atStart => exact ⟨0, Nat.zero_le _, rfl, rfl⟩
  case round =>
    obtain ⟨j, hj, rfl, rfl⟩ := hrel
    by_cases hlt : j < 4
    · have hq := leN_lt (bs.take j)
      rw [List.length_take, Nat.min_eq_left (by omega)] at hq
      have hs := leN_take bs j (by omega)
      have hcj := hc j hlt
      have hm : (bs.getD j 0).toNat < 256 := (bs.getD j 0).toNat_lt
      clear hc
      generalize leN (bs.take j) = q at *
      generalize (bs.getD j 0).toNat = m at *
      go_wp2
      go_round
      case rel => exact ⟨j + 1, by omega, by go_num, congrArg (Value.int .u32) (told_step q m j _ hlt hm hq hs)⟩
      case measure => simp [intOf]; omega
    · go_wp2
      go_ret
      obtain rfl : j = 4 := by omega
      rw [List.take_of_length_le (by omega)]
      exact ⟨rfl, rfl⟩

theorem um_xor (m : Nat) (hm : m < 2 ^ 32) : bits .xor .u32 IntKind.u32.max (m : Int) = ((ones ^^^ m : Nat) : Int) := u32_xor_nat ones m (by decide) (by omega)

set_option maxRecDepth 4000 in
set_option maxHeartbeats 400000 in
theorem more_at (m x : Nat) (a : Option Addr) (len cap : Nat) (bs : List UInt8) (w : World) (hm : m < 2 ^ 32) (hx : x < 2 ^ 32) (hB : IsB w a len bs) (hl : len ≤ 140737488355328)
    (e0 : bits .xor .u32 IntKind.u32.max (m : Int) = ((x : Nat) : Int)) :
    Calls Try.prog 60 #[.int .u32 m, .slice a len cap] w fun e w' => e = .returned (.int .u32 (ones ^^^ crun x bs : Nat)) ∧ w = w' := by
  have hsg : ¬ IntKind.u32.signed = true := by decide
  go_enter Try.func60, Try.ntmps60
  go_wp2
  clear e0
  go_loop [5, 12] (fun q i => ∃ j : Nat, j ≤ len ∧ i = .int .i64 j ∧ q = .int .u32 (crun x (bs.take j) : Nat)) (fun _ i => len - (intOf i).toNat)
  case atStart => exact ⟨0, Nat.zero_le _, rfl, rfl⟩
  case round =>
    obtain ⟨j, hj, rfl, rfl⟩ := hrel
    by_cases hlt : j < len
    · obtain ⟨b, off, rfl, hbl, hc⟩ := hB.2 (by omega)
      have hq := crun_lt (bs.take j) x hx
      have hs : crun x (bs.take (j + 1)) = byteS (crun x (bs.take j)) (bs.getD j 0) := by
        have hjl : j < bs.length := by rw [hB.1]; exact hlt
        rw [List.take_succ_eq_append_getElem hjl, crun_snoc]
        simp [List.getD, List.getElem?_eq_getElem hjl]
      have hcj := hc j hlt
      clear hc hB
      generalize crun x (bs.take j) = q at *
      have R := shift_any q (bs.getD j 0) w hq
      have hm : (bs.getD j 0).toNat < 256 := (bs.getD j 0).toNat_lt
      generalize byteS q (bs.getD j 0) = q2 at *
      generalize (bs.getD j 0).toNat = c at *
      have HR := hide R
      clear R
      go_wp2_with fail
      refine HR.out.mono ?_
      rintro e w1 ⟨rfl, rfl⟩
      go_wp2
      go_round
      case rel => exact ⟨j + 1, by omega, by go_num, by rw [hs]⟩
      case measure => simp [intOf]; omega
    · obtain rfl : j = len := by omega
      have hx2 := crun_lt (bs.take j) x hx
      have e1 := um_xor _ hx2
      go_wp2
      go_ret
      have e2 := hB.1
      rw [List.take_of_length_le (by omega)]
      exact ⟨rfl, rfl⟩

theorem more_any (m : Nat) (a : Option Addr) (len cap : Nat) (bs : List UInt8) (w : World) (hm : m < 2 ^ 32) (hB : IsB w a len bs) (hl : len ≤ 140737488355328) :
    Calls Try.prog 60 #[.int .u32 m, .slice a len cap] w fun e w' => e = .returned (.int .u32 (crcMore m bs : Nat)) ∧ w = w' :=
  more_at m (ones ^^^ m) a len cap bs w hm (Nat.xor_lt_two_pow ones_lt hm) hB hl (um_xor m hm)

set_option maxRecDepth 4000 in
set_option maxHeartbeats 400000 in
theorem of_any (a : Option Addr) (len cap : Nat) (bs : List UInt8) (w : World) (hB : IsB w a len bs) (hl : len ≤ 140737488355328) :
    Calls Try.prog 41 #[.slice a len cap] w fun e w' => e = .returned (.int .u32 (crc bs : Nat)) ∧ w = w' := by
  have e0 : crcMore 0 bs = crc bs := by rw [crcMore, crc, Nat.xor_zero]
  have R := more_any 0 a len cap bs w (by decide) hB hl
  rw [e0] at R
  have HR := hide R
  clear R
  go_enter Try.func41, Try.ntmps41
  go_wp2_with fail
  refine HR.out.mono ?_
  rintro e w1 ⟨rfl, rfl⟩
  go_wp2
  go_ret
  exact ⟨rfl, rfl⟩

set_option maxRecDepth 4000 in
set_option maxHeartbeats 400000 in
theorem open_short (a : Option Addr) (len cap : Nat) (w : World) (h : len < 4) :
    Calls Try.prog 29 #[.slice a len cap] w fun e w' => e = .returned (.tuple #[.slice none 0 0, .int .i64 4]) ∧ w = w' := by
  go_enter Try.func29, Try.ntmps29
  go_wp2
  go_ret2
  exact ⟨rfl, rfl⟩

theorem below_drw {B : Nat} {w w' : World} (h : Below B w w') (k : Nat) : Below B w (w'.drewN k) := ⟨h.1, h.2, h.3, h.4, h.5⟩
theorem isB_drewN {w : World} {a : Option Addr} {len k : Nat} {bs : List UInt8} (h : IsB w a len bs) : IsB (w.drewN k) a len bs := h

theorem told_any (a : Option Addr) (cap : Nat) (bs : List UInt8) (w : World) (hB : IsB w a 4 bs) :
    Calls Try.prog 52 #[.slice a 4 cap] w fun e w' => e = .returned (.int .u32 (leN bs : Nat)) ∧ w = w' := by
  obtain ⟨b, off, rfl, _, hc⟩ := hB.2 (by omega)
  exact told_ok b off cap bs w hB.1 hc

theorem of_q (a : Option Addr) (len cap k : Nat) (bs : List UInt8) (w : World) (hB : IsB w a len bs) (hl : len ≤ 140737488355328) :
    Calls Try.prog 41 #[.slice a len cap] (w.drewN k) fun e w' => e = .returned (.int .u32 (crc bs : Nat)) ∧ w' = w.drewN k :=
  (of_any a len cap bs (w.drewN k) (isB_drewN hB) hl).mono fun e w' ⟨he, hw⟩ => ⟨he, hw.symm⟩
theorem told_q (a : Option Addr) (cap k : Nat) (bs : List UInt8) (w : World) (hB : IsB w a 4 bs) :
    Calls Try.prog 52 #[.slice a 4 cap] (w.drewN k) fun e w' => e = .returned (.int .u32 (leN bs : Nat)) ∧ w' = w.drewN k :=
  (told_any a cap bs (w.drewN k) (isB_drewN hB)).mono fun e w' ⟨he, hw⟩ => ⟨he, hw.symm⟩

set_option maxRecDepth 4000 in
set_option maxHeartbeats 400000 in
theorem open_no (b off n cap x y : Nat) (w : World) (hcap : n + 4 ≤ cap) (hl : n ≤ 140737488355328) (hne : ((x : Int) != (y : Int)) = true)
    (H1 : Hid (∀ k cap, Calls Try.prog 41 #[.slice (some ⟨b, off, none⟩) n cap] (w.drewN k) fun e w' => e = .returned (.int .u32 (x : Nat)) ∧ w' = w.drewN k))
    (H2 : Hid (∀ k cap, Calls Try.prog 52 #[.slice (some ⟨b, off + n, none⟩) 4 cap] (w.drewN k) fun e w' => e = .returned (.int .u32 (y : Nat)) ∧ w' = w.drewN k)) :
    Calls Try.prog 29 #[.slice (some ⟨b, off, none⟩) (n + 4) cap] w fun e w' => e = .returned (.tuple #[.slice none 0 0, .int .i64 3]) ∧ Below w.heap.size w w' := by
  go_enter Try.func29, Try.ntmps29
  go_wp2_with fail
  go_quiet (first | (go_at_call 41; exact Calls.quiet_of_same (H1.out _ _)) | (go_at_call 52; exact Calls.quiet_of_same (H2.out _ _)))
  go_wp2
  go_ret2
  exact ⟨rfl, below_drw (Below.refl _ _) nq⟩

set_option maxRecDepth 4000 in
set_option maxHeartbeats 400000 in
theorem open_yes (b off n cap x : Nat) (bs : List UInt8) (w : World) (hcap : n + 4 ≤ cap) (hl : n ≤ 140737488355328) (hB : IsB w (some ⟨b, off, none⟩) n bs)
    (H1 : Hid (∀ k cap, Calls Try.prog 41 #[.slice (some ⟨b, off, none⟩) n cap] (w.drewN k) fun e w' => e = .returned (.int .u32 (x : Nat)) ∧ w' = w.drewN k))
    (H2 : Hid (∀ k cap, Calls Try.prog 52 #[.slice (some ⟨b, off + n, none⟩) 4 cap] (w.drewN k) fun e w' => e = .returned (.int .u32 (x : Nat)) ∧ w' = w.drewN k)) :
    Calls Try.prog 29 #[.slice (some ⟨b, off, none⟩) (n + 4) cap] w fun e w' => ∃ v, e = .returned (.tuple #[v, .int .i64 0]) ∧ w'.ownsRow w.heap.size 5 1 v n (toV bs) ∧ Below w.heap.size w w' := by
  have hmk := run_mkn (P := Try.prog) 30 5 Try.underlying30 info8 n (by omega)
  have HB := hide hB
  clear hB
  go_enter Try.func29, Try.ntmps29
  go_wp2_with fail
  go_quiet (first | (go_at_call 41; exact Calls.quiet_of_same (H1.out _ _)) | (go_at_call 52; exact Calls.quiet_of_same (H2.out _ _)))
  have hB1 := isB_drewN (k := nq) HB.out
  have hb1 := below_drw (Below.refl w.heap.size w) nq
  generalize w.drewN nq = w1 at *
  clear H1 H2 HB
  have hrow : (w1.alloc (.cells (zrow n).toArray 5)).heap[w1.heap.size]? = some (.cells (zrow n).toArray 5 (0, 0)) := heap_alloc_new w1 _
  have hlb := hB1.1
  go_wp2_with (refine wpList_copy_splice rfl (.tmp 23) (.tmp 24) 30 30 rfl 5 Try.underlying30 info8s (some ⟨w1.heap.size, 0, none⟩) (some ⟨b, off, none⟩) n n (n + 4) cap rfl rfl w1.heap.size 0 (zrow n) 5 hrow (toV bs) (by rw [toV_length, hlb]; exact (Nat.min_eq_right (Nat.le_add_right n 4)).symm) (hB1.hpos _ _) (by rw [toV_length, zrow_length, hlb]; omega) (toV_one bs) w.heap.size w (hb1.alloc hb1.size _) hb1.size ?_)
  intro w2 HG hb2
  go_wp2
  go_ret2
  exact ⟨_, rfl, owns_spliced (m := 0) hlb hb1.size (by omega) HG.out, hb2⟩

theorem own_cap {w : World} {base n cap size : Nat} {e : TypeId} {a : Option Addr} {xs : List Value} (h : w.ownsRow base e size (.slice a n cap) n xs) : n ≤ cap := by
  rcases h.2 with ⟨hv, h0⟩ | ⟨g, cap', cur, hv, _, _, hn, _⟩
  · omega
  · injection hv with _ _ h3
    omega

/-- THE CONTRACT of Open. -/
theorem open_any (a : Option Addr) (len cap : Nat) (bs : List UInt8) (w : World) (hB : IsB w a len bs) (hl : len ≤ 140737488355328) (hcap : len ≤ cap) :
    Calls Try.prog 29 #[.slice a len cap] w fun e w' => ∃ v, e = .returned (.tuple #[v, .int .i64 (openS bs).2]) ∧ w'.ownsRow w.heap.size 5 1 v (openS bs).1.length (toV (openS bs).1) ∧ Below w.heap.size w w' := by
  have hb := hB.1
  by_cases h : len < 4
  · rw [openS_short bs (by omega)]
    refine (open_short a len cap w h).mono ?_
    rintro e w' ⟨rfl, rfl⟩
    exact ⟨_, rfl, World.ownsRow_nil _ _ _ _, Below.refl _ _⟩
  obtain ⟨n, rfl⟩ : ∃ n, len = n + 4 := ⟨len - 4, by omega⟩
  obtain ⟨b, off, rfl, hlt, hc⟩ := hB.2 (by omega)
  have e1 : bs.length - 4 = n := by omega
  have c1 : IsB w (some ⟨b, off, none⟩) n (bs.take n) := by
    have h1 := IsB.cut hb hlt hc 0 n (by omega)
    rwa [List.drop_zero] at h1
  have c2 : IsB w (some ⟨b, off + n, none⟩) 4 (bs.drop n) := by
    have h1 := IsB.cut hb hlt hc n 4 (by omega)
    rwa [List.take_of_length_le (by rw [List.length_drop]; omega)] at h1
  have H1 := fun k cap => of_q _ n cap k _ w c1 (by omega)
  have H2 := fun k cap => told_q _ cap k _ w c2
  by_cases h2 : leN (bs.drop (bs.length - 4)) = crc (bs.take (bs.length - 4))
  · rw [openS_ok bs (by omega) h2, e1]
    rw [e1] at h2
    rw [h2] at H2
    have e2 : (bs.take n).length = n := c1.1
    rw [e2]
    exact open_yes b off n cap _ _ w hcap (by omega) c1 H1 H2
  · rw [openS_no bs (by omega) h2]
    rw [e1] at h2
    refine (open_no b off n cap _ _ w hcap (by omega) (by rw [bne_iff_ne]; omega) H1 H2).mono ?_
    rintro e w' ⟨rfl, hbel⟩
    exact ⟨_, rfl, World.ownsRow_nil _ _ _ _, hbel⟩

set_option maxRecDepth 4000 in
set_option maxHeartbeats 400000 in
theorem seal_any (a : Option Addr) (len cap : Nat) (bs : List UInt8) (w : World) (hB : IsB w a len bs) (hl : len ≤ 140737488355328) :
    Calls Try.prog 23 #[.slice a len cap] w fun e w' => ∃ v, e = .returned v ∧ w'.ownsRow w.heap.size 5 1 v (len + 4) (toV (bs ++ leB (crc bs))) ∧ Below w.heap.size w w' := by
  obtain ⟨x, ex⟩ : ∃ x, x = crc bs := ⟨_, rfl⟩
  rw [← ex]
  obtain ⟨i0, hi, hz0, hz1, hz2⟩ := info_parts info8
  have hmk := run_mk (P := Try.prog) 30 5 Try.underlying30 info8 len 4 (by omega)
  have hmk2 : ∀ w : World, (Instr.makeSlice 30 (.int .i64 (len : Int)) (.int .i64 ((len : Int) + 4))).run Try.prog w = .ok (.slice (some ⟨w.heap.size, 0, none⟩) len (len + 4)) (w.alloc (.cells (zrow (len + 4)).toArray 5)) := hmk
  have hrow : (w.alloc (.cells (zrow (len + 4)).toArray 5)).heap[w.heap.size]? = some (.cells (zrow (len + 4)).toArray 5 (0, 0)) := heap_alloc_new w _
  clear hmk
  go_enter Try.func23, Try.ntmps23
  go_wp2_with (refine wpList_copy_splice rfl (.tmp 12) (.tmp 13) 30 30 rfl 5 Try.underlying30 info8s (some ⟨w.heap.size, 0, none⟩) a len (len + 4) len cap rfl rfl w.heap.size 0 (zrow (len + 4)) 5 hrow (toV bs) (by rw [toV_length, hB.1]; exact (Nat.min_self _).symm) (hB.hpos _ _) (by rw [toV_length, zrow_length, hB.1]; omega) (toV_one bs) w.heap.size w ((Below.refl _ _).alloc (Nat.le_refl _) _) (Nat.le_refl _) ?_)
  intro w2 HG hb2
  have hown := owns_spliced (m := 4) hB.1 (Nat.le_refl w.heap.size) (by omega) HG.out
  have R := of_any a len cap bs w2 (hB.below hb2) hl
  have hx := crc_lt bs
  rw [← ex] at R hx
  clear ex
  have HR := hide R
  clear R HG hrow hmk2
  go_wp2_with fail
  refine HR.out.mono ?_
  rintro e w1 ⟨rfl, rfl⟩
  go_wp2
  go_loopw [3, 17] (fun v i wr => ∃ j : Nat, j ≤ 4 ∧ i = .int .i64 j ∧ v = .slice (some ⟨w.heap.size, 0, none⟩) (len + j) (len + 4) ∧ wr.ownsRow w.heap.size 5 1 (.slice (some ⟨w.heap.size, 0, none⟩) (len + j) (len + 4)) (len + j) (toV (bs ++ (leB x).take j)) ∧ Below w.heap.size w wr) (fun _ i _ => 4 - (intOf i).toNat)
  case atStart => exact ⟨0, Nat.zero_le _, rfl, rfl, by simpa using hown, hb2⟩
  case round =>
    obtain ⟨j, hj, rfl, rfl, hownr, hbr⟩ := hrel
    clear hown hb2
    by_cases hlt : j < 4
    · go_wp2_with (at_builtin; refine wpList_append_fits _ rfl (.tmp 20) (.tmp 26) 30 rfl w.heap.size 5 i0 1 Try.underlying30 hi hz1 w.heap.size (len + j) (len + 4) _ rfl (hownr.alloc _) ⟨wr.heap.size, 0, none⟩ 1 1 [.int .u8 ((x : Int) / 2 ^ (8 * j) % 256)] rfl rfl (cell_one_new _ _ _) (by simp [Value.oneCell']) (by omega) ?_)
      intro w2 hown2 hgr
      rw [byte_at] at hown2
      have hown3 := put_row hown2 (leB_take x j hlt)
      have hb3 : Below w.heap.size w w2 := (hbr.alloc hbr.size _).grown hgr (by simp; have := hbr.size; omega) (by simp)
      clear hown2 hgr hownr
      go_wp2
      go_roundw
      case rel => exact ⟨j + 1, by omega, by go_num, by simp [Nat.add_assoc], hown3, hb3⟩
      case measure => simp [intOf]; omega
    · go_wp2
      go_ret
      obtain rfl : j = 4 := by omega
      exact ⟨_, rfl, hownr, hbr⟩
end Go.Proofs.Ytgobegpmojkhaaa

/-
  The contract of quaysideref01.Take: it answers 'takeS' too, over the string's bytes.
-/
namespace Go.Proofs.Ytgobegpmojkhaaa
open Go.RowKit
set_option linter.unusedVariables false

set_option maxRecDepth 4000 in
set_option maxHeartbeats 400000 in
theorem rtake_arg1 (s : ByteArray) (p k : Int) (w : World) (h : k < 1) :
    Calls Try.prog 31 #[.string s, .int .i64 p, .int .i64 k] w fun e w' => e = .returned (.tuple #[.int .u64 0, .int .i64 1]) ∧ w = w' := by
  go_enter Try.func31, Try.ntmps31
  go_wp2
  go_ret2
  exact ⟨rfl, rfl⟩

set_option maxRecDepth 4000 in
set_option maxHeartbeats 400000 in
theorem rtake_arg2 (s : ByteArray) (p k : Int) (w : World) (h : 8 < k) :
    Calls Try.prog 31 #[.string s, .int .i64 p, .int .i64 k] w fun e w' => e = .returned (.tuple #[.int .u64 0, .int .i64 1]) ∧ w = w' := by
  have h1 : ¬ k < 1 := by omega
  go_enter Try.func31, Try.ntmps31
  go_wp2
  go_ret2
  exact ⟨rfl, rfl⟩

set_option maxRecDepth 4000 in
set_option maxHeartbeats 400000 in
theorem rtake_arg3 (s : ByteArray) (p k : Int) (w : World) (h1 : 1 ≤ k) (h2 : k ≤ 8) (h3 : p < 0) :
    Calls Try.prog 31 #[.string s, .int .i64 p, .int .i64 k] w fun e w' => e = .returned (.tuple #[.int .u64 0, .int .i64 1]) ∧ w = w' := by
  have h4 : ¬ k < 1 := by omega
  have h5 : ¬ 8 < k := by omega
  go_enter Try.func31, Try.ntmps31
  go_wp2
  go_ret2
  exact ⟨rfl, rfl⟩

set_option maxRecDepth 4000 in
set_option maxHeartbeats 400000 in
theorem rtake_short1 (s : ByteArray) (p k : Int) (w : World) (h1 : 1 ≤ k) (h2 : k ≤ 8) (h3 : 0 ≤ p) (h4 : (s.size : Int) < p) :
    Calls Try.prog 31 #[.string s, .int .i64 p, .int .i64 k] w fun e w' => e = .returned (.tuple #[.int .u64 0, .int .i64 4]) ∧ w = w' := by
  have h5 : ¬ p < 0 := by omega
  have h6 : ¬ k < 1 := by omega
  have h7 : ¬ 8 < k := by omega
  go_enter Try.func31, Try.ntmps31
  go_wp2
  go_ret2
  exact ⟨rfl, rfl⟩

set_option maxRecDepth 4000 in
set_option maxHeartbeats 400000 in
theorem rtake_short2 (s : ByteArray) (p k : Int) (w : World) (hl : s.size ≤ 9223372036854775807) (h1 : 1 ≤ k) (h2 : k ≤ 8) (h3 : 0 ≤ p) (h4 : p ≤ (s.size : Int)) (h8 : (s.size : Int) - p < k) :
    Calls Try.prog 31 #[.string s, .int .i64 p, .int .i64 k] w fun e w' => e = .returned (.tuple #[.int .u64 0, .int .i64 4]) ∧ w = w' := by
  have h5 : ¬ p < 0 := by omega
  have h6 : ¬ k < 1 := by omega
  have h7 : ¬ 8 < k := by omega
  have h9 : ¬ (s.size : Int) < p := by omega
  go_enter Try.func31, Try.ntmps31
  go_wp2
  go_ret2
  exact ⟨rfl, rfl⟩

set_option maxRecDepth 4000 in
set_option maxHeartbeats 400000 in
theorem rtake_ok (s : ByteArray) (p k : Nat) (w : World) (hl : s.size ≤ 9223372036854775807) (h1 : 1 ≤ k) (h2 : k ≤ 8) (h4 : p + k ≤ s.size) :
    Calls Try.prog 31 #[.string s, .int .i64 p, .int .i64 k] w fun e w' => e = .returned (.tuple #[.int .u64 (beAt s.data.toList p k : Nat), .int .i64 0]) ∧ w = w' := by
  have h3 : ¬ (p : Int) < 0 := by omega
  have h5 : ¬ (s.size : Int) - (p : Int) < (k : Int) := by omega
  have h6 : ¬ (k : Int) < 1 := by omega
  have h7 : ¬ 8 < (k : Int) := by omega
  have h8 : ¬ (s.size : Int) < (p : Int) := by omega
  go_enter Try.func31, Try.ntmps31
  go_wp2
  go_loop [8, 9] (fun n i => ∃ j : Nat, j ≤ k ∧ i = .int .i64 j ∧ n = .int .u64 (beAt s.data.toList p j : Nat)) (fun _ i => k - (intOf i).toNat)
  case atStart => exact ⟨0, Nat.zero_le _, rfl, by rw [beAt_zero]; rfl⟩
  case round =>
    obtain ⟨j, hj, rfl, rfl⟩ := hrel
    by_cases hlt : j < k
    · have hn := beAt_lt7 s.data.toList p j (by omega)
      have hpj : p + j < s.size := by omega
      go_wp2
      go_round
      case rel => exact ⟨j + 1, by omega, by go_num, by rw [rtake_step s p j (by omega) (by omega)]⟩
      case measure => simp [intOf]; omega
    · go_wp2
      go_ret2
      obtain rfl : j = k := by omega
      exact ⟨rfl, rfl⟩

/-- THE CONTRACT. -/
theorem rtake_any (s : ByteArray) (p k : Int) (w : World) (hl : s.size ≤ 9223372036854775807) :
    Calls Try.prog 31 #[.string s, .int .i64 p, .int .i64 k] w fun e w' => e = .returned (.tuple #[.int .u64 (takeS s.data.toList p k).1, .int .i64 (takeS s.data.toList p k).2]) ∧ w = w' := by
  have hs : s.data.toList.length = s.size := by simp
  by_cases h1 : k < 1
  · rw [takeS_arg _ p k (Or.inl h1)]
    exact rtake_arg1 s p k w h1
  by_cases h2 : 8 < k
  · rw [takeS_arg _ p k (Or.inr (Or.inl h2))]
    exact rtake_arg2 s p k w h2
  by_cases h3 : p < 0
  · rw [takeS_arg _ p k (Or.inr (Or.inr h3))]
    exact rtake_arg3 s p k w (by omega) (by omega) h3
  have h0 : ¬ (k < 1 ∨ 8 < k ∨ p < 0) := by omega
  by_cases h4 : (s.data.toList.length : Int) - p < k
  · rw [takeS_short _ p k h0 h4]
    by_cases h5 : (s.size : Int) < p
    · exact rtake_short1 s p k w (by omega) (by omega) (by omega) h5
    · exact rtake_short2 s p k w hl (by omega) (by omega) (by omega) (by omega) (by omega)
  · rw [takeS_ok _ p k h0 h4]
    obtain ⟨pn, rfl⟩ := Int.eq_ofNat_of_zero_le (show 0 ≤ p by omega)
    obtain ⟨kn, rfl⟩ := Int.eq_ofNat_of_zero_le (show 0 ≤ k by omega)
    exact rtake_ok s pn kn w hl (by omega) (by omega) (by omega)
end Go.Proofs.Ytgobegpmojkhaaa

/-
  The contract of quaysideref01.TakeText: it answers 'textS' too, over the string's bytes.
-/
namespace Go.Proofs.Ytgobegpmojkhaaa
open Go.RowKit
set_option linter.unusedVariables false

set_option maxRecDepth 4000 in
set_option maxHeartbeats 400000 in
theorem rttext_arg (s : ByteArray) (p : Int) (w : World) (h : p < 0) :
    Calls Try.prog 76 #[.string s, .int .i64 p] w fun e w' => e = .returned (.tuple #[.string ⟨#[]⟩, .int .i64 0, .int .i64 1]) ∧ w = w' := by
  go_enter Try.func76, Try.ntmps76
  go_wp2
  go_ret3
  exact ⟨rfl, rfl⟩

set_option maxRecDepth 4000 in
set_option maxHeartbeats 400000 in
theorem rttext_short (s : ByteArray) (p : Int) (w : World) (h : ¬ p < 0) (h2 : (s.size : Int) ≤ p) :
    Calls Try.prog 76 #[.string s, .int .i64 p] w fun e w' => e = .returned (.tuple #[.string ⟨#[]⟩, .int .i64 0, .int .i64 4]) ∧ w = w' := by
  go_enter Try.func76, Try.ntmps76
  go_wp2
  go_ret3
  exact ⟨rfl, rfl⟩

set_option maxRecDepth 4000 in
set_option maxHeartbeats 400000 in
theorem rttext_few (s : ByteArray) (p : Nat) (w : World) (hl : s.size ≤ 140737488355328) (h1 : p < s.size) (h2 : (s.size : Int) - p - 1 < (s[p].toNat : Int)) :
    Calls Try.prog 76 #[.string s, .int .i64 p] w fun e w' => e = .returned (.tuple #[.string ⟨#[]⟩, .int .i64 0, .int .i64 4]) ∧ w = w' := by
  have hm : s[p].toNat < 256 := s[p].toNat_lt
  go_enter Try.func76, Try.ntmps76
  go_wp2
  go_ret3
  exact ⟨rfl, rfl⟩

set_option maxRecDepth 4000 in
set_option maxHeartbeats 400000 in
theorem rttext_ok (s : ByteArray) (p : Nat) (w : World) (hl : s.size ≤ 140737488355328) (h1 : p < s.size) (h2 : ¬ (s.size : Int) - p - 1 < (s[p].toNat : Int)) :
    Calls Try.prog 76 #[.string s, .int .i64 p] w fun e w' => e = .returned (.tuple #[.string (s.extract (p + 1) (p + 1 + s[p].toNat)), .int .i64 ((p : Int) + 1 + (s[p].toNat : Int)), .int .i64 0]) ∧ w = w' := by
  have hm : s[p].toNat < 256 := s[p].toNat_lt
  go_enter Try.func76, Try.ntmps76
  go_wp2
  go_ret3
  exact ⟨rfl, rfl⟩

/-- THE CONTRACT. -/
theorem rttext_any (s : ByteArray) (p : Int) (w : World) (hl : s.size ≤ 140737488355328) :
    Calls Try.prog 76 #[.string s, .int .i64 p] w fun e w' => e = .returned (.tuple #[.string ⟨(textS s.data.toList p).1.toArray⟩, .int .i64 (textS s.data.toList p).2.1, .int .i64 (textS s.data.toList p).2.2]) ∧ w = w' := by
  have hs : s.data.toList.length = s.size := by simp
  by_cases h1 : p < 0
  · rw [textS_arg _ p h1]
    exact rttext_arg s p w h1
  by_cases h2 : (s.data.toList.length : Int) ≤ p
  · rw [textS_short _ p h1 h2]
    exact rttext_short s p w h1 (by omega)
  obtain ⟨pn, rfl⟩ := Int.eq_ofNat_of_zero_le (show 0 ≤ p by omega)
  have hp : pn < s.size := by omega
  have hg : (s.data.toList.getD pn 0).toNat = s[pn].toNat := by rw [getD_str s pn hp]
  by_cases h3 : pn + 1 + s[pn].toNat ≤ s.size
  · rw [textS_ok _ pn _ (by omega) hg (by omega)]
    have R := rttext_ok s pn w hl hp (by omega)
    rw [extract_eq s (pn + 1) s[pn].toNat (by omega)] at R
    exact R
  · rw [textS_few _ pn _ (by omega) hg (by omega)]
    exact rttext_few s pn w hl hp (by omega)
end Go.Proofs.Ytgobegpmojkhaaa

/-
  The contracts of quaysideref06's reader.
-/
namespace Go.Proofs.Ytgobegpmojkhaaa
open Go.RowKit
set_option linter.unusedVariables false

def rdA (b : ByteArray) (k : Nat) (e : Int) : Array Value := #[.string b, .int .i64 (k : Int), .int .i64 e]
/-- A reader in memory: its bytes, and what is left of them. -/
def RdAt (w : World) (g : Nat) (b : ByteArray) (s : St) : Prop :=
  ∃ k : Nat, RowAt w g 97 (rdA b k s.e) ∧ k ≤ b.size + 8 ∧ (s.e = 0 → k ≤ b.size ∧ b.data.toList.drop k = s.l)

theorem grown_refl (w : World) (o : Option Nat) : w.grownBy w o := ⟨rfl, rfl, rfl, Nat.le_refl _, fun _ _ _ => rfl⟩
theorem grown_drew {w x : World} {o : Option Nat} (h : w.grownBy x o) : w.grownBy x.drew o := ⟨h.os, h.tape, h.output, h.size, h.block⟩
theorem grown_set {w x : World} {g j : Nat} (v : Value) (h : w.grownBy x (some g)) : w.grownBy (x.setCell ⟨g, j, none⟩ v) (some g) := by
  have hb : Below 0 x (x.setCell ⟨g, j, none⟩ v) := (Below.refl 0 x).setCell (Nat.zero_le _) _
  refine ⟨hb.os.trans h.os, hb.tape.trans h.tape, hb.output.trans h.output, Nat.le_trans h.size hb.size, fun k hk hn => ?_⟩
  rw [heap_setCell_other x ⟨g, j, none⟩ k v (fun e => hn (by rw [e]))]
  exact h.block k hk hn
theorem grown_any {w x : World} {o : Option Nat} (h : w.grownBy x none) : w.grownBy x o := ⟨h.os, h.tape, h.output, h.size, fun k hk _ => h.block k hk (by simp)⟩
theorem rd_set {w : World} {g : Nat} {b : ByteArray} {k : Nat} {e : Int} (h : RowAt w g 97 (rdA b k e)) (k2 : Nat) (e2 : Int) : RowAt ((w.setCell ⟨g, 2, none⟩ (.int .i64 e2)).setCell ⟨g, 1, none⟩ (.int .i64 (k2 : Int))) g 97 (rdA b k2 e2) := (h.set 2 (.int .i64 e2)).set 1 (.int .i64 (k2 : Int))
theorem load_s {b j : Nat} (x : World) (s : ByteArray) (h : x.cell? ⟨b, j, none⟩ = some (.string s)) : (Instr.loadAt 9 (.pointer (some ⟨b, j, none⟩))).run Try.prog x = .ok (.string s) x := by go_simp

/-- What 'num' answers, by what 'Take' answers. -/
theorem num_take (b : ByteArray) (s : St) (k w : Nat) (hw : 1 ≤ w ∧ w ≤ 8) (he : s.e = 0) (hk : k ≤ b.size) (hl : b.data.toList.drop k = s.l) :
    (takeS b.data.toList (k : Int) (w : Int)).1 = ((pNum w s).1 : Int) ∧ (takeS b.data.toList (k : Int) (w : Int)).2 = (pNum w s).2.e ∧ ((pNum w s).2.e = 0 → k + w ≤ b.size ∧ b.data.toList.drop (k + w) = (pNum w s).2.l) := by
  have hz := data_length b
  have hll : s.l.length = b.size - k := by rw [← hl, List.length_drop, hz]
  unfold pNum
  rw [if_neg (by simpa using he)]
  by_cases h : w ≤ s.l.length
  · rw [if_pos h, takeS_ok _ _ _ (by omega) (by rw [hz]; omega)]
    refine ⟨?_, rfl, fun _ => ⟨by omega, ?_⟩⟩
    · show ((beAt b.data.toList (k : Int).toNat (w : Int).toNat : Nat) : Int) = ((be (s.l.take w) : Nat) : Int)
      rw [Int.toNat_natCast, Int.toNat_natCast, ← hl]
      rfl
    · show _ = s.l.drop w
      rw [← hl, List.drop_drop]
  · rw [if_neg h, takeS_short _ _ _ (by omega) (by rw [hz]; omega)]
    exact ⟨rfl, rfl, fun h => by cases h⟩

set_option maxRecDepth 4000 in
set_option maxHeartbeats 1600000 in
theorem rnum_any (g : Nat) (b : ByteArray) (s : St) (k : Nat) (w : World) (hk : 1 ≤ k ∧ k ≤ 8) (hb : b.size ≤ 140737488355328) (h : RdAt w g b s) :
    Calls Try.prog 54 #[.pointer (some ⟨g, 0, none⟩), .int .i64 (k : Int)] w fun e w' => e = .returned (.int .u64 ((pNum k s).1 : Int)) ∧ RdAt w' g b (pNum k s).2 ∧ w.grownBy w' (some g) := by
  obtain ⟨p, hr, hp, hs⟩ := h
  have c0 := hr.cell 0 (.string b) rfl
  have c1 := hr.cell 1 (.int .i64 (p : Int)) rfl
  have c2 := hr.cell 2 (.int .i64 s.e) rfl
  have HR := hide hr
  clear hr
  by_cases he : s.e = 0
  · obtain ⟨hp2, hl⟩ := hs he
    obtain ⟨t1, t2, t3⟩ := num_take b s p k hk he hp2 hl
    have HT := hide (fun w => rtake_any b (p : Int) (k : Int) w (by omega))
    rw [t1, t2] at HT
    have H3 := hide t3
    rw [he] at c2 HR
    have ew : IntKind.i64.wrap ((p : Int) + (k : Int)) = (p : Int) + (k : Int) := by rw [IntKind.wrap_i64]; omega
    clear t1 t2 t3 hs hl he
    generalize pNum k s = ns at *
    obtain ⟨n, s'⟩ := ns
    simp only at HT H3
    go_enter Try.func54, Try.ntmps54
    go_wp2_with fail
    refine wp_region_in (fun x => w.grownBy x none ∧ RowAt x g 97 (rdA b p 0)) (by kernel_rfl) (by kernel_rfl) ⟨grown_drew (grown_refl w none), HR.out⟩ ?_
    clear HR c0 c1 c2
    repeat (first
      | go_big_quiet_skip
      | (refine wpQuiet_load rfl 9 (.tmp 15) rfl _ (.string b) rfl (fun y hy => load_s y b (hy.2.cell 0 (.string b) rfl)) ?_; simp only [Act.put, Array.setIfInBounds, List.size_toArray, List.length_cons, List.length_nil, Nat.reduceAdd, Nat.reduceLT, ↓reduceDIte, List.set_toArray, List.set_cons_succ, List.set_cons_zero])
      | (refine wpQuiet_load rfl 3 (.tmp 19) rfl _ (.int .i64 (p : Int)) rfl (fun y hy => load_i64 y (p : Int) (hy.2.cell 1 (.int .i64 (p : Int)) rfl)) ?_; simp only [Act.put, Array.setIfInBounds, List.size_toArray, List.length_cons, List.length_nil, Nat.reduceAdd, Nat.reduceLT, ↓reduceDIte, List.set_toArray, List.set_cons_succ, List.set_cons_zero])
      | (refine wpQuiet_call rfl 31 #[.string b, .int .i64 (p : Int), .int .i64 (k : Int)] (.tuple #[.int .u64 (n : Int), .int .i64 s'.e]) ?_ (fun x hC => (HT.out x).mono fun e x' h => ⟨h.1, h.2 ▸ hC⟩) ?_; (intro x; go_simp); simp only [Act.put, Array.setIfInBounds, List.size_toArray, List.length_cons, List.length_nil, Nat.reduceAdd, Nat.reduceLT, ↓reduceDIte, List.set_toArray, List.set_cons_succ, List.set_cons_zero])
      | (refine wpQuiet_plain rfl (fun K hK => ?_); go_simp; refine hK _ ?_; clear hK K))
    refine wpQuiet_nil ?_
    intro x hx
    have q1 := hx.2.cell 1 (.int .i64 (p : Int)) rfl
    have q2 := hx.2.cell 2 (.int .i64 0) rfl
    have f1 := hx.2.free 1
    have f2 := hx.2.free 2
    have HX : Hid (RdAt ((x.setCell ⟨g, 2, none⟩ (.int .i64 s'.e)).setCell ⟨g, 1, none⟩ (.int .i64 ((p : Int) + (k : Int)))) g b s' ∧ w.grownBy ((x.setCell ⟨g, 2, none⟩ (.int .i64 s'.e)).setCell ⟨g, 1, none⟩ (.int .i64 ((p : Int) + (k : Int)))) (some g)) :=
      ⟨⟨p + k, by have h := rd_set hx.2 (p + k) s'.e; rw [show ((p + k : Nat) : Int) = (p : Int) + (k : Int) by omega] at h; unfold rdA at h ⊢; rw [show ((p + k : Nat) : Int) = (p : Int) + (k : Int) by omega]; exact h, by omega, H3.out⟩, grown_set _ (grown_set _ (grown_any hx.1))⟩
    clear hx HT H3
    generalize s'.e = es at *
    go_wp2
    go_ret
    exact ⟨rfl, HX.out.1, HX.out.2⟩
  · have e : pNum k s = (0, s) := by unfold pNum; rw [if_pos he]
    rw [e]
    have k0 : (s.e == 0) = false := by rw [beq_eq_false_iff_ne]; exact he
    have k1 : (s.e != 0) = true := by rw [bne, k0]; rfl
    have HP := hide (show RdAt w g b s from ⟨p, HR.out, hp, fun h => absurd h he⟩)
    clear HR he hs e
    generalize s.e = es at *
    go_enter Try.func54, Try.ntmps54
    go_wp2
    go_ret
    exact ⟨rfl, HP.out, grown_refl _ _⟩

/-- What 'text' answers, by what 'TakeText' answers. -/
theorem text_take (b : ByteArray) (s : St) (k : Nat) (he : s.e = 0) (hk : k ≤ b.size) (hl : b.data.toList.drop k = s.l) :
    ∃ k2 : Nat, (textS b.data.toList (k : Int)).2.1 = (k2 : Int) ∧ k2 ≤ b.size ∧ (⟨(textS b.data.toList (k : Int)).1.toArray⟩ : ByteArray) = (pText s).1 ∧ (textS b.data.toList (k : Int)).2.2 = (pText s).2.e ∧ ((pText s).2.e = 0 → b.data.toList.drop k2 = (pText s).2.l) := by
  have hz := data_length b
  unfold pText
  rw [if_neg (by simpa using he)]
  cases hs : s.l with
  | nil =>
    have hkk : b.size ≤ k := by
      have h := congrArg List.length hl
      rw [hs, List.length_drop, hz] at h
      simp only [List.length_nil] at h
      omega
    rw [textS_short _ _ (by omega) (by rw [hz]; omega)]
    exact ⟨0, rfl, by omega, rfl, rfl, fun h => by cases h⟩
  | cons x l =>
    have hlen : k < b.size := by
      have h := congrArg List.length hl
      rw [hs, List.length_drop, hz, List.length_cons] at h
      omega
    have hll : l.length = b.size - k - 1 := by
      have h := congrArg List.length hl
      rw [hs, List.length_drop, hz, List.length_cons] at h
      omega
    have hx : b.data.toList.getD k 0 = x := by
      have h : (b.data.toList.drop k)[0]? = some x := by rw [hl, hs]; rfl
      rw [List.getElem?_drop, Nat.add_zero] at h
      rw [List.getD, h]
      rfl
    have hd : b.data.toList.drop (k + 1) = l := by
      have h : (b.data.toList.drop k).drop 1 = l := by rw [hl, hs]; rfl
      rwa [List.drop_drop] at h
    simp only
    by_cases hb : x.toNat ≤ l.length
    · rw [if_pos hb, textS_ok _ k x.toNat (by rw [hz]; omega) (by rw [hx]) (by rw [hz]; omega)]
      refine ⟨k + 1 + x.toNat, by show (k : Int) + 1 + (x.toNat : Int) = _; omega, by omega, by rw [hd], rfl, fun _ => ?_⟩
      show _ = l.drop x.toNat
      rw [← hd, List.drop_drop]
    · rw [if_neg hb, textS_few _ k x.toNat (by rw [hz]; omega) (by rw [hx]) (by rw [hz]; omega)]
      exact ⟨0, rfl, by omega, rfl, rfl, fun h => by cases h⟩

set_option maxRecDepth 4000 in
set_option maxHeartbeats 1600000 in
theorem rtext_any (g : Nat) (b : ByteArray) (s : St) (w : World) (hb : b.size ≤ 140737488355328) (h : RdAt w g b s) :
    Calls Try.prog 55 #[.pointer (some ⟨g, 0, none⟩)] w fun e w' => e = .returned (.string (pText s).1) ∧ RdAt w' g b (pText s).2 ∧ w.grownBy w' (some g) := by
  obtain ⟨p, hr, hp, hs⟩ := h
  have c0 := hr.cell 0 (.string b) rfl
  have c1 := hr.cell 1 (.int .i64 (p : Int)) rfl
  have c2 := hr.cell 2 (.int .i64 s.e) rfl
  have HR := hide hr
  clear hr
  by_cases he : s.e = 0
  · obtain ⟨hp2, hl⟩ := hs he
    obtain ⟨k2, t0, tz, t1, t2, t3⟩ := text_take b s p he hp2 hl
    have HT := hide (fun w => rttext_any b (p : Int) w hb)
    rw [t0, t1, t2] at HT
    have H3 := hide (And.intro tz t3)
    rw [he] at c2 HR
    clear t0 tz t1 t2 t3 hs hl he
    generalize pText s = ns at *
    obtain ⟨n, s'⟩ := ns
    simp only at HT H3
    go_enter Try.func55, Try.ntmps55
    go_wp2_with fail
    refine wp_region_in (fun x => w.grownBy x none ∧ RowAt x g 97 (rdA b p 0)) (by kernel_rfl) (by kernel_rfl) ⟨grown_drew (grown_refl w none), HR.out⟩ ?_
    clear HR c0 c1 c2
    repeat (first
      | go_big_quiet_skip
      | (refine wpQuiet_load rfl 9 (.tmp 14) rfl _ (.string b) rfl (fun y hy => load_s y b (hy.2.cell 0 (.string b) rfl)) ?_; simp only [Act.put, Array.setIfInBounds, List.size_toArray, List.length_cons, List.length_nil, Nat.reduceAdd, Nat.reduceLT, ↓reduceDIte, List.set_toArray, List.set_cons_succ, List.set_cons_zero])
      | (refine wpQuiet_load rfl 3 (.tmp 18) rfl _ (.int .i64 (p : Int)) rfl (fun y hy => load_i64 y (p : Int) (hy.2.cell 1 (.int .i64 (p : Int)) rfl)) ?_; simp only [Act.put, Array.setIfInBounds, List.size_toArray, List.length_cons, List.length_nil, Nat.reduceAdd, Nat.reduceLT, ↓reduceDIte, List.set_toArray, List.set_cons_succ, List.set_cons_zero])
      | (refine wpQuiet_call rfl 76 #[.string b, .int .i64 (p : Int)] (.tuple #[.string n, .int .i64 (k2 : Int), .int .i64 s'.e]) ?_ (fun x hC => (HT.out x).mono fun e x' h => ⟨h.1, h.2 ▸ hC⟩) ?_; (intro x; go_simp); simp only [Act.put, Array.setIfInBounds, List.size_toArray, List.length_cons, List.length_nil, Nat.reduceAdd, Nat.reduceLT, ↓reduceDIte, List.set_toArray, List.set_cons_succ, List.set_cons_zero])
      | (refine wpQuiet_plain rfl (fun K hK => ?_); go_simp; refine hK _ ?_; clear hK K))
    refine wpQuiet_nil ?_
    intro x hx
    have q1 := hx.2.cell 1 (.int .i64 (p : Int)) rfl
    have q2 := hx.2.cell 2 (.int .i64 0) rfl
    have f1 := hx.2.free 1
    have f2 := hx.2.free 2
    have HX : Hid (RdAt ((x.setCell ⟨g, 2, none⟩ (.int .i64 s'.e)).setCell ⟨g, 1, none⟩ (.int .i64 (k2 : Int))) g b s' ∧ w.grownBy ((x.setCell ⟨g, 2, none⟩ (.int .i64 s'.e)).setCell ⟨g, 1, none⟩ (.int .i64 (k2 : Int))) (some g)) :=
      ⟨⟨k2, rd_set hx.2 k2 s'.e, by have := H3.out.1; omega, fun h => ⟨H3.out.1, H3.out.2 h⟩⟩, grown_set _ (grown_set _ (grown_any hx.1))⟩
    clear hx HT H3
    generalize s'.e = es at *
    go_wp2
    go_ret
    exact ⟨rfl, HX.out.1, HX.out.2⟩
  · have e : pText s = (⟨#[]⟩, s) := by unfold pText; rw [if_pos he]
    rw [e]
    have k0 : (s.e == 0) = false := by rw [beq_eq_false_iff_ne]; exact he
    have k1 : (s.e != 0) = true := by rw [bne, k0]; rfl
    have HP := hide (show RdAt w g b s from ⟨p, HR.out, hp, fun h => absurd h he⟩)
    clear HR he hs e
    generalize s.e = es at *
    go_enter Try.func55, Try.ntmps55
    go_wp2
    go_ret
    exact ⟨rfl, HP.out, grown_refl _ _⟩

theorem grown_trans {w x y : World} {o : Option Nat} (h : w.grownBy x o) (g : x.grownBy y o) : w.grownBy y o :=
  ⟨g.os.trans h.os, g.tape.trans h.tape, g.output.trans h.output, Nat.le_trans h.size g.size, fun k hk hn => (g.block k (Nat.lt_of_lt_of_le hk h.size) hn).trans (h.block k hk hn)⟩

set_option maxRecDepth 4000 in
set_option maxHeartbeats 1600000 in
theorem rmany_any (g : Nat) (b : ByteArray) (s : St) (m : Nat) (w : World) (hb : b.size ≤ 140737488355328) (h : RdAt w g b s) :
    Calls Try.prog 56 #[.pointer (some ⟨g, 0, none⟩), .int .u64 (m : Int)] w fun e w' => e = .returned (.int .u64 ((pIn 0 m s).1 : Int)) ∧ RdAt w' g b (pIn 0 m s).2 ∧ w.grownBy w' (some g) := by
  have HN := hide (rnum_any g b s 1 w (by omega) hb h)
  have ei : pIn 0 m s = if (pNum 1 s).2.e = 0 ∧ ((pNum 1 s).1 < 0 ∨ m < (pNum 1 s).1) then ((pNum 1 s).1, ⟨(pNum 1 s).2.l, 2⟩) else pNum 1 s := rfl
  have HE := hide ei
  clear h ei
  generalize pIn 0 m s = r at *
  generalize pNum 1 s = ns at *
  obtain ⟨n, s'⟩ := ns
  simp only at HN HE
  go_enter Try.func56, Try.ntmps56
  go_wp2_with fail
  refine HN.out.mono ?_
  rintro e w1 ⟨rfl, hr, hg⟩
  clear HN
  obtain ⟨p, hr1, hp, hs⟩ := hr
  have c2 := hr1.cell 2 (.int .i64 s'.e) rfl
  have f2 := hr1.free 2
  by_cases he : s'.e = 0
  · by_cases hm : m < n
    · have er : r = (n, ⟨s'.l, 2⟩) := by rw [HE.out, if_pos ⟨he, .inr hm⟩]
      subst er
      have i1 : (m : Int) < (n : Int) := by omega
      have HX : Hid (RdAt (w1.setCell ⟨g, 2, none⟩ (.int .i64 2)) g b ⟨s'.l, 2⟩ ∧ w.grownBy (w1.setCell ⟨g, 2, none⟩ (.int .i64 2)) (some g)) := ⟨⟨p, hr1.set 2 (.int .i64 2), hp, fun h => by cases h⟩, grown_set _ hg⟩
      rw [he] at c2
      clear HE hr1 hs hg hm
      go_wp2
      go_ret
      exact ⟨rfl, HX.out.1, HX.out.2⟩
    · have er : r = (n, s') := by rw [HE.out, if_neg (by omega)]
      subst er
      have i1 : ¬ (m : Int) < (n : Int) := by omega
      have HX : Hid (RdAt w1 g b s' ∧ w.grownBy w1 (some g)) := ⟨⟨p, hr1, hp, hs⟩, hg⟩
      rw [he] at c2
      clear HE hr1 hs hg hm
      go_wp2
      go_ret
      exact ⟨rfl, HX.out.1, HX.out.2⟩
  · have er : r = (n, s') := by rw [HE.out, if_neg (fun h => he h.1)]
    subst er
    have k0 : (s'.e == 0) = false := by rw [beq_eq_false_iff_ne]; exact he
    have HX : Hid (RdAt w1 g b s' ∧ w.grownBy w1 (some g)) := ⟨⟨p, hr1, hp, hs⟩, hg⟩
    clear HE hr1 hs hg he
    generalize s'.e = es at *
    go_wp2
    go_ret
    exact ⟨rfl, HX.out.1, HX.out.2⟩
end Go.Proofs.Ytgobegpmojkhaaa

/-
  The contract of pack.Take: of any bytes, at any place, in any width it answers 'takeS', and turns nothing.
-/
namespace Go.Proofs.Ytgobegpmojkhaaa
open Go.RowKit
set_option linter.unusedVariables false

set_option maxRecDepth 4000 in
set_option maxHeartbeats 400000 in
theorem take_arg1 (a : Option Addr) (len cap : Nat) (p k : Int) (w : World) (h : k < 1) :
    Calls Try.prog 51 #[.slice a len cap, .int .i64 p, .int .i64 k] w fun e w' => e = .returned (.tuple #[.int .u64 0, .int .i64 1]) ∧ w = w' := by
  have h1 : ¬ (1 : Int) ≤ k := by omega
  go_enter Try.func51, Try.ntmps51
  go_wp2
  go_ret2
  exact ⟨rfl, rfl⟩

set_option maxRecDepth 4000 in
set_option maxHeartbeats 400000 in
theorem take_arg2 (a : Option Addr) (len cap : Nat) (p k : Int) (w : World) (h : 8 < k) :
    Calls Try.prog 51 #[.slice a len cap, .int .i64 p, .int .i64 k] w fun e w' => e = .returned (.tuple #[.int .u64 0, .int .i64 1]) ∧ w = w' := by
  have h1 : (1 : Int) ≤ k := by omega
  have h2 : ¬ k ≤ 8 := by omega
  go_enter Try.func51, Try.ntmps51
  go_wp2
  go_ret2
  exact ⟨rfl, rfl⟩

set_option maxRecDepth 4000 in
set_option maxHeartbeats 400000 in
theorem take_arg3 (a : Option Addr) (len cap : Nat) (p k : Int) (w : World) (h1 : 1 ≤ k) (h2 : k ≤ 8) (h3 : p < 0) :
    Calls Try.prog 51 #[.slice a len cap, .int .i64 p, .int .i64 k] w fun e w' => e = .returned (.tuple #[.int .u64 0, .int .i64 1]) ∧ w = w' := by
  go_enter Try.func51, Try.ntmps51
  go_wp2
  go_ret2
  exact ⟨rfl, rfl⟩

set_option maxRecDepth 4000 in
set_option maxHeartbeats 400000 in
theorem take_short (a : Option Addr) (len cap : Nat) (p k : Int) (w : World) (hl : len ≤ 9223372036854775807) (hp : p ≤ 9223372036854775807) (h1 : 1 ≤ k) (h2 : k ≤ 8) (h3 : 0 ≤ p) (h4 : (len : Int) - p < k) :
    Calls Try.prog 51 #[.slice a len cap, .int .i64 p, .int .i64 k] w fun e w' => e = .returned (.tuple #[.int .u64 0, .int .i64 4]) ∧ w = w' := by
  have h5 : ¬ p < 0 := by omega
  go_enter Try.func51, Try.ntmps51
  go_wp2
  go_ret2
  exact ⟨rfl, rfl⟩

set_option maxRecDepth 4000 in
set_option maxHeartbeats 400000 in
theorem take_ok (b off : Nat) (len cap : Nat) (bs : List UInt8) (p k : Nat) (w : World) (hl : len ≤ 9223372036854775807) (h1 : 1 ≤ k) (h2 : k ≤ 8) (h4 : p + k ≤ len) (hb : bs.length = len)
    (hc : ∀ j, j < len → w.cell? ⟨b, off + j, none⟩ = some (.int .u8 ((bs.getD j 0).toNat : Int))) :
    Calls Try.prog 51 #[.slice (some ⟨b, off, none⟩) len cap, .int .i64 p, .int .i64 k] w fun e w' => e = .returned (.tuple #[.int .u64 (beAt bs p k : Nat), .int .i64 0]) ∧ w = w' := by
  have h3 : ¬ (p : Int) < 0 := by omega
  have h5 : ¬ (len : Int) - (p : Int) < (k : Int) := by omega
  have h6 : (1 : Int) ≤ (k : Int) := by omega
  have h7 : (k : Int) ≤ 8 := by omega
  go_enter Try.func51, Try.ntmps51
  go_wp2
  go_loop [8, 24] (fun n i => ∃ j : Nat, j ≤ k ∧ i = .int .i64 j ∧ n = .int .u64 (beAt bs p j : Nat)) (fun _ i => k - (intOf i).toNat)
  case atStart => exact ⟨0, Nat.zero_le _, rfl, by rw [beAt_zero]; rfl⟩
  case round =>
    obtain ⟨j, hj, rfl, rfl⟩ := hrel
    by_cases hlt : j < k
    · have hcj : w.cell? ⟨b, off + (p + j), none⟩ = some (.int .u8 ((bs.getD (p + j) 0).toNat : Int)) := hc (p + j) (by omega)
      have hby : (bs.getD (p + j) 0).toNat < 256 := (bs.getD (p + j) 0).toNat_lt
      have hn := beAt_lt7 bs p j (by omega)
      go_wp2
      go_round
      case rel => exact ⟨j + 1, by omega, by go_num, by rw [take_step bs p j (by omega) (by omega)]⟩
      case measure => simp [intOf]; omega
    · go_wp2
      go_ret2
      obtain rfl : j = k := by omega
      exact ⟨rfl, rfl⟩

/-- THE CONTRACT. -/
theorem take_any (a : Option Addr) (len cap : Nat) (bs : List UInt8) (p k : Int) (w : World) (hB : IsB w a len bs) (hl : len ≤ 9223372036854775807) (hp : p ≤ 9223372036854775807) :
    Calls Try.prog 51 #[.slice a len cap, .int .i64 p, .int .i64 k] w fun e w' => e = .returned (.tuple #[.int .u64 (takeS bs p k).1, .int .i64 (takeS bs p k).2]) ∧ w = w' := by
  obtain ⟨hb, hc⟩ := hB
  by_cases h1 : k < 1
  · rw [takeS_arg bs p k (Or.inl h1)]
    exact take_arg1 a len cap p k w h1
  by_cases h2 : 8 < k
  · rw [takeS_arg bs p k (Or.inr (Or.inl h2))]
    exact take_arg2 a len cap p k w h2
  by_cases h3 : p < 0
  · rw [takeS_arg bs p k (Or.inr (Or.inr h3))]
    exact take_arg3 a len cap p k w (by omega) (by omega) h3
  have h0 : ¬ (k < 1 ∨ 8 < k ∨ p < 0) := by omega
  by_cases h4 : (bs.length : Int) - p < k
  · rw [takeS_short bs p k h0 h4]
    exact take_short a len cap p k w hl hp (by omega) (by omega) (by omega) (by omega)
  · rw [takeS_ok bs p k h0 h4]
    obtain ⟨b, off, rfl, _, hcell⟩ := hc (by omega)
    obtain ⟨pn, rfl⟩ := Int.eq_ofNat_of_zero_le (show 0 ≤ p by omega)
    obtain ⟨kn, rfl⟩ := Int.eq_ofNat_of_zero_le (show 0 ≤ k by omega)
    exact take_ok b off len cap bs pn kn w hl (by omega) (by omega) (by omega) hb hcell
end Go.Proofs.Ytgobegpmojkhaaa

/-
  The contract of pack.TakeText: of any bytes, at any place it answers 'textS', and turns nothing.
-/
namespace Go.Proofs.Ytgobegpmojkhaaa
open Go.RowKit
set_option linter.unusedVariables false

theorem take_one (b off len cap p : Nat) (bs : List UInt8) (m : Nat) (w : World) (hl : len ≤ 9223372036854775807) (hb : bs.length = len)
    (hc : ∀ j, j < len → w.cell? ⟨b, off + j, none⟩ = some (.int .u8 ((bs.getD j 0).toNat : Int))) (h1 : p < len) (hm : (bs.getD p 0).toNat = m) :
    Calls Try.prog 51 #[.slice (some ⟨b, off, none⟩) len cap, .int .i64 p, .int .i64 1] w fun e w' => e = .returned (.tuple #[.int .u64 m, .int .i64 0]) ∧ w = w' := by
  have T := take_ok b off len cap bs p 1 w hl (by omega) (by omega) (by omega) hb hc
  have e : beAt bs p 1 = m := by
    have e1 : beAt bs p 1 = beAt bs p 0 * 256 + (bs.getD p 0).toNat := beAt_succ bs p 0 (by omega)
    rw [beAt_zero, hm] at e1
    omega
  rw [e] at T
  exact T

set_option maxRecDepth 4000 in
set_option maxHeartbeats 400000 in
theorem ttext_ok (b off len cap p : Nat) (bs : List UInt8) (m : Nat) (w : World) (hl : len ≤ 9223372036854775807) (hcap : len ≤ cap) (hb : bs.length = len)
    (hc : ∀ j, j < len → w.cell? ⟨b, off + j, none⟩ = some (.int .u8 ((bs.getD j 0).toNat : Int))) (hbl : b < w.heap.size) (h1 : p < len) (hm : (bs.getD p 0).toNat = m) (h2 : p + 1 + m ≤ len) :
    Calls Try.prog 86 #[.slice (some ⟨b, off, none⟩) len cap, .int .i64 p] w fun e w' => e = .returned (.tuple #[.string ⟨((bs.drop (p + 1)).take m).toArray⟩, .int .i64 ((p : Int) + 1 + (m : Int)), .int .i64 0]) ∧ w = w' := by
  have T := take_one b off len cap p bs m w hl hb hc h1 hm
  have HT : Hid (Calls Try.prog 51 #[.slice (some ⟨b, off, none⟩) len cap, .int .i64 p, .int .i64 1] w fun e w' => e = .returned (.tuple #[.int .u64 m, .int .i64 0]) ∧ w = w') := T
  clear T
  have hm2 : m < 256 := by rw [← hm]; exact (bs.getD p 0).toNat_lt
  have hcv := run_toString (P := Try.prog) w 30 9 5 Try.underlying30 Try.underlying5 Try.underlying9 (some ⟨b, off + (p + 1), none⟩) m (cap - (p + 1)) _ (IsB.cut hb hbl hc (p + 1) m h2)
  have hcv0 := run_toString (P := Try.prog) w 30 9 5 Try.underlying30 Try.underlying5 Try.underlying9 (some ⟨b, off, none⟩) 0 0 _ (IsB.none_left w _)
  clear hm
  by_cases hcp : cap = p + 1
  · obtain rfl : m = 0 := by omega
    obtain rfl : len = p + 1 := by omega
    subst hcp
    clear hcv
    go_enter Try.func86, Try.ntmps86
    go_wp2_with fail
    refine HT.out.mono ?_
    rintro e w1 ⟨rfl, rfl⟩
    go_wp2
    go_ret3
    exact ⟨by simp, rfl⟩
  · clear hcv0
    go_enter Try.func86, Try.ntmps86
    go_wp2_with fail
    refine HT.out.mono ?_
    rintro e w1 ⟨rfl, rfl⟩
    go_wp2
    go_ret3
    exact ⟨rfl, rfl⟩

set_option maxRecDepth 4000 in
set_option maxHeartbeats 400000 in
theorem ttext_few (b off len cap p : Nat) (bs : List UInt8) (m : Nat) (w : World) (hl : len ≤ 9223372036854775807) (hb : bs.length = len)
    (hc : ∀ j, j < len → w.cell? ⟨b, off + j, none⟩ = some (.int .u8 ((bs.getD j 0).toNat : Int))) (h1 : p < len) (hm : (bs.getD p 0).toNat = m) (h2 : len < p + 1 + m) :
    Calls Try.prog 86 #[.slice (some ⟨b, off, none⟩) len cap, .int .i64 p] w fun e w' => e = .returned (.tuple #[.string ⟨#[]⟩, .int .i64 0, .int .i64 4]) ∧ w = w' := by
  have T := take_one b off len cap p bs m w hl hb hc h1 hm
  have HT : Hid (Calls Try.prog 51 #[.slice (some ⟨b, off, none⟩) len cap, .int .i64 p, .int .i64 1] w fun e w' => e = .returned (.tuple #[.int .u64 m, .int .i64 0]) ∧ w = w') := T
  clear T
  have hm2 : m < 256 := by rw [← hm]; exact (bs.getD p 0).toNat_lt
  clear hm
  go_enter Try.func86, Try.ntmps86
  go_wp2_with fail
  refine HT.out.mono ?_
  rintro e w1 ⟨rfl, rfl⟩
  go_wp2
  go_ret3
  exact ⟨rfl, rfl⟩

set_option maxRecDepth 4000 in
set_option maxHeartbeats 400000 in
theorem ttext_err (a : Option Addr) (len cap : Nat) (p : Int) (x : Int) (w : World) (hx : (x != 0) = true)
    (HT : Hid (Calls Try.prog 51 #[.slice a len cap, .int .i64 p, .int .i64 1] w fun e w' => e = .returned (.tuple #[.int .u64 0, .int .i64 x]) ∧ w = w')) :
    Calls Try.prog 86 #[.slice a len cap, .int .i64 p] w fun e w' => e = .returned (.tuple #[.string ⟨#[]⟩, .int .i64 0, .int .i64 x]) ∧ w = w' := by
  go_enter Try.func86, Try.ntmps86
  go_wp2_with fail
  refine HT.out.mono ?_
  rintro e w1 ⟨rfl, rfl⟩
  go_wp2
  go_ret3
  exact ⟨rfl, rfl⟩

/-- THE CONTRACT. -/
theorem ttext_any (a : Option Addr) (len cap : Nat) (bs : List UInt8) (p : Int) (w : World) (hB : IsB w a len bs) (hl : len ≤ 9223372036854775807) (hcap : len ≤ cap) (hp : p ≤ 9223372036854775807) :
    Calls Try.prog 86 #[.slice a len cap, .int .i64 p] w fun e w' => e = .returned (.tuple #[.string ⟨(textS bs p).1.toArray⟩, .int .i64 (textS bs p).2.1, .int .i64 (textS bs p).2.2]) ∧ w = w' := by
  have hb := hB.1
  by_cases h1 : p < 0
  · rw [textS_arg bs p h1]
    exact ttext_err a len cap p 1 w (by decide) (take_arg3 a len cap p 1 w (by omega) (by omega) h1)
  by_cases h2 : (bs.length : Int) ≤ p
  · rw [textS_short bs p h1 h2]
    exact ttext_err a len cap p 4 w (by decide) (take_short a len cap p 1 w hl hp (by omega) (by omega) (by omega) (by omega))
  obtain ⟨pn, rfl⟩ := Int.eq_ofNat_of_zero_le (show 0 ≤ p by omega)
  obtain ⟨b, off, rfl, hbl, hc⟩ := hB.2 (by omega)
  by_cases h3 : pn + 1 + (bs.getD pn 0).toNat ≤ len
  · rw [textS_ok bs pn _ (by omega) rfl (by omega)]
    exact ttext_ok b off len cap pn bs _ w hl hcap hb hc hbl (by omega) rfl h3
  · rw [textS_few bs pn _ (by omega) rfl (by omega)]
    exact ttext_few b off len cap pn bs _ w hl hb hc (by omega) rfl (by omega)
end Go.Proofs.Ytgobegpmojkhaaa

/-
  The reader of package record: number, text, kind, count.
-/
namespace Go.Proofs.Ytgobegpmojkhaaa
open Go.RowKit
set_option linter.unusedVariables false

/-- A reader's cells: its bytes, how far they are read, the first error, the record so far. -/
def rdB (v : Value) (k : Nat) (e : Int) (r : Rec) (va vb : Value) : Array Value := #[v, .int .i64 (k : Int), .int .i64 e, .int .i64 r.k, .int .u64 (r.l : Int), .int .i64 r.t, .int .u64 (r.p : Int), .int .i64 r.c.k, .int .i64 r.c.pg, .int .i64 r.c.sl, .string r.c.o, .string r.c.n, .int .u64 (r.n : Int), .int .i64 r.s, .int .u64 (r.b : Int), va, vb]
/-- A reader in memory, and what is left to read. -/
structure RbAt (w : World) (g : Nat) (a : Option Addr) (len cap : Nat) (bs : List UInt8) (s : St) (r : Rec) (va vb : Value) : Prop where
  row : ∃ k : Nat, RowAt w g 94 (rdB (.slice a len cap) k s.e r va vb) ∧ k ≤ bs.length ∧ (s.e = 0 → bs.drop k = s.l)
  bytes : IsB w a len bs
  room : len ≤ 140737488355328 ∧ len ≤ cap
  apart : 0 < len → ∀ x, a = some x → x.block < g

theorem isB_grown {w x : World} {a : Option Addr} {len g : Nat} {bs : List UInt8} (h : IsB w a len bs) (hg : w.grownBy x (some g)) (hn : 0 < len → ∀ y, a = some y → y.block ≠ g) : IsB x a len bs := by
  refine ⟨h.1, fun hp => ?_⟩
  obtain ⟨b, off, ha, hlt, hc⟩ := h.2 hp
  refine ⟨b, off, ha, Nat.lt_of_lt_of_le hlt hg.size, fun j hj => ?_⟩
  rw [World.cell?_of_block (a := ⟨b, off + j, none⟩) (hg.block b hlt (fun e => hn hp _ ha (by cases e; rfl)))]
  exact hc j hj
theorem apart_ne {len g : Nat} {a : Option Addr} (h : 0 < len → ∀ x, a = some x → x.block < g) : 0 < len → ∀ x, a = some x → x.block ≠ g := fun hp x hx => Nat.ne_of_lt (h hp x hx)
theorem row_grown {w x : World} {g k : Nat} {t : TypeId} {cs : Array Value} (h : RowAt w k t cs) (hg : w.grownBy x (some g)) (hn : k ≠ g) : RowAt x k t cs := (hg.block k h.lt (fun e => hn (by cases e; rfl))).trans h
theorem grown_none {w x : World} (h : w.grownBy x none) : Below w.heap.size w x := ⟨h.os, h.tape, h.output, h.size, fun k hk => h.block k hk (by simp)⟩
theorem of_below {w x : World} {o : Option Nat} (h : Below w.heap.size w x) : w.grownBy x o := ⟨h.os, h.tape, h.output, h.size, fun k hk _ => h.block k hk⟩

theorem num_zero {k : Nat} {s : St} (h : (pNum k s).2.e ≠ 0) : (pNum k s).1 = 0 := by
  unfold pNum at h ⊢
  by_cases he : s.e ≠ 0
  · rw [if_pos he]
  · rw [if_neg he] at h ⊢
    by_cases hk : k ≤ s.l.length
    · rw [if_pos hk] at h
      exact absurd rfl h
    · rw [if_neg hk]
theorem text_zero {s : St} (h : (pText s).2.e ≠ 0) : (pText s).1 = ⟨#[]⟩ := by
  unfold pText at h ⊢
  by_cases he : s.e ≠ 0
  · rw [if_pos he]
  · rw [if_neg he] at h ⊢
    cases hs : s.l with
    | nil => rfl
    | cons b l =>
      rw [hs] at h
      simp only at h ⊢
      by_cases hk : b.toNat ≤ l.length
      · rw [if_pos hk] at h
        exact absurd rfl h
      · rw [if_neg hk]

set_option maxRecDepth 4000 in
set_option maxHeartbeats 1600000 in
theorem bnum_any (g : Nat) (a : Option Addr) (len cap : Nat) (bs : List UInt8) (s : St) (r : Rec) (va vb : Value) (k : Nat) (w : World) (hk : 1 ≤ k ∧ k ≤ 8) (h : RbAt w g a len cap bs s r va vb) :
    Calls Try.prog 72 #[.pointer (some ⟨g, 0, none⟩), .int .i64 (k : Int)] w fun e w' => e = .returned (.int .u64 ((pNum k s).1 : Int)) ∧ RbAt w' g a len cap bs (pNum k s).2 r va vb ∧ w.grownBy w' (some g) := by
  obtain ⟨p, hr, hp, hs⟩ := h.row
  have HBY := hide h.bytes
  have HRM := hide h.room
  have HAP := hide h.apart
  have c2 := hr.cell 2 (.int .i64 s.e) rfl
  have HR := hide hr
  have hbl := h.bytes.1
  clear hr h
  by_cases he : s.e = 0
  · obtain ⟨hl⟩ := And.intro (hs he) trivial
    obtain ⟨t1, t2, t3⟩ := num_take ⟨bs.toArray⟩ s p k hk he (by rw [size_mk]; exact hp) hl
    have HT := hide (fun w hB => take_any a len cap bs (p : Int) (k : Int) w hB (by have := HRM.out.1; omega) (by have := HRM.out.1; omega))
    rw [show (⟨bs.toArray⟩ : ByteArray).data.toList = bs from rfl] at t1 t2 t3
    rw [size_mk] at t3
    rw [t1, t2] at HT
    have H3 := hide t3
    have HZ := hide (num_zero (k := k) (s := s))
    have ew : IntKind.i64.wrap ((p : Int) + (k : Int)) = (p : Int) + (k : Int) := by rw [IntKind.wrap_i64]; have := HRM.out.1; omega
    clear t1 t2 t3
    rw [he] at c2 HR
    clear hs hl he
    generalize pNum k s = ns at *
    obtain ⟨n, s'⟩ := ns
    simp only at HT H3 HZ
    go_enter Try.func72, Try.ntmps72
    go_wp2_with fail
    refine wp_region_in (fun x => w.grownBy x none ∧ RowAt x g 94 (rdB (.slice a len cap) p 0 r va vb) ∧ IsB x a len bs) (by kernel_rfl) (by kernel_rfl) ⟨grown_drew (grown_refl w none), HR.out, HBY.out⟩ ?_
    clear HR c2
    repeat (first
      | go_big_quiet_skip
      | (refine wpQuiet_load rfl 30 (.tmp 15) rfl _ (.slice a len cap) rfl (fun y hy => load_b8 y _ a len cap rfl (hy.2.1.cell 0 _ rfl)) ?_; simp only [Act.put, Array.setIfInBounds, List.size_toArray, List.length_cons, List.length_nil, Nat.reduceAdd, Nat.reduceLT, ↓reduceDIte, List.set_toArray, List.set_cons_succ, List.set_cons_zero])
      | (refine wpQuiet_load rfl 3 (.tmp 19) rfl _ (.int .i64 (p : Int)) rfl (fun y hy => load_i64 y (p : Int) (hy.2.1.cell 1 (.int .i64 (p : Int)) rfl)) ?_; simp only [Act.put, Array.setIfInBounds, List.size_toArray, List.length_cons, List.length_nil, Nat.reduceAdd, Nat.reduceLT, ↓reduceDIte, List.set_toArray, List.set_cons_succ, List.set_cons_zero])
      | (refine wpQuiet_call rfl 51 #[.slice a len cap, .int .i64 (p : Int), .int .i64 (k : Int)] (.tuple #[.int .u64 (n : Int), .int .i64 s'.e]) ?_ (fun x hC => (HT.out x hC.2.2).mono fun e x' h => ⟨h.1, h.2 ▸ hC⟩) ?_; (intro x; go_simp); simp only [Act.put, Array.setIfInBounds, List.size_toArray, List.length_cons, List.length_nil, Nat.reduceAdd, Nat.reduceLT, ↓reduceDIte, List.set_toArray, List.set_cons_succ, List.set_cons_zero])
      | (refine wpQuiet_plain rfl (fun K hK => ?_); go_simp; refine hK _ ?_; clear hK K))
    refine wpQuiet_nil ?_
    intro x hx
    have q1 := hx.2.1.cell 1 (.int .i64 (p : Int)) rfl
    have q2 := hx.2.1.cell 2 (.int .i64 0) rfl
    have f1 := hx.2.1.free 1
    have f2 := hx.2.1.free 2
    have HG := hide (grown_any (o := some g) hx.1)
    by_cases h0 : s'.e = 0
    · have HX : Hid (RbAt (x.setCell ⟨g, 1, none⟩ (.int .i64 ((p : Int) + (k : Int)))) g a len cap bs s' r va vb ∧ w.grownBy (x.setCell ⟨g, 1, none⟩ (.int .i64 ((p : Int) + (k : Int)))) (some g)) := by
        have hg := grown_set (j := 1) (.int .i64 ((p : Int) + (k : Int))) HG.out
        refine ⟨⟨⟨p + k, ?_, (H3.out h0).1, fun _ => (H3.out h0).2⟩, isB_grown HBY.out hg (apart_ne HAP.out), HRM.out, HAP.out⟩, hg⟩
        rw [h0]
        have h := hx.2.1.set 1 (.int .i64 ((p + k : Nat) : Int))
        rw [show ((p + k : Nat) : Int) = (p : Int) + (k : Int) by omega] at h
        unfold rdB at h ⊢
        rw [show ((p + k : Nat) : Int) = (p : Int) + (k : Int) by omega]
        exact h
      rw [h0]
      clear hx HT H3 HZ HG HBY HRM HAP h0
      go_wp2
      go_ret
      exact ⟨rfl, HX.out.1, HX.out.2⟩
    · have HX : Hid (RbAt (x.setCell ⟨g, 2, none⟩ (.int .i64 s'.e)) g a len cap bs s' r va vb ∧ w.grownBy (x.setCell ⟨g, 2, none⟩ (.int .i64 s'.e)) (some g)) := by
        have hg := grown_set (j := 2) (.int .i64 s'.e) HG.out
        exact ⟨⟨⟨p, hx.2.1.set 2 (.int .i64 s'.e), hp, fun h => absurd h h0⟩, isB_grown HBY.out hg (apart_ne HAP.out), HRM.out, HAP.out⟩, hg⟩
      have n0 := HZ.out h0
      have k0 : (s'.e == 0) = false := by rw [beq_eq_false_iff_ne]; exact h0
      have k1 : (s'.e != 0) = true := by rw [bne, k0]; rfl
      clear hx HT H3 HZ HG HBY HRM HAP h0
      have HN := hide n0
      clear n0
      generalize s'.e = es at *
      go_wp2
      go_ret
      exact ⟨by rw [HN.out]; rfl, HX.out.1, HX.out.2⟩
  · have e : pNum k s = (0, s) := by unfold pNum; rw [if_pos he]
    rw [e]
    have k0 : (s.e == 0) = false := by rw [beq_eq_false_iff_ne]; exact he
    have k1 : (s.e != 0) = true := by rw [bne, k0]; rfl
    have HP := hide (show RbAt w g a len cap bs s r va vb from ⟨⟨p, HR.out, hp, hs⟩, HBY.out, HRM.out, HAP.out⟩)
    clear HR he hs e
    generalize s.e = es at *
    go_enter Try.func72, Try.ntmps72
    go_wp2
    go_ret
    exact ⟨rfl, HP.out, grown_refl _ _⟩

set_option maxRecDepth 4000 in
set_option maxHeartbeats 1600000 in
theorem btext_any (g : Nat) (a : Option Addr) (len cap : Nat) (bs : List UInt8) (s : St) (r : Rec) (va vb : Value) (w : World) (h : RbAt w g a len cap bs s r va vb) :
    Calls Try.prog 84 #[.pointer (some ⟨g, 0, none⟩)] w fun e w' => e = .returned (.string (pText s).1) ∧ RbAt w' g a len cap bs (pText s).2 r va vb ∧ w.grownBy w' (some g) := by
  obtain ⟨p, hr, hp, hs⟩ := h.row
  have HBY := hide h.bytes
  have HRM := hide h.room
  have HAP := hide h.apart
  have c2 := hr.cell 2 (.int .i64 s.e) rfl
  have HR := hide hr
  have hbl := h.bytes.1
  clear hr h
  by_cases he : s.e = 0
  · obtain ⟨hl⟩ := And.intro (hs he) trivial
    obtain ⟨k2, t1, t2, t3, t4, t5⟩ := text_take ⟨bs.toArray⟩ s p he (by rw [size_mk]; exact hp) hl
    have HT := hide (fun w hB => ttext_any a len cap bs (p : Int) w hB (by have := HRM.out.1; omega) HRM.out.2 (by have := HRM.out.1; omega))
    rw [show (⟨bs.toArray⟩ : ByteArray).data.toList = bs from rfl] at t1 t3 t4 t5
    rw [size_mk] at t2
    rw [t1, t3, t4] at HT
    have H3 := hide (fun h => And.intro t2 (t5 h))
    have HZ := hide (text_zero (s := s))
    clear t1 t2 t3 t4 t5
    rw [he] at c2 HR
    clear hs hl he
    generalize pText s = ns at *
    obtain ⟨n, s'⟩ := ns
    simp only at HT H3 HZ
    go_enter Try.func84, Try.ntmps84
    go_wp2_with fail
    refine wp_region_in (fun x => w.grownBy x none ∧ RowAt x g 94 (rdB (.slice a len cap) p 0 r va vb) ∧ IsB x a len bs) (by kernel_rfl) (by kernel_rfl) ⟨grown_drew (grown_refl w none), HR.out, HBY.out⟩ ?_
    clear HR c2
    repeat (first
      | go_big_quiet_skip
      | (refine wpQuiet_load rfl 30 (.tmp 14) rfl _ (.slice a len cap) rfl (fun y hy => load_b8 y _ a len cap rfl (hy.2.1.cell 0 _ rfl)) ?_; simp only [Act.put, Array.setIfInBounds, List.size_toArray, List.length_cons, List.length_nil, Nat.reduceAdd, Nat.reduceLT, ↓reduceDIte, List.set_toArray, List.set_cons_succ, List.set_cons_zero])
      | (refine wpQuiet_load rfl 3 (.tmp 18) rfl _ (.int .i64 (p : Int)) rfl (fun y hy => load_i64 y (p : Int) (hy.2.1.cell 1 (.int .i64 (p : Int)) rfl)) ?_; simp only [Act.put, Array.setIfInBounds, List.size_toArray, List.length_cons, List.length_nil, Nat.reduceAdd, Nat.reduceLT, ↓reduceDIte, List.set_toArray, List.set_cons_succ, List.set_cons_zero])
      | (refine wpQuiet_call rfl 86 #[.slice a len cap, .int .i64 (p : Int)] (.tuple #[.string n, .int .i64 (k2 : Int), .int .i64 s'.e]) ?_ (fun x hC => (HT.out x hC.2.2).mono fun e x' h => ⟨h.1, h.2 ▸ hC⟩) ?_; (intro x; go_simp); simp only [Act.put, Array.setIfInBounds, List.size_toArray, List.length_cons, List.length_nil, Nat.reduceAdd, Nat.reduceLT, ↓reduceDIte, List.set_toArray, List.set_cons_succ, List.set_cons_zero])
      | (refine wpQuiet_plain rfl (fun K hK => ?_); go_simp; refine hK _ ?_; clear hK K))
    refine wpQuiet_nil ?_
    intro x hx
    have q1 := hx.2.1.cell 1 (.int .i64 (p : Int)) rfl
    have q2 := hx.2.1.cell 2 (.int .i64 0) rfl
    have f1 := hx.2.1.free 1
    have f2 := hx.2.1.free 2
    have HG := hide (grown_any (o := some g) hx.1)
    by_cases h0 : s'.e = 0
    · have HX : Hid (RbAt (x.setCell ⟨g, 1, none⟩ (.int .i64 (k2 : Int))) g a len cap bs s' r va vb ∧ w.grownBy (x.setCell ⟨g, 1, none⟩ (.int .i64 (k2 : Int))) (some g)) := by
        have hg := grown_set (j := 1) (.int .i64 ((k2 : Int))) HG.out
        refine ⟨⟨⟨k2, ?_, (H3.out h0).1, fun _ => (H3.out h0).2⟩, isB_grown HBY.out hg (apart_ne HAP.out), HRM.out, HAP.out⟩, hg⟩
        rw [h0]
        have h := hx.2.1.set 1 (.int .i64 ((k2 : Nat) : Int))
        skip
        skip
        skip
        exact h
      rw [h0]
      clear hx HT H3 HZ HG HBY HRM HAP h0
      go_wp2
      go_ret
      exact ⟨rfl, HX.out.1, HX.out.2⟩
    · have HX : Hid (RbAt (x.setCell ⟨g, 2, none⟩ (.int .i64 s'.e)) g a len cap bs s' r va vb ∧ w.grownBy (x.setCell ⟨g, 2, none⟩ (.int .i64 s'.e)) (some g)) := by
        have hg := grown_set (j := 2) (.int .i64 s'.e) HG.out
        exact ⟨⟨⟨p, hx.2.1.set 2 (.int .i64 s'.e), hp, fun h => absurd h h0⟩, isB_grown HBY.out hg (apart_ne HAP.out), HRM.out, HAP.out⟩, hg⟩
      have n0 := HZ.out h0
      have k0 : (s'.e == 0) = false := by rw [beq_eq_false_iff_ne]; exact h0
      have k1 : (s'.e != 0) = true := by rw [bne, k0]; rfl
      clear hx HT H3 HZ HG HBY HRM HAP h0
      have HN := hide n0
      clear n0
      generalize s'.e = es at *
      go_wp2
      go_ret
      exact ⟨by rw [HN.out]; rfl, HX.out.1, HX.out.2⟩
  · have e : pText s = (⟨#[]⟩, s) := by unfold pText; rw [if_pos he]
    rw [e]
    have k0 : (s.e == 0) = false := by rw [beq_eq_false_iff_ne]; exact he
    have k1 : (s.e != 0) = true := by rw [bne, k0]; rfl
    have HP := hide (show RbAt w g a len cap bs s r va vb from ⟨⟨p, HR.out, hp, hs⟩, HBY.out, HRM.out, HAP.out⟩)
    clear HR he hs e
    generalize s.e = es at *
    go_enter Try.func84, Try.ntmps84
    go_wp2
    go_ret
    exact ⟨rfl, HP.out, grown_refl _ _⟩

theorem num_lt (k : Nat) (s : St) : (pNum k s).1 < 256 ^ k := by
  have hp : 0 < 256 ^ k := Nat.pow_pos (by omega)
  unfold pNum
  by_cases he : s.e ≠ 0
  · rw [if_pos he]
    exact hp
  · rw [if_neg he]
    by_cases hk : k ≤ s.l.length
    · rw [if_pos hk]
      have h := be_lt (s.l.take k)
      rw [List.length_take, Nat.min_eq_left hk] at h
      exact h
    · rw [if_neg hk]
      exact hp
theorem in_val (lo hi : Nat) (s : St) : (pIn lo hi s).1 = (pNum 1 s).1 := by
  unfold pIn
  split <;> rfl

set_option maxRecDepth 4000 in
set_option maxHeartbeats 1600000 in
theorem bkind_any (g : Nat) (a : Option Addr) (len cap : Nat) (bs : List UInt8) (s : St) (r : Rec) (va vb : Value) (w : World) (h : RbAt w g a len cap bs s r va vb) :
    Calls Try.prog 71 #[.pointer (some ⟨g, 0, none⟩)] w fun e w' => e = .returned (.int .i64 ((pIn 1 8 s).1 : Int)) ∧ RbAt w' g a len cap bs (pIn 1 8 s).2 r va vb ∧ w.grownBy w' (some g) := by
  have HN := hide (bnum_any g a len cap bs s r va vb 1 w (by omega) h)
  have hn := num_lt 1 s
  have HI : Hid ((pIn 1 8 s).2 = (if (pNum 1 s).2.e = 0 ∧ ((pNum 1 s).1 < 1 ∨ 8 < (pNum 1 s).1) then ⟨(pNum 1 s).2.l, 2⟩ else (pNum 1 s).2)) := by
    show (pIn 1 8 s).2 = _
    unfold pIn
    split <;> rfl
  rw [in_val]
  generalize pNum 1 s = ns at *
  obtain ⟨n, s'⟩ := ns
  simp only at HN HI hn ⊢
  have ew : IntKind.i64.wrap (n : Int) = (n : Int) := by rw [IntKind.wrap_i64]; omega
  clear h
  go_enter Try.func71, Try.ntmps71
  go_wp2_with fail
  refine HN.out.mono ?_
  rintro e w1 ⟨rfl, hrb, hg⟩
  have HRB := hide hrb
  have HG := hide hg
  clear HN hrb hg
  obtain ⟨p, hr, hp, hs⟩ := HRB.out.row
  have c2 := hr.cell 2 (.int .i64 s'.e) rfl
  have f2 := hr.free 2
  have HRO := hide hr
  have HHP := hide hp
  clear hr hp hs
  by_cases h0 : s'.e = 0
  · rw [h0] at c2
    by_cases hb : n < 1 ∨ 8 < n
    · have HX : Hid (RbAt (w1.setCell ⟨g, 2, none⟩ (.int .i64 2)) g a len cap bs (pIn 1 8 s).2 r va vb ∧ w.grownBy (w1.setCell ⟨g, 2, none⟩ (.int .i64 2)) (some g)) := by
        rw [HI.out, if_pos ⟨h0, hb⟩]
        have hg := grown_set (j := 2) (.int .i64 2) HG.out
        have hg1 := grown_set (j := 2) (.int .i64 2) (grown_refl w1 (some g))
        exact ⟨⟨⟨p, HRO.out.set 2 (.int .i64 2), HHP.out, fun h => absurd h (by simp)⟩, isB_grown HRB.out.bytes hg1 (apart_ne HRB.out.apart), HRB.out.room, HRB.out.apart⟩, hg⟩
      clear HRB HG HI HRO HHP h0
      by_cases h1 : (n : Int) < 1
      · clear hb
        go_wp2
        go_ret
        exact ⟨rfl, HX.out.1, HX.out.2⟩
      · have h8 : (8 : Int) < (n : Int) := by omega
        clear hb
        go_wp2
        go_ret
        exact ⟨rfl, HX.out.1, HX.out.2⟩
    · have HX : Hid (RbAt w1 g a len cap bs (pIn 1 8 s).2 r va vb ∧ w.grownBy w1 (some g)) := by
        rw [HI.out, if_neg (fun h => hb h.2)]
        exact ⟨HRB.out, HG.out⟩
      have h1 : ¬ (n : Int) < 1 := by omega
      have h8 : ¬ (8 : Int) < (n : Int) := by omega
      clear HRB HG HI HRO HHP h0 hb
      go_wp2
      go_ret
      exact ⟨rfl, HX.out.1, HX.out.2⟩
  · have HX : Hid (RbAt w1 g a len cap bs (pIn 1 8 s).2 r va vb ∧ w.grownBy w1 (some g)) := by
      rw [HI.out, if_neg (fun h => h0 h.1)]
      exact ⟨HRB.out, HG.out⟩
    have k0 : (s'.e == 0) = false := by rw [beq_eq_false_iff_ne]; exact h0
    clear HRB HG HI HRO HHP h0
    generalize s'.e = es at *
    go_wp2
    go_ret
    exact ⟨rfl, HX.out.1, HX.out.2⟩

/-- How many rows are read. -/
def cntN (m : Nat) (s : St) : Nat := if (pIn 0 m s).2.e = 0 then (pIn 0 m s).1 else 0
set_option maxRecDepth 4000 in
set_option maxHeartbeats 1600000 in
theorem bcount_any (g : Nat) (a : Option Addr) (len cap : Nat) (bs : List UInt8) (s : St) (r : Rec) (va vb : Value) (m : Nat) (w : World) (hm : m ≤ 255) (h : RbAt w g a len cap bs s r va vb) :
    Calls Try.prog 85 #[.pointer (some ⟨g, 0, none⟩), .int .i64 (m : Int)] w fun e w' => e = .returned (.int .i64 (cntN m s : Int)) ∧ RbAt w' g a len cap bs (pIn 0 m s).2 r va vb ∧ w.grownBy w' (some g) := by
  have HN := hide (bnum_any g a len cap bs s r va vb 1 w (by omega) h)
  have hn := num_lt 1 s
  have HI : Hid (pIn 0 m s = (if (pNum 1 s).2.e = 0 ∧ ((pNum 1 s).1 < 0 ∨ m < (pNum 1 s).1) then ((pNum 1 s).1, ⟨(pNum 1 s).2.l, 2⟩) else pNum 1 s)) := rfl
  have HZ := hide (num_zero (k := 1) (s := s))
  unfold cntN
  generalize pNum 1 s = ns at *
  obtain ⟨n, s'⟩ := ns
  simp only at HN HI HZ hn ⊢
  have ew : IntKind.i64.wrap (n : Int) = (n : Int) := by rw [IntKind.wrap_i64]; omega
  clear h
  by_cases hb : m < n
  · have h0 : s'.e = 0 := by
      by_cases h : s'.e = 0
      · exact h
      · have := HZ.out h
        omega
    have hi : pIn 0 m s = (n, ⟨s'.l, 2⟩) := by rw [HI.out, if_pos ⟨h0, .inr hb⟩]
    rw [hi]
    have i1 : (m : Int) < (n : Int) := by omega
    clear HI hi HZ h0 hb
    go_enter Try.func85, Try.ntmps85
    go_wp2_with fail
    refine HN.out.mono ?_
    rintro e w1 ⟨rfl, hrb, hg⟩
    obtain ⟨p, hr, hp, hs⟩ := hrb.row
    have c2 := hr.cell 2 (.int .i64 s'.e) rfl
    have f2 := hr.free 2
    have HX : Hid (RbAt (w1.setCell ⟨g, 2, none⟩ (.int .i64 2)) g a len cap bs ⟨s'.l, 2⟩ r va vb ∧ w.grownBy (w1.setCell ⟨g, 2, none⟩ (.int .i64 2)) (some g)) := by
      have hg' := grown_set (j := 2) (.int .i64 2) hg
      have hg1 := grown_set (j := 2) (.int .i64 2) (grown_refl w1 (some g))
      exact ⟨⟨⟨p, hr.set 2 (.int .i64 2), hp, fun h => absurd h (by simp)⟩, isB_grown hrb.bytes hg1 (apart_ne hrb.apart), hrb.room, hrb.apart⟩, hg'⟩
    clear hrb hg hr hp hs HN
    generalize s'.e = es at *
    go_wp2
    go_ret
    exact ⟨rfl, HX.out.1, HX.out.2⟩
  · have hi : pIn 0 m s = (n, s') := by rw [HI.out, if_neg (fun h => by omega)]
    rw [hi]
    have hc : (if s'.e = 0 then n else 0) = n := by
      by_cases h : s'.e = 0
      · rw [if_pos h]
      · rw [if_neg h, HZ.out h]
    simp only
    rw [hc]
    have i1 : ¬ (m : Int) < (n : Int) := by omega
    clear HI hi HZ hb hc
    go_enter Try.func85, Try.ntmps85
    go_wp2_with fail
    refine HN.out.mono ?_
    rintro e w1 ⟨rfl, hrb, hg⟩
    have HX : Hid (RbAt w1 g a len cap bs s' r va vb ∧ w.grownBy w1 (some g)) := ⟨hrb, hg⟩
    clear hrb hg HN
    go_wp2
    go_ret
    exact ⟨rfl, HX.out.1, HX.out.2⟩
end Go.Proofs.Ytgobegpmojkhaaa

/-
  The reader of package record: structs beside it, and change.
-/
namespace Go.Proofs.Ytgobegpmojkhaaa
open Go.RowKit
set_option linter.unusedVariables false

/-- The reader, and structs beside it: what was there when it began is as it was, but for the reader's block. -/
structure RK (w x : World) (g : Nat) (a : Option Addr) (len cap : Nat) (bs : List UInt8) (s : St) (r : Rec) (va vb : Value) (l : List (Nat × TypeId × Array Value)) : Prop where
  rb : RbAt x g a len cap bs s r va vb
  gr : w.grownBy x (some g)
  has : Has x l
def Off (g : Nat) (l : List (Nat × TypeId × Array Value)) : Prop := ∀ e ∈ l, e.1 ≠ g
theorem has_grown {g : Nat} {x y : World} (h : x.grownBy y (some g)) : ∀ {l : List (Nat × TypeId × Array Value)}, Off g l → Has x l → Has y l
  | [], _, _ => trivial
  | e :: l, ha, hh => ⟨row_grown hh.1 h (ha e (by simp)), has_grown h (fun e he => ha e (by simp [he])) hh.2⟩
theorem RK.step {w x y : World} {g : Nat} {a : Option Addr} {len cap : Nat} {bs : List UInt8} {s s' : St} {r r' : Rec} {va vb va' vb' : Value} {l : List (Nat × TypeId × Array Value)} (h : RK w x g a len cap bs s r va vb l) (hb : RbAt y g a len cap bs s' r' va' vb') (hg : x.grownBy y (some g)) (ho : Off g l) : RK w y g a len cap bs s' r' va' vb' l :=
  ⟨hb, grown_trans h.gr hg, has_grown hg ho h.has⟩
theorem RbAt.other {w : World} {g : Nat} {a : Option Addr} {len cap : Nat} {bs : List UInt8} {s : St} {r : Rec} {va vb : Value} (h : RbAt w g a len cap bs s r va vb) {b : Nat} (hb : g < b) (j : Nat) (v : Value) : RbAt (w.setCell ⟨b, j, none⟩ v) g a len cap bs s r va vb := by
  obtain ⟨k, h1, h2, h3⟩ := h.row
  exact ⟨⟨k, h1.other _ _ (Nat.ne_of_lt hb), h2, h3⟩, isB_grown h.bytes (grown_set v (grown_refl w (some b))) (fun hp x hx => Nat.ne_of_lt (Nat.lt_trans (h.apart hp x hx) hb)), h.room, h.apart⟩
theorem RbAt.later {w x : World} {g : Nat} {a : Option Addr} {len cap : Nat} {bs : List UInt8} {s : St} {r : Rec} {va vb : Value} (h : RbAt w g a len cap bs s r va vb) (hb : Below w.heap.size w x) : RbAt x g a len cap bs s r va vb := by
  obtain ⟨k, h1, h2, h3⟩ := h.row
  exact ⟨⟨k, h1.later hb, h2, h3⟩, h.bytes.below hb, h.room, h.apart⟩
theorem RbAt.lt {w : World} {g : Nat} {a : Option Addr} {len cap : Nat} {bs : List UInt8} {s : St} {r : Rec} {va vb : Value} (h : RbAt w g a len cap bs s r va vb) : g < w.heap.size := by
  obtain ⟨k, h1, _⟩ := h.row
  exact h1.lt
theorem RK.later {w x y : World} {g : Nat} {a : Option Addr} {len cap : Nat} {bs : List UInt8} {s : St} {r : Rec} {va vb : Value} {l : List (Nat × TypeId × Array Value)} (h : RK w x g a len cap bs s r va vb l) (hb : Below x.heap.size x y) : RK w y g a len cap bs s r va vb l :=
  ⟨h.rb.later hb, grown_trans h.gr (of_below hb), h.has.later hb⟩
/-- A cell of the newest struct beside the reader is written. -/
theorem RK.put {w x : World} {g : Nat} {a : Option Addr} {len cap : Nat} {bs : List UInt8} {s : St} {r : Rec} {va vb : Value} {b : Nat} {t : TypeId} {cs : Array Value} {l : List (Nat × TypeId × Array Value)} (h : RK w x g a len cap bs s r va vb ((b, t, cs) :: l)) (hb : g < b) (hw : w.heap.size ≤ b) (hl : ∀ e ∈ l, e.1 ≠ b) (j : Nat) (v : Value) :
    RK w (x.setCell ⟨b, j, none⟩ v) g a len cap bs s r va vb ((b, t, cs.setIfInBounds j v) :: l) := by
  refine ⟨h.rb.other hb j v, ?_, h.has.1.set j v, ?_⟩
  · have hs := grown_set (g := b) (j := j) v (grown_refl x (some b))
    refine ⟨hs.os.trans h.gr.os, hs.tape.trans h.gr.tape, hs.output.trans h.gr.output, Nat.le_trans h.gr.size hs.size, fun k hk hne => ?_⟩
    rw [hs.block k (Nat.lt_of_lt_of_le hk h.gr.size) (fun e => by cases e; omega)]
    exact h.gr.block k hk hne
  · have : ∀ l : List (Nat × TypeId × Array Value), (∀ e ∈ l, e.1 ≠ b) → Has x l → Has (x.setCell ⟨b, j, none⟩ v) l := by
      intro l
      induction l with
      | nil => exact fun _ _ => trivial
      | cons e l ih => exact fun hl hh => ⟨hh.1.other _ _ (hl e (by simp)), ih (fun e he => hl e (by simp [he])) hh.2⟩
    exact this l hl h.has.2
theorem conv_i64 (n : Nat) (h : n < 9223372036854775808) : IntKind.i64.wrap (n : Int) = (n : Int) := by
  rw [IntKind.wrap_i64]
  omega

set_option maxRecDepth 4000 in
set_option maxHeartbeats 1600000 in
theorem bchange_any (g : Nat) (a : Option Addr) (len cap : Nat) (bs : List UInt8) (s : St) (r : Rec) (va vb : Value) (w : World) (h : RbAt w g a len cap bs s r va vb) :
    Calls Try.prog 73 #[.pointer (some ⟨g, 0, none⟩)] w fun e w' => e = .returned (.agg (chA (pCh s).1)) ∧ RbAt w' g a len cap bs (pCh s).2 r va vb ∧ w.grownBy w' (some g) := by
  obtain ⟨n1, s1, h1⟩ : ∃ n s', pNum 1 s = (n, s') := ⟨_, _, rfl⟩
  have b1 : n1 < 256 ^ 1 := by have := num_lt 1 s; rw [h1] at this; exact this
  have N1 := hide (fun x h => bnum_any g a len cap bs s r va vb 1 x (by omega) h)
  have ew1 := conv_i64 n1 (by omega)
  rw [h1] at N1
  obtain ⟨n2, s2, h2⟩ : ∃ n s', pNum 2 s1 = (n, s') := ⟨_, _, rfl⟩
  have b2 : n2 < 256 ^ 2 := by have := num_lt 2 s1; rw [h2] at this; exact this
  have N2 := hide (fun x h => bnum_any g a len cap bs s1 r va vb 2 x (by omega) h)
  have ew2 := conv_i64 n2 (by omega)
  rw [h2] at N2
  obtain ⟨n3, s3, h3⟩ : ∃ n s', pNum 1 s2 = (n, s') := ⟨_, _, rfl⟩
  have b3 : n3 < 256 ^ 1 := by have := num_lt 1 s2; rw [h3] at this; exact this
  have N3 := hide (fun x h => bnum_any g a len cap bs s2 r va vb 1 x (by omega) h)
  have ew3 := conv_i64 n3 (by omega)
  rw [h3] at N3
  obtain ⟨n4, s4, h4⟩ : ∃ n s', pText s3 = (n, s') := ⟨_, _, rfl⟩
  have N4 := hide (fun x h => btext_any g a len cap bs s3 r va vb x h)
  rw [h4] at N4
  obtain ⟨n5, s5, h5⟩ : ∃ n s', pText s4 = (n, s') := ⟨_, _, rfl⟩
  have N5 := hide (fun x h => btext_any g a len cap bs s4 r va vb x h)
  rw [h5] at N5
  have hP : pCh s = (⟨n1, n2, n3, n4, n5⟩, s5) := by
    simp only [pCh, bindP, pureP, h1, h2, h3, h4, h5]
  rw [hP]
  clear hP h1 h2 h3 h4 h5 b1 b2 b3
  have K2 := Keeps.two w 24 24 #[.int .i64 0, .int .i64 0, .int .i64 0, .string ⟨#[]⟩, .string ⟨#[]⟩] #[.int .i64 0, .int .i64 0, .int .i64 0, .string ⟨#[]⟩, .string ⟨#[]⟩]
  have HKI : Hid (RK w ((w.alloc (.cells #[.int .i64 0, .int .i64 0, .int .i64 0, .string ⟨#[]⟩, .string ⟨#[]⟩] 24)).alloc (.cells #[.int .i64 0, .int .i64 0, .int .i64 0, .string ⟨#[]⟩, .string ⟨#[]⟩] 24)) g a len cap bs s r va vb [(w.heap.size + 1, 24, #[.int .i64 0, .int .i64 0, .int .i64 0, .string ⟨#[]⟩, .string ⟨#[]⟩]), (w.heap.size, 24, #[.int .i64 0, .int .i64 0, .int .i64 0, .string ⟨#[]⟩, .string ⟨#[]⟩])]) := ⟨h.later K2.2, of_below K2.2, K2.1⟩
  have hlt := h.lt
  have HGI : Hid (g < w.heap.size + 1 ∧ w.heap.size ≤ w.heap.size + 1 ∧ w.heap.size ≠ w.heap.size + 1 ∧ g < w.heap.size) := ⟨by omega, by omega, by omega, hlt⟩
  clear K2 h hlt
  obtain ⟨g1, hg1⟩ : ∃ g1, g1 = w.heap.size := ⟨_, rfl⟩
  obtain ⟨g2, hg2⟩ : ∃ g2, g2 = w.heap.size + 1 := ⟨_, rfl⟩
  go_enter Try.func73, Try.ntmps73
  go_wp2_with fail
  rw [← hg2, ← hg1] at HKI
  rw [← hg2, ← hg1]
  rw [← hg2] at HGI
  have HGG : Hid (g < g2 ∧ w.heap.size ≤ g2) := ⟨HGI.out.1, HGI.out.2.1⟩
  have HG1 : Hid (g1 ≠ g2 ∧ g < g1 ∧ w.heap.size ≤ g1) := ⟨by rw [hg1]; exact HGI.out.2.2.1, by rw [hg1]; exact HGI.out.2.2.2, by rw [hg1]; exact Nat.le_refl _⟩
  have HRS : Hid (∀ e ∈ ([(g1, 24, #[.int .i64 0, .int .i64 0, .int .i64 0, .string ⟨#[]⟩, .string ⟨#[]⟩])] : List (Nat × TypeId × Array Value)), e.1 ≠ g2) := fun e he => by
    simp only [List.mem_cons, List.not_mem_nil, or_false] at he
    subst he
    exact HG1.out.1
  have HO0 : Hid (∀ cs : Array Value, Off g [(g2, 24, cs), (g1, 24, #[.int .i64 0, .int .i64 0, .int .i64 0, .string ⟨#[]⟩, .string ⟨#[]⟩])]) := fun cs e he => by
    simp only [List.mem_cons, List.not_mem_nil, or_false] at he
    rcases he with rfl | rfl
    · exact Nat.ne_of_gt HGG.out.1
    · exact Nat.ne_of_gt HG1.out.2.1
  refine gen_calls (fun x => Hid (RK w x g a len cap bs s r va vb [(g2, 24, #[.int .i64 0, .int .i64 0, .int .i64 0, .string ⟨#[]⟩, .string ⟨#[]⟩]), (g1, 24, #[.int .i64 0, .int .i64 0, .int .i64 0, .string ⟨#[]⟩, .string ⟨#[]⟩])])) HKI ?_
  clear HKI HGI hg1 hg2
  intro y0 HK0
  refine (N1.out _ HK0.out.rb).mono ?_
  rintro e x1 ⟨rfl, hb, hg⟩
  have HL1 := hide (HK0.out.step hb hg (HO0.out _))
  clear hb hg HK0 N1
  have d := HL1.out.has.1.cell 0 (.int .i64 0) rfl
  have f := HL1.out.has.1.free 0
  have HK1 : Hid (RK w (x1.setCell ⟨g2, 0, none⟩ (.int .i64 (n1 : Int))) g a len cap bs s1 r va vb [(g2, 24, #[.int .i64 (n1 : Int), .int .i64 0, .int .i64 0, .string ⟨#[]⟩, .string ⟨#[]⟩]), (g1, 24, #[.int .i64 0, .int .i64 0, .int .i64 0, .string ⟨#[]⟩, .string ⟨#[]⟩])]) := HL1.out.put HGG.out.1 HGG.out.2 HRS.out 0 (.int .i64 (n1 : Int))
  clear HL1
  go_wp2_with fail
  refine gen_calls (fun x => Hid (RK w x g a len cap bs s1 r va vb [(g2, 24, #[.int .i64 (n1 : Int), .int .i64 0, .int .i64 0, .string ⟨#[]⟩, .string ⟨#[]⟩]), (g1, 24, #[.int .i64 0, .int .i64 0, .int .i64 0, .string ⟨#[]⟩, .string ⟨#[]⟩])])) HK1 ?_
  clear HK1 d f
  intro y1 HK1
  refine (N2.out _ HK1.out.rb).mono ?_
  rintro e x2 ⟨rfl, hb, hg⟩
  have HL2 := hide (HK1.out.step hb hg (HO0.out _))
  clear hb hg HK1 N2
  have d := HL2.out.has.1.cell 1 (.int .i64 0) rfl
  have f := HL2.out.has.1.free 1
  have HK2 : Hid (RK w (x2.setCell ⟨g2, 1, none⟩ (.int .i64 (n2 : Int))) g a len cap bs s2 r va vb [(g2, 24, #[.int .i64 (n1 : Int), .int .i64 (n2 : Int), .int .i64 0, .string ⟨#[]⟩, .string ⟨#[]⟩]), (g1, 24, #[.int .i64 0, .int .i64 0, .int .i64 0, .string ⟨#[]⟩, .string ⟨#[]⟩])]) := HL2.out.put HGG.out.1 HGG.out.2 HRS.out 1 (.int .i64 (n2 : Int))
  clear HL2
  go_wp2_with fail
  refine gen_calls (fun x => Hid (RK w x g a len cap bs s2 r va vb [(g2, 24, #[.int .i64 (n1 : Int), .int .i64 (n2 : Int), .int .i64 0, .string ⟨#[]⟩, .string ⟨#[]⟩]), (g1, 24, #[.int .i64 0, .int .i64 0, .int .i64 0, .string ⟨#[]⟩, .string ⟨#[]⟩])])) HK2 ?_
  clear HK2 d f
  intro y2 HK2
  refine (N3.out _ HK2.out.rb).mono ?_
  rintro e x3 ⟨rfl, hb, hg⟩
  have HL3 := hide (HK2.out.step hb hg (HO0.out _))
  clear hb hg HK2 N3
  have d := HL3.out.has.1.cell 2 (.int .i64 0) rfl
  have f := HL3.out.has.1.free 2
  have HK3 : Hid (RK w (x3.setCell ⟨g2, 2, none⟩ (.int .i64 (n3 : Int))) g a len cap bs s3 r va vb [(g2, 24, #[.int .i64 (n1 : Int), .int .i64 (n2 : Int), .int .i64 (n3 : Int), .string ⟨#[]⟩, .string ⟨#[]⟩]), (g1, 24, #[.int .i64 0, .int .i64 0, .int .i64 0, .string ⟨#[]⟩, .string ⟨#[]⟩])]) := HL3.out.put HGG.out.1 HGG.out.2 HRS.out 2 (.int .i64 (n3 : Int))
  clear HL3
  go_wp2_with fail
  refine gen_calls (fun x => Hid (RK w x g a len cap bs s3 r va vb [(g2, 24, #[.int .i64 (n1 : Int), .int .i64 (n2 : Int), .int .i64 (n3 : Int), .string ⟨#[]⟩, .string ⟨#[]⟩]), (g1, 24, #[.int .i64 0, .int .i64 0, .int .i64 0, .string ⟨#[]⟩, .string ⟨#[]⟩])])) HK3 ?_
  clear HK3 d f
  intro y3 HK3
  refine (N4.out _ HK3.out.rb).mono ?_
  rintro e x4 ⟨rfl, hb, hg⟩
  have HL4 := hide (HK3.out.step hb hg (HO0.out _))
  clear hb hg HK3 N4
  have d := HL4.out.has.1.cell 3 (.string ⟨#[]⟩) rfl
  have f := HL4.out.has.1.free 3
  have HK4 : Hid (RK w (x4.setCell ⟨g2, 3, none⟩ (.string n4)) g a len cap bs s4 r va vb [(g2, 24, #[.int .i64 (n1 : Int), .int .i64 (n2 : Int), .int .i64 (n3 : Int), .string n4, .string ⟨#[]⟩]), (g1, 24, #[.int .i64 0, .int .i64 0, .int .i64 0, .string ⟨#[]⟩, .string ⟨#[]⟩])]) := HL4.out.put HGG.out.1 HGG.out.2 HRS.out 3 (.string n4)
  clear HL4
  go_wp2_with fail
  refine gen_calls (fun x => Hid (RK w x g a len cap bs s4 r va vb [(g2, 24, #[.int .i64 (n1 : Int), .int .i64 (n2 : Int), .int .i64 (n3 : Int), .string n4, .string ⟨#[]⟩]), (g1, 24, #[.int .i64 0, .int .i64 0, .int .i64 0, .string ⟨#[]⟩, .string ⟨#[]⟩])])) HK4 ?_
  clear HK4 d f
  intro y4 HK4
  refine (N5.out _ HK4.out.rb).mono ?_
  rintro e x5 ⟨rfl, hb, hg⟩
  have HL5 := hide (HK4.out.step hb hg (HO0.out _))
  clear hb hg HK4 N5
  have d := HL5.out.has.1.cell 4 (.string ⟨#[]⟩) rfl
  have f := HL5.out.has.1.free 4
  have HK5 : Hid (RK w (x5.setCell ⟨g2, 4, none⟩ (.string n5)) g a len cap bs s5 r va vb [(g2, 24, #[.int .i64 (n1 : Int), .int .i64 (n2 : Int), .int .i64 (n3 : Int), .string n4, .string n5]), (g1, 24, #[.int .i64 0, .int .i64 0, .int .i64 0, .string ⟨#[]⟩, .string ⟨#[]⟩])]) := HL5.out.put HGG.out.1 HGG.out.2 HRS.out 4 (.string n5)
  clear HL5
  go_wp2_with (first | (refine wpList_load_at rfl 24 (.tmp 3) rfl g2 rfl #[.int .i64 (n1 : Int), .int .i64 (n2 : Int), .int .i64 (n3 : Int), .string n4, .string n5] HK5.out.has.1 _ Try.underlying24 rfl infoCh ?_) | (refine wpList_store_at rfl 24 (.tmp 2) (.tmp 23) rfl g1 #[.int .i64 0, .int .i64 0, .int .i64 0, .string ⟨#[]⟩, .string ⟨#[]⟩] #[.int .i64 (n1 : Int), .int .i64 (n2 : Int), .int .i64 (n3 : Int), .string n4, .string n5] rfl rfl HK5.out.has.2.1 infoCh rfl (by simp [Value.oneCell']) ?_))
  intro w9 hr9 hk9 ho9
  have HROW := hide hr9
  have HX : Hid (RbAt w9 g a len cap bs s5 r va vb ∧ w.grownBy w9 (some g)) := by
    have hb := hk9 _ _ (Below.refl g1 _) (Nat.le_refl _)
    obtain ⟨k, q1, q2, q3⟩ := HK5.out.rb.row
    refine ⟨⟨⟨k, ho9 _ _ _ (Nat.ne_of_lt HG1.out.2.1) q1, q2, q3⟩, ?_, HK5.out.rb.room, HK5.out.rb.apart⟩, ?_⟩
    · refine ⟨HK5.out.rb.bytes.1, fun hp => ?_⟩
      obtain ⟨b, off, ha, hlt, hc⟩ := HK5.out.rb.bytes.2 hp
      have hbg : b < g1 := Nat.lt_trans (HK5.out.rb.apart hp _ ha) HG1.out.2.1
      exact ⟨b, off, ha, Nat.lt_of_lt_of_le hlt hb.size, fun j hj => (hb.cell (p := ⟨b, off + j, none⟩) hbg).trans (hc j hj)⟩
    · have hg := HK5.out.gr
      refine ⟨hb.os.trans hg.os, hb.tape.trans hg.tape, hb.output.trans hg.output, Nat.le_trans hg.size hb.size, fun k hk hne => ?_⟩
      rw [hb.block k (Nat.lt_of_lt_of_le hk HG1.out.2.2)]
      exact hg.block k hk hne
  clear hr9 hk9 ho9 HK5 d f
  go_wp2
  (try simp only [Exit.inBlock, Exit.then])
  refine bodyPost_ret (res_one rfl _ _ g1 #[.int .i64 (n1 : Int), .int .i64 (n2 : Int), .int .i64 (n3 : Int), .string n4, .string n5] _ rfl HROW.out Try.underlying24 rfl infoCh) rfl ?_
  exact ⟨rfl, HX.out.1, HX.out.2⟩
end Go.Proofs.Ytgobegpmojkhaaa

/-
  The reader of package record: rows that are read.
-/
namespace Go.Proofs.Ytgobegpmojkhaaa
open Go.RowKit
set_option linter.unusedVariables false

/-! ### Read again and again -/
def itS {α : Type} (p : St → α × St) : Nat → St → St
  | 0, s => s
  | n + 1, s => itS p n (p s).2
def itL {α : Type} (p : St → α × St) : Nat → St → List α
  | 0, _ => []
  | n + 1, s => (p s).1 :: itL p n (p s).2
theorem itS_more {α : Type} (p : St → α × St) : ∀ n s, itS p (n + 1) s = (p (itS p n s)).2
  | 0, _ => rfl
  | n + 1, s => itS_more p n (p s).2
theorem itL_more {α : Type} (p : St → α × St) : ∀ n s, itL p (n + 1) s = itL p n s ++ [(p (itS p n s)).1]
  | 0, _ => rfl
  | n + 1, s => by
    show (p s).1 :: itL p (n + 1) (p s).2 = _
    rw [itL_more p n (p s).2]
    rfl
theorem itL_length {α : Type} (p : St → α × St) : ∀ n s, (itL p n s).length = n
  | 0, _ => rfl
  | n + 1, s => by
    show (itL p n (p s).2).length + 1 = n + 1
    rw [itL_length p n]
theorem itS_stick {α : Type} {p : St → α × St} (hp : Good p) : ∀ n s, s.e ≠ 0 → itS p n s = s
  | 0, _, _ => rfl
  | n + 1, s, h => by
    show itS p n (p s).2 = s
    rw [hp.stick s h]
    exact itS_stick hp n s h
theorem some_it {α : Type} {p : St → α × St} (hp : Good p) : ∀ n s, (pSome p n s).2 = itS p n s ∧ ((pSome p n s).2.e = 0 → (pSome p n s).1 = itL p n s)
  | 0, _ => ⟨rfl, fun _ => rfl⟩
  | n + 1, s => by
    by_cases h : s.e ≠ 0
    · have e : pSome p (n + 1) s = ([], s) := by rw [pSome, if_pos h]
      rw [e, itS_stick hp (n + 1) s h]
      exact ⟨rfl, fun h2 => absurd h2 h⟩
    · have e : pSome p (n + 1) s = ((p s).1 :: (pSome p n (p s).2).1, (pSome p n (p s).2).2) := by rw [pSome, if_neg h]
      have ih := some_it hp n (p s).2
      rw [e]
      refine ⟨ih.1, fun h2 => ?_⟩
      show (p s).1 :: (pSome p n (p s).2).1 = (p s).1 :: itL p n (p s).2
      rw [ih.2 h2]

/-! ### A row of structs beside the reader -/
structure TK (w x : World) (g : Nat) (a : Option Addr) (len cap : Nat) (bs : List UInt8) (s : St) (r : Rec) (va vb : Value) (T : TypeId) (sz : Nat) (v : Value) (n : Nat) (xs : List Value) (l : List (Nat × TypeId × Array Value)) : Prop where
  rk : RK w x g a len cap bs s r va vb l
  own : x.ownsRow w.heap.size T sz v n xs
  off : ∀ e ∈ l, v.ownBlock ≠ some e.1
  glt : g < w.heap.size
theorem TK.rb {w x : World} {g : Nat} {a : Option Addr} {len cap : Nat} {bs : List UInt8} {s : St} {r : Rec} {va vb : Value} {T : TypeId} {sz : Nat} {v : Value} {n : Nat} {xs : List Value} {l : List (Nat × TypeId × Array Value)} (h : TK w x g a len cap bs s r va vb T sz v n xs l) : RbAt x g a len cap bs s r va vb := h.rk.rb
theorem TK.has {w x : World} {g : Nat} {a : Option Addr} {len cap : Nat} {bs : List UInt8} {s : St} {r : Rec} {va vb : Value} {T : TypeId} {sz : Nat} {v : Value} {n : Nat} {xs : List Value} {l : List (Nat × TypeId × Array Value)} (h : TK w x g a len cap bs s r va vb T sz v n xs l) : Has x l := h.rk.has
theorem own_ne {w x : World} {T : TypeId} {sz : Nat} {v : Value} {n : Nat} {xs : List Value} (h : x.ownsRow w.heap.size T sz v n xs) {k : Nat} (hk : k < w.heap.size) : some k ≠ v.ownBlock := fun e => by
  have := (h.lt k e.symm).1
  omega
theorem TK.step {w x y : World} {g : Nat} {a : Option Addr} {len cap : Nat} {bs : List UInt8} {s s' : St} {r : Rec} {va vb : Value} {T : TypeId} {sz : Nat} {v : Value} {n : Nat} {xs : List Value} {l : List (Nat × TypeId × Array Value)} (h : TK w x g a len cap bs s r va vb T sz v n xs l) (hb : RbAt y g a len cap bs s' r va vb) (hg : x.grownBy y (some g)) (ho : Off g l) : TK w y g a len cap bs s' r va vb T sz v n xs l :=
  ⟨h.rk.step hb hg ho, h.own.kept hg (.inr (fun e => own_ne h.own h.glt e.symm)), h.off, h.glt⟩
theorem TK.put {w x : World} {g : Nat} {a : Option Addr} {len cap : Nat} {bs : List UInt8} {s : St} {r : Rec} {va vb : Value} {T : TypeId} {sz : Nat} {v : Value} {n : Nat} {xs : List Value} {b : Nat} {t : TypeId} {cs : Array Value} {l : List (Nat × TypeId × Array Value)} (h : TK w x g a len cap bs s r va vb T sz v n xs ((b, t, cs) :: l)) (hb : g < b) (hw : w.heap.size ≤ b) (hl : ∀ e ∈ l, e.1 ≠ b) (j : Nat) (u : Value) :
    TK w (x.setCell ⟨b, j, none⟩ u) g a len cap bs s r va vb T sz v n xs ((b, t, cs.setIfInBounds j u) :: l) :=
  ⟨h.rk.put hb hw hl j u, h.own.kept (grown_set u (grown_refl x (some b))) (.inr (h.off _ (List.mem_cons_self ..))), fun e he => by
    rcases List.mem_cons.1 he with rfl | he
    · exact h.off (b, t, cs) (List.mem_cons_self ..)
    · exact h.off e (List.mem_cons_of_mem _ he), h.glt⟩
/-- One more struct. -/
theorem TK.push {w x y z : World} {g : Nat} {a : Option Addr} {len cap : Nat} {bs : List UInt8} {s : St} {r : Rec} {va vb : Value} {T : TypeId} {sz : Nat} {v v' : Value} {n n' : Nat} {xs xs' : List Value} {l : List (Nat × TypeId × Array Value)} (h : TK w x g a len cap bs s r va vb T sz v n xs l) (hb : Below x.heap.size x y) (ho : z.ownsRow w.heap.size T sz v' n' xs') (hg : y.grownBy z v.ownBlock) : TK w z g a len cap bs s r va vb T sz v' n' xs' [] := by
  have h2 := h.rk.later hb
  obtain ⟨k, q1, q2, q3⟩ := h2.rb.row
  have hsz : ∀ k, k < w.heap.size → z.heap[k]? = y.heap[k]? := fun k hk => hg.block k (Nat.lt_of_lt_of_le hk h2.gr.size) (own_ne h.own hk)
  refine ⟨⟨⟨⟨k, (hsz g h.glt).trans q1, q2, q3⟩, ⟨h2.rb.bytes.1, fun hp => ?_⟩, h2.rb.room, h2.rb.apart⟩, ?_, trivial⟩, ho, fun e he => (nomatch he), h.glt⟩
  · obtain ⟨b, off, ha, hlt, hc⟩ := h2.rb.bytes.2 hp
    have hbg : b < w.heap.size := Nat.lt_trans (h2.rb.apart hp _ ha) h.glt
    exact ⟨b, off, ha, Nat.lt_of_lt_of_le hlt hg.size, fun j hj => (World.cell?_of_block (a := ⟨b, off + j, none⟩) (hsz b hbg)).trans (hc j hj)⟩
  · exact ⟨hg.os.trans h2.gr.os, hg.tape.trans h2.gr.tape, hg.output.trans h2.gr.output, Nat.le_trans h2.gr.size hg.size, fun k hk hne => (hsz k hk).trans (h2.gr.block k hk hne)⟩
/-- A new struct beside it. -/
theorem TK.more {w x y : World} {g : Nat} {a : Option Addr} {len cap : Nat} {bs : List UInt8} {s : St} {r : Rec} {va vb : Value} {T : TypeId} {sz : Nat} {v : Value} {n : Nat} {xs : List Value} (h : TK w x g a len cap bs s r va vb T sz v n xs []) (hb : Below x.heap.size x y) {t : TypeId} {cs : Array Value} (hr : RowAt y x.heap.size t cs) : TK w y g a len cap bs s r va vb T sz v n xs [(x.heap.size, t, cs)] := by
  refine ⟨⟨h.rk.rb.later hb, grown_trans h.rk.gr (of_below hb), hr, trivial⟩, h.own.kept (of_below (o := none) hb) (by cases hv : v.ownBlock <;> simp), fun e he => ?_, h.glt⟩
  simp only [List.mem_cons, List.not_mem_nil, or_false] at he
  subst he
  intro e
  have := (h.own.lt _ e).2
  exact absurd this (Nat.lt_irrefl _)

/-- append(s, x), s the call's own. -/
theorem wpList_append_row (w : World) {P : Program} {ops : Array Oper} {rest : List Oper} {o : Oper} {a : Act} {Q : Exit → Act → World → Prop} (hg : o.guard = none) (s x : Operand) (t e : TypeId) (hop : o.op = Op.call { callee := Callee.builtin Builtin.append, args := #[s, x], argTypes := #[t, t] })
    (z : Array Value) (sz by' : Nat) (ht : P.underlying t = some (.slice e)) (hi : (P.info? e).map (fun i => (i.zero, i.size, i.bytes)) = some (some (.agg z), sz, by')) (hzs : z.size = sz) (hsz : 0 < sz)
    (base : Nat) (v : Value) (n : Nat) (xs : List Value) (hs : a.eval s = v) (hown : w.ownsRow base e sz v n xs)
    (b : Nat) (c : Array Value) (hc : c.size = sz) (h1 : c.all (·.oneCell') = true) (hx : a.eval x = .slice (some ⟨b, 0, none⟩) 1 1) (hB : RowAt w b e c) (hn : n ≤ 1000) (hby : by' ≤ 1000) (hbase : base ≤ w.heap.size)
    (hK : ∀ v' w', w'.ownsRow base e sz v' (n + 1) (xs ++ c.toList) → w.grownBy w' v.ownBlock → wpList P ops Q rest (a.put o.dst v') w') :
    wpList P ops Q (o :: rest) a w := by
  obtain ⟨i, hi0, hi1⟩ := Option.map_eq_some_iff.1 hi
  simp only [Prod.mk.injEq] at hi1
  refine wpList_append_own w hg s x t hop base e i (.agg z) sz by' ht hi0 hi1.1 hi1.2.1 hi1.2.2 hzs hsz v n xs hs hown ⟨b, 0, none⟩ 1 1 c.toList hx (by rw [Array.length_toList, hc, Nat.one_mul]) ?_ ?_ (by unfold maxLen; omega) ?_ hbase (fun v' w' h1 h2 _ => hK v' w' h1 h2)
  · intro j u hu
    rw [Array.getElem?_toList] at hu
    rw [Addr.add_lit, Nat.zero_add]
    exact hB.cell j u hu
  · intro u hu
    rw [Array.all_eq_true'] at h1
    exact h1 u (by simpa using hu)
  · have : (n + 1) * by' ≤ 1001 * 1000 := Nat.mul_le_mul (by omega) hby
    omega
theorem row_new2 (w : World) (t : TypeId) (cs : Array Value) {g : Nat} (hg : w.heap.size = g) : RowAt (w.alloc (.cells cs t)) g t cs := by
  subst hg
  exact RowAt.new w t cs
theorem infoTx3 : (Try.prog.info? 70).map (fun i => (i.zero, i.size, i.bytes)) = some (some (.agg #[.int .i64 0, .int .i64 0, .int .u64 0, .int .u64 0, .int .u64 0]), 5, 40) := by kernel_rfl
theorem infoDi3 : (Try.prog.info? 72).map (fun i => (i.zero, i.size, i.bytes)) = some (some (.agg #[.int .i64 0, .int .u64 0]), 2, 16) := by kernel_rfl
def flatT (ts : List Tx) : List Value := ts.flatMap fun x => (txA x).toList
def flatD (ts : List Di) : List Value := ts.flatMap fun x => (diA x).toList
end Go.Proofs.Ytgobegpmojkhaaa

/-
  The reader of package record: txns.
-/
namespace Go.Proofs.Ytgobegpmojkhaaa
open Go.RowKit
set_option linter.unusedVariables false

set_option maxRecDepth 4000 in
set_option maxHeartbeats 3200000 in
theorem btxns_any (g : Nat) (a : Option Addr) (len cap : Nat) (bs : List UInt8) (s : St) (r : Rec) (va vb : Value) (w : World) (h : RbAt w g a len cap bs s r va vb) :
    Calls Try.prog 74 #[.pointer (some ⟨g, 0, none⟩)] w fun e w' => ∃ v, e = .returned v ∧ w'.ownsRow w.heap.size 70 5 v (cntN 16 s) (flatT (itL pTx (cntN 16 s) (pIn 0 16 s).2)) ∧ RbAt w' g a len cap bs (itS pTx (cntN 16 s) (pIn 0 16 s).2) r va vb ∧ w.grownBy w' (some g) := by
  have HC := hide (fun x h => bcount_any g a len cap bs s r va vb 16 x (by omega) h)
  have hcn : cntN 16 s ≤ 255 := by
    unfold cntN
    split
    · rw [in_val]
      have := num_lt 1 s
      omega
    · omega
  have HG := hide h.lt
  generalize hcN : cntN 16 s = cn at *
  generalize hs0 : (pIn 0 16 s).2 = s0 at *
  clear hcN hs0
  have hb0 := (Below.refl w.heap.size w).alloc (Nat.le_refl _) (.cells #[] 70)
  have HK0 : Hid (TK w (w.alloc (.cells #[] 70)) g a len cap bs s r va vb 70 5 (.slice (some ⟨w.heap.size, 0, none⟩) 0 0) 0 [] []) :=
    ⟨⟨h.later hb0, of_below hb0, trivial⟩, World.ownsRow_made w #[] 0 (Nat.le_refl _) (by unfold maxLen; omega) rfl, fun e he => (nomatch he), h.lt⟩
  clear hb0 h
  go_enter Try.func74, Try.ntmps74
  go_wp2_with fail
  refine (HC.out _ HK0.out.rb).mono ?_
  rintro e x1 ⟨rfl, hb, hg⟩
  have HK1 := hide (HK0.out.step hb hg (fun e he => nomatch he))
  clear hb hg HK0 HC
  obtain ⟨v0, hv0⟩ : ∃ v0, v0 = Value.slice (some ⟨w.heap.size, 0, none⟩) 0 0 := ⟨_, rfl⟩
  rw [← hv0] at HK1
  go_wp2
  rw [← hv0]
  clear hv0
  go_loopw [8, 3] (fun i v wr => ∃ j : Nat, j ≤ cn ∧ i = .int .i64 j ∧ TK w wr g a len cap bs (itS pTx j s0) r va vb 70 5 v j (flatT (itL pTx j s0)) []) (fun i _ _ => cn - (intOf i).toNat)
  case atStart => exact ⟨0, Nat.zero_le _, rfl, HK1.out⟩
  case round =>
    obtain ⟨j, hj, rfl, hk⟩ := hrel
    have HKJ := hide hk
    clear hk HK1
    by_cases hlt : j < cn
    case neg =>
      obtain rfl : j = cn := by omega
      have HX := HKJ
      clear HKJ HG
      go_wp2
      go_ret
      exact ⟨_, rfl, HX.out.own, HX.out.rb, HX.out.rk.gr⟩
    have jlt : (j : Int) < (cn : Int) := by omega
    obtain ⟨s, hsj⟩ : ∃ s', s' = itS pTx j s0 := ⟨_, rfl⟩
    obtain ⟨xs, hxs⟩ : ∃ xs, xs = flatT (itL pTx j s0) := ⟨_, rfl⟩
    rw [← hsj, ← hxs] at HKJ
    have HSJ := hide hsj
    have HXS := hide hxs
    clear hsj hxs
    obtain ⟨n1, s1, h1⟩ : ∃ n s', pNum 4 s = (n, s') := ⟨_, _, rfl⟩
    have b1 : n1 < 256 ^ 4 := by have := num_lt 4 s; rw [h1] at this; exact this
    have N1 := hide (fun x h => bnum_any g a len cap bs s r va vb 4 x (by omega) h)
    have ew1 := conv_i64 n1 (by omega)
    rw [h1] at N1
    obtain ⟨n2, s2, h2⟩ : ∃ n s', pNum 1 s1 = (n, s') := ⟨_, _, rfl⟩
    have b2 : n2 < 256 ^ 1 := by have := num_lt 1 s1; rw [h2] at this; exact this
    have N2 := hide (fun x h => bnum_any g a len cap bs s1 r va vb 1 x (by omega) h)
    have ew2 := conv_i64 n2 (by omega)
    rw [h2] at N2
    obtain ⟨n3, s3, h3⟩ : ∃ n s', pNum 8 s2 = (n, s') := ⟨_, _, rfl⟩
    have b3 : n3 < 256 ^ 8 := by have := num_lt 8 s2; rw [h3] at this; exact this
    have N3 := hide (fun x h => bnum_any g a len cap bs s2 r va vb 8 x (by omega) h)
    rw [h3] at N3
    obtain ⟨n4, s4, h4⟩ : ∃ n s', pNum 8 s3 = (n, s') := ⟨_, _, rfl⟩
    have b4 : n4 < 256 ^ 8 := by have := num_lt 8 s3; rw [h4] at this; exact this
    have N4 := hide (fun x h => bnum_any g a len cap bs s3 r va vb 8 x (by omega) h)
    rw [h4] at N4
    obtain ⟨n5, s5, h5⟩ : ∃ n s', pNum 8 s4 = (n, s') := ⟨_, _, rfl⟩
    have b5 : n5 < 256 ^ 8 := by have := num_lt 8 s4; rw [h5] at this; exact this
    have N5 := hide (fun x h => bnum_any g a len cap bs s4 r va vb 8 x (by omega) h)
    rw [h5] at N5
    have hP : pTx s = (⟨n1, n2, n3, n4, n5⟩, s5) := by
      simp only [pTx, bindP, pureP, h1, h2, h3, h4, h5]
    have HP := hide hP
    clear hP h1 b1 h2 b2 h3 b3 h4 b4 h5 b5
    obtain ⟨gt, hgt⟩ : ∃ gt, gt = wr.heap.size := ⟨_, rfl⟩
    have HK0 : Hid (TK w (wr.alloc (.cells #[.int .i64 0, .int .i64 0, .int .u64 0, .int .u64 0, .int .u64 0] 70)) g a len cap bs s r va vb 70 5 u3 j xs [(wr.heap.size, 70, #[.int .i64 0, .int .i64 0, .int .u64 0, .int .u64 0, .int .u64 0])]) := HKJ.out.more ((Below.refl _ _).alloc (Nat.le_refl _) _) (RowAt.new _ _ _)
    have HGG : Hid (g < gt ∧ w.heap.size ≤ gt) := ⟨by rw [hgt]; exact HKJ.out.rb.lt, by rw [hgt]; exact HKJ.out.rk.gr.size⟩
    have HRS : Hid (∀ e ∈ ([] : List (Nat × TypeId × Array Value)), e.1 ≠ gt) := fun e he => nomatch he
    have HO0 : Hid (∀ cs : Array Value, Off g [(gt, 70, cs)]) := fun cs e he => by
      simp only [List.mem_cons, List.not_mem_nil, or_false] at he
      subst he
      exact Nat.ne_of_gt HGG.out.1
    clear HKJ
    go_wp2_with fail
    rw [← hgt] at HK0
    rw [← hgt]
    refine gen_calls (fun x => Hid (TK w x g a len cap bs s r va vb 70 5 u3 j xs [(gt, 70, #[.int .i64 0, .int .i64 0, .int .u64 0, .int .u64 0, .int .u64 0])])) HK0 ?_
    clear HK0 hgt
    intro y0 HK0
    refine (N1.out _ HK0.out.rb).mono ?_
    rintro e x1 ⟨rfl, hb, hg⟩
    have HL1 := hide (HK0.out.step hb hg (HO0.out _))
    clear hb hg HK0 N1
    have d := HL1.out.has.1.cell 0 (.int .i64 0) rfl
    have f := HL1.out.has.1.free 0
    have HK1 : Hid (TK w (x1.setCell ⟨gt, 0, none⟩ (.int .i64 (n1 : Int))) g a len cap bs s1 r va vb 70 5 u3 j xs [(gt, 70, #[.int .i64 (n1 : Int), .int .i64 0, .int .u64 0, .int .u64 0, .int .u64 0])]) := HL1.out.put HGG.out.1 HGG.out.2 HRS.out 0 (.int .i64 (n1 : Int))
    clear HL1
    go_wp2_with fail
    refine gen_calls (fun x => Hid (TK w x g a len cap bs s1 r va vb 70 5 u3 j xs [(gt, 70, #[.int .i64 (n1 : Int), .int .i64 0, .int .u64 0, .int .u64 0, .int .u64 0])])) HK1 ?_
    clear HK1 d f
    intro y1 HK1
    refine (N2.out _ HK1.out.rb).mono ?_
    rintro e x2 ⟨rfl, hb, hg⟩
    have HL2 := hide (HK1.out.step hb hg (HO0.out _))
    clear hb hg HK1 N2
    have d := HL2.out.has.1.cell 1 (.int .i64 0) rfl
    have f := HL2.out.has.1.free 1
    have HK2 : Hid (TK w (x2.setCell ⟨gt, 1, none⟩ (.int .i64 (n2 : Int))) g a len cap bs s2 r va vb 70 5 u3 j xs [(gt, 70, #[.int .i64 (n1 : Int), .int .i64 (n2 : Int), .int .u64 0, .int .u64 0, .int .u64 0])]) := HL2.out.put HGG.out.1 HGG.out.2 HRS.out 1 (.int .i64 (n2 : Int))
    clear HL2
    go_wp2_with fail
    refine gen_calls (fun x => Hid (TK w x g a len cap bs s2 r va vb 70 5 u3 j xs [(gt, 70, #[.int .i64 (n1 : Int), .int .i64 (n2 : Int), .int .u64 0, .int .u64 0, .int .u64 0])])) HK2 ?_
    clear HK2 d f
    intro y2 HK2
    refine (N3.out _ HK2.out.rb).mono ?_
    rintro e x3 ⟨rfl, hb, hg⟩
    have HL3 := hide (HK2.out.step hb hg (HO0.out _))
    clear hb hg HK2 N3
    have d := HL3.out.has.1.cell 2 (.int .u64 0) rfl
    have f := HL3.out.has.1.free 2
    have HK3 : Hid (TK w (x3.setCell ⟨gt, 2, none⟩ (.int .u64 (n3 : Int))) g a len cap bs s3 r va vb 70 5 u3 j xs [(gt, 70, #[.int .i64 (n1 : Int), .int .i64 (n2 : Int), .int .u64 (n3 : Int), .int .u64 0, .int .u64 0])]) := HL3.out.put HGG.out.1 HGG.out.2 HRS.out 2 (.int .u64 (n3 : Int))
    clear HL3
    go_wp2_with fail
    refine gen_calls (fun x => Hid (TK w x g a len cap bs s3 r va vb 70 5 u3 j xs [(gt, 70, #[.int .i64 (n1 : Int), .int .i64 (n2 : Int), .int .u64 (n3 : Int), .int .u64 0, .int .u64 0])])) HK3 ?_
    clear HK3 d f
    intro y3 HK3
    refine (N4.out _ HK3.out.rb).mono ?_
    rintro e x4 ⟨rfl, hb, hg⟩
    have HL4 := hide (HK3.out.step hb hg (HO0.out _))
    clear hb hg HK3 N4
    have d := HL4.out.has.1.cell 3 (.int .u64 0) rfl
    have f := HL4.out.has.1.free 3
    have HK4 : Hid (TK w (x4.setCell ⟨gt, 3, none⟩ (.int .u64 (n4 : Int))) g a len cap bs s4 r va vb 70 5 u3 j xs [(gt, 70, #[.int .i64 (n1 : Int), .int .i64 (n2 : Int), .int .u64 (n3 : Int), .int .u64 (n4 : Int), .int .u64 0])]) := HL4.out.put HGG.out.1 HGG.out.2 HRS.out 3 (.int .u64 (n4 : Int))
    clear HL4
    go_wp2_with fail
    refine gen_calls (fun x => Hid (TK w x g a len cap bs s4 r va vb 70 5 u3 j xs [(gt, 70, #[.int .i64 (n1 : Int), .int .i64 (n2 : Int), .int .u64 (n3 : Int), .int .u64 (n4 : Int), .int .u64 0])])) HK4 ?_
    clear HK4 d f
    intro y4 HK4
    refine (N5.out _ HK4.out.rb).mono ?_
    rintro e x5 ⟨rfl, hb, hg⟩
    have HL5 := hide (HK4.out.step hb hg (HO0.out _))
    clear hb hg HK4 N5
    have d := HL5.out.has.1.cell 4 (.int .u64 0) rfl
    have f := HL5.out.has.1.free 4
    have HK5 : Hid (TK w (x5.setCell ⟨gt, 4, none⟩ (.int .u64 (n5 : Int))) g a len cap bs s5 r va vb 70 5 u3 j xs [(gt, 70, #[.int .i64 (n1 : Int), .int .i64 (n2 : Int), .int .u64 (n3 : Int), .int .u64 (n4 : Int), .int .u64 (n5 : Int)])]) := HL5.out.put HGG.out.1 HGG.out.2 HRS.out 4 (.int .u64 (n5 : Int))
    clear HL5
    go_wp2_with (first | (refine wpList_load_at rfl 70 (.tmp 4) rfl gt rfl #[.int .i64 (n1 : Int), .int .i64 (n2 : Int), .int .u64 (n3 : Int), .int .u64 (n4 : Int), .int .u64 (n5 : Int)] HK5.out.has.1 _ Try.underlying70 rfl infoTx ?_) | (at_builtin; refine wpList_append_row _ rfl (.tmp 28) (.tmp 30) 25 70 rfl #[.int .i64 0, .int .i64 0, .int .u64 0, .int .u64 0, .int .u64 0] 5 40 Try.underlying25 infoTx3 rfl (by decide) w.heap.size u3 j xs rfl (ownsRow_below HK5.out.own ((Below.refl (x5.setCell ⟨gt, 4, none⟩ (.int .u64 (n5 : Int))).heap.size (x5.setCell ⟨gt, 4, none⟩ (.int .u64 (n5 : Int)))).alloc (Nat.le_refl _) (.cells #[.int .i64 (n1 : Int), .int .i64 (n2 : Int), .int .u64 (n3 : Int), .int .u64 (n4 : Int), .int .u64 (n5 : Int)] 70))) x5.heap.size #[.int .i64 (n1 : Int), .int .i64 (n2 : Int), .int .u64 (n3 : Int), .int .u64 (n4 : Int), .int .u64 (n5 : Int)] rfl (by simp [Value.oneCell']) rfl (row_new2 (x5.setCell ⟨gt, 4, none⟩ (.int .u64 (n5 : Int))) 70 #[.int .i64 (n1 : Int), .int .i64 (n2 : Int), .int .u64 (n3 : Int), .int .u64 (n4 : Int), .int .u64 (n5 : Int)] (by simp)) (by omega) (by omega) (Nat.le_trans HK5.out.rk.gr.size (by simp)) ?_))
    intro v' w9 ho9 hg9
    have HN := hide (HK5.out.push ((Below.refl (x5.setCell ⟨gt, 4, none⟩ (.int .u64 (n5 : Int))).heap.size (x5.setCell ⟨gt, 4, none⟩ (.int .u64 (n5 : Int)))).alloc (Nat.le_refl _) (.cells #[.int .i64 (n1 : Int), .int .i64 (n2 : Int), .int .u64 (n3 : Int), .int .u64 (n4 : Int), .int .u64 (n5 : Int)] 70)) ho9 hg9)
    clear ho9 hg9 HK5 d f HGG HRS HO0
    go_wp2
    go_roundw
    case rel =>
      refine ⟨j + 1, by omega, by go_num, ?_⟩
      have e1 : itS pTx (j + 1) s0 = s5 := by rw [itS_more, ← HSJ.out, HP.out]
      have e2 : flatT (itL pTx (j + 1) s0) = xs ++ (#[.int .i64 (n1 : Int), .int .i64 (n2 : Int), .int .u64 (n3 : Int), .int .u64 (n4 : Int), .int .u64 (n5 : Int)] : Array Value).toList := by
        rw [itL_more, ← HSJ.out, HP.out, HXS.out]
        unfold flatT
        rw [List.flatMap_append]
        simp [txA]
      rw [e1, e2]
      exact HN.out
    case measure => simp [intOf]; omega
end Go.Proofs.Ytgobegpmojkhaaa

/-
  The reader of package record: dirty.
-/
namespace Go.Proofs.Ytgobegpmojkhaaa
open Go.RowKit
set_option linter.unusedVariables false

set_option maxRecDepth 4000 in
set_option maxHeartbeats 3200000 in
theorem bdirty_any (g : Nat) (a : Option Addr) (len cap : Nat) (bs : List UInt8) (s : St) (r : Rec) (va vb : Value) (w : World) (h : RbAt w g a len cap bs s r va vb) :
    Calls Try.prog 75 #[.pointer (some ⟨g, 0, none⟩)] w fun e w' => ∃ v, e = .returned v ∧ w'.ownsRow w.heap.size 72 2 v (cntN 32 s) (flatD (itL pDi (cntN 32 s) (pIn 0 32 s).2)) ∧ RbAt w' g a len cap bs (itS pDi (cntN 32 s) (pIn 0 32 s).2) r va vb ∧ w.grownBy w' (some g) := by
  have HC := hide (fun x h => bcount_any g a len cap bs s r va vb 32 x (by omega) h)
  have hcn : cntN 32 s ≤ 255 := by
    unfold cntN
    split
    · rw [in_val]
      have := num_lt 1 s
      omega
    · omega
  have HG := hide h.lt
  generalize hcN : cntN 32 s = cn at *
  generalize hs0 : (pIn 0 32 s).2 = s0 at *
  clear hcN hs0
  have hb0 := (Below.refl w.heap.size w).alloc (Nat.le_refl _) (.cells #[] 72)
  have HK0 : Hid (TK w (w.alloc (.cells #[] 72)) g a len cap bs s r va vb 72 2 (.slice (some ⟨w.heap.size, 0, none⟩) 0 0) 0 [] []) :=
    ⟨⟨h.later hb0, of_below hb0, trivial⟩, World.ownsRow_made w #[] 0 (Nat.le_refl _) (by unfold maxLen; omega) rfl, fun e he => (nomatch he), h.lt⟩
  clear hb0 h
  go_enter Try.func75, Try.ntmps75
  go_wp2_with fail
  refine (HC.out _ HK0.out.rb).mono ?_
  rintro e x1 ⟨rfl, hb, hg⟩
  have HK1 := hide (HK0.out.step hb hg (fun e he => nomatch he))
  clear hb hg HK0 HC
  obtain ⟨v0, hv0⟩ : ∃ v0, v0 = Value.slice (some ⟨w.heap.size, 0, none⟩) 0 0 := ⟨_, rfl⟩
  rw [← hv0] at HK1
  go_wp2
  rw [← hv0]
  clear hv0
  go_loopw [8, 3] (fun i v wr => ∃ j : Nat, j ≤ cn ∧ i = .int .i64 j ∧ TK w wr g a len cap bs (itS pDi j s0) r va vb 72 2 v j (flatD (itL pDi j s0)) []) (fun i _ _ => cn - (intOf i).toNat)
  case atStart => exact ⟨0, Nat.zero_le _, rfl, HK1.out⟩
  case round =>
    obtain ⟨j, hj, rfl, hk⟩ := hrel
    have HKJ := hide hk
    clear hk HK1
    by_cases hlt : j < cn
    case neg =>
      obtain rfl : j = cn := by omega
      have HX := HKJ
      clear HKJ HG
      go_wp2
      go_ret
      exact ⟨_, rfl, HX.out.own, HX.out.rb, HX.out.rk.gr⟩
    have jlt : (j : Int) < (cn : Int) := by omega
    obtain ⟨s, hsj⟩ : ∃ s', s' = itS pDi j s0 := ⟨_, rfl⟩
    obtain ⟨xs, hxs⟩ : ∃ xs, xs = flatD (itL pDi j s0) := ⟨_, rfl⟩
    rw [← hsj, ← hxs] at HKJ
    have HSJ := hide hsj
    have HXS := hide hxs
    clear hsj hxs
    obtain ⟨n1, s1, h1⟩ : ∃ n s', pNum 2 s = (n, s') := ⟨_, _, rfl⟩
    have b1 : n1 < 256 ^ 2 := by have := num_lt 2 s; rw [h1] at this; exact this
    have N1 := hide (fun x h => bnum_any g a len cap bs s r va vb 2 x (by omega) h)
    have ew1 := conv_i64 n1 (by omega)
    rw [h1] at N1
    obtain ⟨n2, s2, h2⟩ : ∃ n s', pNum 8 s1 = (n, s') := ⟨_, _, rfl⟩
    have b2 : n2 < 256 ^ 8 := by have := num_lt 8 s1; rw [h2] at this; exact this
    have N2 := hide (fun x h => bnum_any g a len cap bs s1 r va vb 8 x (by omega) h)
    rw [h2] at N2
    have hP : pDi s = (⟨n1, n2⟩, s2) := by
      simp only [pDi, bindP, pureP, h1, h2]
    have HP := hide hP
    clear hP h1 b1 h2 b2
    obtain ⟨gt, hgt⟩ : ∃ gt, gt = wr.heap.size := ⟨_, rfl⟩
    have HK0 : Hid (TK w (wr.alloc (.cells #[.int .i64 0, .int .u64 0] 72)) g a len cap bs s r va vb 72 2 u3 j xs [(wr.heap.size, 72, #[.int .i64 0, .int .u64 0])]) := HKJ.out.more ((Below.refl _ _).alloc (Nat.le_refl _) _) (RowAt.new _ _ _)
    have HGG : Hid (g < gt ∧ w.heap.size ≤ gt) := ⟨by rw [hgt]; exact HKJ.out.rb.lt, by rw [hgt]; exact HKJ.out.rk.gr.size⟩
    have HRS : Hid (∀ e ∈ ([] : List (Nat × TypeId × Array Value)), e.1 ≠ gt) := fun e he => nomatch he
    have HO0 : Hid (∀ cs : Array Value, Off g [(gt, 72, cs)]) := fun cs e he => by
      simp only [List.mem_cons, List.not_mem_nil, or_false] at he
      subst he
      exact Nat.ne_of_gt HGG.out.1
    clear HKJ
    go_wp2_with fail
    rw [← hgt] at HK0
    rw [← hgt]
    refine gen_calls (fun x => Hid (TK w x g a len cap bs s r va vb 72 2 u3 j xs [(gt, 72, #[.int .i64 0, .int .u64 0])])) HK0 ?_
    clear HK0 hgt
    intro y0 HK0
    refine (N1.out _ HK0.out.rb).mono ?_
    rintro e x1 ⟨rfl, hb, hg⟩
    have HL1 := hide (HK0.out.step hb hg (HO0.out _))
    clear hb hg HK0 N1
    have d := HL1.out.has.1.cell 0 (.int .i64 0) rfl
    have f := HL1.out.has.1.free 0
    have HK1 : Hid (TK w (x1.setCell ⟨gt, 0, none⟩ (.int .i64 (n1 : Int))) g a len cap bs s1 r va vb 72 2 u3 j xs [(gt, 72, #[.int .i64 (n1 : Int), .int .u64 0])]) := HL1.out.put HGG.out.1 HGG.out.2 HRS.out 0 (.int .i64 (n1 : Int))
    clear HL1
    go_wp2_with fail
    refine gen_calls (fun x => Hid (TK w x g a len cap bs s1 r va vb 72 2 u3 j xs [(gt, 72, #[.int .i64 (n1 : Int), .int .u64 0])])) HK1 ?_
    clear HK1 d f
    intro y1 HK1
    refine (N2.out _ HK1.out.rb).mono ?_
    rintro e x2 ⟨rfl, hb, hg⟩
    have HL2 := hide (HK1.out.step hb hg (HO0.out _))
    clear hb hg HK1 N2
    have d := HL2.out.has.1.cell 1 (.int .u64 0) rfl
    have f := HL2.out.has.1.free 1
    have HK2 : Hid (TK w (x2.setCell ⟨gt, 1, none⟩ (.int .u64 (n2 : Int))) g a len cap bs s2 r va vb 72 2 u3 j xs [(gt, 72, #[.int .i64 (n1 : Int), .int .u64 (n2 : Int)])]) := HL2.out.put HGG.out.1 HGG.out.2 HRS.out 1 (.int .u64 (n2 : Int))
    clear HL2
    go_wp2_with (first | (refine wpList_load_at rfl 72 (.tmp 4) rfl gt rfl #[.int .i64 (n1 : Int), .int .u64 (n2 : Int)] HK2.out.has.1 _ Try.underlying72 rfl infoDi ?_) | (at_builtin; refine wpList_append_row _ rfl (.tmp 18) (.tmp 20) 26 72 rfl #[.int .i64 0, .int .u64 0] 2 16 Try.underlying26 infoDi3 rfl (by decide) w.heap.size u3 j xs rfl (ownsRow_below HK2.out.own ((Below.refl (x2.setCell ⟨gt, 1, none⟩ (.int .u64 (n2 : Int))).heap.size (x2.setCell ⟨gt, 1, none⟩ (.int .u64 (n2 : Int)))).alloc (Nat.le_refl _) (.cells #[.int .i64 (n1 : Int), .int .u64 (n2 : Int)] 72))) x2.heap.size #[.int .i64 (n1 : Int), .int .u64 (n2 : Int)] rfl (by simp [Value.oneCell']) rfl (row_new2 (x2.setCell ⟨gt, 1, none⟩ (.int .u64 (n2 : Int))) 72 #[.int .i64 (n1 : Int), .int .u64 (n2 : Int)] (by simp)) (by omega) (by omega) (Nat.le_trans HK2.out.rk.gr.size (by simp)) ?_))
    intro v' w9 ho9 hg9
    have HN := hide (HK2.out.push ((Below.refl (x2.setCell ⟨gt, 1, none⟩ (.int .u64 (n2 : Int))).heap.size (x2.setCell ⟨gt, 1, none⟩ (.int .u64 (n2 : Int)))).alloc (Nat.le_refl _) (.cells #[.int .i64 (n1 : Int), .int .u64 (n2 : Int)] 72)) ho9 hg9)
    clear ho9 hg9 HK2 d f HGG HRS HO0
    go_wp2
    go_roundw
    case rel =>
      refine ⟨j + 1, by omega, by go_num, ?_⟩
      have e1 : itS pDi (j + 1) s0 = s2 := by rw [itS_more, ← HSJ.out, HP.out]
      have e2 : flatD (itL pDi (j + 1) s0) = xs ++ (#[.int .i64 (n1 : Int), .int .u64 (n2 : Int)] : Array Value).toList := by
        rw [itL_more, ← HSJ.out, HP.out, HXS.out]
        unfold flatD
        rw [List.flatMap_append]
        simp [diA]
      rw [e1, e2]
      exact HN.out
    case measure => simp [intOf]; omega
end Go.Proofs.Ytgobegpmojkhaaa

/-
  The reader of package record: what is written into its own block; what the parser answers.
-/
namespace Go.Proofs.Ytgobegpmojkhaaa
open Go.RowKit
set_option linter.unusedVariables false

theorem RbAt.setc {w : World} {g : Nat} {a : Option Addr} {len cap : Nat} {bs : List UInt8} {s : St} {r : Rec} {va vb : Value} (h : RbAt w g a len cap bs s r va vb) (j : Nat) (v : Value) (r' : Rec) (va' vb' : Value)
    (hs : ∀ k, (rdB (.slice a len cap) k s.e r va vb).setIfInBounds j v = rdB (.slice a len cap) k s.e r' va' vb') : RbAt (w.setCell ⟨g, j, none⟩ v) g a len cap bs s r' va' vb' := by
  obtain ⟨k, h1, h2, h3⟩ := h.row
  have hr := h1.set j v
  rw [hs] at hr
  exact ⟨⟨k, hr, h2, h3⟩, isB_grown h.bytes (grown_set v (grown_refl w (some g))) (apart_ne h.apart), h.room, h.apart⟩
theorem RbAt.setch {w : World} {g : Nat} {a : Option Addr} {len cap : Nat} {bs : List UInt8} {s : St} {r : Rec} {va vb : Value} (h : RbAt w g a len cap bs s r va vb) (c : Ch) : RbAt (w.setCells g 7 (chA c).toList) g a len cap bs s ⟨r.k, r.l, r.t, r.p, c, r.n, r.s, r.b, r.ts, r.ds⟩ va vb :=
  ((((h.setc 7 (.int .i64 c.k) ⟨r.k, r.l, r.t, r.p, ⟨c.k, r.c.pg, r.c.sl, r.c.o, r.c.n⟩, r.n, r.s, r.b, r.ts, r.ds⟩ va vb (fun _ => rfl)).setc 8 (.int .i64 c.pg) ⟨r.k, r.l, r.t, r.p, ⟨c.k, c.pg, r.c.sl, r.c.o, r.c.n⟩, r.n, r.s, r.b, r.ts, r.ds⟩ va vb (fun _ => rfl)).setc 9 (.int .i64 c.sl) ⟨r.k, r.l, r.t, r.p, ⟨c.k, c.pg, c.sl, r.c.o, r.c.n⟩, r.n, r.s, r.b, r.ts, r.ds⟩ va vb (fun _ => rfl)).setc 10 (.string c.o) ⟨r.k, r.l, r.t, r.p, ⟨c.k, c.pg, c.sl, c.o, r.c.n⟩, r.n, r.s, r.b, r.ts, r.ds⟩ va vb (fun _ => rfl)).setc 11 (.string c.n) ⟨r.k, r.l, r.t, r.p, c, r.n, r.s, r.b, r.ts, r.ds⟩ va vb (fun _ => rfl)
theorem grown_setch {w x : World} {g : Nat} (h : w.grownBy x (some g)) (c : Ch) : w.grownBy (x.setCells g 7 (chA c).toList) (some g) := grown_set _ (grown_set _ (grown_set _ (grown_set _ (grown_set _ h))))
theorem RbAt.there {w : World} {g : Nat} {a : Option Addr} {len cap : Nat} {bs : List UInt8} {s : St} {r : Rec} {va vb : Value} (h : RbAt w g a len cap bs s r va vb) : w.there g 7 5 := by
  obtain ⟨k, h1, _⟩ := h.row
  exact row_there h1 7 5 (by show 7 + 5 ≤ 17; omega)

theorem own_shape5 {w : World} {base n sz : Nat} {e : TypeId} {v : Value} {xs : List Value} (h : w.ownsRow base e sz v n xs) : ∃ a c, v = .slice a n c := by
  rcases h.2 with ⟨h1, h2⟩ | ⟨g', cap, cur, h2, _⟩
  · exact ⟨none, 0, by rw [h1, h2]⟩
  · exact ⟨_, _, h2⟩

theorem own_mono {w : World} {base base' n sz : Nat} {e : TypeId} {v : Value} {xs : List Value} (h : w.ownsRow base e sz v n xs) (hb : base' ≤ base) : w.ownsRow base' e sz v n xs := by
  refine ⟨h.1, h.2.imp id ?_⟩
  rintro ⟨g', cap, cur, h2, h3, h4⟩
  exact ⟨g', cap, cur, h2, Nat.le_trans hb h3, h4⟩

/-! ### The parser, in the order of the code -/
def recRest (k : Nat) : St → Rec × St := bindP (pNum 8) fun l => bindP (pNum 4) fun t => bindP (pNum 8) fun p => bindP (pMay (k ≤ 2) Ch.zero pCh) fun c => bindP (pMay (k = 2) 0 (pNum 8)) fun n => bindP (pMay (k = 6) 0 (pNum 1)) fun s =>
    bindP (pMay (k = 8) (0, [], []) pCheck) fun x => pureP ⟨k, l, t, p, c, n, s, x.1, x.2.1, x.2.2⟩
theorem rec_rest (s : St) : pRec s = recRest (pIn 1 8 s).1 (pIn 1 8 s).2 := rfl
theorem Good.rest (k : Nat) : Good (recRest k) := (Good.num 8).bind fun _ => (Good.num 4).bind fun _ => (Good.num 8).bind fun _ => (Good.may Good.ch).bind fun _ => (Good.may (Good.num 8)).bind fun _ => (Good.may (Good.num 1)).bind fun _ => (Good.may Good.check).bind fun _ => Good.pure _
theorem kind_bad {s : St} (hs : s.e = 0) (h : (pIn 1 8 s).2.e ≠ 0) : (pIn 1 8 s).1 < 1 ∨ 8 < (pIn 1 8 s).1 := by
  rw [in_val]
  by_cases h1 : (pNum 1 s).2.e = 0
  · by_cases hb : (pNum 1 s).1 < 1 ∨ 8 < (pNum 1 s).1
    · exact hb
    · have e : pIn 1 8 s = pNum 1 s := by unfold pIn; rw [if_neg (fun h => hb h.2)]
      rw [e] at h
      exact absurd h1 h
  · rw [num_zero h1]
    omega
theorem kind_good {s : St} (h : (pIn 1 8 s).2.e = 0) : 1 ≤ (pIn 1 8 s).1 ∧ (pIn 1 8 s).1 ≤ 8 := by
  by_cases hb : (pNum 1 s).2.e = 0 ∧ ((pNum 1 s).1 < 1 ∨ 8 < (pNum 1 s).1)
  · have e : pIn 1 8 s = ((pNum 1 s).1, ⟨(pNum 1 s).2.l, 2⟩) := by unfold pIn; rw [if_pos hb]
    rw [e] at h
    cases h
  · have e : pIn 1 8 s = pNum 1 s := by unfold pIn; rw [if_neg hb]
    rw [e] at h ⊢
    by_cases h2 : (pNum 1 s).1 < 1 ∨ 8 < (pNum 1 s).1
    · exact absurd ⟨h, h2⟩ hb
    · omega
theorem cnt_some {α : Type} {p : St → α × St} (hp : Good p) (m : Nat) (s : St) : (pSome p (pIn 0 m s).1 (pIn 0 m s).2).2 = itS p (cntN m s) (pIn 0 m s).2 ∧ ((pSome p (pIn 0 m s).1 (pIn 0 m s).2).2.e = 0 → (pSome p (pIn 0 m s).1 (pIn 0 m s).2).1 = itL p (cntN m s) (pIn 0 m s).2) := by
  by_cases h : (pIn 0 m s).2.e = 0
  · have e : cntN m s = (pIn 0 m s).1 := by unfold cntN; rw [if_pos h]
    rw [e]
    exact some_it hp _ _
  · have e : cntN m s = 0 := by unfold cntN; rw [if_neg h]
    rw [e, (Good.some hp _).stick _ h]
    exact ⟨rfl, fun h2 => absurd h2 h⟩
/-- What the call 'record' leaves. -/
def RecDone (w w' : World) (g : Nat) (a : Option Addr) (len cap : Nat) (bs : List UInt8) (s : St) : Prop :=
  ∃ r va vb, RbAt w' g a len cap bs (pRec s).2 r va vb ∧ ((pRec s).2.e = 0 → r = (pRec s).1) ∧ w'.ownsRow w.heap.size 70 5 va r.ts.length (flatT r.ts) ∧ w'.ownsRow w.heap.size 72 2 vb r.ds.length (flatD r.ds) ∧ w.grownBy w' (some g)
end Go.Proofs.Ytgobegpmojkhaaa

/-
  The reader of package record: record, a kind that is none.
-/
namespace Go.Proofs.Ytgobegpmojkhaaa
open Go.RowKit
set_option linter.unusedVariables false

set_option maxRecDepth 4000 in
set_option maxHeartbeats 3200000 in
theorem brec_no (g : Nat) (a : Option Addr) (len cap : Nat) (bs : List UInt8) (s : St) (hs : s.e = 0) (w : World) (hk : (pIn 1 8 s).2.e ≠ 0) (h : RbAt w g a len cap bs s Rec.zero (.slice none 0 0) (.slice none 0 0)) :
    Calls Try.prog 53 #[.pointer (some ⟨g, 0, none⟩)] w fun e w' => e = .returned (.tuple #[]) ∧ RecDone w w' g a len cap bs s := by
  obtain ⟨kd, s0, h0⟩ : ∃ n s', pIn 1 8 s = (n, s') := ⟨_, _, rfl⟩
  obtain ⟨l, s1, h1⟩ : ∃ n s', pNum 8 s0 = (n, s') := ⟨_, _, rfl⟩
  obtain ⟨t, s2, h2⟩ : ∃ n s', pNum 4 s1 = (n, s') := ⟨_, _, rfl⟩
  obtain ⟨p, s3, h3⟩ : ∃ n s', pNum 8 s2 = (n, s') := ⟨_, _, rfl⟩
  have bt : t < 256 ^ 4 := by have := num_lt 4 s1; rw [h2] at this; exact this
  have ewt := conv_i64 t (by omega)
  have C0 := hide (fun r va vb x h => bkind_any g a len cap bs s r va vb x h)
  have C1 := hide (fun r va vb x h => bnum_any g a len cap bs s0 r va vb 8 x (by omega) h)
  have C2 := hide (fun r va vb x h => bnum_any g a len cap bs s1 r va vb 4 x (by omega) h)
  have C3 := hide (fun r va vb x h => bnum_any g a len cap bs s2 r va vb 8 x (by omega) h)
  rw [h0] at C0
  rw [h1] at C1
  rw [h2] at C2
  rw [h3] at C3
  have HGL := hide h.lt
  have hbad := kind_bad hs (by rw [h0] at hk; rw [h0]; exact hk)
  rw [h0] at hbad hk
  simp only at hbad hk
  have hst : (pRec s).2 = s0 := by
    rw [rec_rest, h0]
    exact (Good.rest kd).stick s0 hk
  have e1 : pNum 8 s0 = (0, s0) := by unfold pNum; rw [if_pos hk]
  rw [e1] at h1
  cases h1
  have e2 : pNum 4 s0 = (0, s0) := by unfold pNum; rw [if_pos hk]
  rw [e2] at h2
  cases h2
  have e3 : pNum 8 s0 = (0, s0) := by unfold pNum; rw [if_pos hk]
  rw [e3] at h3
  cases h3
  have hfin : Hid ((pRec s).2 = s0 ∧ s0.e ≠ 0) := ⟨hst, hk⟩
  have m1 : ((kd : Int) == 1) = false := by rw [beq_eq_false_iff_ne]; omega
  have m2 : ((kd : Int) == 2) = false := by rw [beq_eq_false_iff_ne]; omega
  have m6 : ((kd : Int) == 6) = false := by rw [beq_eq_false_iff_ne]; omega
  have m8 : ((kd : Int) == 8) = false := by rw [beq_eq_false_iff_ne]; omega
  clear hk hst e1 e2 e3 hbad hs bt h0
  have HB0 : Hid (RbAt w g a len cap bs s Rec.zero (.slice none 0 0) (.slice none 0 0) ∧ w.grownBy w (some g)) := ⟨h, grown_refl w _⟩
  clear h
  go_enter Try.func53, Try.ntmps53
  go_wp2_with fail
  refine (C0.out _ _ _ _ HB0.out.1).mono ?_
  rintro e x1 ⟨rfl, hb, hg⟩
  have HX : Hid (RbAt x1 g a len cap bs s0 Rec.zero (.slice none 0 0) (.slice none 0 0) ∧ w.grownBy x1 (some g)) := ⟨hb, grown_trans HB0.out.2 hg⟩
  clear hb hg HB0 C0
  obtain ⟨k, q, -, -⟩ := HX.out.1.row
  have c := q.cell 3 (.int .i64 0) rfl
  have f := q.free 3
  clear q
  have HB1 : Hid (RbAt (x1.setCell ⟨g, 3, none⟩ (.int .i64 ((kd : Nat) : Int))) g a len cap bs s0 ⟨kd, 0, 0, 0, Ch.zero, 0, 0, 0, [], []⟩ (.slice none 0 0) (.slice none 0 0) ∧ w.grownBy (x1.setCell ⟨g, 3, none⟩ (.int .i64 ((kd : Nat) : Int))) (some g)) := ⟨HX.out.1.setc 3 (.int .i64 ((kd : Nat) : Int)) ⟨kd, 0, 0, 0, Ch.zero, 0, 0, 0, [], []⟩ _ _ (fun _ => rfl), grown_set _ HX.out.2⟩
  clear HX
  go_wp2_with fail
  refine gen_calls (fun x => Hid (RbAt x g a len cap bs s0 ⟨kd, 0, 0, 0, Ch.zero, 0, 0, 0, [], []⟩ (.slice none 0 0) (.slice none 0 0) ∧ w.grownBy x (some g))) HB1 ?_
  clear HB1 c f
  intro y1 HB1
  refine (C1.out _ _ _ _ HB1.out.1).mono ?_
  rintro e x2 ⟨rfl, hb, hg⟩
  have HX : Hid (RbAt x2 g a len cap bs s0 ⟨kd, 0, 0, 0, Ch.zero, 0, 0, 0, [], []⟩ (.slice none 0 0) (.slice none 0 0) ∧ w.grownBy x2 (some g)) := ⟨hb, grown_trans HB1.out.2 hg⟩
  clear hb hg HB1 C1
  obtain ⟨k, q, -, -⟩ := HX.out.1.row
  have c := q.cell 4 (.int .u64 0) rfl
  have f := q.free 4
  clear q
  have HB2 : Hid (RbAt (x2.setCell ⟨g, 4, none⟩ (.int .u64 0)) g a len cap bs s0 ⟨kd, 0, 0, 0, Ch.zero, 0, 0, 0, [], []⟩ (.slice none 0 0) (.slice none 0 0) ∧ w.grownBy (x2.setCell ⟨g, 4, none⟩ (.int .u64 0)) (some g)) := ⟨HX.out.1.setc 4 (.int .u64 0) ⟨kd, 0, 0, 0, Ch.zero, 0, 0, 0, [], []⟩ _ _ (fun _ => rfl), grown_set _ HX.out.2⟩
  clear HX
  go_wp2_with fail
  refine gen_calls (fun x => Hid (RbAt x g a len cap bs s0 ⟨kd, 0, 0, 0, Ch.zero, 0, 0, 0, [], []⟩ (.slice none 0 0) (.slice none 0 0) ∧ w.grownBy x (some g))) HB2 ?_
  clear HB2 c f
  intro y2 HB2
  refine (C2.out _ _ _ _ HB2.out.1).mono ?_
  rintro e x3 ⟨rfl, hb, hg⟩
  have HX : Hid (RbAt x3 g a len cap bs s0 ⟨kd, 0, 0, 0, Ch.zero, 0, 0, 0, [], []⟩ (.slice none 0 0) (.slice none 0 0) ∧ w.grownBy x3 (some g)) := ⟨hb, grown_trans HB2.out.2 hg⟩
  clear hb hg HB2 C2
  obtain ⟨k, q, -, -⟩ := HX.out.1.row
  have c := q.cell 5 (.int .i64 0) rfl
  have f := q.free 5
  clear q
  have HB3 : Hid (RbAt (x3.setCell ⟨g, 5, none⟩ (.int .i64 0)) g a len cap bs s0 ⟨kd, 0, 0, 0, Ch.zero, 0, 0, 0, [], []⟩ (.slice none 0 0) (.slice none 0 0) ∧ w.grownBy (x3.setCell ⟨g, 5, none⟩ (.int .i64 0)) (some g)) := ⟨HX.out.1.setc 5 (.int .i64 0) ⟨kd, 0, 0, 0, Ch.zero, 0, 0, 0, [], []⟩ _ _ (fun _ => rfl), grown_set _ HX.out.2⟩
  clear HX
  go_wp2_with fail
  refine gen_calls (fun x => Hid (RbAt x g a len cap bs s0 ⟨kd, 0, 0, 0, Ch.zero, 0, 0, 0, [], []⟩ (.slice none 0 0) (.slice none 0 0) ∧ w.grownBy x (some g))) HB3 ?_
  clear HB3 c f
  intro y3 HB3
  refine (C3.out _ _ _ _ HB3.out.1).mono ?_
  rintro e x4 ⟨rfl, hb, hg⟩
  have HX : Hid (RbAt x4 g a len cap bs s0 ⟨kd, 0, 0, 0, Ch.zero, 0, 0, 0, [], []⟩ (.slice none 0 0) (.slice none 0 0) ∧ w.grownBy x4 (some g)) := ⟨hb, grown_trans HB3.out.2 hg⟩
  clear hb hg HB3 C3
  obtain ⟨k, q, -, -⟩ := HX.out.1.row
  have c := q.cell 6 (.int .u64 0) rfl
  have f := q.free 6
  have c3 := q.cell 3 (.int .i64 ((kd : Nat) : Int)) rfl
  clear q
  have HB4 : Hid (RbAt (x4.setCell ⟨g, 6, none⟩ (.int .u64 0)) g a len cap bs s0 ⟨kd, 0, 0, 0, Ch.zero, 0, 0, 0, [], []⟩ (.slice none 0 0) (.slice none 0 0) ∧ w.grownBy (x4.setCell ⟨g, 6, none⟩ (.int .u64 0)) (some g)) := ⟨HX.out.1.setc 6 (.int .u64 0) ⟨kd, 0, 0, 0, Ch.zero, 0, 0, 0, [], []⟩ _ _ (fun _ => rfl), grown_set _ HX.out.2⟩
  clear HX
  go_wp2
  go_end0
  refine ⟨rfl, ⟨kd, 0, 0, 0, Ch.zero, 0, 0, 0, [], []⟩, _, _, by rw [hfin.out.1]; exact HB4.out.1, fun h => absurd h (by rw [hfin.out.1]; exact hfin.out.2), World.ownsRow_nil _ _ _ _, World.ownsRow_nil _ _ _ _, HB4.out.2⟩
end Go.Proofs.Ytgobegpmojkhaaa

/-
  The reader of package record: record, kind 1.
-/
namespace Go.Proofs.Ytgobegpmojkhaaa
open Go.RowKit
set_option linter.unusedVariables false

set_option maxRecDepth 4000 in
set_option maxHeartbeats 3200000 in
theorem brec_1 (g : Nat) (a : Option Addr) (len cap : Nat) (bs : List UInt8) (s : St) (hs : s.e = 0) (w : World) (hk : (pIn 1 8 s).1 = 1) (h : RbAt w g a len cap bs s Rec.zero (.slice none 0 0) (.slice none 0 0)) :
    Calls Try.prog 53 #[.pointer (some ⟨g, 0, none⟩)] w fun e w' => e = .returned (.tuple #[]) ∧ RecDone w w' g a len cap bs s := by
  obtain ⟨kd, s0, h0⟩ : ∃ n s', pIn 1 8 s = (n, s') := ⟨_, _, rfl⟩
  obtain ⟨l, s1, h1⟩ : ∃ n s', pNum 8 s0 = (n, s') := ⟨_, _, rfl⟩
  obtain ⟨t, s2, h2⟩ : ∃ n s', pNum 4 s1 = (n, s') := ⟨_, _, rfl⟩
  obtain ⟨p, s3, h3⟩ : ∃ n s', pNum 8 s2 = (n, s') := ⟨_, _, rfl⟩
  have bt : t < 256 ^ 4 := by have := num_lt 4 s1; rw [h2] at this; exact this
  have ewt := conv_i64 t (by omega)
  have C0 := hide (fun r va vb x h => bkind_any g a len cap bs s r va vb x h)
  have C1 := hide (fun r va vb x h => bnum_any g a len cap bs s0 r va vb 8 x (by omega) h)
  have C2 := hide (fun r va vb x h => bnum_any g a len cap bs s1 r va vb 4 x (by omega) h)
  have C3 := hide (fun r va vb x h => bnum_any g a len cap bs s2 r va vb 8 x (by omega) h)
  rw [h0] at C0
  rw [h1] at C1
  rw [h2] at C2
  rw [h3] at C3
  have HGL := hide h.lt
  have hkd : kd = 1 := by rw [h0] at hk; exact hk
  subst hkd
  obtain ⟨ch, s4, h4⟩ : ∃ n s', pCh s3 = (n, s') := ⟨_, _, rfl⟩
  have C4 := hide (fun r va vb x h => bchange_any g a len cap bs s3 r va vb x h)
  rw [h4] at C4
  have hfin : Hid (pRec s = (⟨1, l, t, p, ch, 0, 0, 0, [], []⟩, s4)) := by
    show pRec s = _
    rw [rec_rest, h0]
    simp [recRest, bindP, pureP, pMay, h1, h2, h3, h4]
  clear h4
  clear hs hk bt h0 h1 h2 h3
  have HB0 : Hid (RbAt w g a len cap bs s Rec.zero (.slice none 0 0) (.slice none 0 0) ∧ w.grownBy w (some g)) := ⟨h, grown_refl w _⟩
  clear h
  go_enter Try.func53, Try.ntmps53
  go_wp2_with fail
  refine (C0.out _ _ _ _ HB0.out.1).mono ?_
  rintro e x1 ⟨rfl, hb, hg⟩
  have HX : Hid (RbAt x1 g a len cap bs s0 Rec.zero (.slice none 0 0) (.slice none 0 0) ∧ w.grownBy x1 (some g)) := ⟨hb, grown_trans HB0.out.2 hg⟩
  clear hb hg HB0 C0
  obtain ⟨k, q, -, -⟩ := HX.out.1.row
  have c := q.cell 3 (.int .i64 0) rfl
  have f := q.free 3
  clear q
  have HB1 : Hid (RbAt (x1.setCell ⟨g, 3, none⟩ (.int .i64 1)) g a len cap bs s0 ⟨1, 0, 0, 0, Ch.zero, 0, 0, 0, [], []⟩ (.slice none 0 0) (.slice none 0 0) ∧ w.grownBy (x1.setCell ⟨g, 3, none⟩ (.int .i64 1)) (some g)) := ⟨HX.out.1.setc 3 (.int .i64 1) ⟨1, 0, 0, 0, Ch.zero, 0, 0, 0, [], []⟩ _ _ (fun _ => rfl), grown_set _ HX.out.2⟩
  clear HX
  go_wp2_with fail
  refine gen_calls (fun x => Hid (RbAt x g a len cap bs s0 ⟨1, 0, 0, 0, Ch.zero, 0, 0, 0, [], []⟩ (.slice none 0 0) (.slice none 0 0) ∧ w.grownBy x (some g))) HB1 ?_
  clear HB1 c f
  intro y1 HB1
  refine (C1.out _ _ _ _ HB1.out.1).mono ?_
  rintro e x2 ⟨rfl, hb, hg⟩
  have HX : Hid (RbAt x2 g a len cap bs s1 ⟨1, 0, 0, 0, Ch.zero, 0, 0, 0, [], []⟩ (.slice none 0 0) (.slice none 0 0) ∧ w.grownBy x2 (some g)) := ⟨hb, grown_trans HB1.out.2 hg⟩
  clear hb hg HB1 C1
  obtain ⟨k, q, -, -⟩ := HX.out.1.row
  have c := q.cell 4 (.int .u64 0) rfl
  have f := q.free 4
  clear q
  have HB2 : Hid (RbAt (x2.setCell ⟨g, 4, none⟩ (.int .u64 ((l : Nat) : Int))) g a len cap bs s1 ⟨1, l, 0, 0, Ch.zero, 0, 0, 0, [], []⟩ (.slice none 0 0) (.slice none 0 0) ∧ w.grownBy (x2.setCell ⟨g, 4, none⟩ (.int .u64 ((l : Nat) : Int))) (some g)) := ⟨HX.out.1.setc 4 (.int .u64 ((l : Nat) : Int)) ⟨1, l, 0, 0, Ch.zero, 0, 0, 0, [], []⟩ _ _ (fun _ => rfl), grown_set _ HX.out.2⟩
  clear HX
  go_wp2_with fail
  refine gen_calls (fun x => Hid (RbAt x g a len cap bs s1 ⟨1, l, 0, 0, Ch.zero, 0, 0, 0, [], []⟩ (.slice none 0 0) (.slice none 0 0) ∧ w.grownBy x (some g))) HB2 ?_
  clear HB2 c f
  intro y2 HB2
  refine (C2.out _ _ _ _ HB2.out.1).mono ?_
  rintro e x3 ⟨rfl, hb, hg⟩
  have HX : Hid (RbAt x3 g a len cap bs s2 ⟨1, l, 0, 0, Ch.zero, 0, 0, 0, [], []⟩ (.slice none 0 0) (.slice none 0 0) ∧ w.grownBy x3 (some g)) := ⟨hb, grown_trans HB2.out.2 hg⟩
  clear hb hg HB2 C2
  obtain ⟨k, q, -, -⟩ := HX.out.1.row
  have c := q.cell 5 (.int .i64 0) rfl
  have f := q.free 5
  clear q
  have HB3 : Hid (RbAt (x3.setCell ⟨g, 5, none⟩ (.int .i64 (t : Int))) g a len cap bs s2 ⟨1, l, t, 0, Ch.zero, 0, 0, 0, [], []⟩ (.slice none 0 0) (.slice none 0 0) ∧ w.grownBy (x3.setCell ⟨g, 5, none⟩ (.int .i64 (t : Int))) (some g)) := ⟨HX.out.1.setc 5 (.int .i64 (t : Int)) ⟨1, l, t, 0, Ch.zero, 0, 0, 0, [], []⟩ _ _ (fun _ => rfl), grown_set _ HX.out.2⟩
  clear HX
  go_wp2_with fail
  refine gen_calls (fun x => Hid (RbAt x g a len cap bs s2 ⟨1, l, t, 0, Ch.zero, 0, 0, 0, [], []⟩ (.slice none 0 0) (.slice none 0 0) ∧ w.grownBy x (some g))) HB3 ?_
  clear HB3 c f
  intro y3 HB3
  refine (C3.out _ _ _ _ HB3.out.1).mono ?_
  rintro e x4 ⟨rfl, hb, hg⟩
  have HX : Hid (RbAt x4 g a len cap bs s3 ⟨1, l, t, 0, Ch.zero, 0, 0, 0, [], []⟩ (.slice none 0 0) (.slice none 0 0) ∧ w.grownBy x4 (some g)) := ⟨hb, grown_trans HB3.out.2 hg⟩
  clear hb hg HB3 C3
  obtain ⟨k, q, -, -⟩ := HX.out.1.row
  have c := q.cell 6 (.int .u64 0) rfl
  have f := q.free 6
  have c3 := q.cell 3 (.int .i64 1) rfl
  clear q
  have HB4 : Hid (RbAt (x4.setCell ⟨g, 6, none⟩ (.int .u64 ((p : Nat) : Int))) g a len cap bs s3 ⟨1, l, t, p, Ch.zero, 0, 0, 0, [], []⟩ (.slice none 0 0) (.slice none 0 0) ∧ w.grownBy (x4.setCell ⟨g, 6, none⟩ (.int .u64 ((p : Nat) : Int))) (some g)) := ⟨HX.out.1.setc 6 (.int .u64 ((p : Nat) : Int)) ⟨1, l, t, p, Ch.zero, 0, 0, 0, [], []⟩ _ _ (fun _ => rfl), grown_set _ HX.out.2⟩
  clear HX
  go_wp2_with fail
  refine gen_calls (fun x => Hid (RbAt x g a len cap bs s3 ⟨1, l, t, p, Ch.zero, 0, 0, 0, [], []⟩ (.slice none 0 0) (.slice none 0 0) ∧ w.grownBy x (some g))) HB4 ?_
  clear HB4 c f c3
  intro y4 HB4
  refine (C4.out _ _ _ _ HB4.out.1).mono ?_
  rintro e x5 ⟨rfl, hb, hg⟩
  have HX : Hid (RbAt x5 g a len cap bs s4 ⟨1, l, t, p, Ch.zero, 0, 0, 0, [], []⟩ (.slice none 0 0) (.slice none 0 0) ∧ w.grownBy x5 (some g)) := ⟨hb, grown_trans HB4.out.2 hg⟩
  have HTH := hide hb.there
  clear hb hg HB4 C4
  have HB5 : Hid (RbAt (x5.setCells g 7 (chA ch).toList) g a len cap bs s4 ⟨1, l, t, p, ch, 0, 0, 0, [], []⟩ (.slice none 0 0) (.slice none 0 0) ∧ w.grownBy (x5.setCells g 7 (chA ch).toList) (some g)) := ⟨HX.out.1.setch ch, grown_setch HX.out.2 ch⟩
  clear HX
  go_wp2_with (refine wpList_store_mid rfl 24 (.tmp 39) (.tmp 36) rfl g 7 (chA ch) rfl rfl HTH.out infoCh (chA_one _) ?_)
  go_end0
  refine ⟨rfl, ⟨1, l, t, p, ch, 0, 0, 0, [], []⟩, _, _, by rw [hfin.out]; exact HB5.out.1, fun _ => by rw [hfin.out], World.ownsRow_nil _ _ _ _, World.ownsRow_nil _ _ _ _, HB5.out.2⟩
end Go.Proofs.Ytgobegpmojkhaaa

/-
  The reader of package record: record, kind 2.
-/
namespace Go.Proofs.Ytgobegpmojkhaaa
open Go.RowKit
set_option linter.unusedVariables false

set_option maxRecDepth 4000 in
set_option maxHeartbeats 3200000 in
theorem brec_2 (g : Nat) (a : Option Addr) (len cap : Nat) (bs : List UInt8) (s : St) (hs : s.e = 0) (w : World) (hk : (pIn 1 8 s).1 = 2) (h : RbAt w g a len cap bs s Rec.zero (.slice none 0 0) (.slice none 0 0)) :
    Calls Try.prog 53 #[.pointer (some ⟨g, 0, none⟩)] w fun e w' => e = .returned (.tuple #[]) ∧ RecDone w w' g a len cap bs s := by
  obtain ⟨kd, s0, h0⟩ : ∃ n s', pIn 1 8 s = (n, s') := ⟨_, _, rfl⟩
  obtain ⟨l, s1, h1⟩ : ∃ n s', pNum 8 s0 = (n, s') := ⟨_, _, rfl⟩
  obtain ⟨t, s2, h2⟩ : ∃ n s', pNum 4 s1 = (n, s') := ⟨_, _, rfl⟩
  obtain ⟨p, s3, h3⟩ : ∃ n s', pNum 8 s2 = (n, s') := ⟨_, _, rfl⟩
  have bt : t < 256 ^ 4 := by have := num_lt 4 s1; rw [h2] at this; exact this
  have ewt := conv_i64 t (by omega)
  have C0 := hide (fun r va vb x h => bkind_any g a len cap bs s r va vb x h)
  have C1 := hide (fun r va vb x h => bnum_any g a len cap bs s0 r va vb 8 x (by omega) h)
  have C2 := hide (fun r va vb x h => bnum_any g a len cap bs s1 r va vb 4 x (by omega) h)
  have C3 := hide (fun r va vb x h => bnum_any g a len cap bs s2 r va vb 8 x (by omega) h)
  rw [h0] at C0
  rw [h1] at C1
  rw [h2] at C2
  rw [h3] at C3
  have HGL := hide h.lt
  have hkd : kd = 2 := by rw [h0] at hk; exact hk
  subst hkd
  obtain ⟨ch, s4, h4⟩ : ∃ n s', pCh s3 = (n, s') := ⟨_, _, rfl⟩
  have C4 := hide (fun r va vb x h => bchange_any g a len cap bs s3 r va vb x h)
  rw [h4] at C4
  obtain ⟨n, s5, h5⟩ : ∃ n s', pNum 8 s4 = (n, s') := ⟨_, _, rfl⟩
  have C5 := hide (fun r va vb x h => bnum_any g a len cap bs s4 r va vb 8 x (by omega) h)
  rw [h5] at C5
  have hfin : Hid (pRec s = (⟨2, l, t, p, ch, n, 0, 0, [], []⟩, s5)) := by
    show pRec s = _
    rw [rec_rest, h0]
    simp [recRest, bindP, pureP, pMay, h1, h2, h3, h4, h5]
  clear h4 h5
  clear hs hk bt h0 h1 h2 h3
  have HB0 : Hid (RbAt w g a len cap bs s Rec.zero (.slice none 0 0) (.slice none 0 0) ∧ w.grownBy w (some g)) := ⟨h, grown_refl w _⟩
  clear h
  go_enter Try.func53, Try.ntmps53
  go_wp2_with fail
  refine (C0.out _ _ _ _ HB0.out.1).mono ?_
  rintro e x1 ⟨rfl, hb, hg⟩
  have HX : Hid (RbAt x1 g a len cap bs s0 Rec.zero (.slice none 0 0) (.slice none 0 0) ∧ w.grownBy x1 (some g)) := ⟨hb, grown_trans HB0.out.2 hg⟩
  clear hb hg HB0 C0
  obtain ⟨k, q, -, -⟩ := HX.out.1.row
  have c := q.cell 3 (.int .i64 0) rfl
  have f := q.free 3
  clear q
  have HB1 : Hid (RbAt (x1.setCell ⟨g, 3, none⟩ (.int .i64 2)) g a len cap bs s0 ⟨2, 0, 0, 0, Ch.zero, 0, 0, 0, [], []⟩ (.slice none 0 0) (.slice none 0 0) ∧ w.grownBy (x1.setCell ⟨g, 3, none⟩ (.int .i64 2)) (some g)) := ⟨HX.out.1.setc 3 (.int .i64 2) ⟨2, 0, 0, 0, Ch.zero, 0, 0, 0, [], []⟩ _ _ (fun _ => rfl), grown_set _ HX.out.2⟩
  clear HX
  go_wp2_with fail
  refine gen_calls (fun x => Hid (RbAt x g a len cap bs s0 ⟨2, 0, 0, 0, Ch.zero, 0, 0, 0, [], []⟩ (.slice none 0 0) (.slice none 0 0) ∧ w.grownBy x (some g))) HB1 ?_
  clear HB1 c f
  intro y1 HB1
  refine (C1.out _ _ _ _ HB1.out.1).mono ?_
  rintro e x2 ⟨rfl, hb, hg⟩
  have HX : Hid (RbAt x2 g a len cap bs s1 ⟨2, 0, 0, 0, Ch.zero, 0, 0, 0, [], []⟩ (.slice none 0 0) (.slice none 0 0) ∧ w.grownBy x2 (some g)) := ⟨hb, grown_trans HB1.out.2 hg⟩
  clear hb hg HB1 C1
  obtain ⟨k, q, -, -⟩ := HX.out.1.row
  have c := q.cell 4 (.int .u64 0) rfl
  have f := q.free 4
  clear q
  have HB2 : Hid (RbAt (x2.setCell ⟨g, 4, none⟩ (.int .u64 ((l : Nat) : Int))) g a len cap bs s1 ⟨2, l, 0, 0, Ch.zero, 0, 0, 0, [], []⟩ (.slice none 0 0) (.slice none 0 0) ∧ w.grownBy (x2.setCell ⟨g, 4, none⟩ (.int .u64 ((l : Nat) : Int))) (some g)) := ⟨HX.out.1.setc 4 (.int .u64 ((l : Nat) : Int)) ⟨2, l, 0, 0, Ch.zero, 0, 0, 0, [], []⟩ _ _ (fun _ => rfl), grown_set _ HX.out.2⟩
  clear HX
  go_wp2_with fail
  refine gen_calls (fun x => Hid (RbAt x g a len cap bs s1 ⟨2, l, 0, 0, Ch.zero, 0, 0, 0, [], []⟩ (.slice none 0 0) (.slice none 0 0) ∧ w.grownBy x (some g))) HB2 ?_
  clear HB2 c f
  intro y2 HB2
  refine (C2.out _ _ _ _ HB2.out.1).mono ?_
  rintro e x3 ⟨rfl, hb, hg⟩
  have HX : Hid (RbAt x3 g a len cap bs s2 ⟨2, l, 0, 0, Ch.zero, 0, 0, 0, [], []⟩ (.slice none 0 0) (.slice none 0 0) ∧ w.grownBy x3 (some g)) := ⟨hb, grown_trans HB2.out.2 hg⟩
  clear hb hg HB2 C2
  obtain ⟨k, q, -, -⟩ := HX.out.1.row
  have c := q.cell 5 (.int .i64 0) rfl
  have f := q.free 5
  clear q
  have HB3 : Hid (RbAt (x3.setCell ⟨g, 5, none⟩ (.int .i64 (t : Int))) g a len cap bs s2 ⟨2, l, t, 0, Ch.zero, 0, 0, 0, [], []⟩ (.slice none 0 0) (.slice none 0 0) ∧ w.grownBy (x3.setCell ⟨g, 5, none⟩ (.int .i64 (t : Int))) (some g)) := ⟨HX.out.1.setc 5 (.int .i64 (t : Int)) ⟨2, l, t, 0, Ch.zero, 0, 0, 0, [], []⟩ _ _ (fun _ => rfl), grown_set _ HX.out.2⟩
  clear HX
  go_wp2_with fail
  refine gen_calls (fun x => Hid (RbAt x g a len cap bs s2 ⟨2, l, t, 0, Ch.zero, 0, 0, 0, [], []⟩ (.slice none 0 0) (.slice none 0 0) ∧ w.grownBy x (some g))) HB3 ?_
  clear HB3 c f
  intro y3 HB3
  refine (C3.out _ _ _ _ HB3.out.1).mono ?_
  rintro e x4 ⟨rfl, hb, hg⟩
  have HX : Hid (RbAt x4 g a len cap bs s3 ⟨2, l, t, 0, Ch.zero, 0, 0, 0, [], []⟩ (.slice none 0 0) (.slice none 0 0) ∧ w.grownBy x4 (some g)) := ⟨hb, grown_trans HB3.out.2 hg⟩
  clear hb hg HB3 C3
  obtain ⟨k, q, -, -⟩ := HX.out.1.row
  have c := q.cell 6 (.int .u64 0) rfl
  have f := q.free 6
  have c3 := q.cell 3 (.int .i64 2) rfl
  clear q
  have HB4 : Hid (RbAt (x4.setCell ⟨g, 6, none⟩ (.int .u64 ((p : Nat) : Int))) g a len cap bs s3 ⟨2, l, t, p, Ch.zero, 0, 0, 0, [], []⟩ (.slice none 0 0) (.slice none 0 0) ∧ w.grownBy (x4.setCell ⟨g, 6, none⟩ (.int .u64 ((p : Nat) : Int))) (some g)) := ⟨HX.out.1.setc 6 (.int .u64 ((p : Nat) : Int)) ⟨2, l, t, p, Ch.zero, 0, 0, 0, [], []⟩ _ _ (fun _ => rfl), grown_set _ HX.out.2⟩
  clear HX
  go_wp2_with fail
  refine gen_calls (fun x => Hid (RbAt x g a len cap bs s3 ⟨2, l, t, p, Ch.zero, 0, 0, 0, [], []⟩ (.slice none 0 0) (.slice none 0 0) ∧ w.grownBy x (some g))) HB4 ?_
  clear HB4 c f c3
  intro y4 HB4
  refine (C4.out _ _ _ _ HB4.out.1).mono ?_
  rintro e x5 ⟨rfl, hb, hg⟩
  have HX : Hid (RbAt x5 g a len cap bs s4 ⟨2, l, t, p, Ch.zero, 0, 0, 0, [], []⟩ (.slice none 0 0) (.slice none 0 0) ∧ w.grownBy x5 (some g)) := ⟨hb, grown_trans HB4.out.2 hg⟩
  have HTH := hide hb.there
  clear hb hg HB4 C4
  have HB5 : Hid (RbAt (x5.setCells g 7 (chA ch).toList) g a len cap bs s4 ⟨2, l, t, p, ch, 0, 0, 0, [], []⟩ (.slice none 0 0) (.slice none 0 0) ∧ w.grownBy (x5.setCells g 7 (chA ch).toList) (some g)) := ⟨HX.out.1.setch ch, grown_setch HX.out.2 ch⟩
  clear HX
  go_wp2_with (refine wpList_store_mid rfl 24 (.tmp 47) (.tmp 44) rfl g 7 (chA ch) rfl rfl HTH.out infoCh (chA_one _) ?_; refine gen_w (fun x => Hid (RbAt x g a len cap bs s4 ⟨2, l, t, p, ch, 0, 0, 0, [], []⟩ (.slice none 0 0) (.slice none 0 0) ∧ w.grownBy x (some g))) HB5 ?_; clear HB5 HTH; intro y5 HB5)
  refine (C5.out _ _ _ _ HB5.out.1).mono ?_
  rintro e x6 ⟨rfl, hb, hg⟩
  have HX : Hid (RbAt x6 g a len cap bs s5 ⟨2, l, t, p, ch, 0, 0, 0, [], []⟩ (.slice none 0 0) (.slice none 0 0) ∧ w.grownBy x6 (some g)) := ⟨hb, grown_trans HB5.out.2 hg⟩
  clear hb hg HB5 C5
  obtain ⟨k, q, -, -⟩ := HX.out.1.row
  have c := q.cell 12 (.int .u64 0) rfl
  have f := q.free 12
  clear q
  have HB6 : Hid (RbAt (x6.setCell ⟨g, 12, none⟩ (.int .u64 ((n : Nat) : Int))) g a len cap bs s5 ⟨2, l, t, p, ch, n, 0, 0, [], []⟩ (.slice none 0 0) (.slice none 0 0) ∧ w.grownBy (x6.setCell ⟨g, 12, none⟩ (.int .u64 ((n : Nat) : Int))) (some g)) := ⟨HX.out.1.setc 12 (.int .u64 ((n : Nat) : Int)) ⟨2, l, t, p, ch, n, 0, 0, [], []⟩ _ _ (fun _ => rfl), grown_set _ HX.out.2⟩
  clear HX
  go_wp2
  go_end0
  refine ⟨rfl, ⟨2, l, t, p, ch, n, 0, 0, [], []⟩, _, _, by rw [hfin.out]; exact HB6.out.1, fun _ => by rw [hfin.out], World.ownsRow_nil _ _ _ _, World.ownsRow_nil _ _ _ _, HB6.out.2⟩
end Go.Proofs.Ytgobegpmojkhaaa

/-
  The reader of package record: record, kind 3.
-/
namespace Go.Proofs.Ytgobegpmojkhaaa
open Go.RowKit
set_option linter.unusedVariables false

set_option maxRecDepth 4000 in
set_option maxHeartbeats 3200000 in
theorem brec_3 (g : Nat) (a : Option Addr) (len cap : Nat) (bs : List UInt8) (s : St) (hs : s.e = 0) (w : World) (hk : (pIn 1 8 s).1 = 3) (h : RbAt w g a len cap bs s Rec.zero (.slice none 0 0) (.slice none 0 0)) :
    Calls Try.prog 53 #[.pointer (some ⟨g, 0, none⟩)] w fun e w' => e = .returned (.tuple #[]) ∧ RecDone w w' g a len cap bs s := by
  obtain ⟨kd, s0, h0⟩ : ∃ n s', pIn 1 8 s = (n, s') := ⟨_, _, rfl⟩
  obtain ⟨l, s1, h1⟩ : ∃ n s', pNum 8 s0 = (n, s') := ⟨_, _, rfl⟩
  obtain ⟨t, s2, h2⟩ : ∃ n s', pNum 4 s1 = (n, s') := ⟨_, _, rfl⟩
  obtain ⟨p, s3, h3⟩ : ∃ n s', pNum 8 s2 = (n, s') := ⟨_, _, rfl⟩
  have bt : t < 256 ^ 4 := by have := num_lt 4 s1; rw [h2] at this; exact this
  have ewt := conv_i64 t (by omega)
  have C0 := hide (fun r va vb x h => bkind_any g a len cap bs s r va vb x h)
  have C1 := hide (fun r va vb x h => bnum_any g a len cap bs s0 r va vb 8 x (by omega) h)
  have C2 := hide (fun r va vb x h => bnum_any g a len cap bs s1 r va vb 4 x (by omega) h)
  have C3 := hide (fun r va vb x h => bnum_any g a len cap bs s2 r va vb 8 x (by omega) h)
  rw [h0] at C0
  rw [h1] at C1
  rw [h2] at C2
  rw [h3] at C3
  have HGL := hide h.lt
  have hkd : kd = 3 := by rw [h0] at hk; exact hk
  subst hkd
  have hfin : Hid (pRec s = (⟨3, l, t, p, Ch.zero, 0, 0, 0, [], []⟩, s3)) := by
    show pRec s = _
    rw [rec_rest, h0]
    simp [recRest, bindP, pureP, pMay, h1, h2, h3]
  clear hs hk bt h0 h1 h2 h3
  have HB0 : Hid (RbAt w g a len cap bs s Rec.zero (.slice none 0 0) (.slice none 0 0) ∧ w.grownBy w (some g)) := ⟨h, grown_refl w _⟩
  clear h
  go_enter Try.func53, Try.ntmps53
  go_wp2_with fail
  refine (C0.out _ _ _ _ HB0.out.1).mono ?_
  rintro e x1 ⟨rfl, hb, hg⟩
  have HX : Hid (RbAt x1 g a len cap bs s0 Rec.zero (.slice none 0 0) (.slice none 0 0) ∧ w.grownBy x1 (some g)) := ⟨hb, grown_trans HB0.out.2 hg⟩
  clear hb hg HB0 C0
  obtain ⟨k, q, -, -⟩ := HX.out.1.row
  have c := q.cell 3 (.int .i64 0) rfl
  have f := q.free 3
  clear q
  have HB1 : Hid (RbAt (x1.setCell ⟨g, 3, none⟩ (.int .i64 3)) g a len cap bs s0 ⟨3, 0, 0, 0, Ch.zero, 0, 0, 0, [], []⟩ (.slice none 0 0) (.slice none 0 0) ∧ w.grownBy (x1.setCell ⟨g, 3, none⟩ (.int .i64 3)) (some g)) := ⟨HX.out.1.setc 3 (.int .i64 3) ⟨3, 0, 0, 0, Ch.zero, 0, 0, 0, [], []⟩ _ _ (fun _ => rfl), grown_set _ HX.out.2⟩
  clear HX
  go_wp2_with fail
  refine gen_calls (fun x => Hid (RbAt x g a len cap bs s0 ⟨3, 0, 0, 0, Ch.zero, 0, 0, 0, [], []⟩ (.slice none 0 0) (.slice none 0 0) ∧ w.grownBy x (some g))) HB1 ?_
  clear HB1 c f
  intro y1 HB1
  refine (C1.out _ _ _ _ HB1.out.1).mono ?_
  rintro e x2 ⟨rfl, hb, hg⟩
  have HX : Hid (RbAt x2 g a len cap bs s1 ⟨3, 0, 0, 0, Ch.zero, 0, 0, 0, [], []⟩ (.slice none 0 0) (.slice none 0 0) ∧ w.grownBy x2 (some g)) := ⟨hb, grown_trans HB1.out.2 hg⟩
  clear hb hg HB1 C1
  obtain ⟨k, q, -, -⟩ := HX.out.1.row
  have c := q.cell 4 (.int .u64 0) rfl
  have f := q.free 4
  clear q
  have HB2 : Hid (RbAt (x2.setCell ⟨g, 4, none⟩ (.int .u64 ((l : Nat) : Int))) g a len cap bs s1 ⟨3, l, 0, 0, Ch.zero, 0, 0, 0, [], []⟩ (.slice none 0 0) (.slice none 0 0) ∧ w.grownBy (x2.setCell ⟨g, 4, none⟩ (.int .u64 ((l : Nat) : Int))) (some g)) := ⟨HX.out.1.setc 4 (.int .u64 ((l : Nat) : Int)) ⟨3, l, 0, 0, Ch.zero, 0, 0, 0, [], []⟩ _ _ (fun _ => rfl), grown_set _ HX.out.2⟩
  clear HX
  go_wp2_with fail
  refine gen_calls (fun x => Hid (RbAt x g a len cap bs s1 ⟨3, l, 0, 0, Ch.zero, 0, 0, 0, [], []⟩ (.slice none 0 0) (.slice none 0 0) ∧ w.grownBy x (some g))) HB2 ?_
  clear HB2 c f
  intro y2 HB2
  refine (C2.out _ _ _ _ HB2.out.1).mono ?_
  rintro e x3 ⟨rfl, hb, hg⟩
  have HX : Hid (RbAt x3 g a len cap bs s2 ⟨3, l, 0, 0, Ch.zero, 0, 0, 0, [], []⟩ (.slice none 0 0) (.slice none 0 0) ∧ w.grownBy x3 (some g)) := ⟨hb, grown_trans HB2.out.2 hg⟩
  clear hb hg HB2 C2
  obtain ⟨k, q, -, -⟩ := HX.out.1.row
  have c := q.cell 5 (.int .i64 0) rfl
  have f := q.free 5
  clear q
  have HB3 : Hid (RbAt (x3.setCell ⟨g, 5, none⟩ (.int .i64 (t : Int))) g a len cap bs s2 ⟨3, l, t, 0, Ch.zero, 0, 0, 0, [], []⟩ (.slice none 0 0) (.slice none 0 0) ∧ w.grownBy (x3.setCell ⟨g, 5, none⟩ (.int .i64 (t : Int))) (some g)) := ⟨HX.out.1.setc 5 (.int .i64 (t : Int)) ⟨3, l, t, 0, Ch.zero, 0, 0, 0, [], []⟩ _ _ (fun _ => rfl), grown_set _ HX.out.2⟩
  clear HX
  go_wp2_with fail
  refine gen_calls (fun x => Hid (RbAt x g a len cap bs s2 ⟨3, l, t, 0, Ch.zero, 0, 0, 0, [], []⟩ (.slice none 0 0) (.slice none 0 0) ∧ w.grownBy x (some g))) HB3 ?_
  clear HB3 c f
  intro y3 HB3
  refine (C3.out _ _ _ _ HB3.out.1).mono ?_
  rintro e x4 ⟨rfl, hb, hg⟩
  have HX : Hid (RbAt x4 g a len cap bs s3 ⟨3, l, t, 0, Ch.zero, 0, 0, 0, [], []⟩ (.slice none 0 0) (.slice none 0 0) ∧ w.grownBy x4 (some g)) := ⟨hb, grown_trans HB3.out.2 hg⟩
  clear hb hg HB3 C3
  obtain ⟨k, q, -, -⟩ := HX.out.1.row
  have c := q.cell 6 (.int .u64 0) rfl
  have f := q.free 6
  have c3 := q.cell 3 (.int .i64 3) rfl
  clear q
  have HB4 : Hid (RbAt (x4.setCell ⟨g, 6, none⟩ (.int .u64 ((p : Nat) : Int))) g a len cap bs s3 ⟨3, l, t, p, Ch.zero, 0, 0, 0, [], []⟩ (.slice none 0 0) (.slice none 0 0) ∧ w.grownBy (x4.setCell ⟨g, 6, none⟩ (.int .u64 ((p : Nat) : Int))) (some g)) := ⟨HX.out.1.setc 6 (.int .u64 ((p : Nat) : Int)) ⟨3, l, t, p, Ch.zero, 0, 0, 0, [], []⟩ _ _ (fun _ => rfl), grown_set _ HX.out.2⟩
  clear HX
  go_wp2
  go_end0
  refine ⟨rfl, ⟨3, l, t, p, Ch.zero, 0, 0, 0, [], []⟩, _, _, by rw [hfin.out]; exact HB4.out.1, fun _ => by rw [hfin.out], World.ownsRow_nil _ _ _ _, World.ownsRow_nil _ _ _ _, HB4.out.2⟩
end Go.Proofs.Ytgobegpmojkhaaa
