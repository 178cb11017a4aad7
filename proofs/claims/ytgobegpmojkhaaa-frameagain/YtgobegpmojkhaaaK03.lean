/-
  Texts that lean on one another, one behind the other: each opens with its own remark.
-/
import Derived.ArgAppend
import Derived.Deep.RegionLawGrows
import Derived.Laws.AppendOwn
import Derived.Laws.AppendOwnNone
import Derived.Lib.AppendStr
import Derived.Lib.AppendZerosOnto
import Derived.Test.YtgobegpmojkhaaaProg
import Derived.WalkSpells
import Derived.Laws.CopyOwn
import Derived.Room.AppendFits
import Derived.Test.YtgobegpmojkhaaaK00
import Derived.Test.YtgobegpmojkhaaaK02
import Derived.Test.YtgobegpmojkhaaaK01

/-
  The contracts of quaysideref06's num and text.
-/
namespace Go.Proofs.Ytgobegpmojkhaaa
open Go.RowKit
set_option linter.unusedVariables false

/-- Bytes as a text. -/
def mkS (l : List UInt8) : ByteArray := ⟨l.toArray⟩
theorem mkS_append (a b : List UInt8) : mkS a ++ mkS b = mkS (a ++ b) := mk_append a b
theorem mkS_size (l : List UInt8) : (mkS l).size = l.length := size_mk l

theorem run_add_s (a b : ByteArray) (h : a.size + b.size ≤ 100000) (x : World) : (binOp .add 9 (.string a) (.string b)).run Try.prog x = .ok (.string (a ++ b)) x := by
  simp [binOp, Op.stringOp]
  omega
theorem add_guard (x y : Operand) (a b : ByteArray) (w : World) : (eqGuard .add 9 x y (.string a) (.string b)).run Try.prog w = .ok () w := by
  simp [eqGuard]

set_option maxRecDepth 4000 in
set_option maxHeartbeats 400000 in
theorem num6_any (k n : Nat) (w : World) (hk : k ≤ 8) (hn : n < 18446744073709551616) :
    Calls Try.prog 61 #[.int .i64 (k : Int), .int .u64 (n : Int)] w fun e w' => e = .returned (.string (mkS (beB k n))) ∧ Below w.heap.size w w' := by
  have HN := hide (number_any k n w hk hn)
  go_enter Try.func61, Try.ntmps61
  go_wp2_with fail
  refine HN.out.mono ?_
  rintro e w1 ⟨rfl, hb⟩
  clear HN
  go_wp2
  go_ret
  exact ⟨rfl, hb⟩

set_option maxRecDepth 4000 in
set_option maxHeartbeats 400000 in
theorem text6_any (s : ByteArray) (w : World) (hs : s.size ≤ 255) :
    Calls Try.prog 62 #[.string s] w fun e w' => e = .returned (.string (mkS (textB s.data.toList))) ∧ Below w.heap.size w w' := by
  have HN := hide (num6_any 1 s.size w (by omega) (by omega))
  have ez : mkS (beB 1 s.size) ++ s = mkS (textB s.data.toList) := by
    have e1 : s = mkS s.data.toList := (mk_self s).symm
    have e2 : beB 1 s.size = [UInt8.ofNat s.size] := by
      unfold beB
      simp
    conv => lhs; rhs; rw [e1]
    rw [mkS_append, e2]
    unfold textB
    rw [data_length]
    rfl
  have HZ := hide ez
  have z1 := mkS_size (beB 1 s.size)
  rw [beB_length] at z1
  clear ez
  have hw : IntKind.u64.wrap (s.size : Int) = (s.size : Int) := by rw [IntKind.wrap_u64]; omega
  generalize mkS (beB 1 s.size) = t at *
  go_enter Try.func62, Try.ntmps62
  go_wp2_with fail
  refine HN.out.mono ?_
  rintro e w1 ⟨rfl, hb⟩
  clear HN
  go_wp2
  go_ret
  exact ⟨by rw [← HZ.out]; rfl, hb⟩
end Go.Proofs.Ytgobegpmojkhaaa

/-
  The contract of quaysideref06.Bytes, of records that are no checkpoint's.
-/
namespace Go.Proofs.Ytgobegpmojkhaaa
open Go.RowKit
set_option linter.unusedVariables false

theorem load_u64 {b j : Nat} (x : World) (v : Int) (h : x.cell? ⟨b, j, none⟩ = some (.int .u64 v)) : (Instr.loadAt 22 (.pointer (some ⟨b, j, none⟩))).run Try.prog x = .ok (.int .u64 v) x := by go_simp
theorem load_text {b j : Nat} (x : World) (s : ByteArray) (h : x.cell? ⟨b, j, none⟩ = some (.string s)) : (Instr.loadAt 9 (.pointer (some ⟨b, j, none⟩))).run Try.prog x = .ok (.string s) x := by go_simp

set_option maxRecDepth 8000 in
set_option maxHeartbeats 3200000 in
theorem bytes_end (r : Rec) (va vb : Value) (w : World) (hr : r.right) (hkc : r.k = 3 ∨ r.k = 4 ∨ r.k = 5 ∨ r.k = 7) (hin : RcIn w r va vb) :
    Calls Try.prog 45 #[.agg (rcA r va vb)] w fun e w' => e = .returned (.string (mkS (recB r))) ∧ Below w.heap.size w w' := by
  obtain ⟨kk, hk⟩ := Int.eq_ofNat_of_zero_le (show 0 ≤ r.k by have := hr.k1; omega)
  obtain ⟨tt, ht⟩ := Int.eq_ofNat_of_zero_le (show 0 ≤ r.t by by_cases h : r.k ≤ 6; (have := hr.own h; omega); (have := hr.none (by omega); omega))
  have hll := hr.lm
  unfold maxP at hll
  have hpp : r.p < 18446744073709551616 := by by_cases h : r.k ≤ 6; (have := hr.own h; omega); (have := hr.none (by omega); omega)
  have htt : tt < 18446744073709551616 := by by_cases h : r.k ≤ 6; (have := hr.own h; omega); (have := hr.none (by omega); omega)
  have hkk : kk ≤ 8 := by have := hr.k8; omega
  have HN1 := hide (fun w => num6_any 1 kk w (by omega) (by omega))
  have HN2 := hide (fun w => num6_any 8 r.l w (by omega) (by omega))
  have HN3 := hide (fun w => num6_any 4 tt w (by omega) htt)
  have HN4 := hide (fun w => num6_any 8 r.p w (by omega) hpp)
  have z1 := mkS_size (beB 1 kk)
  have z2 := mkS_size (beB 8 r.l)
  have z3 := mkS_size (beB 4 tt)
  have z4 := mkS_size (beB 8 r.p)
  rw [beB_length] at z1 z2 z3 z4
  have u1 : IntKind.u64.wrap (kk : Int) = (kk : Int) := by rw [IntKind.wrap_u64]; omega
  have u2 : IntKind.u64.wrap (tt : Int) = (tt : Int) := by rw [IntKind.wrap_u64]; omega
  have he : mkS (recB r) = mkS (beB 1 kk) ++ mkS (beB 8 r.l) ++ mkS (beB 4 tt) ++ mkS (beB 8 r.p) := by
    unfold recB mayB
    rw [if_neg (by omega), if_neg (by omega), if_neg (by omega), if_neg (by omega), hk, ht, Int.toNat_natCast, Int.toNat_natCast, mkS_append, mkS_append, mkS_append]
    simp only [List.append_nil, List.append_assoc]
  have HE := hide he
  clear he
  have m1 : ¬ (kk : Int) ≤ 2 := by omega
  have m2 : ((kk : Int) == 2) = false := by rw [beq_eq_false_iff_ne]; omega
  have m3 : ((kk : Int) == 6) = false := by rw [beq_eq_false_iff_ne]; omega
  have m4 : ((kk : Int) == 8) = false := by rw [beq_eq_false_iff_ne]; omega
  clear hr hkc hin hkk
  have HK0 := hide (Keeps.one w 28 (rcA r va vb))
  obtain ⟨A, hA⟩ : ∃ A, A = rcA r va vb := ⟨_, rfl⟩
  rw [← hA] at HK0 ⊢
  have HA := hide hA
  clear hA
  have HC : Hid (∀ y : World, RowAt y w.heap.size 28 A → y.cell? ⟨w.heap.size, 0, none⟩ = some (.int .i64 (kk : Int)) ∧ y.cell? ⟨w.heap.size, 1, none⟩ = some (.int .u64 (r.l : Int)) ∧ y.cell? ⟨w.heap.size, 2, none⟩ = some (.int .i64 (tt : Int)) ∧ y.cell? ⟨w.heap.size, 3, none⟩ = some (.int .u64 (r.p : Int))) := fun y h => by
    rw [HA.out] at h
    obtain ⟨a0, a1, a2, a3, -⟩ := rc_cells h
    rw [hk] at a0
    rw [ht] at a2
    exact ⟨a0, a1, a2, a3⟩
  generalize mkS (beB 1 kk) = N1 at *
  generalize mkS (beB 8 r.l) = N2 at *
  generalize mkS (beB 4 tt) = N3 at *
  generalize mkS (beB 8 r.p) = N4 at *
  go_enter Try.func45, Try.ntmps45
  go_wp2_with fail
  refine wp_region_in (fun x => Keeps w x [(w.heap.size, 28, A)]) (by kernel_rfl) (by kernel_rfl) HK0.out.drew ?_
  clear HK0
  repeat (first
    | go_big_quiet_skip
    | (refine wpQuiet_load rfl 3 (.tmp 8) rfl _ (.int .i64 (kk : Int)) rfl (fun y hy => load_i64 y _ (HC.out y hy.1.1).1) ?_; simp only [Act.put, Array.setIfInBounds, List.size_toArray, List.length_cons, List.length_nil, Nat.reduceAdd, Nat.reduceLT, ↓reduceDIte, List.set_toArray, List.set_cons_succ, List.set_cons_zero])
    | (refine wpQuiet_load rfl 22 (.tmp 12) rfl _ (.int .u64 (r.l : Int)) rfl (fun y hy => load_u64 y _ (HC.out y hy.1.1).2.1) ?_; simp only [Act.put, Array.setIfInBounds, List.size_toArray, List.length_cons, List.length_nil, Nat.reduceAdd, Nat.reduceLT, ↓reduceDIte, List.set_toArray, List.set_cons_succ, List.set_cons_zero])
    | (refine wpQuiet_load rfl 3 (.tmp 16) rfl _ (.int .i64 (tt : Int)) rfl (fun y hy => load_i64 y _ (HC.out y hy.1.1).2.2.1) ?_; simp only [Act.put, Array.setIfInBounds, List.size_toArray, List.length_cons, List.length_nil, Nat.reduceAdd, Nat.reduceLT, ↓reduceDIte, List.set_toArray, List.set_cons_succ, List.set_cons_zero])
    | (refine wpQuiet_load rfl 22 (.tmp 21) rfl _ (.int .u64 (r.p : Int)) rfl (fun y hy => load_u64 y _ (HC.out y hy.1.1).2.2.2) ?_; simp only [Act.put, Array.setIfInBounds, List.size_toArray, List.length_cons, List.length_nil, Nat.reduceAdd, Nat.reduceLT, ↓reduceDIte, List.set_toArray, List.set_cons_succ, List.set_cons_zero])
    | (refine wpQuiet_call rfl 61 #[.int .i64 1, .int .u64 (kk : Int)] (.string N1) ?_ (fun x hC => (HN1.out x).mono fun e x' h => ⟨h.1, hC.later h.2⟩) ?_; (intro x; go_simp); simp only [Act.put, Array.setIfInBounds, List.size_toArray, List.length_cons, List.length_nil, Nat.reduceAdd, Nat.reduceLT, ↓reduceDIte, List.set_toArray, List.set_cons_succ, List.set_cons_zero])
    | (refine wpQuiet_call rfl 61 #[.int .i64 8, .int .u64 (r.l : Int)] (.string N2) ?_ (fun x hC => (HN2.out x).mono fun e x' h => ⟨h.1, hC.later h.2⟩) ?_; (intro x; go_simp); simp only [Act.put, Array.setIfInBounds, List.size_toArray, List.length_cons, List.length_nil, Nat.reduceAdd, Nat.reduceLT, ↓reduceDIte, List.set_toArray, List.set_cons_succ, List.set_cons_zero])
    | (refine wpQuiet_call rfl 61 #[.int .i64 4, .int .u64 (tt : Int)] (.string N3) ?_ (fun x hC => (HN3.out x).mono fun e x' h => ⟨h.1, hC.later h.2⟩) ?_; (intro x; go_simp); simp only [Act.put, Array.setIfInBounds, List.size_toArray, List.length_cons, List.length_nil, Nat.reduceAdd, Nat.reduceLT, ↓reduceDIte, List.set_toArray, List.set_cons_succ, List.set_cons_zero])
    | (refine wpQuiet_call rfl 61 #[.int .i64 8, .int .u64 (r.p : Int)] (.string N4) ?_ (fun x hC => (HN4.out x).mono fun e x' h => ⟨h.1, hC.later h.2⟩) ?_; (intro x; go_simp); simp only [Act.put, Array.setIfInBounds, List.size_toArray, List.length_cons, List.length_nil, Nat.reduceAdd, Nat.reduceLT, ↓reduceDIte, List.set_toArray, List.set_cons_succ, List.set_cons_zero])
    | (refine wpQuiet_plain rfl (fun K hK => ?_); go_simp; refine hK _ ?_; clear hK K))
  refine wpQuiet_nil ?_
  intro w1 h1
  have c0 : w1.cell? ⟨w.heap.size, 0, none⟩ = some (.int .i64 (kk : Int)) := (HC.out w1 h1.1.1).1
  have HK1 := hide h1
  clear h1 HN1 HN2 HN3 HN4
  have d1 := HK1.out.2
  clear HK1
  go_wp2
  go_ret
  exact ⟨by rw [HE.out]; rfl, d1⟩

set_option maxRecDepth 8000 in
set_option maxHeartbeats 3200000 in
theorem bytes_save (r : Rec) (va vb : Value) (w : World) (hr : r.right) (hkc : r.k = 6) (hin : RcIn w r va vb) :
    Calls Try.prog 45 #[.agg (rcA r va vb)] w fun e w' => e = .returned (.string (mkS (recB r))) ∧ Below w.heap.size w w' := by
  obtain ⟨kk, hk⟩ := Int.eq_ofNat_of_zero_le (show 0 ≤ r.k by have := hr.k1; omega)
  obtain ⟨tt, ht⟩ := Int.eq_ofNat_of_zero_le (show 0 ≤ r.t by by_cases h : r.k ≤ 6; (have := hr.own h; omega); (have := hr.none (by omega); omega))
  have hll := hr.lm
  unfold maxP at hll
  have hpp : r.p < 18446744073709551616 := by by_cases h : r.k ≤ 6; (have := hr.own h; omega); (have := hr.none (by omega); omega)
  have htt : tt < 18446744073709551616 := by by_cases h : r.k ≤ 6; (have := hr.own h; omega); (have := hr.none (by omega); omega)
  have hkk : kk ≤ 8 := by have := hr.k8; omega
  have HN1 := hide (fun w => num6_any 1 kk w (by omega) (by omega))
  have HN2 := hide (fun w => num6_any 8 r.l w (by omega) (by omega))
  have HN3 := hide (fun w => num6_any 4 tt w (by omega) htt)
  have HN4 := hide (fun w => num6_any 8 r.p w (by omega) hpp)
  have z1 := mkS_size (beB 1 kk)
  have z2 := mkS_size (beB 8 r.l)
  have z3 := mkS_size (beB 4 tt)
  have z4 := mkS_size (beB 8 r.p)
  rw [beB_length] at z1 z2 z3 z4
  have u1 : IntKind.u64.wrap (kk : Int) = (kk : Int) := by rw [IntKind.wrap_u64]; omega
  have u2 : IntKind.u64.wrap (tt : Int) = (tt : Int) := by rw [IntKind.wrap_u64]; omega
  obtain ⟨ss, hs⟩ := Int.eq_ofNat_of_zero_le (show 0 ≤ r.s by have := hr.save hkc; omega)
  have hss : ss < 18446744073709551616 := by have := hr.save hkc; omega
  have HN5 := hide (fun w => num6_any 1 ss w (by omega) hss)
  have z5 := mkS_size (beB 1 ss)
  rw [beB_length] at z5
  have u3 : IntKind.u64.wrap (ss : Int) = (ss : Int) := by rw [IntKind.wrap_u64]; omega
  have he : mkS (recB r) = mkS (beB 1 kk) ++ mkS (beB 8 r.l) ++ mkS (beB 4 tt) ++ mkS (beB 8 r.p) ++ mkS (beB 1 ss) := by
    unfold recB mayB
    rw [if_neg (by omega), if_neg (by omega), if_pos hkc, if_neg (by omega), hk, ht, hs, Int.toNat_natCast, Int.toNat_natCast, Int.toNat_natCast, mkS_append, mkS_append, mkS_append, mkS_append]
    simp only [List.append_nil, List.append_assoc, List.nil_append]
  have HE := hide he
  clear he
  have H6 : Hid ((kk : Int) = 6) := show (kk : Int) = 6 by omega
  have HS := hide hs
  clear hr hkc hin hkk hs
  have HK0 := hide (Keeps.one w 28 (rcA r va vb))
  obtain ⟨A, hA⟩ : ∃ A, A = rcA r va vb := ⟨_, rfl⟩
  rw [← hA] at HK0 ⊢
  have HA := hide hA
  clear hA
  have HC : Hid (∀ y : World, RowAt y w.heap.size 28 A → y.cell? ⟨w.heap.size, 0, none⟩ = some (.int .i64 (kk : Int)) ∧ y.cell? ⟨w.heap.size, 1, none⟩ = some (.int .u64 (r.l : Int)) ∧ y.cell? ⟨w.heap.size, 2, none⟩ = some (.int .i64 (tt : Int)) ∧ y.cell? ⟨w.heap.size, 3, none⟩ = some (.int .u64 (r.p : Int))) := fun y h => by
    rw [HA.out] at h
    obtain ⟨a0, a1, a2, a3, -⟩ := rc_cells h
    rw [hk] at a0
    rw [ht] at a2
    exact ⟨a0, a1, a2, a3⟩
  generalize mkS (beB 1 kk) = N1 at *
  generalize mkS (beB 8 r.l) = N2 at *
  generalize mkS (beB 4 tt) = N3 at *
  generalize mkS (beB 8 r.p) = N4 at *
  go_enter Try.func45, Try.ntmps45
  go_wp2_with fail
  refine wp_region_in (fun x => Keeps w x [(w.heap.size, 28, A)]) (by kernel_rfl) (by kernel_rfl) HK0.out.drew ?_
  clear HK0
  repeat (first
    | go_big_quiet_skip
    | (refine wpQuiet_load rfl 3 (.tmp 8) rfl _ (.int .i64 (kk : Int)) rfl (fun y hy => load_i64 y _ (HC.out y hy.1.1).1) ?_; simp only [Act.put, Array.setIfInBounds, List.size_toArray, List.length_cons, List.length_nil, Nat.reduceAdd, Nat.reduceLT, ↓reduceDIte, List.set_toArray, List.set_cons_succ, List.set_cons_zero])
    | (refine wpQuiet_load rfl 22 (.tmp 12) rfl _ (.int .u64 (r.l : Int)) rfl (fun y hy => load_u64 y _ (HC.out y hy.1.1).2.1) ?_; simp only [Act.put, Array.setIfInBounds, List.size_toArray, List.length_cons, List.length_nil, Nat.reduceAdd, Nat.reduceLT, ↓reduceDIte, List.set_toArray, List.set_cons_succ, List.set_cons_zero])
    | (refine wpQuiet_load rfl 3 (.tmp 16) rfl _ (.int .i64 (tt : Int)) rfl (fun y hy => load_i64 y _ (HC.out y hy.1.1).2.2.1) ?_; simp only [Act.put, Array.setIfInBounds, List.size_toArray, List.length_cons, List.length_nil, Nat.reduceAdd, Nat.reduceLT, ↓reduceDIte, List.set_toArray, List.set_cons_succ, List.set_cons_zero])
    | (refine wpQuiet_load rfl 22 (.tmp 21) rfl _ (.int .u64 (r.p : Int)) rfl (fun y hy => load_u64 y _ (HC.out y hy.1.1).2.2.2) ?_; simp only [Act.put, Array.setIfInBounds, List.size_toArray, List.length_cons, List.length_nil, Nat.reduceAdd, Nat.reduceLT, ↓reduceDIte, List.set_toArray, List.set_cons_succ, List.set_cons_zero])
    | (refine wpQuiet_call rfl 61 #[.int .i64 1, .int .u64 (kk : Int)] (.string N1) ?_ (fun x hC => (HN1.out x).mono fun e x' h => ⟨h.1, hC.later h.2⟩) ?_; (intro x; go_simp); simp only [Act.put, Array.setIfInBounds, List.size_toArray, List.length_cons, List.length_nil, Nat.reduceAdd, Nat.reduceLT, ↓reduceDIte, List.set_toArray, List.set_cons_succ, List.set_cons_zero])
    | (refine wpQuiet_call rfl 61 #[.int .i64 8, .int .u64 (r.l : Int)] (.string N2) ?_ (fun x hC => (HN2.out x).mono fun e x' h => ⟨h.1, hC.later h.2⟩) ?_; (intro x; go_simp); simp only [Act.put, Array.setIfInBounds, List.size_toArray, List.length_cons, List.length_nil, Nat.reduceAdd, Nat.reduceLT, ↓reduceDIte, List.set_toArray, List.set_cons_succ, List.set_cons_zero])
    | (refine wpQuiet_call rfl 61 #[.int .i64 4, .int .u64 (tt : Int)] (.string N3) ?_ (fun x hC => (HN3.out x).mono fun e x' h => ⟨h.1, hC.later h.2⟩) ?_; (intro x; go_simp); simp only [Act.put, Array.setIfInBounds, List.size_toArray, List.length_cons, List.length_nil, Nat.reduceAdd, Nat.reduceLT, ↓reduceDIte, List.set_toArray, List.set_cons_succ, List.set_cons_zero])
    | (refine wpQuiet_call rfl 61 #[.int .i64 8, .int .u64 (r.p : Int)] (.string N4) ?_ (fun x hC => (HN4.out x).mono fun e x' h => ⟨h.1, hC.later h.2⟩) ?_; (intro x; go_simp); simp only [Act.put, Array.setIfInBounds, List.size_toArray, List.length_cons, List.length_nil, Nat.reduceAdd, Nat.reduceLT, ↓reduceDIte, List.set_toArray, List.set_cons_succ, List.set_cons_zero])
    | (refine wpQuiet_plain rfl (fun K hK => ?_); go_simp; refine hK _ ?_; clear hK K))
  refine wpQuiet_nil ?_
  intro w1 h1
  have c0 : w1.cell? ⟨w.heap.size, 0, none⟩ = some (.int .i64 (kk : Int)) := (HC.out w1 h1.1.1).1
  have HK1 := hide h1
  have c10 : w1.cell? ⟨w.heap.size, 10, none⟩ = some (.int .i64 (ss : Int)) := by have h := h1.1.1; rw [HA.out] at h; have h2 := (rc_cells h).2.2.2.2.2.1; rw [HS.out] at h2; exact h2
  clear h1 HN1 HN2 HN3 HN4
  rw [H6.out] at c0
  generalize mkS (beB 1 ss) = N5 at *
  go_wp2_with fail
  refine (HN5.out _).mono ?_
  rintro e w2 ⟨rfl, hb2⟩
  have d2 := (HK1.out.later hb2).2
  clear HK1 HN5 hb2
  go_wp2
  go_ret
  exact ⟨by rw [HE.out]; rfl, d2⟩

end Go.Proofs.Ytgobegpmojkhaaa

/-
  The contract of record.Right.
-/
namespace Go.Proofs.Ytgobegpmojkhaaa
open Go.RowKit
set_option linter.unusedVariables false

theorem used_fits {r : Rec} (h : r.fits) : r.used.fits := by
  refine ⟨?_, ?_, ?_, ?_, ?_⟩
  · show (if r.k ≤ 2 then r.c else Ch.zero).fits
    by_cases hk : r.k ≤ 2
    · rw [if_pos hk]
      exact h.c
    · rw [if_neg hk]
      exact zero_fits
  · show (if r.k = 8 then r.ts else []).length ≤ maxLen
    by_cases hk : r.k = 8
    · rw [if_pos hk]
      exact h.tl
    · rw [if_neg hk]
      exact Nat.zero_le _
  · show (if r.k = 8 then r.ds else []).length ≤ maxLen
    by_cases hk : r.k = 8
    · rw [if_pos hk]
      exact h.dl
    · rw [if_neg hk]
      exact Nat.zero_le _
  · show ∀ x ∈ (if r.k = 8 then r.ts else []), x.fits
    by_cases hk : r.k = 8
    · rw [if_pos hk]
      exact h.ts
    · rw [if_neg hk]
      exact fun x hx => nomatch hx
  · show ∀ x ∈ (if r.k = 8 then r.ds else []), x.fits
    by_cases hk : r.k = 8
    · rw [if_pos hk]
      exact h.ds
    · rw [if_neg hk]
      exact fun x hx => nomatch hx

theorem load_rc (y : World) (g : Nat) (cs : Array Value) (h : RowAt y g 28 cs) (hz : cs.size = 14) : (Instr.loadAt 28 (.pointer (some ⟨g, 0, none⟩))).run Try.prog y = .ok (.agg cs) y := by
  have h1 := run_loadAt_mid (P := Try.prog) y g 0 28 cs.toList _ (fun j v hv => by rw [Nat.zero_add]; exact h.cell j v (by rw [← Array.getElem?_toList]; exact hv)) Try.underlying28 rfl (by rw [infoRc, Array.length_toList, hz])
  rwa [Array.toArray_toList] at h1
set_option maxRecDepth 4000 in
set_option maxHeartbeats 3200000 in
theorem right_at (r : Rec) (va vb : Value) (w : World) (q : Bool) (Hq : Hid (q = true ↔ r.right)) (hf : r.fits) (hin : RcIn w r va vb) :
    Calls Try.prog 26 #[.agg (rcA r va vb)] w fun e w' => e = .returned (.bool q) ∧ Below w.heap.size w w' := by
  have HIN := hide hin
  have HFI := hide hf
  clear hin hf
  have HK0 := hide (Keeps.one w 28 (rcA r va vb))
  have HF : Hid (¬ r.right → q = false) := fun h => by
    cases q
    · rfl
    · exact absurd (Hq.out.1 rfl) h
  have HT : Hid (r.right → q = true) := fun h => Hq.out.2 h
  clear Hq
  by_cases l1 : (1 : Int) ≤ (r.l : Int)
  case neg =>
    obtain rfl := HF.out (fun h => by have := h.l1; omega)
    have l1f : ((1 : Int) ≤ (r.l : Int)) = False := eq_false l1
    clear HF HT HIN HFI l1
    go_enter Try.func26, Try.ntmps26
    go_wp2_with fail
    refine wp_region_in (fun y => Keeps w y [(w.heap.size, 28, rcA r va vb)]) (by kernel_rfl) (by kernel_rfl) HK0.out.drew ?_
    clear HK0
    repeat (first
      | go_big_quiet_skip
      | (refine wpQuiet_load rfl 22 (.tmp 3) rfl _ (.int .u64 (r.l : Int)) rfl (fun y hy => load_u64 y _ (hy.1.1.cell 1 _ rfl)) ?_; simp only [Act.put, Array.setIfInBounds, List.size_toArray, List.length_cons, List.length_nil, Nat.reduceAdd, Nat.reduceLT, ↓reduceDIte, List.set_toArray, List.set_cons_succ, List.set_cons_zero])
      | (refine wpQuiet_plain rfl (fun K hK => ?_); go_simp; refine hK _ ?_; clear hK K))
    refine wpQuiet_nil ?_
    intro w3 h3
    have d3 := h3.2
    clear h3
    go_wp2
    go_ret
    exact ⟨by rfl, d3⟩
  by_cases l2 : (r.l : Int) ≤ 4611686018427387904
  case neg =>
    obtain rfl := HF.out (fun h => by have := h.lm; unfold maxP at this; omega)
    have l2f : ((r.l : Int) ≤ 4611686018427387904) = False := eq_false l2
    clear HF HT HIN HFI l2
    go_enter Try.func26, Try.ntmps26
    go_wp2_with fail
    refine wp_region_in (fun y => Keeps w y [(w.heap.size, 28, rcA r va vb)]) (by kernel_rfl) (by kernel_rfl) HK0.out.drew ?_
    clear HK0
    repeat (first
      | go_big_quiet_skip
      | (refine wpQuiet_load rfl 22 (.tmp 3) rfl _ (.int .u64 (r.l : Int)) rfl (fun y hy => load_u64 y _ (hy.1.1.cell 1 _ rfl)) ?_; simp only [Act.put, Array.setIfInBounds, List.size_toArray, List.length_cons, List.length_nil, Nat.reduceAdd, Nat.reduceLT, ↓reduceDIte, List.set_toArray, List.set_cons_succ, List.set_cons_zero])
      | (refine wpQuiet_load rfl 22 (.tmp 7) rfl _ (.int .u64 (r.l : Int)) rfl (fun y hy => load_u64 y _ (hy.1.1.cell 1 _ rfl)) ?_; simp only [Act.put, Array.setIfInBounds, List.size_toArray, List.length_cons, List.length_nil, Nat.reduceAdd, Nat.reduceLT, ↓reduceDIte, List.set_toArray, List.set_cons_succ, List.set_cons_zero])
      | (refine wpQuiet_plain rfl (fun K hK => ?_); go_simp; refine hK _ ?_; clear hK K))
    refine wpQuiet_nil ?_
    intro w3 h3
    have d3 := h3.2
    clear h3
    go_wp2
    go_ret
    exact ⟨by rfl, d3⟩
  have l2t : ((r.l : Int) ≤ 4611686018427387904) = True := eq_true l2
  have HLM : Hid (1 ≤ r.l ∧ r.l ≤ maxP) := ⟨by omega, by unfold maxP; omega⟩
  clear l2
  by_cases hu : r.uses
  case neg =>
    obtain rfl := HF.out (fun h => hu (right_uses.1 h).2.2.1)
    have HU := hide (fun x h => uses_any r va vb x false (hide ⟨fun h => (nomatch h), fun h => absurd h hu⟩) h)
    clear HF HT HFI hu
    go_enter Try.func26, Try.ntmps26
    go_wp2_with fail
    refine wp_region_in (fun y => Keeps w y [(w.heap.size, 28, rcA r va vb)]) (by kernel_rfl) (by kernel_rfl) HK0.out.drew ?_
    clear HK0
    repeat (first
      | go_big_quiet_skip
      | (refine wpQuiet_load rfl 22 (.tmp 3) rfl _ (.int .u64 (r.l : Int)) rfl (fun y hy => load_u64 y _ (hy.1.1.cell 1 _ rfl)) ?_; simp only [Act.put, Array.setIfInBounds, List.size_toArray, List.length_cons, List.length_nil, Nat.reduceAdd, Nat.reduceLT, ↓reduceDIte, List.set_toArray, List.set_cons_succ, List.set_cons_zero])
      | (refine wpQuiet_load rfl 22 (.tmp 7) rfl _ (.int .u64 (r.l : Int)) rfl (fun y hy => load_u64 y _ (hy.1.1.cell 1 _ rfl)) ?_; simp only [Act.put, Array.setIfInBounds, List.size_toArray, List.length_cons, List.length_nil, Nat.reduceAdd, Nat.reduceLT, ↓reduceDIte, List.set_toArray, List.set_cons_succ, List.set_cons_zero])
      | (refine wpQuiet_load rfl 28 (.tmp 1) rfl _ (.agg (rcA r va vb)) rfl (fun y hy => load_rc y _ _ hy.1.1 rfl) ?_; simp only [Act.put, Array.setIfInBounds, List.size_toArray, List.length_cons, List.length_nil, Nat.reduceAdd, Nat.reduceLT, ↓reduceDIte, List.set_toArray, List.set_cons_succ, List.set_cons_zero])
      | (refine wpQuiet_call rfl 48 #[.agg (rcA r va vb)] (.bool false) ?_ (fun x hx => (HU.out x (HIN.out.below hx.2)).mono fun e x' h => ⟨h.1, hx.later h.2⟩) ?_; (intro x; go_simp); simp only [Act.put, Array.setIfInBounds, List.size_toArray, List.length_cons, List.length_nil, Nat.reduceAdd, Nat.reduceLT, ↓reduceDIte, List.set_toArray, List.set_cons_succ, List.set_cons_zero])
      | (refine wpQuiet_plain rfl (fun K hK => ?_); go_simp; refine hK _ ?_; clear hK K))
    refine wpQuiet_nil ?_
    intro w3 h3
    have d3 := h3.2
    clear h3
    go_wp2
    go_ret
    exact ⟨by rfl, d3⟩
  have HU := hide (fun x h => uses_any r va vb x true (hide ⟨fun _ => hu, fun _ => rfl⟩) h)
  have HX := hide (fun x h => used_any r va vb x ⟨hu.1, hu.2.1⟩ h)
  have HQ2 : Hid (q = true ↔ r = r.used) := by
    constructor
    · intro h
      by_cases hd : r = r.used
      · exact hd
      · rw [HF.out (fun h => hd (right_uses.1 h).2.2.2)] at h
        cases h
    · intro hd
      exact HT.out (right_uses.2 ⟨HLM.out.1, HLM.out.2, hu, hd⟩)
  have HS := hide (fun x h => same_at r r.used va vb (uV r va) (uV r vb) x q HQ2 HFI.out (used_fits HFI.out) h (uV_in h))
  clear HF HT HFI HQ2 hu HLM
  go_enter Try.func26, Try.ntmps26
  go_wp2_with fail
  refine wp_region_in (fun y => Keeps w y [(w.heap.size, 28, rcA r va vb)]) (by kernel_rfl) (by kernel_rfl) HK0.out.drew ?_
  clear HK0
  repeat (first
    | go_big_quiet_skip
    | (refine wpQuiet_load rfl 22 (.tmp 3) rfl _ (.int .u64 (r.l : Int)) rfl (fun y hy => load_u64 y _ (hy.1.1.cell 1 _ rfl)) ?_; simp only [Act.put, Array.setIfInBounds, List.size_toArray, List.length_cons, List.length_nil, Nat.reduceAdd, Nat.reduceLT, ↓reduceDIte, List.set_toArray, List.set_cons_succ, List.set_cons_zero])
    | (refine wpQuiet_load rfl 22 (.tmp 7) rfl _ (.int .u64 (r.l : Int)) rfl (fun y hy => load_u64 y _ (hy.1.1.cell 1 _ rfl)) ?_; simp only [Act.put, Array.setIfInBounds, List.size_toArray, List.length_cons, List.length_nil, Nat.reduceAdd, Nat.reduceLT, ↓reduceDIte, List.set_toArray, List.set_cons_succ, List.set_cons_zero])
    | (refine wpQuiet_load rfl 28 (.tmp 1) rfl _ (.agg (rcA r va vb)) rfl (fun y hy => load_rc y _ _ hy.1.1 rfl) ?_; simp only [Act.put, Array.setIfInBounds, List.size_toArray, List.length_cons, List.length_nil, Nat.reduceAdd, Nat.reduceLT, ↓reduceDIte, List.set_toArray, List.set_cons_succ, List.set_cons_zero])
    | (refine wpQuiet_call rfl 48 #[.agg (rcA r va vb)] (.bool true) ?_ (fun x hx => (HU.out x (HIN.out.below hx.2)).mono fun e x' h => ⟨h.1, hx.later h.2⟩) ?_; (intro x; go_simp); simp only [Act.put, Array.setIfInBounds, List.size_toArray, List.length_cons, List.length_nil, Nat.reduceAdd, Nat.reduceLT, ↓reduceDIte, List.set_toArray, List.set_cons_succ, List.set_cons_zero])
    | (refine wpQuiet_call rfl 50 #[.agg (rcA r va vb)] (.agg (rcA r.used (uV r va) (uV r vb))) ?_ (fun x hx => (HX.out x (HIN.out.below hx.2)).mono fun e x' h => ⟨h.1, hx.later h.2⟩) ?_; (intro x; go_simp); simp only [Act.put, Array.setIfInBounds, List.size_toArray, List.length_cons, List.length_nil, Nat.reduceAdd, Nat.reduceLT, ↓reduceDIte, List.set_toArray, List.set_cons_succ, List.set_cons_zero])
    | (refine wpQuiet_call rfl 49 #[.agg (rcA r va vb), .agg (rcA r.used (uV r va) (uV r vb))] (.bool q) ?_ (fun x hx => (HS.out x (HIN.out.below hx.2)).mono fun e x' h => ⟨h.1, hx.later h.2⟩) ?_; (intro x; go_simp); simp only [Act.put, Array.setIfInBounds, List.size_toArray, List.length_cons, List.length_nil, Nat.reduceAdd, Nat.reduceLT, ↓reduceDIte, List.set_toArray, List.set_cons_succ, List.set_cons_zero])
    | (refine wpQuiet_plain rfl (fun K hK => ?_); go_simp; refine hK _ ?_; clear hK K))
  refine wpQuiet_nil ?_
  intro w3 h3
  have d3 := h3.2
  clear h3
  go_wp2
  go_ret
  exact ⟨by rfl, d3⟩

/-- THE CONTRACT. -/
theorem right_any (r : Rec) (va vb : Value) (w : World) (hf : r.fits) (hin : RcIn w r va vb) :
    Calls Try.prog 26 #[.agg (rcA r va vb)] w fun e w' => e = .returned (.bool r.rightB) ∧ Below w.heap.size w w' :=
  right_at r va vb w _ (hide rightB_iff) hf hin
end Go.Proofs.Ytgobegpmojkhaaa

/-
  Bytes put behind bytes where there is no room: a new row. Of no program.
-/
namespace Go.Proofs.Ytgobegpmojkhaaa
open Go.RowKit
set_option linter.unusedVariables false

theorem isB_cells {w : World} {b off n : Nat} {bs : List UInt8} (h : IsB w (some ⟨b, off, none⟩) n bs) : ∀ j u, (toV bs)[j]? = some u → w.cell? ((⟨b, off, none⟩ : Addr).add j) = some u := by
  intro j u hu
  have hj : j < bs.length := by
    have := (List.getElem?_eq_some_iff.1 hu).1
    rwa [toV_length] at this
  obtain ⟨b', off', hb, _, hc⟩ := h.2 (by have := h.1; omega)
  cases hb
  rw [Addr.add_lit, hc j (by have := h.1; omega), ← toV_get bs j hj]
  exact hu

theorem wpList_append_b {P : Program} (w : World) {ops : Array Oper} {rest : List Oper} {o : Oper} {a : Act} {Q : Exit → Act → World → Prop}
    (hg : o.guard = none) (s x : Operand) (t : TypeId) (hop : o.op = Op.call { callee := Callee.builtin Builtin.append, args := #[s, x], argTypes := #[t, t] })
    (e : TypeId) (ht : P.underlying t = some (.slice e)) (hi : (P.info? e).map (fun i => (i.zero, i.size, i.bytes)) = some (some (.int .u8 0), 1, 1))
    (b off n cap : Nat) (xs : List UInt8) (hs : a.eval s = .slice (some ⟨b, off, none⟩) n cap) (hB : IsB w (some ⟨b, off, none⟩) n xs)
    (b2 off2 m c : Nat) (ys : List UInt8) (hx : a.eval x = .slice (some ⟨b2, off2, none⟩) m c) (hB2 : IsB w (some ⟨b2, off2, none⟩) m ys)
    (hfull : cap < n + m) (hz : n + m ≤ 140737488355328)
    (hK : ∀ v' w', w'.ownsRow w.heap.size e 1 v' (n + m) (toV (xs ++ ys)) → w.grownBy w' none → wpList P ops Q rest (a.put o.dst v') w') :
    wpList P ops Q (o :: rest) a w := by
  obtain ⟨i, hi0, hi1⟩ := Option.map_eq_some_iff.1 hi
  simp only [Prod.mk.injEq] at hi1
  refine wpList_append_grows w hg s x t hop e i (.int .u8 0) 1 1 ht hi0 hi1.1 hi1.2.1 hi1.2.2 rfl (by omega) (some ⟨b, off, none⟩) n cap (toV xs) hs (fun h => nomatch h) (by rw [toV_length, hB.1, Nat.mul_one]) ?_
    ⟨b2, off2, none⟩ m c (toV ys) hx (by rw [toV_length, hB2.1, Nat.mul_one]) (isB_cells hB2) ?_ hfull (by unfold maxLen; omega) (by omega) ?_
  · intro b' hb'
    cases hb'
    exact isB_cells hB
  · intro u hu
    obtain ⟨y, _, rfl⟩ := List.mem_map.1 hu
    rfl
  · intro v' w' h1 h2
    refine hK v' w' ?_ h2
    have e2 : toV xs ++ toV ys = toV (xs ++ ys) := by simp [toV]
    rw [← e2]
    exact h1

/-- .. as one step of a region that draws its order. -/
theorem step_append_b {P : Program} {ops : Array Oper} {o : Oper} {a : Act} {w : World} {K : Act → World → Prop} {Q : Exit → Act → World → Prop} {E : Prop}
    (hg : o.guard = none) (s x : Operand) (t : TypeId) (hop : o.op = Op.call { callee := Callee.builtin Builtin.append, args := #[s, x], argTypes := #[t, t] })
    (e : TypeId) (ht : P.underlying t = some (.slice e)) (hi : (P.info? e).map (fun i => (i.zero, i.size, i.bytes)) = some (some (.int .u8 0), 1, 1))
    (b off n cap : Nat) (xs : List UInt8) (hs : a.eval s = .slice (some ⟨b, off, none⟩) n cap) (hB : IsB w (some ⟨b, off, none⟩) n xs)
    (b2 off2 m c : Nat) (ys : List UInt8) (hx : a.eval x = .slice (some ⟨b2, off2, none⟩) m c) (hB2 : IsB w (some ⟨b2, off2, none⟩) m ys)
    (hfull : cap < n + m) (hz : n + m ≤ 140737488355328)
    (hK : ∀ v' w', w'.ownsRow w.heap.size e 1 v' (n + m) (toV (xs ++ ys)) → w.grownBy w' none → K (a.put o.dst v') w') :
    if Region.wanted o (yielded ops a.tmps) = true then Oper.wp P o a w K Q else E := by
  obtain ⟨i, hi0, hi1⟩ := Option.map_eq_some_iff.1 hi
  simp only [Prod.mk.injEq] at hi1
  refine step_append_grows hg s x t hop e i (.int .u8 0) 1 1 ht hi0 hi1.1 hi1.2.1 hi1.2.2 rfl (by omega) (some ⟨b, off, none⟩) n cap (toV xs) hs (fun h => nomatch h) (by rw [toV_length, hB.1, Nat.mul_one]) ?_
    ⟨b2, off2, none⟩ m c (toV ys) hx (by rw [toV_length, hB2.1, Nat.mul_one]) (isB_cells hB2) ?_ hfull (by unfold maxLen; omega) (by omega) ?_
  · intro b' hb'
    cases hb'
    exact isB_cells hB
  · intro u hu
    obtain ⟨y, _, rfl⟩ := List.mem_map.1 hu
    rfl
  · intro v' w' h1 h2
    refine hK v' w' ?_ h2
    have e2 : toV xs ++ toV ys = toV (xs ++ ys) := by simp [toV]
    rw [← e2]
    exact h1
end Go.Proofs.Ytgobegpmojkhaaa

/-
  Bytes, a text, zeros put behind bytes that the call owns. Of no program.
-/
namespace Go.Proofs.Ytgobegpmojkhaaa
open Go.RowKit
set_option linter.unusedVariables false

section
variable {P : Program} (w : World) {ops : Array Oper} {rest : List Oper} {o : Oper} {a : Act} {Q : Exit → Act → World → Prop}

theorem toV_oneCell (bs : List UInt8) : ∀ u ∈ toV bs, u.oneCell' = true := by
  intro u hu
  obtain ⟨y, _, rfl⟩ := List.mem_map.1 hu
  rfl

/-- append(s, x...), both of bytes, s the call's own. -/
theorem wpList_append_ob (hg : o.guard = none) (s x : Operand) (t : TypeId) (hop : o.op = Op.call { callee := Callee.builtin Builtin.append, args := #[s, x], argTypes := #[t, t] })
    (e : TypeId) (ht : P.underlying t = some (.slice e)) (hi : (P.info? e).map (fun i => (i.zero, i.size, i.bytes)) = some (some (.int .u8 0), 1, 1))
    (base : Nat) (v : Value) (n : Nat) (xs : List UInt8) (hs : a.eval s = v) (hown : w.ownsRow base e 1 v n (toV xs))
    (ad : Option Addr) (m c : Nat) (ys : List UInt8) (hx : a.eval x = .slice ad m c) (hB : IsB w ad m ys) (hnil : ad = none → c = 0) (hz : n + m ≤ 140737488355328) (hbase : base ≤ w.heap.size)
    (hK : ∀ v' w', w'.ownsRow base e 1 v' (n + m) (toV (xs ++ ys)) → w.grownBy w' v.ownBlock → wpList P ops Q rest (a.put o.dst v') w') :
    wpList P ops Q (o :: rest) a w := by
  obtain ⟨i, hi0, hi1⟩ := Option.map_eq_some_iff.1 hi
  simp only [Prod.mk.injEq] at hi1
  have hl := hB.1
  cases ad with
  | none =>
    obtain rfl : m = 0 := by
      by_cases hm : 0 < m
      · obtain ⟨b, off, h1, _⟩ := hB.2 hm
        cases h1
      · omega
    obtain rfl := List.eq_nil_of_length_eq_zero hl
    obtain rfl := hnil rfl
    refine wpList_append_own_none hg s x t hop base e i 1 ht hi0 v n (toV xs) hs hown hx (hK v w ?_ ⟨rfl, rfl, rfl, Nat.le_refl _, fun _ _ _ => rfl⟩)
    simpa using hown
  | some b =>
    refine wpList_append_own w hg s x t hop base e i (.int .u8 0) 1 1 ht hi0 hi1.1 hi1.2.1 hi1.2.2 rfl (by omega) v n (toV xs) hs hown b m c (toV ys) hx (by rw [toV_length, hl, Nat.mul_one]) ?_ (toV_oneCell ys) (by unfold maxLen; omega) (by omega) hbase ?_
    · intro j u hu
      have hj : j < ys.length := by
        have := (List.getElem?_eq_some_iff.1 hu).1
        rwa [toV_length] at this
      obtain ⟨b', off', hb, _, hc⟩ := hB.2 (by omega)
      cases hb
      rw [Addr.add_lit, hc j (by omega), ← toV_get ys j hj]
      exact hu
    · intro v' w' h1 h2 _
      rw [← toV_append] at h1
      exact hK v' w' h1 h2

/-- append(s, x...), x a text. -/
theorem wpList_append_os (hg : o.guard = none) (s x : Operand) (t u : TypeId) (hop : o.op = Op.call { callee := Callee.builtin Builtin.append, args := #[s, x], argTypes := #[t, u] })
    (e : TypeId) (ht : P.underlying t = some (.slice e)) (hu : P.underlying u = some .string) (hi : (P.info? e).map (fun i => (i.zero, i.size, i.bytes)) = some (some (.int .u8 0), 1, 1))
    (base : Nat) (v : Value) (n : Nat) (xs : List UInt8) (hs : a.eval s = v) (hown : w.ownsRow base e 1 v n (toV xs))
    (y : ByteArray) (hx : a.eval x = .string y) (hz : n + y.size ≤ 140737488355328) (hbase : base ≤ w.heap.size)
    (hK : ∀ v' w', w'.ownsRow base e 1 v' (n + y.size) (toV (xs ++ y.data.toList)) → w.grownBy w' v.ownBlock → wpList P ops Q rest (a.put o.dst v') w') :
    wpList P ops Q (o :: rest) a w := by
  obtain ⟨i, hi0, hi1⟩ := Option.map_eq_some_iff.1 hi
  simp only [Prod.mk.injEq] at hi1
  refine Lib.wpList_append_own_string w hg s x t u hop base e i ht hu hi0 hi1.1 hi1.2.1 hi1.2.2 v n (toV xs) hs hown y hx (by unfold maxLen; omega) hz hbase ?_
  intro v' w' h1 h2 _
  rw [toV_str] at h1
  exact hK v' w' h1 h2

theorem zeroCells_one (k : Nat) : Builtin.zeroCells (Value.int .u8 0).cells k = (zrow k).toArray := by
  apply Array.ext'
  have e : (Value.int IntKind.u8 0).cells = #[.int .u8 0] := rfl
  rw [e]
  unfold Builtin.zeroCells zrow
  simp only [Array.toList_map, Array.toList_range]
  apply List.ext_getElem
  · simp
  · intro i h1 h2
    simp [Nat.mod_one]
theorem toV_zeros (k : Nat) : zrow k = toV (List.replicate k 0) := by simp [zrow, toV]

theorem run_append_own_zeros (base : Nat) (t tn ty e : TypeId) (i : TypeInfo) (kn : IntKind) (ht : P.underlying t = some (.slice e)) (htn : P.underlying tn = some (.int kn)) (hi : P.info? e = some i) (hz : i.zero = some (.int .u8 0)) (hsize : i.size = 1) (hby : i.bytes = 1)
    (v : Value) (n : Nat) (xs : List Value) (hown : w.ownsRow base e 1 v n xs) (k : Nat) (h0 : 0 < k) (hbytes : n + k ≤ 140737488355328) (hbase : base ≤ w.heap.size) :
    ∃ v' w', (Builtin.append_ #[t, tn] ty #[v, .int .i64 (k : Int)]).run P w = .ok v' w' ∧ w'.ownsRow base e 1 v' (n + k) (xs ++ zrow k) ∧ w.grownBy w' v.ownBlock := by
  have h63 : n + k ≤ maxLen := by unfold maxLen; omega
  have hxl : xs.length = n := by simpa using hown.1
  have hlen : (xs ++ zrow k).length = (n + k) * 1 := by rw [List.length_append, hxl, zrow_length, Nat.mul_one]
  have grown : ∀ (old : Nat), ∀ (row : Option Nat),
      (w.drew.alloc (.cells (xs.toArray ++ (zrow k).toArray ++ (zrow (grownCap w (n + k) old e - (n + k))).toArray) e)).ownsRow base e 1
        (.slice (some ⟨w.heap.size, 0, none⟩) (n + k) (grownCap w (n + k) old e)) (n + k) (xs ++ zrow k) ∧
      w.grownBy (w.drew.alloc (.cells (xs.toArray ++ (zrow k).toArray ++ (zrow (grownCap w (n + k) old e - (n + k))).toArray) e)) row := by
    intro old row
    have hge := grownCap_ge w (n + k) old e
    have hcm : grownCap w (n + k) old e ≤ maxLen := grownCap_le_maxLen w (n + k) old e h63
    refine ⟨⟨hlen, .inr ⟨w.heap.size, _, _, rfl, hbase, heap_alloc_new w.drew _, hge, hcm, ?_, ?_⟩⟩, ⟨rfl, rfl, rfl, by simp, fun k hk _ => Below.heap_alloc w.drew _ k hk⟩⟩
    · simp only [Array.size_append, List.size_toArray, zrow_length, hxl]
      omega
    · simp only [Array.toList_append, List.append_assoc]
      rw [← List.append_assoc, ← hlen]
      exact List.take_left
  have hk : k ≠ 0 := by omega
  rcases hown.2 with ⟨rfl, rfl⟩ | ⟨g, cap, cur, rfl, hbg, hg, hnc, hcm, hcs, htake⟩
  · have hx : xs = [] := List.eq_nil_of_length_eq_zero hxl
    subst hx
    have hr := Lib.run_append_nil_zeros (P := P) w t tn ty e i (.int .u8 0) .i64 kn ht htn hi hz k h0 (by omega) (by omega) (by rw [hby]; omega)
    have hgr := grown 0 (Value.ownBlock (.slice none 0 0))
    rw [zeroCells_one, zeroCells_one] at hr
    simp only [Nat.zero_add, List.nil_append, Array.empty_append] at hgr ⊢
    exact ⟨_, _, hr, hgr.1, hgr.2⟩
  · by_cases hroom : n + k ≤ cap
    · have hcs' : cur.size = cap := by simpa using hcs
      have hw : IntKind.i64.wrap (k : Int) = k := by rw [IntKind.wrap_i64]; omega
      have h48i : ¬ (281474976710656 < (k : Int) * (i.bytes : Int)) := by rw [hby]; omega
      have hneg : ¬ ((k : Int) < 0) := by omega
      have hst := run_storeCells_at P g n e (zrow k) 0 cur w hg (by rw [zrow_length]; omega) (by intro u hu; rw [toV_zeros] at hu; exact toV_oneCell _ u hu)
      simp only [Nat.add_zero, zrow_length] at hst
      have hr : (Builtin.append_ #[t, tn] ty #[.slice (some ⟨g, 0, none⟩) n cap, .int .i64 (k : Int)]).run P w =
          .ok (.slice (some ⟨g, 0, none⟩) (n + k) cap) (w.setRow g (cur.toList.take n ++ zrow k ++ cur.toList.drop (n + k)).toArray) := by
        have h48i2 : ¬ (281474976710656 < (k : Int)) := by omega
        simp [Builtin.append_, run_underlying ht, run_underlying htn, sizeOf, typeInfo, zeroValue, hi, hz, asInt, asIntOf, hw, hk, hneg, hby, hsize, h48i2, hroom, zeroCells_one, Addr.add_lit, hst]
      refine ⟨_, _, hr, ⟨hlen, .inr ⟨g, cap, _, rfl, hbg, setRow_heap w g cur _ e _ hg, hroom, hcm, ?_, ?_⟩⟩, ⟨rfl, rfl, rfl, by simp, fun k _ hk => setRow_other w g k _ (fun e => hk (by simp [Value.ownBlock, e]))⟩⟩
      · simp only [List.size_toArray, List.length_append, List.length_take, List.length_drop, Array.length_toList, zrow_length]
        omega
      · have ht' : cur.toList.take n = xs := by simpa using htake
        rw [ht', ← hlen]
        exact List.take_left
    · have holds : ∀ j u, xs[j]? = some u → w.cell? ((⟨g, 0, none⟩ : Addr).add j) = some u := hown.cells (g := g) rfl
      have hfo := run_firstCells_some (P := P) w.drew i.size n ⟨g, 0, none⟩ n cap xs (by rw [hsize, hxl, Nat.mul_one]) (by simpa using holds)
      have hr := Lib.run_append_grow_zeros (P := P) w t tn ty e i (.int .u8 0) .i64 kn ht htn hi hz (some ⟨g, 0, none⟩) n cap xs hfo k h0 (by omega) (by omega) (by omega) (by rw [hby]; omega) (by rw [hby]; exact growslice_fits (by omega) (by omega))
      rw [zeroCells_one, zeroCells_one] at hr
      have hgr := grown cap (Value.ownBlock (.slice (some ⟨g, 0, none⟩) n cap))
      exact ⟨_, _, hr, hgr.1, hgr.2⟩

/-- append(s, make([]byte, k)...). -/
theorem wpList_append_oz (hg : o.guard = none) (s x : Operand) (t tn : TypeId) (hop : o.op = Op.call { callee := Callee.builtin Builtin.append, args := #[s, x], argTypes := #[t, tn] })
    (e : TypeId) (kn : IntKind) (ht : P.underlying t = some (.slice e)) (htn : P.underlying tn = some (.int kn)) (hi : (P.info? e).map (fun i => (i.zero, i.size, i.bytes)) = some (some (.int .u8 0), 1, 1))
    (base : Nat) (v : Value) (n : Nat) (xs : List UInt8) (hs : a.eval s = v) (hown : w.ownsRow base e 1 v n (toV xs))
    (k : Nat) (hx : a.eval x = .int .i64 (k : Int)) (h0 : 0 < k) (hz : n + k ≤ 140737488355328) (hbase : base ≤ w.heap.size)
    (hK : ∀ v' w', w'.ownsRow base e 1 v' (n + k) (toV (xs ++ List.replicate k 0)) → w.grownBy w' v.ownBlock → wpList P ops Q rest (a.put o.dst v') w') :
    wpList P ops Q (o :: rest) a w := by
  obtain ⟨i, hi0, hi1⟩ := Option.map_eq_some_iff.1 hi
  simp only [Prod.mk.injEq] at hi1
  obtain ⟨v', w', hr, h1, h2⟩ := run_append_own_zeros (P := P) w base t tn o.type e i kn ht htn hi0 hi1.1 hi1.2.1 hi1.2.2 v n (toV xs) hown k h0 hz hbase
  rw [toV_zeros, ← toV_append] at h1
  exact Lib.wpList_append_run w hg s x t tn hop v _ hs hx v' w' hr (hK v' w' h1 h2)
end
end Go.Proofs.Ytgobegpmojkhaaa

/-
  What the program says of bytes.
-/
namespace Go.Proofs.Ytgobegpmojkhaaa
open Go.RowKit

theorem info8 : (Try.prog.info? 5).map (fun i => (i.zero, i.size, i.bytes)) = some (some (.int .u8 0), 1, 1) := by kernel_rfl
theorem info8s : (Try.prog.info? 5).map (·.size) = some 1 := by kernel_rfl
end Go.Proofs.Ytgobegpmojkhaaa

/-
  The contracts of pack.Fits, pack.longer, pack.Put.
-/
namespace Go.Proofs.Ytgobegpmojkhaaa
open Go.RowKit
set_option linter.unusedVariables false

set_option maxRecDepth 4000 in
set_option maxHeartbeats 400000 in
theorem fits_no1 (k n : Int) (w : World) (h : k < 1) :
    Calls Try.prog 39 #[.int .i64 k, .int .u64 n] w fun e w' => e = .returned (.bool false) ∧ w = w' := by
  have h1 : ¬ (1 : Int) ≤ k := by omega
  go_enter Try.func39, Try.ntmps39
  go_wp2
  go_ret
  exact ⟨rfl, rfl⟩

set_option maxRecDepth 4000 in
set_option maxHeartbeats 400000 in
theorem fits_no2 (k n : Int) (w : World) (h : 8 < k) :
    Calls Try.prog 39 #[.int .i64 k, .int .u64 n] w fun e w' => e = .returned (.bool false) ∧ w = w' := by
  have h1 : (1 : Int) ≤ k := by omega
  have h2 : ¬ k ≤ 8 := by omega
  go_enter Try.func39, Try.ntmps39
  go_wp2
  go_ret
  exact ⟨rfl, rfl⟩

set_option maxRecDepth 4000 in
set_option maxHeartbeats 400000 in
theorem fits_yes (k n : Nat) (w : World) (h1 : 1 ≤ k) (h2 : k ≤ 8) (hn : n < 18446744073709551616) :
    Calls Try.prog 39 #[.int .i64 k, .int .u64 n] w fun e w' => e = .returned (.bool (decide (n < 256 ^ k))) ∧ w = w' := by
  have h3 : (1 : Int) ≤ (k : Int) := by omega
  have h4 : (k : Int) ≤ 8 := by omega
  go_enter Try.func39, Try.ntmps39
  go_wp2
  go_ret
  exact ⟨by rw [← shr_zero n k]; rfl, rfl⟩

theorem fits_true (k n : Nat) (w : World) (h1 : 1 ≤ k) (h2 : k ≤ 8) (hn : n < 256 ^ k) :
    Calls Try.prog 39 #[.int .i64 k, .int .u64 n] w fun e w' => e = .returned (.bool true) ∧ w = w' := by
  have F := fits_yes k n w h1 h2 (Nat.lt_of_lt_of_le hn (pow256_le k h2))
  rwa [decide_eq_true hn] at F

theorem fits_false (k n : Int) (w : World) (h : k < 1 ∨ 8 < k ∨ (256 : Int) ^ k.toNat ≤ n) (h0 : 0 ≤ n) (hn : n < 18446744073709551616) :
    Calls Try.prog 39 #[.int .i64 k, .int .u64 n] w fun e w' => e = .returned (.bool false) ∧ w = w' := by
  by_cases h1 : k < 1
  · exact fits_no1 k n w h1
  by_cases h2 : 8 < k
  · exact fits_no2 k n w h2
  obtain ⟨kn, rfl⟩ := Int.eq_ofNat_of_zero_le (show 0 ≤ k by omega)
  obtain ⟨nn, rfl⟩ := Int.eq_ofNat_of_zero_le h0
  have h3 : (256 : Int) ^ kn ≤ (nn : Int) := by rcases h with h | h | h <;> first | omega | exact h
  have h4 : ((256 ^ kn : Nat) : Int) ≤ (nn : Int) := by simpa using h3
  have F := fits_yes kn nn w (by omega) (by omega) (by omega)
  rwa [decide_eq_false (show ¬ nn < 256 ^ kn by omega)] at F


set_option maxRecDepth 4000 in
set_option maxHeartbeats 400000 in
theorem longer_any (a : Option Addr) (len cap m : Nat) (bs : List UInt8) (w : World) (hB : IsB w a len bs) (hl : len + m ≤ 281474976710656) :
    Calls Try.prog 40 #[.slice a len cap, .int .i64 m] w fun e w' => e = .returned (.slice (some ⟨w.heap.size, 0, none⟩) len (len + m)) ∧
      w'.ownsRow w.heap.size 5 1 (.slice (some ⟨w.heap.size, 0, none⟩) len (len + m)) len (toV bs) ∧ Below w.heap.size w w' := by
  have hmk := run_mk (P := Try.prog) 30 5 Try.underlying30 info8 len m hl
  have hrow : (w.alloc (.cells (zrow (len + m)).toArray 5)).heap[w.heap.size]? = some (.cells (zrow (len + m)).toArray 5 (0, 0)) := heap_alloc_new w _
  go_enter Try.func40, Try.ntmps40
  go_wp2_with (refine wpList_copy_splice rfl (.tmp 13) (.tmp 14) 30 30 rfl 5 Try.underlying30 info8s (some ⟨w.heap.size, 0, none⟩) a len (len + m) len cap rfl rfl w.heap.size 0 (zrow (len + m)) 5 hrow (toV bs) (by rw [toV_length, hB.1]; exact (Nat.min_self _).symm) (hB.hpos _ _) (by rw [toV_length, zrow_length, hB.1]; omega) (toV_one bs) w.heap.size w ((Below.refl _ _).alloc (Nat.le_refl _) _) (Nat.le_refl _) ?_)
  intro w2 HG hb2
  go_wp2
  go_ret
  exact ⟨rfl, owns_spliced hB.1 (Nat.le_refl _) hl HG.out, hb2⟩

set_option maxRecDepth 4000 in
set_option maxHeartbeats 400000 in
theorem put_ok (a : Option Addr) (len cap k n : Nat) (bs : List UInt8) (w : World) (hB : IsB w a len bs) (hl : len + 8 ≤ 281474976710656) (h1 : 1 ≤ k) (h2 : k ≤ 8) (hn : n < 256 ^ k) :
    Calls Try.prog 22 #[.slice a len cap, .int .i64 k, .int .u64 n] w fun e w' => e = .returned (.tuple #[.slice (some ⟨w.heap.size, 0, none⟩) (len + k) (len + k), .int .i64 0]) ∧
      w'.ownsRow w.heap.size 5 1 (.slice (some ⟨w.heap.size, 0, none⟩) (len + k) (len + k)) (len + k) (toV (bs ++ beB k n)) ∧ Below w.heap.size w w' := by
  have hn2 : n < 18446744073709551616 := Nat.lt_of_lt_of_le hn (pow256_le k h2)
  obtain ⟨i0, hi, hz0, hz1, hz2⟩ := info_parts info8
  go_enter Try.func22, Try.ntmps22
  go_wp2_with fail
  refine (fits_true k n _ h1 h2 hn).mono ?_
  rintro e w1 ⟨rfl, rfl⟩
  go_wp2_with fail
  refine (longer_any a len cap k bs _ hB (by omega)).mono ?_
  rintro e w1 ⟨rfl, hown, hbel⟩
  go_wp2
  go_loopw [8, 18] (fun v i wr => ∃ j : Nat, j ≤ k ∧ i = .int .i64 j ∧ v = .slice (some ⟨w.heap.size, 0, none⟩) (len + j) (len + k) ∧ wr.ownsRow w.heap.size 5 1 (.slice (some ⟨w.heap.size, 0, none⟩) (len + j) (len + k)) (len + j) (toV (bs ++ (beB k n).take j)) ∧ Below w.heap.size w wr) (fun _ i _ => k - (intOf i).toNat)
  case atStart => exact ⟨0, Nat.zero_le _, rfl, rfl, by simpa using hown, hbel⟩
  case round =>
    obtain ⟨j, hj, rfl, rfl, hownr, hbr⟩ := hrel
    clear hown hbel
    by_cases hlt : j < k
    · go_wp2_with (at_builtin; refine wpList_append_fits _ rfl (.tmp 21) (.tmp 30) 30 rfl w.heap.size 5 i0 1 Try.underlying30 hi hz1 w.heap.size (len + j) (len + k) _ rfl (hownr.alloc _) ⟨wr.heap.size, 0, none⟩ 1 1 [.int .u8 ((n : Int) / 2 ^ (8 * (k - 1 - j)) % 256)] rfl rfl (cell_one_new _ _ _) (by simp [Value.oneCell']) (by omega) ?_)
      intro w2 hown2 hgr
      rw [byte_at] at hown2
      have hown3 := put_row hown2 (beB_take k n j hlt)
      have hb3 : Below w.heap.size w w2 := (hbr.alloc hbr.size _).grown hgr (by simp; have := hbr.size; omega) (by simp)
      clear hown2 hgr hownr
      go_wp2
      go_roundw
      case rel => exact ⟨j + 1, by omega, by go_num, by simp [Nat.add_assoc], hown3, hb3⟩
      case measure => simp [intOf]; omega
    · go_wp2
      go_ret2
      obtain rfl : j = k := by omega
      exact ⟨rfl, by simpa [List.take_of_length_le, beB_length] using hownr, hbr⟩

set_option maxRecDepth 4000 in
set_option maxHeartbeats 400000 in
theorem put_no (a : Option Addr) (len cap : Nat) (k n : Int) (w : World) (h : k < 1 ∨ 8 < k ∨ (256 : Int) ^ k.toNat ≤ n) (h0 : 0 ≤ n) (hn : n < 18446744073709551616) :
    Calls Try.prog 22 #[.slice a len cap, .int .i64 k, .int .u64 n] w fun e w' => e = .returned (.tuple #[.slice none 0 0, .int .i64 1]) ∧ w = w' := by
  have H : Hid (k < 1 ∨ 8 < k ∨ (256 : Int) ^ k.toNat ≤ n) := h
  clear h
  go_enter Try.func22, Try.ntmps22
  go_wp2_with fail
  refine (fits_false k n _ H.out h0 hn).mono ?_
  rintro e w1 ⟨rfl, rfl⟩
  go_wp2
  go_ret2
  exact ⟨rfl, rfl⟩
end Go.Proofs.Ytgobegpmojkhaaa

/-
  The contract of pack.PutText.
-/
namespace Go.Proofs.Ytgobegpmojkhaaa
open Go.RowKit
set_option linter.unusedVariables false

set_option maxRecDepth 4000 in
set_option maxHeartbeats 400000 in
theorem puttext_no (a : Option Addr) (len cap : Nat) (s : ByteArray) (w : World) (h : 255 < (s.size : Int)) :
    Calls Try.prog 77 #[.slice a len cap, .string s] w fun e w' => e = .returned (.tuple #[.slice none 0 0, .int .i64 1]) ∧ w = w' := by
  go_enter Try.func77, Try.ntmps77
  go_wp2
  go_ret2
  exact ⟨rfl, rfl⟩

theorem text_row {w : World} {base g len cap : Nat} {e : TypeId} {bs : List UInt8} {s : ByteArray} (h : s.size ≤ 255)
    (hw : w.ownsRow base e 1 (.slice (some ⟨g, 0, none⟩) (len + 1 + s.size) cap) (len + 1 + s.size) (toV bs ++ Value.int .u8 (s.size : Int) :: Lib.strCells s)) :
    w.ownsRow base e 1 (.slice (some ⟨g, 0, none⟩) (len + (1 + s.size)) cap) (len + (1 + s.size)) (toV (bs ++ textB s.data.toList)) := by
  have e1 : toV (bs ++ textB s.data.toList) = toV bs ++ Value.int .u8 (s.size : Int) :: Lib.strCells s := by
    have e2 : ((UInt8.ofNat s.data.toList.length).toNat : Int) = (s.size : Int) := by
      rw [toNat_ofNat]
      simp
      omega
    simp only [toV, textB, List.map_append, List.map_cons, e2, Lib.strCells]
  rw [e1, ← Nat.add_assoc]
  exact hw

set_option maxRecDepth 4000 in
set_option maxHeartbeats 400000 in
theorem puttext_ok (a : Option Addr) (len cap : Nat) (bs : List UInt8) (s : ByteArray) (w : World) (hB : IsB w a len bs) (hl : len + 256 ≤ 281474976710656) (h : s.size ≤ 255) :
    Calls Try.prog 77 #[.slice a len cap, .string s] w fun e w' => e = .returned (.tuple #[.slice (some ⟨w.heap.size, 0, none⟩) (len + (1 + s.size)) (len + (1 + s.size)), .int .i64 0]) ∧
      w'.ownsRow w.heap.size 5 1 (.slice (some ⟨w.heap.size, 0, none⟩) (len + (1 + s.size)) (len + (1 + s.size))) (len + (1 + s.size)) (toV (bs ++ textB s.data.toList)) ∧ Below w.heap.size w w' := by
  obtain ⟨i0, hi, hz0, hz1, hz2⟩ := info_parts info8
  have h1 : ¬ 255 < (s.size : Int) := by omega
  go_enter Try.func77, Try.ntmps77
  go_wp2_with fail
  rw [show (1 : Int) + (s.size : Int) = ((1 + s.size : Nat) : Int) from by omega]
  refine (longer_any a len cap (1 + s.size) bs _ hB (by omega)).mono ?_
  rintro e w1 ⟨rfl, hown, hbel⟩
  go_wp2_with (at_builtin; refine wpList_append_fits _ rfl (.tmp 15) (.tmp 19) 30 rfl w.heap.size 5 i0 1 Try.underlying30 hi hz1 w.heap.size len (len + (1 + s.size)) _ rfl (hown.alloc _) ⟨w1.heap.size, 0, none⟩ 1 1 [.int .u8 (s.size : Int)] rfl rfl (cell_one_new _ _ _) (by simp [Value.oneCell']) (by omega) ?_)
  intro w2 hown2 hgr
  have hb2 : Below w.heap.size w w2 := (hbel.alloc hbel.size _).grown hgr (by simp; have := hbel.size; omega) (by simp)
  clear hgr hown
  go_wp2_with (at_builtin; refine Lib.wpList_append_fits_string _ rfl (.tmp 21) (.tmp 22) 30 9 rfl w.heap.size 5 i0 Try.underlying30 Try.underlying9 hi hz1 (some ⟨w.heap.size, 0, none⟩) (len + 1) (len + (1 + s.size)) _ rfl hown2 s rfl (by omega) (by omega) ?_)
  intro w3 hown3 hgr3
  have hb3 : Below w.heap.size w w3 := hb2.grown hgr3 hb2.size (by simp [Value.ownBlock])
  have hown4 := text_row (bs := bs) (s := s) h hown3
  clear hgr3 hown2 hown3
  go_wp2
  go_ret2
  exact ⟨by simp [Nat.add_assoc], hown4, hb3⟩
end Go.Proofs.Ytgobegpmojkhaaa

/-
  The writer of package record: a block that holds a row of bytes; number and text.
-/
namespace Go.Proofs.Ytgobegpmojkhaaa
open Go.RowKit
set_option linter.unusedVariables false

/-- A writer in memory, and the bytes that it holds. -/
def Wr (w : World) (g : Nat) (bs : List UInt8) : Prop := ∃ v, RowAt w g 77 #[v] ∧ w.ownsRow (g + 1) 5 1 v bs.length (toV bs)
/-- What a writer's step leaves: all ahead of it, and every struct beside it. -/
structure Mv (g : Nat) (w w' : World) : Prop where
  below : Below g w w'
  rows : ∀ k t cs, k ≠ g → t ≠ 5 → RowAt w k t cs → RowAt w' k t cs
theorem Mv.refl (g : Nat) (w : World) : Mv g w w := ⟨Below.refl _ _, fun _ _ _ _ _ h => h⟩
theorem Mv.trans {g : Nat} {w x y : World} (h : Mv g w x) (k : Mv g x y) : Mv g w y := ⟨h.below.trans k.below, fun a t cs h1 h2 h3 => k.rows a t cs h1 h2 (h.rows a t cs h1 h2 h3)⟩
theorem Mv.later {g : Nat} {w x : World} (hg : g ≤ w.heap.size) (h : Below w.heap.size w x) : Mv g w x := ⟨h.mono hg, fun k t cs _ _ hr => hr.later h⟩
theorem Wr.lt {w : World} {g : Nat} {bs : List UInt8} (h : Wr w g bs) : g < w.heap.size := by
  obtain ⟨v, hr, _⟩ := h
  exact hr.lt
theorem Wr.later {w x : World} {g : Nat} {bs : List UInt8} (h : Wr w g bs) (hb : Below w.heap.size w x) : Wr x g bs := by
  obtain ⟨v, hr, ho⟩ := h
  exact ⟨v, hr.later hb, ownsRow_below ho hb⟩
/-- The writer, and structs beside it. -/
def WK (g : Nat) (w x : World) (bs : List UInt8) (l : List (Nat × TypeId × Array Value)) : Prop := Wr x g bs ∧ Mv g w x ∧ Has x l
def Aside (g : Nat) (l : List (Nat × TypeId × Array Value)) : Prop := ∀ e ∈ l, e.1 ≠ g ∧ e.2.1 ≠ 5
theorem Has.moved {g : Nat} {x y : World} (h : Mv g x y) : ∀ {l : List (Nat × TypeId × Array Value)}, Aside g l → Has x l → Has y l
  | [], _, _ => trivial
  | e :: l, ha, hh => ⟨h.rows _ _ _ (ha e (by simp)).1 (ha e (by simp)).2 hh.1, Has.moved h (fun e he => ha e (by simp [he])) hh.2⟩
theorem WK.step {g : Nat} {w x y : World} {bs cs : List UInt8} {l : List (Nat × TypeId × Array Value)} (h : WK g w x bs l) (hw : Wr y g cs) (hm : Mv g x y) (ha : Aside g l) : WK g w y cs l := ⟨hw, h.2.1.trans hm, h.2.2.moved hm ha⟩

theorem wr_put {w1 w2 : World} {g n k : Nat} {v v' : Value} {bs cs : List UInt8} (hr : RowAt w1 g 77 #[v]) (hown : w1.ownsRow (g + 1) 5 1 v n (toV bs)) (hn : n = bs.length) (hk : k = cs.length)
    (ho : w2.ownsRow (g + 1) 5 1 v' (n + k) (toV (bs ++ cs))) (hg : w1.grownBy w2 v.ownBlock) :
    RowAt w2 g 77 #[v] ∧ Wr (w2.setCell ⟨g, 0, none⟩ v') g (bs ++ cs) ∧ Mv g w1 (w2.setCell ⟨g, 0, none⟩ v') := by
  have hne : ∀ j, j ≤ g → some j ≠ v.ownBlock := fun j hj e => by
    have := (hown.lt j e.symm).1
    omega
  have hr2 : RowAt w2 g 77 #[v] := (hg.block g hr.lt (hne g (Nat.le_refl _))).trans hr
  have hb : Below g w1 w2 := ⟨hg.os, hg.tape, hg.output, hg.size, fun j hj => hg.block j (by have := hr.lt; omega) (hne j (by omega))⟩
  refine ⟨hr2, ⟨v', hr2.set 0 v', ?_⟩, ⟨hb.setCell (Nat.le_refl _) _, fun j t cs' hj ht hrow => ?_⟩⟩
  · have := ownsRow_setCell_below ho (a := ⟨g, 0, none⟩) (by show g < g + 1; omega) v'
    rwa [show n + k = (bs ++ cs).length by rw [List.length_append]; omega] at this
  · refine RowAt.other ((hg.block j hrow.lt ?_).trans hrow) _ _ hj
    intro e
    obtain ⟨-, h2⟩ := hown
    rcases h2 with ⟨h2, _⟩ | ⟨g', cap, cur, h2, -, h4, -⟩
    · subst h2
      cases e
    · subst h2
      simp only [Value.ownBlock, Option.some.injEq] at e
      subst e
      have h5 := hrow.symm.trans h4
      simp only [Option.some.injEq, Obj.cells.injEq] at h5
      exact ht h5.2.1

theorem own_shape {w : World} {base n : Nat} {e : TypeId} {v : Value} {xs : List Value} (h : w.ownsRow base e 1 v n xs) : ∃ a c, v = .slice a n c := by
  rcases h.2 with ⟨h1, h2⟩ | ⟨g', cap, cur, h2, _⟩
  · exact ⟨none, 0, by rw [h1, h2]⟩
  · exact ⟨_, _, h2⟩
theorem textB_len (s : ByteArray) : (textB s.data.toList).length = 1 + s.size := by
  unfold textB
  rw [List.length_cons, data_length]
  omega
theorem isB_nil (w : World) : IsB w none 0 [] := ⟨rfl, fun h => absurd h (by omega)⟩

/-- A load, by its value. -/
theorem wpList_load_val {P : Program} {ops : Array Oper} {rest : List Oper} {o : Oper} {a : Act} {w : World} {Q : Exit → Act → World → Prop} (hw : Region.wanted o (yielded ops a.tmps) = true) (t : TypeId) (x : Operand) (ho : o.op = .load t x) (u v : Value) (hu : a.eval x = u) (hv : (Instr.loadAt t u).run P w = .ok v w)
    (h : wpList P ops Q rest (a.put o.dst v) w) : wpList P ops Q (o :: rest) a w :=
  wpList_val hw v (by unfold execOp; simp only [ho, hu, Sem.run_bind, hv, Result.andThen_ok, Sem.run_pure]) h
theorem load_b8 {b j : Nat} (x : World) (v : Value) (a : Option Addr) (n c : Nat) (hv : v = .slice a n c) (h : x.cell? ⟨b, j, none⟩ = some v) : (Instr.loadAt 30 (.pointer (some ⟨b, j, none⟩))).run Try.prog x = .ok v x := by
  subst hv
  go_simp

set_option maxRecDepth 4000 in
set_option maxHeartbeats 1600000 in
theorem wnum_any (g k n : Nat) (bs : List UInt8) (w : World) (h : Wr w g bs) (hk : 1 ≤ k ∧ k ≤ 8) (hn : n < 256 ^ k) (hl : bs.length ≤ 1000000) :
    Calls Try.prog 35 #[.pointer (some ⟨g, 0, none⟩), .int .i64 (k : Int), .int .u64 (n : Int)] w fun e w' => e = .returned (.tuple #[]) ∧ Wr w' g (bs ++ beB k n) ∧ Mv g w w' := by
  obtain ⟨v, hr, ho⟩ := h
  obtain ⟨a, c, hv⟩ := own_shape ho
  have HP := hide (put_ok none 0 0 k n [] w (isB_nil w) (by omega) hk.1 hk.2 hn)
  simp only [Nat.zero_add, List.nil_append] at HP
  have HV := hide hv
  have HR := hide hr
  have HO := hide ho
  have HLT := hide hr.lt
  have HKK := hide hk
  have HL := hide hl
  clear hr ho hk hl hv
  go_enter Try.func35, Try.ntmps35
  go_wp2_with fail
  refine HP.out.mono ?_
  rintro e w1 ⟨rfl, hrow, hb⟩
  have HR1 := hide (HR.out.later hb)
  have HO1 := hide (ownsRow_below HO.out hb)
  have HM1 := hide (Mv.later (Nat.le_of_lt HR.out.lt) hb)
  have HB1 := hide (hrow.isB (beB_length k n))
  have HS := hide hb.size
  clear hb hrow HP HR HO
  obtain ⟨m, hm⟩ : ∃ m, m = bs.length := ⟨_, rfl⟩
  rw [← hm] at HO1 HL HV
  have HM := hide hm
  clear hm
  generalize w.heap.size = b at *
  go_wp2_with (first | (refine wpList_load_val rfl 30 (.tmp 17) rfl _ v rfl (load_b8 w1 v a m c HV.out (HR1.out.cell 0 v rfl)) ?_) | (at_builtin; refine wpList_append_ob _ rfl (.tmp 18) (.tmp 19) 30 rfl 5 Try.underlying30 info8 (g + 1) v m bs rfl HO1.out (some ⟨b, 0, none⟩) (k) (k) (beB k n) rfl HB1.out (fun h => nomatch h) (by have := HL.out; have := HKK.out.2; omega) (by have := HR1.out.lt; omega) ?_))
  intro v' w2 ho2 hg2
  obtain ⟨hr2, hw2, hm2⟩ := wr_put HR1.out HO1.out HM.out (beB_length k n).symm ho2 hg2
  obtain ⟨a2, c2, rfl⟩ := own_shape ho2
  have HW := hide hw2
  have HMV := hide (HM1.out.trans hm2)
  have f0 := hr2.free 0
  have d2 := hr2.cell 0 _ rfl
  clear ho2 hg2 hr2 hw2 hm2 HR1 HO1 HM1 HB1
  go_wp2
  go_end0
  exact ⟨rfl, HW.out, HMV.out⟩

set_option maxRecDepth 4000 in
set_option maxHeartbeats 1600000 in
theorem wtext_any (g : Nat) (s : ByteArray) (bs : List UInt8) (w : World) (h : Wr w g bs) (hk : s.size ≤ 255) (hl : bs.length ≤ 1000000) :
    Calls Try.prog 58 #[.pointer (some ⟨g, 0, none⟩), .string s] w fun e w' => e = .returned (.tuple #[]) ∧ Wr w' g (bs ++ textB s.data.toList) ∧ Mv g w w' := by
  obtain ⟨v, hr, ho⟩ := h
  obtain ⟨a, c, hv⟩ := own_shape ho
  have HP := hide (puttext_ok none 0 0 [] s w (isB_nil w) (by omega) hk)
  simp only [Nat.zero_add, List.nil_append] at HP
  have HV := hide hv
  have HR := hide hr
  have HO := hide ho
  have HLT := hide hr.lt
  have HKK := hide hk
  have HL := hide hl
  clear hr ho hk hl hv
  go_enter Try.func58, Try.ntmps58
  go_wp2_with fail
  refine HP.out.mono ?_
  rintro e w1 ⟨rfl, hrow, hb⟩
  have HR1 := hide (HR.out.later hb)
  have HO1 := hide (ownsRow_below HO.out hb)
  have HM1 := hide (Mv.later (Nat.le_of_lt HR.out.lt) hb)
  have HB1 := hide (hrow.isB (textB_len s))
  have HS := hide hb.size
  clear hb hrow HP HR HO
  obtain ⟨m, hm⟩ : ∃ m, m = bs.length := ⟨_, rfl⟩
  rw [← hm] at HO1 HL HV
  have HM := hide hm
  clear hm
  generalize w.heap.size = b at *
  go_wp2_with (first | (refine wpList_load_val rfl 30 (.tmp 14) rfl _ v rfl (load_b8 w1 v a m c HV.out (HR1.out.cell 0 v rfl)) ?_) | (at_builtin; refine wpList_append_ob _ rfl (.tmp 15) (.tmp 16) 30 rfl 5 Try.underlying30 info8 (g + 1) v m bs rfl HO1.out (some ⟨b, 0, none⟩) (1 + s.size) (1 + s.size) (textB s.data.toList) rfl HB1.out (fun h => nomatch h) (by have := HL.out; have := HKK.out; omega) (by have := HR1.out.lt; omega) ?_))
  intro v' w2 ho2 hg2
  obtain ⟨hr2, hw2, hm2⟩ := wr_put HR1.out HO1.out HM.out (textB_len s).symm ho2 hg2
  obtain ⟨a2, c2, rfl⟩ := own_shape ho2
  have HW := hide hw2
  have HMV := hide (HM1.out.trans hm2)
  have f0 := hr2.free 0
  have d2 := hr2.cell 0 _ rfl
  clear ho2 hg2 hr2 hw2 hm2 HR1 HO1 HM1 HB1
  go_wp2
  go_end0
  exact ⟨rfl, HW.out, HMV.out⟩

end Go.Proofs.Ytgobegpmojkhaaa

/-
  The writer of package record: change, txns, dirty.
-/
namespace Go.Proofs.Ytgobegpmojkhaaa
open Go.RowKit
set_option linter.unusedVariables false

theorem conv_nat (i : Int) (h0 : 0 ≤ i) (h1 : i < 18446744073709551616) : IntKind.u64.wrap i = (i.toNat : Int) := by
  rw [IntKind.wrap_u64]
  omega

theorem ch_bounds {c : Ch} (h : c.right) : 0 ≤ c.k ∧ c.k ≤ 255 ∧ 0 ≤ c.pg ∧ c.pg ≤ 31 ∧ (0 ≤ c.sl ∧ c.sl ≤ 7) ∧ c.o.size ≤ 20 ∧ c.n.size ≤ 20 := by
  obtain ⟨⟨h1, h2, h3, h4, h5, h6⟩, h7⟩ := h
  have hk : 1 ≤ c.k ∧ c.k ≤ 3 := by
    unfold Ch.kindOk at h7
    omega
  exact ⟨by omega, by omega, by omega, by omega, by omega, by omega, by omega⟩
/-- Rows whose numbers fit their widths. -/
def txFit (x : Tx) : Prop := 0 ≤ x.t ∧ x.t ≤ 1048575 ∧ 0 ≤ x.s ∧ x.s ≤ 3 ∧ x.f < 18446744073709551616 ∧ x.l < 18446744073709551616 ∧ x.n < 18446744073709551616
def diFit (d : Di) : Prop := 0 ≤ d.p ∧ d.p ≤ 31 ∧ d.r < 18446744073709551616
theorem txsB_len (ts : List Tx) : (txsB ts).length = 29 * ts.length := by
  induction ts with
  | nil => rfl
  | cons x ts ih =>
    have e : (txB x).length = 29 := by simp only [txB, List.length_append, beB_length]
    rw [txsB, List.flatMap_cons, List.length_append, e, List.length_cons]
    rw [txsB] at ih
    omega
theorem disB_len (ts : List Di) : (disB ts).length = 10 * ts.length := by
  induction ts with
  | nil => rfl
  | cons x ts ih =>
    have e : (diB x).length = 10 := by simp only [diB, List.length_append, beB_length]
    rw [disB, List.flatMap_cons, List.length_append, e, List.length_cons]
    rw [disB] at ih
    omega
theorem take_more {α : Type} (xs : List α) (j : Nat) (z : α) (h : j < xs.length) : xs.take (j + 1) = xs.take j ++ [xs.getD j z] := by
  rw [List.take_add_one, List.getElem?_eq_getElem h, List.getD_eq_getElem?_getD, List.getElem?_eq_getElem h]
  rfl
theorem txsB_more (xs : List Tx) (j : Nat) (h : j < xs.length) : txsB (xs.take (j + 1)) = txsB (xs.take j) ++ txB (xs.getD j Tx.zero) := by
  rw [take_more xs j Tx.zero h, txsB, List.flatMap_append]
  simp [txsB]
theorem disB_more (xs : List Di) (j : Nat) (h : j < xs.length) : disB (xs.take (j + 1)) = disB (xs.take j) ++ diB (xs.getD j Di.zero) := by
  rw [take_more xs j Di.zero h, disB, List.flatMap_append]
  simp [disB]

set_option maxRecDepth 4000 in
set_option maxHeartbeats 1600000 in
theorem wchange_any (g : Nat) (c : Ch) (bs : List UInt8) (w : World) (h : Wr w g bs) (hc : c.right) (hl : bs.length ≤ 100000) :
    Calls Try.prog 36 #[.pointer (some ⟨g, 0, none⟩), .agg (chA c)] w fun e w' => e = .returned (.tuple #[]) ∧ Wr w' g (bs ++ chB c) ∧ Mv g w w' := by
  obtain ⟨r1, r2, r3, r4, r5, r6, r7⟩ := ch_bounds hc
  have e1 := conv_nat c.k (by omega) (by omega)
  have e2 := conv_nat c.pg (by omega) (by omega)
  have e3 := conv_nat c.sl (by omega) (by omega)
  have HG := hide h.lt
  have hA : Hid (Aside g [(w.heap.size, 24, chA c)]) := fun e he => by
    simp only [List.mem_cons, List.not_mem_nil, or_false] at he
    subst he
    exact ⟨by show w.heap.size ≠ g; have := HG.out; omega, by show (24 : TypeId) ≠ 5; decide⟩
  have hb0 := (Below.refl w.heap.size w).alloc (Nat.le_refl _) (.cells (chA c) 24)
  have HK : Hid (WK g w (w.alloc (.cells (chA c) 24)) bs [(w.heap.size, 24, chA c)]) := ⟨h.later hb0, Mv.later (Nat.le_of_lt HG.out) hb0, RowAt.new _ _ _, trivial⟩
  clear hb0 h
  have W1 := hide (fun bs w h hl => wnum_any g 1 c.k.toNat bs w h (by omega) (by omega) hl)
  have W2 := hide (fun bs w h hl => wnum_any g 2 c.pg.toNat bs w h (by omega) (by omega) hl)
  have W3 := hide (fun bs w h hl => wnum_any g 1 c.sl.toNat bs w h (by omega) (by omega) hl)
  have W4 := hide (fun bs w h hl => wtext_any g c.o bs w h (by omega) hl)
  have W5 := hide (fun bs w h hl => wtext_any g c.n bs w h (by omega) hl)
  rw [← e1] at W1
  rw [← e2] at W2
  rw [← e3] at W3
  have HL := hide hl
  have HSZ : Hid (c.o.size ≤ 255 ∧ c.n.size ≤ 255) := ⟨by omega, by omega⟩
  clear r1 r2 r3 r4 r5 r6 r7 e1 e2 e3 hc hl
  have d0 := HK.out.2.2.1.cell 0 (.int .i64 c.k) rfl
  go_enter Try.func36, Try.ntmps36
  go_wp2_with fail
  refine (W1.out bs _ HK.out.1 (by have := HL.out; omega)).mono ?_
  rintro e w1 ⟨rfl, hw, hm⟩
  have HK1 := hide (HK.out.step hw hm hA.out)
  clear hw hm d0 HK W1
  have d1 := HK1.out.2.2.1.cell 1 (.int .i64 c.pg) rfl
  go_wp2_with fail
  refine (W2.out (bs ++ beB 1 c.k.toNat) _ HK1.out.1 (by have := HL.out; have := HSZ.out; simp only [List.length_append, beB_length]; omega)).mono ?_
  rintro e w2 ⟨rfl, hw, hm⟩
  have HK2 := hide (HK1.out.step hw hm hA.out)
  clear hw hm d1 HK1 W2
  have d2 := HK2.out.2.2.1.cell 2 (.int .i64 c.sl) rfl
  go_wp2_with fail
  refine (W3.out ((bs ++ beB 1 c.k.toNat) ++ beB 2 c.pg.toNat) _ HK2.out.1 (by have := HL.out; have := HSZ.out; simp only [List.length_append, beB_length]; omega)).mono ?_
  rintro e w3 ⟨rfl, hw, hm⟩
  have HK3 := hide (HK2.out.step hw hm hA.out)
  clear hw hm d2 HK2 W3
  have d3 := HK3.out.2.2.1.cell 3 (.string c.o) rfl
  go_wp2_with fail
  refine (W4.out (((bs ++ beB 1 c.k.toNat) ++ beB 2 c.pg.toNat) ++ beB 1 c.sl.toNat) _ HK3.out.1 (by have := HL.out; have := HSZ.out; simp only [List.length_append, beB_length]; omega)).mono ?_
  rintro e w4 ⟨rfl, hw, hm⟩
  have HK4 := hide (HK3.out.step hw hm hA.out)
  clear hw hm d3 HK3 W4
  have d4 := HK4.out.2.2.1.cell 4 (.string c.n) rfl
  go_wp2_with fail
  refine (W5.out ((((bs ++ beB 1 c.k.toNat) ++ beB 2 c.pg.toNat) ++ beB 1 c.sl.toNat) ++ textB c.o.data.toList) _ HK4.out.1 (by have := HL.out; have := HSZ.out; simp only [List.length_append, beB_length, textB_len]; omega)).mono ?_
  rintro e w5 ⟨rfl, hw, hm⟩
  have HK5 := hide (HK4.out.step hw hm hA.out)
  clear hw hm d4 HK4 W5
  go_wp2
  go_end0
  refine ⟨rfl, ?_, HK5.out.2.1⟩
  have h := HK5.out.1
  simp only [List.append_assoc] at h
  exact h
end Go.Proofs.Ytgobegpmojkhaaa

/-
  The writer of package record: txns.
-/
namespace Go.Proofs.Ytgobegpmojkhaaa
open Go.RowKit
set_option linter.unusedVariables false

set_option maxRecDepth 4000 in
set_option maxHeartbeats 3200000 in
theorem wtxns_any (g : Nat) (va : Value) (xs : List Tx) (bs : List UInt8) (w0 w : World) (h : Wr w g bs) (hg : w0.heap.size ≤ g) (hb : Below w0.heap.size w0 w) (hin : TxIn w0 va xs) (hx : ∀ i, i < xs.length → txFit (xs.getD i Tx.zero)) (hn : xs.length ≤ 16) (hl : bs.length ≤ 10000) :
    Calls Try.prog 37 #[.pointer (some ⟨g, 0, none⟩), va] w fun e w' => e = .returned (.tuple #[]) ∧ Wr w' g (bs ++ (beB 1 xs.length ++ txsB xs)) ∧ Mv g w w' := by
  have HIN := hide (hin.below hb)
  have HFX := hide hx
  have HBL : Hid (∀ b, b < w0.heap.size → b < g) := fun b h => Nat.lt_of_lt_of_le h hg
  obtain ⟨a, cap, rfl, hrow⟩ := hin
  have HRW := hide hrow
  have HW0 := hide hb
  have e1 := conv_nat (xs.length : Int) (by omega) (by omega)
  rw [Int.toNat_natCast] at e1
  have W0 := hide (wnum_any g 1 xs.length bs w h (by omega) (by omega) (by omega))
  have HL := hide hl
  have HN := hide hn
  have HWR := hide h
  clear hx hrow hb hg hl h
  go_enter Try.func37, Try.ntmps37
  go_wp2_with fail
  refine W0.out.mono ?_
  rintro e w1 ⟨rfl, hw, hm⟩
  have HK1 : Hid (WK g w w1 (bs ++ beB 1 xs.length) []) := ⟨hw, hm, trivial⟩
  clear hw hm W0 e1
  go_wp2
  go_loopw [13] (fun v wr => ∃ j : Nat, j ≤ xs.length ∧ v = .int .i64 j ∧ WK g w wr (bs ++ (beB 1 xs.length ++ txsB (xs.take j))) []) (fun v _ => xs.length - (intOf v).toNat)
  case atStart => exact ⟨0, Nat.zero_le _, rfl, by have h := HK1.out; simpa [txsB] using h⟩
  case round =>
    obtain ⟨j, hj, rfl, hk⟩ := hrel
    have HK := hide hk
    clear hk HK1
    by_cases hlt : j < xs.length
    · have jlt : (j : Int) < (xs.length : Int) := by omega
      obtain ⟨b, off, rfl, hb, hcell⟩ := HRW.out (by omega)
      have HRG := hide (rangeAt_below (hcell j hlt) (HW0.out.trans (HK.out.2.1.below.mono (Nat.le_of_lt_succ (Nat.lt_succ_of_le (Nat.le_of_not_lt (fun hc => by have := HBL.out; have h1 := this g hc; omega)))))) hb)
      clear hcell hb
      obtain ⟨x, hx⟩ : ∃ x, x = xs.getD j Tx.zero := ⟨_, rfl⟩
      have HX := hide hx
      have HF := hide (HFX.out j hlt)
      rw [← hx] at HRG HF
      clear hx
      go_wp2_with (first | (refine wpList_load_mid rfl 70 (.tmp 15) rfl b (off + j * 5) (txA x) rfl HRG.out _ Try.underlying70 rfl infoTx ?_) | (refine wpList_store_at rfl 70 (.tmp 5) (.tmp 16) rfl wr.heap.size (txA Tx.zero) (txA x) rfl rfl (RowAt.new wr 70 (txA Tx.zero)) infoTx rfl (txA_one _) ?_))
      intro w2 hr2 hk2 _
      have hb2 := hk2 _ _ ((Below.refl wr.heap.size wr).alloc (Nat.le_refl _) _) (Nat.le_refl _)
      have HK2 : Hid (WK g w w2 (bs ++ (beB 1 xs.length ++ txsB (xs.take j))) [(wr.heap.size, 70, txA x)]) := ⟨HK.out.1.later hb2, HK.out.2.1.trans (Mv.later (Nat.le_of_lt HK.out.1.lt) hb2), hr2, trivial⟩
      have hA : Hid (Aside g [(wr.heap.size, 70, txA x)]) := fun e he => by
        simp only [List.mem_cons, List.not_mem_nil, or_false] at he
        subst he
        exact ⟨by show wr.heap.size ≠ g; have := HK.out.1.lt; omega, by show (70 : TypeId) ≠ 5; decide⟩
      clear hr2 hk2 hb2 HK HRG
      generalize wr.heap.size = p at *
      obtain ⟨bs0, hbs0⟩ : ∃ bs0, bs0 = bs ++ (beB 1 xs.length ++ txsB (xs.take j)) := ⟨_, rfl⟩
      have HBS := hide hbs0
      have HB0 : Hid (bs0.length ≤ 20000) := by
        have h1 := txsB_len (xs.take j)
        rw [List.length_take] at h1
        have := HL.out
        have := HN.out
        show bs0.length ≤ 20000
        rw [hbs0]
        simp only [List.length_append, beB_length, h1]
        omega
      rw [← hbs0] at HK2
      clear hbs0
      have e0 := conv_nat x.t (by have := HF.out; unfold txFit at this; omega) (by have := HF.out; unfold txFit at this; omega)
      have W0 := hide (fun bs w h hl => wnum_any g 4 x.t.toNat bs w h (by omega) (by have := HF.out; unfold txFit at this; omega) hl)
      rw [← e0] at W0
      clear e0
      have e1 := conv_nat x.s (by have := HF.out; unfold txFit at this; omega) (by have := HF.out; unfold txFit at this; omega)
      have W1 := hide (fun bs w h hl => wnum_any g 1 x.s.toNat bs w h (by omega) (by have := HF.out; unfold txFit at this; omega) hl)
      rw [← e1] at W1
      clear e1
      have W2 := hide (fun bs w h hl => wnum_any g 8 x.f bs w h (by omega) (by have := HF.out; unfold txFit at this; omega) hl)
      have W3 := hide (fun bs w h hl => wnum_any g 8 x.l bs w h (by omega) (by have := HF.out; unfold txFit at this; omega) hl)
      have W4 := hide (fun bs w h hl => wnum_any g 8 x.n bs w h (by omega) (by have := HF.out; unfold txFit at this; omega) hl)
      have d0 := HK2.out.2.2.1.cell 0 (.int .i64 x.t) rfl
      go_wp2_with fail
      refine (W0.out bs0 _ HK2.out.1 (by have := HB0.out; omega)).mono ?_
      rintro e v0 ⟨rfl, hw, hm⟩
      have HK3 := hide (HK2.out.step hw hm hA.out)
      clear hw hm d0 HK2 W0
      have d1 := HK3.out.2.2.1.cell 1 (.int .i64 x.s) rfl
      go_wp2_with fail
      refine (W1.out (bs0 ++ beB 4 x.t.toNat) _ HK3.out.1 (by have := HB0.out; simp only [List.length_append, beB_length]; omega)).mono ?_
      rintro e v1 ⟨rfl, hw, hm⟩
      have HK4 := hide (HK3.out.step hw hm hA.out)
      clear hw hm d1 HK3 W1
      have d2 := HK4.out.2.2.1.cell 2 (.int .u64 (x.f : Int)) rfl
      go_wp2_with fail
      refine (W2.out ((bs0 ++ beB 4 x.t.toNat) ++ beB 1 x.s.toNat) _ HK4.out.1 (by have := HB0.out; simp only [List.length_append, beB_length]; omega)).mono ?_
      rintro e v2 ⟨rfl, hw, hm⟩
      have HK5 := hide (HK4.out.step hw hm hA.out)
      clear hw hm d2 HK4 W2
      have d3 := HK5.out.2.2.1.cell 3 (.int .u64 (x.l : Int)) rfl
      go_wp2_with fail
      refine (W3.out (((bs0 ++ beB 4 x.t.toNat) ++ beB 1 x.s.toNat) ++ beB 8 x.f) _ HK5.out.1 (by have := HB0.out; simp only [List.length_append, beB_length]; omega)).mono ?_
      rintro e v3 ⟨rfl, hw, hm⟩
      have HK6 := hide (HK5.out.step hw hm hA.out)
      clear hw hm d3 HK5 W3
      have d4 := HK6.out.2.2.1.cell 4 (.int .u64 (x.n : Int)) rfl
      go_wp2_with fail
      refine (W4.out ((((bs0 ++ beB 4 x.t.toNat) ++ beB 1 x.s.toNat) ++ beB 8 x.f) ++ beB 8 x.l) _ HK6.out.1 (by have := HB0.out; simp only [List.length_append, beB_length]; omega)).mono ?_
      rintro e v4 ⟨rfl, hw, hm⟩
      have HK7 := hide (HK6.out.step hw hm hA.out)
      clear hw hm d4 HK6 W4
      go_wp2
      go_roundw
      case rel =>
        refine ⟨j + 1, by omega, by go_num, ?_, HK7.out.2.1, trivial⟩
        have h := HK7.out.1
        rw [HBS.out] at h
        have e3 : txsB (xs.take (j + 1)) = txsB (xs.take j) ++ txB x := by
          rw [HX.out]
          exact txsB_more xs j hlt
        rw [e3]
        simp only [txB, List.append_assoc] at h ⊢
        exact h
      case measure => simp [intOf]; omega
    · obtain rfl : j = xs.length := by omega
      go_wp2
      go_end0
      refine ⟨rfl, ?_, HK.out.2.1⟩
      have h := HK.out.1
      rwa [List.take_length] at h
end Go.Proofs.Ytgobegpmojkhaaa

/-
  The writer of package record: dirty.
-/
namespace Go.Proofs.Ytgobegpmojkhaaa
open Go.RowKit
set_option linter.unusedVariables false

set_option maxRecDepth 4000 in
set_option maxHeartbeats 3200000 in
theorem wdirty_any (g : Nat) (va : Value) (xs : List Di) (bs : List UInt8) (w0 w : World) (h : Wr w g bs) (hg : w0.heap.size ≤ g) (hb : Below w0.heap.size w0 w) (hin : DiIn w0 va xs) (hx : ∀ i, i < xs.length → diFit (xs.getD i Di.zero)) (hn : xs.length ≤ 32) (hl : bs.length ≤ 10000) :
    Calls Try.prog 38 #[.pointer (some ⟨g, 0, none⟩), va] w fun e w' => e = .returned (.tuple #[]) ∧ Wr w' g (bs ++ (beB 1 xs.length ++ disB xs)) ∧ Mv g w w' := by
  have HIN := hide (hin.below hb)
  have HFX := hide hx
  have HBL : Hid (∀ b, b < w0.heap.size → b < g) := fun b h => Nat.lt_of_lt_of_le h hg
  obtain ⟨a, cap, rfl, hrow⟩ := hin
  have HRW := hide hrow
  have HW0 := hide hb
  have e1 := conv_nat (xs.length : Int) (by omega) (by omega)
  rw [Int.toNat_natCast] at e1
  have W0 := hide (wnum_any g 1 xs.length bs w h (by omega) (by omega) (by omega))
  have HL := hide hl
  have HN := hide hn
  have HWR := hide h
  clear hx hrow hb hg hl h
  go_enter Try.func38, Try.ntmps38
  go_wp2_with fail
  refine W0.out.mono ?_
  rintro e w1 ⟨rfl, hw, hm⟩
  have HK1 : Hid (WK g w w1 (bs ++ beB 1 xs.length) []) := ⟨hw, hm, trivial⟩
  clear hw hm W0 e1
  go_wp2
  go_loopw [13] (fun v wr => ∃ j : Nat, j ≤ xs.length ∧ v = .int .i64 j ∧ WK g w wr (bs ++ (beB 1 xs.length ++ disB (xs.take j))) []) (fun v _ => xs.length - (intOf v).toNat)
  case atStart => exact ⟨0, Nat.zero_le _, rfl, by have h := HK1.out; simpa [disB] using h⟩
  case round =>
    obtain ⟨j, hj, rfl, hk⟩ := hrel
    have HK := hide hk
    clear hk HK1
    by_cases hlt : j < xs.length
    · have jlt : (j : Int) < (xs.length : Int) := by omega
      obtain ⟨b, off, rfl, hb, hcell⟩ := HRW.out (by omega)
      have HRG := hide (rangeAt_below (hcell j hlt) (HW0.out.trans (HK.out.2.1.below.mono (Nat.le_of_lt_succ (Nat.lt_succ_of_le (Nat.le_of_not_lt (fun hc => by have := HBL.out; have h1 := this g hc; omega)))))) hb)
      clear hcell hb
      obtain ⟨x, hx⟩ : ∃ x, x = xs.getD j Di.zero := ⟨_, rfl⟩
      have HX := hide hx
      have HF := hide (HFX.out j hlt)
      rw [← hx] at HRG HF
      clear hx
      go_wp2_with (first | (refine wpList_load_mid rfl 72 (.tmp 15) rfl b (off + j * 2) (diA x) rfl HRG.out _ Try.underlying72 rfl infoDi ?_) | (refine wpList_store_at rfl 72 (.tmp 5) (.tmp 16) rfl wr.heap.size (diA Di.zero) (diA x) rfl rfl (RowAt.new wr 72 (diA Di.zero)) infoDi rfl (diA_one _) ?_))
      intro w2 hr2 hk2 _
      have hb2 := hk2 _ _ ((Below.refl wr.heap.size wr).alloc (Nat.le_refl _) _) (Nat.le_refl _)
      have HK2 : Hid (WK g w w2 (bs ++ (beB 1 xs.length ++ disB (xs.take j))) [(wr.heap.size, 72, diA x)]) := ⟨HK.out.1.later hb2, HK.out.2.1.trans (Mv.later (Nat.le_of_lt HK.out.1.lt) hb2), hr2, trivial⟩
      have hA : Hid (Aside g [(wr.heap.size, 72, diA x)]) := fun e he => by
        simp only [List.mem_cons, List.not_mem_nil, or_false] at he
        subst he
        exact ⟨by show wr.heap.size ≠ g; have := HK.out.1.lt; omega, by show (72 : TypeId) ≠ 5; decide⟩
      clear hr2 hk2 hb2 HK HRG
      generalize wr.heap.size = p at *
      obtain ⟨bs0, hbs0⟩ : ∃ bs0, bs0 = bs ++ (beB 1 xs.length ++ disB (xs.take j)) := ⟨_, rfl⟩
      have HBS := hide hbs0
      have HB0 : Hid (bs0.length ≤ 20000) := by
        have h1 := disB_len (xs.take j)
        rw [List.length_take] at h1
        have := HL.out
        have := HN.out
        show bs0.length ≤ 20000
        rw [hbs0]
        simp only [List.length_append, beB_length, h1]
        omega
      rw [← hbs0] at HK2
      clear hbs0
      have e0 := conv_nat x.p (by have := HF.out; unfold diFit at this; omega) (by have := HF.out; unfold diFit at this; omega)
      have W0 := hide (fun bs w h hl => wnum_any g 2 x.p.toNat bs w h (by omega) (by have := HF.out; unfold diFit at this; omega) hl)
      rw [← e0] at W0
      clear e0
      have W1 := hide (fun bs w h hl => wnum_any g 8 x.r bs w h (by omega) (by have := HF.out; unfold diFit at this; omega) hl)
      have d0 := HK2.out.2.2.1.cell 0 (.int .i64 x.p) rfl
      go_wp2_with fail
      refine (W0.out bs0 _ HK2.out.1 (by have := HB0.out; omega)).mono ?_
      rintro e v0 ⟨rfl, hw, hm⟩
      have HK3 := hide (HK2.out.step hw hm hA.out)
      clear hw hm d0 HK2 W0
      have d1 := HK3.out.2.2.1.cell 1 (.int .u64 (x.r : Int)) rfl
      go_wp2_with fail
      refine (W1.out (bs0 ++ beB 2 x.p.toNat) _ HK3.out.1 (by have := HB0.out; simp only [List.length_append, beB_length]; omega)).mono ?_
      rintro e v1 ⟨rfl, hw, hm⟩
      have HK4 := hide (HK3.out.step hw hm hA.out)
      clear hw hm d1 HK3 W1
      go_wp2
      go_roundw
      case rel =>
        refine ⟨j + 1, by omega, by go_num, ?_, HK4.out.2.1, trivial⟩
        have h := HK4.out.1
        rw [HBS.out] at h
        have e3 : disB (xs.take (j + 1)) = disB (xs.take j) ++ diB x := by
          rw [HX.out]
          exact disB_more xs j hlt
        rw [e3]
        simp only [diB, List.append_assoc] at h ⊢
        exact h
      case measure => simp [intOf]; omega
    · obtain rfl : j = xs.length := by omega
      go_wp2
      go_end0
      refine ⟨rfl, ?_, HK.out.2.1⟩
      have h := HK.out.1
      rwa [List.take_length] at h
end Go.Proofs.Ytgobegpmojkhaaa

/-
  The contract of record.Encode, of a record that is right, by kinds.
-/
namespace Go.Proofs.Ytgobegpmojkhaaa
open Go.RowKit
set_option linter.unusedVariables false

/-- What Encode answers: the bytes in a row of the call's own, or none. -/
def EncIn (w : World) (v : Value) (bs : List UInt8) : Prop := ∃ a c, v = .slice a bs.length c ∧ (a = none → c = 0) ∧ bs.length ≤ c ∧ IsB w a bs.length bs
theorem enc_in {w : World} {base : Nat} {v : Value} {bs : List UInt8} (h : w.ownsRow base 5 1 v bs.length (toV bs)) : EncIn w v bs := by
  rcases h.2 with ⟨h1, h2⟩ | ⟨g, cap, cur, h2, h3, h4, h5, h6, h7, h8⟩
  · have hn : bs = [] := List.eq_nil_of_length_eq_zero h2
    subst hn
    exact ⟨none, 0, h1, fun _ => rfl, Nat.le_refl _, isB_nil w⟩
  · subst h2
    exact ⟨_, cap, rfl, fun h => (nomatch h), h5, h.isB rfl⟩
theorem chB_len2 (c : Ch) : (chB c).length = 6 + c.o.size + c.n.size := by
  unfold chB
  simp only [List.length_append, beB_length, textB_len]
  omega
theorem enc_bounds {r : Rec} (h : r.right) : (r.p < 18446744073709551616 ∧ r.n < 18446744073709551616 ∧ r.b < 18446744073709551616) ∧ (0 ≤ r.t ∧ r.t ≤ 1048575) ∧ (0 ≤ r.s ∧ r.s ≤ 8) ∧ r.ts.length ≤ 16 ∧ r.ds.length ≤ 32 ∧ (r.c.o.size ≤ 20 ∧ r.c.n.size ≤ 20) := by
  have hl : r.l ≤ 4611686018427387904 := h.lm
  have ht : (0 ≤ r.t ∧ r.t ≤ 1048575) ∧ r.p < 18446744073709551616 := by
    by_cases hk : r.k ≤ 6
    · have := h.own hk
      omega
    · have := h.none (by omega)
      omega
  have hn : r.n < 18446744073709551616 := by
    by_cases hk : r.k = 2
    · have := h.next hk
      omega
    · have := h.nonext hk
      omega
  have hs : 0 ≤ r.s ∧ r.s ≤ 8 := by
    by_cases hk : r.k = 6
    · have := h.save hk
      omega
    · have := h.nosave hk
      omega
  have hc : r.c.o.size ≤ 20 ∧ r.c.n.size ≤ 20 := by
    by_cases hk : r.k ≤ 2
    · have := ch_bounds (h.ch hk)
      omega
    · rw [h.noch (by omega)]
      exact ⟨Nat.zero_le _, Nat.zero_le _⟩
  by_cases hk : r.k = 8
  · obtain ⟨h1, h2, _, _, h5, h6⟩ := h.check hk
    exact ⟨⟨ht.2, hn, by omega⟩, ht.1, hs, h1, h2, hc⟩
  · obtain ⟨h1, h2, h3⟩ := h.nocheck hk
    rw [h1, h2, h3]
    exact ⟨⟨ht.2, hn, by omega⟩, ht.1, hs, Nat.zero_le _, Nat.zero_le _, hc⟩
theorem enc_txs {r : Rec} (h : r.right) (hk : r.k = 8) : ∀ i, i < r.ts.length → txFit (r.ts.getD i Tx.zero) := fun i hi => by
  have hl : r.l ≤ 4611686018427387904 := h.lm
  obtain ⟨h1, h2, h3, h4, h5, h6, h7, h8⟩ := ((h.check hk).2.2.1 i hi).1
  exact ⟨by omega, by omega, by omega, by omega, by omega, by omega, by omega⟩
theorem enc_dis {r : Rec} (h : r.right) (hk : r.k = 8) : ∀ i, i < r.ds.length → diFit (r.ds.getD i Di.zero) := fun i hi => by
  have hl : r.l ≤ 4611686018427387904 := h.lm
  obtain ⟨h1, h2, h3, h4⟩ := ((h.check hk).2.2.2.1 i hi).1
  exact ⟨by omega, by omega, by omega⟩
end Go.Proofs.Ytgobegpmojkhaaa

/-
  The contract of record.Encode, kind 1.
-/
namespace Go.Proofs.Ytgobegpmojkhaaa
open Go.RowKit
set_option linter.unusedVariables false

set_option maxRecDepth 4000 in
set_option maxHeartbeats 1600000 in
theorem enc_1 (r : Rec) (va vb : Value) (w : World) (hr : r.right) (hk : r.k = 1) (hf : r.fits) (hin : RcIn w r va vb) :
    Calls Try.prog 21 #[.agg (rcA r va vb)] w fun e w' => (∃ v, e = .returned (.tuple #[v, .int .i64 0]) ∧ EncIn w' v (recB r)) ∧ Below w.heap.size w w' := by
  have HIN := hide hin
  have HRT := hide (fun w h => right_at r va vb w true (hide ⟨fun _ => hr, fun _ => rfl⟩) hf h)
  obtain ⟨⟨e1, cap1, rfl, -⟩, ⟨e2, cap2, rfl, -⟩⟩ := hin
  have HK0 := hide (Keeps.one w 28 (rcA r (.slice e1 r.ts.length cap1) (.slice e2 r.ds.length cap2)))
  have HRR := hide hr
  have hlm : r.l ≤ 4611686018427387904 := hr.lm
  have hbs := enc_bounds hr
  obtain ⟨b1, b2, b3, b4, b5, b6⟩ := hbs
  go_enter Try.func21, Try.ntmps21
  go_wp2_with (refine wpList_load_at rfl 28 (.tmp 1) rfl w.heap.size rfl (rcA r (.slice e1 r.ts.length cap1) (.slice e2 r.ds.length cap2)) HK0.out.1.1 _ Try.underlying28 rfl infoRc ?_)
  refine (HRT.out _ (HIN.out.below HK0.out.2)).mono ?_
  rintro e x0 ⟨rfl, hb0⟩
  have HK1 := hide (HK0.out.later hb0)
  clear HK0 hb0 HRT
  obtain ⟨g, hg⟩ : ∃ g, g = x0.heap.size := ⟨_, rfl⟩
  have hbl := (Below.refl x0.heap.size x0).alloc (Nat.le_refl _) (.cells #[.slice none 0 0] 77)
  have HW0 : Hid (WK g x0 (x0.alloc (.cells #[.slice none 0 0] 77)) [] [(w.heap.size, 28, (rcA r (.slice e1 r.ts.length cap1) (.slice e2 r.ds.length cap2)))]) := by
    rw [hg]
    exact ⟨⟨.slice none 0 0, RowAt.new _ _ _, World.ownsRow_nil _ _ _ _⟩, Mv.later (Nat.le_refl _) hbl, HK1.out.1.1.later hbl, trivial⟩
  have hA : Hid (Aside g [(w.heap.size, 28, (rcA r (.slice e1 r.ts.length cap1) (.slice e2 r.ds.length cap2)))]) := fun e he => by
    simp only [List.mem_cons, List.not_mem_nil, or_false] at he
    subst he
    exact ⟨by show w.heap.size ≠ g; have := HK1.out.1.1.lt; rw [hg]; exact Nat.ne_of_lt this, by show (28 : TypeId) ≠ 5; decide⟩
  have HBX := hide HK1.out.2
  have HGW : Hid (w.heap.size ≤ g) := by show w.heap.size ≤ g; rw [hg]; exact HBX.out.size
  have HCX := hide (fun (y : World) (bs : List UInt8) (h : WK g x0 y bs [(w.heap.size, 28, (rcA r (.slice e1 r.ts.length cap1) (.slice e2 r.ds.length cap2)))]) => (HBX.out.trans (h.2.1.below.mono HGW.out) : Below w.heap.size w y))
  have c0 := HW0.out.2.2.1.cell 0 (.int .i64 1) (by rw [← hk]; rfl)
  clear hbl HK1
  go_wp2_with fail
  rw [← hg]
  refine gen_calls (fun x => Hid (WK g x0 x [] [(w.heap.size, 28, (rcA r (.slice e1 r.ts.length cap1) (.slice e2 r.ds.length cap2)))])) (by rw [hg]; rw [hg] at HW0; exact HW0) ?_
  clear HW0 c0 hg
  intro y0 H0
  refine (wnum_any g 1 1 [] _ H0.out.1 (by omega) (by omega) (Nat.zero_le _)).mono ?_
  rintro e y1 ⟨rfl, hw, hm⟩
  have H1 := hide (H0.out.step hw hm hA.out)
  clear hw hm H0
  have c1 := H1.out.2.2.1.cell 1 (.int .u64 (r.l : Int)) (by rfl)
  go_wp2_with fail
  refine (wnum_any g 8 r.l ([] ++ beB 1 1) _ H1.out.1 (by omega) (by omega) (by first | (simp only [List.length_append, beB_length, List.length_nil]; done) | (simp only [List.length_append, beB_length, List.length_nil]; omega))).mono ?_
  rintro e y2 ⟨rfl, hw, hm⟩
  have H2 := hide (H1.out.step hw hm hA.out)
  clear hw hm H1
  clear c1
  have c2 := H2.out.2.2.1.cell 2 (.int .i64 r.t) (by rfl)
  go_wp2_with fail
  have W := hide (wnum_any g 4 r.t.toNat (([] ++ beB 1 1) ++ beB 8 r.l) _ H2.out.1 (by omega) (by omega) (by first | (simp only [List.length_append, beB_length, List.length_nil]; done) | (simp only [List.length_append, beB_length, List.length_nil]; omega)))
  rw [Int.toNat_of_nonneg (by omega)] at W
  refine W.out.mono ?_
  clear W
  rintro e y3 ⟨rfl, hw, hm⟩
  have H3 := hide (H2.out.step hw hm hA.out)
  clear hw hm H2
  clear c2
  have c3 := H3.out.2.2.1.cell 3 (.int .u64 (r.p : Int)) (by rfl)
  have c0 := H3.out.2.2.1.cell 0 (.int .i64 1) (by rw [← hk]; rfl)
  go_wp2_with fail
  refine (wnum_any g 8 r.p ((([] ++ beB 1 1) ++ beB 8 r.l) ++ beB 4 r.t.toNat) _ H3.out.1 (by omega) (by omega) (by first | (simp only [List.length_append, beB_length, List.length_nil]; done) | (simp only [List.length_append, beB_length, List.length_nil]; omega))).mono ?_
  rintro e y4 ⟨rfl, hw, hm⟩
  have H4 := hide (H3.out.step hw hm hA.out)
  clear hw hm H3
  clear c3 c0
  have c0 := H4.out.2.2.1.cell 0 (.int .i64 1) (by rw [← hk]; rfl)
  go_wp2_with (refine wpList_load_mid rfl 24 (.tmp 27) rfl w.heap.size 4 (chA r.c) rfl (rc_change H4.out.2.2.1) _ Try.underlying24 rfl infoCh ?_)
  refine (wchange_any g r.c (((([] ++ beB 1 1) ++ beB 8 r.l) ++ beB 4 r.t.toNat) ++ beB 8 r.p) _ H4.out.1 (HRR.out.ch (by omega)) (by first | (simp only [List.length_append, beB_length, List.length_nil]; done) | (simp only [List.length_append, beB_length, List.length_nil]; omega))).mono ?_
  rintro e y5 ⟨rfl, hw, hm⟩
  have H5 := hide (H4.out.step hw hm hA.out)
  clear hw hm H4
  clear c0
  have hrb : ((((([] ++ beB 1 1) ++ beB 8 r.l) ++ beB 4 r.t.toNat) ++ beB 8 r.p) ++ chB r.c) = recB r := by
    unfold recB mayB
    rw [hk]
    simp
  have HX := hide (HCX.out _ _ H5.out)
  obtain ⟨v, hrow, hown⟩ := H5.out.1
  have HO := hide hown
  have HRO := hide hrow
  have HRB := hide hrb
  clear hown hrow hrb H5 hA HIN HCX HBX
  obtain ⟨a, c, hv⟩ := own_shape HO.out
  have HV := hide hv
  clear hv
  go_wp2_with (refine wpList_load_val rfl 30 (.tmp 55) rfl _ v rfl (load_b8 _ v a _ c HV.out (HRO.out.cell 0 v rfl)) ?_)
  (try simp only [Exit.inBlock, Exit.then])
  refine bodyPost_ret (results_tmp2 rfl _ _ _) rfl ?_
  refine ⟨⟨v, rfl, ?_⟩, HX.out⟩
  have ho := HO.out
  rw [HRB.out] at ho
  exact enc_in ho
end Go.Proofs.Ytgobegpmojkhaaa

/-
  The contract of record.Encode, kind 2.
-/
namespace Go.Proofs.Ytgobegpmojkhaaa
open Go.RowKit
set_option linter.unusedVariables false

set_option maxRecDepth 4000 in
set_option maxHeartbeats 1600000 in
theorem enc_2 (r : Rec) (va vb : Value) (w : World) (hr : r.right) (hk : r.k = 2) (hf : r.fits) (hin : RcIn w r va vb) :
    Calls Try.prog 21 #[.agg (rcA r va vb)] w fun e w' => (∃ v, e = .returned (.tuple #[v, .int .i64 0]) ∧ EncIn w' v (recB r)) ∧ Below w.heap.size w w' := by
  have HIN := hide hin
  have HRT := hide (fun w h => right_at r va vb w true (hide ⟨fun _ => hr, fun _ => rfl⟩) hf h)
  obtain ⟨⟨e1, cap1, rfl, -⟩, ⟨e2, cap2, rfl, -⟩⟩ := hin
  have HK0 := hide (Keeps.one w 28 (rcA r (.slice e1 r.ts.length cap1) (.slice e2 r.ds.length cap2)))
  have HRR := hide hr
  have hlm : r.l ≤ 4611686018427387904 := hr.lm
  have hbs := enc_bounds hr
  obtain ⟨b1, b2, b3, b4, b5, b6⟩ := hbs
  go_enter Try.func21, Try.ntmps21
  go_wp2_with (refine wpList_load_at rfl 28 (.tmp 1) rfl w.heap.size rfl (rcA r (.slice e1 r.ts.length cap1) (.slice e2 r.ds.length cap2)) HK0.out.1.1 _ Try.underlying28 rfl infoRc ?_)
  refine (HRT.out _ (HIN.out.below HK0.out.2)).mono ?_
  rintro e x0 ⟨rfl, hb0⟩
  have HK1 := hide (HK0.out.later hb0)
  clear HK0 hb0 HRT
  obtain ⟨g, hg⟩ : ∃ g, g = x0.heap.size := ⟨_, rfl⟩
  have hbl := (Below.refl x0.heap.size x0).alloc (Nat.le_refl _) (.cells #[.slice none 0 0] 77)
  have HW0 : Hid (WK g x0 (x0.alloc (.cells #[.slice none 0 0] 77)) [] [(w.heap.size, 28, (rcA r (.slice e1 r.ts.length cap1) (.slice e2 r.ds.length cap2)))]) := by
    rw [hg]
    exact ⟨⟨.slice none 0 0, RowAt.new _ _ _, World.ownsRow_nil _ _ _ _⟩, Mv.later (Nat.le_refl _) hbl, HK1.out.1.1.later hbl, trivial⟩
  have hA : Hid (Aside g [(w.heap.size, 28, (rcA r (.slice e1 r.ts.length cap1) (.slice e2 r.ds.length cap2)))]) := fun e he => by
    simp only [List.mem_cons, List.not_mem_nil, or_false] at he
    subst he
    exact ⟨by show w.heap.size ≠ g; have := HK1.out.1.1.lt; rw [hg]; exact Nat.ne_of_lt this, by show (28 : TypeId) ≠ 5; decide⟩
  have HBX := hide HK1.out.2
  have HGW : Hid (w.heap.size ≤ g) := by show w.heap.size ≤ g; rw [hg]; exact HBX.out.size
  have HCX := hide (fun (y : World) (bs : List UInt8) (h : WK g x0 y bs [(w.heap.size, 28, (rcA r (.slice e1 r.ts.length cap1) (.slice e2 r.ds.length cap2)))]) => (HBX.out.trans (h.2.1.below.mono HGW.out) : Below w.heap.size w y))
  have c0 := HW0.out.2.2.1.cell 0 (.int .i64 2) (by rw [← hk]; rfl)
  clear hbl HK1
  go_wp2_with fail
  rw [← hg]
  refine gen_calls (fun x => Hid (WK g x0 x [] [(w.heap.size, 28, (rcA r (.slice e1 r.ts.length cap1) (.slice e2 r.ds.length cap2)))])) (by rw [hg]; rw [hg] at HW0; exact HW0) ?_
  clear HW0 c0 hg
  intro y0 H0
  refine (wnum_any g 1 2 [] _ H0.out.1 (by omega) (by omega) (Nat.zero_le _)).mono ?_
  rintro e y1 ⟨rfl, hw, hm⟩
  have H1 := hide (H0.out.step hw hm hA.out)
  clear hw hm H0
  have c1 := H1.out.2.2.1.cell 1 (.int .u64 (r.l : Int)) (by rfl)
  go_wp2_with fail
  refine (wnum_any g 8 r.l ([] ++ beB 1 2) _ H1.out.1 (by omega) (by omega) (by first | (simp only [List.length_append, beB_length, List.length_nil]; done) | (simp only [List.length_append, beB_length, List.length_nil]; omega))).mono ?_
  rintro e y2 ⟨rfl, hw, hm⟩
  have H2 := hide (H1.out.step hw hm hA.out)
  clear hw hm H1
  clear c1
  have c2 := H2.out.2.2.1.cell 2 (.int .i64 r.t) (by rfl)
  go_wp2_with fail
  have W := hide (wnum_any g 4 r.t.toNat (([] ++ beB 1 2) ++ beB 8 r.l) _ H2.out.1 (by omega) (by omega) (by first | (simp only [List.length_append, beB_length, List.length_nil]; done) | (simp only [List.length_append, beB_length, List.length_nil]; omega)))
  rw [Int.toNat_of_nonneg (by omega)] at W
  refine W.out.mono ?_
  clear W
  rintro e y3 ⟨rfl, hw, hm⟩
  have H3 := hide (H2.out.step hw hm hA.out)
  clear hw hm H2
  clear c2
  have c3 := H3.out.2.2.1.cell 3 (.int .u64 (r.p : Int)) (by rfl)
  have c0 := H3.out.2.2.1.cell 0 (.int .i64 2) (by rw [← hk]; rfl)
  go_wp2_with fail
  refine (wnum_any g 8 r.p ((([] ++ beB 1 2) ++ beB 8 r.l) ++ beB 4 r.t.toNat) _ H3.out.1 (by omega) (by omega) (by first | (simp only [List.length_append, beB_length, List.length_nil]; done) | (simp only [List.length_append, beB_length, List.length_nil]; omega))).mono ?_
  rintro e y4 ⟨rfl, hw, hm⟩
  have H4 := hide (H3.out.step hw hm hA.out)
  clear hw hm H3
  clear c3 c0
  have c0 := H4.out.2.2.1.cell 0 (.int .i64 2) (by rw [← hk]; rfl)
  go_wp2_with (refine wpList_load_mid rfl 24 (.tmp 32) rfl w.heap.size 4 (chA r.c) rfl (rc_change H4.out.2.2.1) _ Try.underlying24 rfl infoCh ?_)
  refine (wchange_any g r.c (((([] ++ beB 1 2) ++ beB 8 r.l) ++ beB 4 r.t.toNat) ++ beB 8 r.p) _ H4.out.1 (HRR.out.ch (by omega)) (by first | (simp only [List.length_append, beB_length, List.length_nil]; done) | (simp only [List.length_append, beB_length, List.length_nil]; omega))).mono ?_
  rintro e y5 ⟨rfl, hw, hm⟩
  have H5 := hide (H4.out.step hw hm hA.out)
  clear hw hm H4
  clear c0
  have c9 := H5.out.2.2.1.cell 9 (.int .u64 (r.n : Int)) (by rfl)
  go_wp2_with fail
  refine (wnum_any g 8 r.n ((((([] ++ beB 1 2) ++ beB 8 r.l) ++ beB 4 r.t.toNat) ++ beB 8 r.p) ++ chB r.c) _ H5.out.1 (by omega) (by omega) (by first | (simp only [List.length_append, beB_length, List.length_nil, chB_len2]; done) | (simp only [List.length_append, beB_length, List.length_nil, chB_len2]; omega))).mono ?_
  rintro e y6 ⟨rfl, hw, hm⟩
  have H6 := hide (H5.out.step hw hm hA.out)
  clear hw hm H5
  clear c9
  have hrb : (((((([] ++ beB 1 2) ++ beB 8 r.l) ++ beB 4 r.t.toNat) ++ beB 8 r.p) ++ chB r.c) ++ beB 8 r.n) = recB r := by
    unfold recB mayB
    rw [hk]
    simp
  have HX := hide (HCX.out _ _ H6.out)
  obtain ⟨v, hrow, hown⟩ := H6.out.1
  have HO := hide hown
  have HRO := hide hrow
  have HRB := hide hrb
  clear hown hrow hrb H6 hA HIN HCX HBX
  obtain ⟨a, c, hv⟩ := own_shape HO.out
  have HV := hide hv
  clear hv
  go_wp2_with (refine wpList_load_val rfl 30 (.tmp 55) rfl _ v rfl (load_b8 _ v a _ c HV.out (HRO.out.cell 0 v rfl)) ?_)
  (try simp only [Exit.inBlock, Exit.then])
  refine bodyPost_ret (results_tmp2 rfl _ _ _) rfl ?_
  refine ⟨⟨v, rfl, ?_⟩, HX.out⟩
  have ho := HO.out
  rw [HRB.out] at ho
  exact enc_in ho
end Go.Proofs.Ytgobegpmojkhaaa

/-
  The contract of record.Encode, kind 3.
-/
namespace Go.Proofs.Ytgobegpmojkhaaa
open Go.RowKit
set_option linter.unusedVariables false

set_option maxRecDepth 4000 in
set_option maxHeartbeats 1600000 in
theorem enc_3 (r : Rec) (va vb : Value) (w : World) (hr : r.right) (hk : r.k = 3) (hf : r.fits) (hin : RcIn w r va vb) :
    Calls Try.prog 21 #[.agg (rcA r va vb)] w fun e w' => (∃ v, e = .returned (.tuple #[v, .int .i64 0]) ∧ EncIn w' v (recB r)) ∧ Below w.heap.size w w' := by
  have HIN := hide hin
  have HRT := hide (fun w h => right_at r va vb w true (hide ⟨fun _ => hr, fun _ => rfl⟩) hf h)
  obtain ⟨⟨e1, cap1, rfl, -⟩, ⟨e2, cap2, rfl, -⟩⟩ := hin
  have HK0 := hide (Keeps.one w 28 (rcA r (.slice e1 r.ts.length cap1) (.slice e2 r.ds.length cap2)))
  have HRR := hide hr
  have hlm : r.l ≤ 4611686018427387904 := hr.lm
  have hbs := enc_bounds hr
  obtain ⟨b1, b2, b3, b4, b5, b6⟩ := hbs
  go_enter Try.func21, Try.ntmps21
  go_wp2_with (refine wpList_load_at rfl 28 (.tmp 1) rfl w.heap.size rfl (rcA r (.slice e1 r.ts.length cap1) (.slice e2 r.ds.length cap2)) HK0.out.1.1 _ Try.underlying28 rfl infoRc ?_)
  refine (HRT.out _ (HIN.out.below HK0.out.2)).mono ?_
  rintro e x0 ⟨rfl, hb0⟩
  have HK1 := hide (HK0.out.later hb0)
  clear HK0 hb0 HRT
  obtain ⟨g, hg⟩ : ∃ g, g = x0.heap.size := ⟨_, rfl⟩
  have hbl := (Below.refl x0.heap.size x0).alloc (Nat.le_refl _) (.cells #[.slice none 0 0] 77)
  have HW0 : Hid (WK g x0 (x0.alloc (.cells #[.slice none 0 0] 77)) [] [(w.heap.size, 28, (rcA r (.slice e1 r.ts.length cap1) (.slice e2 r.ds.length cap2)))]) := by
    rw [hg]
    exact ⟨⟨.slice none 0 0, RowAt.new _ _ _, World.ownsRow_nil _ _ _ _⟩, Mv.later (Nat.le_refl _) hbl, HK1.out.1.1.later hbl, trivial⟩
  have hA : Hid (Aside g [(w.heap.size, 28, (rcA r (.slice e1 r.ts.length cap1) (.slice e2 r.ds.length cap2)))]) := fun e he => by
    simp only [List.mem_cons, List.not_mem_nil, or_false] at he
    subst he
    exact ⟨by show w.heap.size ≠ g; have := HK1.out.1.1.lt; rw [hg]; exact Nat.ne_of_lt this, by show (28 : TypeId) ≠ 5; decide⟩
  have HBX := hide HK1.out.2
  have HGW : Hid (w.heap.size ≤ g) := by show w.heap.size ≤ g; rw [hg]; exact HBX.out.size
  have HCX := hide (fun (y : World) (bs : List UInt8) (h : WK g x0 y bs [(w.heap.size, 28, (rcA r (.slice e1 r.ts.length cap1) (.slice e2 r.ds.length cap2)))]) => (HBX.out.trans (h.2.1.below.mono HGW.out) : Below w.heap.size w y))
  have c0 := HW0.out.2.2.1.cell 0 (.int .i64 3) (by rw [← hk]; rfl)
  clear hbl HK1
  go_wp2_with fail
  rw [← hg]
  refine gen_calls (fun x => Hid (WK g x0 x [] [(w.heap.size, 28, (rcA r (.slice e1 r.ts.length cap1) (.slice e2 r.ds.length cap2)))])) (by rw [hg]; rw [hg] at HW0; exact HW0) ?_
  clear HW0 c0 hg
  intro y0 H0
  refine (wnum_any g 1 3 [] _ H0.out.1 (by omega) (by omega) (Nat.zero_le _)).mono ?_
  rintro e y1 ⟨rfl, hw, hm⟩
  have H1 := hide (H0.out.step hw hm hA.out)
  clear hw hm H0
  have c1 := H1.out.2.2.1.cell 1 (.int .u64 (r.l : Int)) (by rfl)
  go_wp2_with fail
  refine (wnum_any g 8 r.l ([] ++ beB 1 3) _ H1.out.1 (by omega) (by omega) (by first | (simp only [List.length_append, beB_length, List.length_nil]; done) | (simp only [List.length_append, beB_length, List.length_nil]; omega))).mono ?_
  rintro e y2 ⟨rfl, hw, hm⟩
  have H2 := hide (H1.out.step hw hm hA.out)
  clear hw hm H1
  clear c1
  have c2 := H2.out.2.2.1.cell 2 (.int .i64 r.t) (by rfl)
  go_wp2_with fail
  have W := hide (wnum_any g 4 r.t.toNat (([] ++ beB 1 3) ++ beB 8 r.l) _ H2.out.1 (by omega) (by omega) (by first | (simp only [List.length_append, beB_length, List.length_nil]; done) | (simp only [List.length_append, beB_length, List.length_nil]; omega)))
  rw [Int.toNat_of_nonneg (by omega)] at W
  refine W.out.mono ?_
  clear W
  rintro e y3 ⟨rfl, hw, hm⟩
  have H3 := hide (H2.out.step hw hm hA.out)
  clear hw hm H2
  clear c2
  have c3 := H3.out.2.2.1.cell 3 (.int .u64 (r.p : Int)) (by rfl)
  have c0 := H3.out.2.2.1.cell 0 (.int .i64 3) (by rw [← hk]; rfl)
  go_wp2_with fail
  refine (wnum_any g 8 r.p ((([] ++ beB 1 3) ++ beB 8 r.l) ++ beB 4 r.t.toNat) _ H3.out.1 (by omega) (by omega) (by first | (simp only [List.length_append, beB_length, List.length_nil]; done) | (simp only [List.length_append, beB_length, List.length_nil]; omega))).mono ?_
  rintro e y4 ⟨rfl, hw, hm⟩
  have H4 := hide (H3.out.step hw hm hA.out)
  clear hw hm H3
  clear c3 c0
  have hrb : (((([] ++ beB 1 3) ++ beB 8 r.l) ++ beB 4 r.t.toNat) ++ beB 8 r.p) = recB r := by
    unfold recB mayB
    rw [hk]
    simp
  have HX := hide (HCX.out _ _ H4.out)
  obtain ⟨v, hrow, hown⟩ := H4.out.1
  have HO := hide hown
  have HRO := hide hrow
  have HRB := hide hrb
  have c0 := H4.out.2.2.1.cell 0 (.int .i64 3) (by rw [← hk]; rfl)
  clear hown hrow hrb H4 hA HIN HCX HBX
  obtain ⟨a, c, hv⟩ := own_shape HO.out
  have HV := hide hv
  clear hv
  go_wp2_with (refine wpList_load_val rfl 30 (.tmp 55) rfl _ v rfl (load_b8 _ v a _ c HV.out (HRO.out.cell 0 v rfl)) ?_)
  (try simp only [Exit.inBlock, Exit.then])
  refine bodyPost_ret (results_tmp2 rfl _ _ _) rfl ?_
  refine ⟨⟨v, rfl, ?_⟩, HX.out⟩
  have ho := HO.out
  rw [HRB.out] at ho
  exact enc_in ho
end Go.Proofs.Ytgobegpmojkhaaa

/-
  The contract of record.Encode, kind 4.
-/
namespace Go.Proofs.Ytgobegpmojkhaaa
open Go.RowKit
set_option linter.unusedVariables false

set_option maxRecDepth 4000 in
set_option maxHeartbeats 1600000 in
theorem enc_4 (r : Rec) (va vb : Value) (w : World) (hr : r.right) (hk : r.k = 4) (hf : r.fits) (hin : RcIn w r va vb) :
    Calls Try.prog 21 #[.agg (rcA r va vb)] w fun e w' => (∃ v, e = .returned (.tuple #[v, .int .i64 0]) ∧ EncIn w' v (recB r)) ∧ Below w.heap.size w w' := by
  have HIN := hide hin
  have HRT := hide (fun w h => right_at r va vb w true (hide ⟨fun _ => hr, fun _ => rfl⟩) hf h)
  obtain ⟨⟨e1, cap1, rfl, -⟩, ⟨e2, cap2, rfl, -⟩⟩ := hin
  have HK0 := hide (Keeps.one w 28 (rcA r (.slice e1 r.ts.length cap1) (.slice e2 r.ds.length cap2)))
  have HRR := hide hr
  have hlm : r.l ≤ 4611686018427387904 := hr.lm
  have hbs := enc_bounds hr
  obtain ⟨b1, b2, b3, b4, b5, b6⟩ := hbs
  go_enter Try.func21, Try.ntmps21
  go_wp2_with (refine wpList_load_at rfl 28 (.tmp 1) rfl w.heap.size rfl (rcA r (.slice e1 r.ts.length cap1) (.slice e2 r.ds.length cap2)) HK0.out.1.1 _ Try.underlying28 rfl infoRc ?_)
  refine (HRT.out _ (HIN.out.below HK0.out.2)).mono ?_
  rintro e x0 ⟨rfl, hb0⟩
  have HK1 := hide (HK0.out.later hb0)
  clear HK0 hb0 HRT
  obtain ⟨g, hg⟩ : ∃ g, g = x0.heap.size := ⟨_, rfl⟩
  have hbl := (Below.refl x0.heap.size x0).alloc (Nat.le_refl _) (.cells #[.slice none 0 0] 77)
  have HW0 : Hid (WK g x0 (x0.alloc (.cells #[.slice none 0 0] 77)) [] [(w.heap.size, 28, (rcA r (.slice e1 r.ts.length cap1) (.slice e2 r.ds.length cap2)))]) := by
    rw [hg]
    exact ⟨⟨.slice none 0 0, RowAt.new _ _ _, World.ownsRow_nil _ _ _ _⟩, Mv.later (Nat.le_refl _) hbl, HK1.out.1.1.later hbl, trivial⟩
  have hA : Hid (Aside g [(w.heap.size, 28, (rcA r (.slice e1 r.ts.length cap1) (.slice e2 r.ds.length cap2)))]) := fun e he => by
    simp only [List.mem_cons, List.not_mem_nil, or_false] at he
    subst he
    exact ⟨by show w.heap.size ≠ g; have := HK1.out.1.1.lt; rw [hg]; exact Nat.ne_of_lt this, by show (28 : TypeId) ≠ 5; decide⟩
  have HBX := hide HK1.out.2
  have HGW : Hid (w.heap.size ≤ g) := by show w.heap.size ≤ g; rw [hg]; exact HBX.out.size
  have HCX := hide (fun (y : World) (bs : List UInt8) (h : WK g x0 y bs [(w.heap.size, 28, (rcA r (.slice e1 r.ts.length cap1) (.slice e2 r.ds.length cap2)))]) => (HBX.out.trans (h.2.1.below.mono HGW.out) : Below w.heap.size w y))
  have c0 := HW0.out.2.2.1.cell 0 (.int .i64 4) (by rw [← hk]; rfl)
  clear hbl HK1
  go_wp2_with fail
  rw [← hg]
  refine gen_calls (fun x => Hid (WK g x0 x [] [(w.heap.size, 28, (rcA r (.slice e1 r.ts.length cap1) (.slice e2 r.ds.length cap2)))])) (by rw [hg]; rw [hg] at HW0; exact HW0) ?_
  clear HW0 c0 hg
  intro y0 H0
  refine (wnum_any g 1 4 [] _ H0.out.1 (by omega) (by omega) (Nat.zero_le _)).mono ?_
  rintro e y1 ⟨rfl, hw, hm⟩
  have H1 := hide (H0.out.step hw hm hA.out)
  clear hw hm H0
  have c1 := H1.out.2.2.1.cell 1 (.int .u64 (r.l : Int)) (by rfl)
  go_wp2_with fail
  refine (wnum_any g 8 r.l ([] ++ beB 1 4) _ H1.out.1 (by omega) (by omega) (by first | (simp only [List.length_append, beB_length, List.length_nil]; done) | (simp only [List.length_append, beB_length, List.length_nil]; omega))).mono ?_
  rintro e y2 ⟨rfl, hw, hm⟩
  have H2 := hide (H1.out.step hw hm hA.out)
  clear hw hm H1
  clear c1
  have c2 := H2.out.2.2.1.cell 2 (.int .i64 r.t) (by rfl)
  go_wp2_with fail
  have W := hide (wnum_any g 4 r.t.toNat (([] ++ beB 1 4) ++ beB 8 r.l) _ H2.out.1 (by omega) (by omega) (by first | (simp only [List.length_append, beB_length, List.length_nil]; done) | (simp only [List.length_append, beB_length, List.length_nil]; omega)))
  rw [Int.toNat_of_nonneg (by omega)] at W
  refine W.out.mono ?_
  clear W
  rintro e y3 ⟨rfl, hw, hm⟩
  have H3 := hide (H2.out.step hw hm hA.out)
  clear hw hm H2
  clear c2
  have c3 := H3.out.2.2.1.cell 3 (.int .u64 (r.p : Int)) (by rfl)
  have c0 := H3.out.2.2.1.cell 0 (.int .i64 4) (by rw [← hk]; rfl)
  go_wp2_with fail
  refine (wnum_any g 8 r.p ((([] ++ beB 1 4) ++ beB 8 r.l) ++ beB 4 r.t.toNat) _ H3.out.1 (by omega) (by omega) (by first | (simp only [List.length_append, beB_length, List.length_nil]; done) | (simp only [List.length_append, beB_length, List.length_nil]; omega))).mono ?_
  rintro e y4 ⟨rfl, hw, hm⟩
  have H4 := hide (H3.out.step hw hm hA.out)
  clear hw hm H3
  clear c3 c0
  have hrb : (((([] ++ beB 1 4) ++ beB 8 r.l) ++ beB 4 r.t.toNat) ++ beB 8 r.p) = recB r := by
    unfold recB mayB
    rw [hk]
    simp
  have HX := hide (HCX.out _ _ H4.out)
  obtain ⟨v, hrow, hown⟩ := H4.out.1
  have HO := hide hown
  have HRO := hide hrow
  have HRB := hide hrb
  have c0 := H4.out.2.2.1.cell 0 (.int .i64 4) (by rw [← hk]; rfl)
  clear hown hrow hrb H4 hA HIN HCX HBX
  obtain ⟨a, c, hv⟩ := own_shape HO.out
  have HV := hide hv
  clear hv
  go_wp2_with (refine wpList_load_val rfl 30 (.tmp 55) rfl _ v rfl (load_b8 _ v a _ c HV.out (HRO.out.cell 0 v rfl)) ?_)
  (try simp only [Exit.inBlock, Exit.then])
  refine bodyPost_ret (results_tmp2 rfl _ _ _) rfl ?_
  refine ⟨⟨v, rfl, ?_⟩, HX.out⟩
  have ho := HO.out
  rw [HRB.out] at ho
  exact enc_in ho
end Go.Proofs.Ytgobegpmojkhaaa

/-
  The contract of record.Encode, kind 5.
-/
namespace Go.Proofs.Ytgobegpmojkhaaa
open Go.RowKit
set_option linter.unusedVariables false

set_option maxRecDepth 4000 in
set_option maxHeartbeats 1600000 in
theorem enc_5 (r : Rec) (va vb : Value) (w : World) (hr : r.right) (hk : r.k = 5) (hf : r.fits) (hin : RcIn w r va vb) :
    Calls Try.prog 21 #[.agg (rcA r va vb)] w fun e w' => (∃ v, e = .returned (.tuple #[v, .int .i64 0]) ∧ EncIn w' v (recB r)) ∧ Below w.heap.size w w' := by
  have HIN := hide hin
  have HRT := hide (fun w h => right_at r va vb w true (hide ⟨fun _ => hr, fun _ => rfl⟩) hf h)
  obtain ⟨⟨e1, cap1, rfl, -⟩, ⟨e2, cap2, rfl, -⟩⟩ := hin
  have HK0 := hide (Keeps.one w 28 (rcA r (.slice e1 r.ts.length cap1) (.slice e2 r.ds.length cap2)))
  have HRR := hide hr
  have hlm : r.l ≤ 4611686018427387904 := hr.lm
  have hbs := enc_bounds hr
  obtain ⟨b1, b2, b3, b4, b5, b6⟩ := hbs
  go_enter Try.func21, Try.ntmps21
  go_wp2_with (refine wpList_load_at rfl 28 (.tmp 1) rfl w.heap.size rfl (rcA r (.slice e1 r.ts.length cap1) (.slice e2 r.ds.length cap2)) HK0.out.1.1 _ Try.underlying28 rfl infoRc ?_)
  refine (HRT.out _ (HIN.out.below HK0.out.2)).mono ?_
  rintro e x0 ⟨rfl, hb0⟩
  have HK1 := hide (HK0.out.later hb0)
  clear HK0 hb0 HRT
  obtain ⟨g, hg⟩ : ∃ g, g = x0.heap.size := ⟨_, rfl⟩
  have hbl := (Below.refl x0.heap.size x0).alloc (Nat.le_refl _) (.cells #[.slice none 0 0] 77)
  have HW0 : Hid (WK g x0 (x0.alloc (.cells #[.slice none 0 0] 77)) [] [(w.heap.size, 28, (rcA r (.slice e1 r.ts.length cap1) (.slice e2 r.ds.length cap2)))]) := by
    rw [hg]
    exact ⟨⟨.slice none 0 0, RowAt.new _ _ _, World.ownsRow_nil _ _ _ _⟩, Mv.later (Nat.le_refl _) hbl, HK1.out.1.1.later hbl, trivial⟩
  have hA : Hid (Aside g [(w.heap.size, 28, (rcA r (.slice e1 r.ts.length cap1) (.slice e2 r.ds.length cap2)))]) := fun e he => by
    simp only [List.mem_cons, List.not_mem_nil, or_false] at he
    subst he
    exact ⟨by show w.heap.size ≠ g; have := HK1.out.1.1.lt; rw [hg]; exact Nat.ne_of_lt this, by show (28 : TypeId) ≠ 5; decide⟩
  have HBX := hide HK1.out.2
  have HGW : Hid (w.heap.size ≤ g) := by show w.heap.size ≤ g; rw [hg]; exact HBX.out.size
  have HCX := hide (fun (y : World) (bs : List UInt8) (h : WK g x0 y bs [(w.heap.size, 28, (rcA r (.slice e1 r.ts.length cap1) (.slice e2 r.ds.length cap2)))]) => (HBX.out.trans (h.2.1.below.mono HGW.out) : Below w.heap.size w y))
  have c0 := HW0.out.2.2.1.cell 0 (.int .i64 5) (by rw [← hk]; rfl)
  clear hbl HK1
  go_wp2_with fail
  rw [← hg]
  refine gen_calls (fun x => Hid (WK g x0 x [] [(w.heap.size, 28, (rcA r (.slice e1 r.ts.length cap1) (.slice e2 r.ds.length cap2)))])) (by rw [hg]; rw [hg] at HW0; exact HW0) ?_
  clear HW0 c0 hg
  intro y0 H0
  refine (wnum_any g 1 5 [] _ H0.out.1 (by omega) (by omega) (Nat.zero_le _)).mono ?_
  rintro e y1 ⟨rfl, hw, hm⟩
  have H1 := hide (H0.out.step hw hm hA.out)
  clear hw hm H0
  have c1 := H1.out.2.2.1.cell 1 (.int .u64 (r.l : Int)) (by rfl)
  go_wp2_with fail
  refine (wnum_any g 8 r.l ([] ++ beB 1 5) _ H1.out.1 (by omega) (by omega) (by first | (simp only [List.length_append, beB_length, List.length_nil]; done) | (simp only [List.length_append, beB_length, List.length_nil]; omega))).mono ?_
  rintro e y2 ⟨rfl, hw, hm⟩
  have H2 := hide (H1.out.step hw hm hA.out)
  clear hw hm H1
  clear c1
  have c2 := H2.out.2.2.1.cell 2 (.int .i64 r.t) (by rfl)
  go_wp2_with fail
  have W := hide (wnum_any g 4 r.t.toNat (([] ++ beB 1 5) ++ beB 8 r.l) _ H2.out.1 (by omega) (by omega) (by first | (simp only [List.length_append, beB_length, List.length_nil]; done) | (simp only [List.length_append, beB_length, List.length_nil]; omega)))
  rw [Int.toNat_of_nonneg (by omega)] at W
  refine W.out.mono ?_
  clear W
  rintro e y3 ⟨rfl, hw, hm⟩
  have H3 := hide (H2.out.step hw hm hA.out)
  clear hw hm H2
  clear c2
  have c3 := H3.out.2.2.1.cell 3 (.int .u64 (r.p : Int)) (by rfl)
  have c0 := H3.out.2.2.1.cell 0 (.int .i64 5) (by rw [← hk]; rfl)
  go_wp2_with fail
  refine (wnum_any g 8 r.p ((([] ++ beB 1 5) ++ beB 8 r.l) ++ beB 4 r.t.toNat) _ H3.out.1 (by omega) (by omega) (by first | (simp only [List.length_append, beB_length, List.length_nil]; done) | (simp only [List.length_append, beB_length, List.length_nil]; omega))).mono ?_
  rintro e y4 ⟨rfl, hw, hm⟩
  have H4 := hide (H3.out.step hw hm hA.out)
  clear hw hm H3
  clear c3 c0
  have hrb : (((([] ++ beB 1 5) ++ beB 8 r.l) ++ beB 4 r.t.toNat) ++ beB 8 r.p) = recB r := by
    unfold recB mayB
    rw [hk]
    simp
  have HX := hide (HCX.out _ _ H4.out)
  obtain ⟨v, hrow, hown⟩ := H4.out.1
  have HO := hide hown
  have HRO := hide hrow
  have HRB := hide hrb
  have c0 := H4.out.2.2.1.cell 0 (.int .i64 5) (by rw [← hk]; rfl)
  clear hown hrow hrb H4 hA HIN HCX HBX
  obtain ⟨a, c, hv⟩ := own_shape HO.out
  have HV := hide hv
  clear hv
  go_wp2_with (refine wpList_load_val rfl 30 (.tmp 55) rfl _ v rfl (load_b8 _ v a _ c HV.out (HRO.out.cell 0 v rfl)) ?_)
  (try simp only [Exit.inBlock, Exit.then])
  refine bodyPost_ret (results_tmp2 rfl _ _ _) rfl ?_
  refine ⟨⟨v, rfl, ?_⟩, HX.out⟩
  have ho := HO.out
  rw [HRB.out] at ho
  exact enc_in ho
end Go.Proofs.Ytgobegpmojkhaaa

/-
  The contract of record.Encode, kind 6.
-/
namespace Go.Proofs.Ytgobegpmojkhaaa
open Go.RowKit
set_option linter.unusedVariables false

set_option maxRecDepth 4000 in
set_option maxHeartbeats 1600000 in
theorem enc_6 (r : Rec) (va vb : Value) (w : World) (hr : r.right) (hk : r.k = 6) (hf : r.fits) (hin : RcIn w r va vb) :
    Calls Try.prog 21 #[.agg (rcA r va vb)] w fun e w' => (∃ v, e = .returned (.tuple #[v, .int .i64 0]) ∧ EncIn w' v (recB r)) ∧ Below w.heap.size w w' := by
  have HIN := hide hin
  have HRT := hide (fun w h => right_at r va vb w true (hide ⟨fun _ => hr, fun _ => rfl⟩) hf h)
  obtain ⟨⟨e1, cap1, rfl, -⟩, ⟨e2, cap2, rfl, -⟩⟩ := hin
  have HK0 := hide (Keeps.one w 28 (rcA r (.slice e1 r.ts.length cap1) (.slice e2 r.ds.length cap2)))
  have HRR := hide hr
  have hlm : r.l ≤ 4611686018427387904 := hr.lm
  have hbs := enc_bounds hr
  obtain ⟨b1, b2, b3, b4, b5, b6⟩ := hbs
  go_enter Try.func21, Try.ntmps21
  go_wp2_with (refine wpList_load_at rfl 28 (.tmp 1) rfl w.heap.size rfl (rcA r (.slice e1 r.ts.length cap1) (.slice e2 r.ds.length cap2)) HK0.out.1.1 _ Try.underlying28 rfl infoRc ?_)
  refine (HRT.out _ (HIN.out.below HK0.out.2)).mono ?_
  rintro e x0 ⟨rfl, hb0⟩
  have HK1 := hide (HK0.out.later hb0)
  clear HK0 hb0 HRT
  obtain ⟨g, hg⟩ : ∃ g, g = x0.heap.size := ⟨_, rfl⟩
  have hbl := (Below.refl x0.heap.size x0).alloc (Nat.le_refl _) (.cells #[.slice none 0 0] 77)
  have HW0 : Hid (WK g x0 (x0.alloc (.cells #[.slice none 0 0] 77)) [] [(w.heap.size, 28, (rcA r (.slice e1 r.ts.length cap1) (.slice e2 r.ds.length cap2)))]) := by
    rw [hg]
    exact ⟨⟨.slice none 0 0, RowAt.new _ _ _, World.ownsRow_nil _ _ _ _⟩, Mv.later (Nat.le_refl _) hbl, HK1.out.1.1.later hbl, trivial⟩
  have hA : Hid (Aside g [(w.heap.size, 28, (rcA r (.slice e1 r.ts.length cap1) (.slice e2 r.ds.length cap2)))]) := fun e he => by
    simp only [List.mem_cons, List.not_mem_nil, or_false] at he
    subst he
    exact ⟨by show w.heap.size ≠ g; have := HK1.out.1.1.lt; rw [hg]; exact Nat.ne_of_lt this, by show (28 : TypeId) ≠ 5; decide⟩
  have HBX := hide HK1.out.2
  have HGW : Hid (w.heap.size ≤ g) := by show w.heap.size ≤ g; rw [hg]; exact HBX.out.size
  have HCX := hide (fun (y : World) (bs : List UInt8) (h : WK g x0 y bs [(w.heap.size, 28, (rcA r (.slice e1 r.ts.length cap1) (.slice e2 r.ds.length cap2)))]) => (HBX.out.trans (h.2.1.below.mono HGW.out) : Below w.heap.size w y))
  have c0 := HW0.out.2.2.1.cell 0 (.int .i64 6) (by rw [← hk]; rfl)
  clear hbl HK1
  go_wp2_with fail
  rw [← hg]
  refine gen_calls (fun x => Hid (WK g x0 x [] [(w.heap.size, 28, (rcA r (.slice e1 r.ts.length cap1) (.slice e2 r.ds.length cap2)))])) (by rw [hg]; rw [hg] at HW0; exact HW0) ?_
  clear HW0 c0 hg
  intro y0 H0
  refine (wnum_any g 1 6 [] _ H0.out.1 (by omega) (by omega) (Nat.zero_le _)).mono ?_
  rintro e y1 ⟨rfl, hw, hm⟩
  have H1 := hide (H0.out.step hw hm hA.out)
  clear hw hm H0
  have c1 := H1.out.2.2.1.cell 1 (.int .u64 (r.l : Int)) (by rfl)
  go_wp2_with fail
  refine (wnum_any g 8 r.l ([] ++ beB 1 6) _ H1.out.1 (by omega) (by omega) (by first | (simp only [List.length_append, beB_length, List.length_nil]; done) | (simp only [List.length_append, beB_length, List.length_nil]; omega))).mono ?_
  rintro e y2 ⟨rfl, hw, hm⟩
  have H2 := hide (H1.out.step hw hm hA.out)
  clear hw hm H1
  clear c1
  have c2 := H2.out.2.2.1.cell 2 (.int .i64 r.t) (by rfl)
  go_wp2_with fail
  have W := hide (wnum_any g 4 r.t.toNat (([] ++ beB 1 6) ++ beB 8 r.l) _ H2.out.1 (by omega) (by omega) (by first | (simp only [List.length_append, beB_length, List.length_nil]; done) | (simp only [List.length_append, beB_length, List.length_nil]; omega)))
  rw [Int.toNat_of_nonneg (by omega)] at W
  refine W.out.mono ?_
  clear W
  rintro e y3 ⟨rfl, hw, hm⟩
  have H3 := hide (H2.out.step hw hm hA.out)
  clear hw hm H2
  clear c2
  have c3 := H3.out.2.2.1.cell 3 (.int .u64 (r.p : Int)) (by rfl)
  have c0 := H3.out.2.2.1.cell 0 (.int .i64 6) (by rw [← hk]; rfl)
  go_wp2_with fail
  refine (wnum_any g 8 r.p ((([] ++ beB 1 6) ++ beB 8 r.l) ++ beB 4 r.t.toNat) _ H3.out.1 (by omega) (by omega) (by first | (simp only [List.length_append, beB_length, List.length_nil]; done) | (simp only [List.length_append, beB_length, List.length_nil]; omega))).mono ?_
  rintro e y4 ⟨rfl, hw, hm⟩
  have H4 := hide (H3.out.step hw hm hA.out)
  clear hw hm H3
  clear c3 c0
  have c10 := H4.out.2.2.1.cell 10 (.int .i64 r.s) (by rfl)
  have c0 := H4.out.2.2.1.cell 0 (.int .i64 6) (by rw [← hk]; rfl)
  go_wp2_with fail
  have W := hide (wnum_any g 1 r.s.toNat (((([] ++ beB 1 6) ++ beB 8 r.l) ++ beB 4 r.t.toNat) ++ beB 8 r.p) _ H4.out.1 (by omega) (by omega) (by first | (simp only [List.length_append, beB_length, List.length_nil]; done) | (simp only [List.length_append, beB_length, List.length_nil]; omega)))
  rw [Int.toNat_of_nonneg (by omega)] at W
  refine W.out.mono ?_
  clear W
  rintro e y5 ⟨rfl, hw, hm⟩
  have H5 := hide (H4.out.step hw hm hA.out)
  clear hw hm H4
  clear c10 c0
  have hrb : ((((([] ++ beB 1 6) ++ beB 8 r.l) ++ beB 4 r.t.toNat) ++ beB 8 r.p) ++ beB 1 r.s.toNat) = recB r := by
    unfold recB mayB
    rw [hk]
    simp
  have HX := hide (HCX.out _ _ H5.out)
  obtain ⟨v, hrow, hown⟩ := H5.out.1
  have HO := hide hown
  have HRO := hide hrow
  have HRB := hide hrb
  clear hown hrow hrb H5 hA HIN HCX HBX
  obtain ⟨a, c, hv⟩ := own_shape HO.out
  have HV := hide hv
  clear hv
  go_wp2_with (refine wpList_load_val rfl 30 (.tmp 55) rfl _ v rfl (load_b8 _ v a _ c HV.out (HRO.out.cell 0 v rfl)) ?_)
  (try simp only [Exit.inBlock, Exit.then])
  refine bodyPost_ret (results_tmp2 rfl _ _ _) rfl ?_
  refine ⟨⟨v, rfl, ?_⟩, HX.out⟩
  have ho := HO.out
  rw [HRB.out] at ho
  exact enc_in ho
end Go.Proofs.Ytgobegpmojkhaaa

/-
  The contract of record.Encode, kind 7.
-/
namespace Go.Proofs.Ytgobegpmojkhaaa
open Go.RowKit
set_option linter.unusedVariables false

set_option maxRecDepth 4000 in
set_option maxHeartbeats 1600000 in
theorem enc_7 (r : Rec) (va vb : Value) (w : World) (hr : r.right) (hk : r.k = 7) (hf : r.fits) (hin : RcIn w r va vb) :
    Calls Try.prog 21 #[.agg (rcA r va vb)] w fun e w' => (∃ v, e = .returned (.tuple #[v, .int .i64 0]) ∧ EncIn w' v (recB r)) ∧ Below w.heap.size w w' := by
  have HIN := hide hin
  have HRT := hide (fun w h => right_at r va vb w true (hide ⟨fun _ => hr, fun _ => rfl⟩) hf h)
  obtain ⟨⟨e1, cap1, rfl, -⟩, ⟨e2, cap2, rfl, -⟩⟩ := hin
  have HK0 := hide (Keeps.one w 28 (rcA r (.slice e1 r.ts.length cap1) (.slice e2 r.ds.length cap2)))
  have HRR := hide hr
  have hlm : r.l ≤ 4611686018427387904 := hr.lm
  have hbs := enc_bounds hr
  obtain ⟨b1, b2, b3, b4, b5, b6⟩ := hbs
  go_enter Try.func21, Try.ntmps21
  go_wp2_with (refine wpList_load_at rfl 28 (.tmp 1) rfl w.heap.size rfl (rcA r (.slice e1 r.ts.length cap1) (.slice e2 r.ds.length cap2)) HK0.out.1.1 _ Try.underlying28 rfl infoRc ?_)
  refine (HRT.out _ (HIN.out.below HK0.out.2)).mono ?_
  rintro e x0 ⟨rfl, hb0⟩
  have HK1 := hide (HK0.out.later hb0)
  clear HK0 hb0 HRT
  obtain ⟨g, hg⟩ : ∃ g, g = x0.heap.size := ⟨_, rfl⟩
  have hbl := (Below.refl x0.heap.size x0).alloc (Nat.le_refl _) (.cells #[.slice none 0 0] 77)
  have HW0 : Hid (WK g x0 (x0.alloc (.cells #[.slice none 0 0] 77)) [] [(w.heap.size, 28, (rcA r (.slice e1 r.ts.length cap1) (.slice e2 r.ds.length cap2)))]) := by
    rw [hg]
    exact ⟨⟨.slice none 0 0, RowAt.new _ _ _, World.ownsRow_nil _ _ _ _⟩, Mv.later (Nat.le_refl _) hbl, HK1.out.1.1.later hbl, trivial⟩
  have hA : Hid (Aside g [(w.heap.size, 28, (rcA r (.slice e1 r.ts.length cap1) (.slice e2 r.ds.length cap2)))]) := fun e he => by
    simp only [List.mem_cons, List.not_mem_nil, or_false] at he
    subst he
    exact ⟨by show w.heap.size ≠ g; have := HK1.out.1.1.lt; rw [hg]; exact Nat.ne_of_lt this, by show (28 : TypeId) ≠ 5; decide⟩
  have HBX := hide HK1.out.2
  have HGW : Hid (w.heap.size ≤ g) := by show w.heap.size ≤ g; rw [hg]; exact HBX.out.size
  have HCX := hide (fun (y : World) (bs : List UInt8) (h : WK g x0 y bs [(w.heap.size, 28, (rcA r (.slice e1 r.ts.length cap1) (.slice e2 r.ds.length cap2)))]) => (HBX.out.trans (h.2.1.below.mono HGW.out) : Below w.heap.size w y))
  have c0 := HW0.out.2.2.1.cell 0 (.int .i64 7) (by rw [← hk]; rfl)
  clear hbl HK1
  go_wp2_with fail
  rw [← hg]
  refine gen_calls (fun x => Hid (WK g x0 x [] [(w.heap.size, 28, (rcA r (.slice e1 r.ts.length cap1) (.slice e2 r.ds.length cap2)))])) (by rw [hg]; rw [hg] at HW0; exact HW0) ?_
  clear HW0 c0 hg
  intro y0 H0
  refine (wnum_any g 1 7 [] _ H0.out.1 (by omega) (by omega) (Nat.zero_le _)).mono ?_
  rintro e y1 ⟨rfl, hw, hm⟩
  have H1 := hide (H0.out.step hw hm hA.out)
  clear hw hm H0
  have c1 := H1.out.2.2.1.cell 1 (.int .u64 (r.l : Int)) (by rfl)
  go_wp2_with fail
  refine (wnum_any g 8 r.l ([] ++ beB 1 7) _ H1.out.1 (by omega) (by omega) (by first | (simp only [List.length_append, beB_length, List.length_nil]; done) | (simp only [List.length_append, beB_length, List.length_nil]; omega))).mono ?_
  rintro e y2 ⟨rfl, hw, hm⟩
  have H2 := hide (H1.out.step hw hm hA.out)
  clear hw hm H1
  clear c1
  have c2 := H2.out.2.2.1.cell 2 (.int .i64 r.t) (by rfl)
  go_wp2_with fail
  have W := hide (wnum_any g 4 r.t.toNat (([] ++ beB 1 7) ++ beB 8 r.l) _ H2.out.1 (by omega) (by omega) (by first | (simp only [List.length_append, beB_length, List.length_nil]; done) | (simp only [List.length_append, beB_length, List.length_nil]; omega)))
  rw [Int.toNat_of_nonneg (by omega)] at W
  refine W.out.mono ?_
  clear W
  rintro e y3 ⟨rfl, hw, hm⟩
  have H3 := hide (H2.out.step hw hm hA.out)
  clear hw hm H2
  clear c2
  have c3 := H3.out.2.2.1.cell 3 (.int .u64 (r.p : Int)) (by rfl)
  have c0 := H3.out.2.2.1.cell 0 (.int .i64 7) (by rw [← hk]; rfl)
  go_wp2_with fail
  refine (wnum_any g 8 r.p ((([] ++ beB 1 7) ++ beB 8 r.l) ++ beB 4 r.t.toNat) _ H3.out.1 (by omega) (by omega) (by first | (simp only [List.length_append, beB_length, List.length_nil]; done) | (simp only [List.length_append, beB_length, List.length_nil]; omega))).mono ?_
  rintro e y4 ⟨rfl, hw, hm⟩
  have H4 := hide (H3.out.step hw hm hA.out)
  clear hw hm H3
  clear c3 c0
  have hrb : (((([] ++ beB 1 7) ++ beB 8 r.l) ++ beB 4 r.t.toNat) ++ beB 8 r.p) = recB r := by
    unfold recB mayB
    rw [hk]
    simp
  have HX := hide (HCX.out _ _ H4.out)
  obtain ⟨v, hrow, hown⟩ := H4.out.1
  have HO := hide hown
  have HRO := hide hrow
  have HRB := hide hrb
  have c0 := H4.out.2.2.1.cell 0 (.int .i64 7) (by rw [← hk]; rfl)
  clear hown hrow hrb H4 hA HIN HCX HBX
  obtain ⟨a, c, hv⟩ := own_shape HO.out
  have HV := hide hv
  clear hv
  go_wp2_with (refine wpList_load_val rfl 30 (.tmp 55) rfl _ v rfl (load_b8 _ v a _ c HV.out (HRO.out.cell 0 v rfl)) ?_)
  (try simp only [Exit.inBlock, Exit.then])
  refine bodyPost_ret (results_tmp2 rfl _ _ _) rfl ?_
  refine ⟨⟨v, rfl, ?_⟩, HX.out⟩
  have ho := HO.out
  rw [HRB.out] at ho
  exact enc_in ho
end Go.Proofs.Ytgobegpmojkhaaa

/-
  The contract of record.Encode, kind 8.
-/
namespace Go.Proofs.Ytgobegpmojkhaaa
open Go.RowKit
set_option linter.unusedVariables false

set_option maxRecDepth 4000 in
set_option maxHeartbeats 1600000 in
theorem enc_8 (r : Rec) (va vb : Value) (w : World) (hr : r.right) (hk : r.k = 8) (hf : r.fits) (hin : RcIn w r va vb) :
    Calls Try.prog 21 #[.agg (rcA r va vb)] w fun e w' => (∃ v, e = .returned (.tuple #[v, .int .i64 0]) ∧ EncIn w' v (recB r)) ∧ Below w.heap.size w w' := by
  have HIN := hide hin
  have HRT := hide (fun w h => right_at r va vb w true (hide ⟨fun _ => hr, fun _ => rfl⟩) hf h)
  obtain ⟨⟨e1, cap1, rfl, -⟩, ⟨e2, cap2, rfl, -⟩⟩ := hin
  have HK0 := hide (Keeps.one w 28 (rcA r (.slice e1 r.ts.length cap1) (.slice e2 r.ds.length cap2)))
  have HRR := hide hr
  have hlm : r.l ≤ 4611686018427387904 := hr.lm
  have hbs := enc_bounds hr
  obtain ⟨b1, b2, b3, b4, b5, b6⟩ := hbs
  go_enter Try.func21, Try.ntmps21
  go_wp2_with (refine wpList_load_at rfl 28 (.tmp 1) rfl w.heap.size rfl (rcA r (.slice e1 r.ts.length cap1) (.slice e2 r.ds.length cap2)) HK0.out.1.1 _ Try.underlying28 rfl infoRc ?_)
  refine (HRT.out _ (HIN.out.below HK0.out.2)).mono ?_
  rintro e x0 ⟨rfl, hb0⟩
  have HK1 := hide (HK0.out.later hb0)
  clear HK0 hb0 HRT
  obtain ⟨g, hg⟩ : ∃ g, g = x0.heap.size := ⟨_, rfl⟩
  have hbl := (Below.refl x0.heap.size x0).alloc (Nat.le_refl _) (.cells #[.slice none 0 0] 77)
  have HW0 : Hid (WK g x0 (x0.alloc (.cells #[.slice none 0 0] 77)) [] [(w.heap.size, 28, (rcA r (.slice e1 r.ts.length cap1) (.slice e2 r.ds.length cap2)))]) := by
    rw [hg]
    exact ⟨⟨.slice none 0 0, RowAt.new _ _ _, World.ownsRow_nil _ _ _ _⟩, Mv.later (Nat.le_refl _) hbl, HK1.out.1.1.later hbl, trivial⟩
  have hA : Hid (Aside g [(w.heap.size, 28, (rcA r (.slice e1 r.ts.length cap1) (.slice e2 r.ds.length cap2)))]) := fun e he => by
    simp only [List.mem_cons, List.not_mem_nil, or_false] at he
    subst he
    exact ⟨by show w.heap.size ≠ g; have := HK1.out.1.1.lt; rw [hg]; exact Nat.ne_of_lt this, by show (28 : TypeId) ≠ 5; decide⟩
  have HBX := hide HK1.out.2
  have HGW : Hid (w.heap.size ≤ g) := by show w.heap.size ≤ g; rw [hg]; exact HBX.out.size
  have HCX := hide (fun (y : World) (bs : List UInt8) (h : WK g x0 y bs [(w.heap.size, 28, (rcA r (.slice e1 r.ts.length cap1) (.slice e2 r.ds.length cap2)))]) => (HBX.out.trans (h.2.1.below.mono HGW.out) : Below w.heap.size w y))
  have c0 := HW0.out.2.2.1.cell 0 (.int .i64 8) (by rw [← hk]; rfl)
  clear hbl HK1
  go_wp2_with fail
  rw [← hg]
  refine gen_calls (fun x => Hid (WK g x0 x [] [(w.heap.size, 28, (rcA r (.slice e1 r.ts.length cap1) (.slice e2 r.ds.length cap2)))])) (by rw [hg]; rw [hg] at HW0; exact HW0) ?_
  clear HW0 c0 hg
  intro y0 H0
  refine (wnum_any g 1 8 [] _ H0.out.1 (by omega) (by omega) (Nat.zero_le _)).mono ?_
  rintro e y1 ⟨rfl, hw, hm⟩
  have H1 := hide (H0.out.step hw hm hA.out)
  clear hw hm H0
  have c1 := H1.out.2.2.1.cell 1 (.int .u64 (r.l : Int)) (by rfl)
  go_wp2_with fail
  refine (wnum_any g 8 r.l ([] ++ beB 1 8) _ H1.out.1 (by omega) (by omega) (by first | (simp only [List.length_append, beB_length, List.length_nil]; done) | (simp only [List.length_append, beB_length, List.length_nil]; omega))).mono ?_
  rintro e y2 ⟨rfl, hw, hm⟩
  have H2 := hide (H1.out.step hw hm hA.out)
  clear hw hm H1
  clear c1
  have c2 := H2.out.2.2.1.cell 2 (.int .i64 r.t) (by rfl)
  go_wp2_with fail
  have W := hide (wnum_any g 4 r.t.toNat (([] ++ beB 1 8) ++ beB 8 r.l) _ H2.out.1 (by omega) (by omega) (by first | (simp only [List.length_append, beB_length, List.length_nil]; done) | (simp only [List.length_append, beB_length, List.length_nil]; omega)))
  rw [Int.toNat_of_nonneg (by omega)] at W
  refine W.out.mono ?_
  clear W
  rintro e y3 ⟨rfl, hw, hm⟩
  have H3 := hide (H2.out.step hw hm hA.out)
  clear hw hm H2
  clear c2
  have c3 := H3.out.2.2.1.cell 3 (.int .u64 (r.p : Int)) (by rfl)
  have c0 := H3.out.2.2.1.cell 0 (.int .i64 8) (by rw [← hk]; rfl)
  go_wp2_with fail
  refine (wnum_any g 8 r.p ((([] ++ beB 1 8) ++ beB 8 r.l) ++ beB 4 r.t.toNat) _ H3.out.1 (by omega) (by omega) (by first | (simp only [List.length_append, beB_length, List.length_nil]; done) | (simp only [List.length_append, beB_length, List.length_nil]; omega))).mono ?_
  rintro e y4 ⟨rfl, hw, hm⟩
  have H4 := hide (H3.out.step hw hm hA.out)
  clear hw hm H3
  clear c3 c0
  have c11 := H4.out.2.2.1.cell 11 (.int .u64 (r.b : Int)) (by rfl)
  have c0 := H4.out.2.2.1.cell 0 (.int .i64 8) (by rw [← hk]; rfl)
  go_wp2_with fail
  refine (wnum_any g 8 r.b (((([] ++ beB 1 8) ++ beB 8 r.l) ++ beB 4 r.t.toNat) ++ beB 8 r.p) _ H4.out.1 (by omega) (by omega) (by first | (simp only [List.length_append, beB_length, List.length_nil]; done) | (simp only [List.length_append, beB_length, List.length_nil]; omega))).mono ?_
  rintro e y5 ⟨rfl, hw, hm⟩
  have H5 := hide (H4.out.step hw hm hA.out)
  clear hw hm H4
  clear c11 c0
  have c12 := H5.out.2.2.1.cell 12 (.slice e1 r.ts.length cap1) (by rfl)
  go_wp2_with fail
  refine (wtxns_any g _ r.ts ((((([] ++ beB 1 8) ++ beB 8 r.l) ++ beB 4 r.t.toNat) ++ beB 8 r.p) ++ beB 8 r.b) w _ H5.out.1 HGW.out (HCX.out _ _ H5.out) HIN.out.1 (enc_txs HRR.out hk) (HRR.out.check hk).1 (by first | (simp only [List.length_append, beB_length, List.length_nil]; done) | (simp only [List.length_append, beB_length, List.length_nil]; omega))).mono ?_
  rintro e y6 ⟨rfl, hw, hm⟩
  have H6 := hide (H5.out.step hw hm hA.out)
  clear hw hm H5
  clear c12
  have c13 := H6.out.2.2.1.cell 13 (.slice e2 r.ds.length cap2) (by rfl)
  go_wp2_with fail
  refine (wdirty_any g _ r.ds (((((([] ++ beB 1 8) ++ beB 8 r.l) ++ beB 4 r.t.toNat) ++ beB 8 r.p) ++ beB 8 r.b) ++ (beB 1 r.ts.length ++ txsB r.ts)) w _ H6.out.1 HGW.out (HCX.out _ _ H6.out) HIN.out.2 (enc_dis HRR.out hk) (HRR.out.check hk).2.1 (by first | (simp only [List.length_append, beB_length, List.length_nil, txsB_len]; done) | (simp only [List.length_append, beB_length, List.length_nil, txsB_len]; omega))).mono ?_
  rintro e y7 ⟨rfl, hw, hm⟩
  have H7 := hide (H6.out.step hw hm hA.out)
  clear hw hm H6
  clear c13
  have hrb : ((((((([] ++ beB 1 8) ++ beB 8 r.l) ++ beB 4 r.t.toNat) ++ beB 8 r.p) ++ beB 8 r.b) ++ (beB 1 r.ts.length ++ txsB r.ts)) ++ (beB 1 r.ds.length ++ disB r.ds)) = recB r := by
    unfold recB mayB
    rw [hk]
    simp [checkB]
  have HX := hide (HCX.out _ _ H7.out)
  obtain ⟨v, hrow, hown⟩ := H7.out.1
  have HO := hide hown
  have HRO := hide hrow
  have HRB := hide hrb
  clear hown hrow hrb H7 hA HIN HCX HBX
  obtain ⟨a, c, hv⟩ := own_shape HO.out
  have HV := hide hv
  clear hv
  go_wp2_with (refine wpList_load_val rfl 30 (.tmp 55) rfl _ v rfl (load_b8 _ v a _ c HV.out (HRO.out.cell 0 v rfl)) ?_)
  (try simp only [Exit.inBlock, Exit.then])
  refine bodyPost_ret (results_tmp2 rfl _ _ _) rfl ?_
  refine ⟨⟨v, rfl, ?_⟩, HX.out⟩
  have ho := HO.out
  rw [HRB.out] at ho
  exact enc_in ho
end Go.Proofs.Ytgobegpmojkhaaa

/-
  The contract of quaysideref06.Right, of changes.
-/
namespace Go.Proofs.Ytgobegpmojkhaaa
open Go.RowKit
set_option linter.unusedVariables false

set_option maxRecDepth 8000 in
set_option maxHeartbeats 3200000 in
theorem rright6_1 (r : Rec) (va vb : Value) (w : World) (q : Bool) (Hq : Hid (q = true ↔ r.right)) (hk : r.k = 1) (hf : r.c.fits) (hin : RcIn w r va vb) :
    Calls Try.prog 24 #[.agg (rcA r va vb)] w fun e w' => e = .returned (.bool q) ∧ Below w.heap.size w w' := by
  have HIN := hide hin
  obtain ⟨⟨e1, cap1, rfl, -⟩, ⟨e2, cap2, rfl, -⟩⟩ := hin
  have HFI := hide hf
  clear hf
  have HK0 := hide (Keeps.one w 28 (rcA r (.slice e1 r.ts.length cap1) (.slice e2 r.ds.length cap2)))
  have HF : Hid (¬ r.right → q = false) := fun h => by
    cases q
    · rfl
    · exact absurd (Hq.out.1 rfl) h
  have HT : Hid (r.right → q = true) := fun h => Hq.out.2 h
  have HOW := hide (fun w => own_at r.k w true (hide (decide_eq_true (by omega))))
  rw [hk] at HOW
  by_cases l1 : (r.l : Int) < 1
  case pos =>
    obtain rfl := HF.out (fun h => by have := h.l1; omega)
    clear HF HT Hq HFI HIN
    obtain ⟨c0, c1, -⟩ := rc_cells HK0.out.1.1
    rw [hk] at c0
    have hb0 := HK0.out.2
    clear HK0 HOW
    go_enter Try.func24, Try.ntmps24
    go_wp2
    go_ret
    exact ⟨rfl, hb0⟩
  by_cases l2 : (4611686018427387904 : Int) < (r.l : Int)
  case pos =>
    obtain rfl := HF.out (fun h => by have := h.lm; unfold maxP at this; omega)
    clear HF HT Hq HFI HIN
    obtain ⟨c0, c1, -⟩ := rc_cells HK0.out.1.1
    rw [hk] at c0
    have hb0 := HK0.out.2
    clear HK0 HOW
    go_enter Try.func24, Try.ntmps24
    go_wp2
    go_ret
    exact ⟨rfl, hb0⟩
  obtain ⟨c0, c1, -⟩ := rc_cells HK0.out.1.1
  rw [hk] at c0
  go_enter Try.func24, Try.ntmps24
  go_wp2_with fail
  refine gen_calls (fun x => Hid (Keeps w x [(w.heap.size, 28, rcA r (.slice e1 r.ts.length cap1) (.slice e2 r.ds.length cap2))])) HK0 ?_
  clear HK0 c0 c1
  intro w0 HK0
  obtain ⟨c0, c1, c2, c3, c9, c10, c11, c12, c13⟩ := rc_cells HK0.out.1.1
  rw [hk] at c0
  have hb0 := HK0.out.2
  refine (HOW.out _).mono ?_
  rintro e w1 ⟨rfl, rfl⟩
  by_cases t1 : r.t < 1
  case pos =>
    obtain rfl := HF.out (fun h => by have := h.own (by omega); omega)
    clear HF HT Hq HFI HIN
    clear HK0 HOW c9 c10 c11 c12 c13
    go_wp2
    go_ret
    exact ⟨rfl, hb0⟩
  by_cases t2 : 1048575 < r.t
  case pos =>
    obtain rfl := HF.out (fun h => by have := h.own (by omega); omega)
    clear HF HT Hq HFI HIN
    clear HK0 HOW c9 c10 c11 c12 c13
    go_wp2
    go_ret
    exact ⟨rfl, hb0⟩
  by_cases p1 : (r.l : Int) ≤ (r.p : Int)
  case pos =>
    obtain rfl := HF.out (fun h => by have := h.own (by omega); omega)
    clear HF HT Hq HFI HIN
    clear HK0 HOW c9 c10 c11 c12 c13
    go_wp2
    go_ret
    exact ⟨rfl, hb0⟩
  go_wp2_with fail
  refine (HOW.out _).mono ?_
  rintro e w1 ⟨rfl, rfl⟩
  clear HOW
  obtain ⟨d4, d5, d6, d7, d8⟩ := rc_chg HK0.out.1.1
  go_wp2_with fail
  clear d4 d5 d6 d7 d8
  by_cases cc : r.c.right
  case neg =>
    obtain rfl := HF.out (fun h => cc (h.ch (by omega)))
    clear HF HT Hq HFI HIN
    refine (rcright_at r.c _ false (hide (decide_eq_false cc))).mono ?_
    rintro e w2 ⟨rfl, hb2⟩
    have d2 := hb0.trans (hb2.mono hb0.size)
    clear hb2 HK0 c0 c1 c2 c3 c9 c10 c11 c12 c13 cc
    go_wp2
    go_ret
    exact ⟨rfl, d2⟩
  refine (rcright_at r.c _ true (hide (decide_eq_true cc))).mono ?_
  rintro e w2 ⟨rfl, hb2⟩
  have HK2 := hide (HK0.out.later hb2)
  clear HK0 hb2 hb0 c0 c1 c2 c3 c9 c10 c11 c12 c13
  obtain ⟨c0, c1, c2, c3, c9, c10, c11, c12, c13⟩ := rc_cells HK2.out.1.1
  rw [hk] at c0
  have hb0 := HK2.out.2
  have HCC := hide cc
  clear cc HK2
  by_cases n1 : ¬ (r.n : Int) = 0
  case pos =>
    obtain rfl := HF.out (fun h => by have := h.nonext (by omega); omega)
    have n1e : ((r.n : Int) == 0) = false := by rw [beq_eq_false_iff_ne]; exact n1
    have n1f : ((r.n : Int) != 0) = true := by rw [bne, n1e]; rfl
    clear HF HT Hq HFI HIN
    clear HCC
    go_wp2
    go_ret
    exact ⟨rfl, hb0⟩
  have n1e : (r.n : Int) = 0 := Decidable.of_not_not n1
  by_cases s1 : ¬ r.s = 0
  case pos =>
    obtain rfl := HF.out (fun h => s1 (h.nosave (by omega)))
    have s1e : (r.s == 0) = false := by rw [beq_eq_false_iff_ne]; exact s1
    have s1f : (r.s != 0) = true := by rw [bne, s1e]; rfl
    clear HF HT Hq HFI HIN
    clear HCC
    go_wp2
    go_ret
    exact ⟨rfl, hb0⟩
  have s1e : r.s = 0 := Decidable.of_not_not s1
  by_cases b1 : ¬ (r.b : Int) = 0
  case pos =>
    obtain rfl := HF.out (fun h => by have := h.nocheck (by omega); omega)
    have b1e : ((r.b : Int) == 0) = false := by rw [beq_eq_false_iff_ne]; exact b1
    have b1f : ((r.b : Int) != 0) = true := by rw [bne, b1e]; rfl
    clear HF HT Hq HFI HIN
    clear HCC
    go_wp2
    go_ret
    exact ⟨rfl, hb0⟩
  have b1e : (r.b : Int) = 0 := Decidable.of_not_not b1
  by_cases z1 : ¬ (r.ts.length : Int) = 0
  case pos =>
    obtain rfl := HF.out (fun h => by have := (h.nocheck (by omega)).2.1; rw [this] at z1; exact z1 rfl)
    have z1e : ((r.ts.length : Int) == 0) = false := by rw [beq_eq_false_iff_ne]; exact z1
    have z1f : ((r.ts.length : Int) != 0) = true := by rw [bne, z1e]; rfl
    clear HF HT Hq HFI HIN
    clear HCC
    go_wp2
    go_ret
    exact ⟨rfl, hb0⟩
  have z1e : (r.ts.length : Int) = 0 := Decidable.of_not_not z1
  by_cases z2 : ¬ (r.ds.length : Int) = 0
  case pos =>
    obtain rfl := HF.out (fun h => by have := (h.nocheck (by omega)).2.2; rw [this] at z2; exact z2 rfl)
    have z2e : ((r.ds.length : Int) == 0) = false := by rw [beq_eq_false_iff_ne]; exact z2
    have z2f : ((r.ds.length : Int) != 0) = true := by rw [bne, z2e]; rfl
    clear HF HT Hq HFI HIN
    clear HCC
    go_wp2
    go_ret
    exact ⟨rfl, hb0⟩
  have z2e : (r.ds.length : Int) = 0 := Decidable.of_not_not z2
  obtain rfl := HT.out ⟨by omega, by omega, by omega, by unfold maxP; omega, fun _ => ⟨by omega, by omega, by omega⟩, fun h => absurd h (by omega), fun _ => HCC.out, fun h => absurd h (by omega), fun h => absurd h (by omega), fun _ => by omega, fun h => absurd h (by omega), fun _ => by omega, fun h => absurd h (by omega), fun _ => ⟨by omega, List.eq_nil_of_length_eq_zero (by omega), List.eq_nil_of_length_eq_zero (by omega)⟩⟩
  clear HF HT Hq HFI HIN HCC
  go_wp2
  go_ret
  exact ⟨rfl, hb0⟩

set_option maxRecDepth 8000 in
set_option maxHeartbeats 3200000 in
theorem rright6_2 (r : Rec) (va vb : Value) (w : World) (q : Bool) (Hq : Hid (q = true ↔ r.right)) (hk : r.k = 2) (hf : r.c.fits) (hin : RcIn w r va vb) :
    Calls Try.prog 24 #[.agg (rcA r va vb)] w fun e w' => e = .returned (.bool q) ∧ Below w.heap.size w w' := by
  have HIN := hide hin
  obtain ⟨⟨e1, cap1, rfl, -⟩, ⟨e2, cap2, rfl, -⟩⟩ := hin
  have HFI := hide hf
  clear hf
  have HK0 := hide (Keeps.one w 28 (rcA r (.slice e1 r.ts.length cap1) (.slice e2 r.ds.length cap2)))
  have HF : Hid (¬ r.right → q = false) := fun h => by
    cases q
    · rfl
    · exact absurd (Hq.out.1 rfl) h
  have HT : Hid (r.right → q = true) := fun h => Hq.out.2 h
  have HOW := hide (fun w => own_at r.k w true (hide (decide_eq_true (by omega))))
  rw [hk] at HOW
  by_cases l1 : (r.l : Int) < 1
  case pos =>
    obtain rfl := HF.out (fun h => by have := h.l1; omega)
    clear HF HT Hq HFI HIN
    obtain ⟨c0, c1, -⟩ := rc_cells HK0.out.1.1
    rw [hk] at c0
    have hb0 := HK0.out.2
    clear HK0 HOW
    go_enter Try.func24, Try.ntmps24
    go_wp2
    go_ret
    exact ⟨rfl, hb0⟩
  by_cases l2 : (4611686018427387904 : Int) < (r.l : Int)
  case pos =>
    obtain rfl := HF.out (fun h => by have := h.lm; unfold maxP at this; omega)
    clear HF HT Hq HFI HIN
    obtain ⟨c0, c1, -⟩ := rc_cells HK0.out.1.1
    rw [hk] at c0
    have hb0 := HK0.out.2
    clear HK0 HOW
    go_enter Try.func24, Try.ntmps24
    go_wp2
    go_ret
    exact ⟨rfl, hb0⟩
  obtain ⟨c0, c1, -⟩ := rc_cells HK0.out.1.1
  rw [hk] at c0
  go_enter Try.func24, Try.ntmps24
  go_wp2_with fail
  refine gen_calls (fun x => Hid (Keeps w x [(w.heap.size, 28, rcA r (.slice e1 r.ts.length cap1) (.slice e2 r.ds.length cap2))])) HK0 ?_
  clear HK0 c0 c1
  intro w0 HK0
  obtain ⟨c0, c1, c2, c3, c9, c10, c11, c12, c13⟩ := rc_cells HK0.out.1.1
  rw [hk] at c0
  have hb0 := HK0.out.2
  refine (HOW.out _).mono ?_
  rintro e w1 ⟨rfl, rfl⟩
  by_cases t1 : r.t < 1
  case pos =>
    obtain rfl := HF.out (fun h => by have := h.own (by omega); omega)
    clear HF HT Hq HFI HIN
    clear HK0 HOW c9 c10 c11 c12 c13
    go_wp2
    go_ret
    exact ⟨rfl, hb0⟩
  by_cases t2 : 1048575 < r.t
  case pos =>
    obtain rfl := HF.out (fun h => by have := h.own (by omega); omega)
    clear HF HT Hq HFI HIN
    clear HK0 HOW c9 c10 c11 c12 c13
    go_wp2
    go_ret
    exact ⟨rfl, hb0⟩
  by_cases p1 : (r.l : Int) ≤ (r.p : Int)
  case pos =>
    obtain rfl := HF.out (fun h => by have := h.own (by omega); omega)
    clear HF HT Hq HFI HIN
    clear HK0 HOW c9 c10 c11 c12 c13
    go_wp2
    go_ret
    exact ⟨rfl, hb0⟩
  go_wp2_with fail
  refine (HOW.out _).mono ?_
  rintro e w1 ⟨rfl, rfl⟩
  clear HOW
  obtain ⟨d4, d5, d6, d7, d8⟩ := rc_chg HK0.out.1.1
  go_wp2_with fail
  clear d4 d5 d6 d7 d8
  by_cases cc : r.c.right
  case neg =>
    obtain rfl := HF.out (fun h => cc (h.ch (by omega)))
    clear HF HT Hq HFI HIN
    refine (rcright_at r.c _ false (hide (decide_eq_false cc))).mono ?_
    rintro e w2 ⟨rfl, hb2⟩
    have d2 := hb0.trans (hb2.mono hb0.size)
    clear hb2 HK0 c0 c1 c2 c3 c9 c10 c11 c12 c13 cc
    go_wp2
    go_ret
    exact ⟨rfl, d2⟩
  refine (rcright_at r.c _ true (hide (decide_eq_true cc))).mono ?_
  rintro e w2 ⟨rfl, hb2⟩
  have HK2 := hide (HK0.out.later hb2)
  clear HK0 hb2 hb0 c0 c1 c2 c3 c9 c10 c11 c12 c13
  obtain ⟨c0, c1, c2, c3, c9, c10, c11, c12, c13⟩ := rc_cells HK2.out.1.1
  rw [hk] at c0
  have hb0 := HK2.out.2
  have HCC := hide cc
  clear cc HK2
  by_cases n1 : (r.l : Int) ≤ (r.n : Int)
  case pos =>
    obtain rfl := HF.out (fun h => by have := h.next (by omega); omega)
    clear HF HT Hq HFI HIN
    clear HCC
    go_wp2
    go_ret
    exact ⟨rfl, hb0⟩
  by_cases s1 : ¬ r.s = 0
  case pos =>
    obtain rfl := HF.out (fun h => s1 (h.nosave (by omega)))
    have s1e : (r.s == 0) = false := by rw [beq_eq_false_iff_ne]; exact s1
    have s1f : (r.s != 0) = true := by rw [bne, s1e]; rfl
    clear HF HT Hq HFI HIN
    clear HCC
    go_wp2
    go_ret
    exact ⟨rfl, hb0⟩
  have s1e : r.s = 0 := Decidable.of_not_not s1
  by_cases b1 : ¬ (r.b : Int) = 0
  case pos =>
    obtain rfl := HF.out (fun h => by have := h.nocheck (by omega); omega)
    have b1e : ((r.b : Int) == 0) = false := by rw [beq_eq_false_iff_ne]; exact b1
    have b1f : ((r.b : Int) != 0) = true := by rw [bne, b1e]; rfl
    clear HF HT Hq HFI HIN
    clear HCC
    go_wp2
    go_ret
    exact ⟨rfl, hb0⟩
  have b1e : (r.b : Int) = 0 := Decidable.of_not_not b1
  by_cases z1 : ¬ (r.ts.length : Int) = 0
  case pos =>
    obtain rfl := HF.out (fun h => by have := (h.nocheck (by omega)).2.1; rw [this] at z1; exact z1 rfl)
    have z1e : ((r.ts.length : Int) == 0) = false := by rw [beq_eq_false_iff_ne]; exact z1
    have z1f : ((r.ts.length : Int) != 0) = true := by rw [bne, z1e]; rfl
    clear HF HT Hq HFI HIN
    clear HCC
    go_wp2
    go_ret
    exact ⟨rfl, hb0⟩
  have z1e : (r.ts.length : Int) = 0 := Decidable.of_not_not z1
  by_cases z2 : ¬ (r.ds.length : Int) = 0
  case pos =>
    obtain rfl := HF.out (fun h => by have := (h.nocheck (by omega)).2.2; rw [this] at z2; exact z2 rfl)
    have z2e : ((r.ds.length : Int) == 0) = false := by rw [beq_eq_false_iff_ne]; exact z2
    have z2f : ((r.ds.length : Int) != 0) = true := by rw [bne, z2e]; rfl
    clear HF HT Hq HFI HIN
    clear HCC
    go_wp2
    go_ret
    exact ⟨rfl, hb0⟩
  have z2e : (r.ds.length : Int) = 0 := Decidable.of_not_not z2
  obtain rfl := HT.out ⟨by omega, by omega, by omega, by unfold maxP; omega, fun _ => ⟨by omega, by omega, by omega⟩, fun h => absurd h (by omega), fun _ => HCC.out, fun h => absurd h (by omega), fun _ => by omega, fun h => absurd hk h, fun h => absurd h (by omega), fun _ => by omega, fun h => absurd h (by omega), fun _ => ⟨by omega, List.eq_nil_of_length_eq_zero (by omega), List.eq_nil_of_length_eq_zero (by omega)⟩⟩
  clear HF HT Hq HFI HIN HCC
  go_wp2
  go_ret
  exact ⟨rfl, hb0⟩

end Go.Proofs.Ytgobegpmojkhaaa

/-
  The contract of quaysideref06.Right, of what ends and saves.
-/
namespace Go.Proofs.Ytgobegpmojkhaaa
open Go.RowKit
set_option linter.unusedVariables false

set_option maxRecDepth 8000 in
set_option maxHeartbeats 3200000 in
theorem rright6_345 (r : Rec) (va vb : Value) (w : World) (q : Bool) (Hq : Hid (q = true ↔ r.right)) (hk3 : 3 ≤ r.k) (hk5 : r.k ≤ 5) (hf : r.c.fits) (hin : RcIn w r va vb) :
    Calls Try.prog 24 #[.agg (rcA r va vb)] w fun e w' => e = .returned (.bool q) ∧ Below w.heap.size w w' := by
  have HIN := hide hin
  obtain ⟨⟨e1, cap1, rfl, -⟩, ⟨e2, cap2, rfl, -⟩⟩ := hin
  have HFI := hide hf
  clear hf
  have HK0 := hide (Keeps.one w 28 (rcA r (.slice e1 r.ts.length cap1) (.slice e2 r.ds.length cap2)))
  have HF : Hid (¬ r.right → q = false) := fun h => by
    cases q
    · rfl
    · exact absurd (Hq.out.1 rfl) h
  have HT : Hid (r.right → q = true) := fun h => Hq.out.2 h
  have m0 : ¬ r.k < 1 := by omega
  have m1 : ¬ 8 < r.k := by omega
  have m2 : ¬ r.k ≤ 2 := by omega
  have m3 : 2 < r.k := by omega
  have m4 : (r.k == 2) = false := by rw [beq_eq_false_iff_ne]; omega
  have m4b : (r.k != 2) = true := by rw [bne, m4]; rfl
  have m5 : (r.k == 6) = false := by rw [beq_eq_false_iff_ne]; omega
  have m5b : (r.k != 6) = true := by rw [bne, m5]; rfl
  have m6 : (r.k == 8) = false := by rw [beq_eq_false_iff_ne]; omega
  have HOW := hide (fun w => own_at r.k w true (hide (decide_eq_true (by omega))))
  by_cases l1 : (r.l : Int) < 1
  case pos =>
    obtain rfl := HF.out (fun h => by have := h.l1; omega)
    clear HF HT Hq HFI HIN
    obtain ⟨c0, c1, -⟩ := rc_cells HK0.out.1.1
    have hb0 := HK0.out.2
    clear HK0 HOW
    go_enter Try.func24, Try.ntmps24
    go_wp2
    go_ret
    exact ⟨rfl, hb0⟩
  by_cases l2 : (4611686018427387904 : Int) < (r.l : Int)
  case pos =>
    obtain rfl := HF.out (fun h => by have := h.lm; unfold maxP at this; omega)
    clear HF HT Hq HFI HIN
    obtain ⟨c0, c1, -⟩ := rc_cells HK0.out.1.1
    have hb0 := HK0.out.2
    clear HK0 HOW
    go_enter Try.func24, Try.ntmps24
    go_wp2
    go_ret
    exact ⟨rfl, hb0⟩
  obtain ⟨c0, c1, -⟩ := rc_cells HK0.out.1.1
  go_enter Try.func24, Try.ntmps24
  go_wp2_with fail
  refine gen_calls (fun x => Hid (Keeps w x [(w.heap.size, 28, rcA r (.slice e1 r.ts.length cap1) (.slice e2 r.ds.length cap2))])) HK0 ?_
  clear HK0 c0 c1
  intro w0 HK0
  obtain ⟨c0, c1, c2, c3, c9, c10, c11, c12, c13⟩ := rc_cells HK0.out.1.1
  have hb0 := HK0.out.2
  refine (HOW.out _).mono ?_
  rintro e w1 ⟨rfl, rfl⟩
  by_cases t1 : r.t < 1
  case pos =>
    obtain rfl := HF.out (fun h => by have := h.own (by omega); omega)
    clear HF HT Hq HFI HIN
    clear HK0 HOW c9 c10 c11 c12 c13
    go_wp2
    go_ret
    exact ⟨rfl, hb0⟩
  by_cases t2 : 1048575 < r.t
  case pos =>
    obtain rfl := HF.out (fun h => by have := h.own (by omega); omega)
    clear HF HT Hq HFI HIN
    clear HK0 HOW c9 c10 c11 c12 c13
    go_wp2
    go_ret
    exact ⟨rfl, hb0⟩
  by_cases p1 : (r.l : Int) ≤ (r.p : Int)
  case pos =>
    obtain rfl := HF.out (fun h => by have := h.own (by omega); omega)
    clear HF HT Hq HFI HIN
    clear HK0 HOW c9 c10 c11 c12 c13
    go_wp2
    go_ret
    exact ⟨rfl, hb0⟩
  go_wp2_with fail
  refine (HOW.out _).mono ?_
  rintro e w1 ⟨rfl, rfl⟩
  clear HOW
  obtain ⟨d4, d5, d6, d7, d8⟩ := rc_chg HK0.out.1.1
  by_cases f1 : r.c.k = 0
  case neg =>
    obtain rfl := HF.out (fun h => f1 (by rw [h.noch (by omega)]; rfl))
    clear HF HT Hq HFI HIN HK0
    go_wp2
    go_ret
    exact ⟨rfl, hb0⟩
  by_cases f2 : r.c.pg = 0
  case neg =>
    obtain rfl := HF.out (fun h => f2 (by rw [h.noch (by omega)]; rfl))
    clear HF HT Hq HFI HIN HK0
    go_wp2
    go_ret
    exact ⟨rfl, hb0⟩
  by_cases f3 : r.c.sl = 0
  case neg =>
    obtain rfl := HF.out (fun h => f3 (by rw [h.noch (by omega)]; rfl))
    clear HF HT Hq HFI HIN HK0
    go_wp2
    go_ret
    exact ⟨rfl, hb0⟩
  by_cases f4 : r.c.o.toList = []
  case neg =>
    obtain rfl := HF.out (fun h => f4 (by rw [h.noch (by omega)]; exact zero_list))
    clear HF HT Hq HFI HIN HK0
    go_wp2
    go_ret
    exact ⟨rfl, hb0⟩
  by_cases f5 : r.c.n.toList = []
  case neg =>
    obtain rfl := HF.out (fun h => f5 (by rw [h.noch (by omega)]; exact zero_list))
    clear HF HT Hq HFI HIN HK0
    go_wp2
    go_ret
    exact ⟨rfl, hb0⟩
  have HCC := hide (ch_zero r.c f1 f2 f3 f4 f5)
  by_cases n1 : ¬ (r.n : Int) = 0
  case pos =>
    obtain rfl := HF.out (fun h => by have := h.nonext (by omega); omega)
    have n1e : ((r.n : Int) == 0) = false := by rw [beq_eq_false_iff_ne]; exact n1
    have n1f : ((r.n : Int) != 0) = true := by rw [bne, n1e]; rfl
    clear HF HT Hq HFI HIN
    go_wp2
    go_ret
    exact ⟨rfl, hb0⟩
  have n1e : (r.n : Int) = 0 := Decidable.of_not_not n1
  by_cases s1 : ¬ r.s = 0
  case pos =>
    obtain rfl := HF.out (fun h => s1 (h.nosave (by omega)))
    have s1e : (r.s == 0) = false := by rw [beq_eq_false_iff_ne]; exact s1
    have s1f : (r.s != 0) = true := by rw [bne, s1e]; rfl
    clear HF HT Hq HFI HIN
    go_wp2
    go_ret
    exact ⟨rfl, hb0⟩
  have s1e : r.s = 0 := Decidable.of_not_not s1
  by_cases b1 : ¬ (r.b : Int) = 0
  case pos =>
    obtain rfl := HF.out (fun h => by have := h.nocheck (by omega); omega)
    have b1e : ((r.b : Int) == 0) = false := by rw [beq_eq_false_iff_ne]; exact b1
    have b1f : ((r.b : Int) != 0) = true := by rw [bne, b1e]; rfl
    clear HF HT Hq HFI HIN
    go_wp2
    go_ret
    exact ⟨rfl, hb0⟩
  have b1e : (r.b : Int) = 0 := Decidable.of_not_not b1
  by_cases z1 : ¬ (r.ts.length : Int) = 0
  case pos =>
    obtain rfl := HF.out (fun h => by have := (h.nocheck (by omega)).2.1; rw [this] at z1; exact z1 rfl)
    have z1e : ((r.ts.length : Int) == 0) = false := by rw [beq_eq_false_iff_ne]; exact z1
    have z1f : ((r.ts.length : Int) != 0) = true := by rw [bne, z1e]; rfl
    clear HF HT Hq HFI HIN
    go_wp2
    go_ret
    exact ⟨rfl, hb0⟩
  have z1e : (r.ts.length : Int) = 0 := Decidable.of_not_not z1
  by_cases z2 : ¬ (r.ds.length : Int) = 0
  case pos =>
    obtain rfl := HF.out (fun h => by have := (h.nocheck (by omega)).2.2; rw [this] at z2; exact z2 rfl)
    have z2e : ((r.ds.length : Int) == 0) = false := by rw [beq_eq_false_iff_ne]; exact z2
    have z2f : ((r.ds.length : Int) != 0) = true := by rw [bne, z2e]; rfl
    clear HF HT Hq HFI HIN
    go_wp2
    go_ret
    exact ⟨rfl, hb0⟩
  have z2e : (r.ds.length : Int) = 0 := Decidable.of_not_not z2
  obtain rfl := HT.out ⟨by omega, by omega, by omega, by unfold maxP; omega, fun _ => ⟨by omega, by omega, by omega⟩, fun h => absurd h (by omega), fun h => absurd h (by omega), fun _ => HCC.out, fun h => absurd h (by omega), fun _ => by omega, fun h => absurd h (by omega), fun _ => by omega, fun h => absurd h (by omega), fun _ => ⟨by omega, List.eq_nil_of_length_eq_zero (by omega), List.eq_nil_of_length_eq_zero (by omega)⟩⟩
  clear HF HT Hq HFI HIN HCC
  go_wp2
  go_ret
  exact ⟨rfl, hb0⟩

set_option maxRecDepth 8000 in
set_option maxHeartbeats 3200000 in
theorem rright6_6 (r : Rec) (va vb : Value) (w : World) (q : Bool) (Hq : Hid (q = true ↔ r.right)) (hk : r.k = 6) (hf : r.c.fits) (hin : RcIn w r va vb) :
    Calls Try.prog 24 #[.agg (rcA r va vb)] w fun e w' => e = .returned (.bool q) ∧ Below w.heap.size w w' := by
  have HIN := hide hin
  obtain ⟨⟨e1, cap1, rfl, -⟩, ⟨e2, cap2, rfl, -⟩⟩ := hin
  have HFI := hide hf
  clear hf
  have HK0 := hide (Keeps.one w 28 (rcA r (.slice e1 r.ts.length cap1) (.slice e2 r.ds.length cap2)))
  have HF : Hid (¬ r.right → q = false) := fun h => by
    cases q
    · rfl
    · exact absurd (Hq.out.1 rfl) h
  have HT : Hid (r.right → q = true) := fun h => Hq.out.2 h
  have HOW := hide (fun w => own_at r.k w true (hide (decide_eq_true (by omega))))
  rw [hk] at HOW
  by_cases l1 : (r.l : Int) < 1
  case pos =>
    obtain rfl := HF.out (fun h => by have := h.l1; omega)
    clear HF HT Hq HFI HIN
    obtain ⟨c0, c1, -⟩ := rc_cells HK0.out.1.1
    rw [hk] at c0
    have hb0 := HK0.out.2
    clear HK0 HOW
    go_enter Try.func24, Try.ntmps24
    go_wp2
    go_ret
    exact ⟨rfl, hb0⟩
  by_cases l2 : (4611686018427387904 : Int) < (r.l : Int)
  case pos =>
    obtain rfl := HF.out (fun h => by have := h.lm; unfold maxP at this; omega)
    clear HF HT Hq HFI HIN
    obtain ⟨c0, c1, -⟩ := rc_cells HK0.out.1.1
    rw [hk] at c0
    have hb0 := HK0.out.2
    clear HK0 HOW
    go_enter Try.func24, Try.ntmps24
    go_wp2
    go_ret
    exact ⟨rfl, hb0⟩
  obtain ⟨c0, c1, -⟩ := rc_cells HK0.out.1.1
  rw [hk] at c0
  go_enter Try.func24, Try.ntmps24
  go_wp2_with fail
  refine gen_calls (fun x => Hid (Keeps w x [(w.heap.size, 28, rcA r (.slice e1 r.ts.length cap1) (.slice e2 r.ds.length cap2))])) HK0 ?_
  clear HK0 c0 c1
  intro w0 HK0
  obtain ⟨c0, c1, c2, c3, c9, c10, c11, c12, c13⟩ := rc_cells HK0.out.1.1
  rw [hk] at c0
  have hb0 := HK0.out.2
  refine (HOW.out _).mono ?_
  rintro e w1 ⟨rfl, rfl⟩
  by_cases t1 : r.t < 1
  case pos =>
    obtain rfl := HF.out (fun h => by have := h.own (by omega); omega)
    clear HF HT Hq HFI HIN
    clear HK0 HOW c9 c10 c11 c12 c13
    go_wp2
    go_ret
    exact ⟨rfl, hb0⟩
  by_cases t2 : 1048575 < r.t
  case pos =>
    obtain rfl := HF.out (fun h => by have := h.own (by omega); omega)
    clear HF HT Hq HFI HIN
    clear HK0 HOW c9 c10 c11 c12 c13
    go_wp2
    go_ret
    exact ⟨rfl, hb0⟩
  by_cases p1 : (r.l : Int) ≤ (r.p : Int)
  case pos =>
    obtain rfl := HF.out (fun h => by have := h.own (by omega); omega)
    clear HF HT Hq HFI HIN
    clear HK0 HOW c9 c10 c11 c12 c13
    go_wp2
    go_ret
    exact ⟨rfl, hb0⟩
  go_wp2_with fail
  refine (HOW.out _).mono ?_
  rintro e w1 ⟨rfl, rfl⟩
  clear HOW
  obtain ⟨d4, d5, d6, d7, d8⟩ := rc_chg HK0.out.1.1
  by_cases f1 : r.c.k = 0
  case neg =>
    obtain rfl := HF.out (fun h => f1 (by rw [h.noch (by omega)]; rfl))
    clear HF HT Hq HFI HIN HK0
    go_wp2
    go_ret
    exact ⟨rfl, hb0⟩
  by_cases f2 : r.c.pg = 0
  case neg =>
    obtain rfl := HF.out (fun h => f2 (by rw [h.noch (by omega)]; rfl))
    clear HF HT Hq HFI HIN HK0
    go_wp2
    go_ret
    exact ⟨rfl, hb0⟩
  by_cases f3 : r.c.sl = 0
  case neg =>
    obtain rfl := HF.out (fun h => f3 (by rw [h.noch (by omega)]; rfl))
    clear HF HT Hq HFI HIN HK0
    go_wp2
    go_ret
    exact ⟨rfl, hb0⟩
  by_cases f4 : r.c.o.toList = []
  case neg =>
    obtain rfl := HF.out (fun h => f4 (by rw [h.noch (by omega)]; exact zero_list))
    clear HF HT Hq HFI HIN HK0
    go_wp2
    go_ret
    exact ⟨rfl, hb0⟩
  by_cases f5 : r.c.n.toList = []
  case neg =>
    obtain rfl := HF.out (fun h => f5 (by rw [h.noch (by omega)]; exact zero_list))
    clear HF HT Hq HFI HIN HK0
    go_wp2
    go_ret
    exact ⟨rfl, hb0⟩
  have HCC := hide (ch_zero r.c f1 f2 f3 f4 f5)
  by_cases n1 : ¬ (r.n : Int) = 0
  case pos =>
    obtain rfl := HF.out (fun h => by have := h.nonext (by omega); omega)
    have n1e : ((r.n : Int) == 0) = false := by rw [beq_eq_false_iff_ne]; exact n1
    have n1f : ((r.n : Int) != 0) = true := by rw [bne, n1e]; rfl
    clear HF HT Hq HFI HIN
    go_wp2
    go_ret
    exact ⟨rfl, hb0⟩
  have n1e : (r.n : Int) = 0 := Decidable.of_not_not n1
  by_cases s1 : r.s < 1
  case pos =>
    obtain rfl := HF.out (fun h => by have := h.save (by omega); omega)
    clear HF HT Hq HFI HIN
    go_wp2
    go_ret
    exact ⟨rfl, hb0⟩
  by_cases s2 : 8 < r.s
  case pos =>
    obtain rfl := HF.out (fun h => by have := h.save (by omega); omega)
    clear HF HT Hq HFI HIN
    go_wp2
    go_ret
    exact ⟨rfl, hb0⟩
  by_cases b1 : ¬ (r.b : Int) = 0
  case pos =>
    obtain rfl := HF.out (fun h => by have := h.nocheck (by omega); omega)
    have b1e : ((r.b : Int) == 0) = false := by rw [beq_eq_false_iff_ne]; exact b1
    have b1f : ((r.b : Int) != 0) = true := by rw [bne, b1e]; rfl
    clear HF HT Hq HFI HIN
    go_wp2
    go_ret
    exact ⟨rfl, hb0⟩
  have b1e : (r.b : Int) = 0 := Decidable.of_not_not b1
  by_cases z1 : ¬ (r.ts.length : Int) = 0
  case pos =>
    obtain rfl := HF.out (fun h => by have := (h.nocheck (by omega)).2.1; rw [this] at z1; exact z1 rfl)
    have z1e : ((r.ts.length : Int) == 0) = false := by rw [beq_eq_false_iff_ne]; exact z1
    have z1f : ((r.ts.length : Int) != 0) = true := by rw [bne, z1e]; rfl
    clear HF HT Hq HFI HIN
    go_wp2
    go_ret
    exact ⟨rfl, hb0⟩
  have z1e : (r.ts.length : Int) = 0 := Decidable.of_not_not z1
  by_cases z2 : ¬ (r.ds.length : Int) = 0
  case pos =>
    obtain rfl := HF.out (fun h => by have := (h.nocheck (by omega)).2.2; rw [this] at z2; exact z2 rfl)
    have z2e : ((r.ds.length : Int) == 0) = false := by rw [beq_eq_false_iff_ne]; exact z2
    have z2f : ((r.ds.length : Int) != 0) = true := by rw [bne, z2e]; rfl
    clear HF HT Hq HFI HIN
    go_wp2
    go_ret
    exact ⟨rfl, hb0⟩
  have z2e : (r.ds.length : Int) = 0 := Decidable.of_not_not z2
  obtain rfl := HT.out ⟨by omega, by omega, by omega, by unfold maxP; omega, fun _ => ⟨by omega, by omega, by omega⟩, fun h => absurd h (by omega), fun h => absurd h (by omega), fun _ => HCC.out, fun h => absurd h (by omega), fun _ => by omega, fun _ => ⟨by omega, by omega⟩, fun h => absurd hk h, fun h => absurd h (by omega), fun _ => ⟨by omega, List.eq_nil_of_length_eq_zero (by omega), List.eq_nil_of_length_eq_zero (by omega)⟩⟩
  clear HF HT Hq HFI HIN HCC
  go_wp2
  go_ret
  exact ⟨rfl, hb0⟩

end Go.Proofs.Ytgobegpmojkhaaa

/-
  The contract of quaysideref06.rows.
-/
namespace Go.Proofs.Ytgobegpmojkhaaa
open Go.RowKit
set_option linter.unusedVariables false

set_option maxRecDepth 8000 in
set_option maxHeartbeats 12800000 in
theorem rows_at (r : Rec) (va vb : Value) (w : World) (q : Bool) (Hq : Hid (q = true ↔ r.rows)) (hin : RcIn w r va vb) :
    Calls Try.prog 44 #[.agg (rcA r va vb)] w fun e w' => e = .returned (.bool q) ∧ Below w.heap.size w w' := by
  have HIN := hide hin
  obtain ⟨⟨a1, cap1, rfl, _⟩, ⟨a2, cap2, rfl, _⟩⟩ := hin
  have K0 := Keeps.one w 28 (rcA r (.slice a1 r.ts.length cap1) (.slice a2 r.ds.length cap2))
  have HK0 := hide K0
  have c12 := K0.1.1.cell 12 (.slice a1 r.ts.length cap1) rfl
  have c13 := K0.1.1.cell 13 (.slice a2 r.ds.length cap2) rfl
  have hb0 := K0.2
  clear K0
  have HF : Hid (¬ r.rows → q = false) := fun h => by
    cases q
    · rfl
    · exact absurd (Hq.out.1 rfl) h
  have HT : Hid (r.rows → q = true) := fun h => Hq.out.2 h
  by_cases h16 : 16 < r.ts.length
  · obtain rfl := HF.out (fun h => by have := h.1; omega)
    have i1 : (16 : Int) < (r.ts.length : Int) := by omega
    clear HF HT Hq HK0 HIN
    generalize r.ts.length = n1 at *
    generalize r.ds.length = n2 at *
    go_enter Try.func44, Try.ntmps44
    go_wp2
    go_ret
    exact ⟨rfl, hb0⟩
  · by_cases h32 : 32 < r.ds.length
    · obtain rfl := HF.out (fun h => by have := h.2.1; omega)
      have i1 : ¬ (16 : Int) < (r.ts.length : Int) := by omega
      have i2 : (32 : Int) < (r.ds.length : Int) := by omega
      clear HF HT Hq HK0 HIN
      generalize r.ts.length = n1 at *
      generalize r.ds.length = n2 at *
      go_enter Try.func44, Try.ntmps44
      go_wp2
      go_ret
      exact ⟨rfl, hb0⟩
    · have i1 : ¬ (16 : Int) < (r.ts.length : Int) := by omega
      have i2 : ¬ (32 : Int) < (r.ds.length : Int) := by omega
      go_enter Try.func44, Try.ntmps44
      go_wp2
      obtain ⟨A, hA⟩ : ∃ A, A = rcA r (.slice a1 r.ts.length cap1) (.slice a2 r.ds.length cap2) := ⟨_, rfl⟩
      rw [← hA] at HK0 ⊢
      have HA := hide hA
      clear hA c12 c13 hb0
      go_loopw [20] (fun v wr => ∃ j : Nat, j ≤ r.ts.length ∧ v = .int .i64 j ∧ Keeps w wr [(w.heap.size, 28, A)] ∧ ∀ i, i < j → txAt r.l r.ts i) (fun v _ => r.ts.length - (intOf v).toNat)
      case atStart => exact ⟨0, Nat.zero_le _, rfl, HK0.out, fun i hi => absurd hi (by omega)⟩
      case round =>
        obtain ⟨j, hj, rfl, hk, hat⟩ := hrel
        clear HK0
        have HK := hide hk
        have HAT := hide hat
        have c12 : wr.cell? ⟨w.heap.size, 12, none⟩ = some (.slice a1 r.ts.length cap1) := by have h := hk.1.1; rw [HA.out] at h; exact h.cell 12 _ rfl
        clear hk hat
        by_cases hlt : j < r.ts.length
        · have jlt : (j : Int) < (r.ts.length : Int) := by omega
          obtain ⟨a', cap', e', hrow⟩ := (HIN.out.1.below HK.out.2)
          cases e'
          obtain ⟨b, off, rfl, hb, hcell⟩ := hrow (by omega)
          have HRG := hide (hcell j hlt)
          have HRP := hide (fun h0 : 0 < j => hcell (j - 1) (by omega))
          have HBL := hide hb
          clear hrow hcell hb
          obtain ⟨x, hx⟩ : ∃ x, x = r.ts.getD j Tx.zero := ⟨_, rfl⟩
          have HX := hide hx
          rw [← hx] at HRG
          clear hx
          go_wp2_with (first | (refine wpList_load_mid rfl 70 (.tmp 26) rfl b (off + j * 5) (txA x) rfl HRG.out _ Try.underlying70 rfl infoTx ?_) | (refine wpList_store_at rfl 70 (.tmp 4) (.tmp 27) rfl wr.heap.size (txA Tx.zero) (txA x) rfl rfl (RowAt.new wr 70 (txA Tx.zero)) infoTx rfl (txA_one _) ?_))
          intro w2 hr2 hk2 _
          have K2 := Keeps.laid HK.out hr2 hk2
          have a0 := K2.1.1.cell 0 (.int .i64 x.t) rfl
          have a1' := K2.1.1.cell 1 (.int .i64 x.s) rfl
          have a2' := K2.1.1.cell 2 (.int .u64 (x.f : Int)) rfl
          have a3 := K2.1.1.cell 3 (.int .u64 (x.l : Int)) rfl
          have a4 := K2.1.1.cell 4 (.int .u64 (x.n : Int)) rfl
          have cl : w2.cell? ⟨w.heap.size, 1, none⟩ = some (.int .u64 (r.l : Int)) := by have h := K2.1.2.1; rw [HA.out] at h; exact h.cell 1 _ rfl
          have HK2 := hide K2
          have HB2 := hide (hk2 _ _ ((Below.refl wr.heap.size wr).alloc (Nat.le_refl _) _) (Nat.le_refl _))
          clear hr2 hk2 K2 HK c12
          generalize wr.heap.size = g at *
          have HNO : Hid (¬ txOk r.l x → q = false) := fun h => HF.out (fun hr => h (by rw [HX.out]; exact (hr.2.2.1 j hlt).1))
          by_cases t1 : x.t < 1
          · obtain rfl := HNO.out (fun h => by obtain ⟨h1, h2, h3, h4, h5, h6, h7, h8⟩ := h; omega)
            have d2 := HK2.out.2
            clear HNO HF HT Hq HIN HRG HRP HBL HX HAT HK2 HB2
            generalize r.l = rl at *
            generalize x.t = xt at *
            generalize x.s = xs at *
            generalize x.f = xf at *
            generalize x.l = xl at *
            generalize x.n = xn at *
            go_wp2
            go_ret
            exact ⟨rfl, d2⟩
          by_cases t2 : 1048575 < x.t
          · obtain rfl := HNO.out (fun h => by obtain ⟨h1, h2, h3, h4, h5, h6, h7, h8⟩ := h; omega)
            have d2 := HK2.out.2
            clear HNO HF HT Hq HIN HRG HRP HBL HX HAT HK2 HB2
            generalize r.l = rl at *
            generalize x.t = xt at *
            generalize x.s = xs at *
            generalize x.f = xf at *
            generalize x.l = xl at *
            generalize x.n = xn at *
            go_wp2
            go_ret
            exact ⟨rfl, d2⟩
          by_cases s1 : x.s < 1
          · obtain rfl := HNO.out (fun h => by obtain ⟨h1, h2, h3, h4, h5, h6, h7, h8⟩ := h; omega)
            have d2 := HK2.out.2
            clear HNO HF HT Hq HIN HRG HRP HBL HX HAT HK2 HB2
            generalize r.l = rl at *
            generalize x.t = xt at *
            generalize x.s = xs at *
            generalize x.f = xf at *
            generalize x.l = xl at *
            generalize x.n = xn at *
            go_wp2
            go_ret
            exact ⟨rfl, d2⟩
          by_cases s2 : 3 < x.s
          · obtain rfl := HNO.out (fun h => by obtain ⟨h1, h2, h3, h4, h5, h6, h7, h8⟩ := h; omega)
            have d2 := HK2.out.2
            clear HNO HF HT Hq HIN HRG HRP HBL HX HAT HK2 HB2
            generalize r.l = rl at *
            generalize x.t = xt at *
            generalize x.s = xs at *
            generalize x.f = xf at *
            generalize x.l = xl at *
            generalize x.n = xn at *
            go_wp2
            go_ret
            exact ⟨rfl, d2⟩
          by_cases f1 : (x.f : Int) < 1
          · obtain rfl := HNO.out (fun h => by obtain ⟨h1, h2, h3, h4, h5, h6, h7, h8⟩ := h; omega)
            have d2 := HK2.out.2
            clear HNO HF HT Hq HIN HRG HRP HBL HX HAT HK2 HB2
            generalize r.l = rl at *
            generalize x.t = xt at *
            generalize x.s = xs at *
            generalize x.f = xf at *
            generalize x.l = xl at *
            generalize x.n = xn at *
            go_wp2
            go_ret
            exact ⟨rfl, d2⟩
          by_cases f2 : (x.l : Int) < (x.f : Int)
          · obtain rfl := HNO.out (fun h => by obtain ⟨h1, h2, h3, h4, h5, h6, h7, h8⟩ := h; omega)
            have d2 := HK2.out.2
            clear HNO HF HT Hq HIN HRG HRP HBL HX HAT HK2 HB2
            generalize r.l = rl at *
            generalize x.t = xt at *
            generalize x.s = xs at *
            generalize x.f = xf at *
            generalize x.l = xl at *
            generalize x.n = xn at *
            go_wp2
            go_ret
            exact ⟨rfl, d2⟩
          by_cases l1 : (r.l : Int) ≤ (x.l : Int)
          · obtain rfl := HNO.out (fun h => by obtain ⟨h1, h2, h3, h4, h5, h6, h7, h8⟩ := h; omega)
            have d2 := HK2.out.2
            clear HNO HF HT Hq HIN HRG HRP HBL HX HAT HK2 HB2
            generalize r.l = rl at *
            generalize x.t = xt at *
            generalize x.s = xs at *
            generalize x.f = xf at *
            generalize x.l = xl at *
            generalize x.n = xn at *
            go_wp2
            go_ret
            exact ⟨rfl, d2⟩
          by_cases n1 : (x.l : Int) < (x.n : Int)
          · obtain rfl := HNO.out (fun h => by obtain ⟨h1, h2, h3, h4, h5, h6, h7, h8⟩ := h; omega)
            have d2 := HK2.out.2
            clear HNO HF HT Hq HIN HRG HRP HBL HX HAT HK2 HB2
            generalize r.l = rl at *
            generalize x.t = xt at *
            generalize x.s = xs at *
            generalize x.f = xf at *
            generalize x.l = xl at *
            generalize x.n = xn at *
            go_wp2
            go_ret
            exact ⟨rfl, d2⟩
          have HOK : Hid (txOk r.l x) := ⟨by omega, by omega, by omega, by omega, by omega, by omega, by omega, by omega⟩
          by_cases hj0 : j = 0
          · subst hj0
            clear HRP HBL HB2 HRG
            go_wp2_with fail
            clear a0 a1' a2' a3 a4 cl t1 t2 s1 s2 f1 f2 l1 n1
            refine wp_region_in (fun y => Keeps w y [(g, 70, txA x), (w.heap.size, 28, A)]) (by kernel_rfl) (by kernel_rfl) HK2.out.drew ?_
            clear HK2
            repeat (first
              | go_big_quiet_skip
              | (refine wpQuiet_plain rfl (fun K hK => ?_); go_simp; refine hK _ ?_; clear hK K))
            refine wpQuiet_nil ?_
            intro w3 h3
            have H3 := hide h3
            clear h3
            go_wp2
            go_roundw
            case rel => exact ⟨1, by omega, by go_num, ⟨H3.out.1.2, H3.out.2⟩, at_more HAT.out ⟨by rw [← HX.out]; exact HOK.out, fun h => absurd h (by omega)⟩⟩
            case measure => simp [intOf]; omega
          · obtain ⟨k, rfl⟩ : ∃ k, j = k + 1 := ⟨j - 1, by omega⟩
            obtain ⟨xp, hxp⟩ : ∃ xp, xp = r.ts.getD k Tx.zero := ⟨_, rfl⟩
            have HXP := hide hxp
            have HRP2 := hide (rangeAt_below (HRP.out (by omega)) HB2.out HBL.out)
            rw [show k + 1 - 1 = k by omega, ← hxp] at HRP2
            clear hxp HRP HBL HB2 HRG
            have e0 : IntKind.i64.wrap (k : Int) = (k : Int) := by rw [IntKind.wrap_i64]; omega
            have e00 : IntKind.i64.wrap ((k : Int) + 1 - 1) = (k : Int) := by rw [IntKind.wrap_i64]; omega
            have klt : (k : Int) < (r.ts.length : Int) := by omega
            go_wp2_with fail
            clear a0 a1' a2' a3 a4 cl t1 t2 s1 s2 f1 f2 l1 n1
            refine wp_region_in (fun y => Keeps w y [(g, 70, txA x), (w.heap.size, 28, A)] ∧ y.rangeAt b (off + k * 5) (txA xp).toList) (by kernel_rfl) (by kernel_rfl) ⟨HK2.out.drew, HRP2.out⟩ ?_
            clear HK2 HRP2
            by_cases hge : x.t ≤ xp.t
            · obtain rfl := HF.out (fun hr => by have h := (hr.2.2.1 (k + 1) hlt).2 (by omega); rw [show k + 1 - 1 = k by omega, ← HXP.out, ← HX.out] at h; omega)
              repeat (first
                | go_big_quiet_skip
                | (refine wpQuiet_load rfl 25 (.tmp 75) rfl _ (.slice (some ⟨b, off, none⟩) r.ts.length cap1) rfl (fun y hy => load_txs y _ _ _ (show y.cell? ⟨w.heap.size, 12, none⟩ = _ from by have h := hy.1.1.2.1; rw [HA.out] at h; exact h.cell 12 _ rfl)) ?_; simp only [Act.put, Array.setIfInBounds, List.size_toArray, List.length_cons, List.length_nil, Nat.reduceAdd, Nat.reduceLT, ↓reduceDIte, List.set_toArray, List.set_cons_succ, List.set_cons_zero])
                | (refine wpQuiet_load rfl 3 (.tmp 80) rfl _ (.int .i64 xp.t) rfl (fun y hy => load_i64 y _ (hy.2 0 (.int .i64 xp.t) rfl)) ?_; simp only [Act.put, Array.setIfInBounds, List.size_toArray, List.length_cons, List.length_nil, Nat.reduceAdd, Nat.reduceLT, ↓reduceDIte, List.set_toArray, List.set_cons_succ, List.set_cons_zero])
                | (refine wpQuiet_load rfl 3 (.tmp 82) rfl _ (.int .i64 x.t) rfl (fun y hy => load_i64 y _ (hy.1.1.1.cell 0 (.int .i64 x.t) rfl)) ?_; simp only [Act.put, Array.setIfInBounds, List.size_toArray, List.length_cons, List.length_nil, Nat.reduceAdd, Nat.reduceLT, ↓reduceDIte, List.set_toArray, List.set_cons_succ, List.set_cons_zero])
                | (refine wpQuiet_plain rfl (fun K hK => ?_); go_simp; refine hK _ ?_; clear hK K))
              refine wpQuiet_nil ?_
              intro w3 h3
              have d3 := h3.1.2
              clear h3
              go_wp2
              go_ret
              exact ⟨rfl, d3⟩
            · skip
              repeat (first
                | go_big_quiet_skip
                | (refine wpQuiet_load rfl 25 (.tmp 75) rfl _ (.slice (some ⟨b, off, none⟩) r.ts.length cap1) rfl (fun y hy => load_txs y _ _ _ (show y.cell? ⟨w.heap.size, 12, none⟩ = _ from by have h := hy.1.1.2.1; rw [HA.out] at h; exact h.cell 12 _ rfl)) ?_; simp only [Act.put, Array.setIfInBounds, List.size_toArray, List.length_cons, List.length_nil, Nat.reduceAdd, Nat.reduceLT, ↓reduceDIte, List.set_toArray, List.set_cons_succ, List.set_cons_zero])
                | (refine wpQuiet_load rfl 3 (.tmp 80) rfl _ (.int .i64 xp.t) rfl (fun y hy => load_i64 y _ (hy.2 0 (.int .i64 xp.t) rfl)) ?_; simp only [Act.put, Array.setIfInBounds, List.size_toArray, List.length_cons, List.length_nil, Nat.reduceAdd, Nat.reduceLT, ↓reduceDIte, List.set_toArray, List.set_cons_succ, List.set_cons_zero])
                | (refine wpQuiet_load rfl 3 (.tmp 82) rfl _ (.int .i64 x.t) rfl (fun y hy => load_i64 y _ (hy.1.1.1.cell 0 (.int .i64 x.t) rfl)) ?_; simp only [Act.put, Array.setIfInBounds, List.size_toArray, List.length_cons, List.length_nil, Nat.reduceAdd, Nat.reduceLT, ↓reduceDIte, List.set_toArray, List.set_cons_succ, List.set_cons_zero])
                | (refine wpQuiet_plain rfl (fun K hK => ?_); go_simp; refine hK _ ?_; clear hK K))
              refine wpQuiet_nil ?_
              intro w3 h3
              have H3 := hide h3.1
              clear h3
              go_wp2
              go_roundw
              case rel => exact ⟨k + 1 + 1, by omega, by go_num, ⟨H3.out.1.2, H3.out.2⟩, at_more HAT.out ⟨by rw [← HX.out]; exact HOK.out, fun h => by rw [show k + 1 - 1 = k by omega, ← HXP.out, ← HX.out]; omega⟩⟩
              case measure => simp [intOf]; omega
        · have jge : ¬ (j : Int) < (r.ts.length : Int) := by omega
          obtain rfl : j = r.ts.length := by omega
          have HTS := hide HAT.out
          have HK1 := hide HK.out
          have c13 : wr.cell? ⟨w.heap.size, 13, none⟩ = some (.slice a2 r.ds.length cap2) := by have h := HK.out.1.1; rw [HA.out] at h; exact h.cell 13 _ rfl
          clear HAT HK hlt hj jge c12
          go_wp2
          clear c13
          go_loopw [90] (fun v wq => ∃ j : Nat, j ≤ r.ds.length ∧ v = .int .i64 j ∧ Keeps w wq [(w.heap.size, 28, A)] ∧ ∀ i, i < j → diAt r.l r.ds i) (fun v _ => r.ds.length - (intOf v).toNat)
          case atStart => exact ⟨0, Nat.zero_le _, rfl, HK1.out, fun i hi => absurd hi (by omega)⟩
          case round =>
            obtain ⟨j, hj, rfl, hk, hat⟩ := hrel
            clear HK1
            have HK := hide hk
            have HAT := hide hat
            have c13 : wr.cell? ⟨w.heap.size, 13, none⟩ = some (.slice a2 r.ds.length cap2) := by have h := hk.1.1; rw [HA.out] at h; exact h.cell 13 _ rfl
            clear hk hat
            by_cases hlt : j < r.ds.length
            · have jlt : (j : Int) < (r.ds.length : Int) := by omega
              obtain ⟨a', cap', e', hrow⟩ := (HIN.out.2.below HK.out.2)
              cases e'
              obtain ⟨b, off, rfl, hb, hcell⟩ := hrow (by omega)
              have HRG := hide (hcell j hlt)
              have HRP := hide (fun h0 : 0 < j => hcell (j - 1) (by omega))
              have HBL := hide hb
              clear hrow hcell hb
              obtain ⟨x, hx⟩ : ∃ x, x = r.ds.getD j Di.zero := ⟨_, rfl⟩
              have HX := hide hx
              rw [← hx] at HRG
              clear hx
              go_wp2_with (first | (refine wpList_load_mid rfl 72 (.tmp 96) rfl b (off + j * 2) (diA x) rfl HRG.out _ Try.underlying72 rfl infoDi ?_) | (refine wpList_store_at rfl 72 (.tmp 6) (.tmp 97) rfl wr.heap.size (diA Di.zero) (diA x) rfl rfl (RowAt.new wr 72 (diA Di.zero)) infoDi rfl (diA_one _) ?_))
              intro w2 hr2 hk2 _
              have K2 := Keeps.laid HK.out hr2 hk2
              have a0 := K2.1.1.cell 0 (.int .i64 x.p) rfl
              have a1' := K2.1.1.cell 1 (.int .u64 (x.r : Int)) rfl
              have cl : w2.cell? ⟨w.heap.size, 1, none⟩ = some (.int .u64 (r.l : Int)) := by have h := K2.1.2.1; rw [HA.out] at h; exact h.cell 1 _ rfl
              have HK2 := hide K2
              have HB2 := hide (hk2 _ _ ((Below.refl wr.heap.size wr).alloc (Nat.le_refl _) _) (Nat.le_refl _))
              clear hr2 hk2 K2 HK c13
              generalize wr.heap.size = g at *
              have HNO : Hid (¬ diOk r.l x → q = false) := fun h => HF.out (fun hr => h (by rw [HX.out]; exact (hr.2.2.2.1 j hlt).1))
              by_cases p1 : x.p < 0
              · obtain rfl := HNO.out (fun h => by obtain ⟨h1, h2, h3, h4⟩ := h; omega)
                have d2 := HK2.out.2
                clear HNO HF HT Hq HIN HRG HRP HBL HX HAT HK2 HB2 HTS
                generalize r.l = rl at *
                generalize x.p = xp at *
                generalize x.r = xr at *
                go_wp2
                go_ret
                exact ⟨rfl, d2⟩
              by_cases p2 : 31 < x.p
              · obtain rfl := HNO.out (fun h => by obtain ⟨h1, h2, h3, h4⟩ := h; omega)
                have d2 := HK2.out.2
                clear HNO HF HT Hq HIN HRG HRP HBL HX HAT HK2 HB2 HTS
                generalize r.l = rl at *
                generalize x.p = xp at *
                generalize x.r = xr at *
                go_wp2
                go_ret
                exact ⟨rfl, d2⟩
              by_cases r1 : (x.r : Int) < 1
              · obtain rfl := HNO.out (fun h => by obtain ⟨h1, h2, h3, h4⟩ := h; omega)
                have d2 := HK2.out.2
                clear HNO HF HT Hq HIN HRG HRP HBL HX HAT HK2 HB2 HTS
                generalize r.l = rl at *
                generalize x.p = xp at *
                generalize x.r = xr at *
                go_wp2
                go_ret
                exact ⟨rfl, d2⟩
              by_cases r2 : (r.l : Int) ≤ (x.r : Int)
              · obtain rfl := HNO.out (fun h => by obtain ⟨h1, h2, h3, h4⟩ := h; omega)
                have d2 := HK2.out.2
                clear HNO HF HT Hq HIN HRG HRP HBL HX HAT HK2 HB2 HTS
                generalize r.l = rl at *
                generalize x.p = xp at *
                generalize x.r = xr at *
                go_wp2
                go_ret
                exact ⟨rfl, d2⟩
              have HOK : Hid (diOk r.l x) := ⟨by omega, by omega, by omega, by omega⟩
              by_cases hj0 : j = 0
              · subst hj0
                clear HRP HBL HB2 HRG
                go_wp2_with fail
                clear a0 a1' cl p1 p2 r1 r2
                refine wp_region_in (fun y => Keeps w y [(g, 72, diA x), (w.heap.size, 28, A)]) (by kernel_rfl) (by kernel_rfl) HK2.out.drew ?_
                clear HK2
                repeat (first
                  | go_big_quiet_skip
                  | (refine wpQuiet_plain rfl (fun K hK => ?_); go_simp; refine hK _ ?_; clear hK K))
                refine wpQuiet_nil ?_
                intro w3 h3
                have H3 := hide h3
                clear h3
                go_wp2
                go_roundw
                case rel => exact ⟨1, by omega, by go_num, ⟨H3.out.1.2, H3.out.2⟩, at_more HAT.out ⟨by rw [← HX.out]; exact HOK.out, fun h => absurd h (by omega)⟩⟩
                case measure => simp [intOf]; omega
              · obtain ⟨k, rfl⟩ : ∃ k, j = k + 1 := ⟨j - 1, by omega⟩
                obtain ⟨xp, hxp⟩ : ∃ xp, xp = r.ds.getD k Di.zero := ⟨_, rfl⟩
                have HXP := hide hxp
                have HRP2 := hide (rangeAt_below (HRP.out (by omega)) HB2.out HBL.out)
                rw [show k + 1 - 1 = k by omega, ← hxp] at HRP2
                clear hxp HRP HBL HB2 HRG
                have e0 : IntKind.i64.wrap (k : Int) = (k : Int) := by rw [IntKind.wrap_i64]; omega
                have e00 : IntKind.i64.wrap ((k : Int) + 1 - 1) = (k : Int) := by rw [IntKind.wrap_i64]; omega
                have klt : (k : Int) < (r.ds.length : Int) := by omega
                go_wp2_with fail
                clear a0 a1' cl p1 p2 r1 r2
                refine wp_region_in (fun y => Keeps w y [(g, 72, diA x), (w.heap.size, 28, A)] ∧ y.rangeAt b (off + k * 2) (diA xp).toList) (by kernel_rfl) (by kernel_rfl) ⟨HK2.out.drew, HRP2.out⟩ ?_
                clear HK2 HRP2
                by_cases hge : x.p ≤ xp.p
                · obtain rfl := HF.out (fun hr => by have h := (hr.2.2.2.1 (k + 1) hlt).2 (by omega); rw [show k + 1 - 1 = k by omega, ← HXP.out, ← HX.out] at h; omega)
                  repeat (first
                    | go_big_quiet_skip
                    | (refine wpQuiet_load rfl 26 (.tmp 121) rfl _ (.slice (some ⟨b, off, none⟩) r.ds.length cap2) rfl (fun y hy => load_dis y _ _ _ (show y.cell? ⟨w.heap.size, 13, none⟩ = _ from by have h := hy.1.1.2.1; rw [HA.out] at h; exact h.cell 13 _ rfl)) ?_; simp only [Act.put, Array.setIfInBounds, List.size_toArray, List.length_cons, List.length_nil, Nat.reduceAdd, Nat.reduceLT, ↓reduceDIte, List.set_toArray, List.set_cons_succ, List.set_cons_zero])
                    | (refine wpQuiet_load rfl 3 (.tmp 126) rfl _ (.int .i64 xp.p) rfl (fun y hy => load_i64 y _ (hy.2 0 (.int .i64 xp.p) rfl)) ?_; simp only [Act.put, Array.setIfInBounds, List.size_toArray, List.length_cons, List.length_nil, Nat.reduceAdd, Nat.reduceLT, ↓reduceDIte, List.set_toArray, List.set_cons_succ, List.set_cons_zero])
                    | (refine wpQuiet_load rfl 3 (.tmp 128) rfl _ (.int .i64 x.p) rfl (fun y hy => load_i64 y _ (hy.1.1.1.cell 0 (.int .i64 x.p) rfl)) ?_; simp only [Act.put, Array.setIfInBounds, List.size_toArray, List.length_cons, List.length_nil, Nat.reduceAdd, Nat.reduceLT, ↓reduceDIte, List.set_toArray, List.set_cons_succ, List.set_cons_zero])
                    | (refine wpQuiet_plain rfl (fun K hK => ?_); go_simp; refine hK _ ?_; clear hK K))
                  refine wpQuiet_nil ?_
                  intro w3 h3
                  have d3 := h3.1.2
                  clear h3
                  go_wp2
                  go_ret
                  exact ⟨rfl, d3⟩
                · skip
                  repeat (first
                    | go_big_quiet_skip
                    | (refine wpQuiet_load rfl 26 (.tmp 121) rfl _ (.slice (some ⟨b, off, none⟩) r.ds.length cap2) rfl (fun y hy => load_dis y _ _ _ (show y.cell? ⟨w.heap.size, 13, none⟩ = _ from by have h := hy.1.1.2.1; rw [HA.out] at h; exact h.cell 13 _ rfl)) ?_; simp only [Act.put, Array.setIfInBounds, List.size_toArray, List.length_cons, List.length_nil, Nat.reduceAdd, Nat.reduceLT, ↓reduceDIte, List.set_toArray, List.set_cons_succ, List.set_cons_zero])
                    | (refine wpQuiet_load rfl 3 (.tmp 126) rfl _ (.int .i64 xp.p) rfl (fun y hy => load_i64 y _ (hy.2 0 (.int .i64 xp.p) rfl)) ?_; simp only [Act.put, Array.setIfInBounds, List.size_toArray, List.length_cons, List.length_nil, Nat.reduceAdd, Nat.reduceLT, ↓reduceDIte, List.set_toArray, List.set_cons_succ, List.set_cons_zero])
                    | (refine wpQuiet_load rfl 3 (.tmp 128) rfl _ (.int .i64 x.p) rfl (fun y hy => load_i64 y _ (hy.1.1.1.cell 0 (.int .i64 x.p) rfl)) ?_; simp only [Act.put, Array.setIfInBounds, List.size_toArray, List.length_cons, List.length_nil, Nat.reduceAdd, Nat.reduceLT, ↓reduceDIte, List.set_toArray, List.set_cons_succ, List.set_cons_zero])
                    | (refine wpQuiet_plain rfl (fun K hK => ?_); go_simp; refine hK _ ?_; clear hK K))
                  refine wpQuiet_nil ?_
                  intro w3 h3
                  have H3 := hide h3.1
                  clear h3
                  go_wp2
                  go_roundw
                  case rel => exact ⟨k + 1 + 1, by omega, by go_num, ⟨H3.out.1.2, H3.out.2⟩, at_more HAT.out ⟨by rw [← HX.out]; exact HOK.out, fun h => by rw [show k + 1 - 1 = k by omega, ← HXP.out, ← HX.out]; omega⟩⟩
                  case measure => simp [intOf]; omega
            · have jge : ¬ (j : Int) < (r.ds.length : Int) := by omega
              obtain rfl : j = r.ds.length := by omega
              have c11 : wr.cell? ⟨w.heap.size, 11, none⟩ = some (.int .u64 (r.b : Int)) := by have h := HK.out.1.1; rw [HA.out] at h; exact h.cell 11 _ rfl
              have cl : wr.cell? ⟨w.heap.size, 1, none⟩ = some (.int .u64 (r.l : Int)) := by have h := HK.out.1.1; rw [HA.out] at h; exact h.cell 1 _ rfl
              have d2 := HK.out.2
              have HRB : Hid (1 ≤ r.b → r.b < r.l → q = true) := fun h1 h2 => HT.out ⟨by omega, by omega, HTS.out, HAT.out, h1, h2⟩
              have HRN : Hid (¬ (1 ≤ r.b ∧ r.b < r.l) → q = false) := fun h => HF.out (fun hr => h ⟨hr.2.2.2.2.1, hr.2.2.2.2.2⟩)
              clear HTS HAT HK HT HF Hq HIN HA c13 hlt hj
              generalize r.l = rl at *
              generalize r.b = rb at *
              by_cases b1 : (1 : Int) ≤ (rb : Int)
              · by_cases b2 : (rb : Int) < (rl : Int)
                · obtain rfl := HRB.out (by omega) (by omega)
                  go_wp2
                  go_ret
                  exact ⟨rfl, d2⟩
                · obtain rfl := HRN.out (by omega)
                  go_wp2
                  go_ret
                  exact ⟨rfl, d2⟩
              · obtain rfl := HRN.out (by omega)
                go_wp2
                go_ret
                exact ⟨rfl, d2⟩

/-- THE CONTRACT. -/
noncomputable def Rec.rowsB (r : Rec) : Bool := @decide r.rows (Classical.propDecidable _)
theorem rowsB_iff {r : Rec} : r.rowsB = true ↔ r.rows := by
  unfold Rec.rowsB
  exact @decide_eq_true_iff _ (Classical.propDecidable _)
theorem rows_any (r : Rec) (va vb : Value) (w : World) (hin : RcIn w r va vb) :
    Calls Try.prog 44 #[.agg (rcA r va vb)] w fun e w' => e = .returned (.bool r.rowsB) ∧ Below w.heap.size w w' := rows_at r va vb w _ (hide rowsB_iff) hin
end Go.Proofs.Ytgobegpmojkhaaa

/-
  The contract of quaysideref06.Right, of checkpoints.
-/
namespace Go.Proofs.Ytgobegpmojkhaaa
open Go.RowKit
set_option linter.unusedVariables false

set_option maxRecDepth 8000 in
set_option maxHeartbeats 3200000 in
theorem rright6_7 (r : Rec) (va vb : Value) (w : World) (q : Bool) (Hq : Hid (q = true ↔ r.right)) (hk : r.k = 7) (hf : r.c.fits) (hin : RcIn w r va vb) :
    Calls Try.prog 24 #[.agg (rcA r va vb)] w fun e w' => e = .returned (.bool q) ∧ Below w.heap.size w w' := by
  have HIN := hide hin
  obtain ⟨⟨e1, cap1, rfl, -⟩, ⟨e2, cap2, rfl, -⟩⟩ := hin
  have HFI := hide hf
  clear hf
  have HK0 := hide (Keeps.one w 28 (rcA r (.slice e1 r.ts.length cap1) (.slice e2 r.ds.length cap2)))
  have HF : Hid (¬ r.right → q = false) := fun h => by
    cases q
    · rfl
    · exact absurd (Hq.out.1 rfl) h
  have HT : Hid (r.right → q = true) := fun h => Hq.out.2 h
  have HOW := hide (fun w => own_at r.k w false (hide (decide_eq_false (by omega))))
  rw [hk] at HOW
  by_cases l1 : (r.l : Int) < 1
  case pos =>
    obtain rfl := HF.out (fun h => by have := h.l1; omega)
    clear HF HT Hq HFI HIN
    obtain ⟨c0, c1, -⟩ := rc_cells HK0.out.1.1
    rw [hk] at c0
    have hb0 := HK0.out.2
    clear HK0 HOW
    go_enter Try.func24, Try.ntmps24
    go_wp2
    go_ret
    exact ⟨rfl, hb0⟩
  by_cases l2 : (4611686018427387904 : Int) < (r.l : Int)
  case pos =>
    obtain rfl := HF.out (fun h => by have := h.lm; unfold maxP at this; omega)
    clear HF HT Hq HFI HIN
    obtain ⟨c0, c1, -⟩ := rc_cells HK0.out.1.1
    rw [hk] at c0
    have hb0 := HK0.out.2
    clear HK0 HOW
    go_enter Try.func24, Try.ntmps24
    go_wp2
    go_ret
    exact ⟨rfl, hb0⟩
  obtain ⟨c0, c1, -⟩ := rc_cells HK0.out.1.1
  rw [hk] at c0
  go_enter Try.func24, Try.ntmps24
  go_wp2_with fail
  refine gen_calls (fun x => Hid (Keeps w x [(w.heap.size, 28, rcA r (.slice e1 r.ts.length cap1) (.slice e2 r.ds.length cap2))])) HK0 ?_
  clear HK0 c0 c1
  intro w0 HK0
  obtain ⟨c0, c1, c2, c3, c9, c10, c11, c12, c13⟩ := rc_cells HK0.out.1.1
  rw [hk] at c0
  have hb0 := HK0.out.2
  refine (HOW.out _).mono ?_
  rintro e w1 ⟨rfl, rfl⟩
  go_wp2_with fail
  refine (HOW.out _).mono ?_
  rintro e w1 ⟨rfl, rfl⟩
  clear HOW
  by_cases t1 : ¬ r.t = 0
  case pos =>
    obtain rfl := HF.out (fun h => t1 (h.none (by omega)).1)
    have t1e : (r.t == 0) = false := by rw [beq_eq_false_iff_ne]; exact t1
    have t1f : (r.t != 0) = true := by rw [bne, t1e]; rfl
    clear HF HT Hq HFI HIN
    clear HK0 c9 c10 c11 c12 c13
    go_wp2
    go_ret
    exact ⟨rfl, hb0⟩
  have t1e : r.t = 0 := Decidable.of_not_not t1
  by_cases p1 : ¬ (r.p : Int) = 0
  case pos =>
    obtain rfl := HF.out (fun h => by have := h.none (by omega); omega)
    have p1e : ((r.p : Int) == 0) = false := by rw [beq_eq_false_iff_ne]; exact p1
    have p1f : ((r.p : Int) != 0) = true := by rw [bne, p1e]; rfl
    clear HF HT Hq HFI HIN
    clear HK0 c9 c10 c11 c12 c13
    go_wp2
    go_ret
    exact ⟨rfl, hb0⟩
  have p1e : (r.p : Int) = 0 := Decidable.of_not_not p1
  obtain ⟨d4, d5, d6, d7, d8⟩ := rc_chg HK0.out.1.1
  by_cases f1 : r.c.k = 0
  case neg =>
    obtain rfl := HF.out (fun h => f1 (by rw [h.noch (by omega)]; rfl))
    clear HF HT Hq HFI HIN HK0
    go_wp2
    go_ret
    exact ⟨rfl, hb0⟩
  by_cases f2 : r.c.pg = 0
  case neg =>
    obtain rfl := HF.out (fun h => f2 (by rw [h.noch (by omega)]; rfl))
    clear HF HT Hq HFI HIN HK0
    go_wp2
    go_ret
    exact ⟨rfl, hb0⟩
  by_cases f3 : r.c.sl = 0
  case neg =>
    obtain rfl := HF.out (fun h => f3 (by rw [h.noch (by omega)]; rfl))
    clear HF HT Hq HFI HIN HK0
    go_wp2
    go_ret
    exact ⟨rfl, hb0⟩
  by_cases f4 : r.c.o.toList = []
  case neg =>
    obtain rfl := HF.out (fun h => f4 (by rw [h.noch (by omega)]; exact zero_list))
    clear HF HT Hq HFI HIN HK0
    go_wp2
    go_ret
    exact ⟨rfl, hb0⟩
  by_cases f5 : r.c.n.toList = []
  case neg =>
    obtain rfl := HF.out (fun h => f5 (by rw [h.noch (by omega)]; exact zero_list))
    clear HF HT Hq HFI HIN HK0
    go_wp2
    go_ret
    exact ⟨rfl, hb0⟩
  have HCC := hide (ch_zero r.c f1 f2 f3 f4 f5)
  by_cases n1 : ¬ (r.n : Int) = 0
  case pos =>
    obtain rfl := HF.out (fun h => by have := h.nonext (by omega); omega)
    have n1e : ((r.n : Int) == 0) = false := by rw [beq_eq_false_iff_ne]; exact n1
    have n1f : ((r.n : Int) != 0) = true := by rw [bne, n1e]; rfl
    clear HF HT Hq HFI HIN
    go_wp2
    go_ret
    exact ⟨rfl, hb0⟩
  have n1e : (r.n : Int) = 0 := Decidable.of_not_not n1
  by_cases s1 : ¬ r.s = 0
  case pos =>
    obtain rfl := HF.out (fun h => s1 (h.nosave (by omega)))
    have s1e : (r.s == 0) = false := by rw [beq_eq_false_iff_ne]; exact s1
    have s1f : (r.s != 0) = true := by rw [bne, s1e]; rfl
    clear HF HT Hq HFI HIN
    go_wp2
    go_ret
    exact ⟨rfl, hb0⟩
  have s1e : r.s = 0 := Decidable.of_not_not s1
  by_cases b1 : ¬ (r.b : Int) = 0
  case pos =>
    obtain rfl := HF.out (fun h => by have := h.nocheck (by omega); omega)
    have b1e : ((r.b : Int) == 0) = false := by rw [beq_eq_false_iff_ne]; exact b1
    have b1f : ((r.b : Int) != 0) = true := by rw [bne, b1e]; rfl
    clear HF HT Hq HFI HIN
    go_wp2
    go_ret
    exact ⟨rfl, hb0⟩
  have b1e : (r.b : Int) = 0 := Decidable.of_not_not b1
  by_cases z1 : ¬ (r.ts.length : Int) = 0
  case pos =>
    obtain rfl := HF.out (fun h => by have := (h.nocheck (by omega)).2.1; rw [this] at z1; exact z1 rfl)
    have z1e : ((r.ts.length : Int) == 0) = false := by rw [beq_eq_false_iff_ne]; exact z1
    have z1f : ((r.ts.length : Int) != 0) = true := by rw [bne, z1e]; rfl
    clear HF HT Hq HFI HIN
    go_wp2
    go_ret
    exact ⟨rfl, hb0⟩
  have z1e : (r.ts.length : Int) = 0 := Decidable.of_not_not z1
  by_cases z2 : ¬ (r.ds.length : Int) = 0
  case pos =>
    obtain rfl := HF.out (fun h => by have := (h.nocheck (by omega)).2.2; rw [this] at z2; exact z2 rfl)
    have z2e : ((r.ds.length : Int) == 0) = false := by rw [beq_eq_false_iff_ne]; exact z2
    have z2f : ((r.ds.length : Int) != 0) = true := by rw [bne, z2e]; rfl
    clear HF HT Hq HFI HIN
    go_wp2
    go_ret
    exact ⟨rfl, hb0⟩
  have z2e : (r.ds.length : Int) = 0 := Decidable.of_not_not z2
  obtain rfl := HT.out ⟨by omega, by omega, by omega, by unfold maxP; omega, fun h => absurd h (by omega), fun _ => ⟨by omega, by omega⟩, fun h => absurd h (by omega), fun _ => HCC.out, fun h => absurd h (by omega), fun _ => by omega, fun h => absurd h (by omega), fun _ => by omega, fun h => absurd h (by omega), fun _ => ⟨by omega, List.eq_nil_of_length_eq_zero (by omega), List.eq_nil_of_length_eq_zero (by omega)⟩⟩
  clear HF HT Hq HFI HIN HCC
  go_wp2
  go_ret
  exact ⟨rfl, hb0⟩

set_option maxRecDepth 8000 in
set_option maxHeartbeats 3200000 in
theorem rright6_8 (r : Rec) (va vb : Value) (w : World) (q : Bool) (Hq : Hid (q = true ↔ r.right)) (hk : r.k = 8) (hf : r.c.fits) (hin : RcIn w r va vb) :
    Calls Try.prog 24 #[.agg (rcA r va vb)] w fun e w' => e = .returned (.bool q) ∧ Below w.heap.size w w' := by
  have HIN := hide hin
  obtain ⟨⟨e1, cap1, rfl, -⟩, ⟨e2, cap2, rfl, -⟩⟩ := hin
  have HFI := hide hf
  clear hf
  have HK0 := hide (Keeps.one w 28 (rcA r (.slice e1 r.ts.length cap1) (.slice e2 r.ds.length cap2)))
  have HF : Hid (¬ r.right → q = false) := fun h => by
    cases q
    · rfl
    · exact absurd (Hq.out.1 rfl) h
  have HT : Hid (r.right → q = true) := fun h => Hq.out.2 h
  have HOW := hide (fun w => own_at r.k w false (hide (decide_eq_false (by omega))))
  rw [hk] at HOW
  by_cases l1 : (r.l : Int) < 1
  case pos =>
    obtain rfl := HF.out (fun h => by have := h.l1; omega)
    clear HF HT Hq HFI HIN
    obtain ⟨c0, c1, -⟩ := rc_cells HK0.out.1.1
    rw [hk] at c0
    have hb0 := HK0.out.2
    clear HK0 HOW
    go_enter Try.func24, Try.ntmps24
    go_wp2
    go_ret
    exact ⟨rfl, hb0⟩
  by_cases l2 : (4611686018427387904 : Int) < (r.l : Int)
  case pos =>
    obtain rfl := HF.out (fun h => by have := h.lm; unfold maxP at this; omega)
    clear HF HT Hq HFI HIN
    obtain ⟨c0, c1, -⟩ := rc_cells HK0.out.1.1
    rw [hk] at c0
    have hb0 := HK0.out.2
    clear HK0 HOW
    go_enter Try.func24, Try.ntmps24
    go_wp2
    go_ret
    exact ⟨rfl, hb0⟩
  obtain ⟨c0, c1, -⟩ := rc_cells HK0.out.1.1
  rw [hk] at c0
  go_enter Try.func24, Try.ntmps24
  go_wp2_with fail
  refine gen_calls (fun x => Hid (Keeps w x [(w.heap.size, 28, rcA r (.slice e1 r.ts.length cap1) (.slice e2 r.ds.length cap2))])) HK0 ?_
  clear HK0 c0 c1
  intro w0 HK0
  obtain ⟨c0, c1, c2, c3, c9, c10, c11, c12, c13⟩ := rc_cells HK0.out.1.1
  rw [hk] at c0
  have hb0 := HK0.out.2
  refine (HOW.out _).mono ?_
  rintro e w1 ⟨rfl, rfl⟩
  go_wp2_with fail
  refine (HOW.out _).mono ?_
  rintro e w1 ⟨rfl, rfl⟩
  clear HOW
  by_cases t1 : ¬ r.t = 0
  case pos =>
    obtain rfl := HF.out (fun h => t1 (h.none (by omega)).1)
    have t1e : (r.t == 0) = false := by rw [beq_eq_false_iff_ne]; exact t1
    have t1f : (r.t != 0) = true := by rw [bne, t1e]; rfl
    clear HF HT Hq HFI HIN
    clear HK0 c9 c10 c11 c12 c13
    go_wp2
    go_ret
    exact ⟨rfl, hb0⟩
  have t1e : r.t = 0 := Decidable.of_not_not t1
  by_cases p1 : ¬ (r.p : Int) = 0
  case pos =>
    obtain rfl := HF.out (fun h => by have := h.none (by omega); omega)
    have p1e : ((r.p : Int) == 0) = false := by rw [beq_eq_false_iff_ne]; exact p1
    have p1f : ((r.p : Int) != 0) = true := by rw [bne, p1e]; rfl
    clear HF HT Hq HFI HIN
    clear HK0 c9 c10 c11 c12 c13
    go_wp2
    go_ret
    exact ⟨rfl, hb0⟩
  have p1e : (r.p : Int) = 0 := Decidable.of_not_not p1
  obtain ⟨d4, d5, d6, d7, d8⟩ := rc_chg HK0.out.1.1
  by_cases f1 : r.c.k = 0
  case neg =>
    obtain rfl := HF.out (fun h => f1 (by rw [h.noch (by omega)]; rfl))
    clear HF HT Hq HFI HIN HK0
    go_wp2
    go_ret
    exact ⟨rfl, hb0⟩
  by_cases f2 : r.c.pg = 0
  case neg =>
    obtain rfl := HF.out (fun h => f2 (by rw [h.noch (by omega)]; rfl))
    clear HF HT Hq HFI HIN HK0
    go_wp2
    go_ret
    exact ⟨rfl, hb0⟩
  by_cases f3 : r.c.sl = 0
  case neg =>
    obtain rfl := HF.out (fun h => f3 (by rw [h.noch (by omega)]; rfl))
    clear HF HT Hq HFI HIN HK0
    go_wp2
    go_ret
    exact ⟨rfl, hb0⟩
  by_cases f4 : r.c.o.toList = []
  case neg =>
    obtain rfl := HF.out (fun h => f4 (by rw [h.noch (by omega)]; exact zero_list))
    clear HF HT Hq HFI HIN HK0
    go_wp2
    go_ret
    exact ⟨rfl, hb0⟩
  by_cases f5 : r.c.n.toList = []
  case neg =>
    obtain rfl := HF.out (fun h => f5 (by rw [h.noch (by omega)]; exact zero_list))
    clear HF HT Hq HFI HIN HK0
    go_wp2
    go_ret
    exact ⟨rfl, hb0⟩
  have HCC := hide (ch_zero r.c f1 f2 f3 f4 f5)
  by_cases n1 : ¬ (r.n : Int) = 0
  case pos =>
    obtain rfl := HF.out (fun h => by have := h.nonext (by omega); omega)
    have n1e : ((r.n : Int) == 0) = false := by rw [beq_eq_false_iff_ne]; exact n1
    have n1f : ((r.n : Int) != 0) = true := by rw [bne, n1e]; rfl
    clear HF HT Hq HFI HIN
    go_wp2
    go_ret
    exact ⟨rfl, hb0⟩
  have n1e : (r.n : Int) = 0 := Decidable.of_not_not n1
  by_cases s1 : ¬ r.s = 0
  case pos =>
    obtain rfl := HF.out (fun h => s1 (h.nosave (by omega)))
    have s1e : (r.s == 0) = false := by rw [beq_eq_false_iff_ne]; exact s1
    have s1f : (r.s != 0) = true := by rw [bne, s1e]; rfl
    clear HF HT Hq HFI HIN
    go_wp2
    go_ret
    exact ⟨rfl, hb0⟩
  have s1e : r.s = 0 := Decidable.of_not_not s1
  have HRW := hide (fun w hin => rows_at r (.slice e1 r.ts.length cap1) (.slice e2 r.ds.length cap2) w q (hide ⟨fun h => (Hq.out.1 h).check hk, fun h => HT.out ⟨by omega, by omega, by omega, by unfold maxP; omega, fun h => absurd h (by omega), fun _ => ⟨by omega, by omega⟩, fun h => absurd h (by omega), fun _ => HCC.out, fun h => absurd h (by omega), fun _ => by omega, fun h => absurd h (by omega), fun _ => by omega, fun _ => h, fun h2 => absurd hk h2⟩⟩) hin)
  clear HF HT Hq HFI HCC
  have hA : rcA r (.slice e1 r.ts.length cap1) (.slice e2 r.ds.length cap2) = #[.int .i64 8, .int .u64 (r.l : Int), .int .i64 0, .int .u64 0, .int .i64 0, .int .i64 0, .int .i64 0, .string r.c.o, .string r.c.n, .int .u64 0, .int .i64 0, .int .u64 (r.b : Int), .slice e1 r.ts.length cap1, .slice e2 r.ds.length cap2] := by
    unfold rcA
    rw [hk, t1e, p1e, f1, f2, f3, n1e, s1e]
  rw [hA] at HRW
  clear hA
  go_wp2_with fail
  refine (HRW.out _ (HIN.out.below HK0.out.2)).mono ?_
  rintro e w2 ⟨rfl, hb2⟩
  have d2 := hb0.trans (hb2.mono hb0.size)
  clear hb2 HK0 HIN c0 c1 c2 c3 c9 c10 c11 c12 c13
  go_wp2
  go_ret
  exact ⟨rfl, d2⟩

end Go.Proofs.Ytgobegpmojkhaaa

/-
  The contract of quaysideref06.Right, whole.
-/
namespace Go.Proofs.Ytgobegpmojkhaaa
open Go.RowKit
set_option linter.unusedVariables false

set_option maxRecDepth 8000 in
set_option maxHeartbeats 1600000 in
theorem rright6_no (r : Rec) (va vb : Value) (w : World) (hk : r.k < 1 ∨ 8 < r.k) :
    Calls Try.prog 24 #[.agg (rcA r va vb)] w fun e w' => e = .returned (.bool false) ∧ Below w.heap.size w w' := by
  have HK0 := hide (Keeps.one w 28 (rcA r va vb))
  obtain ⟨c0, -⟩ := rc_cells HK0.out.1.1
  have hb0 := HK0.out.2
  clear HK0
  generalize r.k = k at *
  by_cases h1 : k < 1
  · clear hk
    go_enter Try.func24, Try.ntmps24
    go_wp2
    go_ret
    exact ⟨rfl, hb0⟩
  · have h8 : 8 < k := by omega
    clear hk
    go_enter Try.func24, Try.ntmps24
    go_wp2
    go_ret
    exact ⟨rfl, hb0⟩

/-- THE CONTRACT. -/
theorem rright6_any (r : Rec) (va vb : Value) (w : World) (hf : r.c.fits) (hin : RcIn w r va vb) :
    Calls Try.prog 24 #[.agg (rcA r va vb)] w fun e w' => e = .returned (.bool r.rightB) ∧ Below w.heap.size w w' := by
  by_cases hk : r.k < 1 ∨ 8 < r.k
  · rw [rightB_no (fun h => by have := h.k1; have := h.k8; omega)]
    exact rright6_no r va vb w hk
  · have hq : Hid (r.rightB = true ↔ r.right) := rightB_iff
    by_cases h1 : r.k = 1
    · exact rright6_1 r va vb w _ hq h1 hf hin
    by_cases h2 : r.k = 2
    · exact rright6_2 r va vb w _ hq h2 hf hin
    by_cases h5 : r.k ≤ 5
    · exact rright6_345 r va vb w _ hq (by omega) h5 hf hin
    by_cases h6 : r.k = 6
    · exact rright6_6 r va vb w _ hq h6 hf hin
    by_cases h7 : r.k = 7
    · exact rright6_7 r va vb w _ hq h7 hf hin
    exact rright6_8 r va vb w _ hq (by omega) hf hin
end Go.Proofs.Ytgobegpmojkhaaa
