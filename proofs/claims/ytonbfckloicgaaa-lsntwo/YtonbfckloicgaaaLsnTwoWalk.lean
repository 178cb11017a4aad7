/-
  The walk of LsnTwo: it returns true, and turns nothing that was there.
-/
import Derived.Test.YtonbfckloicgaaaLsnAwake
import Derived.Test.YtonbfckloicgaaaArgRows
import Derived.OpenShut
namespace Go.Proofs.Ytonbfckloicgaaa.lsnTwo
open Go.RowKit
set_option linter.unusedVariables false

theorem clk_other {w w' : World} {p q n : Nat} (h : ClkAt w q n) (hg : w.grownBy w' (some p)) (hne : q ≠ p) : ClkAt w' q n := by
  refine ⟨h.1, ?_⟩
  rw [hg.block q (Array.getElem?_eq_some_iff.1 h.2).1 (by simpa using hne)]
  exact h.2
theorem clk_below {w w' : World} {q n B : Nat} (h : ClkAt w q n) (hb : Below B w w') (hq : q < B) : ClkAt w' q n := ⟨h.1, (hb.block q hq).trans h.2⟩
theorem clk_lt {w : World} {q n : Nat} (h : ClkAt w q n) : q < w.heap.size := (Array.getElem?_eq_some_iff.1 h.2).1

theorem next_spare (n : Nat) (h : n < maxL) : nextS n 0 true = (((n + 1 : Nat) : Int), 0) ∧ nextN n 0 true = n + 1 := by
  have e : full n 0 true = false := by
    simp [full]
    omega
  simp [nextS, nextN, e]
theorem next_full (n : Nat) (h : maxL ≤ n) : nextS n 0 true = (0, 7) ∧ nextN n 0 true = n := by
  have e : full n 0 true = true := by simp [full, h]
  simp [nextS, nextN, e]

set_option maxHeartbeats 1600000 in
theorem core (a b len cap : Nat) (ad : Option Addr) (l : Nat → Bool) (w : World) (ha : a < 18446744073709551616) (hb : b < 18446744073709551616) (hl : len ≤ 140737488355328) (hr : IsRow w ad len 1 (fun i _ => .bool (l i))) :
    Calls Try.prog 5 #[.int .u64 a, .int .u64 b, .slice ad len cap] w fun e w' => e = .returned (.bool true) ∧ Below w.heap.size w w' := by
  have HRow := hideL hr
  clear hr
  go_enter Try.func5, Try.ntmps5
  go_wp2_with fail
  refine (awake_any _).mono ?_
  rintro e w1 ⟨rfl, hb1⟩
  go_wp2_with fail
  refine (new_any a _ ha).mono ?_
  rintro e w2 ⟨p0, rfl, hp0, hc2, hb2⟩
  go_wp2_with fail
  refine (new_any b _ hb).mono ?_
  rintro e w3 ⟨q0, rfl, hq0, hc3, hb3⟩
  have c2 := hb1.trans (hb2.mono hb1.size)
  have c3 := c2.trans (hb3.mono c2.size)
  have hlt := clk_lt hc2
  have HC1 := hideL (clk_below hc2 hb3 hlt)
  have HC2 := hideL hc3
  have hne : p0 ≠ q0 := by omega
  have hwp : w.heap.size ≤ p0 := Nat.le_trans hb1.size hp0
  have hwq : w.heap.size ≤ q0 := Nat.le_trans c2.size hq0
  clear hb1 hb2 hb3 hc2 hc3 c2 hp0 hq0 hlt
  go_wp2
  go_loopw [7, 8, 9, 27] (fun x y was i wr => ∃ (j p q np nq z : Nat), j ≤ len ∧ i = .int .i64 j ∧ x = .pointer (some ⟨p, 0, none⟩) ∧ y = .pointer (some ⟨q, 0, none⟩) ∧ was = .int .u64 z ∧ p ≠ q ∧ w.heap.size ≤ p ∧ w.heap.size ≤ q ∧ ClkAt wr p np ∧ ClkAt wr q nq ∧ z ≤ np ∧ z ≤ nq ∧ Below w.heap.size w wr) (fun _ _ _ i _ => len - (intOf i).toNat)
  case atStart => exact ⟨0, p0, q0, _, _, 0, Nat.zero_le _, rfl, rfl, rfl, rfl, hne, hwp, hwq, HC1.out, HC2.out, Nat.zero_le _, Nat.zero_le _, c3⟩
  case round =>
    obtain ⟨j, p, q, np, nq, z, hj, rfl, rfl, rfl, rfl, hpq, hpw, hqw, hcp, hcq, hz1, hz2, hbr⟩ := hrel
    clear HC1 HC2 hne hwp hwq c3
    by_cases hjl : j < len
    · obtain ⟨bk, off, rfl, hbk, hcell⟩ := HRow.out (by omega)
      have hcj : wr.cell? ⟨bk, off + j, none⟩ = some (.bool (l j)) := (hbr.cell (p := ⟨bk, off + j, none⟩) hbk).trans (by have := hcell j 0 hjl (by omega); simpa using this)
      clear hcell
      generalize l j = t at hcj
      cases t
      · skip
        by_cases hf : np < maxL
        · have N := next_any p np 0 true wr hcp (by decide)
          rw [(next_spare np hf).1, (next_spare np hf).2] at N
          obtain ⟨m, hm⟩ : ∃ m, m = np + 1 := ⟨_, rfl⟩
          rw [← hm] at N
          have m1 : z < m := by omega
          have m2 : m ≤ maxL := by omega
          have m3 : m < 18446744073709551616 := by unfold maxL at m2; omega
          have m4 : ¬ (m : Int) ≤ (z : Int) := by omega
          have HN := hideL N
          clear N hm
          go_wp2_with fail
          refine HN.out.mono ?_
          rintro e w4 ⟨rfl, hc4, hg4⟩
          have hcQ4 := clk_other hcq hg4 (Ne.symm hpq)
          have c4 := below_clock hbr hbr.size hpw hg4
          have HC4 := hideL hc4
          clear hc4 hg4 HN hcp hcq
          go_wp2_with fail
          refine (see_any q nq m w4 hcQ4 m3).mono ?_
          rintro e w5 ⟨rfl, hc5, hg5⟩
          have hcP5 := clk_other HC4.out hg5 (Ne.symm (Ne.symm hpq))
          have c5 := below_clock c4 c4.size hqw hg5
          have hmx : m ≤ max nq (min m maxL) := by omega
          have HP5 := hideL hcP5
          have HQ5 := hideL hc5
          clear hcQ4 hg5 hcP5 hc5 HC4
          go_wp2
          go_roundw
          case rel => exact ⟨j + 1, p, q, m, _, m, by omega, by go_num, rfl, rfl, rfl, Ne.symm (Ne.symm hpq), hpw, hqw, HP5.out, HQ5.out, Nat.le_refl _, hmx, c5⟩
          case measure => simp [intOf]; omega
        · have N := next_any p np 0 true wr hcp (by decide)
          rw [(next_full np (by omega)).1, (next_full np (by omega)).2] at N
          have hn : np = maxL := by have := hcp.1; omega
          have HN := hideL N
          clear N
          go_wp2_with fail
          refine HN.out.mono ?_
          rintro e w4 ⟨rfl, hc4, hg4⟩
          have c4 := below_clock hbr hbr.size hpw hg4
          rw [hn] at hc4
          clear hg4 HN hcp hcq hn
          go_wp2_with fail
          refine (last_any p maxL w4 hc4).mono ?_
          rintro e w5 ⟨rfl, rfl⟩
          have e2 : ((maxL : Nat) : Int) = 4611686018427387904 := rfl
          rw [e2]
          go_wp2
          go_ret
          exact ⟨rfl, c4⟩
      · skip
        by_cases hf : nq < maxL
        · have N := next_any q nq 0 true wr hcq (by decide)
          rw [(next_spare nq hf).1, (next_spare nq hf).2] at N
          obtain ⟨m, hm⟩ : ∃ m, m = nq + 1 := ⟨_, rfl⟩
          rw [← hm] at N
          have m1 : z < m := by omega
          have m2 : m ≤ maxL := by omega
          have m3 : m < 18446744073709551616 := by unfold maxL at m2; omega
          have m4 : ¬ (m : Int) ≤ (z : Int) := by omega
          have HN := hideL N
          clear N hm
          go_wp2_with fail
          refine HN.out.mono ?_
          rintro e w4 ⟨rfl, hc4, hg4⟩
          have hcQ4 := clk_other hcp hg4 hpq
          have c4 := below_clock hbr hbr.size hqw hg4
          have HC4 := hideL hc4
          clear hc4 hg4 HN hcp hcq
          go_wp2_with fail
          refine (see_any p np m w4 hcQ4 m3).mono ?_
          rintro e w5 ⟨rfl, hc5, hg5⟩
          have hcP5 := clk_other HC4.out hg5 (Ne.symm hpq)
          have c5 := below_clock c4 c4.size hpw hg5
          have hmx : m ≤ max np (min m maxL) := by omega
          have HP5 := hideL hcP5
          have HQ5 := hideL hc5
          clear hcQ4 hg5 hcP5 hc5 HC4
          go_wp2
          go_roundw
          case rel => exact ⟨j + 1, q, p, m, _, m, by omega, by go_num, rfl, rfl, rfl, Ne.symm hpq, hqw, hpw, HP5.out, HQ5.out, Nat.le_refl _, hmx, c5⟩
          case measure => simp [intOf]; omega
        · have N := next_any q nq 0 true wr hcq (by decide)
          rw [(next_full nq (by omega)).1, (next_full nq (by omega)).2] at N
          have hn : nq = maxL := by have := hcq.1; omega
          have HN := hideL N
          clear N
          go_wp2_with fail
          refine HN.out.mono ?_
          rintro e w4 ⟨rfl, hc4, hg4⟩
          have c4 := below_clock hbr hbr.size hqw hg4
          rw [hn] at hc4
          clear hg4 HN hcp hcq hn
          go_wp2_with fail
          refine (last_any q maxL w4 hc4).mono ?_
          rintro e w5 ⟨rfl, rfl⟩
          have e2 : ((maxL : Nat) : Int) = 4611686018427387904 := rfl
          rw [e2]
          go_wp2
          go_ret
          exact ⟨rfl, c4⟩
    · go_wp2
      go_ret
      exact ⟨rfl, hbr⟩

theorem walk (a0 a1 : Int) (m : Option Addr × Nat × Nat × (Nat → Bool)) (w : World) (w0 : (Lit.int .u64 a0).wf = true) (w1 : (Lit.int .u64 a1).wf = true) (w2 : m.2.1 ≤ 140737488355328 ∧ IsRow w m.1 m.2.1 1 (fun i _ => .bool (m.2.2.2 i))) :
    Calls Try.prog 5 #[.int .u64 a0, .int .u64 a1, .slice m.1 m.2.1 m.2.2.1] w fun e w' => e = .returned (.bool true) ∧ Below w.heap.size w w' := by
  have b0 := bounds_u64 w0
  have b1 := bounds_u64 w1
  obtain ⟨a, rfl⟩ := Int.eq_ofNat_of_zero_le b0.1
  obtain ⟨b, rfl⟩ := Int.eq_ofNat_of_zero_le b1.1
  exact core a b m.2.1 m.2.2.1 m.1 m.2.2.2 w (by omega) (by omega) w2.1 w2.2
end Go.Proofs.Ytonbfckloicgaaa.lsnTwo
