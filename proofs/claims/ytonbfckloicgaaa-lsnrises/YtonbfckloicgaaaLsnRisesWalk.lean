/-
  The walk of LsnRises: it returns true, and turns nothing that was there.
-/
import Derived.Test.YtonbfckloicgaaaLsnAwake
import Derived.Test.YtonbfckloicgaaaLsnRef
import Derived.Test.YtonbfckloicgaaaArgRows
import Derived.OpenShut
import Derived.Deep.RegionHeld3
import Derived.Deep.QuietTactic
import Derived.BigQuiet
import Derived.WalkSmall
namespace Go.Proofs.Ytonbfckloicgaaa.lsnRises
open Go.RowKit
set_option linter.unusedVariables false

theorem heap_drewN (w : World) (k : Nat) : (w.drewN k).heap = w.heap := rfl
theorem clk_drewN {w : World} {p n k : Nat} (h : ClkAt w p n) : ClkAt (w.drewN k) p n := ⟨h.1, by rw [heap_drewN]; exact h.2⟩
theorem clk_below {w w' : World} {q n B : Nat} (h : ClkAt w q n) (hb : Below B w w') (hq : q < B) : ClkAt w' q n := ⟨h.1, (hb.block q hq).trans h.2⟩
theorem clk_lt {w : World} {q n : Nat} (h : ClkAt w q n) : q < w.heap.size := (Array.getElem?_eq_some_iff.1 h.2).1
/-- The script's cells. -/
def opF (k n : Nat → Int) (s : Nat → Bool) (i c : Nat) : Value := if c = 0 then .int .i64 (k i) else if c = 1 then .int .u64 (n i) else .bool (s i)

theorem box1 (w : World) (a b c : Value) : (w.alloc (.cells #[a, b, c] 34)).cell? ⟨w.heap.size, 0 + 1, none⟩ = some b := by simp [go_sem]
theorem box2 (w : World) (a b c : Value) : (w.alloc (.cells #[a, b, c] 34)).cell? ⟨w.heap.size, 0 + 2, none⟩ = some c := by simp [go_sem]
theorem next_room (n f : Nat) (s : Bool) (h : ¬ (maxL ≤ max n f ∨ (s = false ∧ topL ≤ max n f))) : nextS n f s = (((max n f + 1 : Nat) : Int), 0) ∧ nextN n f s = max n f + 1 := by
  have e : full n f s = false := by
    rw [← Bool.not_eq_true, full_iff]
    exact h
  simp [nextS, nextN, e]
theorem next_full (n f : Nat) (s : Bool) (h : maxL ≤ max n f ∨ (s = false ∧ topL ≤ max n f)) : nextS n f s = (0, 7) ∧ nextN n f s = n := by
  have e : full n f s = true := (full_iff n f s).2 h
  simp [nextS, nextN, e]

set_option maxRecDepth 4000 in
set_option maxHeartbeats 1600000 in
theorem core (st : Nat) (len cap : Nat) (ad : Option Addr) (k : Nat → Int) (f : Nat → Nat) (s : Nat → Bool) (w : World) (hst : st < 18446744073709551616) (hl : len ≤ 140737488355328) (hf : ∀ i, f i < 18446744073709551616)
    (hr : IsRow w ad len 3 (opF k (fun i => (f i : Int)) s)) :
    Calls Try.prog 4 #[.int .u64 st, .slice ad len cap] w fun e w' => e = .returned (.bool true) ∧ Below w.heap.size w w' := by
  have HRow := hideL hr
  clear hr
  go_enter Try.func4, Try.ntmps4
  go_wp2_with fail
  refine (awake_any _).mono ?_
  rintro e w1 ⟨rfl, hb1⟩
  go_wp2_with fail
  refine (new_any st _ hst).mono ?_
  rintro e w2 ⟨p, rfl, hp, hc2, hb2⟩
  have c2 := hb1.trans (hb2.mono hb1.size)
  have hwp : w.heap.size ≤ p := Nat.le_trans hb1.size hp
  generalize min st maxL = n0 at hc2
  clear hb1 hb2 hp
  go_wp2_with fail
  refine (last_any p n0 w2 hc2).mono ?_
  rintro e w3 ⟨rfl, rfl⟩
  have HC := hideL hc2
  clear hc2
  go_wp2_with fail
  go_loopw [6, 21] (fun ab i wr => ∃ (j n : Nat), j ≤ len ∧ i = .int .i64 j ∧ ab = .int .u64 n ∧ ClkAt wr p n ∧ Below w.heap.size w wr) (fun _ i _ => len - (intOf i).toNat)
  case atStart => exact ⟨0, _, Nat.zero_le _, rfl, rfl, HC.out, c2⟩
  case round =>
    obtain ⟨j, n, hj, rfl, rfl, hcn, hbr⟩ := hrel
    clear HC c2
    by_cases hjl : j < len
    · obtain ⟨bk, off, rfl, hbk, hcell⟩ := HRow.out (by omega)
      have h0 : wr.cell? ⟨bk, off + j * 3, none⟩ = some (.int .i64 (k j)) := (hbr.cell (p := ⟨bk, off + j * 3, none⟩) hbk).trans (hcell j 0 hjl (by omega))
      have h1 : wr.cell? ⟨bk, off + j * 3 + 1, none⟩ = some (.int .u64 (f j)) := (hbr.cell (p := ⟨bk, off + j * 3 + 1, none⟩) hbk).trans (hcell j 1 hjl (by omega))
      have h2 : wr.cell? ⟨bk, off + j * 3 + 2, none⟩ = some (.bool (s j)) := (hbr.cell (p := ⟨bk, off + j * 3 + 2, none⟩) hbk).trans (hcell j 2 hjl (by omega))
      have hfj := hf j
      have hk1 : bk ≠ p := by omega
      have hjI : (j : Int) < (len : Int) := by omega
      clear hcell
      generalize k j = kj at h0
      generalize f j = fj at h1 hfj
      generalize s j = sj at h2
      by_cases hk : kj = 1
      · subst hk
        go_wp2_with fail
        have hpl := clk_lt hcn
        have hB := (Below.refl wr.heap.size wr).alloc (Nat.le_refl _) (.cells #[.int .i64 1, .int .u64 (fj : Int), .bool sj] 34)
        have hc4 := clk_below hcn hB hpl
        have c4 := hbr.alloc hbr.size (.cells #[.int .i64 1, .int .u64 (fj : Int), .bool sj] 34)
        have k1 := box1 wr (.int .i64 1) (.int .u64 (fj : Int)) (.bool sj)
        have hbn : wr.heap.size ≠ p := by omega
        refine (see_any p n fj _ hc4 hfj).mono ?_
        rintro e w5 ⟨rfl, hc5, hg5⟩
        have k1' := hg5.cell k1 (by simpa using hbn)
        have c5 := below_clock c4 c4.size hwp hg5
        have HC5 := hideL hc5
        clear hc4 hc5 hg5 k1 c4 hcn hbr h0 h1 h2 hB hpl
        have em : (if (n : Int) < if (4611686018427387904 : Int) < (fj : Int) then 4611686018427387904 else (fj : Int) then if (4611686018427387904 : Int) < (fj : Int) then 4611686018427387904 else (fj : Int) else (n : Int)) = ((max n (min fj maxL) : Nat) : Int) := by
          unfold maxL
          repeat' split
          all_goals omega
        have HM := hideL em
        clear em
        go_wp2
        go_roundw
        case rel => exact ⟨j + 1, _, by omega, by go_num, congrArg (Value.int .u64) HM.out, HC5.out, c5⟩
        case measure => simp [intOf]; omega
      · go_wp2_with fail
        have hpl := clk_lt hcn
        have hB := (Below.refl wr.heap.size wr).alloc (Nat.le_refl _) (.cells #[.int .i64 kj, .int .u64 (fj : Int), .bool sj] 34)
        have hc4 := clk_below hcn hB hpl
        have c4 := hbr.alloc hbr.size (.cells #[.int .i64 kj, .int .u64 (fj : Int), .bool sj] 34)
        have k1 := box1 wr (.int .i64 kj) (.int .u64 (fj : Int)) (.bool sj)
        have k2 := box2 wr (.int .i64 kj) (.int .u64 (fj : Int)) (.bool sj)
        have hbn : wr.heap.size ≠ p := by omega
        by_cases hfu : maxL ≤ max n fj ∨ (sj = false ∧ topL ≤ max n fj)
        · have N := next_any p n fj sj _ hc4 hfj
          rw [(next_full n fj sj hfu).1, (next_full n fj sj hfu).2] at N
          have HN := hideL N
          clear N
          refine HN.out.mono ?_
          rintro e w5 ⟨rfl, hc5, hg5⟩
          have k1' := hg5.cell k1 (by simpa using hbn)
          have c5 := below_clock c4 c4.size hwp hg5
          have HC5 := hideL hc5
          clear hc4 hc5 hg5 k1 k2 c4 hcn hbr h0 h1 h2 hB hpl HN
          have em : ¬ max (n : Int) (fj : Int) < 4611686018427322368 := by
            unfold maxL topL at hfu
            omega
          go_wp2
          go_roundw
          case rel => exact ⟨j + 1, n, by omega, by go_num, rfl, HC5.out, c5⟩
          case measure => simp [intOf]; omega
        · have N := next_any p n fj sj _ hc4 hfj
          rw [(next_room n fj sj hfu).1, (next_room n fj sj hfu).2] at N
          obtain ⟨m, hm⟩ : ∃ m, m = max n fj + 1 := ⟨_, rfl⟩
          rw [← hm] at N
          have HN := hideL N
          clear N
          have m1 : ¬ (m : Int) ≤ (n : Int) := by omega
          have m2 : ¬ (m : Int) ≤ (fj : Int) := by omega
          have m3 : ¬ (4611686018427387904 : Int) < (m : Int) := by
            unfold maxL topL at hfu
            omega
          have m4 : sj = false → ¬ (4611686018427322368 : Int) < (m : Int) := by
            intro h hx
            refine hfu (Or.inr ⟨h, ?_⟩)
            unfold topL
            omega
          clear hfu hm
          refine HN.out.mono ?_
          rintro e w5 ⟨rfl, hc5, hg5⟩
          have k1' := hg5.cell k1 (by simpa using hbn)
          have k2' := hg5.cell k2 (by simpa using hbn)
          have c5 := below_clock c4 c4.size hwp hg5
          have HC5 := hideL hc5
          clear hc4 hc5 hg5 k1 k2 c4 hcn hbr h0 h1 h2 hB hpl HN
          cases sj
          · have m5 := m4 rfl
            clear m4
            go_wp2
            go_roundw
            case rel => exact ⟨j + 1, m, by omega, by go_num, rfl, HC5.out, c5⟩
            case measure => simp [intOf]; omega
          · clear m4
            go_wp2
            go_roundw
            case rel => exact ⟨j + 1, m, by omega, by go_num, rfl, HC5.out, c5⟩
            case measure => simp [intOf]; omega
    · go_wp2_with fail
      refine (last_any p n wr hcn).mono ?_
      rintro e w3 ⟨rfl, rfl⟩
      go_wp2
      go_ret
      exact ⟨rfl, hbr⟩

theorem walk (a0 : Int) (m : Option Addr × Nat × Nat × (Nat → Int) × (Nat → Int) × (Nat → Bool)) (w : World) (w0 : (Lit.int .u64 a0).wf = true) (w1 : ∀ i, (Lit.int .u64 (m.2.2.2.2.1 i)).wf = true) (w2 : m.2.1 ≤ 140737488355328 ∧ IsRow w m.1 m.2.1 3 (opF m.2.2.2.1 m.2.2.2.2.1 m.2.2.2.2.2)) :
    Calls Try.prog 4 #[.int .u64 a0, .slice m.1 m.2.1 m.2.2.1] w fun e w' => e = .returned (.bool true) ∧ Below w.heap.size w w' := by
  have b0 := bounds_u64 w0
  obtain ⟨a, rfl⟩ := Int.eq_ofNat_of_zero_le b0.1
  have e : (fun i => (((m.2.2.2.2.1 i).toNat : Nat) : Int)) = m.2.2.2.2.1 := by
    funext i
    exact Int.toNat_of_nonneg (bounds_u64 (w1 i)).1
  refine core a m.2.1 m.2.2.1 m.1 m.2.2.2.1 (fun i => (m.2.2.2.2.1 i).toNat) m.2.2.2.2.2 w (by omega) w2.1 (fun i => ?_) ?_
  · have := bounds_u64 (w1 i)
    omega
  · rw [e]
    exact w2.2
end Go.Proofs.Ytonbfckloicgaaa.lsnRises
