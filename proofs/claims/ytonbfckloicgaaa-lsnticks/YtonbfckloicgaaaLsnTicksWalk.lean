/-
  The walk of LsnTicks: it returns true, and turns nothing that was there.
-/
import Derived.Test.YtonbfckloicgaaaLsnAwake
import Derived.Test.YtonbfckloicgaaaLsnRef
import Derived.Test.YtonbfckloicgaaaArgRows
import Derived.OpenShut
import Derived.Deep.RegionHeld3
import Derived.Deep.QuietTactic
import Derived.BigQuiet
import Derived.WalkSmall
namespace Go.Proofs.Ytonbfckloicgaaa.lsnTicks
open Go.RowKit
set_option linter.unusedVariables false

theorem clk_other {w w' : World} {p q n : Nat} (h : ClkAt w q n) (hg : w.grownBy w' (some p)) (hne : q ≠ p) : ClkAt w' q n := by
  refine ⟨h.1, ?_⟩
  rw [hg.block q (Array.getElem?_eq_some_iff.1 h.2).1 (by simpa using hne)]
  exact h.2
theorem clk_below {w w' : World} {q n B : Nat} (h : ClkAt w q n) (hb : Below B w w') (hq : q < B) : ClkAt w' q n := ⟨h.1, (hb.block q hq).trans h.2⟩
theorem clk_lt {w : World} {q n : Nat} (h : ClkAt w q n) : q < w.heap.size := (Array.getElem?_eq_some_iff.1 h.2).1
theorem r_other {w w' : World} {p q n : Nat} (h : RAt w q n) (hg : w.grownBy w' (some p)) (hne : q ≠ p) : RAt w' q n := by
  rw [RAt, hg.block q (Array.getElem?_eq_some_iff.1 h).1 (by simpa using hne)]
  exact h

theorem heap_drewN (w : World) (k : Nat) : (w.drewN k).heap = w.heap := rfl
theorem last_q (b n k : Nat) (w : World) (h : ClkAt w b n) :
    Calls Try.prog 15 #[.pointer (some ⟨b, 0, none⟩)] (w.drewN k) fun e w' => e = .returned (.int .u64 n) ∧ w' = w.drewN k :=
  (last_any b n (w.drewN k) ⟨h.1, by rw [heap_drewN]; exact h.2⟩).mono fun e w' ⟨he, hw⟩ => ⟨he, hw.symm⟩

theorem clk_drewN {w : World} {p n k : Nat} (h : ClkAt w p n) : ClkAt (w.drewN k) p n := ⟨h.1, by rw [heap_drewN]; exact h.2⟩

theorem r_drewN {w : World} {p n k : Nat} (h : RAt w p n) : RAt (w.drewN k) p n := h
/-- The script's cells. -/
def opF (k n : Nat → Int) (s : Nat → Bool) (i c : Nat) : Value := if c = 0 then .int .i64 (k i) else if c = 1 then .int .u64 (n i) else .bool (s i)

theorem r_lt {w : World} {q n : Nat} (h : RAt w q n) : q < w.heap.size := (Array.getElem?_eq_some_iff.1 h).1
theorem r_below {w w' : World} {q n B : Nat} (h : RAt w q n) (hb : Below B w w') (hq : q < B) : RAt w' q n := (hb.block q hq).trans h
theorem r_new (w : World) : RAt (w.alloc (.cells #[.int .u64 0] 29)) w.heap.size 0 := heap_alloc_new w _
theorem c_new (w : World) : ClkAt (w.alloc (.cells #[.int .u64 0] 31)) w.heap.size 0 := ⟨Nat.zero_le _, heap_alloc_new w _⟩

set_option maxRecDepth 4000 in
set_option maxHeartbeats 1600000 in
theorem core (st : Nat) (z : Bool) (len cap : Nat) (ad : Option Addr) (k : Nat → Int) (f : Nat → Nat) (s : Nat → Bool) (w : World) (hst : st < 18446744073709551616) (hl : len ≤ 140737488355328) (hf : ∀ i, f i < 18446744073709551616)
    (hr : IsRow w ad len 3 (opF k (fun i => (f i : Int)) s)) :
    Calls Try.prog 3 #[.int .u64 st, .bool z, .slice ad len cap] w fun e w' => e = .returned (.bool true) ∧ Below w.heap.size w w' := by
  have HRow := hideL hr
  clear hr
  have e0 : max 0 (min st maxL) = min st maxL := by omega
  have HE := hideL e0
  clear e0
  cases z
  · go_enter Try.func3, Try.ntmps3
    go_wp2_with fail
    refine (awake_any _).mono ?_
    rintro e w1 ⟨rfl, hb1⟩
    go_wp2_with fail
    refine (new_any st _ hst).mono ?_
    rintro e w2 ⟨p, rfl, hp, hc2, hb2⟩
    have c2 := hb1.trans (hb2.mono hb1.size)
    have hlt := clk_lt hc2
    have hR := r_new w2
    have hC := clk_below hc2 ((Below.refl w2.heap.size w2).alloc (Nat.le_refl _) (.cells #[.int .u64 0] 29)) hlt
    have c3 := c2.alloc c2.size (.cells #[.int .u64 0] 29)
    have hwp : w.heap.size ≤ p := Nat.le_trans hb1.size hp
    have hwq : w.heap.size ≤ w2.heap.size := c2.size
    have HC := hideL hC
    clear hb1 hb2 hc2 c2 hp hC
    go_wp2_with fail
    refine (rsee_any w2.heap.size 0 st _ hR).mono ?_
    rintro e w4 ⟨rfl, hr4, hg4⟩
    rw [HE.out] at hr4
    have hC4 := clk_other HC.out hg4 (by omega)
    have c4 := below_clock c3 c3.size hwq hg4
    obtain ⟨q, hq⟩ : ∃ q, q = w2.heap.size := ⟨_, rfl⟩
    have hpq : p ≠ q := by omega
    rw [← hq] at hr4 hwq
    rw [← hq]
    have HR := hideL hr4
    have HC := hideL hC4
    clear hr4 hC4 hg4 c3 hR hlt hq
    go_wp2
    go_loopw [30] (fun i wr => ∃ (j n : Nat), j ≤ len ∧ i = .int .i64 j ∧ ClkAt wr p n ∧ RAt wr q n ∧ Below w.heap.size w wr) (fun i _ => len - (intOf i).toNat)
    case atStart => exact ⟨0, _, Nat.zero_le _, rfl, HC.out, HR.out, c4⟩
    case round =>
      obtain ⟨j, n, hj, rfl, hcn, hrn, hbr⟩ := hrel
      clear HC HR c4
      by_cases hjl : j < len
      · obtain ⟨bk, off, rfl, hbk, hcell⟩ := HRow.out (by omega)
        have h0 : wr.cell? ⟨bk, off + j * 3, none⟩ = some (.int .i64 (k j)) := (hbr.cell (p := ⟨bk, off + j * 3, none⟩) hbk).trans (hcell j 0 hjl (by omega))
        have h1 : wr.cell? ⟨bk, off + j * 3 + 1, none⟩ = some (.int .u64 (f j)) := (hbr.cell (p := ⟨bk, off + j * 3 + 1, none⟩) hbk).trans (hcell j 1 hjl (by omega))
        have h2 : wr.cell? ⟨bk, off + j * 3 + 2, none⟩ = some (.bool (s j)) := (hbr.cell (p := ⟨bk, off + j * 3 + 2, none⟩) hbk).trans (hcell j 2 hjl (by omega))
        have hfj := hf j
        have hk1 : bk ≠ p := by omega
        have hk2 : bk ≠ q := by omega
        have hjI : (j : Int) < (len : Int) := by omega
        clear hcell
        generalize k j = kj at h0
        generalize f j = fj at h1 hfj
        generalize s j = sj at h2
        by_cases hk : kj = 1
        · subst hk
          go_wp2_with fail
          refine (see_any p n fj wr hcn hfj).mono ?_
          rintro e w5 ⟨rfl, hc5, hg5⟩
          have h1' := hg5.cell h1 (by simpa using hk1)
          have hr5 := r_other hrn hg5 (Ne.symm hpq)
          have c5 := below_clock hbr hbr.size hwp hg5
          have HC5 := hideL hc5
          clear hc5 hg5 h0 h1 h2 hcn hrn hbr
          go_wp2_with fail
          refine (rsee_any q n fj w5 hr5).mono ?_
          rintro e w6 ⟨rfl, hr6, hg6⟩
          have hC6 := clk_other HC5.out hg6 hpq
          have c6 := below_clock c5 c5.size hwq hg6
          generalize max n (min fj maxL) = m at hr6 hC6
          clear hr5 h1' HC5 c5 hg6
          have hcell6 := hr6.cell
          have HR6 := hideL hr6
          have HC6 := hideL hC6
          clear hr6 hC6
          go_wp2_with fail
          go_quiet ((go_at_call 15; exact Calls.quiet_of_same (last_q p m _ _ HC6.out)))
          go_wp2
          go_roundw
          case rel => exact ⟨j + 1, m, by omega, by go_num, clk_drewN HC6.out, HR6.out, below_drewN c6 _⟩
          case measure => simp [intOf]; omega
        · by_cases hk' : kj = 2
          · subst hk'
            go_wp2_with fail
            have HC := hideL (clk_drewN (k := 1) hcn)
            have HR := hideL hrn
            clear hcn hrn h0
            go_region_held3 (fun x => x.cell? ⟨bk, off + j * 3 + 1, none⟩ = some (.int .u64 fj) ∧ x.cell? ⟨bk, off + j * 3 + 2, none⟩ = some (.bool sj)) (go_keep)
              (first | (go_at_call 13; refine (next_any p n fj sj _ HC.out hfj).mono ?_; rintro e w5 ⟨rfl, hc5, hg5⟩; have k1 := hg5.cell h1 (by simpa using hk1); have k2 := hg5.cell h2 (by simpa using hk1)))
            have c5 := below_clock (below_drewN hbr 1) hbr.size hwp hg5
            have hn := HC.out.1
            have HR5 := hideL (r_other (r_drewN (k := 1) HR.out) hg5 (Ne.symm hpq))
            have HC5 := hideL hc5
            clear hc5 hg5 h1 h2 HC HR hbr
            go_wp2_with fail
            have HR := hideL (r_drewN (k := 1) HR5.out)
            clear HR5
            go_region_held3 (fun x => x.cell? ⟨bk, off + j * 3 + 1, none⟩ = some (.int .u64 fj) ∧ x.cell? ⟨bk, off + j * 3 + 2, none⟩ = some (.bool sj)) (go_keep)
              (first | (go_at_call 14; refine (rnext_any q n fj sj _ HR.out hn hfj).mono ?_; rintro e w6 ⟨rfl, hr6, hg6⟩; have k3 := hg6.cell k1 (by simpa using hk2); have k4 := hg6.cell k2 (by simpa using hk2)))
            have c6 := below_clock (below_drewN c5 1) c5.size hwq hg6
            have HC6 := hideL (clk_other (clk_drewN (k := 1) HC5.out) hg6 hpq)
            generalize nextN n fj sj = m at hr6 HC6
            have hcell6 := hr6.cell
            have HR6 := hideL hr6
            clear hr6 hg6 HR HC5 k1 k2 k3 k4 c5 hfj
            generalize nextS n fj sj = mm
            obtain ⟨m1, m2⟩ := mm
            go_wp2_with fail
            go_quiet ((go_at_call 15; exact Calls.quiet_of_same (last_q p m _ _ HC6.out)))
            go_wp2
            go_roundw
            case rel => exact ⟨j + 1, m, by omega, by go_num, clk_drewN HC6.out, HR6.out, below_drewN c6 _⟩
            case measure => simp [intOf]; omega
          · have HC6 := hideL hcn
            have hcell6 := hrn.cell
            clear h1 h2
            go_wp2_with fail
            go_quiet ((go_at_call 15; exact Calls.quiet_of_same (last_q p n _ _ HC6.out)))
            go_wp2
            go_roundw
            case rel => exact ⟨j + 1, n, by omega, by go_num, clk_drewN hcn, hrn, below_drewN hbr _⟩
            case measure => simp [intOf]; omega
      · go_wp2
        go_ret
        exact ⟨rfl, hbr⟩
  · go_enter Try.func3, Try.ntmps3
    go_wp2_with fail
    refine (awake_any _).mono ?_
    rintro e w1 ⟨rfl, hb1⟩
    go_wp2_with fail
    refine (new_any st _ hst).mono ?_
    rintro e w2 ⟨p0, rfl, hp0, hc2, hb2⟩
    have c2 := hb1.trans (hb2.mono hb1.size)
    have c3 := c2.alloc c2.size (.cells #[.int .u64 0] 29)
    have c4 := c3.alloc c3.size (.cells #[.int .u64 0] 31)
    have hR := r_below (r_new w2) ((Below.refl (w2.alloc (.cells #[.int .u64 0] 29)).heap.size (w2.alloc (.cells #[.int .u64 0] 29))).alloc (Nat.le_refl _) (.cells #[.int .u64 0] 31)) (r_lt (r_new w2))
    have hC := c_new (w2.alloc (.cells #[.int .u64 0] 29))
    have hwq : w.heap.size ≤ w2.heap.size := c2.size
    have hwp : w.heap.size ≤ (w2.alloc (.cells #[.int .u64 0] 29)).heap.size := c3.size
    have hpq : (w2.alloc (.cells #[.int .u64 0] 29)).heap.size ≠ w2.heap.size := by
      have := r_lt (r_new w2)
      omega
    have hs : (w2.alloc (.cells #[.int .u64 0] 29)).heap.size = w2.heap.size + 1 := by simp
    rw [hs] at hC hwp hpq
    clear hb1 hb2 hc2 c2 c3 hp0 HE hs
    have HR := hideL hR
    have HC := hideL hC
    clear hR hC
    go_wp2_with fail
    obtain ⟨q, hq⟩ : ∃ q, q = w2.heap.size := ⟨_, rfl⟩
    rw [← hq] at HR HC hwq hwp hpq ⊢
    clear hq
    obtain ⟨p, hp⟩ : ∃ p, p = q + 1 := ⟨_, rfl⟩
    rw [← hp] at HC hwp hpq ⊢
    clear hp
    generalize (w2.alloc (.cells #[.int .u64 0] 29)).alloc (.cells #[.int .u64 0] 31) = w4 at HR HC c4 ⊢
    go_loopw [30] (fun i wr => ∃ (j n : Nat), j ≤ len ∧ i = .int .i64 j ∧ ClkAt wr p n ∧ RAt wr q n ∧ Below w.heap.size w wr) (fun i _ => len - (intOf i).toNat)
    case atStart => exact ⟨0, _, Nat.zero_le _, rfl, HC.out, HR.out, c4⟩
    case round =>
      obtain ⟨j, n, hj, rfl, hcn, hrn, hbr⟩ := hrel
      clear HC HR c4
      by_cases hjl : j < len
      · obtain ⟨bk, off, rfl, hbk, hcell⟩ := HRow.out (by omega)
        have h0 : wr.cell? ⟨bk, off + j * 3, none⟩ = some (.int .i64 (k j)) := (hbr.cell (p := ⟨bk, off + j * 3, none⟩) hbk).trans (hcell j 0 hjl (by omega))
        have h1 : wr.cell? ⟨bk, off + j * 3 + 1, none⟩ = some (.int .u64 (f j)) := (hbr.cell (p := ⟨bk, off + j * 3 + 1, none⟩) hbk).trans (hcell j 1 hjl (by omega))
        have h2 : wr.cell? ⟨bk, off + j * 3 + 2, none⟩ = some (.bool (s j)) := (hbr.cell (p := ⟨bk, off + j * 3 + 2, none⟩) hbk).trans (hcell j 2 hjl (by omega))
        have hfj := hf j
        have hk1 : bk ≠ p := by omega
        have hk2 : bk ≠ q := by omega
        have hjI : (j : Int) < (len : Int) := by omega
        clear hcell
        generalize k j = kj at h0
        generalize f j = fj at h1 hfj
        generalize s j = sj at h2
        by_cases hk : kj = 1
        · subst hk
          go_wp2_with fail
          refine (see_any p n fj wr hcn hfj).mono ?_
          rintro e w5 ⟨rfl, hc5, hg5⟩
          have h1' := hg5.cell h1 (by simpa using hk1)
          have hr5 := r_other hrn hg5 (Ne.symm hpq)
          have c5 := below_clock hbr hbr.size hwp hg5
          have HC5 := hideL hc5
          clear hc5 hg5 h0 h1 h2 hcn hrn hbr
          go_wp2_with fail
          refine (rsee_any q n fj w5 hr5).mono ?_
          rintro e w6 ⟨rfl, hr6, hg6⟩
          have hC6 := clk_other HC5.out hg6 hpq
          have c6 := below_clock c5 c5.size hwq hg6
          generalize max n (min fj maxL) = m at hr6 hC6
          clear hr5 h1' HC5 c5 hg6
          have hcell6 := hr6.cell
          have HR6 := hideL hr6
          have HC6 := hideL hC6
          clear hr6 hC6
          go_wp2_with fail
          go_quiet ((go_at_call 15; exact Calls.quiet_of_same (last_q p m _ _ HC6.out)))
          go_wp2
          go_roundw
          case rel => exact ⟨j + 1, m, by omega, by go_num, clk_drewN HC6.out, HR6.out, below_drewN c6 _⟩
          case measure => simp [intOf]; omega
        · by_cases hk' : kj = 2
          · subst hk'
            go_wp2_with fail
            have HC := hideL (clk_drewN (k := 1) hcn)
            have HR := hideL hrn
            clear hcn hrn h0
            go_region_held3 (fun x => x.cell? ⟨bk, off + j * 3 + 1, none⟩ = some (.int .u64 fj) ∧ x.cell? ⟨bk, off + j * 3 + 2, none⟩ = some (.bool sj)) (go_keep)
              (first | (go_at_call 13; refine (next_any p n fj sj _ HC.out hfj).mono ?_; rintro e w5 ⟨rfl, hc5, hg5⟩; have k1 := hg5.cell h1 (by simpa using hk1); have k2 := hg5.cell h2 (by simpa using hk1)))
            have c5 := below_clock (below_drewN hbr 1) hbr.size hwp hg5
            have hn := HC.out.1
            have HR5 := hideL (r_other (r_drewN (k := 1) HR.out) hg5 (Ne.symm hpq))
            have HC5 := hideL hc5
            clear hc5 hg5 h1 h2 HC HR hbr
            go_wp2_with fail
            have HR := hideL (r_drewN (k := 1) HR5.out)
            clear HR5
            go_region_held3 (fun x => x.cell? ⟨bk, off + j * 3 + 1, none⟩ = some (.int .u64 fj) ∧ x.cell? ⟨bk, off + j * 3 + 2, none⟩ = some (.bool sj)) (go_keep)
              (first | (go_at_call 14; refine (rnext_any q n fj sj _ HR.out hn hfj).mono ?_; rintro e w6 ⟨rfl, hr6, hg6⟩; have k3 := hg6.cell k1 (by simpa using hk2); have k4 := hg6.cell k2 (by simpa using hk2)))
            have c6 := below_clock (below_drewN c5 1) c5.size hwq hg6
            have HC6 := hideL (clk_other (clk_drewN (k := 1) HC5.out) hg6 hpq)
            generalize nextN n fj sj = m at hr6 HC6
            have hcell6 := hr6.cell
            have HR6 := hideL hr6
            clear hr6 hg6 HR HC5 k1 k2 k3 k4 c5 hfj
            generalize nextS n fj sj = mm
            obtain ⟨m1, m2⟩ := mm
            go_wp2_with fail
            go_quiet ((go_at_call 15; exact Calls.quiet_of_same (last_q p m _ _ HC6.out)))
            go_wp2
            go_roundw
            case rel => exact ⟨j + 1, m, by omega, by go_num, clk_drewN HC6.out, HR6.out, below_drewN c6 _⟩
            case measure => simp [intOf]; omega
          · have HC6 := hideL hcn
            have hcell6 := hrn.cell
            clear h1 h2
            go_wp2_with fail
            go_quiet ((go_at_call 15; exact Calls.quiet_of_same (last_q p n _ _ HC6.out)))
            go_wp2
            go_roundw
            case rel => exact ⟨j + 1, n, by omega, by go_num, clk_drewN hcn, hrn, below_drewN hbr _⟩
            case measure => simp [intOf]; omega
      · go_wp2
        go_ret
        exact ⟨rfl, hbr⟩

theorem walk (a0 : Int) (a1 : Bool) (m : Option Addr × Nat × Nat × (Nat → Int) × (Nat → Int) × (Nat → Bool)) (w : World) (w0 : (Lit.int .u64 a0).wf = true) (w1 : ∀ i, (Lit.int .u64 (m.2.2.2.2.1 i)).wf = true) (w2 : m.2.1 ≤ 140737488355328 ∧ IsRow w m.1 m.2.1 3 (opF m.2.2.2.1 m.2.2.2.2.1 m.2.2.2.2.2)) :
    Calls Try.prog 3 #[.int .u64 a0, .bool a1, .slice m.1 m.2.1 m.2.2.1] w fun e w' => e = .returned (.bool true) ∧ Below w.heap.size w w' := by
  have b0 := bounds_u64 w0
  obtain ⟨a, rfl⟩ := Int.eq_ofNat_of_zero_le b0.1
  have e : (fun i => (((m.2.2.2.2.1 i).toNat : Nat) : Int)) = m.2.2.2.2.1 := by
    funext i
    exact Int.toNat_of_nonneg (bounds_u64 (w1 i)).1
  refine core a a1 m.2.1 m.2.2.1 m.1 m.2.2.2.1 (fun i => (m.2.2.2.2.1 i).toNat) m.2.2.2.2.2 w (by omega) w2.1 (fun i => ?_) ?_
  · have := bounds_u64 (w1 i)
    omega
  · rw [e]
    exact w2.2
end Go.Proofs.Ytonbfckloicgaaa.lsnTicks
