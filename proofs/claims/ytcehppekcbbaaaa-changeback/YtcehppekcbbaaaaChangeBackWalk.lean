/-
  The walk of ChangeBack: it returns true, and turns nothing that was there.
-/
import Derived.Test.YtcehppekcbbaaaaChangeAwake
import Derived.Test.YtcehppekcbbaaaaChangeInv
import Derived.Test.YtcehppekcbbaaaaChangeCellsEq
import Derived.Test.YtcehppekcbbaaaaRowsKept
import Derived.OpenShut
namespace Go.Proofs.Ytcehppekcbbaaaa.changeBack
open Go.RowKit
set_option linter.unusedVariables false

theorem zero_pg_fits : Pg.zero.fits := ⟨by decide, fun i _ => by show (0 : Nat) ≤ maxLen; omega⟩

/-- What a change made its inverse takes back. -/
theorem back_facts (p : Pg) (c : Ch) (l m : Nat) (h : appE p c l = 0) :
    invE c = 0 ∧ (m ≤ l ∨ maxP < m → appE (appP p c l) (invC c) m ≠ 0) ∧ (¬ (m ≤ l ∨ maxP < m) → appE (appP p c l) (invC c) m = 0 ∧ csA (appP (appP p c l) (invC c) m) = csA p ∧ (appP (appP p c l) (invC c) m).l = m) := by
  obtain ⟨hp, hc, hl, hlt, hu, hs⟩ := (app_yes p c l).1 h
  obtain ⟨ir, iat, iwu, iwv, imu, imv, _⟩ := inv_right c hc
  have eq : appP p c l = p.put l c.at c.makeU c.makeV := by unfold appP; rw [if_pos h]
  rw [eq]
  have hq := put_right p c l hp hc hl
  refine ⟨by unfold invE; rw [if_pos hc], fun hm => ?_, fun hm => ?_⟩
  · intro h0
    obtain ⟨_, _, h3, h4, _, _⟩ := (app_yes _ _ _).1 h0
    have h5 : l < m := h4
    omega
  · have h0 : appE (p.put l c.at c.makeU c.makeV) (invC c) m = 0 := by
      rw [app_yes]
      refine ⟨hq, ir, by omega, by show l < m; omega, ?_, ?_⟩
      · rw [iat, iwu]; exact (put_at _ _ _ _ _).1
      · rw [iat, iwv]; exact (put_at _ _ _ _ _).2
    have e2 : appP (p.put l c.at c.makeU c.makeV) (invC c) m = (p.put l c.at c.makeU c.makeV).put m c.at c.wantU c.wantV := by
      unfold appP
      rw [if_pos h0, iat, imu, imv]
    refine ⟨h0, ?_, by rw [e2]; rfl⟩
    rw [e2]
    apply csA_same
    intro i hi
    by_cases hia : i = c.at
    · subst hia
      have h1 := put_at (p.put l c.at c.makeU c.makeV) m c.at c.wantU c.wantV
      exact ⟨h1.1.trans hu.symm, h1.2.trans hs.symm⟩
    · have h1 := put_other (p.put l c.at c.makeU c.makeV) m c.at i c.wantU c.wantV hia
      have h2 := put_other p l c.at i c.makeU c.makeV hia
      exact ⟨h1.1.trans h2.1, h1.2.trans h2.2⟩

set_option maxRecDepth 4000 in
set_option maxHeartbeats 1600000 in
theorem core (p : Pg) (c : Ch) (l m : Nat) (w : World) (hp : p.fits) (hl : l < 18446744073709551616) (hm : m < 18446744073709551616) :
    Calls Try.prog 6 #[.agg (pgA p), .agg (chA c), .int .u64 l, .int .u64 m] w fun e w' => e = .returned (.bool true) ∧ Below w.heap.size w w' := by
  have H0 := hide (Keeps.two w 27 29 (pgA p) (chA c))
  have HA := hide (fun w => apply_any p c l w hl)
  have HN := hide (app_no p c l)
  have HB := hide (back_facts p c l m)
  have HI := hide (fun w => inverse_any c w)
  have HP := hide hp
  have HA2 := hide (fun w => apply_any (appP p c l) (invC c) m w hm)
  clear hl hm hp
  generalize appP p c l = q at *
  generalize appE p c l = er at *
  generalize invC c = d at *
  generalize invE c = ei at *
  generalize appP q d m = b at *
  generalize appE q d m = eb at *
  go_enter Try.func6, Try.ntmps6
  obtain ⟨gc, hg⟩ : ∃ g, g = w.heap.size + 1 := ⟨_, rfl⟩
  rw [← hg] at H0
  go_wp2_with fail
  rw [← hg]
  refine gen_calls (fun x => Hid (Keeps w x [(gc, 29, chA c), (w.heap.size, 27, pgA p)])) H0 ?_
  clear H0 hg
  intro w0 H0
  refine (awake_any _).mono ?_
  rintro e w1 ⟨rfl, hb1⟩
  have H1 := hide (H0.out.later hb1)
  clear H0 hb1
  go_wp2_with (first | (refine wpList_load_page rfl (.tmp 4) rfl w.heap.size rfl p H1.out.1.2.1 ?_) | (refine wpList_load_at rfl 29 (.tmp 5) rfl gc rfl (chA c) H1.out.1.1 _ Try.underlying29 rfl infoCh ?_))
  refine (HA.out _).mono ?_
  rintro e w2 ⟨rfl, hb2⟩
  have H2 := hide (H1.out.later hb2)
  clear H1 hb2 HA
  go_wp2_with (refine wpList_store_page rfl (.tmp 9) (.tmp 22) rfl w2.heap.size Pg.zero q rfl rfl (show PgAt _ w2.heap.size Pg.zero from heap_alloc_new w2 _) ?_)
  intro w3 hP3 hk
  have H3 := hide (Keeps.laid H2.out (show RowAt w3 w2.heap.size 27 (pgA q) from hP3) hk)
  clear hP3 hk H2
  generalize w2.heap.size = g2 at *
  by_cases h0 : er = 0
  · subst h0
    obtain ⟨rfl, hlate, hgood⟩ := HB.out rfl
    clear HB HN
    go_wp2_with (refine wpList_load_at rfl 29 (.tmp 5) rfl gc rfl (chA c) H3.out.1.2.1 _ Try.underlying29 rfl infoCh ?_)
    refine (HI.out _).mono ?_
    rintro e w4 ⟨rfl, hb4⟩
    have H4 := hide (H3.out.later hb4)
    clear H3 hb4 HI
    go_wp2_with (refine wpList_store_at rfl 29 (.tmp 11) (.tmp 32) rfl w4.heap.size (chA Ch.zero) (chA d) rfl rfl (RowAt.new w4 29 (chA Ch.zero)) infoCh rfl (chA_one _) ?_)
    intro w5 hr hk _
    have H5 := hide (H4.out.laid hr hk)
    clear hr hk H4
    generalize w4.heap.size = g4 at *
    go_wp2_with (first | (refine wpList_load_page rfl (.tmp 9) rfl g2 rfl q H5.out.1.2.1 ?_) | (refine wpList_load_at rfl 29 (.tmp 11) rfl g4 rfl (chA d) H5.out.1.1 _ Try.underlying29 rfl infoCh ?_))
    refine (HA2.out _).mono ?_
    rintro e w6 ⟨rfl, hb6⟩
    have H6 := hide (H5.out.later hb6)
    clear H5 hb6 HA2
    go_wp2_with (refine wpList_store_page rfl (.tmp 13) (.tmp 39) rfl w6.heap.size Pg.zero b rfl rfl (show PgAt _ w6.heap.size Pg.zero from heap_alloc_new w6 _) ?_)
    intro w7 hP7 hk
    have H7 := hide (Keeps.laid H6.out (show RowAt w7 w6.heap.size 27 (pgA b) from hP7) hk)
    clear hP7 hk H6
    generalize w6.heap.size = g6 at *
    have d7 := H7.out.2
    by_cases h1 : m ≤ l
    · have he := hlate (.inl h1)
      have k0 : (eb != 0) = true := by simpa using he
      have i1 : (m : Int) ≤ (l : Int) := by omega
      clear hlate hgood he h1 H7
      go_wp2
      go_ret
      exact ⟨rfl, d7⟩
    · have i1 : ¬ (m : Int) ≤ (l : Int) := by omega
      by_cases h2 : maxP < m
      · have he := hlate (.inr h2)
        have k0 : (eb != 0) = true := by simpa using he
        have i2 : ((4611686018427387904 : Int) < (m : Int)) = True := eq_true (by unfold maxP at h2; omega)
        clear hlate hgood he h1 h2 H7
        go_wp2
        go_ret
        exact ⟨rfl, d7⟩
      · obtain ⟨rfl, hcs, hbl⟩ := hgood (by omega)
        have i2 : ((4611686018427387904 : Int) < (m : Int)) = False := eq_false (by unfold maxP at h2; omega)
        have HCS := hide (fun x => run_cells_self p HP.out x)
        have a0 : w7.cell? ⟨g6, 0, none⟩ = some (.int .u64 (m : Int)) := by rw [← hbl]; exact PgAt.lsn H7.out.1.1
        clear hlate hgood h1 h2 hbl
        go_wp2_with (first | (refine wpList_load_cs rfl (.tmp 61) rfl g6 rfl b H7.out.1.1 ?_; rw [hcs]) | (refine wpList_load_cs rfl (.tmp 63) rfl w.heap.size rfl p H7.out.1.2.2.2.2.1 ?_) | (refine wpList_binop rfl .eql 25 25 (.tmp 62) (.tmp 64) rfl (.agg (csA p)) (.agg (csA p)) (.bool true) rfl rfl (cells_guard _ _ _ p p _) (HCS.out _) ?_))
        go_ret
        exact ⟨rfl, d7⟩
  · have k0 : (er == 0) = false := by simpa using h0
    obtain rfl := HN.out h0
    have HEQ := hide (fun x => run_page_eql Pg.zero Pg.zero zero_pg_fits zero_pg_fits x)
    rw [decide_eq_true (Pg.same.refl Pg.zero)] at HEQ
    have d3 := H3.out.2
    clear HB HN h0 HA2 HI
    go_wp2_with (first | (refine wpList_load_page rfl (.tmp 9) rfl g2 rfl Pg.zero H3.out.1.1 ?_) | (refine wpList_binop rfl .eql 27 27 (.tmp 26) (.tmp 27) rfl (.agg (pgA Pg.zero)) (.agg (pgA Pg.zero)) (.bool true) rfl rfl (page_guard _ _ _ Pg.zero Pg.zero _) (HEQ.out _) ?_))
    go_ret
    exact ⟨rfl, d3⟩

theorem walk (p : Pg) (c : Ch) (a2 a3 : Int) (w : World) (hp : p.fits) (hc : c.fits) (w2 : (Lit.int .u64 a2).wf = true) (w3 : (Lit.int .u64 a3).wf = true) :
    Calls Try.prog 6 #[.agg (pgA p), .agg (chA c), .int .u64 a2, .int .u64 a3] w fun e w' => e = .returned (.bool true) ∧ Below w.heap.size w w' := by
  have b2 := bounds_u64 w2
  have b3 := bounds_u64 w3
  obtain ⟨n, rfl⟩ := Int.eq_ofNat_of_zero_le b2.1
  obtain ⟨m, rfl⟩ := Int.eq_ofNat_of_zero_le b3.1
  exact core p c n m w hp (by omega) (by omega)
end Go.Proofs.Ytcehppekcbbaaaa.changeBack
