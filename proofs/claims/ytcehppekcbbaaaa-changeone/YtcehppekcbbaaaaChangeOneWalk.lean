/-
  The walk of ChangeOne: it returns true, and turns nothing that was there.
-/
import Derived.Test.YtcehppekcbbaaaaChangeAwake
import Derived.Test.YtcehppekcbbaaaaChangeInv
import Derived.Test.YtcehppekcbbaaaaChangeFacts
import Derived.Test.YtcehppekcbbaaaaRowsKept
import Derived.Test.YtcehppekcbbaaaaRowLoad
import Derived.OpenShut
namespace Go.Proofs.Ytcehppekcbbaaaa.changeOne
open Go.RowKit
set_option linter.unusedVariables false

theorem zero_pg_fits : Pg.zero.fits := ⟨by decide, fun i _ => by show (0 : Nat) ≤ maxLen; omega⟩
theorem load_lsn {b : Nat} {p : Pg} (x : World) (h : PgAt x b p) : (Instr.loadAt 22 (.pointer (some ⟨b, 0, none⟩))).run Try.prog x = .ok (.int .u64 (p.l : Int)) x := by
  have h1 := h.lsn
  go_simp
theorem load_used {b : Nat} {p : Pg} (x : World) (i : Nat) (hi : i < 8) (h : PgAt x b p) : (Instr.loadAt 4 (.pointer (some ⟨b, 1 + i * 2, none⟩))).run Try.prog x = .ok (.bool (p.u i)) x := by
  have h1 := h.used i hi
  go_simp
theorem load_val {b : Nat} {p : Pg} (x : World) (i : Nat) (hi : i < 8) (h : PgAt x b p) : (Instr.loadAt 9 (.pointer (some ⟨b, 1 + i * 2 + 1, none⟩))).run Try.prog x = .ok (.string (p.s i)) x := by
  have h1 := h.val i hi
  go_simp

/-- What a change touches. -/
theorem one_facts (p : Pg) (c : Ch) (l : Nat) (h : appE p c l = 0) :
    ∃ i : Nat, c.sl = (i : Int) ∧ i < 8 ∧ (∀ j, j < 8 → j ≠ i → (appP p c l).u j = p.u j ∧ (appP p c l).s j = p.s j) ∧ (appP p c l).l = l ∧ p.l < l ∧ (appP p c l).u i = decide (c.k ≠ 3) ∧ (appP p c l).s i = c.n ∧ (appP p c l).fits := by
  obtain ⟨hp, hc, hl, hlt, hu, hs⟩ := (app_yes p c l).1 h
  obtain ⟨i, hi⟩ := Int.eq_ofNat_of_zero_le hc.1.2.2.1
  have hi8 : i < 8 := by have := hc.1.2.2.2.1; omega
  have hat : c.at = i := by unfold Ch.at; rw [hi]; rfl
  have e : appP p c l = p.put l i c.makeU c.makeV := by unfold appP; rw [if_pos h, hat]
  have hq : (p.put l i c.makeU c.makeV).right := hat ▸ put_right p c l hp hc hl
  have hv : c.makeV = c.n := by
    unfold Ch.makeV
    split
    · rename_i hk
      rcases hc.2 with h | h | h
      · omega
      · omega
      · exact (size0 _ h.2).symm
    · rfl
  rw [e]
  exact ⟨i, hi, hi8, fun j _ hj => put_other _ _ _ _ _ _ hj, rfl, hlt, (put_at _ _ _ _ _).1, (put_at _ _ _ _ _).2.trans hv, hq.fits⟩

set_option maxRecDepth 4000 in
set_option maxHeartbeats 3200000 in
theorem core (p : Pg) (c : Ch) (l : Nat) (w : World) (hp : p.fits) (hl : l < 18446744073709551616) :
    Calls Try.prog 8 #[.agg (pgA p), .agg (chA c), .int .u64 l] w fun e w' => e = .returned (.bool true) ∧ Below w.heap.size w w' := by
  have H0 := hide (Keeps.two w 27 29 (pgA p) (chA c))
  have HA := hide (fun w => apply_any p c l w hl)
  have HN := hide (app_no p c l)
  have HB := hide (one_facts p c l)
  have HP := hide hp
  clear hl hp
  generalize appP p c l = q at *
  generalize appE p c l = er at *
  go_enter Try.func8, Try.ntmps8
  obtain ⟨gc, hg⟩ : ∃ g, g = w.heap.size + 1 := ⟨_, rfl⟩
  rw [← hg] at H0
  go_wp2_with fail
  rw [← hg]
  refine gen_calls (fun x => Hid (Keeps w x [(gc, 29, chA c), (w.heap.size, 27, pgA p)])) H0 ?_
  clear H0 hg
  intro w0 H0
  refine (awake_any _).mono ?_
  rintro e w1 ⟨rfl, hb1⟩
  have H1 := hide (H0.out.later hb1)
  clear H0 hb1
  go_wp2_with (first | (refine wpList_load_page rfl (.tmp 3) rfl w.heap.size rfl p H1.out.1.2.1 ?_) | (refine wpList_load_at rfl 29 (.tmp 4) rfl gc rfl (chA c) H1.out.1.1 _ Try.underlying29 rfl infoCh ?_))
  refine (HA.out _).mono ?_
  rintro e w2 ⟨rfl, hb2⟩
  have H2 := hide (H1.out.later hb2)
  clear H1 hb2 HA
  go_wp2_with (refine wpList_store_page rfl (.tmp 7) (.tmp 17) rfl w2.heap.size Pg.zero q rfl rfl (show PgAt _ w2.heap.size Pg.zero from heap_alloc_new w2 _) ?_)
  intro w3 hP3 hk
  have H3 := hide (Keeps.laid H2.out (show RowAt w3 w2.heap.size 27 (pgA q) from hP3) hk)
  clear hP3 hk H2
  generalize w2.heap.size = g2 at *
  by_cases h0 : er = 0
  · subst h0
    obtain ⟨i, hi, hi8, hoth, hql, hlt, hqu, hqs, hqf⟩ := HB.out rfl
    clear HB HN
    have HO := hide hoth
    have HQ := hide (And.intro hql (And.intro hqu (And.intro hqs hqf)))
    have i2 : (p.l : Int) < (l : Int) := by omega
    have j8 : (i : Int) < 8 := by omega
    clear hoth hql hqu hqs hqf hlt
    go_wp2
    go_loopw [24] (fun v wr => ∃ j : Nat, j ≤ 8 ∧ v = .int .i64 j ∧ Keeps w wr [(g2, 27, pgA q), (gc, 29, chA c), (w.heap.size, 27, pgA p)]) (fun v _ => 8 - (intOf v).toNat)
    case atStart => exact ⟨0, Nat.zero_le _, rfl, H3.out⟩
    case round =>
      obtain ⟨j, hj, rfl, hK⟩ := hrel
      clear H3
      have H4 := hide hK
      clear hK
      by_cases hlt : j < 8
      · have jlt : (j : Int) < 8 := by omega
        by_cases hji : j = i
        · subst hji
          go_wp2_with fail
          refine wp_region_in (fun x => Keeps w x [(g2, 27, pgA q), (gc, 29, chA c), (w.heap.size, 27, pgA p)]) (by kernel_rfl) (by kernel_rfl) H4.out.drew ?_
          clear H4
          repeat (first
            | go_big_quiet_skip
            | (refine wpQuiet_load rfl 3 (.tmp 28) rfl _ (.int .i64 (j : Int)) rfl (fun y hy => load_slot y j hi hy.1.2.1) ?_; simp only [Act.put, Array.setIfInBounds, List.size_toArray, List.length_cons, List.length_nil, Nat.reduceAdd, Nat.reduceLT, ↓reduceDIte, List.set_toArray, List.set_cons_succ, List.set_cons_zero])
            | (refine wpQuiet_plain rfl (fun K hK => ?_); go_simp; refine hK _ ?_; clear hK K))
          refine wpQuiet_nil ?_
          intro w5 h5
          have H5 := hide h5
          clear h5
          go_wp2
          go_roundw
          case rel => exact ⟨j + 1, by omega, by go_num, H5.out⟩
          case measure => simp [intOf]; omega
        · have hne : ((j : Int) == (i : Int)) = false := by rw [beq_eq_false_iff_ne]; omega
          have hne2 : ((j : Int) != (i : Int)) = true := by rw [bne, hne]; rfl
          obtain ⟨o1, o2⟩ := HO.out j hlt hji
          have hfz := HP.out.2 j hlt
          have HCE := hide (fun x => run_cell_neq (p.u j) (p.u j) (p.s j) (p.s j) hfz hfz x)
          rw [decide_eq_true ⟨rfl, rfl⟩] at HCE
          have LC := hide (fun (y : World) (hy : PgAt y g2 q) => load_ce y j hlt hy)
          rw [o1, o2] at LC
          clear o1 o2 hfz hji
          go_wp2_with fail
          refine wp_region_in (fun x => Keeps w x [(g2, 27, pgA q), (gc, 29, chA c), (w.heap.size, 27, pgA p)]) (by kernel_rfl) (by kernel_rfl) H4.out.drew ?_
          clear H4
          repeat (first
            | go_big_quiet_skip
            | (refine wpQuiet_load rfl 3 (.tmp 28) rfl _ (.int .i64 (i : Int)) rfl (fun y hy => load_slot y i hi hy.1.2.1) ?_; simp only [Act.put, Array.setIfInBounds, List.size_toArray, List.length_cons, List.length_nil, Nat.reduceAdd, Nat.reduceLT, ↓reduceDIte, List.set_toArray, List.set_cons_succ, List.set_cons_zero])
            | (refine wpQuiet_load rfl 24 (.tmp 34) rfl _ (.agg (ceA (p.u j) (p.s j))) rfl (fun y hy => LC.out y hy.1.1) ?_; simp only [Act.put, Array.setIfInBounds, List.size_toArray, List.length_cons, List.length_nil, Nat.reduceAdd, Nat.reduceLT, ↓reduceDIte, List.set_toArray, List.set_cons_succ, List.set_cons_zero])
            | (refine wpQuiet_load rfl 24 (.tmp 38) rfl _ (.agg (ceA (p.u j) (p.s j))) rfl (fun y hy => load_ce y j hlt hy.1.2.2.1) ?_; simp only [Act.put, Array.setIfInBounds, List.size_toArray, List.length_cons, List.length_nil, Nat.reduceAdd, Nat.reduceLT, ↓reduceDIte, List.set_toArray, List.set_cons_succ, List.set_cons_zero])
            | (refine wpQuiet_binop rfl .neq 24 24 (.tmp 35) (.tmp 39) rfl _ _ (.bool false) rfl rfl (fun y => cell_guard _ _ _ (p.u j) (p.u j) (p.s j) (p.s j) y) (fun y => HCE.out y) ?_; simp only [Act.put, Array.setIfInBounds, List.size_toArray, List.length_cons, List.length_nil, Nat.reduceAdd, Nat.reduceLT, ↓reduceDIte, List.set_toArray, List.set_cons_succ, List.set_cons_zero])
            | (refine wpQuiet_plain rfl (fun K hK => ?_); go_simp; refine hK _ ?_; clear hK K))
          refine wpQuiet_nil ?_
          intro w5 h5
          have H5 := hide h5
          clear h5
          go_wp2
          go_roundw
          case rel => exact ⟨j + 1, by omega, by go_num, H5.out⟩
          case measure => simp [intOf]; omega
      · obtain rfl : j = 8 := by omega
        have LL := hide (fun (y : World) (hy : PgAt y g2 q) => load_lsn y hy)
        have LU := hide (fun (y : World) (hy : PgAt y g2 q) => load_used y i hi8 hy)
        have LV := hide (fun (y : World) (hy : PgAt y g2 q) => load_val y i hi8 hy)
        rw [HQ.out.1] at LL
        rw [HQ.out.2.1] at LU
        rw [HQ.out.2.2.1] at LV
        clear HQ HO HP
        have LK := hide (fun (y : World) (hy : RowAt y gc 29 (chA c)) => load_int y 0 c.k (hy.cell 0 _ rfl))
        by_cases hk : c.k = 3
        · rw [decide_eq_false (fun h => h hk)] at LU
          rw [hk] at LK
          clear hk
          go_wp2_with fail
          refine wp_region_in (fun x => Keeps w x [(g2, 27, pgA q), (gc, 29, chA c), (w.heap.size, 27, pgA p)]) (by kernel_rfl) (by kernel_rfl) H4.out.drew ?_
          clear H4
          repeat (first
            | go_big_quiet_skip
            | (refine wpQuiet_load rfl 22 (.tmp 43) rfl _ (.int .u64 (l : Int)) rfl (fun y hy => LL.out y hy.1.1) ?_; simp only [Act.put, Array.setIfInBounds, List.size_toArray, List.length_cons, List.length_nil, Nat.reduceAdd, Nat.reduceLT, ↓reduceDIte, List.set_toArray, List.set_cons_succ, List.set_cons_zero])
            | (refine wpQuiet_load rfl 22 (.tmp 49) rfl _ (.int .u64 (p.l : Int)) rfl (fun y hy => load_lsn y hy.1.2.2.1) ?_; simp only [Act.put, Array.setIfInBounds, List.size_toArray, List.length_cons, List.length_nil, Nat.reduceAdd, Nat.reduceLT, ↓reduceDIte, List.set_toArray, List.set_cons_succ, List.set_cons_zero])
            | (refine wpQuiet_load rfl 3 (.tmp 54) rfl _ (.int .i64 (i : Int)) rfl (fun y hy => load_slot y i hi hy.1.2.1) ?_; simp only [Act.put, Array.setIfInBounds, List.size_toArray, List.length_cons, List.length_nil, Nat.reduceAdd, Nat.reduceLT, ↓reduceDIte, List.set_toArray, List.set_cons_succ, List.set_cons_zero])
            | (refine wpQuiet_load rfl 4 (.tmp 58) rfl _ (.bool false) rfl (fun y hy => LU.out y hy.1.1) ?_; simp only [Act.put, Array.setIfInBounds, List.size_toArray, List.length_cons, List.length_nil, Nat.reduceAdd, Nat.reduceLT, ↓reduceDIte, List.set_toArray, List.set_cons_succ, List.set_cons_zero])
            | (refine wpQuiet_load rfl 3 (.tmp 60) rfl _ (.int .i64 3) rfl (fun y hy => LK.out y hy.1.2.1) ?_; simp only [Act.put, Array.setIfInBounds, List.size_toArray, List.length_cons, List.length_nil, Nat.reduceAdd, Nat.reduceLT, ↓reduceDIte, List.set_toArray, List.set_cons_succ, List.set_cons_zero])
            | (refine wpQuiet_load rfl 3 (.tmp 66) rfl _ (.int .i64 (i : Int)) rfl (fun y hy => load_slot y i hi hy.1.2.1) ?_; simp only [Act.put, Array.setIfInBounds, List.size_toArray, List.length_cons, List.length_nil, Nat.reduceAdd, Nat.reduceLT, ↓reduceDIte, List.set_toArray, List.set_cons_succ, List.set_cons_zero])
            | (refine wpQuiet_load rfl 9 (.tmp 70) rfl _ (.string c.n) rfl (fun y hy => LV.out y hy.1.1) ?_; simp only [Act.put, Array.setIfInBounds, List.size_toArray, List.length_cons, List.length_nil, Nat.reduceAdd, Nat.reduceLT, ↓reduceDIte, List.set_toArray, List.set_cons_succ, List.set_cons_zero])
            | (refine wpQuiet_load rfl 9 (.tmp 72) rfl _ (.string c.n) rfl (fun y hy => load_str y 4 c.n (hy.1.2.1.cell 4 _ rfl)) ?_; simp only [Act.put, Array.setIfInBounds, List.size_toArray, List.length_cons, List.length_nil, Nat.reduceAdd, Nat.reduceLT, ↓reduceDIte, List.set_toArray, List.set_cons_succ, List.set_cons_zero])
            | (refine wpQuiet_plain rfl (fun K hK => ?_); go_simp; refine hK _ ?_; clear hK K))
          refine wpQuiet_nil ?_
          intro w5 h5
          have d5 := h5.2
          clear h5
          go_wp2
          go_ret
          exact ⟨rfl, d5⟩
        · rw [decide_eq_true hk] at LU
          have k3 : (c.k == 3) = false := by simpa using hk
          have k4 : (c.k != 3) = true := by simpa using hk
          clear hk
          go_wp2_with fail
          refine wp_region_in (fun x => Keeps w x [(g2, 27, pgA q), (gc, 29, chA c), (w.heap.size, 27, pgA p)]) (by kernel_rfl) (by kernel_rfl) H4.out.drew ?_
          clear H4
          repeat (first
            | go_big_quiet_skip
            | (refine wpQuiet_load rfl 22 (.tmp 43) rfl _ (.int .u64 (l : Int)) rfl (fun y hy => LL.out y hy.1.1) ?_; simp only [Act.put, Array.setIfInBounds, List.size_toArray, List.length_cons, List.length_nil, Nat.reduceAdd, Nat.reduceLT, ↓reduceDIte, List.set_toArray, List.set_cons_succ, List.set_cons_zero])
            | (refine wpQuiet_load rfl 22 (.tmp 49) rfl _ (.int .u64 (p.l : Int)) rfl (fun y hy => load_lsn y hy.1.2.2.1) ?_; simp only [Act.put, Array.setIfInBounds, List.size_toArray, List.length_cons, List.length_nil, Nat.reduceAdd, Nat.reduceLT, ↓reduceDIte, List.set_toArray, List.set_cons_succ, List.set_cons_zero])
            | (refine wpQuiet_load rfl 3 (.tmp 54) rfl _ (.int .i64 (i : Int)) rfl (fun y hy => load_slot y i hi hy.1.2.1) ?_; simp only [Act.put, Array.setIfInBounds, List.size_toArray, List.length_cons, List.length_nil, Nat.reduceAdd, Nat.reduceLT, ↓reduceDIte, List.set_toArray, List.set_cons_succ, List.set_cons_zero])
            | (refine wpQuiet_load rfl 4 (.tmp 58) rfl _ (.bool true) rfl (fun y hy => LU.out y hy.1.1) ?_; simp only [Act.put, Array.setIfInBounds, List.size_toArray, List.length_cons, List.length_nil, Nat.reduceAdd, Nat.reduceLT, ↓reduceDIte, List.set_toArray, List.set_cons_succ, List.set_cons_zero])
            | (refine wpQuiet_load rfl 3 (.tmp 60) rfl _ (.int .i64 c.k) rfl (fun y hy => LK.out y hy.1.2.1) ?_; simp only [Act.put, Array.setIfInBounds, List.size_toArray, List.length_cons, List.length_nil, Nat.reduceAdd, Nat.reduceLT, ↓reduceDIte, List.set_toArray, List.set_cons_succ, List.set_cons_zero])
            | (refine wpQuiet_load rfl 3 (.tmp 66) rfl _ (.int .i64 (i : Int)) rfl (fun y hy => load_slot y i hi hy.1.2.1) ?_; simp only [Act.put, Array.setIfInBounds, List.size_toArray, List.length_cons, List.length_nil, Nat.reduceAdd, Nat.reduceLT, ↓reduceDIte, List.set_toArray, List.set_cons_succ, List.set_cons_zero])
            | (refine wpQuiet_load rfl 9 (.tmp 70) rfl _ (.string c.n) rfl (fun y hy => LV.out y hy.1.1) ?_; simp only [Act.put, Array.setIfInBounds, List.size_toArray, List.length_cons, List.length_nil, Nat.reduceAdd, Nat.reduceLT, ↓reduceDIte, List.set_toArray, List.set_cons_succ, List.set_cons_zero])
            | (refine wpQuiet_load rfl 9 (.tmp 72) rfl _ (.string c.n) rfl (fun y hy => load_str y 4 c.n (hy.1.2.1.cell 4 _ rfl)) ?_; simp only [Act.put, Array.setIfInBounds, List.size_toArray, List.length_cons, List.length_nil, Nat.reduceAdd, Nat.reduceLT, ↓reduceDIte, List.set_toArray, List.set_cons_succ, List.set_cons_zero])
            | (refine wpQuiet_plain rfl (fun K hK => ?_); go_simp; refine hK _ ?_; clear hK K))
          refine wpQuiet_nil ?_
          intro w5 h5
          have d5 := h5.2
          clear h5
          go_wp2
          go_ret
          exact ⟨rfl, d5⟩
  · have k0 : (er == 0) = false := by simpa using h0
    obtain rfl := HN.out h0
    have HEQ := hide (fun x => run_page_eql Pg.zero Pg.zero zero_pg_fits zero_pg_fits x)
    rw [decide_eq_true (Pg.same.refl Pg.zero)] at HEQ
    have d3 := H3.out.2
    clear HB HN h0
    go_wp2_with (first | (refine wpList_load_page rfl (.tmp 7) rfl g2 rfl Pg.zero H3.out.1.1 ?_) | (refine wpList_binop rfl .eql 27 27 (.tmp 21) (.tmp 22) rfl (.agg (pgA Pg.zero)) (.agg (pgA Pg.zero)) (.bool true) rfl rfl (page_guard _ _ _ Pg.zero Pg.zero _) (HEQ.out _) ?_))
    go_ret
    exact ⟨rfl, d3⟩

theorem walk (p : Pg) (c : Ch) (a2 : Int) (w : World) (hp : p.fits) (hc : c.fits) (w2 : (Lit.int .u64 a2).wf = true) :
    Calls Try.prog 8 #[.agg (pgA p), .agg (chA c), .int .u64 a2] w fun e w' => e = .returned (.bool true) ∧ Below w.heap.size w w' := by
  have b2 := bounds_u64 w2
  obtain ⟨n, rfl⟩ := Int.eq_ofNat_of_zero_le b2.1
  exact core p c n w hp (by omega)
end Go.Proofs.Ytcehppekcbbaaaa.changeOne
