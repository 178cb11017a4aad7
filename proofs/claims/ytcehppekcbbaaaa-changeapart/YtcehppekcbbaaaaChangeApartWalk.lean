/-
  The walk of ChangeApart: it returns true, and turns nothing that was there.
-/
import Derived.Test.YtcehppekcbbaaaaChangeAwake
import Derived.Test.YtcehppekcbbaaaaChangeFacts
import Derived.Test.YtcehppekcbbaaaaRowsKept
import Derived.Test.YtcehppekcbbaaaaRowLoad
import Derived.OpenShut
namespace Go.Proofs.Ytcehppekcbbaaaa.changeApart
open Go.RowKit
set_option linter.unusedVariables false

/-- Changes of two cells, in both orders. -/
theorem apart_facts (p : Pg) (c d : Ch) (l m : Nat) (hcd : ¬ c.sl = d.sl) (hlm : l < m) (hm : m ≤ maxP) (h1 : appE p c l = 0) (h2 : appE p d l = 0) :
    appE (appP p c l) d m = 0 ∧ appE (appP p d l) c m = 0 ∧ (appP (appP p c l) d m).same (appP (appP p d l) c m) ∧ (appP (appP p c l) d m).fits ∧ (appP (appP p d l) c m).fits := by
  obtain ⟨hp, hc, hl, hlt, hu, hs⟩ := (app_yes p c l).1 h1
  obtain ⟨_, hd, _, _, hu2, hs2⟩ := (app_yes p d l).1 h2
  have hn : c.at ≠ d.at := by
    have a1 := hc.1
    have a2 := hd.1
    unfold Ch.at
    omega
  have e1 : appP p c l = p.put l c.at c.makeU c.makeV := by unfold appP; rw [if_pos h1]
  have e2 : appP p d l = p.put l d.at d.makeU d.makeV := by unfold appP; rw [if_pos h2]
  have q1 := put_right p c l hp hc hl
  have q2 := put_right p d l hp hd hl
  have g1 : appE (p.put l c.at c.makeU c.makeV) d m = 0 := by
    rw [app_yes]
    have h := put_other p l c.at d.at c.makeU c.makeV (Ne.symm hn)
    exact ⟨q1, hd, hm, hlm, h.1.trans hu2, h.2.trans hs2⟩
  have g2 : appE (p.put l d.at d.makeU d.makeV) c m = 0 := by
    rw [app_yes]
    have h := put_other p l d.at c.at d.makeU d.makeV hn
    exact ⟨q2, hc, hm, hlm, h.1.trans hu, h.2.trans hs⟩
  have f1 : appP (p.put l c.at c.makeU c.makeV) d m = (p.put l c.at c.makeU c.makeV).put m d.at d.makeU d.makeV := by unfold appP; rw [if_pos g1]
  have f2 : appP (p.put l d.at d.makeU d.makeV) c m = (p.put l d.at d.makeU d.makeV).put m c.at c.makeU c.makeV := by unfold appP; rw [if_pos g2]
  rw [e1, e2, f1, f2]
  refine ⟨g1, g2, ⟨rfl, fun i hi => ?_⟩, (put_right _ d m q1 hd hm).fits, (put_right _ c m q2 hc hm).fits⟩
  unfold Pg.put
  by_cases a : i = c.at
  · subst a
    simp [hn]
  · by_cases b : i = d.at
    · subst b
      simp [Ne.symm hn]
    · simp [a, b]

theorem load_lsn {b : Nat} {p : Pg} (x : World) (h : PgAt x b p) : (Instr.loadAt 22 (.pointer (some ⟨b, 0, none⟩))).run Try.prog x = .ok (.int .u64 (p.l : Int)) x := by
  have h1 := h.lsn
  go_simp

theorem cast1 (a : Nat) : ((a + 1 : Nat) : Int) = (a : Int) + 1 := by omega
theorem cast2 (a : Nat) : ((a + 2 : Nat) : Int) = (a : Int) + 2 := by omega

set_option maxRecDepth 4000 in
set_option maxHeartbeats 1600000 in
theorem walk (p : Pg) (c d : Ch) (w : World) (hp : p.fits) (hc : c.fits) (hd : d.fits) :
    Calls Try.prog 7 #[.agg (pgA p), .agg (chA c), .agg (chA d)] w fun e w' => e = .returned (.bool true) ∧ Below w.heap.size w w' := by
  have H0 := hide (Keeps.three w 27 29 29 (pgA p) (chA c) (chA d))
  clear hp hc hd
  go_enter Try.func7, Try.ntmps7
  obtain ⟨gc, hgc⟩ : ∃ g, g = w.heap.size + 1 := ⟨_, rfl⟩
  obtain ⟨gd, hgd⟩ : ∃ g, g = w.heap.size + 1 + 1 := ⟨_, rfl⟩
  rw [← hgd, ← hgc] at H0
  go_wp2_with fail
  rw [← hgd, ← hgc]
  refine gen_calls (fun x => Hid (Keeps w x [(gd, 29, chA d), (gc, 29, chA c), (w.heap.size, 27, pgA p)])) H0 ?_
  clear H0 hgc hgd
  intro w0 H0
  refine (awake_any _).mono ?_
  rintro e w1 ⟨rfl, hb1⟩
  have H1 := hide (H0.out.later hb1)
  clear H0 hb1
  obtain ⟨_, _, a2, _, _⟩ := ChAt.all (show ChAt w1 gc c from H1.out.1.2.1)
  obtain ⟨_, _, a4, _, _⟩ := ChAt.all (show ChAt w1 gd d from H1.out.1.1)
  have a0 := PgAt.lsn (show PgAt w1 w.heap.size p from H1.out.1.2.2.1)
  by_cases hs : c.sl = d.sl
  · rw [hs] at a2
    generalize d.sl = sl at *
    clear hs
    go_wp2_with fail
    refine (awake_any _).mono ?_
    rintro e w2 ⟨rfl, hb2⟩
    have d2 := (H1.out.later hb2).2
    clear H1 hb2
    go_wp2
    go_ret
    exact ⟨rfl, d2⟩
  · have k0 : (c.sl == d.sl) = false := by simpa using hs
    by_cases hl : p.l < 4611686018427387903
    · have i0 : ((4611686018427387903 : Int) ≤ (p.l : Int)) = False := eq_false (by omega)
      have HF := hide (apart_facts p c d (p.l + 1) (p.l + 2) hs (by omega) (by unfold maxP; omega))
      have HA := hide (fun w => apply_any p c (p.l + 1) w (by omega))
      have HB := hide (fun w => apply_any p d (p.l + 1) w (by omega))
      have HX := hide (fun w => apply_any (appP p c (p.l + 1)) d (p.l + 2) w (by omega))
      have HY := hide (fun w => apply_any (appP p d (p.l + 1)) c (p.l + 2) w (by omega))
      rw [cast1] at HA HB
      rw [cast2] at HX HY
      generalize appP p c (p.l + 1) = qa at *
      generalize appE p c (p.l + 1) = ea at *
      generalize appP p d (p.l + 1) = qb at *
      generalize appE p d (p.l + 1) = eb at *
      generalize appP qa d (p.l + 2) = qx at *
      generalize appE qa d (p.l + 2) = ex at *
      generalize appP qb c (p.l + 2) = qy at *
      generalize appE qb c (p.l + 2) = ey at *
      have e1 : IntKind.u64.wrap ((p.l : Int) + 1) = (p.l : Int) + 1 := by rw [IntKind.wrap_u64]; omega
      have e2 : IntKind.u64.wrap ((p.l : Int) + 2) = (p.l : Int) + 2 := by rw [IntKind.wrap_u64]; omega
      clear hs hl
      go_wp2_with fail
      clear a0 a2 a4
      refine wp_region_in (fun x => Keeps w x [(gd, 29, chA d), (gc, 29, chA c), (w.heap.size, 27, pgA p)]) (by kernel_rfl) (by kernel_rfl) H1.out.drew ?_
      clear H1
      repeat (first
        | go_big_quiet_skip
        | (refine wpQuiet_load rfl 22 (.tmp 32) rfl _ (.int .u64 (p.l : Int)) rfl (fun y hy => load_lsn y hy.1.2.2.1) ?_; simp only [Act.put, Array.setIfInBounds, List.size_toArray, List.length_cons, List.length_nil, Nat.reduceAdd, Nat.reduceLT, ↓reduceDIte, List.set_toArray, List.set_cons_succ, List.set_cons_zero])
        | (refine wpQuiet_load rfl 22 (.tmp 35) rfl _ (.int .u64 (p.l : Int)) rfl (fun y hy => load_lsn y hy.1.2.2.1) ?_; simp only [Act.put, Array.setIfInBounds, List.size_toArray, List.length_cons, List.length_nil, Nat.reduceAdd, Nat.reduceLT, ↓reduceDIte, List.set_toArray, List.set_cons_succ, List.set_cons_zero])
        | (refine wpQuiet_plain rfl (fun K hK => ?_); go_simp; refine hK _ ?_; clear hK K))
      refine wpQuiet_nil ?_
      intro w2 h2
      have H2 := hide h2
      clear h2
      go_wp2_with (first | (refine wpList_load_page rfl (.tmp 3) rfl w.heap.size rfl p H2.out.1.2.2.1 ?_) | (refine wpList_load_at rfl 29 (.tmp 4) rfl gc rfl (chA c) H2.out.1.2.1 _ Try.underlying29 rfl infoCh ?_))
      refine (HA.out _).mono ?_
      rintro e w3 ⟨rfl, hb3⟩
      have H3 := hide (H2.out.later hb3)
      clear H2 hb3 HA
      go_wp2_with (refine wpList_store_page rfl (.tmp 9) (.tmp 43) rfl w3.heap.size Pg.zero qa rfl rfl (show PgAt _ w3.heap.size Pg.zero from heap_alloc_new w3 _) ?_)
      intro w4 hP hk
      have H4 := hide (Keeps.laid H3.out (show RowAt w4 w3.heap.size 27 (pgA qa) from hP) hk)
      clear hP hk H3
      generalize w3.heap.size = g3 at *
      go_wp2_with (first | (refine wpList_load_page rfl (.tmp 3) rfl w.heap.size rfl p H4.out.1.2.2.2.1 ?_) | (refine wpList_load_at rfl 29 (.tmp 5) rfl gd rfl (chA d) H4.out.1.2.1 _ Try.underlying29 rfl infoCh ?_))
      refine (HB.out _).mono ?_
      rintro e w5 ⟨rfl, hb5⟩
      have H5 := hide (H4.out.later hb5)
      clear H4 hb5 HB
      go_wp2_with (refine wpList_store_page rfl (.tmp 11) (.tmp 50) rfl w5.heap.size Pg.zero qb rfl rfl (show PgAt _ w5.heap.size Pg.zero from heap_alloc_new w5 _) ?_)
      intro w6 hP hk
      have H6 := hide (Keeps.laid H5.out (show RowAt w6 w5.heap.size 27 (pgA qb) from hP) hk)
      clear hP hk H5
      generalize w5.heap.size = g5 at *
      by_cases h0 : ea = 0
      · by_cases h1 : eb = 0
        · subst h0 h1
          obtain ⟨rfl, rfl, hsame, f1, f2⟩ := HF.out rfl rfl
          have HEQ := hide (fun x => run_page_eql qx qy f1 f2 x)
          rw [decide_eq_true hsame] at HEQ
          clear HF hsame f1 f2
          go_wp2_with (first | (refine wpList_load_page rfl (.tmp 9) rfl g3 rfl qa H6.out.1.2.1 ?_) | (refine wpList_load_at rfl 29 (.tmp 5) rfl gd rfl (chA d) H6.out.1.2.2.1 _ Try.underlying29 rfl infoCh ?_))
          refine (HX.out _).mono ?_
          rintro e w7 ⟨rfl, hb7⟩
          have H7 := hide (H6.out.later hb7)
          clear H6 hb7 HX
          go_wp2_with (refine wpList_store_page rfl (.tmp 13) (.tmp 63) rfl w7.heap.size Pg.zero qx rfl rfl (show PgAt _ w7.heap.size Pg.zero from heap_alloc_new w7 _) ?_)
          intro w8 hP hk
          have H8 := hide (Keeps.laid H7.out (show RowAt w8 w7.heap.size 27 (pgA qx) from hP) hk)
          clear hP hk H7
          generalize w7.heap.size = g7 at *
          go_wp2_with (first | (refine wpList_load_page rfl (.tmp 11) rfl g5 rfl qb H8.out.1.2.1 ?_) | (refine wpList_load_at rfl 29 (.tmp 4) rfl gc rfl (chA c) H8.out.1.2.2.2.2.1 _ Try.underlying29 rfl infoCh ?_))
          refine (HY.out _).mono ?_
          rintro e w9 ⟨rfl, hb9⟩
          have H9 := hide (H8.out.later hb9)
          clear H8 hb9 HY
          go_wp2_with (refine wpList_store_page rfl (.tmp 15) (.tmp 70) rfl w9.heap.size Pg.zero qy rfl rfl (show PgAt _ w9.heap.size Pg.zero from heap_alloc_new w9 _) ?_)
          intro w10 hP hk
          have H10 := hide (Keeps.laid H9.out (show RowAt w10 w9.heap.size 27 (pgA qy) from hP) hk)
          clear hP hk H9
          generalize w9.heap.size = g9 at *
          have d10 := H10.out.2
          go_wp2_with (first | (refine wpList_load_page rfl (.tmp 13) rfl g7 rfl qx H10.out.1.2.1 ?_) | (refine wpList_load_page rfl (.tmp 15) rfl g9 rfl qy H10.out.1.1 ?_) | (refine wpList_binop rfl .eql 27 27 (.tmp 79) (.tmp 80) rfl (.agg (pgA qx)) (.agg (pgA qy)) (.bool true) rfl rfl (page_guard _ _ _ qx qy _) (HEQ.out _) ?_))
          go_ret
          exact ⟨rfl, d10⟩
        · subst h0
          have k1 : (eb == 0) = false := by simpa using h1
          have k2 : (eb != 0) = true := by simpa using h1
          have d6 := H6.out.2
          clear H6 HF HX HY h1
          go_wp2
          go_ret
          exact ⟨rfl, d6⟩
      · have k1 : (ea == 0) = false := by simpa using h0
        have k2 : (ea != 0) = true := by simpa using h0
        have d6 := H6.out.2
        clear H6 HF HX HY h0
        go_wp2
        go_ret
        exact ⟨rfl, d6⟩
    · have i0 : ((4611686018427387903 : Int) ≤ (p.l : Int)) = True := eq_true (by omega)
      clear hs hl
      go_wp2_with fail
      refine (awake_any _).mono ?_
      rintro e w2 ⟨rfl, hb2⟩
      have d2 := (H1.out.later hb2).2
      clear H1 hb2
      go_wp2
      go_ret
      exact ⟨rfl, d2⟩
end Go.Proofs.Ytcehppekcbbaaaa.changeApart
