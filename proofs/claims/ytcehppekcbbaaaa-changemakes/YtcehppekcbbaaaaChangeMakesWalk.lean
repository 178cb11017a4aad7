/-
  The walk of ChangeMakes: it returns true, and turns nothing that was there.
-/
import Derived.Test.YtcehppekcbbaaaaChangeAwake
import Derived.Test.YtcehppekcbbaaaaChangeOfAll
import Derived.Test.YtcehppekcbbaaaaChangeRefOfAll
import Derived.Test.YtcehppekcbbaaaaChangeFacts
import Derived.Test.YtcehppekcbbaaaaRowsKept
import Derived.Test.YtcehppekcbbaaaaRowLoad
import Derived.OpenShut
namespace Go.Proofs.Ytcehppekcbbaaaa.changeMakes
open Go.RowKit
set_option linter.unusedVariables false

theorem of_fits (pg sl : Int) (fu : Bool) (fv : ByteArray) (tu : Bool) (tv : ByteArray) (h1 : (Lit.int .i64 pg).wf = true) (h2 : (Lit.int .i64 sl).wf = true) (h3 : fv.size ≤ maxLen) (h4 : tv.size ≤ maxLen) : (ofC pg sl fu fv tu tv).fits := by
  unfold ofC
  split
  · refine ⟨wf_small _ ?_, h1, h2, h3, h4⟩
    show -100 ≤ (if tu = false then (3 : Int) else if fu = false then 1 else 2) ∧ (if tu = false then (3 : Int) else if fu = false then 1 else 2) ≤ 100
    cases fu <;> cases tu <;> decide
  · exact zero_fits

/-- A change that was told, made of the one cell on an empty page. -/
theorem of_makes (pg sl : Int) (fu : Bool) (fv : ByteArray) (tu : Bool) (tv : ByteArray) (h : ofE pg sl fu fv tu tv = 0) :
    ∃ i : Nat, sl = (i : Int) ∧ i < 8 ∧ appE (Pg.zero.put 0 i fu fv) (ofC pg sl fu fv tu tv) 1 = 0 ∧ ((appP (Pg.zero.put 0 i fu fv) (ofC pg sl fu fv tu tv) 1).u i = tu ∧ (appP (Pg.zero.put 0 i fu fv) (ofC pg sl fu fv tu tv) 1).s i = tv) := by
  by_cases hy : placeOk pg sl ∧ cellOk fu fv ∧ cellOk tu tv
  · have hb : ¬ (fu = false ∧ tu = false) := fun hb => by rw [((of_yes pg sl fu fv tu tv hy).1 hb).1] at h; cases h
    have ec := ((of_yes pg sl fu fv tu tv hy).2 hb).2
    have h1 : ¬ ((fu = false ∧ fv.size ≠ 0) ∨ (tu = false ∧ tv.size ≠ 0)) := by
      rintro (h1 | h1)
      · exact h1.2 (hy.2.1.2 h1.1)
      · exact h1.2 (hy.2.2.2 h1.1)
    have er : ofC pg sl fu fv tu tv = rawC pg sl fu fv tu tv := by unfold ofC; rw [if_pos h]
    have hr : (ofC pg sl fu fv tu tv).right := by rw [er]; exact (raw_right pg sl fu fv tu tv h1).2 hy
    obtain ⟨i, hi⟩ := Int.eq_ofNat_of_zero_le hy.1.2.2.1
    have hi8 : i < 8 := by have := hy.1.2.2.2; omega
    have hat : (ofC pg sl fu fv tu tv).at = i := by rw [ec]; unfold Ch.at; show sl.toNat = i; omega
    have hmk : (ofC pg sl fu fv tu tv).wantU = fu ∧ (ofC pg sl fu fv tu tv).wantV = fv ∧ (ofC pg sl fu fv tu tv).makeU = tu ∧ (ofC pg sl fu fv tu tv).makeV = tv := by
      rw [ec]
      cases fu <;> cases tu
      · exact absurd ⟨rfl, rfl⟩ hb
      · exact ⟨rfl, (size0 fv (hy.2.1.2 rfl)).symm, rfl, rfl⟩
      · exact ⟨rfl, rfl, rfl, (size0 tv (hy.2.2.2 rfl)).symm⟩
      · exact ⟨rfl, rfl, rfl, rfl⟩
    have hp : (Pg.zero.put 0 i fu fv).right := by
      refine ⟨Nat.zero_le _, fun j hj => ?_⟩
      show cellOk (if j = i then fu else false) (if j = i then fv else ⟨#[]⟩)
      by_cases hji : j = i
      · rw [if_pos hji, if_pos hji]
        exact hy.2.1
      · rw [if_neg hji, if_neg hji]
        exact ⟨Nat.zero_le _, fun _ => rfl⟩
    have he : appE (Pg.zero.put 0 i fu fv) (ofC pg sl fu fv tu tv) 1 = 0 := by
      rw [app_yes, hat]
      exact ⟨hp, hr, by decide, by show 0 < 1; omega, by rw [hmk.1]; exact (put_at _ _ _ _ _).1, by rw [hmk.2.1]; exact (put_at _ _ _ _ _).2⟩
    refine ⟨i, hi, hi8, he, ?_⟩
    unfold appP
    rw [if_pos he, hat, hmk.2.2.1, hmk.2.2.2]
    exact put_at _ _ _ _ _
  · rw [(of_no pg sl fu fv tu tv hy).1] at h
    cases h

set_option maxRecDepth 4000 in
set_option maxHeartbeats 1600000 in
theorem walk (pg sl : Int) (fu : Bool) (fv : ByteArray) (tu : Bool) (tv : ByteArray) (w : World) (h1 : (Lit.int .i64 pg).wf = true) (h2 : (Lit.int .i64 sl).wf = true) (h3 : fv.size ≤ maxLen) (h4 : tv.size ≤ maxLen) :
    Calls Try.prog 5 #[.int .i64 pg, .int .i64 sl, .agg (ceA fu fv), .agg (ceA tu tv)] w fun e w' => e = .returned (.bool true) ∧ Below w.heap.size w w' := by
  have H0 := hide (Keeps.two w 24 24 (ceA fu fv) (ceA tu tv))
  have HC := hide (of_fits pg sl fu fv tu tv h1 h2 h3 h4)
  have HO := hide (fun w => of_any pg sl fu fv tu tv w)
  have HP := hide (fun w => rof_any pg sl fu fv tu tv w)
  have HM := hide (of_makes pg sl fu fv tu tv)
  have H4 := hide h4
  clear h1 h2 h3 h4
  generalize ofC pg sl fu fv tu tv = c at *
  generalize ofE pg sl fu fv tu tv = er at *
  have HEQ := hide (fun x => run_change_neq c c HC.out HC.out x)
  rw [decide_eq_true ((like_iff c c).2 rfl)] at HEQ
  go_enter Try.func5, Try.ntmps5
  obtain ⟨gt, hg⟩ : ∃ g, g = w.heap.size + 1 := ⟨_, rfl⟩
  rw [← hg] at H0
  go_wp2_with fail
  rw [← hg]
  refine gen_calls (fun x => Hid (Keeps w x [(gt, 24, ceA tu tv), (w.heap.size, 24, ceA fu fv)])) H0 ?_
  clear H0 hg
  intro w0 H0
  refine (awake_any _).mono ?_
  rintro e w1 ⟨rfl, hb1⟩
  have H1 := hide (H0.out.later hb1)
  clear H0 hb1
  go_wp2_with (first | (refine wpList_load_at rfl 24 (.tmp 6) rfl w.heap.size rfl (ceA fu fv) H1.out.1.2.1 _ Try.underlying24 rfl infoCe ?_) | (refine wpList_load_at rfl 24 (.tmp 7) rfl gt rfl (ceA tu tv) H1.out.1.1 _ Try.underlying24 rfl infoCe ?_))
  refine (HO.out _).mono ?_
  rintro e w2 ⟨rfl, hb2⟩
  have H2 := hide (H1.out.later hb2)
  clear H1 hb2 HO
  go_wp2_with (refine wpList_store_at rfl 29 (.tmp 9) (.tmp 24) rfl w2.heap.size (chA Ch.zero) (chA c) rfl rfl (RowAt.new w2 29 (chA Ch.zero)) infoCh rfl (chA_one _) ?_)
  intro w3 hr hk _
  have H3 := hide (H2.out.laid hr hk)
  clear hr hk H2
  generalize w2.heap.size = g2 at *
  go_wp2_with (first | (refine wpList_load_at rfl 24 (.tmp 6) rfl w.heap.size rfl (ceA fu fv) H3.out.1.2.2.1 _ Try.underlying24 rfl infoCe ?_) | (refine wpList_load_at rfl 24 (.tmp 7) rfl gt rfl (ceA tu tv) H3.out.1.2.1 _ Try.underlying24 rfl infoCe ?_))
  refine (HP.out _).mono ?_
  rintro e w4 ⟨rfl, hb4⟩
  have H4' := hide (H3.out.later hb4)
  clear H3 hb4 HP
  go_wp2_with (refine wpList_store_at rfl 29 (.tmp 11) (.tmp 32) rfl w4.heap.size (chA Ch.zero) (chA c) rfl rfl (RowAt.new w4 29 (chA Ch.zero)) infoCh rfl (chA_one _) ?_)
  intro w5 hr hk _
  have H5 := hide (H4'.out.laid hr hk)
  clear hr hk H4'
  generalize w4.heap.size = g4 at *
  by_cases h0 : er = 0
  · subst h0
    obtain ⟨i, rfl, hi8, he, hu, hs⟩ := HM.out rfl
    have j1 : (i : Int) < 8 := by omega
    have HA := hide (fun w => apply_any (Pg.zero.put 0 i fu fv) c 1 w (by omega))
    rw [he] at HA
    clear HM he
    generalize appP (Pg.zero.put 0 i fu fv) c 1 = q at *
    go_wp2_with (first | (refine wpList_load_at rfl 29 (.tmp 9) rfl g2 rfl (chA c) H5.out.1.2.1 _ Try.underlying29 rfl infoCh ?_) | (refine wpList_load_at rfl 29 (.tmp 11) rfl g4 rfl (chA c) H5.out.1.1 _ Try.underlying29 rfl infoCh ?_) | (refine wpList_binop rfl .neq 29 29 (.tmp 34) (.tmp 35) rfl (.agg (chA c)) (.agg (chA c)) (.bool false) rfl rfl (change_guard _ _ _ c c _) (HEQ.out _) ?_) | (refine wpList_load_at rfl 24 (.tmp 6) rfl w.heap.size rfl (ceA fu fv) ((H5.out.later ((Below.refl w5.heap.size w5).alloc (Nat.le_refl _) _)).1.2.2.2.1) _ Try.underlying24 rfl infoCe ?_) | (refine wpList_store_ce rfl (.tmp 47) (.tmp 45) rfl w5.heap.size i hi8 Pg.zero fu fv rfl rfl (show PgAt _ w5.heap.size Pg.zero from heap_alloc_new w5 _) ?_))
    intro w6 hP6 hk ho
    have H6 := hide (Keeps.laid H5.out (show RowAt w6 w5.heap.size 27 (pgA (Pg.zero.put 0 i fu fv)) from hP6) hk)
    clear hP6 hk ho H5 HEQ
    generalize w5.heap.size = g5 at *
    go_wp2_with (first | (refine wpList_load_page rfl (.tmp 13) rfl g5 rfl (Pg.zero.put 0 i fu fv) H6.out.1.1 ?_) | (refine wpList_load_at rfl 29 (.tmp 9) rfl g2 rfl (chA c) H6.out.1.2.2.1 _ Try.underlying29 rfl infoCh ?_))
    refine (HA.out _).mono ?_
    rintro e w7 ⟨rfl, hb7⟩
    have H7 := hide (H6.out.later hb7)
    clear H6 hb7 HA
    go_wp2_with (refine wpList_store_page rfl _ _ rfl w7.heap.size Pg.zero q rfl rfl (show PgAt _ w7.heap.size Pg.zero from heap_alloc_new w7 _) ?_)
    intro w8 hP8 hk
    have H8 := hide (Keeps.laid H7.out (show RowAt w8 w7.heap.size 27 (pgA q) from hP8) hk)
    clear hP8 hk H7
    generalize w7.heap.size = g7 at *
    have HCE := hide (fun x => run_cell_eql tu tu tv tv H4.out H4.out x)
    rw [decide_eq_true ⟨rfl, rfl⟩] at HCE
    go_wp2_with fail
    refine wp_region_in (fun x => Keeps w x [(g7, 27, pgA q), (g5, 27, pgA (Pg.zero.put 0 i fu fv)), (g4, 29, chA c), (g2, 29, chA c), (gt, 24, ceA tu tv), (w.heap.size, 24, ceA fu fv)]) (by kernel_rfl) (by kernel_rfl) H8.out.drew ?_
    clear H8
    have LC := hide (fun (y : World) (hy : PgAt y g7 q) => load_ce y i hi8 hy)
    rw [hu, hs] at LC
    clear hu hs
    repeat (first
      | go_big_quiet_skip
      | (refine wpQuiet_load rfl 24 (.tmp 59) rfl _ (.agg (ceA tu tv)) rfl (fun y hy => LC.out y hy.1.1) ?_; simp only [Act.put, Array.setIfInBounds, List.size_toArray, List.length_cons, List.length_nil, Nat.reduceAdd, Nat.reduceLT, ↓reduceDIte, List.set_toArray, List.set_cons_succ, List.set_cons_zero])
      | (refine wpQuiet_load rfl 24 (.tmp 7) rfl _ (.agg (ceA tu tv)) rfl (fun y hy => load_row y hy.1.2.2.2.2.1 Try.underlying24 rfl infoCe) ?_; simp only [Act.put, Array.setIfInBounds, List.size_toArray, List.length_cons, List.length_nil, Nat.reduceAdd, Nat.reduceLT, ↓reduceDIte, List.set_toArray, List.set_cons_succ, List.set_cons_zero])
      | (refine wpQuiet_binop rfl .eql 24 24 (.tmp 60) (.tmp 61) rfl _ _ (.bool true) rfl rfl (fun y => cell_guard _ _ _ tu tu tv tv y) (fun y => HCE.out y) ?_; simp only [Act.put, Array.setIfInBounds, List.size_toArray, List.length_cons, List.length_nil, Nat.reduceAdd, Nat.reduceLT, ↓reduceDIte, List.set_toArray, List.set_cons_succ, List.set_cons_zero])
      | (refine wpQuiet_plain rfl (fun K hK => ?_); go_simp; refine hK _ ?_; clear hK K))
    refine wpQuiet_nil ?_
    intro x hx
    have hf := hx.2
    clear hx HCE LC
    go_wp2
    go_ret
    exact ⟨rfl, hf⟩
  · have k0 : (er == 0) = false := by simpa using h0
    have d5 := H5.out.2
    clear h0 HM
    go_wp2_with (first | (refine wpList_load_at rfl 29 (.tmp 9) rfl g2 rfl (chA c) H5.out.1.2.1 _ Try.underlying29 rfl infoCh ?_) | (refine wpList_load_at rfl 29 (.tmp 11) rfl g4 rfl (chA c) H5.out.1.1 _ Try.underlying29 rfl infoCh ?_) | (refine wpList_binop rfl .neq 29 29 (.tmp 34) (.tmp 35) rfl (.agg (chA c)) (.agg (chA c)) (.bool false) rfl rfl (change_guard _ _ _ c c _) (HEQ.out _) ?_))
    go_ret
    exact ⟨rfl, d5⟩
end Go.Proofs.Ytcehppekcbbaaaa.changeMakes
