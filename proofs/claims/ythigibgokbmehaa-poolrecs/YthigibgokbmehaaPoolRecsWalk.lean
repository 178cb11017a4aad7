/-
  The walk of PoolRecs: it returns true, and turns nothing that was there.
-/
import Derived.Test.YthigibgokbmehaaPoolAwake
import Derived.Test.YthigibgokbmehaaPoolArgs
namespace Go.Proofs.Ythigibgokbmehaa.poolRecs
open Go.RowKit
set_option linter.unusedVariables false

/-- A pool of three frames with one page. -/
def PR (i : Int) (x : Value) (r : Int) : Po := ⟨.string ⟨#[]⟩, 3, 0, fun k => if k = 0 then ⟨true, i, x, true, 0, r⟩ else Fr.empty (.string ⟨#[]⟩)⟩
theorem pr_at (i : Int) (x : Value) (r : Int) : (PR i x r).at i = some 0 := Po.at_some.2 ⟨by show 0 < 3; omega, ⟨rfl, rfl⟩, fun k hk => absurd hk (Nat.not_lt_zero _)⟩
theorem pr_other (i : Int) (x : Value) (r : Int) (j : Int) (h : j ≠ i) : (PR i x r).at j = none := Po.at_none.2 fun k hk => by
  rintro ⟨h1, h2⟩
  by_cases e : k = 0
  · subst e
    exact h h2.symm
  · have : ((PR i x r).fr k).u = false := by simp [PR, e, Fr.empty]
    rw [this] at h1
    cases h1
theorem pr_set (i : Int) (x : Value) (r : Int) (y : Value) (q : Int) : (PR i x r).set 0 ⟨true, i, y, true, 0, q⟩ = PR i y q := by
  unfold Po.set PR
  congr 1
  funext k
  by_cases e : k = 0 <;> simp [e]
theorem new_put (i : Int) (x : Value) (h1 : 0 ≤ i) (h2 : i < 32) : (Po.new (.string ⟨#[]⟩) 3).put i x = PR i x 0 ∧ (Po.new (.string ⟨#[]⟩) 3).putE i = 0 := by
  have hn : (Po.new (.string ⟨#[]⟩) 3).at i = none := Po.at_none.2 fun k hk => by
    rintro ⟨h1, h2⟩
    cases h1
  have hg : (Po.new (.string ⟨#[]⟩) 3).gap = some 0 := rfl
  have h3 : ¬ (i < 0 ∨ 32 ≤ i) := by omega
  unfold Po.put Po.putE Po.has
  simp only [if_neg h3, hn, hg]
  exact ⟨rfl, rfl⟩
theorem pr_clean (i : Int) (x : Value) (r : Int) : (PR i x r).clean i = PR i x 0 ∧ (PR i x r).noE i = 0 := by
  unfold Po.clean Po.noE Po.has
  rw [pr_at]
  exact ⟨pr_set i x r x 0, rfl⟩
theorem pr_setP (i : Int) (x : Value) (r : Int) (y : Value) (q : Int) : (PR i x r).setP i y q = PR i y (if r = 0 then q else r) := by
  unfold Po.setP
  rw [pr_at]
  exact pr_set i x r y _
theorem pr_noE (i : Int) (x : Value) (r : Int) : (PR i x r).noE i = 0 := (pr_clean i x r).2
theorem pr_rec (i : Int) (x : Value) (r : Int) : (PR i x r).recN i = r := by
  unfold Po.recN
  rw [pr_at]
  rfl
theorem pr_dirTo (i : Int) (x : Value) (r : Int) : ∀ k : Nat, (PR i x r).dirTo k = if 0 ≤ i ∧ i < k ∧ r ≠ 0 then [(i, r)] else []
  | 0 => by
    rw [if_neg (by omega)]
    rfl
  | k + 1 => by
    have ih := pr_dirTo i x r k
    by_cases e : (k : Int) = i
    · by_cases hr : r = 0
      · rw [Po.dirTo_no _ _ (by rw [e, pr_rec]; exact hr), ih, if_neg (by omega), if_neg (by omega)]
      · rw [Po.dirTo_yes _ _ (by rw [e, pr_rec]; exact hr), ih, if_neg (by omega), if_pos (by omega), e, pr_rec]
        rfl
    · have h0 : (PR i x r).recN (k : Int) = 0 := by
        unfold Po.recN
        rw [pr_other i x r k e]
      rw [Po.dirTo_no _ _ h0, ih]
      by_cases g : 0 ≤ i ∧ i < k ∧ r ≠ 0
      · rw [if_pos g, if_pos (by omega)]
      · rw [if_neg g, if_neg (by omega)]
/-- A number of a list that lies there. -/
theorem uns_cell {w : World} {a : Option Addr} {cap : Nat} {cs : List Int} (h : RowsIn u64A 0 1 w (.slice a cs.length cap) cs) (hp : 0 < cs.length) :
    ∃ b off, a = some ⟨b, off, none⟩ ∧ b < w.heap.size ∧ ∀ i, i < cs.length → w.cell? ⟨b, off + i, none⟩ = some (.int .u64 (cs.getD i 0)) := by
  obtain ⟨a', cap', e, h2⟩ := h
  injection e with e1 e2 e3
  subst e1
  obtain ⟨b, off, h3, h4, h5⟩ := h2 hp
  exact ⟨b, off, h3, h4, fun i hi => by
    have := h5 i hi 0 _ rfl
    rw [Nat.mul_one] at this
    exact this⟩
set_option maxRecDepth 4000 in
set_option maxHeartbeats 1600000 in
theorem walk (a : Int) (v : Value) (cs : List Int) (c : Int) (w : World) (wa : (Lit.int .u8 a).wf = true) (h1 : RowsIn u64A 0 1 w v cs) (h2 : cs.length ≤ maxLen) (h3 : ∀ c ∈ cs, (Lit.int .u64 c).wf = true) (h4 : ∀ a len cap, v = .slice a len cap → len ≤ cap) (wc : (Lit.int .u64 c).wf = true) :
    Calls Try.prog 7 #[.int .u8 a, v, .int .u64 c] w fun e w' => e = .returned (.bool true) ∧ Below w.heap.size w w' := by
  have h' := h1
  obtain ⟨ad, cap, rfl, -⟩ := h'
  have hcap := h4 _ _ _ rfl
  clear h4
  have HC := hide (uns_cell h1)
  have HF := hide h3
  obtain ⟨ln, hln⟩ : ∃ ln, cs.length = ln := ⟨_, rfl⟩
  rw [hln] at HC h2 hcap ⊢
  have HLN := hide hln
  clear h1 h3 hln
  go_enter Try.func7, Try.ntmps7
  go_wp2_with fail
  refine (awake11_any _).mono ?_
  rintro e w1 ⟨rfl, hb1⟩
  by_cases hl : 300 < ln
  · have hl2 : (300 : Int) < (ln : Int) := by omega
    go_wp2_with fail
    refine (awake11_any _).mono ?_
    rintro e w2 ⟨rfl, hb2⟩
    go_wp2
    go_ret
    exact ⟨rfl, hb1.trans (hb2.mono hb1.size)⟩
  have hl2 : ¬ (300 : Int) < (ln : Int) := by omega
  clear hl
  have hab := bounds_u8 wa
  have hcb := bounds_u64 wc
  obtain ⟨i, hi⟩ : ∃ i, a.tmod 32 = i := ⟨_, rfl⟩
  have hib : 0 ≤ i ∧ i < 32 := by
    rw [← hi, Int.tmod_eq_emod_of_nonneg hab.1]
    omega
  have HP := hide (new_put i (.string ⟨#[97]⟩) hib.1 hib.2)
  go_wp2_with fail
  refine (knew11 (w0 := w) 3 hb1).mono ?_
  rintro e w2 ⟨g, gr, rfl, h2, -⟩
  have H2 := hide h2
  clear h2
  go_wp2_with fail
  have T := kput11 i ⟨#[97]⟩ H2.out
  rw [HP.out.1, HP.out.2] at T
  refine T.mono ?_
  rintro e w3 ⟨rfl, h3, -⟩
  have H3 := hide h3
  clear h3 T H2 HP hb1 hi hab
  go_wp2
  go_loopw [36, 9] (fun v36 v9 wr => ∃ (j : Nat) (x : Value) (r : Int), j ≤ ln ∧ v36 = .int .i64 j ∧ v9 = .int .u64 r ∧ Hid (K11 w wr g gr (PR i x r) 0)) (fun v36 _ _ => ln - (intOf v36).toNat)
  case atStart => exact ⟨0, _, 0, Nat.zero_le _, rfl, rfl, H3⟩
  case round =>
    obtain ⟨j, x, r, hj, rfl, rfl, HK⟩ := hrel
    clear H3
    by_cases hlt : j < ln
    · have i1 : (j : Int) < ln := by omega
      obtain ⟨b, off, rfl, hbl, hcell⟩ := HC.out (by omega)
      have c0 := hcell j hlt
      obtain ⟨n, hn⟩ : ∃ n, cs.getD j 0 = n := ⟨_, rfl⟩
      rw [hn] at c0
      have hnb : 0 ≤ n ∧ n ≤ 18446744073709551615 := by
        have hm : cs.getD j 0 ∈ cs := by
          rw [List.getD_eq_getElem?_getD, List.getElem?_eq_getElem (by rw [HLN.out]; exact hlt)]
          exact List.getElem_mem _
        have := bounds_u64 (HF.out _ hm)
        rw [hn] at this
        exact this
      have c0L : ∀ y, Below w.heap.size w y → y.cell? ⟨b, off + j, none⟩ = some (.int .u64 n) := fun y hy => (hy.cell (p := ⟨b, off + j, none⟩) hbl).trans c0
      clear hcell HC hn c0
      by_cases hc : (j : Int) = c
      · have hc1 : ((j : Int) == c) = true := by simpa using hc
        subst hc
        by_cases hz0 : n = 0
        · subst hz0
          have hz0 : (0 : Int) = 0 := rfl
          go_wp2_with fail
          have T := kclean11 i HK.out
          rw [(pr_clean i x r).1, (pr_clean i x r).2] at T
          refine T.mono ?_
          rintro e w4 ⟨rfl, h4, -⟩
          have c0 := c0L _ h4.bel
          have H4 := hide h4
          clear h4 T HK
          go_wp2_with fail
          have T := kset11 i ⟨#[98]⟩ 0 H4.out
          rw [pr_noE, pr_setP, if_pos rfl] at T
          refine T.mono ?_
          rintro e w5 ⟨rfl, h5, -⟩
          have c0' := c0L _ h5.bel
          have H5 := hide h5
          clear h5 T H4
          go_wp2_with fail
          have T := krec11 i H5.out
          rw [pr_rec, decide_eq_false (fun c => c rfl)] at T
          refine T.mono ?_
          rintro e w6 ⟨rfl, h6, -⟩
          have H6 := hide h6
          clear h6 T H5
          go_wp2
          go_roundw
          case rel => exact ⟨j + 1, _, 0, by omega, by go_num, rfl, H6.out⟩
          case measure => simp [intOf]; omega
        · have hz1 : (n == 0) = false := by simpa using hz0
          have hz2 : (n != 0) = true := by simpa using hz0
          go_wp2_with fail
          have T := kclean11 i HK.out
          rw [(pr_clean i x r).1, (pr_clean i x r).2] at T
          refine T.mono ?_
          rintro e w4 ⟨rfl, h4, -⟩
          have c0 := c0L _ h4.bel
          have H4 := hide h4
          clear h4 T HK
          go_wp2_with fail
          have T := kset11 i ⟨#[98]⟩ n H4.out
          rw [pr_noE, pr_setP, if_pos rfl] at T
          refine T.mono ?_
          rintro e w5 ⟨rfl, h5, -⟩
          have c0' := c0L _ h5.bel
          have H5 := hide h5
          clear h5 T H4
          go_wp2_with fail
          have T := krec11 i H5.out
          rw [pr_rec, decide_eq_true hz0] at T
          refine T.mono ?_
          rintro e w6 ⟨rfl, h6, -⟩
          have H6 := hide h6
          clear h6 T H5
          go_wp2
          go_roundw
          case rel => exact ⟨j + 1, _, n, by omega, by go_num, rfl, H6.out⟩
          case measure => simp [intOf]; omega
      · have hc1 : ((j : Int) == c) = false := by simpa using hc
        by_cases hr : r = 0
        · subst hr
          by_cases hz0 : n = 0
          · subst hz0
            have hz0 : (0 : Int) = 0 := rfl
            have c0 := c0L _ HK.out.bel
            go_wp2_with fail
            have T := kset11 i ⟨#[98]⟩ 0 HK.out
            rw [pr_noE, pr_setP, if_pos rfl] at T
            refine T.mono ?_
            rintro e w5 ⟨rfl, h5, -⟩
            have c0' := c0L _ h5.bel
            have H5 := hide h5
            clear h5 T HK
            go_wp2_with fail
            have T := krec11 i H5.out
            rw [pr_rec, decide_eq_false (fun c => c rfl)] at T
            refine T.mono ?_
            rintro e w6 ⟨rfl, h6, -⟩
            have H6 := hide h6
            clear h6 T H5
            go_wp2
            go_roundw
            case rel => exact ⟨j + 1, _, 0, by omega, by go_num, rfl, H6.out⟩
            case measure => simp [intOf]; omega
          · have hz1 : (n == 0) = false := by simpa using hz0
            have hz2 : (n != 0) = true := by simpa using hz0
            have c0 := c0L _ HK.out.bel
            go_wp2_with fail
            have T := kset11 i ⟨#[98]⟩ n HK.out
            rw [pr_noE, pr_setP, if_pos rfl] at T
            refine T.mono ?_
            rintro e w5 ⟨rfl, h5, -⟩
            have c0' := c0L _ h5.bel
            have H5 := hide h5
            clear h5 T HK
            go_wp2_with fail
            have T := krec11 i H5.out
            rw [pr_rec, decide_eq_true hz0] at T
            refine T.mono ?_
            rintro e w6 ⟨rfl, h6, -⟩
            have H6 := hide h6
            clear h6 T H5
            go_wp2
            go_roundw
            case rel => exact ⟨j + 1, _, n, by omega, by go_num, rfl, H6.out⟩
            case measure => simp [intOf]; omega
        · have hz0 : r ≠ 0 := hr
          have hz1 : (r == 0) = false := by simpa using hr
          have hz2 : (r != 0) = true := by simpa using hr
          have c0 := c0L _ HK.out.bel
          go_wp2_with fail
          have T := kset11 i ⟨#[98]⟩ n HK.out
          rw [pr_noE, pr_setP, if_neg hr] at T
          refine T.mono ?_
          rintro e w5 ⟨rfl, h5, -⟩
          have c0' := c0L _ h5.bel
          have H5 := hide h5
          clear h5 T HK
          go_wp2_with fail
          have T := krec11 i H5.out
          rw [pr_rec, decide_eq_true hz0] at T
          refine T.mono ?_
          rintro e w6 ⟨rfl, h6, -⟩
          have H6 := hide h6
          clear h6 T H5
          go_wp2
          go_roundw
          case rel => exact ⟨j + 1, _, r, by omega, by go_num, rfl, H6.out⟩
          case measure => simp [intOf]; omega
    · have i1 : ¬ (j : Int) < ln := by omega
      clear HC
      go_wp2_with fail
      refine (kdirty11 HK.out).mono ?_
      rintro e w4 ⟨v, rfl, ho, h4, -⟩
      rw [pr_dirTo] at ho
      by_cases hr : r = 0
      · subst hr
        rw [if_neg (fun c => c.2.2 rfl)] at ho
        obtain ⟨a4, c4, rfl⟩ : ∃ a4 c4, v = .slice a4 0 c4 := by
          rcases ho.2 with ⟨rfl, _⟩ | ⟨g, cap, cur, rfl, _⟩ <;> exact ⟨_, _, rfl⟩
        have H4 := hide h4
        clear h4 ho
        go_wp2
        go_ret
        exact ⟨rfl, H4.out.bel⟩
      · rw [if_pos ⟨hib.1, hib.2, hr⟩] at ho
        have ho : w4.ownsRow wr.heap.size 62 2 v 1 [.int .i64 i, .int .u64 r] := ho
        rcases ho.2 with ⟨_, hc⟩ | ⟨gd, cap4, cur, rfl, hb4, hrow, hcc, _, hsz, htk⟩
        · exact absurd hc (by decide)
        have d0 := ho.cellAt 0 (by decide)
        have d1 := ho.cellAt 1 (by decide)
        have H4 := hide h4
        have hz1 : (r == 0) = false := by simpa using hr
        clear ho hrow htk h4 hsz
        go_wp2
        go_ret
        exact ⟨rfl, H4.out.bel⟩
end Go.Proofs.Ythigibgokbmehaa.poolRecs
