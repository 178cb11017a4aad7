/-
  The walk of LockIdle: it returns true, and turns nothing that was there.
-/
import Derived.Test.YtjdabcapphiplabLkPlayed
namespace Go.Proofs.Ytjdabcapphiplab.lockIdle
open Go.RowKit
set_option linter.unusedVariables false

set_option maxRecDepth 8000 in
set_option maxHeartbeats 6400000 in
theorem walk (v : Value) (cs : List Lc) (who : Int) (w : World) (h1 : RowsIn lcA Lc.zero 4 w v cs) (h2 : cs.length ≤ maxLen) (h3 : ∀ c ∈ cs, c.fits) (h4 : ∀ a len cap, v = .slice a len cap → len ≤ cap) (hw : (Lit.int .i64 who).wf = true) :
    Calls Try.prog 4 #[v, .int .i64 who] w fun e w' => e = .returned (.bool true) ∧ Below w.heap.size w w' := by
  have h' := h1
  obtain ⟨a, cap, rfl, -⟩ := h'
  have hs : Scr13 w (.slice a cs.length cap) cs := ⟨h1, h3, h4⟩
  obtain ⟨ln, hln⟩ : ∃ ln, cs.length = ln := ⟨_, rfl⟩
  rw [hln] at hs h2 ⊢
  have HS := hide hs
  clear h1 h3 h4 hs hln
  go_enter Try.func4, Try.ntmps4
  go_wp2_with fail
  refine (awake13 _).mono ?_
  rintro e w1 ⟨rfl, hb1⟩
  by_cases hl : 100 < ln
  · have hl2 : (100 : Int) < (ln : Int) := by omega
    go_wp2_with fail
    refine (awake13 _).mono ?_
    rintro e w2 ⟨rfl, hb2⟩
    go_wp2
    go_ret
    exact ⟨rfl, hb1.trans (hb2.mono hb1.size)⟩
  have hl2 : ¬ (100 : Int) < (ln : Int) := by omega
  have HB1 := hide hb1
  clear hb1
  go_wp2_with fail
  refine (played13 (w0 := w) HS.out (by omega) HB1.out).mono ?_
  rintro e w2 ⟨g, F, rfl, hK⟩
  obtain ⟨t, ht⟩ : ∃ t, t = playT cs := ⟨_, rfl⟩
  rw [← ht] at hK
  have HK := hide hK
  clear hK HB1 HS ht
  go_wp2_with fail
  refine (kheld HK.out.tab (by omega)).mono ?_
  rintro e w3 ⟨vl, rfl, hO, hb3⟩
  obtain ⟨l, hlq⟩ : ∃ l, l = t.held := ⟨_, rfl⟩
  have HG := hide HK.out.tab.good
  rw [← hlq] at hO
  have HLH := hide hlq
  obtain ⟨ad, c, rfl, hc1, hc2⟩ := hO.shape
  have H0 := hide (And.intro (HK.out.later hb3) hO)
  have hc63 : c ≤ 9223372036854775807 := by unfold maxLen at hc2; exact hc2
  obtain ⟨n, hn⟩ : ∃ n, n = l.length := ⟨_, rfl⟩
  have HN := hide hn
  rw [← hn] at hc1 H0 ⊢
  clear hO hb3 hlq HK hl2 hl hn hc2
  go_wp2
  go_loopw [26] (fun q wr => ∃ i : Nat, i ≤ n ∧ q = .int .i64 i ∧ wr = w3 ∧ Hid (∀ j k, j < i → l[j]? = some k → k.w ≠ who)) (fun q _ => n - (intOf q).toNat)
  case atStart => exact ⟨0, Nat.zero_le _, rfl, rfl, fun j k hj => absurd hj (Nat.not_lt_zero _)⟩
  case round =>
    obtain ⟨i, hi, rfl, rfl, HNo⟩ := hrel
    by_cases hlt : i < n
    · have i1 : (i : Int) < (n : Int) := by omega
      obtain ⟨k, hk⟩ : ∃ k, l[i]? = some k := ⟨_, List.getElem?_eq_getElem (by have := HN.out; omega)⟩
      obtain ⟨b, hbe, c0, -, -⟩ := H0.out.2.at hk
      subst hbe
      have HKI := hide hk
      clear hk
      by_cases hkw : k.w = who
      · have e1 : (k.w == who) = true := by simp [hkw]
        clear hkw
        have HE := hide H0.out.1.bel
        go_wp2
        go_ret
        exact ⟨rfl, HE.out⟩
      · have e1 : (k.w == who) = false := by simpa using hkw
        have HE := hide (show ∀ j q, j < i + 1 → l[j]? = some q → q.w ≠ who from fun j q hj hq => by
          by_cases e : j = i
          · subst e
            rw [HKI.out] at hq
            rw [← Option.some.inj hq]
            exact hkw
          · exact HNo.out j q (by omega) hq)
        clear hkw
        go_wp2
        go_roundw
        case rel => exact ⟨i + 1, by omega, by go_num, by first | rfl | trivial, HE⟩
        case measure => simp [intOf]; omega
    · have i1 : ¬ (i : Int) < (n : Int) := by omega
      have HHN := hide (show ∀ k ∈ t.has, k.w ≠ who from fun k hk => by
        have hk2 : k ∈ l := by rw [HLH.out]; exact HG.out.ok.mem_held.2 hk
        obtain ⟨j, hj, e⟩ := List.getElem_of_mem hk2
        exact HNo.out j k (by have := HN.out; omega) (by rw [List.getElem?_eq_getElem hj, e]))
      clear HNo
      go_wp2_with fail
      refine (kwaits H0.out.1.tab (by omega) who).mono ?_
      rintro e w5 ⟨rfl, hb5⟩
      have H5 := hide (H0.out.1.later hb5)
      clear hb5
      obtain ⟨z, hz⟩ : ∃ z : Hd, z = (t.wt who).getD hdZ := ⟨_, rfl⟩
      rw [← hz]
      clear hz
      go_wp2_with (with_reducible refine stop_at 8 rfl ?_)
      refine unstop10 ?_
      refine lst_run (some 8) rfl rfl (.pointer (some ⟨w5.heap.size, 0, none⟩)) (w5.alloc (.cells zeroH 28)) (by go_simp; rfl) ?_
      simp only [Act.put, Array.setIfInBounds, List.size_toArray, List.length_cons, List.length_nil, Nat.reduceAdd, Nat.reduceLT, ↓reduceDIte, List.set_toArray, List.set_cons_succ, List.set_cons_zero]
      refine wpList_store_part rfl 28 (.tmp 8) (.tmp 41) rfl w5.heap.size 0 28 zeroH (hdA z) rfl rfl (RowAt.new w5 _ _) infoHs (by show 0 + 3 ≤ 3; omega) (hdA_one z) ?_
      intro w6 h61 h62
      have b6 : Below w5.heap.size w5 w6 := h62.below ((Below.refl w5.heap.size w5).alloc (Nat.le_refl _) (.cells zeroH 28)) (Nat.le_refl _)
      simp only [Act.put]
      have H6 := hide (H5.out.later b6)
      obtain ⟨g6, hg6⟩ : ∃ g6, g6 = w5.heap.size := ⟨_, rfl⟩
      rw [← hg6]
      clear h61 h62 b6 hg6 H5
      cases hwt : t.wt who with
      | some q =>
        have HE := hide H6.out.bel
        simp only [Option.isSome_some]
        go_wp2
        go_ret
        exact ⟨rfl, HE.out⟩
      | none =>
        simp only [Option.isSome_none]
        have HST := hide (stop_none HG.out.idle hwt)
        have HFR := hide (free_none HG.out.idle hwt HHN.out)
        clear hwt
        have hq := kstop H6.out.tab (by omega) who
        rw [HST.out] at hq
        have HQ := hide hq
        clear hq
        go_wp2_with fail
        refine HQ.out.mono ?_
        rintro e w7 ⟨v1, rfl, hO1, hA1⟩
        obtain ⟨a1, c1, rfl⟩ := hO1.shape
        obtain ⟨F7, hK7, -, -⟩ := H6.out.aft hA1
        have hq := kfree hK7.tab (by omega) who
        rw [HFR.out] at hq
        have HQ2 := hide hq
        have H7 := hide hK7
        clear hq hO1 hA1 hK7 HQ H6
        simp only [List.length_nil]
        go_wp2_with fail
        refine HQ2.out.mono ?_
        rintro e w8 ⟨v2, rfl, hO2, hA2⟩
        obtain ⟨a2, c2, rfl⟩ := hO2.shape
        obtain ⟨F8, hK8, -, -⟩ := H7.out.aft hA2
        have HQ3 := hide (kheld hK8.tab (by omega))
        have H8 := hide hK8
        clear hO2 hA2 hK8 HQ2 H7
        simp only [List.length_nil]
        go_wp2_with fail
        refine HQ3.out.mono ?_
        rintro e w9 ⟨v3, rfl, hO3, hb9⟩
        rw [← HLH.out] at hO3
        obtain ⟨a3, c3, rfl, -, -⟩ := hO3.shape
        rw [← HN.out]
        have HE := hide (H8.out.later hb9).bel
        clear hO3 hb9 HQ3 H8
        go_wp2
        go_ret
        exact ⟨by simp, HE.out⟩
end Go.Proofs.Ytjdabcapphiplab.lockIdle
