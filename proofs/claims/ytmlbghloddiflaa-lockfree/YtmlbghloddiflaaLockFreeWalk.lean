/-
  The walk of LockFree: it returns true, and turns nothing that was there.
-/
import Derived.Test.YtmlbghloddiflaaLkBehind
namespace Go.Proofs.Ytmlbghloddiflaa.lockFree
open Go.RowKit
set_option linter.unusedVariables false

theorem free_wt (t : Tb) (k : Int) : (t.free k).1.wt k = none := by
  cases e : (t.free k).1.wt k with
  | none => rfl
  | some q =>
    obtain ⟨h1, h2⟩ := wt_some e
    exact absurd rfl (free_names (t := t) (k := k) (w := k) (.inr ⟨q, h1, h2⟩)).2
theorem step_names {t : Tb} {c : Lc} {k : Int} (h : (stepT t c).names k) : t.names k ∨ k = c.w := by
  unfold stepT at h
  split at h
  · exact .inl (free_names h).1
  · split at h
    · exact .inl (stop_names h)
    · exact req_names h
theorem play_names {k : Int} (cs : List Lc) : ∀ t : Tb, (cs.foldl stepT t).names k → t.names k ∨ k ∈ cs.map Lc.w := by
  induction cs with
  | nil => exact fun t h => .inl h
  | cons c cs ih =>
    intro t h
    rcases ih _ h with h1 | h1
    · rcases step_names h1 with h2 | rfl
      · exact .inl h2
      · exact .inr (List.mem_cons_self ..)
    · exact .inr (List.mem_cons_of_mem _ h1)
theorem all_free (cs : List Lc) : (freeAll (cs.map Lc.w) (playT cs)).1 = ⟨[], []⟩ := by
  refine names_nil (fun k hk => ?_)
  obtain ⟨h1, h2⟩ := freeAll_names _ hk
  rcases play_names cs ⟨[], []⟩ h1 with h3 | h3
  · rcases h3 with ⟨q, hq, _⟩ | ⟨q, hq, _⟩
    · exact absurd hq (by simp)
    · exact absurd hq (by simp)
  · exact h2 h3
theorem cell_at {w : World} {a : Option Addr} {len cap : Nat} {cs : List Lc} (h : Scr13 w (.slice a len cap) cs) {j : Nat} (hj : j < cs.length) : ∃ b off c, a = some ⟨b, off, none⟩ ∧ cs[j]? = some c ∧ ∀ y, Below w.heap.size w y → y.cell? ⟨b, off + j * 4 + 1, none⟩ = some (.int .i64 c.w) := by
  obtain ⟨a', cap', e, h2⟩ := h.rows
  injection e with e1 e2 e3
  subst e1
  obtain ⟨b, off, h3, h4, h5⟩ := h2 (by omega)
  have hg : cs.getD j Lc.zero = cs[j] := by rw [List.getD_eq_getElem?_getD, List.getElem?_eq_getElem hj]; rfl
  refine ⟨b, off, cs[j], h3, List.getElem?_eq_getElem hj, fun y hy => ?_⟩
  have h6 := rangeAt_below (h5 j hj) hy h4
  rw [hg] at h6
  exact h6 1 _ rfl
theorem free_snoc (cs : List Lc) (t : Tb) (j : Nat) (c : Lc) (h : cs[j]? = some c) : (freeAll ((cs.take (j + 1)).map Lc.w) t).1 = ((freeAll ((cs.take j).map Lc.w) t).1.free c.w).1 := by
  obtain ⟨hj, rfl⟩ := List.getElem?_eq_some_iff.1 h
  rw [List.take_succ_eq_append_getElem hj, List.map_append, List.map_cons, List.map_nil, freeAll_snoc]
set_option maxRecDepth 8000 in
set_option maxHeartbeats 6400000 in
theorem walk (v : Value) (cs : List Lc) (w : World) (h1 : RowsIn lcA Lc.zero 4 w v cs) (h2 : cs.length ≤ maxLen) (h3 : ∀ c ∈ cs, c.fits) (h4 : ∀ a len cap, v = .slice a len cap → len ≤ cap) :
    Calls Try.prog 7 #[v] w fun e w' => e = .returned (.bool true) ∧ Below w.heap.size w w' := by
  have h' := h1
  obtain ⟨a, cap, rfl, -⟩ := h'
  have hs : Scr13 w (.slice a cs.length cap) cs := ⟨h1, h3, h4⟩
  obtain ⟨ln, hln⟩ : ∃ ln, cs.length = ln := ⟨_, rfl⟩
  rw [hln] at hs h2 ⊢
  have HS := hide hs
  have HL := hide hln
  have hcap := h4 _ _ _ rfl
  rw [hln] at hcap
  clear h1 h3 h4 hs hln
  go_enter Try.func7, Try.ntmps7
  go_wp2_with fail
  refine (awake13 _).mono ?_
  rintro e w1 ⟨rfl, hb1⟩
  by_cases hl : 100 < ln
  · have hl2 : (100 : Int) < (ln : Int) := by omega
    go_wp2_with fail
    refine (awake13 _).mono ?_
    rintro e w2 ⟨rfl, hb2⟩
    go_wp2
    go_ret
    exact ⟨rfl, hb1.trans (hb2.mono hb1.size)⟩
  have hl2 : ¬ (100 : Int) < (ln : Int) := by omega
  have HB1 := hide hb1
  clear hb1
  go_wp2_with fail
  refine (played13 (w0 := w) HS.out (by omega) HB1.out).mono ?_
  rintro e w2 ⟨g, F, rfl, hK⟩
  have HK := hide (show ∃ F, K13 w w2 g (freeAll ((cs.take 0).map Lc.w) (playT cs)).1 100 F from ⟨F, hK⟩)
  clear hK HB1
  go_wp2
  go_loopw [21] (fun q wr => ∃ j : Nat, j ≤ ln ∧ q = .int .i64 j ∧ Hid (∃ F, K13 w wr g (freeAll ((cs.take j).map Lc.w) (playT cs)).1 100 F)) (fun q _ => ln - (intOf q).toNat)
  case atStart => exact ⟨0, Nat.zero_le _, rfl, HK⟩
  case round =>
    obtain ⟨j, hj, rfl, HR⟩ := hrel
    by_cases hlt : j < ln
    · have i1 : (j : Int) < (ln : Int) := by omega
      obtain ⟨F, hK⟩ := HR.out
      obtain ⟨b, off, c, rfl, hc, hcl⟩ := cell_at HS.out (j := j) (by rw [HL.out]; exact hlt)
      have HSN := hide (free_snoc cs (playT cs) j c hc)
      have HCL := hide hcl
      have c0 := hcl wr hK.bel
      obtain ⟨t, ht⟩ : ∃ t, t = (freeAll ((cs.take j).map Lc.w) (playT cs)).1 := ⟨_, rfl⟩
      rw [← ht] at hK HSN
      have HK1 := hide hK
      have HF := hide (kfree hK.tab (by omega) c.w)
      have HWT := hide (free_wt t c.w)
      clear hK hc hcl ht HR HK
      go_wp2_with fail
      refine HF.out.mono ?_
      rintro e w5 ⟨v5, rfl, -, hA⟩
      obtain ⟨F5, hK5, -, -⟩ := HK1.out.aft hA
      have HK5 := hide hK5
      have c5 := HCL.out w5 hK5.bel
      have HW := hide (kwaits hK5.tab (by omega) c.w)
      rw [HWT.out] at HW
      clear hA hK5 HK1 HF c0
      go_wp2_with fail
      refine HW.out.mono ?_
      rintro e w6 ⟨rfl, hb6⟩
      have HK6 := hide (HK5.out.later hb6)
      clear hb6 HK5 HW c5
      go_wp2_with (with_reducible refine stop_at 5 rfl ?_)
      refine unstop10 ?_
      refine lst_run (some 5) rfl rfl (.pointer (some ⟨w6.heap.size, 0, none⟩)) (w6.alloc (.cells zeroH 46)) (by go_simp; rfl) ?_
      simp only [Act.put, Array.setIfInBounds, List.size_toArray, List.length_cons, List.length_nil, Nat.reduceAdd, Nat.reduceLT, ↓reduceDIte, List.set_toArray, List.set_cons_succ, List.set_cons_zero]
      refine wpList_store_part rfl 46 (.tmp 5) (.tmp 39) rfl w6.heap.size 0 46 zeroH (hdA hdZ) rfl rfl (RowAt.new w6 _ _) infoHs (by show 0 + 3 ≤ 3; omega) (hdA_one hdZ) ?_
      intro w7 h21 h22
      simp only [Act.put]
      have b2 : Below w6.heap.size w6 w7 := h22.below ((Below.refl w6.heap.size w6).alloc (Nat.le_refl _) (.cells zeroH 46)) (Nat.le_refl _)
      have HK7 := hide (HK6.out.later b2)
      have c7 := HCL.out w7 HK7.out.bel
      have HBH := hide (kbehind HK7.out.tab (by omega) c.w)
      rw [beh_none HWT.out] at HBH
      clear h21 h22 b2 HK6
      go_wp2_with fail
      refine HBH.out.mono ?_
      rintro e w8 ⟨v8, rfl, hO8, hb8⟩
      obtain ⟨a8, c8, rfl⟩ := hO8.shape
      have HE := hide (show ∃ F, K13 w w8 g (freeAll ((cs.take (j + 1)).map Lc.w) (playT cs)).1 100 F from ⟨F5, by rw [HSN.out]; exact HK7.out.later hb8⟩)
      clear hO8 hb8 HBH HK7 c7
      simp only [List.length_nil]
      go_wp2
      go_roundw
      case rel => exact ⟨j + 1, by omega, by go_num, HE⟩
      case measure => simp [intOf]; omega
    · have i1 : ¬ (j : Int) < (ln : Int) := by omega
      have ej : j = ln := by omega
      obtain ⟨F, hK⟩ := HR.out
      rw [ej, ← HL.out, List.take_length, all_free] at hK
      have HK1 := hide hK
      have HH := hide (kheld hK.tab (by omega))
      have hz : (⟨[], []⟩ : Tb).held.length = 0 := good_nil.ok.held_len
      have HZ := hide hz
      clear hK HR ej hz HK
      go_wp2_with fail
      refine HH.out.mono ?_
      rintro e w6 ⟨v6, rfl, hO6, hb6⟩
      obtain ⟨a6, c6, hv6, -, -⟩ := hO6.shape
      rw [HZ.out] at hv6
      subst hv6
      have HK6 := hide (HK1.out.later hb6)
      have HQ := hide (kreq HK6.out.tab (by omega) 1 0 5)
      rw [rows_first ⟨by omega, by omega⟩] at HQ
      clear hO6 hb6 HH HK1
      go_wp2_with fail
      refine HQ.out.mono ?_
      rintro e w7 ⟨rfl, hA⟩
      obtain ⟨F7, hK7, -, -⟩ := HK6.out.aft hA
      have HE := hide hK7.bel
      clear hA hK7 HQ HK6
      go_wp2
      go_ret
      exact ⟨rfl, HE.out⟩
end Go.Proofs.Ytmlbghloddiflaa.lockFree
