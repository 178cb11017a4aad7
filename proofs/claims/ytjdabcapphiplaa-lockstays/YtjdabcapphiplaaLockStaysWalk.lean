/-
  The walk of LockStays: it returns true, and turns nothing that was there.
-/
import Derived.Test.YtjdabcapphiplaaLockFitsWalk
namespace Go.Proofs.Ytjdabcapphiplaa.lockStays
open Go.RowKit
open Go.Proofs.Ytjdabcapphiplaa.lockFits (load_mode load_num bound_held)
set_option linter.unusedVariables false

/-- The table, the call in its box, and what else is held. -/
structure CS (w : World) (g : Nat) (t : Tb) (N : Nat) (F : Nat → Prop) (gb : Nat) (o : Lc) (B : Nat) (v : Value) (l : List Hd) (y : World) : Prop where
  tab : K13 w y g t N F
  box : RowAt y gb 38 (lcA o)
  own : OwnH B y v l
  out : ∀ k, v.ownBlock = some k → ¬ F k
  bx : ¬ F gb
theorem CS.later {w : World} {g : Nat} {t : Tb} {N : Nat} {F : Nat → Prop} {gb : Nat} {o : Lc} {B : Nat} {v : Value} {l : List Hd} {y z : World} (h : CS w g t N F gb o B v l y) (q : Below y.heap.size y z) : CS w g t N F gb o B v l z := ⟨h.tab.later q, h.box.later q, h.own.later q, h.out, h.bx⟩
theorem neq_hold (c d : Hd) (hc : c.fine) (hd : d.fine) (w : World) : (binOp .neq 46 (.agg (hdA c)) (.agg (hdA d))).run Try.prog w = .ok (.bool (!decide (c = d))) w := by
  obtain ⟨r, hr, hiff⟩ := run_equalIn_deep (P := Try.prog) 9998 2 46 (by kernel_rfl) w 2 2 (.agg (hdA c)) (.agg (hdA d)) (litsH c) (litsH d) (by kernel_rfl) (by kernel_rfl) (lits_hold c hc) (lits_hold d hd)
  have e : r = decide (c = d) := by
    rw [Bool.eq_iff_iff, hiff, litsH_iff, decide_eq_true_iff]
  rw [e] at hr
  have hr2 : (Op.equal 46 (.agg (hdA c)) (.agg (hdA d))).run Try.prog w = .ok (decide (c = d)) w := hr
  simp [binOp, hr2]

set_option maxRecDepth 8000 in
set_option maxHeartbeats 12800000 in
theorem walk (v : Value) (cs : List Lc) (o : Lc) (w : World) (h1 : RowsIn lcA Lc.zero 4 w v cs) (h2 : cs.length ≤ maxLen) (h3 : ∀ c ∈ cs, c.fits) (h4 : ∀ a len cap, v = .slice a len cap → len ≤ cap) (ho : o.fits) :
    Calls Try.prog 8 #[v, .agg (lcA o)] w fun e w' => e = .returned (.bool true) ∧ Below w.heap.size w w' := by
  have h' := h1
  obtain ⟨a, cap, rfl, -⟩ := h'
  have bb : Below w.heap.size w (w.alloc (.cells (lcA o) 38)) := (Below.refl w.heap.size w).alloc (Nat.le_refl _) _
  obtain ⟨wb, hwb⟩ : ∃ wb, wb = w.alloc (.cells (lcA o) 38) := ⟨_, rfl⟩
  have rb : RowAt wb w.heap.size 38 (lcA o) := by rw [hwb]; exact RowAt.new w _ _
  rw [← hwb] at bb
  have hs : Scr13 wb (.slice a cs.length cap) cs := ⟨h1.below bb, h3, h4⟩
  obtain ⟨ln, hln⟩ : ∃ ln, cs.length = ln := ⟨_, rfl⟩
  rw [hln] at hs h2 ⊢
  obtain ⟨gb, hgb⟩ : ∃ gb, gb = w.heap.size := ⟨_, rfl⟩
  have HGB := hide hgb
  rw [← hgb] at rb
  have HS := hide (And.intro hs (And.intro bb rb))
  have HWB := hide hwb
  obtain ⟨A, hA⟩ : ∃ A, A = lcA o := ⟨_, rfl⟩
  have HA := hide hA
  clear h1 h3 h4 hs hln bb rb hwb
  rw [← hA]
  clear hA
  go_enter Try.func8, Try.ntmps8
  go_wp2_with fail
  have ewb : w.alloc (.cells A 38) = wb := by rw [HWB.out, HA.out]
  rw [ewb, ← hgb]
  clear ewb hgb
  refine (awake13 _).mono ?_
  rintro e w1 ⟨rfl, hb1⟩
  by_cases hl : 100 < ln
  · have hl2 : (100 : Int) < (ln : Int) := by omega
    have HB1 := hide (HS.out.2.1.trans (hb1.mono HS.out.2.1.size))
    clear hb1
    go_wp2_with fail
    refine (awake13 _).mono ?_
    rintro e w2 ⟨rfl, hb2⟩
    have HB2 := hide hb2
    clear hb2
    go_wp2
    go_ret
    exact ⟨rfl, HB1.out.trans (HB2.out.mono HB1.out.size)⟩
  have hl2 : ¬ (100 : Int) < (ln : Int) := by omega
  have HB1 := hide hb1
  clear hb1
  go_wp2_with fail
  refine (played13 (w0 := wb) HS.out.1 (by omega) HB1.out).mono ?_
  rintro e w2 ⟨g, F, rfl, hK⟩
  obtain ⟨t, ht⟩ : ∃ t, t = playT cs := ⟨_, rfl⟩
  rw [← ht] at hK
  have HK := hide hK
  clear hK HB1 ht hl2 hl
  have hgbF : ∀ (F : Nat → Prop) (y : World) (t : Tb) (N : Nat), K13 wb y g t N F → ¬ F gb := fun F y t N hk hf => by
    have h1 := hk.new gb hf
    have h2 := HS.out.2.2.lt
    omega
  have HGF := hide hgbF
  clear hgbF
  go_wp2_with fail
  refine wp_region_noPanic ?_
  refine wp_region_held_drew (S := fun y => RowAt y gb 38 (lcA o)) (by kernel_rfl) (show RowAt w2 gb 38 (lcA o) from HS.out.2.2.later HK.out.bel) (fun hHeld => ?_)
  refine hand_take 0 (some 26) (.pointer (some ⟨g, 0, none⟩)) rfl rfl (by kernel_rfl) (by kernel_rfl) (by kernel_rfl) (fun _ _ _ h => h) (Or.inl ⟨by kernel_rfl, fun y hy => by go_simp⟩) hHeld ?_
  try simp only [Act.put, List.setIfInBounds_toArray, List.set_cons_zero, List.set_cons_succ]
  refine hand_take 2 (some 28) (.pointer (some ⟨g, 0, none⟩)) rfl rfl (by kernel_rfl) (by kernel_rfl) (by kernel_rfl) (fun _ _ _ h => h) (Or.inl ⟨by kernel_rfl, fun y hy => by go_simp⟩) hHeld ?_
  try simp only [Act.put, List.setIfInBounds_toArray, List.set_cons_zero, List.set_cons_succ]
  refine hand_take 3 (some 29) (.pointer (some ⟨gb, 1, none⟩)) rfl rfl (by kernel_rfl) (by kernel_rfl) (by kernel_rfl) (fun _ _ _ h => h) (Or.inl ⟨by kernel_rfl, fun y hy => by go_simp⟩) hHeld ?_
  try simp only [Act.put, List.setIfInBounds_toArray, List.set_cons_zero, List.set_cons_succ]
  refine hand_take 4 (some 30) (.int .i64 o.w) rfl rfl (by kernel_rfl) (by kernel_rfl) (by kernel_rfl) (fun _ _ _ h => h) (Or.inl ⟨by kernel_rfl, fun y hy => by have h := (show y.cell? ⟨gb, 1, none⟩ = some (.int .i64 o.w) from hy.cell 1 _ rfl); go_simp⟩) hHeld ?_
  try simp only [Act.put, List.setIfInBounds_toArray, List.set_cons_zero, List.set_cons_succ]
  refine hand_take 5 (some 31) (.pointer (some ⟨gb, 2, none⟩)) rfl rfl (by kernel_rfl) (by kernel_rfl) (by kernel_rfl) (fun _ _ _ h => h) (Or.inl ⟨by kernel_rfl, fun y hy => by go_simp⟩) hHeld ?_
  try simp only [Act.put, List.setIfInBounds_toArray, List.set_cons_zero, List.set_cons_succ]
  refine hand_take 6 (some 32) (.int .i64 o.x) rfl rfl (by kernel_rfl) (by kernel_rfl) (by kernel_rfl) (fun _ _ _ h => h) (Or.inl ⟨by kernel_rfl, fun y hy => by have h := (show y.cell? ⟨gb, 2, none⟩ = some (.int .i64 o.x) from hy.cell 2 _ rfl); go_simp⟩) hHeld ?_
  try simp only [Act.put, List.setIfInBounds_toArray, List.set_cons_zero, List.set_cons_succ]
  refine hand_one 1 (by kernel_rfl) ?_
  refine hand_call (some 27) rfl rfl rfl 13 #[.pointer (some ⟨g, 0, none⟩)] ?he ((kheld (HK.out.tab.later ((Below.refl w2.heap.size w2).drew)) (by omega)).mono ?_)
  (case he => go_simp)
  rintro e w3 ⟨v1, rfl, hO, hb3⟩
  have hb3' : Below w2.heap.size w2 w3 := ⟨hb3.1, hb3.2, hb3.3, hb3.4, hb3.5⟩
  have hO' : OwnH w2.heap.size w3 v1 t.held := hO
  have hbx3 : RowAt w3 gb 38 (lcA o) := (HS.out.2.2.later HK.out.bel).later hb3'
  refine ⟨_, rfl, ?_⟩
  refine ⟨hbx3, ?_⟩
  try simp only [Act.put, List.setIfInBounds_toArray, List.set_cons_zero, List.set_cons_succ]
  have hK3 := HK.out.later hb3'
  refine hand_one 7 (by kernel_rfl) ?_
  refine hand_call (some 33) rfl rfl rfl 17 #[.pointer (some ⟨g, 0, none⟩), .int .i64 o.w, .int .i64 o.x] ?he ((kholds hK3.tab (by omega) o.w o.x).mono ?_)
  (case he => go_simp)
  rintro e w4 ⟨rfl, hb4⟩
  have hbx4 := hbx3.later hb4
  refine ⟨_, rfl, ?_⟩
  refine ⟨hbx4, ?_⟩
  try simp only [Act.put, List.setIfInBounds_toArray, List.set_cons_zero, List.set_cons_succ]
  obtain ⟨mi, hmi⟩ : ∃ mi, mi = t.at o.w o.x := ⟨_, rfl⟩
  rw [← hmi]
  refine hand_take 8 (some 6) v1 rfl rfl (by kernel_rfl) (by kernel_rfl) (by kernel_rfl) (fun _ _ _ h => h) (Or.inl ⟨by kernel_rfl, fun y hy => by go_simp⟩) hbx4 ?_
  try simp only [Act.put, List.setIfInBounds_toArray, List.set_cons_zero, List.set_cons_succ]
  refine hand_take 9 (some 7) (.int .i64 mi) rfl rfl (by kernel_rfl) (by kernel_rfl) (by kernel_rfl) (fun _ _ _ h => h) (Or.inl ⟨by kernel_rfl, fun y hy => by go_simp⟩) hbx4 ?_
  try simp only [Act.put, List.setIfInBounds_toArray, List.set_cons_zero, List.set_cons_succ]
  refine wpAnyH_done (by kernel_rfl) ?_ _
  refine NoPanic.normal ?_
  obtain ⟨av, cv, rfl, hcv1, hcv2⟩ := hO'.shape
  obtain ⟨l, hlq⟩ : ∃ l, l = t.held := ⟨_, rfl⟩
  rw [← hlq] at hO' hcv1 ⊢
  have H4 := hide (show CS wb g t 100 F gb o w2.heap.size (.slice av l.length cv) l w4 from ⟨hK3.later hb4, hbx4, hO'.later hb4, fun k hk hf => by
    have h1 := (hO'.block hk).1
    have h2 := HK.out.tab.lt hf
    omega, HGF.out _ _ _ _ HK.out⟩)
  have HMI := hide hmi
  have HL1 := hide (show l.length ≤ 1000000 from by rw [hlq]; exact bound_held HK.out.tab (by omega))
  have HLQ := hide hlq
  clear hb3 hb3' hO hO' hbx3 hK3 hb4 hbx4 hmi hlq hHeld HK
  have d1 := H4.out.box.cell 1 (.int .i64 o.w) rfl
  have d2 := H4.out.box.cell 2 (.int .i64 o.x) rfl
  have d3 := H4.out.box.cell 3 (.int .i64 o.m) rfl
  have HRQ := hide (kreq H4.out.tab.tab (by omega) o.w o.x o.m)
  have HSTY := hide (H4.out.tab.tab.good.stays o.w o.x o.m)
  obtain ⟨t2, ht2⟩ : ∃ t2, t2 = (t.request o.w o.x o.m).1 := ⟨_, rfl⟩
  obtain ⟨r, hr⟩ : ∃ r, r = (t.request o.w o.x o.m).2 := ⟨_, rfl⟩
  rw [← ht2, ← hr] at HRQ
  rw [← ht2, ← hr] at HSTY
  clear ht2 hr
  go_wp2_with fail
  refine HRQ.out.mono ?_
  rintro e w5 ⟨rfl, hA5⟩
  obtain ⟨F5, hK5, hTn5, hF5⟩ := H4.out.tab.aft hA5
  have H5 := hide (show CS wb g t2 101 F5 gb o w2.heap.size (.slice av l.length cv) l w5 from ⟨hK5, hTn5.row H4.out.box H4.out.bx, H4.out.own.turned hTn5 (fun k hk hb => H4.out.out k hb hk), fun k hk hf => by
    rcases hF5 k hf with h1 | h1
    · exact H4.out.out k hk h1
    · have := (H4.out.own.block hk).2
      omega, HGF.out _ _ _ _ hK5⟩)
  clear hA5 hK5 hTn5 hF5 HRQ H4 d1 d2 d3
  go_wp2_with fail
  refine wp_region_noPanic ?_
  refine wp_region_held_drew (S := fun y => RowAt y gb 38 (lcA o)) (by kernel_rfl) (H5.out.box) (fun hHeld => ?_)
  refine hand_take 0 (some 42) (.pointer (some ⟨g, 0, none⟩)) rfl rfl (by kernel_rfl) (by kernel_rfl) (by kernel_rfl) (fun _ _ _ h => h) (Or.inl ⟨by kernel_rfl, fun y hy => by go_simp⟩) hHeld ?_
  try simp only [Act.put, List.setIfInBounds_toArray, List.set_cons_zero, List.set_cons_succ]
  refine hand_take 2 (some 44) (.pointer (some ⟨g, 0, none⟩)) rfl rfl (by kernel_rfl) (by kernel_rfl) (by kernel_rfl) (fun _ _ _ h => h) (Or.inl ⟨by kernel_rfl, fun y hy => by go_simp⟩) hHeld ?_
  try simp only [Act.put, List.setIfInBounds_toArray, List.set_cons_zero, List.set_cons_succ]
  refine hand_take 3 (some 45) (.pointer (some ⟨gb, 1, none⟩)) rfl rfl (by kernel_rfl) (by kernel_rfl) (by kernel_rfl) (fun _ _ _ h => h) (Or.inl ⟨by kernel_rfl, fun y hy => by go_simp⟩) hHeld ?_
  try simp only [Act.put, List.setIfInBounds_toArray, List.set_cons_zero, List.set_cons_succ]
  refine hand_take 4 (some 46) (.int .i64 o.w) rfl rfl (by kernel_rfl) (by kernel_rfl) (by kernel_rfl) (fun _ _ _ h => h) (Or.inl ⟨by kernel_rfl, fun y hy => by have h := (show y.cell? ⟨gb, 1, none⟩ = some (.int .i64 o.w) from hy.cell 1 _ rfl); go_simp⟩) hHeld ?_
  try simp only [Act.put, List.setIfInBounds_toArray, List.set_cons_zero, List.set_cons_succ]
  refine hand_take 5 (some 47) (.pointer (some ⟨gb, 2, none⟩)) rfl rfl (by kernel_rfl) (by kernel_rfl) (by kernel_rfl) (fun _ _ _ h => h) (Or.inl ⟨by kernel_rfl, fun y hy => by go_simp⟩) hHeld ?_
  try simp only [Act.put, List.setIfInBounds_toArray, List.set_cons_zero, List.set_cons_succ]
  refine hand_take 6 (some 48) (.int .i64 o.x) rfl rfl (by kernel_rfl) (by kernel_rfl) (by kernel_rfl) (fun _ _ _ h => h) (Or.inl ⟨by kernel_rfl, fun y hy => by have h := (show y.cell? ⟨gb, 2, none⟩ = some (.int .i64 o.x) from hy.cell 2 _ rfl); go_simp⟩) hHeld ?_
  try simp only [Act.put, List.setIfInBounds_toArray, List.set_cons_zero, List.set_cons_succ]
  refine hand_one 1 (by kernel_rfl) ?_
  refine hand_call (some 43) rfl rfl rfl 13 #[.pointer (some ⟨g, 0, none⟩)] ?he ((kheld (H5.out.tab.tab.later ((Below.refl w5.heap.size w5).drew)) (by omega)).mono ?_)
  (case he => go_simp)
  rintro e w6 ⟨v2, rfl, hO, hb3⟩
  have hb3' : Below w5.heap.size w5 w6 := ⟨hb3.1, hb3.2, hb3.3, hb3.4, hb3.5⟩
  have hO' : OwnH w5.heap.size w6 v2 t2.held := hO
  have hC6 := H5.out.later hb3'
  have hbx6 := hC6.box
  refine ⟨_, rfl, ?_⟩
  refine ⟨hbx6, ?_⟩
  try simp only [Act.put, List.setIfInBounds_toArray, List.set_cons_zero, List.set_cons_succ]
  refine hand_one 7 (by kernel_rfl) ?_
  refine hand_call (some 49) rfl rfl rfl 17 #[.pointer (some ⟨g, 0, none⟩), .int .i64 o.w, .int .i64 o.x] ?he ((kholds hC6.tab.tab (by omega) o.w o.x).mono ?_)
  (case he => go_simp)
  rintro e w7 ⟨rfl, hb7⟩
  have hC7 := hC6.later hb7
  have hbx7 := hC7.box
  refine ⟨_, rfl, ?_⟩
  refine ⟨hbx7, ?_⟩
  try simp only [Act.put, List.setIfInBounds_toArray, List.set_cons_zero, List.set_cons_succ]
  obtain ⟨nw, hnw⟩ : ∃ nw, nw = t2.at o.w o.x := ⟨_, rfl⟩
  rw [← hnw]
  refine hand_take 8 (some 9) v2 rfl rfl (by kernel_rfl) (by kernel_rfl) (by kernel_rfl) (fun _ _ _ h => h) (Or.inl ⟨by kernel_rfl, fun y hy => by go_simp⟩) hbx7 ?_
  try simp only [Act.put, List.setIfInBounds_toArray, List.set_cons_zero, List.set_cons_succ]
  refine hand_take 9 (some 10) (.int .i64 nw) rfl rfl (by kernel_rfl) (by kernel_rfl) (by kernel_rfl) (fun _ _ _ h => h) (Or.inl ⟨by kernel_rfl, fun y hy => by go_simp⟩) hbx7 ?_
  try simp only [Act.put, List.setIfInBounds_toArray, List.set_cons_zero, List.set_cons_succ]
  refine wpAnyH_done (by kernel_rfl) ?_ _
  refine NoPanic.normal ?_
  obtain ⟨av2, cv2, rfl, hdv1, hdv2⟩ := hO'.shape
  obtain ⟨l2, hlq2⟩ : ∃ l2, l2 = t2.held := ⟨_, rfl⟩
  rw [← hlq2] at hO' hdv1 ⊢
  have H7 := hide (And.intro hC7 (hO'.later hb7))
  have HNW := hide hnw
  have HLQ2 := hide hlq2
  have hll := bound_held hC7.tab.tab (by omega)
  rw [← hlq2] at hll
  have hl1 := HL1.out
  clear hb3 hb3' hO hO' hC6 hbx6 hb7 hC7 hbx7 hnw hlq2 hHeld H5
  by_cases hr0 : r = 0
  · have hr1 : (r == 0) = true := by simp [hr0]
    have HST := hide (HSTY.out.2 hr0)
    subst hr0
    clear hr1
    go_wp2
    go_loopw [74] (fun q wr => ∃ i : Nat, i ≤ l.length ∧ q = .int .i64 i ∧ Hid (CS wb g t2 101 F5 gb o w2.heap.size (.slice av l.length cv) l wr)) (fun q _ => l.length - (intOf q).toNat)
    case atStart => exact ⟨0, Nat.zero_le _, rfl, H7.out.1⟩
    case round =>
      obtain ⟨i, hi, rfl, HR⟩ := hrel
      by_cases hlt : i < l.length
      · have i1 : (i : Int) < (l.length : Int) := by omega
        obtain ⟨k, hk⟩ : ∃ k, l[i]? = some k := ⟨_, List.getElem?_eq_getElem hlt⟩
        obtain ⟨b, hbe, c0, c1, c2⟩ := HR.out.own.at hk
        subst hbe
        have HLD := hide (load_hold c0 c1 c2)
        have hkt : k ∈ t.held := by rw [← HLQ.out]; exact List.mem_of_getElem? hk
        have HKT := hide hkt
        clear hk hkt c0 c1 c2
        go_wp2_with (with_reducible refine stop_at 80 rfl ?_)
        refine unstop10 ?_
        refine lst_load (some 80) (.agg (hdA k)) rfl rfl 46 (.tmp 79) rfl _ rfl (HLD.out) ?_
        simp only [Act.put, Array.setIfInBounds, List.size_toArray, List.length_cons, List.length_nil, Nat.reduceAdd, Nat.reduceLT, ↓reduceDIte, List.set_toArray, List.set_cons_succ, List.set_cons_zero]
        refine lst_run (some 13) rfl rfl (.pointer (some ⟨wr.heap.size, 0, none⟩)) (wr.alloc (.cells zeroH 46)) (by go_simp; rfl) ?_
        simp only [Act.put, Array.setIfInBounds, List.size_toArray, List.length_cons, List.length_nil, Nat.reduceAdd, Nat.reduceLT, ↓reduceDIte, List.set_toArray, List.set_cons_succ, List.set_cons_zero]
        refine wpList_store_part rfl 46 (.tmp 13) (.tmp 80) rfl wr.heap.size 0 46 zeroH (hdA k) rfl rfl (RowAt.new wr _ _) infoHs (by show 0 + 3 ≤ 3; omega) (hdA_one k) ?_
        intro w9 h21 h22
        rw [partA_all zeroH (hdA k) rfl] at h21
        have b2 : Below wr.heap.size wr w9 := h22.below ((Below.refl wr.heap.size wr).alloc (Nat.le_refl _) (.cells zeroH 46)) (Nat.le_refl _)
        simp only [Act.put]
        have HR2 := hide (And.intro (HR.out.later b2) h21)
        obtain ⟨gv, hgv⟩ : ∃ gv, gv = wr.heap.size := ⟨_, rfl⟩
        rw [← hgv] at HR2 ⊢
        have HCL := hide (fun y (hy : CS wb g t2 101 F5 gb o w2.heap.size (.slice (some ⟨b, 0, none⟩) l.length cv) l y ∧ RowAt y gv 46 (hdA k)) => And.intro (hy.2.cell 0 (.int .i64 k.w) rfl) (And.intro (hy.2.cell 1 (.int .i64 k.x) rfl) (And.intro (hy.2.cell 2 (.int .i64 k.m) rfl) (And.intro (hy.1.box.cell 1 (.int .i64 o.w) rfl) (hy.1.box.cell 2 (.int .i64 o.x) rfl)))))
        have HHO := hide (fun y (hy : CS wb g t2 101 F5 gb o w2.heap.size (.slice (some ⟨b, 0, none⟩) l.length cv) l y ∧ RowAt y gv 46 (hdA k)) => kholds hy.1.tab.tab (by omega) k.w k.x)
        clear h21 h22 b2 HLD hgv HR
        by_cases hkw : k.w = o.w
        · by_cases hkx : k.x = o.x
          · have e1 : (k.w == o.w) = true := by simp [hkw]
            have e2 : (k.x == o.x) = true := by simp [hkx]
            have kwa : ((k.w) != (o.w)) = false := by simp [hkw]
            have kwb : decide ((k.w) = (o.w)) = true := by simp [hkw]
            have kxa : ((k.x) != (o.x)) = false := by simp [hkx]
            have kxb : decide ((k.x) = (o.x)) = true := by simp [hkx]
            clear hkw hkx HKT
            go_wp2_with fail
            refine wp_region_in (fun y => CS wb g t2 101 F5 gb o w2.heap.size (.slice (some ⟨b, 0, none⟩) l.length cv) l y ∧ RowAt y gv 46 (hdA k)) (by kernel_rfl) (by kernel_rfl) (⟨HR2.out.1.later ((Below.refl _ _).drew), HR2.out.2⟩) ?_
            refine wpQuiet_plain rfl (fun K hK => ?_); go_simp; refine hK _ ?_; clear hK K
            refine wpQuiet_load rfl 3 (.tmp 81) rfl _ (.int .i64 k.w) rfl (fun y hy => load_num (HCL.out y hy).1) ?_; simp only [Act.put, Array.setIfInBounds, List.size_toArray, List.length_cons, List.length_nil, Nat.reduceAdd, Nat.reduceLT, ↓reduceDIte, List.set_toArray, List.set_cons_succ, List.set_cons_zero]
            refine wpQuiet_plain rfl (fun K hK => ?_); go_simp; refine hK _ ?_; clear hK K
            refine wpQuiet_load rfl 3 (.tmp 83) rfl _ (.int .i64 o.w) rfl (fun y hy => load_num (HCL.out y hy).2.2.2.1) ?_; simp only [Act.put, Array.setIfInBounds, List.size_toArray, List.length_cons, List.length_nil, Nat.reduceAdd, Nat.reduceLT, ↓reduceDIte, List.set_toArray, List.set_cons_succ, List.set_cons_zero]
            refine wpQuiet_plain rfl (fun K hK => ?_); go_simp; refine hK _ ?_; clear hK K
            refine wpQuiet_plain rfl (fun K hK => ?_); go_simp; refine hK _ ?_; clear hK K
            refine wpQuiet_plain rfl (fun K hK => ?_); go_simp; refine hK _ ?_; clear hK K
            refine wpQuiet_load rfl 3 (.tmp 87) rfl _ (.int .i64 k.x) rfl (fun y hy => load_num (HCL.out y hy).2.1) ?_; simp only [Act.put, Array.setIfInBounds, List.size_toArray, List.length_cons, List.length_nil, Nat.reduceAdd, Nat.reduceLT, ↓reduceDIte, List.set_toArray, List.set_cons_succ, List.set_cons_zero]
            refine wpQuiet_plain rfl (fun K hK => ?_); go_simp; refine hK _ ?_; clear hK K
            refine wpQuiet_load rfl 3 (.tmp 89) rfl _ (.int .i64 o.x) rfl (fun y hy => load_num (HCL.out y hy).2.2.2.2) ?_; simp only [Act.put, Array.setIfInBounds, List.size_toArray, List.length_cons, List.length_nil, Nat.reduceAdd, Nat.reduceLT, ↓reduceDIte, List.set_toArray, List.set_cons_succ, List.set_cons_zero]
            refine wpQuiet_plain rfl (fun K hK => ?_); go_simp; refine hK _ ?_; clear hK K
            refine wpQuiet_plain rfl (fun K hK => ?_); go_simp; refine hK _ ?_; clear hK K
            refine wpQuiet_plain rfl (fun K hK => ?_); go_simp; refine hK _ ?_; clear hK K
            go_big_quiet_skip
            go_big_quiet_skip
            go_big_quiet_skip
            go_big_quiet_skip
            go_big_quiet_skip
            go_big_quiet_skip
            go_big_quiet_skip
            go_big_quiet_skip
            go_big_quiet_skip
            refine wpQuiet_plain rfl (fun K hK => ?_); go_simp; refine hK _ ?_; clear hK K
            refine wpQuiet_nil ?_
            intro y hy
            have HY := hide hy.1
            clear hy HCL HHO HR2
            go_wp2
            go_roundw
            case rel => exact ⟨i + 1, by omega, by go_num, HY⟩
            case measure => simp [intOf]; omega
          · have e1 : (k.w == o.w) = true := by simp [hkw]
            have e2 : (k.x == o.x) = false := by simpa using hkx
            have HAT := hide (HST.out.1 k HKT.out (.inr hkx))
            rw [HAT.out] at HHO
            have kwa : ((k.w) != (o.w)) = false := by simp [hkw]
            have kwb : decide ((k.w) = (o.w)) = true := by simp [hkw]
            have kxa : ((k.x) != (o.x)) = true := by simpa using hkx
            have kxb : decide ((k.x) = (o.x)) = false := by simpa using hkx
            have kxc : ¬ (k.x) = (o.x) := hkx
            clear hkw hkx HKT
            go_wp2_with fail
            refine wp_region_in (fun y => CS wb g t2 101 F5 gb o w2.heap.size (.slice (some ⟨b, 0, none⟩) l.length cv) l y ∧ RowAt y gv 46 (hdA k)) (by kernel_rfl) (by kernel_rfl) (⟨HR2.out.1.later ((Below.refl _ _).drew), HR2.out.2⟩) ?_
            refine wpQuiet_plain rfl (fun K hK => ?_); go_simp; refine hK _ ?_; clear hK K
            refine wpQuiet_load rfl 3 (.tmp 81) rfl _ (.int .i64 k.w) rfl (fun y hy => load_num (HCL.out y hy).1) ?_; simp only [Act.put, Array.setIfInBounds, List.size_toArray, List.length_cons, List.length_nil, Nat.reduceAdd, Nat.reduceLT, ↓reduceDIte, List.set_toArray, List.set_cons_succ, List.set_cons_zero]
            refine wpQuiet_plain rfl (fun K hK => ?_); go_simp; refine hK _ ?_; clear hK K
            refine wpQuiet_load rfl 3 (.tmp 83) rfl _ (.int .i64 o.w) rfl (fun y hy => load_num (HCL.out y hy).2.2.2.1) ?_; simp only [Act.put, Array.setIfInBounds, List.size_toArray, List.length_cons, List.length_nil, Nat.reduceAdd, Nat.reduceLT, ↓reduceDIte, List.set_toArray, List.set_cons_succ, List.set_cons_zero]
            refine wpQuiet_plain rfl (fun K hK => ?_); go_simp; refine hK _ ?_; clear hK K
            refine wpQuiet_plain rfl (fun K hK => ?_); go_simp; refine hK _ ?_; clear hK K
            refine wpQuiet_plain rfl (fun K hK => ?_); go_simp; refine hK _ ?_; clear hK K
            refine wpQuiet_load rfl 3 (.tmp 87) rfl _ (.int .i64 k.x) rfl (fun y hy => load_num (HCL.out y hy).2.1) ?_; simp only [Act.put, Array.setIfInBounds, List.size_toArray, List.length_cons, List.length_nil, Nat.reduceAdd, Nat.reduceLT, ↓reduceDIte, List.set_toArray, List.set_cons_succ, List.set_cons_zero]
            refine wpQuiet_plain rfl (fun K hK => ?_); go_simp; refine hK _ ?_; clear hK K
            refine wpQuiet_load rfl 3 (.tmp 89) rfl _ (.int .i64 o.x) rfl (fun y hy => load_num (HCL.out y hy).2.2.2.2) ?_; simp only [Act.put, Array.setIfInBounds, List.size_toArray, List.length_cons, List.length_nil, Nat.reduceAdd, Nat.reduceLT, ↓reduceDIte, List.set_toArray, List.set_cons_succ, List.set_cons_zero]
            refine wpQuiet_plain rfl (fun K hK => ?_); go_simp; refine hK _ ?_; clear hK K
            refine wpQuiet_plain rfl (fun K hK => ?_); go_simp; refine hK _ ?_; clear hK K
            refine wpQuiet_plain rfl (fun K hK => ?_); go_simp; refine hK _ ?_; clear hK K
            refine wpQuiet_plain rfl (fun K hK => ?_); go_simp; refine hK _ ?_; clear hK K
            refine wpQuiet_plain rfl (fun K hK => ?_); go_simp; refine hK _ ?_; clear hK K
            refine wpQuiet_load rfl 3 (.tmp 95) rfl _ (.int .i64 k.w) rfl (fun y hy => load_num (HCL.out y hy).1) ?_; simp only [Act.put, Array.setIfInBounds, List.size_toArray, List.length_cons, List.length_nil, Nat.reduceAdd, Nat.reduceLT, ↓reduceDIte, List.set_toArray, List.set_cons_succ, List.set_cons_zero]
            refine wpQuiet_plain rfl (fun K hK => ?_); go_simp; refine hK _ ?_; clear hK K
            refine wpQuiet_load rfl 3 (.tmp 97) rfl _ (.int .i64 k.x) rfl (fun y hy => load_num (HCL.out y hy).2.1) ?_; simp only [Act.put, Array.setIfInBounds, List.size_toArray, List.length_cons, List.length_nil, Nat.reduceAdd, Nat.reduceLT, ↓reduceDIte, List.set_toArray, List.set_cons_succ, List.set_cons_zero]
            refine wpQuiet_call rfl 17 #[.pointer (some ⟨g, 0, none⟩), .int .i64 k.w, .int .i64 k.x] (.int .i64 k.m) ?_ (fun y hC => (HHO.out y hC).mono fun e x' h => ⟨h.1, hC.1.later h.2, hC.2.later h.2⟩) ?_; (intro x; go_simp); simp only [Act.put, Array.setIfInBounds, List.size_toArray, List.length_cons, List.length_nil, Nat.reduceAdd, Nat.reduceLT, ↓reduceDIte, List.set_toArray, List.set_cons_succ, List.set_cons_zero]
            refine wpQuiet_plain rfl (fun K hK => ?_); go_simp; refine hK _ ?_; clear hK K
            refine wpQuiet_load rfl 44 (.tmp 100) rfl _ (.int .i64 k.m) rfl (fun y hy => load_mode (HCL.out y hy).2.2.1) ?_; simp only [Act.put, Array.setIfInBounds, List.size_toArray, List.length_cons, List.length_nil, Nat.reduceAdd, Nat.reduceLT, ↓reduceDIte, List.set_toArray, List.set_cons_succ, List.set_cons_zero]
            refine wpQuiet_plain rfl (fun K hK => ?_); go_simp; refine hK _ ?_; clear hK K
            refine wpQuiet_plain rfl (fun K hK => ?_); go_simp; refine hK _ ?_; clear hK K
            refine wpQuiet_nil ?_
            intro y hy
            have HY := hide hy.1
            clear hy HCL HHO HR2
            go_wp2
            go_roundw
            case rel => exact ⟨i + 1, by omega, by go_num, HY⟩
            case measure => simp [intOf]; omega
        · have e1 : (k.w == o.w) = false := by simpa using hkw
          have HAT := hide (HST.out.1 k HKT.out (.inl hkw))
          rw [HAT.out] at HHO
          have kwa : ((k.w) != (o.w)) = true := by simpa using hkw
          have kwb : decide ((k.w) = (o.w)) = false := by simpa using hkw
          have kwc : ¬ (k.w) = (o.w) := hkw
          clear hkw HKT
          go_wp2_with fail
          refine wp_region_in (fun y => CS wb g t2 101 F5 gb o w2.heap.size (.slice (some ⟨b, 0, none⟩) l.length cv) l y ∧ RowAt y gv 46 (hdA k)) (by kernel_rfl) (by kernel_rfl) (⟨HR2.out.1.later ((Below.refl _ _).drew), HR2.out.2⟩) ?_
          refine wpQuiet_plain rfl (fun K hK => ?_); go_simp; refine hK _ ?_; clear hK K
          refine wpQuiet_load rfl 3 (.tmp 81) rfl _ (.int .i64 k.w) rfl (fun y hy => load_num (HCL.out y hy).1) ?_; simp only [Act.put, Array.setIfInBounds, List.size_toArray, List.length_cons, List.length_nil, Nat.reduceAdd, Nat.reduceLT, ↓reduceDIte, List.set_toArray, List.set_cons_succ, List.set_cons_zero]
          refine wpQuiet_plain rfl (fun K hK => ?_); go_simp; refine hK _ ?_; clear hK K
          refine wpQuiet_load rfl 3 (.tmp 83) rfl _ (.int .i64 o.w) rfl (fun y hy => load_num (HCL.out y hy).2.2.2.1) ?_; simp only [Act.put, Array.setIfInBounds, List.size_toArray, List.length_cons, List.length_nil, Nat.reduceAdd, Nat.reduceLT, ↓reduceDIte, List.set_toArray, List.set_cons_succ, List.set_cons_zero]
          refine wpQuiet_plain rfl (fun K hK => ?_); go_simp; refine hK _ ?_; clear hK K
          refine wpQuiet_plain rfl (fun K hK => ?_); go_simp; refine hK _ ?_; clear hK K
          go_big_quiet_skip
          go_big_quiet_skip
          go_big_quiet_skip
          go_big_quiet_skip
          go_big_quiet_skip
          refine wpQuiet_plain rfl (fun K hK => ?_); go_simp; refine hK _ ?_; clear hK K
          refine wpQuiet_plain rfl (fun K hK => ?_); go_simp; refine hK _ ?_; clear hK K
          refine wpQuiet_plain rfl (fun K hK => ?_); go_simp; refine hK _ ?_; clear hK K
          refine wpQuiet_plain rfl (fun K hK => ?_); go_simp; refine hK _ ?_; clear hK K
          refine wpQuiet_load rfl 3 (.tmp 95) rfl _ (.int .i64 k.w) rfl (fun y hy => load_num (HCL.out y hy).1) ?_; simp only [Act.put, Array.setIfInBounds, List.size_toArray, List.length_cons, List.length_nil, Nat.reduceAdd, Nat.reduceLT, ↓reduceDIte, List.set_toArray, List.set_cons_succ, List.set_cons_zero]
          refine wpQuiet_plain rfl (fun K hK => ?_); go_simp; refine hK _ ?_; clear hK K
          refine wpQuiet_load rfl 3 (.tmp 97) rfl _ (.int .i64 k.x) rfl (fun y hy => load_num (HCL.out y hy).2.1) ?_; simp only [Act.put, Array.setIfInBounds, List.size_toArray, List.length_cons, List.length_nil, Nat.reduceAdd, Nat.reduceLT, ↓reduceDIte, List.set_toArray, List.set_cons_succ, List.set_cons_zero]
          refine wpQuiet_call rfl 17 #[.pointer (some ⟨g, 0, none⟩), .int .i64 k.w, .int .i64 k.x] (.int .i64 k.m) ?_ (fun y hC => (HHO.out y hC).mono fun e x' h => ⟨h.1, hC.1.later h.2, hC.2.later h.2⟩) ?_; (intro x; go_simp); simp only [Act.put, Array.setIfInBounds, List.size_toArray, List.length_cons, List.length_nil, Nat.reduceAdd, Nat.reduceLT, ↓reduceDIte, List.set_toArray, List.set_cons_succ, List.set_cons_zero]
          refine wpQuiet_plain rfl (fun K hK => ?_); go_simp; refine hK _ ?_; clear hK K
          refine wpQuiet_load rfl 44 (.tmp 100) rfl _ (.int .i64 k.m) rfl (fun y hy => load_mode (HCL.out y hy).2.2.1) ?_; simp only [Act.put, Array.setIfInBounds, List.size_toArray, List.length_cons, List.length_nil, Nat.reduceAdd, Nat.reduceLT, ↓reduceDIte, List.set_toArray, List.set_cons_succ, List.set_cons_zero]
          refine wpQuiet_plain rfl (fun K hK => ?_); go_simp; refine hK _ ?_; clear hK K
          refine wpQuiet_plain rfl (fun K hK => ?_); go_simp; refine hK _ ?_; clear hK K
          refine wpQuiet_nil ?_
          intro y hy
          have HY := hide hy.1
          clear hy HCL HHO HR2
          go_wp2
          go_roundw
          case rel => exact ⟨i + 1, by omega, by go_num, HY⟩
          case measure => simp [intOf]; omega
      · have i1 : ¬ (i : Int) < (l.length : Int) := by omega
        have d3 := HR.out.box.cell 3 (.int .i64 o.m) rfl
        have hs := HST.out
        rw [← HNW.out, ← HMI.out, ← HLQ.out, ← HLQ2.out] at hs
        have hc1 := hs.2.1
        have HC1 := hide (covers12 nw o.m wr)
        rw [hc1] at HC1
        have HC2 := hide (fun y => covers12 nw mi y)
        have HLN := hide hs.2.2.2
        have HOR := hide hs.2.2.1
        have HBE := hide (HS.out.2.1.trans (HR.out.tab.bel.mono HS.out.2.1.size))
        have l1 : ¬ (1 : Int) < (l2.length : Int) - (l.length : Int) := by have := HLN.out; omega
        have l2' : (l2.length : Int) - (l.length : Int) ≤ 1 := by have := HLN.out; omega
        have l3 : (l.length : Int) ≤ (l2.length : Int) := by have := HLN.out; omega
        clear hs hc1 HR
        go_wp2_with fail
        refine HC1.out.mono ?_
        rintro e w8 ⟨rfl, rfl⟩
        by_cases hmi0 : mi = 0
        · have e5 : (mi == 0) = true := by simp [hmi0]
          clear hmi0
          go_wp2
          go_ret
          exact ⟨by simp, HBE.out⟩
        · have e5 : (mi == 0) = false := by simpa using hmi0
          have hcm : cov nw mi = true := by
            rcases HOR.out with h | h
            · exact absurd h hmi0
            · exact h
          rw [hcm] at HC2
          clear hmi0 hcm
          go_wp2_with fail
          refine (HC2.out wr).mono ?_
          rintro e w8 ⟨rfl, rfl⟩
          go_wp2
          go_ret
          exact ⟨by simp, HBE.out⟩
  · have hr1 : (r == 0) = false := by simpa using hr0
    have hr2 : (r != 0) = true := by simpa using hr0
    have hel : l2 = l := by rw [HLQ2.out, HLQ.out]; exact HSTY.out.1 hr0
    subst hel
    have hfine : ∀ k ∈ l2, k.fine := fun k hk => by
      rw [HLQ.out] at hk
      have h1 := H7.out.1.tab.tab.good
      have h2 : k ∈ t2.held := by rw [← HLQ2.out, HLQ.out]; exact hk
      have h3 := h1.ok.hk k (h1.ok.mem_held.1 h2)
      exact fine_of h3.1 h3.2.1 h3.2.2
    have HFI := hide hfine
    clear hfine hr0
    go_wp2
    go_loopw [59] (fun q wr => ∃ i : Nat, i ≤ l2.length ∧ q = .int .i64 i ∧ Hid (Below w7.heap.size w7 wr)) (fun q _ => l2.length - (intOf q).toNat)
    case atStart => exact ⟨0, Nat.zero_le _, rfl, Below.refl _ _⟩
    case round =>
      obtain ⟨i, hi, rfl, HR⟩ := hrel
      by_cases hlt : i < l2.length
      · have i1 : (i : Int) < (l2.length : Int) := by omega
        obtain ⟨k, hk⟩ : ∃ k, l2[i]? = some k := ⟨_, List.getElem?_eq_getElem hlt⟩
        obtain ⟨b, hbe, -⟩ := H7.out.1.own.at hk
        obtain ⟨b2, hbe2, -⟩ := H7.out.2.at hk
        subst hbe hbe2
        have HLA := hide (fun y (hy : Below w7.heap.size w7 y) => show (Instr.loadAt 46 (.pointer (some ⟨b, i * 3, none⟩))).run Try.prog y = .ok (.agg (hdA k)) y ∧ (Instr.loadAt 46 (.pointer (some ⟨b2, i * 3, none⟩))).run Try.prog y = .ok (.agg (hdA k)) y from by
          obtain ⟨b', e', x0, x1, x2⟩ := (H7.out.1.later hy).own.at hk
          obtain ⟨b'', e'', y0, y1, y2⟩ := (H7.out.2.later hy).at hk
          injection e' with e'
          injection e' with e'
          injection e'' with e''
          injection e'' with e''
          subst e' e''
          exact ⟨load_hold x0 x1 x2, load_hold y0 y1 y2⟩)
        have HNE := hide (show ∀ y, (binOp .neq 46 (.agg (hdA k)) (.agg (hdA k))).run Try.prog y = .ok (.bool false) y ∧ ∀ p q, (eqGuard .neq 46 p q (.agg (hdA k)) (.agg (hdA k))).run Try.prog y = .ok () y from fun y => by
          have h := neq_hold k k (HFI.out k (List.mem_of_getElem? hk)) (HFI.out k (List.mem_of_getElem? hk)) y
          simp only [decide_true, Bool.not_true] at h
          exact ⟨h, fun p q => hold_guard _ _ _ k k y⟩)
        clear hk
        generalize hdA k = A' at *
        go_wp2_with fail
        refine wp_region_in (fun y => Below w7.heap.size w7 y) (by kernel_rfl) (by kernel_rfl) (HR.out.drew) ?_
        refine wpQuiet_plain rfl (fun K hK => ?_); go_simp; refine hK _ ?_; clear hK K
        refine wpQuiet_plain rfl (fun K hK => ?_); go_simp; refine hK _ ?_; clear hK K
        refine wpQuiet_plain rfl (fun K hK => ?_); go_simp; refine hK _ ?_; clear hK K
        refine wpQuiet_load rfl 46 (.tmp 64) rfl _ (.agg A') rfl (fun y hy => (HLA.out y hy).2) ?_; simp only [Act.put, Array.setIfInBounds, List.size_toArray, List.length_cons, List.length_nil, Nat.reduceAdd, Nat.reduceLT, ↓reduceDIte, List.set_toArray, List.set_cons_succ, List.set_cons_zero]
        refine wpQuiet_plain rfl (fun K hK => ?_); go_simp; refine hK _ ?_; clear hK K
        refine wpQuiet_plain rfl (fun K hK => ?_); go_simp; refine hK _ ?_; clear hK K
        refine wpQuiet_plain rfl (fun K hK => ?_); go_simp; refine hK _ ?_; clear hK K
        refine wpQuiet_load rfl 46 (.tmp 68) rfl _ (.agg A') rfl (fun y hy => (HLA.out y hy).1) ?_; simp only [Act.put, Array.setIfInBounds, List.size_toArray, List.length_cons, List.length_nil, Nat.reduceAdd, Nat.reduceLT, ↓reduceDIte, List.set_toArray, List.set_cons_succ, List.set_cons_zero]
        refine wpQuiet_binop rfl .neq 46 46 (.tmp 65) (.tmp 69) rfl _ _ (.bool false) rfl rfl (fun y => (HNE.out y).2 _ _) (fun y => (HNE.out y).1) ?_; simp only [Act.put, Array.setIfInBounds, List.size_toArray, List.length_cons, List.length_nil, Nat.reduceAdd, Nat.reduceLT, ↓reduceDIte, List.set_toArray, List.set_cons_succ, List.set_cons_zero]
        refine wpQuiet_nil ?_
        intro y hy
        have HY := hide hy
        clear hy HLA HNE HR
        go_wp2
        go_roundw
        case rel => exact ⟨i + 1, by omega, by go_num, HY⟩
        case measure => simp [intOf]; omega
      · have i1 : ¬ (i : Int) < (l2.length : Int) := by omega
        have HBE := hide (HS.out.2.1.trans (((H7.out.1.later HR.out).tab.bel).mono HS.out.2.1.size))
        clear HR
        go_wp2
        go_ret
        exact ⟨rfl, HBE.out⟩
end Go.Proofs.Ytjdabcapphiplaa.lockStays
