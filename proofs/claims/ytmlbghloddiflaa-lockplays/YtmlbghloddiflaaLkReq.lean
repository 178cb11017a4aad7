/-
  The contract of Request.
-/
import Derived.Test.YtmlbghloddiflaaLkTable
namespace Go.Proofs.Ytmlbghloddiflaa
open Go.RowKit
set_option linter.unusedVariables false

theorem args_ok {w x m : Int} (hw : 1 ≤ w ∧ w ≤ 8388607) (hx : 0 ≤ x ∧ x < 288) (hm : rgt m = true) : (whoOk w && thingOk x && rgt m) = true := by
  unfold whoOk thingOk
  simp [hw.1, hw.2, hx.1, hx.2, hm]
theorem cov_zero (m : Int) : cov 0 m = false := by
  have : rgt 0 = false := by decide
  simp [cov, this]
section
variable {t : Tb} {w x m : Int}
theorem req_arg (h : ¬ ((1 ≤ w ∧ w ≤ 8388607) ∧ (0 ≤ x ∧ x < 288) ∧ rgt m = true)) : t.request w x m = (t, 1) := by
  unfold Tb.request Tb.req
  rw [if_neg]
  unfold whoOk thingOk
  simp only [Bool.and_eq_true, decide_eq_true_eq]
  exact fun e => h ⟨e.1.1, e.1.2, e.2⟩
theorem req_wait (ha : (whoOk w && thingOk x && rgt m) = true) {h : Hd} (hw : t.wt w = some h) : t.request w x m = (t, if h = t.asks w x m then 12 else 13) := by
  unfold Tb.request Tb.req
  rw [if_pos ha, hw]
  have e : (h.x = x ∧ h.m = t.want w x m) ↔ h = t.asks w x m := by
    constructor
    · rintro ⟨h1, h2⟩
      have h3 := (wt_some hw).2
      cases h
      simp only at h1 h2 h3
      subst h1 h2 h3
      rfl
    · rintro rfl
      exact ⟨rfl, rfl⟩
  by_cases h1 : h = t.asks w x m
  · simp only [if_pos h1, if_pos (e.2 h1)]
  · simp only [if_neg h1, if_neg (fun q => h1 (e.1 q))]
theorem req_cov (ha : (whoOk w && thingOk x && rgt m) = true) (hw : t.wt w = none) (hc : t.at w x ≠ 0 ∧ cov (t.at w x) m = true) : t.request w x m = (t, 0) := by
  unfold Tb.request Tb.req
  rw [if_pos ha, hw]
  simp only [if_pos hc]
theorem req_give (ha : (whoOk w && thingOk x && rgt m) = true) (hw : t.wt w = none) (hc : ¬ (t.at w x ≠ 0 ∧ cov (t.at w x) m = true)) (hf : t.fits w x (t.want w x m) = true ∧ (t.at w x ≠ 0 ∨ t.que x = [])) : t.request w x m = (t.give (t.asks w x m), 0) := by
  unfold Tb.request Tb.req
  rw [if_pos ha, hw]
  simp only [if_neg hc, if_pos hf]
theorem req_queue (ha : (whoOk w && thingOk x && rgt m) = true) (hw : t.wt w = none) (hc : ¬ (t.at w x ≠ 0 ∧ cov (t.at w x) m = true)) (hf : ¬ (t.fits w x (t.want w x m) = true ∧ (t.at w x ≠ 0 ∨ t.que x = []))) : t.request w x m = if (t.queue (t.asks w x m)).ring w = true then (t, 11) else (t.queue (t.asks w x m), 12) := by
  unfold Tb.request Tb.req
  rw [if_pos ha, hw]
  simp only [if_neg hc, if_neg hf]
end
/-- What a request leaves. -/
def ReqAns (w : World) (g : Nat) (S : Nat → Sl) (t : Tb) (N : Nat) (who x m : Int) (e : Ending) (w' : World) : Prop := e = .returned (.int .i64 (t.request who x m).2) ∧ ∃ p', Aft w g S p' w' ∧ PtOk (t.request who x m).1 p' (N + 1)
theorem ReqAns.same {w w' : World} {g : Nat} {p : Pt} {S : Nat → Sl} {t : Tb} {N : Nat} {who x m r : Int} (h : TAt w g p S) (hp : PtOk t p N) (hb : Below w.heap.size w w') (hr : t.request who x m = (t, r)) : ReqAns w g S t N who x m (.returned (.int .i64 r)) w' := by
  unfold ReqAns
  rw [hr]
  exact ⟨rfl, p, Aft.same h hb, hp.weak (by omega)⟩
section
variable {w : World} {g : Nat} {p : Pt} {S : Nat → Sl}
set_option maxRecDepth 4000 in
set_option maxHeartbeats 1600000 in
theorem request13_arg (h : TAt w g p S) {t : Tb} {N : Nat} (hp : PtOk t p N) (who x m : Int) (hbad : ¬ ((1 ≤ who ∧ who ≤ 8388607) ∧ (0 ≤ x ∧ x < 288) ∧ rgt m = true)) :
    Calls Try.prog 22 #[.pointer (some ⟨g, 0, none⟩), .int .i64 who, .int .i64 x, .int .i64 m] w (ReqAns w g S t N who x m) := by
  have HE := hide (ReqAns.same h hp (Below.refl w.heap.size w) (req_arg (t := t) hbad))
  have HR := hide (right12 m w)
  by_cases hx : 0 ≤ x ∧ x < 288
  · obtain ⟨y, rfl⟩ : ∃ y : Nat, x = (y : Int) := ⟨x.toNat, by omega⟩
    have hy : y < 288 := by omega
    have HA := hide (at13 g w y hy)
    by_cases h1 : who < 1
    · clear h hp hbad hx
      go_enter Try.func22, Try.ntmps22
      go_wp2_with fail
      refine HA.out.mono ?_
      rintro e w1 ⟨rfl, rfl⟩
      go_wp2
      go_ret
      exact HE.out
    · by_cases h2 : 8388607 < who
      · clear h hp hbad hx
        go_enter Try.func22, Try.ntmps22
        go_wp2_with fail
        refine HA.out.mono ?_
        rintro e w1 ⟨rfl, rfl⟩
        go_wp2
        go_ret
        exact HE.out
      · have hm : rgt m = false := by
          cases e : rgt m with
          | false => rfl
          | true => exact absurd ⟨by omega, hx, e⟩ hbad
        rw [hm] at HR
        clear h hp hbad hx hm
        go_enter Try.func22, Try.ntmps22
        go_wp2_with fail
        refine HA.out.mono ?_
        rintro e w1 ⟨rfl, rfl⟩
        go_wp2_with fail
        refine HR.out.mono ?_
        rintro e w1 ⟨rfl, rfl⟩
        go_wp2
        go_ret
        exact HE.out
  · have HA := hide (at13_no (.pointer (some ⟨g, 0, none⟩)) w 288 (.inr ⟨⟨_, rfl⟩, rfl⟩) x hx)
    clear h hp hbad hx
    go_enter Try.func22, Try.ntmps22
    go_wp2_with fail
    refine HA.out.mono ?_
    rintro e w1 ⟨rfl, rfl⟩
    go_wp2
    go_ret
    exact HE.out
/-- The state in which the wanted lock lies in its block. -/
structure Wanted (w : World) (g : Nat) (p : Pt) (S : Nat → Sl) (gw : Nat) (k : Hd) (y : World) : Prop where
  tab : TAt y g p S
  box : RowAt y gw 46 (hdA k)
  bel : Below w.heap.size w y
  new : w.heap.size ≤ gw
theorem Wanted.later {w y z : World} {g : Nat} {p : Pt} {S : Nat → Sl} {gw : Nat} {k : Hd} (h : Wanted w g p S gw k y) (q : Below y.heap.size y z) : Wanted w g p S gw k z := ⟨h.tab.later q, h.box.later q, h.bel.trans (q.mono h.bel.size), h.new⟩
set_option maxRecDepth 8000 in
set_option maxHeartbeats 12800000 in
theorem request13_go (h : TAt w g p S) {t : Tb} {N : Nat} (hp : PtOk t p N) (hN : N + 1 ≤ 3000) (who m : Int) (x : Nat) (hw : 1 ≤ who ∧ who ≤ 8388607) (hx : x < 288) (hm : rgt m = true) :
    Calls Try.prog 22 #[.pointer (some ⟨g, 0, none⟩), .int .i64 who, .int .i64 (x : Int), .int .i64 m] w (ReqAns w g S t N who (x : Int) m) := by
  have H := hide h
  have HP := hide hp
  have hargs := args_ok hw ⟨by omega, by omega⟩ hm (x := (x : Int))
  have HARG := hide hargs
  have HA := hide (at13 g w x hx)
  have HR := hide (right12 m w)
  rw [hm] at HR
  have hlh : ∀ y, y < 288 → (p.had y).length ≤ 1000000 := fun y hy => by have := hp.len y hy; omega
  have hlr : ∀ y, y < 288 → (p.row y).length ≤ 1000000 := fun y hy => by have := hp.len y hy; omega
  have HL := hide (And.intro hlh hlr)
  have hat : atW (p.had x) who = t.at who (x : Int) := hp.rep.at hp.tok hx who
  have HH := hide (holds13 h hx (hp.rep.srt x hx) (hlh x hx) who)
  rw [hat] at HH
  obtain ⟨a, ha⟩ : ∃ a, a = t.at who (x : Int) := ⟨_, rfl⟩
  rw [← ha] at HH
  have HAT := hide ha
  have HM := hide hm
  have hra : rgt a = decide (a ≠ 0) := by
    have := rgt_at (hp.rep.srt x hx) (fun k hk => (hp.tok.hk k ((hp.rep.had x hx k).1 hk).1).2.2) who
    rw [hat, ← ha] at this
    exact this
  have HRA := hide (And.intro (fun y => right12 a y) hra)
  have HBO := hide (fun y => both12 a m y)
  have HCO := hide (fun y => covers12 a m y)
  have h1w : ¬ who < 1 := by omega
  have h2w : ¬ 8388607 < who := by omega
  clear h hp hargs hlh hlr hat ha hm hra hw
  go_enter Try.func22, Try.ntmps22
  go_wp2_with fail
  refine HA.out.mono ?_
  rintro e w1 ⟨rfl, rfl⟩
  go_wp2_with fail
  refine HR.out.mono ?_
  rintro e w1 ⟨rfl, rfl⟩
  go_wp2_with fail
  refine HH.out.mono ?_
  rintro e w1 ⟨rfl, hb1⟩
  have HB1 := hide hb1
  clear hb1 HA HR HH
  go_wp2_with (with_reducible refine stop_at 11 rfl ?_)
  refine unstop10 ?_
  refine lst_run (some 11) rfl rfl (.pointer (some ⟨w1.heap.size, 0, none⟩)) (w1.alloc (.cells zeroH 46)) (by go_simp; rfl) ?_
  simp only [Act.put, Array.setIfInBounds, List.size_toArray, List.length_cons, List.length_nil, Nat.reduceAdd, Nat.reduceLT, ↓reduceDIte, List.set_toArray, List.set_cons_succ, List.set_cons_zero]
  refine wpList_store_part rfl 46 (.tmp 11) (.tmp 38) rfl w1.heap.size 0 46 zeroH (hdA ⟨who, (x : Int), m⟩) rfl rfl (RowAt.new w1 _ _) infoHs (by show 0 + 3 ≤ 3; omega) (hdA_one _) ?_
  intro w2 h21 h22
  rw [partA_all zeroH (hdA ⟨who, (x : Int), m⟩) rfl] at h21
  have b2 : Below w1.heap.size w1 w2 := h22.below ((Below.refl w1.heap.size w1).alloc (Nat.le_refl _) (.cells zeroH 46)) (Nat.le_refl _)
  simp only [Act.put]
  have hb2 : Below w.heap.size w w2 := HB1.out.trans (b2.mono HB1.out.size)
  obtain ⟨gw, hgw⟩ : ∃ gw, gw = w1.heap.size := ⟨_, rfl⟩
  rw [← hgw] at h21 ⊢
  have HW2 := hide (And.intro h21 (And.intro hb2 (show w.heap.size ≤ gw from by rw [hgw]; exact HB1.out.size)))
  clear h21 h22 b2 hb2 hgw HB1
  go_wp2_with fail
  refine (HRA.out.1 w2).mono ?_
  rintro e w3 ⟨rfl, rfl⟩
  rw [HRA.out.2]
  by_cases ha0 : a = 0
  · have e0 : decide (a ≠ 0) = false := by simp [ha0]
    rw [e0]
    obtain ⟨k, hk⟩ : ∃ k : Hd, k = ⟨who, (x : Int), m⟩ := ⟨_, rfl⟩
    have HK := hide (show k = t.asks who (x : Int) m from by
      rw [hk]
      unfold Tb.asks Tb.want
      rw [← HAT.out, if_neg (by simpa using ha0)])
    have HKW := hide (show k.w = who ∧ k.x = (x : Int) from by rw [hk]; exact ⟨rfl, rfl⟩)
    have HZ := hide (show Wanted w g p S gw k w2 from ⟨H.out.later HW2.out.2.1, by rw [hk]; exact HW2.out.1, HW2.out.2.1, HW2.out.2.2⟩)
    have HA0 := hide ha0
    clear hk HW2 e0 ha0
    have HWT := hide (waits13 HZ.out.tab HL.out.2 who)
    go_wp2_with fail
    refine HWT.out.mono ?_
    rintro e w5 ⟨hb5, hcase⟩
    have HZ5 := hide (HZ.out.later hb5)
    clear hb5 HWT HZ
    rcases hcase with ⟨hh, y, hy, hhy, hhw, rfl⟩ | ⟨hno, rfl⟩
    · have hwt : t.wt who = some hh := by
        rw [← hhw]
        exact wt_of HP.out.tok.rone (HP.out.mem hy hhy).1
      have HEQ := hide (And.intro (req_wait HARG.out hwt) (HP.out.fine hy hhy).1)
      clear hhy hhw hwt
      go_wp2_with (with_reducible refine stop_at 12 rfl ?_)
      refine unstop10 ?_
      refine lst_run (some 12) rfl rfl (.pointer (some ⟨w5.heap.size, 0, none⟩)) (w5.alloc (.cells zeroH 46)) (by go_simp; rfl) ?_
      simp only [Act.put, Array.setIfInBounds, List.size_toArray, List.length_cons, List.length_nil, Nat.reduceAdd, Nat.reduceLT, ↓reduceDIte, List.set_toArray, List.set_cons_succ, List.set_cons_zero]
      refine wpList_store_part rfl 46 (.tmp 12) (.tmp 49) rfl w5.heap.size 0 46 zeroH (hdA hh) rfl rfl (RowAt.new w5 _ _) infoHs (by show 0 + 3 ≤ 3; omega) (hdA_one _) ?_
      intro w6 h61 h62
      rw [partA_all zeroH (hdA hh) rfl] at h61
      have b6 : Below w5.heap.size w5 w6 := h62.below ((Below.refl w5.heap.size w5).alloc (Nat.le_refl _) (.cells zeroH 46)) (Nat.le_refl _)
      simp only [Act.put]
      have HZ6 := hide (HZ5.out.later b6)
      obtain ⟨g6, hg6⟩ : ∃ g6, g6 = w5.heap.size := ⟨_, rfl⟩
      rw [← hg6] at h61 ⊢
      have hkf : k.fine := by
        have hwk : rgt (t.want who (x : Int) m) = true := want_rgt HP.out.tok HM.out
        have hka := HARG.out
        simp only [Bool.and_eq_true] at hka
        rw [HK.out]
        exact fine_of hka.1.1 hka.1.2 hwk
      have heq := run_hold_eql hh k HEQ.out.2 hkf
      have HGU := hide (fun op x' y' z => hold_guard op x' y' hh k z)
      have hl1 := load_box h61
      have hl2 := load_box HZ6.out.box
      clear h62 b6 hg6 hkf h61
      go_wp2_with (with_reducible refine stop_at 52 rfl ?_)
      refine unstop10 ?_
      refine lst_load (some 52) (.agg (hdA hh)) rfl rfl 46 (.tmp 12) rfl _ rfl hl1 ?_
      simp only [Act.put, Array.setIfInBounds, List.size_toArray, List.length_cons, List.length_nil, Nat.reduceAdd, Nat.reduceLT, ↓reduceDIte, List.set_toArray, List.set_cons_succ, List.set_cons_zero]
      refine lst_load (some 53) (.agg (hdA k)) rfl rfl 46 (.tmp 11) rfl _ rfl hl2 ?_
      simp only [Act.put, Array.setIfInBounds, List.size_toArray, List.length_cons, List.length_nil, Nat.reduceAdd, Nat.reduceLT, ↓reduceDIte, List.set_toArray, List.set_cons_succ, List.set_cons_zero]
      refine lst_bin (some 54) (.bool (decide (hh = k))) rfl rfl .eql 46 46 (.tmp 52) (.tmp 53) rfl _ _ rfl rfl (HGU.out _ _ _ _) (heq _) ?_
      simp only [Act.put, Array.setIfInBounds, List.size_toArray, List.length_cons, List.length_nil, Nat.reduceAdd, Nat.reduceLT, ↓reduceDIte, List.set_toArray, List.set_cons_succ, List.set_cons_zero]
      clear heq HGU hl1 hl2
      by_cases hek : hh = k
      · have hd : decide (hh = k) = true := by simp [hek]
        rw [hd]
        have HE := hide (ReqAns.same H.out HP.out HZ6.out.bel (HEQ.out.1.trans (by rw [if_pos (hek.trans HK.out)])))
        clear hd hek HZ6 HZ5 HEQ
        go_wp2
        go_ret
        exact HE.out
      · have hd : decide (hh = k) = false := by simp [hek]
        rw [hd]
        have HE := hide (ReqAns.same H.out HP.out HZ6.out.bel (HEQ.out.1.trans (by rw [if_neg (fun e => hek (e.trans HK.out.symm))])))
        clear hd hek HZ6 HZ5 HEQ
        go_wp2
        go_ret
        exact HE.out
    · have hwt : t.wt who = none := by
        cases e : t.wt who with
        | none => rfl
        | some q =>
          obtain ⟨hq, hqw⟩ := wt_some e
          obtain ⟨h1, h2⟩ := thing_nat (HP.out.tok.rk q hq).2.1
          exact absurd hqw (hno q.x.toNat q h1 (by rw [HP.out.rep.row _ h1]; exact mem_que.2 ⟨hq, h2⟩))
      have HWN := hide hwt
      clear hno hwt
      go_wp2_with (with_reducible refine stop_at 12 rfl ?_)
      refine unstop10 ?_
      refine lst_run (some 12) rfl rfl (.pointer (some ⟨w5.heap.size, 0, none⟩)) (w5.alloc (.cells zeroH 46)) (by go_simp; rfl) ?_
      simp only [Act.put, Array.setIfInBounds, List.size_toArray, List.length_cons, List.length_nil, Nat.reduceAdd, Nat.reduceLT, ↓reduceDIte, List.set_toArray, List.set_cons_succ, List.set_cons_zero]
      refine wpList_store_part rfl 46 (.tmp 12) (.tmp 49) rfl w5.heap.size 0 46 zeroH zeroH rfl rfl (RowAt.new w5 _ _) infoHs (by show 0 + 3 ≤ 3; omega) (hdA_one hdZ) ?_
      intro w6 h61 h62
      have b6 : Below w5.heap.size w5 w6 := h62.below ((Below.refl w5.heap.size w5).alloc (Nat.le_refl _) (.cells zeroH 46)) (Nat.le_refl _)
      simp only [Act.put]
      have HZ6 := hide (HZ5.out.later b6)
      obtain ⟨g6, hg6⟩ : ∃ g6, g6 = w5.heap.size := ⟨_, rfl⟩
      rw [← hg6]
      clear h61 h62 b6 hg6 HZ5
      go_wp2_with fail
      refine (HCO.out w6).mono ?_
      rintro e w7 ⟨rfl, rfl⟩
      have HKO := hide (show whoOk k.w = true ∧ thingOk k.x = true ∧ rgt k.m = true from by
        have hwk : rgt (t.want who (x : Int) m) = true := want_rgt HP.out.tok HM.out
        have hka := HARG.out
        simp only [Bool.and_eq_true] at hka
        rw [HK.out]
        exact ⟨hka.1.1, hka.1.2, hwk⟩)
      have hkm : k.m = t.want who (x : Int) m := by rw [HK.out]; rfl
      have HKM := hide hkm
      clear hkm
      cases hcv : cov a m with
      | true =>
        have hane : a ≠ 0 := fun e => by
          rw [e, cov_zero] at hcv
          cases hcv
        have HE := hide (ReqAns.same H.out HP.out HZ6.out.bel (req_cov HARG.out HWN.out (by rw [← HAT.out]; exact ⟨hane, hcv⟩)))
        clear hcv hane
        go_wp2
        go_ret
        exact HE.out
      | false =>
        have HNC := hide (show ¬ (t.at who (x : Int) ≠ 0 ∧ cov (t.at who (x : Int)) m = true) from by
          rw [← HAT.out, hcv]
          simp)
        clear hcv
        have e0 := HZ6.out.box.cell 0 (.int .i64 k.w) rfl
        have e1 := HZ6.out.box.cell 1 (.int .i64 k.x) rfl
        have e2 := HZ6.out.box.cell 2 (.int .i64 k.m) rfl
        have HFT := hide (fits13 HZ6.out.tab hx (HL.out.1 x hx) k)
        unfold hdA at HFT
        have hfe : fitsS (p.had x) k = t.fits who (x : Int) (t.want who (x : Int) m) := by rw [HP.out.rep.fits hx k, HKW.out.1, HKM.out]
        go_wp2_with fail
        refine HFT.out.mono ?_
        rintro e w8 ⟨rfl, hb8⟩
        have HZ8 := hide (HZ6.out.later hb8)
        clear hb8 HFT e0 e1 e2
        cases hf : fitsS (p.had x) k with
        | false =>
          have HREQ := hide (req_queue HARG.out HWN.out HNC.out (by rw [← hfe, hf]; simp))
          clear hfe hf
          have e0 := HZ8.out.box.cell 0 (.int .i64 k.w) rfl
          have e1 := HZ8.out.box.cell 1 (.int .i64 k.x) rfl
          have e2 := HZ8.out.box.cell 2 (.int .i64 k.m) rfl
          have HG := hide (enter13 HZ8.out.tab hx (HP.out.rep.srt x hx) (fun q hq => (HP.out.tok.hk q ((HP.out.rep.had x hx q).1 hq).1).2.2) (HL.out.1 x hx) (HL.out.2 x hx) k)
          unfold hdA at HG
          go_wp2_with fail
          refine HG.out.mono ?_
          rintro e w9 ⟨⟨vv, rfl⟩, hA9⟩
          obtain ⟨S9, hT9, hTn9, hF9, _⟩ := id hA9
          obtain ⟨p9, hp9⟩ : ∃ p9, p9 = p.setRow x (entS (p.had x) (p.row x) k) := ⟨_, rfl⟩
          rw [← hp9] at hT9 hA9
          have hQ9 : PtOk (t.queue k) p9 (N + 1) := by
            rw [hp9]
            exact HP.out.queue hx HKO.out HKW.out.2 (by rw [HKW.out.1]; exact HWN.out)
          have hkr : k ∈ p9.row x := by
            rw [hp9]
            show k ∈ setF p.row x _ x
            rw [setF_same]
            exact ent_mem _ _ _
          have hkt : k ∈ (t.queue k).row := (hQ9.mem hx hkr).1
          have hgw9 : RowAt w9 gw 46 (hdA k) := hTn9.row HZ8.out.box (fun hk => by
            have h1 := HZ8.out.new
            have h2 := H.out.lt hk
            omega)
          have HRI := hide (ring13 hT9 hQ9 hN k hkt)
          unfold hdA at HRI
          have HX9 := hide (And.intro hT9 (And.intro hgw9 (And.intro hQ9 (And.intro hkr (And.intro (Aft1.first HZ8.out.bel hA9) hp9)))))
          have e0 := hgw9.cell 0 (.int .i64 k.w) rfl
          have e1 := hgw9.cell 1 (.int .i64 k.x) rfl
          have e2 := hgw9.cell 2 (.int .i64 k.m) rfl
          have HTF := hide (And.intro hTn9 hF9)
          clear hA9 hT9 hTn9 hF9 hp9 hQ9 hkr hkt hgw9 HG
          go_wp2_with fail
          refine HRI.out.mono ?_
          rintro e w10 ⟨r, rfl, hr, hb10⟩
          have hring : r = (t.queue k).ring who := by
            rw [Bool.eq_iff_iff, hr, reach_iff HX9.out.2.2.1.rep HX9.out.2.2.1.tok, HKW.out.1, Tb.ring_iff]
          have HRR := hide hring
          have hgw10 := HX9.out.2.1.later hb10
          have e0 := hgw10.cell 0 (.int .i64 k.w) rfl
          have e1 := hgw10.cell 1 (.int .i64 k.x) rfl
          have e2 := hgw10.cell 2 (.int .i64 k.m) rfl
          have HB10 := hide hb10
          clear hring hr hb10 hgw10 HRI
          cases r with
          | false =>
            have HE := hide (show ReqAns w g S t N who (x : Int) m (.returned (.int .i64 12)) w10 from by
              unfold ReqAns
              rw [HREQ.out, ← HK.out, ← HRR.out]
              exact ⟨rfl, p9, HX9.out.2.2.2.2.1.aft.later HB10.out, HX9.out.2.2.1⟩)
            go_wp2
            go_ret
            exact HE.out
          | true =>
            obtain ⟨i, hi⟩ := stands_of HX9.out.2.2.2.1
            have hrow9 : p9.row x = entS (p.had x) (p.row x) k := by rw [HX9.out.2.2.2.2.2]; exact setF_same _ _ _
            have hlr9 : (p9.row x).length ≤ 1000000 := by rw [hrow9, ent_len]; have := HP.out.len x hx; omega
            have hlv := leave13 (HX9.out.1.later HB10.out) hx k i (HX9.out.2.2.1.fine hx HX9.out.2.2.2.1).1 (fun q hq => (HX9.out.2.2.1.fine hx hq).1) hi.at' hi.first hlr9
            rw [← away_row (HX9.out.2.2.1.dist hx) i hi.at' rfl, hrow9, ent_away (fun q hq e => wt_none HWN.out q (HP.out.mem hx hq).1 (e.trans HKW.out.1)), HX9.out.2.2.2.2.2, setRow_setRow] at hlv
            have HLV := hide hlv
            unfold hdA at HLV
            clear hlv hi hrow9 hlr9
            go_wp2_with fail
            refine HLV.out.mono ?_
            rintro e w11 ⟨⟨vv, rfl⟩, hA11⟩
            have HE := hide (show ReqAns w g S t N who (x : Int) m (.returned (.int .i64 11)) w11 from by
              unfold ReqAns
              rw [HREQ.out, ← HK.out, ← HRR.out]
              refine ⟨rfl, p, ?_, HP.out.weak (by omega)⟩
              obtain ⟨S11, a1, a2, a3, _⟩ := hA11
              have hT0 : Tn (FT g S) w w9 := (Tn.of_below HZ8.out.bel).then HTF.out.1
              have hF0 : ∀ q, FT g S9 q → FT g S q ∨ w.heap.size ≤ q := fun q hq => by
                rcases HTF.out.2 q hq with h1 | h1
                · exact .inl h1
                · exact .inr (Nat.le_trans HZ8.out.bel.size h1)
              refine ⟨S11, a1, (hT0.later HB10.out).trans a2 hF0, fun q hq => ?_⟩
              rcases a3 q hq with h1 | h1
              · exact hF0 q h1
              · exact .inr (Nat.le_trans hT0.size (Nat.le_trans HB10.out.size h1)))
            clear hA11 e0 e1 e2
            go_wp2
            go_ret
            exact HE.out
        | true =>
          have HFK := hide (show t.fits k.w k.x k.m = true from by rw [HKW.out.2, HKM.out, HKW.out.1, ← hfe]; exact hf)
          go_wp2_with fail
          refine (HRA.out.1 w8).mono ?_
          rintro e w9 ⟨rfl, rfl⟩
          rw [HRA.out.2]
          have er : decide (a ≠ 0) = false := by simp [HA0.out]
          rw [er]
          clear er
          have hrc := HZ8.out.tab.rows hx
          unfold slV at hrc
          by_cases hre : p.row x = []
          · have hnl : (p.row x).length = 0 := by rw [hre]; rfl
            have HREQ := hide (req_give HARG.out HWN.out HNC.out ⟨by rw [← hfe]; exact hf, .inr (by rw [← HP.out.rep.row x hx]; exact hre)⟩)
            rw [hnl] at hrc
            clear hfe hf hre hnl
            have e0 := HZ8.out.box.cell 0 (.int .i64 k.w) rfl
            have e1 := HZ8.out.box.cell 1 (.int .i64 k.x) rfl
            have e2 := HZ8.out.box.cell 2 (.int .i64 k.m) rfl
            have HG := hide (give13 HZ8.out.tab hx (HP.out.rep.srt x hx) (HL.out.1 x hx) k)
            unfold hdA at HG
            go_wp2_with fail
            refine HG.out.mono ?_
            rintro e w9 ⟨⟨vv, rfl⟩, hA9⟩
            have HE := hide (show ReqAns w g S t N who (x : Int) m (.returned (.int .i64 0)) w9 from by
              unfold ReqAns
              rw [HREQ.out, ← HK.out]
              exact ⟨rfl, _, (Aft1.first HZ8.out.bel hA9).aft, HP.out.give hx HKO.out HKW.out.2 HFK.out⟩)
            clear hA9 HG e0 e1 e2
            go_wp2
            go_ret
            exact HE.out
          · have hnl : 0 < (p.row x).length := List.length_pos_iff.2 hre
            have HREQ := hide (req_queue HARG.out HWN.out HNC.out (fun q => by
              rcases q.2 with q2 | q2
              · exact q2 (by rw [← HAT.out]; exact HA0.out)
              · exact hre (by rw [HP.out.rep.row x hx]; exact q2)))
            have hnl2 : (((p.row x).length : Int) == 0) = false := by simp; exact hre
            obtain ⟨nr, hnr⟩ : ∃ nr, nr = (p.row x).length := ⟨_, rfl⟩
            rw [← hnr] at hrc hnl2 hnl
            clear hfe hf hre hnr
            have e0 := HZ8.out.box.cell 0 (.int .i64 k.w) rfl
            have e1 := HZ8.out.box.cell 1 (.int .i64 k.x) rfl
            have e2 := HZ8.out.box.cell 2 (.int .i64 k.m) rfl
            have HG := hide (enter13 HZ8.out.tab hx (HP.out.rep.srt x hx) (fun q hq => (HP.out.tok.hk q ((HP.out.rep.had x hx q).1 hq).1).2.2) (HL.out.1 x hx) (HL.out.2 x hx) k)
            unfold hdA at HG
            go_wp2_with fail
            refine HG.out.mono ?_
            rintro e w9 ⟨⟨vv, rfl⟩, hA9⟩
            obtain ⟨S9, hT9, hTn9, hF9, _⟩ := id hA9
            obtain ⟨p9, hp9⟩ : ∃ p9, p9 = p.setRow x (entS (p.had x) (p.row x) k) := ⟨_, rfl⟩
            rw [← hp9] at hT9 hA9
            have hQ9 : PtOk (t.queue k) p9 (N + 1) := by
              rw [hp9]
              exact HP.out.queue hx HKO.out HKW.out.2 (by rw [HKW.out.1]; exact HWN.out)
            have hkr : k ∈ p9.row x := by
              rw [hp9]
              show k ∈ setF p.row x _ x
              rw [setF_same]
              exact ent_mem _ _ _
            have hkt : k ∈ (t.queue k).row := (hQ9.mem hx hkr).1
            have hgw9 : RowAt w9 gw 46 (hdA k) := hTn9.row HZ8.out.box (fun hk => by
              have h1 := HZ8.out.new
              have h2 := H.out.lt hk
              omega)
            have HRI := hide (ring13 hT9 hQ9 hN k hkt)
            unfold hdA at HRI
            have HX9 := hide (And.intro hT9 (And.intro hgw9 (And.intro hQ9 (And.intro hkr (And.intro (Aft1.first HZ8.out.bel hA9) hp9)))))
            have e0 := hgw9.cell 0 (.int .i64 k.w) rfl
            have e1 := hgw9.cell 1 (.int .i64 k.x) rfl
            have e2 := hgw9.cell 2 (.int .i64 k.m) rfl
            have HTF := hide (And.intro hTn9 hF9)
            clear hA9 hT9 hTn9 hF9 hp9 hQ9 hkr hkt hgw9 HG
            go_wp2_with fail
            refine HRI.out.mono ?_
            rintro e w10 ⟨r, rfl, hr, hb10⟩
            have hring : r = (t.queue k).ring who := by
              rw [Bool.eq_iff_iff, hr, reach_iff HX9.out.2.2.1.rep HX9.out.2.2.1.tok, HKW.out.1, Tb.ring_iff]
            have HRR := hide hring
            have hgw10 := HX9.out.2.1.later hb10
            have e0 := hgw10.cell 0 (.int .i64 k.w) rfl
            have e1 := hgw10.cell 1 (.int .i64 k.x) rfl
            have e2 := hgw10.cell 2 (.int .i64 k.m) rfl
            have HB10 := hide hb10
            clear hring hr hb10 hgw10 HRI
            cases r with
            | false =>
              have HE := hide (show ReqAns w g S t N who (x : Int) m (.returned (.int .i64 12)) w10 from by
                unfold ReqAns
                rw [HREQ.out, ← HK.out, ← HRR.out]
                exact ⟨rfl, p9, HX9.out.2.2.2.2.1.aft.later HB10.out, HX9.out.2.2.1⟩)
              go_wp2
              go_ret
              exact HE.out
            | true =>
              obtain ⟨i, hi⟩ := stands_of HX9.out.2.2.2.1
              have hrow9 : p9.row x = entS (p.had x) (p.row x) k := by rw [HX9.out.2.2.2.2.2]; exact setF_same _ _ _
              have hlr9 : (p9.row x).length ≤ 1000000 := by rw [hrow9, ent_len]; have := HP.out.len x hx; omega
              have hlv := leave13 (HX9.out.1.later HB10.out) hx k i (HX9.out.2.2.1.fine hx HX9.out.2.2.2.1).1 (fun q hq => (HX9.out.2.2.1.fine hx hq).1) hi.at' hi.first hlr9
              rw [← away_row (HX9.out.2.2.1.dist hx) i hi.at' rfl, hrow9, ent_away (fun q hq e => wt_none HWN.out q (HP.out.mem hx hq).1 (e.trans HKW.out.1)), HX9.out.2.2.2.2.2, setRow_setRow] at hlv
              have HLV := hide hlv
              unfold hdA at HLV
              clear hlv hi hrow9 hlr9
              go_wp2_with fail
              refine HLV.out.mono ?_
              rintro e w11 ⟨⟨vv, rfl⟩, hA11⟩
              have HE := hide (show ReqAns w g S t N who (x : Int) m (.returned (.int .i64 11)) w11 from by
                unfold ReqAns
                rw [HREQ.out, ← HK.out, ← HRR.out]
                refine ⟨rfl, p, ?_, HP.out.weak (by omega)⟩
                obtain ⟨S11, a1, a2, a3, _⟩ := hA11
                have hT0 : Tn (FT g S) w w9 := (Tn.of_below HZ8.out.bel).then HTF.out.1
                have hF0 : ∀ q, FT g S9 q → FT g S q ∨ w.heap.size ≤ q := fun q hq => by
                  rcases HTF.out.2 q hq with h1 | h1
                  · exact .inl h1
                  · exact .inr (Nat.le_trans HZ8.out.bel.size h1)
                refine ⟨S11, a1, (hT0.later HB10.out).trans a2 hF0, fun q hq => ?_⟩
                rcases a3 q hq with h1 | h1
                · exact hF0 q h1
                · exact .inr (Nat.le_trans hT0.size (Nat.le_trans HB10.out.size h1)))
              clear hA11 e0 e1 e2
              go_wp2
              go_ret
              exact HE.out
  · have e0 : decide (a ≠ 0) = true := by simp [ha0]
    rw [e0]
    have c2 := HW2.out.1.cell 2 (.int .i64 m) rfl
    have f2 := HW2.out.1.free 2
    go_wp2_with fail
    refine (HBO.out w2).mono ?_
    rintro e w3 ⟨rfl, rfl⟩
    obtain ⟨k, hk⟩ : ∃ k : Hd, k = ⟨who, (x : Int), bth a m⟩ := ⟨_, rfl⟩
    have HK := hide (show k = t.asks who (x : Int) m from by
      rw [hk]
      unfold Tb.asks Tb.want
      rw [← HAT.out, if_pos ha0])
    have HKW := hide (show k.w = who ∧ k.x = (x : Int) from by rw [hk]; exact ⟨rfl, rfl⟩)
    have HZ := hide (show Wanted w g p S gw k (w2.setCell ⟨gw, 2, none⟩ (.int .i64 (bth a m))) from by
      have hb : Below w.heap.size w (w2.setCell ⟨gw, 2, none⟩ (.int .i64 (bth a m))) := HW2.out.2.1.setCell (by exact HW2.out.2.2) _
      refine ⟨H.out.later hb, ?_, hb, HW2.out.2.2⟩
      have h := HW2.out.1.set 2 (.int .i64 (bth a m))
      rw [hk]
      exact h)
    have HA0 := hide ha0
    obtain ⟨bm, hbm⟩ : ∃ bm, bm = bth a m := ⟨_, rfl⟩
    rw [← hbm] at HZ ⊢
    clear hk HW2 e0 ha0 hbm
    go_wp2_with fail
    clear c2 f2
    revert HZ
    generalize w2.setCell ⟨gw, 2, none⟩ (.int .i64 bm) = w2
    intro HZ
    have HWT := hide (waits13 HZ.out.tab HL.out.2 who)
    go_wp2_with fail
    refine HWT.out.mono ?_
    rintro e w5 ⟨hb5, hcase⟩
    have HZ5 := hide (HZ.out.later hb5)
    clear hb5 HWT HZ
    rcases hcase with ⟨hh, y, hy, hhy, hhw, rfl⟩ | ⟨hno, rfl⟩
    · have hwt : t.wt who = some hh := by
        rw [← hhw]
        exact wt_of HP.out.tok.rone (HP.out.mem hy hhy).1
      have HEQ := hide (And.intro (req_wait HARG.out hwt) (HP.out.fine hy hhy).1)
      clear hhy hhw hwt
      go_wp2_with (with_reducible refine stop_at 12 rfl ?_)
      refine unstop10 ?_
      refine lst_run (some 12) rfl rfl (.pointer (some ⟨w5.heap.size, 0, none⟩)) (w5.alloc (.cells zeroH 46)) (by go_simp; rfl) ?_
      simp only [Act.put, Array.setIfInBounds, List.size_toArray, List.length_cons, List.length_nil, Nat.reduceAdd, Nat.reduceLT, ↓reduceDIte, List.set_toArray, List.set_cons_succ, List.set_cons_zero]
      refine wpList_store_part rfl 46 (.tmp 12) (.tmp 49) rfl w5.heap.size 0 46 zeroH (hdA hh) rfl rfl (RowAt.new w5 _ _) infoHs (by show 0 + 3 ≤ 3; omega) (hdA_one _) ?_
      intro w6 h61 h62
      rw [partA_all zeroH (hdA hh) rfl] at h61
      have b6 : Below w5.heap.size w5 w6 := h62.below ((Below.refl w5.heap.size w5).alloc (Nat.le_refl _) (.cells zeroH 46)) (Nat.le_refl _)
      simp only [Act.put]
      have HZ6 := hide (HZ5.out.later b6)
      obtain ⟨g6, hg6⟩ : ∃ g6, g6 = w5.heap.size := ⟨_, rfl⟩
      rw [← hg6] at h61 ⊢
      have hkf : k.fine := by
        have hwk : rgt (t.want who (x : Int) m) = true := want_rgt HP.out.tok HM.out
        have hka := HARG.out
        simp only [Bool.and_eq_true] at hka
        rw [HK.out]
        exact fine_of hka.1.1 hka.1.2 hwk
      have heq := run_hold_eql hh k HEQ.out.2 hkf
      have HGU := hide (fun op x' y' z => hold_guard op x' y' hh k z)
      have hl1 := load_box h61
      have hl2 := load_box HZ6.out.box
      clear h62 b6 hg6 hkf h61
      go_wp2_with (with_reducible refine stop_at 52 rfl ?_)
      refine unstop10 ?_
      refine lst_load (some 52) (.agg (hdA hh)) rfl rfl 46 (.tmp 12) rfl _ rfl hl1 ?_
      simp only [Act.put, Array.setIfInBounds, List.size_toArray, List.length_cons, List.length_nil, Nat.reduceAdd, Nat.reduceLT, ↓reduceDIte, List.set_toArray, List.set_cons_succ, List.set_cons_zero]
      refine lst_load (some 53) (.agg (hdA k)) rfl rfl 46 (.tmp 11) rfl _ rfl hl2 ?_
      simp only [Act.put, Array.setIfInBounds, List.size_toArray, List.length_cons, List.length_nil, Nat.reduceAdd, Nat.reduceLT, ↓reduceDIte, List.set_toArray, List.set_cons_succ, List.set_cons_zero]
      refine lst_bin (some 54) (.bool (decide (hh = k))) rfl rfl .eql 46 46 (.tmp 52) (.tmp 53) rfl _ _ rfl rfl (HGU.out _ _ _ _) (heq _) ?_
      simp only [Act.put, Array.setIfInBounds, List.size_toArray, List.length_cons, List.length_nil, Nat.reduceAdd, Nat.reduceLT, ↓reduceDIte, List.set_toArray, List.set_cons_succ, List.set_cons_zero]
      clear heq HGU hl1 hl2
      by_cases hek : hh = k
      · have hd : decide (hh = k) = true := by simp [hek]
        rw [hd]
        have HE := hide (ReqAns.same H.out HP.out HZ6.out.bel (HEQ.out.1.trans (by rw [if_pos (hek.trans HK.out)])))
        clear hd hek HZ6 HZ5 HEQ
        go_wp2
        go_ret
        exact HE.out
      · have hd : decide (hh = k) = false := by simp [hek]
        rw [hd]
        have HE := hide (ReqAns.same H.out HP.out HZ6.out.bel (HEQ.out.1.trans (by rw [if_neg (fun e => hek (e.trans HK.out.symm))])))
        clear hd hek HZ6 HZ5 HEQ
        go_wp2
        go_ret
        exact HE.out
    · have hwt : t.wt who = none := by
        cases e : t.wt who with
        | none => rfl
        | some q =>
          obtain ⟨hq, hqw⟩ := wt_some e
          obtain ⟨h1, h2⟩ := thing_nat (HP.out.tok.rk q hq).2.1
          exact absurd hqw (hno q.x.toNat q h1 (by rw [HP.out.rep.row _ h1]; exact mem_que.2 ⟨hq, h2⟩))
      have HWN := hide hwt
      clear hno hwt
      go_wp2_with (with_reducible refine stop_at 12 rfl ?_)
      refine unstop10 ?_
      refine lst_run (some 12) rfl rfl (.pointer (some ⟨w5.heap.size, 0, none⟩)) (w5.alloc (.cells zeroH 46)) (by go_simp; rfl) ?_
      simp only [Act.put, Array.setIfInBounds, List.size_toArray, List.length_cons, List.length_nil, Nat.reduceAdd, Nat.reduceLT, ↓reduceDIte, List.set_toArray, List.set_cons_succ, List.set_cons_zero]
      refine wpList_store_part rfl 46 (.tmp 12) (.tmp 49) rfl w5.heap.size 0 46 zeroH zeroH rfl rfl (RowAt.new w5 _ _) infoHs (by show 0 + 3 ≤ 3; omega) (hdA_one hdZ) ?_
      intro w6 h61 h62
      have b6 : Below w5.heap.size w5 w6 := h62.below ((Below.refl w5.heap.size w5).alloc (Nat.le_refl _) (.cells zeroH 46)) (Nat.le_refl _)
      simp only [Act.put]
      have HZ6 := hide (HZ5.out.later b6)
      obtain ⟨g6, hg6⟩ : ∃ g6, g6 = w5.heap.size := ⟨_, rfl⟩
      rw [← hg6]
      clear h61 h62 b6 hg6 HZ5
      go_wp2_with fail
      refine (HCO.out w6).mono ?_
      rintro e w7 ⟨rfl, rfl⟩
      have HKO := hide (show whoOk k.w = true ∧ thingOk k.x = true ∧ rgt k.m = true from by
        have hwk : rgt (t.want who (x : Int) m) = true := want_rgt HP.out.tok HM.out
        have hka := HARG.out
        simp only [Bool.and_eq_true] at hka
        rw [HK.out]
        exact ⟨hka.1.1, hka.1.2, hwk⟩)
      have hkm : k.m = t.want who (x : Int) m := by rw [HK.out]; rfl
      have HKM := hide hkm
      clear hkm
      cases hcv : cov a m with
      | true =>
        have hane : a ≠ 0 := fun e => by
          rw [e, cov_zero] at hcv
          cases hcv
        have HE := hide (ReqAns.same H.out HP.out HZ6.out.bel (req_cov HARG.out HWN.out (by rw [← HAT.out]; exact ⟨hane, hcv⟩)))
        clear hcv hane
        go_wp2
        go_ret
        exact HE.out
      | false =>
        have HNC := hide (show ¬ (t.at who (x : Int) ≠ 0 ∧ cov (t.at who (x : Int)) m = true) from by
          rw [← HAT.out, hcv]
          simp)
        clear hcv
        have e0 := HZ6.out.box.cell 0 (.int .i64 k.w) rfl
        have e1 := HZ6.out.box.cell 1 (.int .i64 k.x) rfl
        have e2 := HZ6.out.box.cell 2 (.int .i64 k.m) rfl
        have HFT := hide (fits13 HZ6.out.tab hx (HL.out.1 x hx) k)
        unfold hdA at HFT
        have hfe : fitsS (p.had x) k = t.fits who (x : Int) (t.want who (x : Int) m) := by rw [HP.out.rep.fits hx k, HKW.out.1, HKM.out]
        go_wp2_with fail
        refine HFT.out.mono ?_
        rintro e w8 ⟨rfl, hb8⟩
        have HZ8 := hide (HZ6.out.later hb8)
        clear hb8 HFT e0 e1 e2
        cases hf : fitsS (p.had x) k with
        | false =>
          have HREQ := hide (req_queue HARG.out HWN.out HNC.out (by rw [← hfe, hf]; simp))
          clear hfe hf
          have e0 := HZ8.out.box.cell 0 (.int .i64 k.w) rfl
          have e1 := HZ8.out.box.cell 1 (.int .i64 k.x) rfl
          have e2 := HZ8.out.box.cell 2 (.int .i64 k.m) rfl
          have HG := hide (enter13 HZ8.out.tab hx (HP.out.rep.srt x hx) (fun q hq => (HP.out.tok.hk q ((HP.out.rep.had x hx q).1 hq).1).2.2) (HL.out.1 x hx) (HL.out.2 x hx) k)
          unfold hdA at HG
          go_wp2_with fail
          refine HG.out.mono ?_
          rintro e w9 ⟨⟨vv, rfl⟩, hA9⟩
          obtain ⟨S9, hT9, hTn9, hF9, _⟩ := id hA9
          obtain ⟨p9, hp9⟩ : ∃ p9, p9 = p.setRow x (entS (p.had x) (p.row x) k) := ⟨_, rfl⟩
          rw [← hp9] at hT9 hA9
          have hQ9 : PtOk (t.queue k) p9 (N + 1) := by
            rw [hp9]
            exact HP.out.queue hx HKO.out HKW.out.2 (by rw [HKW.out.1]; exact HWN.out)
          have hkr : k ∈ p9.row x := by
            rw [hp9]
            show k ∈ setF p.row x _ x
            rw [setF_same]
            exact ent_mem _ _ _
          have hkt : k ∈ (t.queue k).row := (hQ9.mem hx hkr).1
          have hgw9 : RowAt w9 gw 46 (hdA k) := hTn9.row HZ8.out.box (fun hk => by
            have h1 := HZ8.out.new
            have h2 := H.out.lt hk
            omega)
          have HRI := hide (ring13 hT9 hQ9 hN k hkt)
          unfold hdA at HRI
          have HX9 := hide (And.intro hT9 (And.intro hgw9 (And.intro hQ9 (And.intro hkr (And.intro (Aft1.first HZ8.out.bel hA9) hp9)))))
          have e0 := hgw9.cell 0 (.int .i64 k.w) rfl
          have e1 := hgw9.cell 1 (.int .i64 k.x) rfl
          have e2 := hgw9.cell 2 (.int .i64 k.m) rfl
          have HTF := hide (And.intro hTn9 hF9)
          clear hA9 hT9 hTn9 hF9 hp9 hQ9 hkr hkt hgw9 HG
          go_wp2_with fail
          refine HRI.out.mono ?_
          rintro e w10 ⟨r, rfl, hr, hb10⟩
          have hring : r = (t.queue k).ring who := by
            rw [Bool.eq_iff_iff, hr, reach_iff HX9.out.2.2.1.rep HX9.out.2.2.1.tok, HKW.out.1, Tb.ring_iff]
          have HRR := hide hring
          have hgw10 := HX9.out.2.1.later hb10
          have e0 := hgw10.cell 0 (.int .i64 k.w) rfl
          have e1 := hgw10.cell 1 (.int .i64 k.x) rfl
          have e2 := hgw10.cell 2 (.int .i64 k.m) rfl
          have HB10 := hide hb10
          clear hring hr hb10 hgw10 HRI
          cases r with
          | false =>
            have HE := hide (show ReqAns w g S t N who (x : Int) m (.returned (.int .i64 12)) w10 from by
              unfold ReqAns
              rw [HREQ.out, ← HK.out, ← HRR.out]
              exact ⟨rfl, p9, HX9.out.2.2.2.2.1.aft.later HB10.out, HX9.out.2.2.1⟩)
            go_wp2
            go_ret
            exact HE.out
          | true =>
            obtain ⟨i, hi⟩ := stands_of HX9.out.2.2.2.1
            have hrow9 : p9.row x = entS (p.had x) (p.row x) k := by rw [HX9.out.2.2.2.2.2]; exact setF_same _ _ _
            have hlr9 : (p9.row x).length ≤ 1000000 := by rw [hrow9, ent_len]; have := HP.out.len x hx; omega
            have hlv := leave13 (HX9.out.1.later HB10.out) hx k i (HX9.out.2.2.1.fine hx HX9.out.2.2.2.1).1 (fun q hq => (HX9.out.2.2.1.fine hx hq).1) hi.at' hi.first hlr9
            rw [← away_row (HX9.out.2.2.1.dist hx) i hi.at' rfl, hrow9, ent_away (fun q hq e => wt_none HWN.out q (HP.out.mem hx hq).1 (e.trans HKW.out.1)), HX9.out.2.2.2.2.2, setRow_setRow] at hlv
            have HLV := hide hlv
            unfold hdA at HLV
            clear hlv hi hrow9 hlr9
            go_wp2_with fail
            refine HLV.out.mono ?_
            rintro e w11 ⟨⟨vv, rfl⟩, hA11⟩
            have HE := hide (show ReqAns w g S t N who (x : Int) m (.returned (.int .i64 11)) w11 from by
              unfold ReqAns
              rw [HREQ.out, ← HK.out, ← HRR.out]
              refine ⟨rfl, p, ?_, HP.out.weak (by omega)⟩
              obtain ⟨S11, a1, a2, a3, _⟩ := hA11
              have hT0 : Tn (FT g S) w w9 := (Tn.of_below HZ8.out.bel).then HTF.out.1
              have hF0 : ∀ q, FT g S9 q → FT g S q ∨ w.heap.size ≤ q := fun q hq => by
                rcases HTF.out.2 q hq with h1 | h1
                · exact .inl h1
                · exact .inr (Nat.le_trans HZ8.out.bel.size h1)
              refine ⟨S11, a1, (hT0.later HB10.out).trans a2 hF0, fun q hq => ?_⟩
              rcases a3 q hq with h1 | h1
              · exact hF0 q h1
              · exact .inr (Nat.le_trans hT0.size (Nat.le_trans HB10.out.size h1)))
            clear hA11 e0 e1 e2
            go_wp2
            go_ret
            exact HE.out
        | true =>
          have HFK := hide (show t.fits k.w k.x k.m = true from by rw [HKW.out.2, HKM.out, HKW.out.1, ← hfe]; exact hf)
          go_wp2_with fail
          refine (HRA.out.1 w8).mono ?_
          rintro e w9 ⟨rfl, rfl⟩
          rw [HRA.out.2]
          have er : decide (a ≠ 0) = true := by simp [HA0.out]
          rw [er]
          clear er
          have HREQ := hide (req_give HARG.out HWN.out HNC.out ⟨by rw [← hfe]; exact hf, .inl (by rw [← HAT.out]; exact HA0.out)⟩)
          clear hfe hf
          have e0 := HZ8.out.box.cell 0 (.int .i64 k.w) rfl
          have e1 := HZ8.out.box.cell 1 (.int .i64 k.x) rfl
          have e2 := HZ8.out.box.cell 2 (.int .i64 k.m) rfl
          have HG := hide (give13 HZ8.out.tab hx (HP.out.rep.srt x hx) (HL.out.1 x hx) k)
          unfold hdA at HG
          go_wp2_with fail
          refine HG.out.mono ?_
          rintro e w9 ⟨⟨vv, rfl⟩, hA9⟩
          have HE := hide (show ReqAns w g S t N who (x : Int) m (.returned (.int .i64 0)) w9 from by
            unfold ReqAns
            rw [HREQ.out, ← HK.out]
            exact ⟨rfl, _, (Aft1.first HZ8.out.bel hA9).aft, HP.out.give hx HKO.out HKW.out.2 HFK.out⟩)
          clear hA9 HG e0 e1 e2
          go_wp2
          go_ret
          exact HE.out
end
end Go.Proofs.Ytmlbghloddiflaa
