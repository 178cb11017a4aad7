/-
  Texts that lean on one another, one behind the other: each opens with its own remark.
-/
import Derived.WalkKit
import Derived.Test.YtohdmmfmjadipaaK08
import Derived.Test.YtohdmmfmjadipaaK07
import Derived.Test.YtohdmmfmjadipaaK06
import Derived.Test.YtohdmmfmjadipaaK00
import Derived.Test.YtohdmmfmjadipaaK05

/-
  The contract of the document's Next: it calls itself.
-/
namespace Go.Proofs.Ytohdmmfmjadipaa
open Go.RowKit
set_option linter.unusedVariables false

theorem fields15 {x : World} {g : Nat} {m : Rec × Value × Value} (h : RowAt x g 30 (rcF m)) : x.cell? ⟨g, 0, none⟩ = some (.int .i64 m.1.k) ∧ x.cell? ⟨g, 2, none⟩ = some (.int .i64 m.1.t) ∧ x.cell? ⟨g, 3, none⟩ = some (.int .u64 (m.1.p : Int)) ∧ x.cell? ⟨g, 9, none⟩ = some (.int .u64 (m.1.n : Int)) := ⟨h.cell 0 _ rfl, h.cell 2 _ rfl, h.cell 3 _ rfl, h.cell 9 _ rfl⟩
theorem got15 {l : List Rec} {n : Nat} {m : Rec} (hl : Rise 0 l) (h : getT l n = some m) : m ∈ l ∧ m.l = n := by
  rcases getT_cases l n with ⟨h1, _⟩ | ⟨r, h1, h2, h3⟩
  · rw [h1] at h
    cases h
  · rw [h3] at h
    injection h with h
    subst h
    exact ⟨h1, h2⟩
theorem gone15 {l : List Rec} {n : Nat} (h : getT l n = none) : ∀ r ∈ l, r.l ≠ n := by
  rcases getT_cases l n with ⟨_, h1⟩ | ⟨r, _, _, h3⟩
  · exact h1
  · rw [h3] at h
    cases h
set_option maxRecDepth 8000 in
set_option maxHeartbeats 3200000 in
theorem rnext15_step (v : Value) (ms : List (Rec × Value × Value)) (hr : Rise 0 (msR ms)) (n : Nat) (w : World) (h : LogIn w v ms)
    (ih : ∀ (k : Nat) (x : World), k < n → LogIn x v ms → Calls Try.prog 20 #[v, .int .u64 (k : Int)] x fun e w' => e = .returned (.int .u64 (nextT (msR ms) k : Int)) ∧ Below x.heap.size x w') :
    Calls Try.prog 20 #[v, .int .u64 (n : Int)] w fun e w' => e = .returned (.int .u64 (nextT (msR ms) n : Int)) ∧ Below w.heap.size w w' := by
  have HIH := hide ih
  have HR := hide hr
  have HA := hide h
  obtain ⟨q, hq⟩ : ∃ q, q = nextT (msR ms) n := ⟨_, rfl⟩
  have HQ := hide hq
  rw [← hq]
  have HG := hide (rget15 v ms n w h)
  clear h hr ih hq
  go_enter Try.func20, Try.ntmps20
  go_wp2_with fail
  refine HG.out.mono ?_
  rintro e w1 ⟨m, f, rfl, hcase, hfit, hin, hb1⟩
  have hall := all15 hin
  have hb2 : Below w1.heap.size w1 (w1.alloc (.cells zeroA 30)) := (Below.refl _ _).alloc (Nat.le_refl _) _
  have HZ := hide (And.intro (RowAt.new w1 30 zeroA) (hb1.trans (hb2.mono hb1.size)))
  have HC := hide hcase
  have HSZ := hide hb1.size
  clear hcase hfit hin hb1 hb2 HG
  go_wp2_with (refine wpList_store_at rfl 30 (.tmp 5) (.tmp 11) rfl w1.heap.size zeroA (rcF m) rfl rfl HZ.out.1 infoRc rfl hall ?_; intro w2 hr2 hk2 hrow2; refine stop10 ?_)
  have hb2 := hk2 _ _ HZ.out.2 HSZ.out
  have H2 := hide (And.intro hr2 hb2)
  obtain ⟨c0, c2, c3, c9⟩ := fields15 hr2
  clear hr2 hk2 hrow2 hb2 HZ
  refine unstop10 ?_
  cases f with
  | false =>
    go_wp2
    go_ret
    refine ⟨?_, H2.out.2⟩
    rcases HC.out with ⟨h1, _⟩ | ⟨_, h1, _⟩
    · cases h1
    · rw [HQ.out, nextT_none (gone15 h1)]
      rfl
  | true =>
    have hmem : m.1 ∈ msR ms ∧ m.1.l = n := by
      rcases HC.out with ⟨_, h1⟩ | ⟨h1, _⟩
      · exact got15 HR.out h1
      · cases h1
    have hmR := rise_right _ 0 HR.out _ hmem.1
    have HST := hide (show nextT (msR ms) m.1.l = stepT (msR ms) m.1 from nextT_step HR.out hmem.1)
    have hlp := right_prev hmR
    have hln2 := right_next hmR
    rw [hmem.2] at HST hlp hln2
    have HJ := hide hmem.2
    clear hmem hmR
    by_cases k1 : m.1.k = 1
    · go_wp2
      go_ret
      refine ⟨?_, H2.out.2⟩
      rw [HQ.out, HST.out, stepT, if_pos k1, HJ.out]
      rfl
    · by_cases k2 : m.1.k = 2
      · have HN := hide (HIH.out m.1.n w2 hln2 (HA.out.below H2.out.2))
        go_wp2_with fail
        refine HN.out.mono ?_
        rintro e w3 ⟨rfl, hb3⟩
        have HB3 := hide (H2.out.2.trans (hb3.mono H2.out.2.size))
        clear hb3 HN
        go_wp2
        go_ret
        refine ⟨?_, HB3.out⟩
        rw [HQ.out, HST.out, stepT, if_neg k1, if_pos k2]
        rfl
      · have HN := hide (HIH.out m.1.p w2 hlp (HA.out.below H2.out.2))
        go_wp2_with fail
        refine HN.out.mono ?_
        rintro e w3 ⟨rfl, hb3⟩
        have HB3 := hide (H2.out.2.trans (hb3.mono H2.out.2.size))
        clear hb3 HN
        go_wp2
        go_ret
        refine ⟨?_, HB3.out⟩
        rw [HQ.out, HST.out, stepT, if_neg k1, if_neg k2]
        rfl
theorem rnext15 (v : Value) (ms : List (Rec × Value × Value)) (hr : Rise 0 (msR ms)) (n : Nat) (w : World) (h : LogIn w v ms) :
    Calls Try.prog 20 #[v, .int .u64 (n : Int)] w fun e w' => e = .returned (.int .u64 (nextT (msR ms) n : Int)) ∧ Below w.heap.size w w' := by
  induction n using Nat.strongRecOn generalizing w with
  | ind n ih => exact rnext15_step v ms hr n w h (fun k x hk hx => ih k hk x hx)
end Go.Proofs.Ytohdmmfmjadipaa

/-
  The contract of the document's Clr: the record that takes a change back.
-/
namespace Go.Proofs.Ytohdmmfmjadipaa
open Go.RowKit
set_option linter.unusedVariables false

theorem load_chz (y : World) (g : Nat) (m : Rec × Value × Value) (h : RowAt y g 30 (rcF m)) : (Instr.loadAt 26 (.pointer (some ⟨g, 4, none⟩))).run Try.prog y = .ok (.agg (chA m.1.c)) y := by
  have h1 := load_chg y g 0 m (fun j u hu => by rw [Nat.zero_add]; exact h.cell j u (by simpa using hu))
  rwa [Nat.zero_add] at h1
set_option maxRecDepth 8000 in
set_option maxHeartbeats 3200000 in
theorem rclr15 (v : Value) (ms : List (Rec × Value × Value)) (n : Nat) (w : World) (h : LogIn w v ms) (hr : Rise 0 (msR ms)) :
    Calls Try.prog 19 #[v, .int .u64 (n : Int)] w fun e w' => e = .returned (.tuple #[.agg (rcF (clrA (msR ms) n).1), .int .i64 (clrA (msR ms) n).2]) ∧ Below w.heap.size w w' := by
  have hb0 : Below w.heap.size w (w.alloc (.cells zeroA 30)) := (Below.refl _ _).alloc (Nat.le_refl _) _
  obtain ⟨gR, hgR⟩ : ∃ g, g = w.heap.size := ⟨_, rfl⟩
  have H0 : Hid (RowAt (w.alloc (.cells zeroA 30)) gR 30 zeroA ∧ Below w.heap.size w (w.alloc (.cells zeroA 30))) := by
    rw [hgR]
    exact ⟨RowAt.new w _ _, hb0⟩
  clear hb0
  have hall0 : zeroA.all (·.oneCell') = true := by simp [zeroA, Value.oneCell']
  have HG := hide (fun x (hx : Below w.heap.size w x) => rget15 v ms n x (h.below hx))
  have HNX := hide (fun x k (hb : Below w.heap.size w x) => rnext15 v ms hr k x (h.below hb))
  have HR := hide hr
  have HGR := hide hgR
  clear h hr
  obtain ⟨A, hA⟩ : ∃ A, A = clrA (msR ms) n := ⟨_, rfl⟩
  rw [← hA]
  have HA := hide hA
  clear hA
  go_enter Try.func19, Try.ntmps19
  go_wp2_with fail
  rw [← hgR]
  refine gen_calls (fun x => RowAt x gR 30 zeroA ∧ Below w.heap.size w x) H0.out ?_
  intro y HY
  have HYY := hide HY
  clear HY H0 hgR
  refine (HG.out y HYY.out.2).mono ?_
  rintro e w1 ⟨m, f, rfl, hcase, hfit, hin, hb1⟩
  have hall := all15 hin
  have hb2 : Below w1.heap.size w1 (w1.alloc (.cells zeroA 30)) := (Below.refl _ _).alloc (Nat.le_refl _) _
  obtain ⟨gM, hgM⟩ : ∃ g, g = w1.heap.size := ⟨_, rfl⟩
  have HZ : Hid (RowAt (w1.alloc (.cells zeroA 30)) gM 30 zeroA ∧ RowAt (w1.alloc (.cells zeroA 30)) gR 30 zeroA ∧ Below w.heap.size w (w1.alloc (.cells zeroA 30)) ∧ w.heap.size ≤ gM ∧ gR ≠ gM) := by
    have a1 := HYY.out.1.later hb1
    have a2 := HYY.out.2.trans (hb1.mono HYY.out.2.size)
    rw [hgM]
    exact ⟨RowAt.new w1 _ _, a1.later hb2, a2.trans (hb2.mono a2.size), a2.size, Nat.ne_of_lt a1.lt⟩
  have HC := hide hcase
  have HGM := hide hgM
  clear hcase hfit hin hb1 hb2 HG HYY hgM
  go_wp2_with (refine wpList_store_at rfl 30 (.tmp 6) (.tmp 14) rfl gM zeroA (rcF m) ?h1 rfl HZ.out.1 infoRc rfl hall ?_; (case h1 => rw [HGM.out]; rfl); intro w2 hr2 hk2 hrow2; refine stop10 ?_)
  have hb2 := hk2 _ _ HZ.out.2.2.1 HZ.out.2.2.2.1
  have H2 : Hid (RowAt w2 gM 30 (rcF m) ∧ RowAt w2 gR 30 zeroA ∧ Below w.heap.size w w2 ∧ gR ≠ gM) := ⟨hr2, hrow2 gR _ _ HZ.out.2.2.2.2 HZ.out.2.1, hb2, HZ.out.2.2.2.2⟩
  obtain ⟨c0, c2, c3, c9⟩ := fields15 hr2
  clear hr2 hk2 hrow2 hb2 HZ
  rw [HGM.out] at c0 c2 c3 c9
  refine unstop10 ?_
  cases f with
  | false =>
    have HE : Hid (A = (rcZ, 5)) := by
      rcases HC.out with ⟨h1, _⟩ | ⟨_, h1, _⟩
      · cases h1
      · show A = _
        rw [HA.out]
        exact clrA_none (gone15 h1)
    go_wp2_with (refine wpList_store_at rfl 30 (.tmp 4) (.tmp 23) rfl gR zeroA zeroA ?h1 rfl H2.out.2.1 infoRc rfl hall0 ?_; (case h1 => rw [HGR.out]; rfl); intro w4 hr4 hk4 hrow4; refine stop10 ?_)
    have hb4 := hk4 _ _ H2.out.2.2.1 (by rw [HGR.out]; exact Nat.le_refl _)
    have H4 := hide (And.intro hr4 hb4)
    clear hr4 hk4 hrow4 hb4 H2 c0 c2 c3 c9
    refine unstop10 ?_
    go_wp2
    refine bodyPost_ret (res_at rfl _ _ gR _ _ ?hp H4.out.1 Try.underlying30 rfl infoRc) rfl ⟨?_, H4.out.2⟩
    (case hp => rw [HGR.out]; rfl)
    rw [HE.out]
    rfl
  | true =>
    have hmem : m.1 ∈ msR ms ∧ m.1.l = n := by
      rcases HC.out with ⟨_, h1⟩ | ⟨h1, _⟩
      · exact got15 HR.out h1
      · cases h1
    by_cases hk : m.1.k = 1
    · have HE : Hid (A = (clrM (msR ms) m.1, 0)) := by
        show A = _
        rw [HA.out, ← hmem.2]
        exact clrA_yes HR.out hmem.1 hk
      have HI := hide (fun w => rinv_any m.1.c w)
      clear hmem HC
      go_wp2_with (refine wpList_load_val rfl 26 (.tmp 25) rfl _ (.agg (chA m.1.c)) rfl (by rw [← HGM.out]; exact load_chz w2 gM m H2.out.1) ?_)
      refine (HI.out w2).mono ?_
      rintro e w3 ⟨rfl, hb3⟩
      have H3 : Hid (RowAt w3 gM 30 (rcF m) ∧ RowAt w3 gR 30 zeroA ∧ Below w.heap.size w w3 ∧ gR ≠ gM) := ⟨H2.out.1.later hb3, H2.out.2.1.later hb3, H2.out.2.2.1.trans (hb3.mono H2.out.2.2.1.size), H2.out.2.2.2⟩
      clear hb3 H2 HI c0 c2 c3 c9
      obtain ⟨c, hc⟩ : ∃ c, c = invC m.1.c := ⟨_, rfl⟩
      rw [← hc]
      have HCC := hide hc
      clear hc
      have hb4 : Below w3.heap.size w3 (w3.alloc (.cells (chA Ch.zero) 26)) := (Below.refl _ _).alloc (Nat.le_refl _) _
      obtain ⟨gC, hgC⟩ : ∃ g, g = w3.heap.size := ⟨_, rfl⟩
      have HZ : Hid (RowAt (w3.alloc (.cells (chA Ch.zero) 26)) gC 26 (chA Ch.zero) ∧ RowAt (w3.alloc (.cells (chA Ch.zero) 26)) gR 30 zeroA ∧ RowAt (w3.alloc (.cells (chA Ch.zero) 26)) gM 30 (rcF m) ∧ Below w.heap.size w (w3.alloc (.cells (chA Ch.zero) 26)) ∧ w.heap.size ≤ gC) := by
        rw [hgC]
        exact ⟨RowAt.new w3 _ _, H3.out.2.1.later hb4, H3.out.1.later hb4, H3.out.2.2.1.trans (hb4.mono H3.out.2.2.1.size), H3.out.2.2.1.size⟩
      have HGC := hide hgC
      have HNE := hide H3.out.2.2.2
      clear hb4 hgC H3
      go_wp2_with (refine wpList_store_at rfl 26 (.tmp 8) (.tmp 28) rfl gC (chA Ch.zero) (chA c) ?h1 rfl HZ.out.1 infoCh rfl (chA_one _) ?_; (case h1 => rw [HGC.out]; rfl); intro w4 hr4 hk4 hrow4; refine stop10 ?_)
      have hb4 := hk4 _ _ HZ.out.2.2.2.1 HZ.out.2.2.2.2
      have H4 : Hid (RowAt w4 gC 26 (chA c) ∧ RowAt w4 gR 30 zeroA ∧ RowAt w4 gM 30 (rcF m) ∧ Below w.heap.size w w4 ∧ gC ≠ gR) := by
        have hne : gR ≠ gC := fun e => by
          have h1 := HZ.out.1
          rw [← e] at h1
          exact absurd (row_kind h1 HZ.out.2.1) (by decide)
        have hne2 : gM ≠ gC := fun e => by
          have h1 := HZ.out.1
          rw [← e] at h1
          exact absurd (row_kind h1 HZ.out.2.2.1) (by decide)
        exact ⟨hr4, hrow4 gR _ _ hne HZ.out.2.1, hrow4 gM _ _ hne2 HZ.out.2.2.1, hb4, fun e => hne e.symm⟩
      clear hr4 hk4 hrow4 hb4 HZ
      refine unstop10 ?_
      go_wp2_with fail
      rw [← HGC.out, ← HGM.out]
      have HD : Hid (RowAt w4.drew gC 26 (chA c) ∧ RowAt w4.drew gR 30 zeroA ∧ RowAt w4.drew gM 30 (rcF m) ∧ Below w.heap.size w w4.drew) := hide ⟨H4.out.1, H4.out.2.1, H4.out.2.2.1, below_dn H4.out.2.2.2.1 1⟩
      have HGO := hide H4.out.2.2.2.2
      clear H4
      refine wp_region_noPanic ?_
      refine wp_region_held_drew (S := fun z => RowAt z gC 26 (chA c) ∧ RowAt z gM 30 (rcF m)) (by kernel_rfl) (⟨HD.out.1, HD.out.2.2.1⟩) (fun hHeld => ?_)
      refine hand_take 0 (some 30) (.pointer (some ⟨gM, 2, none⟩)) rfl rfl (by kernel_rfl) (by kernel_rfl) (by kernel_rfl) (fun _ _ _ h => h) (Or.inl ⟨by kernel_rfl, fun x hSx => by go_simp⟩) hHeld ?_
      try simp only [Act.put, List.setIfInBounds_toArray, List.set_cons_zero, List.set_cons_succ]
      refine hand_take 1 (some 31) (.int .i64 m.1.t) rfl rfl (by kernel_rfl) (by kernel_rfl) (by kernel_rfl) (fun _ _ _ h => h) (Or.inl ⟨by kernel_rfl, fun x hSx => by have h := (fields15 hSx.2).2.1; go_simp⟩) hHeld ?_
      try simp only [Act.put, List.setIfInBounds_toArray, List.set_cons_zero, List.set_cons_succ]
      refine hand_take 2 (some 32) (.agg #[.int .i64 c.k, .int .i64 c.pg, .int .i64 c.sl, .string c.o, .string c.n]) rfl rfl (by kernel_rfl) (by kernel_rfl) (by kernel_rfl) (fun _ _ _ h => h) (yieldsIf_load_run (by kernel_rfl) 26 _ rfl (.pointer (some ⟨gC, 0, none⟩)) rfl _ (fun x hSx => load_ch15 x gC c hSx.1)) hHeld ?_
      try simp only [Act.put, List.setIfInBounds_toArray, List.set_cons_zero, List.set_cons_succ]
      refine hand_take 3 (some 33) v rfl rfl (by kernel_rfl) (by kernel_rfl) (by kernel_rfl) (fun _ _ _ h => h) (Or.inl ⟨by kernel_rfl, fun x hSx => by go_simp⟩) hHeld ?_
      try simp only [Act.put, List.setIfInBounds_toArray, List.set_cons_zero, List.set_cons_succ]
      refine hand_take 4 (some 34) (.pointer (some ⟨gM, 3, none⟩)) rfl rfl (by kernel_rfl) (by kernel_rfl) (by kernel_rfl) (fun _ _ _ h => h) (Or.inl ⟨by kernel_rfl, fun x hSx => by go_simp⟩) hHeld ?_
      try simp only [Act.put, List.setIfInBounds_toArray, List.set_cons_zero, List.set_cons_succ]
      refine hand_take 5 (some 35) (.int .u64 (m.1.p : Int)) rfl rfl (by kernel_rfl) (by kernel_rfl) (by kernel_rfl) (fun _ _ _ h => h) (Or.inl ⟨by kernel_rfl, fun x hSx => by have h := (fields15 hSx.2).2.2.1; go_simp⟩) hHeld ?_
      try simp only [Act.put, List.setIfInBounds_toArray, List.set_cons_zero, List.set_cons_succ]
      refine hand_one 6 (by kernel_rfl) ?_
      refine hand_call (some 36) rfl rfl rfl 20 #[v, .int .u64 (m.1.p : Int)] ?he ((HNX.out _ m.1.p HD.out.2.2.2).mono ?_)
      (case he => go_simp)
      rintro e w5 ⟨rfl, hb5⟩
      have H5 : Hid (RowAt w5 gC 26 (chA c) ∧ RowAt w5 gR 30 zeroA ∧ RowAt w5 gM 30 (rcF m) ∧ Below w.heap.size w w5) := hide ⟨HD.out.1.later hb5, HD.out.2.1.later hb5, HD.out.2.2.1.later hb5, HD.out.2.2.2.trans (hb5.mono HD.out.2.2.2.size)⟩
      obtain ⟨q, hq⟩ : ∃ q, q = nextT (msR ms) m.1.p := ⟨_, rfl⟩
      rw [← hq]
      have HQ := hide hq
      clear hb5 hq
      refine ⟨_, rfl, ⟨H5.out.1, H5.out.2.2.1⟩, ?_⟩
      try simp only [Act.put, List.setIfInBounds_toArray, List.set_cons_zero, List.set_cons_succ]
      have hHeld := (show RowAt w5 gC 26 (chA c) ∧ RowAt w5 gM 30 (rcF m) from ⟨H5.out.1, H5.out.2.2.1⟩)
      refine hand_take 7 (some 37) (.agg #[.int .i64 2, .int .u64 0, .int .i64 m.1.t, .int .u64 0, .int .i64 c.k, .int .i64 c.pg, .int .i64 c.sl, .string c.o, .string c.n, .int .u64 (q : Int), .int .i64 0, .int .u64 0, .slice none 0 0, .slice none 0 0]) rfl rfl (by kernel_rfl) (by kernel_rfl) (by kernel_rfl) (fun _ _ _ h => h) (Or.inl ⟨by kernel_rfl, fun x hSx => by go_simp⟩) hHeld ?_
      try simp only [Act.put, List.setIfInBounds_toArray, List.set_cons_zero, List.set_cons_succ]
      refine hand_one 8 (by kernel_rfl) ?_
      refine hand_store rfl rfl rfl 30 (.tmp 4) (.tmp 37) rfl gR 0 30 zeroA #[.int .i64 2, .int .u64 0, .int .i64 m.1.t, .int .u64 0, .int .i64 c.k, .int .i64 c.pg, .int .i64 c.sl, .string c.o, .string c.n, .int .u64 (q : Int), .int .i64 0, .int .u64 0, .slice none 0 0, .slice none 0 0] ?hp rfl H5.out.2.1 infoRc (by simp [zeroA]) (by simp [Value.oneCell']) ?_
      (case hp => rw [HGR.out]; rfl)
      intro w6 hr6 ho6
      have hpa := partA_all zeroA #[.int .i64 2, .int .u64 0, .int .i64 m.1.t, .int .u64 0, .int .i64 c.k, .int .i64 c.pg, .int .i64 c.sl, .string c.o, .string c.n, .int .u64 (q : Int), .int .i64 0, .int .u64 0, .slice none 0 0, .slice none 0 0] rfl
      rw [hpa] at hr6
      have H6 : Hid (RowAt w6 gR 30 #[.int .i64 2, .int .u64 0, .int .i64 m.1.t, .int .u64 0, .int .i64 c.k, .int .i64 c.pg, .int .i64 c.sl, .string c.o, .string c.n, .int .u64 (q : Int), .int .i64 0, .int .u64 0, .slice none 0 0, .slice none 0 0] ∧ Below w.heap.size w w6) := hide ⟨hr6, ho6.below H5.out.2.2.2 (by rw [HGR.out]; exact Nat.le_refl _)⟩
      refine ⟨⟨ho6.row H5.out.1 HGO.out, ho6.row H5.out.2.2.1 (fun e => HNE.out e.symm)⟩, ?_⟩
      have hHeld := (show RowAt w6 gC 26 (chA c) ∧ RowAt w6 gM 30 (rcF m) from ⟨ho6.row H5.out.1 HGO.out, ho6.row H5.out.2.2.1 (fun e => HNE.out e.symm)⟩)
      clear hr6 ho6
      try simp only [Act.put, List.setIfInBounds_toArray, List.set_cons_zero, List.set_cons_succ]
      refine hand_take 9 (some 5) (.int .i64 0) rfl rfl (by kernel_rfl) (by kernel_rfl) (by kernel_rfl) (fun _ _ _ h => h) (Or.inl ⟨by kernel_rfl, fun x hSx => by go_simp⟩) hHeld ?_
      try simp only [Act.put, List.setIfInBounds_toArray, List.set_cons_zero, List.set_cons_succ]
      refine wpAnyH_done (by kernel_rfl) ?_ _
      refine NoPanic.normal ?_
      go_wp2
      refine bodyPost_ret (res_at rfl _ _ gR _ _ ?hp H6.out.1 Try.underlying30 rfl infoRc) rfl ⟨?_, H6.out.2⟩
      (case hp => rw [HGR.out]; rfl)
      rw [HE.out, HQ.out, HCC.out]
      rfl
    · have HE : Hid (A = (rcZ, 5)) := by
        show A = _
        rw [HA.out, ← hmem.2]
        exact clrA_no HR.out hmem.1 hk
      clear hmem HC
      go_wp2_with (refine wpList_store_at rfl 30 (.tmp 4) (.tmp 23) rfl gR zeroA zeroA ?h1 rfl H2.out.2.1 infoRc rfl hall0 ?_; (case h1 => rw [HGR.out]; rfl); intro w4 hr4 hk4 hrow4; refine stop10 ?_)
      have hb4 := hk4 _ _ H2.out.2.2.1 (by rw [HGR.out]; exact Nat.le_refl _)
      have H4 := hide (And.intro hr4 hb4)
      clear hr4 hk4 hrow4 hb4 H2 c0 c2 c3 c9
      refine unstop10 ?_
      go_wp2
      refine bodyPost_ret (res_at rfl _ _ gR _ _ ?hp H4.out.1 Try.underlying30 rfl infoRc) rfl ⟨?_, H4.out.2⟩
      (case hp => rw [HGR.out]; rfl)
      rw [HE.out]
      rfl
end Go.Proofs.Ytohdmmfmjadipaa

/-
  The contract of quaysideref15's back.
-/
namespace Go.Proofs.Ytohdmmfmjadipaa
open Go.RowKit
set_option linter.unusedVariables false

theorem cell_below15 {w z : World} {b j : Nat} {v : Value} (h : w.cell? ⟨b, j, none⟩ = some v) (hb : Below w.heap.size w z) : z.cell? ⟨b, j, none⟩ = some v :=
  (World.cell?_of_block (a := ⟨b, j, none⟩) (hb.block b (World.block_lt_of_cell? w _ h))).trans h
theorem clrM_bare (l : List Rec) (r : Rec) : clrM l r = bareM (clrOf l r) := rfl
/-- A node's log, as a walk looks at it. -/
theorem HB.logs {w : World} {B g n : Nat} {F : Nat → Prop} {h : Hs} (H : HB w B g F h) (hn : n < 3) (hl : (h.lg n).length ≤ 900) : ∃ gl a c, w.cell? ⟨g, 0, none⟩ = some (.slice (some ⟨gl, 0, none⟩) 3 3) ∧ w.cell? ⟨gl, n, none⟩ = some (.slice a (h.lg n).length c) ∧ LogIn w (.slice a (h.lg n).length c) (bareMs (h.lg n)) := by
  obtain ⟨x, HX, _⟩ := H
  obtain ⟨a, c, hv⟩ := own_slot15 (HX.lown n hn).1
  refine ⟨x.gl, a, c, HX.blk.cell _ _ HX.cells.c0, by rw [← hv]; exact HX.lrow.cell _ _ (HX.lat n hn), ?_⟩
  rw [← hv]
  exact (HX.lown n hn).log (by omega)
set_option maxRecDepth 8000 in
set_option maxHeartbeats 1600000 in
theorem hback15 (w : World) (B g n i o : Nat) (F : Nat → Prop) (h : Hs) (H : HB w B g F h) (hn : n < 3) (hi : i < 9) (ho : o = 9 + i * 4) (hw : h.few) (hr : Rise 0 (h.lg n)) (hc : ∀ r ∈ h.lg n, r.k = 1 → r.c.pg < 4) (hx : (h.tx i).next ≠ 0 → ∃ r ∈ h.lg n, r.l = (h.tx i).next ∧ r.k = 1) :
    Calls Try.prog 55 #[.pointer (some ⟨g, 0, none⟩), .int .i64 (n : Int), .pointer (some ⟨g, o, none⟩)] w fun e w' => ∃ F', e = .returned (.tuple #[]) ∧ HB w' B g F' (h.back n i) ∧ Aft15 F F' w w' := by
  have HH := hide H
  have HO := hide ho
  have HW := hide hw
  obtain ⟨-, t1, -, t3⟩ := H.tu hi ho
  have i3 : (n : Int) < 3 := by omega
  have HBK : Hid (h.back n i = if (h.tx i).next = 0 ∨ ((h.tx i).st ≠ 1 ∧ (h.tx i).st ≠ 2) then h else (h.turn n i (clrOf (h.lg n) (recAt (h.lg n) (h.tx i).next))).nextIs i (clrOf (h.lg n) (recAt (h.lg n) (h.tx i).next)).n) := rfl
  have HXX := hide hx
  obtain ⟨nx, hnx⟩ : ∃ c, c = (h.tx i).next := ⟨_, rfl⟩
  obtain ⟨st, hst⟩ : ∃ c, c = (h.tx i).st := ⟨_, rfl⟩
  rw [← hnx] at t3 HBK HXX
  rw [← hst] at t1 HBK
  have HR := hide hr
  have HCP := hide hc
  clear H ho hw hx hnx hst hr hc
  by_cases e1 : nx = 0
  · rw [e1] at t3
    go_enter Try.func55, Try.ntmps55
    go_wp2
    refine bodyPost_ret (results_none rfl _ _ _) rfl ⟨F, rfl, ?_, Aft15.refl _ _⟩
    rw [HBK.out, if_pos (.inl e1)]
    exact HH.out
  · have e1a : ((nx : Int) == 0) = false := by simpa using e1
    by_cases e2 : st ≠ 1 ∧ st ≠ 2
    · have e2a : (st != 1) = true := by simpa using e2.1
      have e2b : decide (st = 1) = false := by simpa using e2.1
      have e2c : (st != 2) = true := by simpa using e2.2
      have e2d : decide (st = 2) = false := by simpa using e2.2
      go_enter Try.func55, Try.ntmps55
      go_wp2
      refine bodyPost_ret (results_none rfl _ _ _) rfl ⟨F, rfl, ?_, Aft15.refl _ _⟩
      rw [HBK.out, if_pos (.inr e2)]
      exact HH.out
    · obtain ⟨r, hr1, hr2, hr3⟩ := HXX.out e1
      have hrR := rise_right _ 0 HR.out r hr1
      have hget : recAt (h.lg n) nx = r := by
        unfold recAt
        rw [← hr2, getT_mem HR.out hr1]
        rfl
      have HB3 : Hid (h.back n i = (h.turn n i (clrOf (h.lg n) r)).nextIs i (clrOf (h.lg n) r).n) := by
        show h.back n i = _
        rw [HBK.out, if_neg (fun q => by rcases q with q | q; exact e1 q; exact e2 q), hget]
      have hinv := inv_right r.c (hrR.ch (by omega))
      have HCL : Hid ((clrOf (h.lg n) r).bare ∧ (clrOf (h.lg n) r).c.right ∧ (clrOf (h.lg n) r).c.pg < 4) := by
        refine ⟨clr_bare hrR hr3, hinv.1, ?_⟩
        have h9 := HCP.out r hr1 hr3
        show (invC r.c).pg < 4
        unfold invC
        rw [if_pos (hrR.ch (by omega))]
        exact h9
      obtain ⟨gl, a, c, c0, c1, hlog⟩ := HH.out.logs hn (HW.out.lg n hn)
      have HCR := hide (fun z (hz : Below w.heap.size w z) => rclr15 _ _ nx z (hlog.below hz) (by rw [bareMs_R]; exact HR.out))
      rw [bareMs_R, ← hr2, clrA_yes HR.out hr1 hr3, hr2] at HCR
      have HTU := hide (fun z F' (hz : HB z B g F' h) => hturn15 z B g n i o F' h (clrOf (h.lg n) r) hz hn hi HO.out HCL.out.1 HCL.out.2.1 HCL.out.2.2 (Nat.le_trans (HW.out.ck n hn) (by decide)) (Nat.le_trans (HW.out.pl _ (by have := HCL.out; unfold Rec.page; have := HCL.out.2.1.1; omega)) (by decide)) (HW.out.lg n hn) (HW.out.past _ (by have := HCL.out; unfold Rec.page; have := HCL.out.2.1.1; omega)))
      have hcr0 : rcF (clrM (h.lg n) r) = rcF (bareM (clrOf (h.lg n) r)) := rfl
      rw [hcr0] at HCR
      have HNX : Hid ((rcF (bareM (clrOf (h.lg n) r)))[9]? = some (.int .u64 ((clrOf (h.lg n) r).n : Int))) := rfl
      have hone : (rcF (bareM (clrOf (h.lg n) r))).all (·.oneCell') = true := by simp [rcF, rcA, bareM, Value.oneCell']
      obtain ⟨cr, hcr⟩ : ∃ cr, cr = clrOf (h.lg n) r := ⟨_, rfl⟩
      rw [← hcr] at HCR HTU HNX hone HB3
      obtain ⟨rc, hrc⟩ : ∃ rc, rc = rcF (bareM cr) := ⟨_, rfl⟩
      have hz14 : rc.size = 14 := by rw [hrc]; rfl
      rw [← hrc] at HCR HTU HNX hone
      have hinf : (Try.prog.info? 30).map (·.size) = some rc.size := by rw [hz14]; exact infoRc
      obtain ⟨ll, hll⟩ : ∃ ll, ll = (h.lg n).length := ⟨_, rfl⟩
      rw [← hll] at c1 HCR
      clear hrc hr1 hr2 hr3 hrR hget hinv hlog hcr0 HBK HXX HCP HR HCL hll hcr
      have hst : st = 1 ∨ st = 2 := by omega
      have key : Hid (∀ z F', HB z B g F' h → True) := fun _ _ _ => trivial
      rcases hst with rfl | rfl
      · skip
        go_enter Try.func55, Try.ntmps55
        go_wp2_with fail
        clear t1
        have k0 : ∀ z, Below w.heap.size w z → z.cell? ⟨g, 0, none⟩ = some (.slice (some ⟨gl, 0, none⟩) 3 3) ∧ z.cell? ⟨gl, n, none⟩ = some (.slice a ll c) ∧ z.cell? ⟨g, o + 3, none⟩ = some (.int .u64 (nx : Int)) := fun z hz => ⟨cell_below15 c0 hz, cell_below15 c1 hz, cell_below15 t3 hz⟩
        have HK0 := hide k0
        clear k0 c0 c1 t3
        apply share15 (F := fun g6 a9 c9 z => Hid (HB z B g F h ∧ RowAt z g6 30 rc ∧ Aft15 F F w z ∧ ¬ F g6 ∧ a9 = none ∧ c9 = 0))
        (case h =>
          intro REST
          refine wp_region_noPanic ?_
          refine wp_region_held_drew (S := fun z => z.cell? ⟨g, 0, none⟩ = some (.slice (some ⟨gl, 0, none⟩) 3 3) ∧ z.cell? ⟨gl, n, none⟩ = some (.slice a ll c) ∧ z.cell? ⟨g, o + 3, none⟩ = some (.int .u64 (nx : Int))) (by kernel_rfl) (HK0.out _ (below_drew (Below.refl _ _))) (fun hHeld => ?_)
          refine hand_take 0 (some 28) (.pointer (some ⟨g, 0, none⟩)) rfl rfl (by kernel_rfl) (by kernel_rfl) (by kernel_rfl) (fun _ _ _ h => h) (Or.inl ⟨by kernel_rfl, fun x' hSx => by go_simp⟩) hHeld ?_
          try simp only [Act.put, List.setIfInBounds_toArray, List.set_cons_zero, List.set_cons_succ]
          refine hand_take 1 (some 29) (.pointer (some ⟨g, 0, none⟩)) rfl rfl (by kernel_rfl) (by kernel_rfl) (by kernel_rfl) (fun _ _ _ h => h) (Or.inl ⟨by kernel_rfl, fun x' hSx => by go_simp⟩) hHeld ?_
          try simp only [Act.put, List.setIfInBounds_toArray, List.set_cons_zero, List.set_cons_succ]
          refine hand_take 2 (some 30) (.pointer (some ⟨g, 0, none⟩)) rfl rfl (by kernel_rfl) (by kernel_rfl) (by kernel_rfl) (fun _ _ _ h => h) (Or.inl ⟨by kernel_rfl, fun x' hSx => by go_simp⟩) hHeld ?_
          try simp only [Act.put, List.setIfInBounds_toArray, List.set_cons_zero, List.set_cons_succ]
          refine hand_take 3 (some 31) (.slice (some ⟨gl, 0, none⟩) 3 3) rfl rfl (by kernel_rfl) (by kernel_rfl) (by kernel_rfl) (fun _ _ _ h => h) (Or.inl ⟨by kernel_rfl, fun x' hSx => by have h := hSx.1; go_simp⟩) hHeld ?_
          try simp only [Act.put, List.setIfInBounds_toArray, List.set_cons_zero, List.set_cons_succ]
          refine hand_take 4 (some 32) (.int .i64 (n : Int)) rfl rfl (by kernel_rfl) (by kernel_rfl) (by kernel_rfl) (fun _ _ _ h => h) (Or.inl ⟨by kernel_rfl, fun x' hSx => by go_simp⟩) hHeld ?_
          try simp only [Act.put, List.setIfInBounds_toArray, List.set_cons_zero, List.set_cons_succ]
          refine hand_take 5 (some 33) (.pointer (some ⟨gl, n, none⟩)) rfl rfl (by kernel_rfl) (by kernel_rfl) (by kernel_rfl) (fun _ _ _ h => h) (Or.inl ⟨by kernel_rfl, fun x' hSx => by go_simp⟩) hHeld ?_
          try simp only [Act.put, List.setIfInBounds_toArray, List.set_cons_zero, List.set_cons_succ]
          refine hand_take 6 (some 34) (.slice a ll c) rfl rfl (by kernel_rfl) (by kernel_rfl) (by kernel_rfl) (fun _ _ _ h => h) (Or.inl ⟨by kernel_rfl, fun x' hSx => by have h := hSx.2.1; go_simp⟩) hHeld ?_
          try simp only [Act.put, List.setIfInBounds_toArray, List.set_cons_zero, List.set_cons_succ]
          refine hand_take 7 (some 35) (.pointer (some ⟨g, o, none⟩)) rfl rfl (by kernel_rfl) (by kernel_rfl) (by kernel_rfl) (fun _ _ _ h => h) (Or.inl ⟨by kernel_rfl, fun x' hSx => by go_simp⟩) hHeld ?_
          try simp only [Act.put, List.setIfInBounds_toArray, List.set_cons_zero, List.set_cons_succ]
          refine hand_take 8 (some 36) (.pointer (some ⟨g, o, none⟩)) rfl rfl (by kernel_rfl) (by kernel_rfl) (by kernel_rfl) (fun _ _ _ h => h) (Or.inl ⟨by kernel_rfl, fun x' hSx => by go_simp⟩) hHeld ?_
          try simp only [Act.put, List.setIfInBounds_toArray, List.set_cons_zero, List.set_cons_succ]
          refine hand_take 9 (some 37) (.pointer (some ⟨g, o + 3, none⟩)) rfl rfl (by kernel_rfl) (by kernel_rfl) (by kernel_rfl) (fun _ _ _ h => h) (Or.inl ⟨by kernel_rfl, fun x' hSx => by go_simp⟩) hHeld ?_
          try simp only [Act.put, List.setIfInBounds_toArray, List.set_cons_zero, List.set_cons_succ]
          refine hand_take 10 (some 38) (.int .u64 (nx : Int)) rfl rfl (by kernel_rfl) (by kernel_rfl) (by kernel_rfl) (fun _ _ _ h => h) (Or.inl ⟨by kernel_rfl, fun x' hSx => by have h := hSx.2.2; go_simp⟩) hHeld ?_
          try simp only [Act.put, List.setIfInBounds_toArray, List.set_cons_zero, List.set_cons_succ]
          refine hand_two 11 15 (by kernel_rfl) ?_ ?_
          · skip
            refine hand_call (some 39) rfl rfl rfl 19 #[.slice a ll c, .int .u64 (nx : Int)] ?he ((HCR.out w.drew (below_drew (Below.refl _ _))).mono ?_)
            (case he => go_simp)
            rintro e z1 ⟨rfl, hb1⟩
            have B1 : Below w.heap.size w z1 := (below_drew (Below.refl w.heap.size w)).trans hb1
            refine ⟨_, rfl, HK0.out _ B1, ?_⟩
            try simp only [Act.put, List.setIfInBounds_toArray, List.set_cons_zero, List.set_cons_succ]
            have hHeld := HK0.out _ B1
            refine hand_take 12 (some 27) (.tuple #[.agg rc, .int .i64 0]) rfl rfl (by kernel_rfl) (by kernel_rfl) (by kernel_rfl) (fun _ _ _ h => h) (Or.inl ⟨by kernel_rfl, fun x' hSx => by go_simp⟩) hHeld ?_
            try simp only [Act.put, List.setIfInBounds_toArray, List.set_cons_zero, List.set_cons_succ]
            refine hand_take 13 (some 40) (.agg rc) rfl rfl (by kernel_rfl) (by kernel_rfl) (by kernel_rfl) (fun _ _ _ h => h) (Or.inl ⟨by kernel_rfl, fun x' hSx => by go_simp⟩) hHeld ?_
            try simp only [Act.put, List.setIfInBounds_toArray, List.set_cons_zero, List.set_cons_succ]
            refine hand_take 14 (some 41) (.int .i64 0) rfl rfl (by kernel_rfl) (by kernel_rfl) (by kernel_rfl) (fun _ _ _ h => h) (Or.inl ⟨by kernel_rfl, fun x' hSx => by go_simp⟩) hHeld ?_
            try simp only [Act.put, List.setIfInBounds_toArray, List.set_cons_zero, List.set_cons_succ]
            refine hand_one 15 (by kernel_rfl) ?_
            obtain ⟨g6, hg6⟩ : ∃ k, k = z1.heap.size := ⟨_, rfl⟩
            have hb2 : Below z1.heap.size z1 (z1.alloc (.cells #[.int .i64 0, .int .u64 0, .int .i64 0, .int .u64 0, .int .i64 0, .int .i64 0, .int .i64 0, .string ⟨#[]⟩, .string ⟨#[]⟩, .int .u64 0, .int .i64 0, .int .u64 0, .slice none 0 0, .slice none 0 0] 30)) := (Below.refl _ _).alloc (Nat.le_refl _) _
            refine hand_run (some 6) rfl rfl rfl (.pointer (some ⟨g6, 0, none⟩)) (z1.alloc (.cells #[.int .i64 0, .int .u64 0, .int .i64 0, .int .u64 0, .int .i64 0, .int .i64 0, .int .i64 0, .string ⟨#[]⟩, .string ⟨#[]⟩, .int .u64 0, .int .i64 0, .int .u64 0, .slice none 0 0, .slice none 0 0] 30)) ?hz ?_
            (case hz => rw [hg6]; go_simp)
            have B2 := B1.trans (hb2.mono B1.size)
            have N2 : RowAt (z1.alloc (.cells #[.int .i64 0, .int .u64 0, .int .i64 0, .int .u64 0, .int .i64 0, .int .i64 0, .int .i64 0, .string ⟨#[]⟩, .string ⟨#[]⟩, .int .u64 0, .int .i64 0, .int .u64 0, .slice none 0 0, .slice none 0 0] 30)) g6 30 #[.int .i64 0, .int .u64 0, .int .i64 0, .int .u64 0, .int .i64 0, .int .i64 0, .int .i64 0, .string ⟨#[]⟩, .string ⟨#[]⟩, .int .u64 0, .int .i64 0, .int .u64 0, .slice none 0 0, .slice none 0 0] := by rw [hg6]; exact RowAt.new z1 _ _
            have L6 : w.heap.size ≤ g6 := by rw [hg6]; exact B1.size
            refine ⟨HK0.out _ B2, ?_⟩
            try simp only [Act.put, List.setIfInBounds_toArray, List.set_cons_zero, List.set_cons_succ]
            refine hand_one 16 (by kernel_rfl) ?_
            refine hand_store rfl rfl rfl 30 (.tmp 6) (.tmp 40) rfl g6 0 30 #[.int .i64 0, .int .u64 0, .int .i64 0, .int .u64 0, .int .i64 0, .int .i64 0, .int .i64 0, .string ⟨#[]⟩, .string ⟨#[]⟩, .int .u64 0, .int .i64 0, .int .u64 0, .slice none 0 0, .slice none 0 0] rc rfl rfl N2 hinf (by rw [hz14]; decide) hone ?_
            intro z3 hr3 ho3
            have hpa := partA_all #[.int .i64 0, .int .u64 0, .int .i64 0, .int .u64 0, .int .i64 0, .int .i64 0, .int .i64 0, .string ⟨#[]⟩, .string ⟨#[]⟩, .int .u64 0, .int .i64 0, .int .u64 0, .slice none 0 0, .slice none 0 0] rc (by rw [hz14]; rfl)
            rw [hpa] at hr3
            have B3 : Below w.heap.size w z3 := ho3.below B2 L6
            refine ⟨HK0.out _ B3, ?_⟩
            try simp only [Act.put, List.setIfInBounds_toArray, List.set_cons_zero, List.set_cons_succ]
            have hHeld := HK0.out _ B3
            refine hand_take 17 (some 7) (.int .i64 0) rfl rfl (by kernel_rfl) (by kernel_rfl) (by kernel_rfl) (fun _ _ _ h => h) (Or.inl ⟨by kernel_rfl, fun x' hSx => by go_simp⟩) hHeld ?_
            try simp only [Act.put, List.setIfInBounds_toArray, List.set_cons_zero, List.set_cons_succ]
            refine wpAnyH_done (by kernel_rfl) ?_ _
            refine NoPanic.normal ?_
            obtain ⟨a9, ha9⟩ : ∃ a9 : Option Addr, a9 = none := ⟨_, rfl⟩
            obtain ⟨c9, hc9⟩ : ∃ c9 : Nat, c9 = 0 := ⟨_, rfl⟩
            exact REST g6 a9 c9 z3 ⟨HH.out.later B3, hr3, Aft15.first B3 (Aft15.refl _ _), fun hk => by have := (HH.out.here hk).2; omega, ha9, hc9⟩
          · skip
            obtain ⟨g6, hg6⟩ : ∃ k, k = w.drew.heap.size := ⟨_, rfl⟩
            have hb2 : Below w.drew.heap.size w.drew (w.drew.alloc (.cells #[.int .i64 0, .int .u64 0, .int .i64 0, .int .u64 0, .int .i64 0, .int .i64 0, .int .i64 0, .string ⟨#[]⟩, .string ⟨#[]⟩, .int .u64 0, .int .i64 0, .int .u64 0, .slice none 0 0, .slice none 0 0] 30)) := (Below.refl _ _).alloc (Nat.le_refl _) _
            refine hand_run (some 6) rfl rfl rfl (.pointer (some ⟨g6, 0, none⟩)) (w.drew.alloc (.cells #[.int .i64 0, .int .u64 0, .int .i64 0, .int .u64 0, .int .i64 0, .int .i64 0, .int .i64 0, .string ⟨#[]⟩, .string ⟨#[]⟩, .int .u64 0, .int .i64 0, .int .u64 0, .slice none 0 0, .slice none 0 0] 30)) ?hz ?_
            (case hz => rw [hg6]; go_simp)
            have B1 : Below w.heap.size w (w.drew.alloc (.cells #[.int .i64 0, .int .u64 0, .int .i64 0, .int .u64 0, .int .i64 0, .int .i64 0, .int .i64 0, .string ⟨#[]⟩, .string ⟨#[]⟩, .int .u64 0, .int .i64 0, .int .u64 0, .slice none 0 0, .slice none 0 0] 30)) := (below_drew (Below.refl w.heap.size w)).trans hb2
            have N1 : RowAt (w.drew.alloc (.cells #[.int .i64 0, .int .u64 0, .int .i64 0, .int .u64 0, .int .i64 0, .int .i64 0, .int .i64 0, .string ⟨#[]⟩, .string ⟨#[]⟩, .int .u64 0, .int .i64 0, .int .u64 0, .slice none 0 0, .slice none 0 0] 30)) g6 30 #[.int .i64 0, .int .u64 0, .int .i64 0, .int .u64 0, .int .i64 0, .int .i64 0, .int .i64 0, .string ⟨#[]⟩, .string ⟨#[]⟩, .int .u64 0, .int .i64 0, .int .u64 0, .slice none 0 0, .slice none 0 0] := by rw [hg6]; exact RowAt.new w.drew _ _
            have L6 : w.heap.size ≤ g6 := by rw [hg6]; exact Nat.le_refl _
            refine ⟨HK0.out _ B1, ?_⟩
            try simp only [Act.put, List.setIfInBounds_toArray, List.set_cons_zero, List.set_cons_succ]
            refine hand_one 11 (by kernel_rfl) ?_
            refine hand_call (some 39) rfl rfl rfl 19 #[.slice a ll c, .int .u64 (nx : Int)] ?he ((HCR.out _ B1).mono ?_)
            (case he => go_simp)
            rintro e z1 ⟨rfl, hb1⟩
            have B2 := B1.trans (hb1.mono B1.size)
            have N2 := N1.later hb1
            refine ⟨_, rfl, HK0.out _ B2, ?_⟩
            try simp only [Act.put, List.setIfInBounds_toArray, List.set_cons_zero, List.set_cons_succ]
            have hHeld := HK0.out _ B2
            refine hand_take 12 (some 27) (.tuple #[.agg rc, .int .i64 0]) rfl rfl (by kernel_rfl) (by kernel_rfl) (by kernel_rfl) (fun _ _ _ h => h) (Or.inl ⟨by kernel_rfl, fun x' hSx => by go_simp⟩) hHeld ?_
            try simp only [Act.put, List.setIfInBounds_toArray, List.set_cons_zero, List.set_cons_succ]
            refine hand_take 13 (some 40) (.agg rc) rfl rfl (by kernel_rfl) (by kernel_rfl) (by kernel_rfl) (fun _ _ _ h => h) (Or.inl ⟨by kernel_rfl, fun x' hSx => by go_simp⟩) hHeld ?_
            try simp only [Act.put, List.setIfInBounds_toArray, List.set_cons_zero, List.set_cons_succ]
            refine hand_take 14 (some 41) (.int .i64 0) rfl rfl (by kernel_rfl) (by kernel_rfl) (by kernel_rfl) (fun _ _ _ h => h) (Or.inl ⟨by kernel_rfl, fun x' hSx => by go_simp⟩) hHeld ?_
            try simp only [Act.put, List.setIfInBounds_toArray, List.set_cons_zero, List.set_cons_succ]
            refine hand_one 16 (by kernel_rfl) ?_
            refine hand_store rfl rfl rfl 30 (.tmp 6) (.tmp 40) rfl g6 0 30 #[.int .i64 0, .int .u64 0, .int .i64 0, .int .u64 0, .int .i64 0, .int .i64 0, .int .i64 0, .string ⟨#[]⟩, .string ⟨#[]⟩, .int .u64 0, .int .i64 0, .int .u64 0, .slice none 0 0, .slice none 0 0] rc rfl rfl N2 hinf (by rw [hz14]; decide) hone ?_
            intro z3 hr3 ho3
            have hpa := partA_all #[.int .i64 0, .int .u64 0, .int .i64 0, .int .u64 0, .int .i64 0, .int .i64 0, .int .i64 0, .string ⟨#[]⟩, .string ⟨#[]⟩, .int .u64 0, .int .i64 0, .int .u64 0, .slice none 0 0, .slice none 0 0] rc (by rw [hz14]; rfl)
            rw [hpa] at hr3
            have B3 : Below w.heap.size w z3 := ho3.below B2 L6
            refine ⟨HK0.out _ B3, ?_⟩
            try simp only [Act.put, List.setIfInBounds_toArray, List.set_cons_zero, List.set_cons_succ]
            have hHeld := HK0.out _ B3
            refine hand_take 17 (some 7) (.int .i64 0) rfl rfl (by kernel_rfl) (by kernel_rfl) (by kernel_rfl) (fun _ _ _ h => h) (Or.inl ⟨by kernel_rfl, fun x' hSx => by go_simp⟩) hHeld ?_
            try simp only [Act.put, List.setIfInBounds_toArray, List.set_cons_zero, List.set_cons_succ]
            refine wpAnyH_done (by kernel_rfl) ?_ _
            refine NoPanic.normal ?_
            obtain ⟨a9, ha9⟩ : ∃ a9 : Option Addr, a9 = none := ⟨_, rfl⟩
            obtain ⟨c9, hc9⟩ : ∃ c9 : Nat, c9 = 0 := ⟨_, rfl⟩
            exact REST g6 a9 c9 z3 ⟨HH.out.later B3, hr3, Aft15.first B3 (Aft15.refl _ _), fun hk => by have := (HH.out.here hk).2; omega, ha9, hc9⟩)
        intro g6 a9 c9 z HZ
        go_wp2_with (with_reducible refine stop_at 45 rfl ?_)
        refine unstop10 ?_
        refine wpList_load_at rfl 30 (.tmp 6) rfl g6 rfl rc HZ.out.2.1 _ Try.underlying30 rfl hinf ?_
        go_wp2_with fail
        refine (HTU.out z F HZ.out.1).mono ?_
        rintro e z2 ⟨F2, rfl, hb2, ha2⟩
        have H2 : Hid (HB z2 B g F2 (h.turn n i cr) ∧ RowAt z2 g6 30 rc ∧ Aft15 F F2 w z2) := ⟨hb2, ha2.row HZ.out.2.1 HZ.out.2.2.2.1, HZ.out.2.2.1.trans ha2⟩
        have c9r := H2.out.2.1.cell 9 _ HNX.out
        have f3 := hb2.free (o + 3)
        have t3 := (hb2.tu hi HO.out).2.2.2
        clear hb2 ha2 HZ HCR HK0 HTU
        obtain ⟨q, hq⟩ : ∃ q, q = cr.n := ⟨_, rfl⟩
        rw [← hq] at c9r HB3
        clear hq HNX
        go_wp2
        have q8 := H2.out.1.cell (h' := (h.turn n i cr).nextIs i q) (o + 3) (.int .u64 (q : Int)) (fun cs a b c H => by rw [HO.out]; exact H.setTx hi _ 3 (by omega) _ rfl (fun k hk he => by
          rcases (show k = 0 ∨ k = 1 ∨ k = 2 ∨ k = 3 by omega) with rfl | rfl | rfl | rfl
          · rfl
          · rfl
          · rfl
          · exact absurd rfl he)) rfl rfl rfl
        refine bodyPost_end (results_none rfl _ _ _) rfl ⟨F2, rfl, ?_, H2.out.2.2.trans q8.2⟩
        rw [HB3.out]
        exact q8.1
      · skip
        go_enter Try.func55, Try.ntmps55
        go_wp2_with fail
        clear t1
        have k0 : ∀ z, Below w.heap.size w z → z.cell? ⟨g, 0, none⟩ = some (.slice (some ⟨gl, 0, none⟩) 3 3) ∧ z.cell? ⟨gl, n, none⟩ = some (.slice a ll c) ∧ z.cell? ⟨g, o + 3, none⟩ = some (.int .u64 (nx : Int)) := fun z hz => ⟨cell_below15 c0 hz, cell_below15 c1 hz, cell_below15 t3 hz⟩
        have HK0 := hide k0
        clear k0 c0 c1 t3
        apply share15 (F := fun g6 a9 c9 z => Hid (HB z B g F h ∧ RowAt z g6 30 rc ∧ Aft15 F F w z ∧ ¬ F g6 ∧ a9 = none ∧ c9 = 0))
        (case h =>
          intro REST
          refine wp_region_noPanic ?_
          refine wp_region_held_drew (S := fun z => z.cell? ⟨g, 0, none⟩ = some (.slice (some ⟨gl, 0, none⟩) 3 3) ∧ z.cell? ⟨gl, n, none⟩ = some (.slice a ll c) ∧ z.cell? ⟨g, o + 3, none⟩ = some (.int .u64 (nx : Int))) (by kernel_rfl) (HK0.out _ (below_drew (Below.refl _ _))) (fun hHeld => ?_)
          refine hand_take 0 (some 28) (.pointer (some ⟨g, 0, none⟩)) rfl rfl (by kernel_rfl) (by kernel_rfl) (by kernel_rfl) (fun _ _ _ h => h) (Or.inl ⟨by kernel_rfl, fun x' hSx => by go_simp⟩) hHeld ?_
          try simp only [Act.put, List.setIfInBounds_toArray, List.set_cons_zero, List.set_cons_succ]
          refine hand_take 1 (some 29) (.pointer (some ⟨g, 0, none⟩)) rfl rfl (by kernel_rfl) (by kernel_rfl) (by kernel_rfl) (fun _ _ _ h => h) (Or.inl ⟨by kernel_rfl, fun x' hSx => by go_simp⟩) hHeld ?_
          try simp only [Act.put, List.setIfInBounds_toArray, List.set_cons_zero, List.set_cons_succ]
          refine hand_take 2 (some 30) (.pointer (some ⟨g, 0, none⟩)) rfl rfl (by kernel_rfl) (by kernel_rfl) (by kernel_rfl) (fun _ _ _ h => h) (Or.inl ⟨by kernel_rfl, fun x' hSx => by go_simp⟩) hHeld ?_
          try simp only [Act.put, List.setIfInBounds_toArray, List.set_cons_zero, List.set_cons_succ]
          refine hand_take 3 (some 31) (.slice (some ⟨gl, 0, none⟩) 3 3) rfl rfl (by kernel_rfl) (by kernel_rfl) (by kernel_rfl) (fun _ _ _ h => h) (Or.inl ⟨by kernel_rfl, fun x' hSx => by have h := hSx.1; go_simp⟩) hHeld ?_
          try simp only [Act.put, List.setIfInBounds_toArray, List.set_cons_zero, List.set_cons_succ]
          refine hand_take 4 (some 32) (.int .i64 (n : Int)) rfl rfl (by kernel_rfl) (by kernel_rfl) (by kernel_rfl) (fun _ _ _ h => h) (Or.inl ⟨by kernel_rfl, fun x' hSx => by go_simp⟩) hHeld ?_
          try simp only [Act.put, List.setIfInBounds_toArray, List.set_cons_zero, List.set_cons_succ]
          refine hand_take 5 (some 33) (.pointer (some ⟨gl, n, none⟩)) rfl rfl (by kernel_rfl) (by kernel_rfl) (by kernel_rfl) (fun _ _ _ h => h) (Or.inl ⟨by kernel_rfl, fun x' hSx => by go_simp⟩) hHeld ?_
          try simp only [Act.put, List.setIfInBounds_toArray, List.set_cons_zero, List.set_cons_succ]
          refine hand_take 6 (some 34) (.slice a ll c) rfl rfl (by kernel_rfl) (by kernel_rfl) (by kernel_rfl) (fun _ _ _ h => h) (Or.inl ⟨by kernel_rfl, fun x' hSx => by have h := hSx.2.1; go_simp⟩) hHeld ?_
          try simp only [Act.put, List.setIfInBounds_toArray, List.set_cons_zero, List.set_cons_succ]
          refine hand_take 7 (some 35) (.pointer (some ⟨g, o, none⟩)) rfl rfl (by kernel_rfl) (by kernel_rfl) (by kernel_rfl) (fun _ _ _ h => h) (Or.inl ⟨by kernel_rfl, fun x' hSx => by go_simp⟩) hHeld ?_
          try simp only [Act.put, List.setIfInBounds_toArray, List.set_cons_zero, List.set_cons_succ]
          refine hand_take 8 (some 36) (.pointer (some ⟨g, o, none⟩)) rfl rfl (by kernel_rfl) (by kernel_rfl) (by kernel_rfl) (fun _ _ _ h => h) (Or.inl ⟨by kernel_rfl, fun x' hSx => by go_simp⟩) hHeld ?_
          try simp only [Act.put, List.setIfInBounds_toArray, List.set_cons_zero, List.set_cons_succ]
          refine hand_take 9 (some 37) (.pointer (some ⟨g, o + 3, none⟩)) rfl rfl (by kernel_rfl) (by kernel_rfl) (by kernel_rfl) (fun _ _ _ h => h) (Or.inl ⟨by kernel_rfl, fun x' hSx => by go_simp⟩) hHeld ?_
          try simp only [Act.put, List.setIfInBounds_toArray, List.set_cons_zero, List.set_cons_succ]
          refine hand_take 10 (some 38) (.int .u64 (nx : Int)) rfl rfl (by kernel_rfl) (by kernel_rfl) (by kernel_rfl) (fun _ _ _ h => h) (Or.inl ⟨by kernel_rfl, fun x' hSx => by have h := hSx.2.2; go_simp⟩) hHeld ?_
          try simp only [Act.put, List.setIfInBounds_toArray, List.set_cons_zero, List.set_cons_succ]
          refine hand_two 11 15 (by kernel_rfl) ?_ ?_
          · skip
            refine hand_call (some 39) rfl rfl rfl 19 #[.slice a ll c, .int .u64 (nx : Int)] ?he ((HCR.out w.drew (below_drew (Below.refl _ _))).mono ?_)
            (case he => go_simp)
            rintro e z1 ⟨rfl, hb1⟩
            have B1 : Below w.heap.size w z1 := (below_drew (Below.refl w.heap.size w)).trans hb1
            refine ⟨_, rfl, HK0.out _ B1, ?_⟩
            try simp only [Act.put, List.setIfInBounds_toArray, List.set_cons_zero, List.set_cons_succ]
            have hHeld := HK0.out _ B1
            refine hand_take 12 (some 27) (.tuple #[.agg rc, .int .i64 0]) rfl rfl (by kernel_rfl) (by kernel_rfl) (by kernel_rfl) (fun _ _ _ h => h) (Or.inl ⟨by kernel_rfl, fun x' hSx => by go_simp⟩) hHeld ?_
            try simp only [Act.put, List.setIfInBounds_toArray, List.set_cons_zero, List.set_cons_succ]
            refine hand_take 13 (some 40) (.agg rc) rfl rfl (by kernel_rfl) (by kernel_rfl) (by kernel_rfl) (fun _ _ _ h => h) (Or.inl ⟨by kernel_rfl, fun x' hSx => by go_simp⟩) hHeld ?_
            try simp only [Act.put, List.setIfInBounds_toArray, List.set_cons_zero, List.set_cons_succ]
            refine hand_take 14 (some 41) (.int .i64 0) rfl rfl (by kernel_rfl) (by kernel_rfl) (by kernel_rfl) (fun _ _ _ h => h) (Or.inl ⟨by kernel_rfl, fun x' hSx => by go_simp⟩) hHeld ?_
            try simp only [Act.put, List.setIfInBounds_toArray, List.set_cons_zero, List.set_cons_succ]
            refine hand_one 15 (by kernel_rfl) ?_
            obtain ⟨g6, hg6⟩ : ∃ k, k = z1.heap.size := ⟨_, rfl⟩
            have hb2 : Below z1.heap.size z1 (z1.alloc (.cells #[.int .i64 0, .int .u64 0, .int .i64 0, .int .u64 0, .int .i64 0, .int .i64 0, .int .i64 0, .string ⟨#[]⟩, .string ⟨#[]⟩, .int .u64 0, .int .i64 0, .int .u64 0, .slice none 0 0, .slice none 0 0] 30)) := (Below.refl _ _).alloc (Nat.le_refl _) _
            refine hand_run (some 6) rfl rfl rfl (.pointer (some ⟨g6, 0, none⟩)) (z1.alloc (.cells #[.int .i64 0, .int .u64 0, .int .i64 0, .int .u64 0, .int .i64 0, .int .i64 0, .int .i64 0, .string ⟨#[]⟩, .string ⟨#[]⟩, .int .u64 0, .int .i64 0, .int .u64 0, .slice none 0 0, .slice none 0 0] 30)) ?hz ?_
            (case hz => rw [hg6]; go_simp)
            have B2 := B1.trans (hb2.mono B1.size)
            have N2 : RowAt (z1.alloc (.cells #[.int .i64 0, .int .u64 0, .int .i64 0, .int .u64 0, .int .i64 0, .int .i64 0, .int .i64 0, .string ⟨#[]⟩, .string ⟨#[]⟩, .int .u64 0, .int .i64 0, .int .u64 0, .slice none 0 0, .slice none 0 0] 30)) g6 30 #[.int .i64 0, .int .u64 0, .int .i64 0, .int .u64 0, .int .i64 0, .int .i64 0, .int .i64 0, .string ⟨#[]⟩, .string ⟨#[]⟩, .int .u64 0, .int .i64 0, .int .u64 0, .slice none 0 0, .slice none 0 0] := by rw [hg6]; exact RowAt.new z1 _ _
            have L6 : w.heap.size ≤ g6 := by rw [hg6]; exact B1.size
            refine ⟨HK0.out _ B2, ?_⟩
            try simp only [Act.put, List.setIfInBounds_toArray, List.set_cons_zero, List.set_cons_succ]
            refine hand_one 16 (by kernel_rfl) ?_
            refine hand_store rfl rfl rfl 30 (.tmp 6) (.tmp 40) rfl g6 0 30 #[.int .i64 0, .int .u64 0, .int .i64 0, .int .u64 0, .int .i64 0, .int .i64 0, .int .i64 0, .string ⟨#[]⟩, .string ⟨#[]⟩, .int .u64 0, .int .i64 0, .int .u64 0, .slice none 0 0, .slice none 0 0] rc rfl rfl N2 hinf (by rw [hz14]; decide) hone ?_
            intro z3 hr3 ho3
            have hpa := partA_all #[.int .i64 0, .int .u64 0, .int .i64 0, .int .u64 0, .int .i64 0, .int .i64 0, .int .i64 0, .string ⟨#[]⟩, .string ⟨#[]⟩, .int .u64 0, .int .i64 0, .int .u64 0, .slice none 0 0, .slice none 0 0] rc (by rw [hz14]; rfl)
            rw [hpa] at hr3
            have B3 : Below w.heap.size w z3 := ho3.below B2 L6
            refine ⟨HK0.out _ B3, ?_⟩
            try simp only [Act.put, List.setIfInBounds_toArray, List.set_cons_zero, List.set_cons_succ]
            have hHeld := HK0.out _ B3
            refine hand_take 17 (some 7) (.int .i64 0) rfl rfl (by kernel_rfl) (by kernel_rfl) (by kernel_rfl) (fun _ _ _ h => h) (Or.inl ⟨by kernel_rfl, fun x' hSx => by go_simp⟩) hHeld ?_
            try simp only [Act.put, List.setIfInBounds_toArray, List.set_cons_zero, List.set_cons_succ]
            refine wpAnyH_done (by kernel_rfl) ?_ _
            refine NoPanic.normal ?_
            obtain ⟨a9, ha9⟩ : ∃ a9 : Option Addr, a9 = none := ⟨_, rfl⟩
            obtain ⟨c9, hc9⟩ : ∃ c9 : Nat, c9 = 0 := ⟨_, rfl⟩
            exact REST g6 a9 c9 z3 ⟨HH.out.later B3, hr3, Aft15.first B3 (Aft15.refl _ _), fun hk => by have := (HH.out.here hk).2; omega, ha9, hc9⟩
          · skip
            obtain ⟨g6, hg6⟩ : ∃ k, k = w.drew.heap.size := ⟨_, rfl⟩
            have hb2 : Below w.drew.heap.size w.drew (w.drew.alloc (.cells #[.int .i64 0, .int .u64 0, .int .i64 0, .int .u64 0, .int .i64 0, .int .i64 0, .int .i64 0, .string ⟨#[]⟩, .string ⟨#[]⟩, .int .u64 0, .int .i64 0, .int .u64 0, .slice none 0 0, .slice none 0 0] 30)) := (Below.refl _ _).alloc (Nat.le_refl _) _
            refine hand_run (some 6) rfl rfl rfl (.pointer (some ⟨g6, 0, none⟩)) (w.drew.alloc (.cells #[.int .i64 0, .int .u64 0, .int .i64 0, .int .u64 0, .int .i64 0, .int .i64 0, .int .i64 0, .string ⟨#[]⟩, .string ⟨#[]⟩, .int .u64 0, .int .i64 0, .int .u64 0, .slice none 0 0, .slice none 0 0] 30)) ?hz ?_
            (case hz => rw [hg6]; go_simp)
            have B1 : Below w.heap.size w (w.drew.alloc (.cells #[.int .i64 0, .int .u64 0, .int .i64 0, .int .u64 0, .int .i64 0, .int .i64 0, .int .i64 0, .string ⟨#[]⟩, .string ⟨#[]⟩, .int .u64 0, .int .i64 0, .int .u64 0, .slice none 0 0, .slice none 0 0] 30)) := (below_drew (Below.refl w.heap.size w)).trans hb2
            have N1 : RowAt (w.drew.alloc (.cells #[.int .i64 0, .int .u64 0, .int .i64 0, .int .u64 0, .int .i64 0, .int .i64 0, .int .i64 0, .string ⟨#[]⟩, .string ⟨#[]⟩, .int .u64 0, .int .i64 0, .int .u64 0, .slice none 0 0, .slice none 0 0] 30)) g6 30 #[.int .i64 0, .int .u64 0, .int .i64 0, .int .u64 0, .int .i64 0, .int .i64 0, .int .i64 0, .string ⟨#[]⟩, .string ⟨#[]⟩, .int .u64 0, .int .i64 0, .int .u64 0, .slice none 0 0, .slice none 0 0] := by rw [hg6]; exact RowAt.new w.drew _ _
            have L6 : w.heap.size ≤ g6 := by rw [hg6]; exact Nat.le_refl _
            refine ⟨HK0.out _ B1, ?_⟩
            try simp only [Act.put, List.setIfInBounds_toArray, List.set_cons_zero, List.set_cons_succ]
            refine hand_one 11 (by kernel_rfl) ?_
            refine hand_call (some 39) rfl rfl rfl 19 #[.slice a ll c, .int .u64 (nx : Int)] ?he ((HCR.out _ B1).mono ?_)
            (case he => go_simp)
            rintro e z1 ⟨rfl, hb1⟩
            have B2 := B1.trans (hb1.mono B1.size)
            have N2 := N1.later hb1
            refine ⟨_, rfl, HK0.out _ B2, ?_⟩
            try simp only [Act.put, List.setIfInBounds_toArray, List.set_cons_zero, List.set_cons_succ]
            have hHeld := HK0.out _ B2
            refine hand_take 12 (some 27) (.tuple #[.agg rc, .int .i64 0]) rfl rfl (by kernel_rfl) (by kernel_rfl) (by kernel_rfl) (fun _ _ _ h => h) (Or.inl ⟨by kernel_rfl, fun x' hSx => by go_simp⟩) hHeld ?_
            try simp only [Act.put, List.setIfInBounds_toArray, List.set_cons_zero, List.set_cons_succ]
            refine hand_take 13 (some 40) (.agg rc) rfl rfl (by kernel_rfl) (by kernel_rfl) (by kernel_rfl) (fun _ _ _ h => h) (Or.inl ⟨by kernel_rfl, fun x' hSx => by go_simp⟩) hHeld ?_
            try simp only [Act.put, List.setIfInBounds_toArray, List.set_cons_zero, List.set_cons_succ]
            refine hand_take 14 (some 41) (.int .i64 0) rfl rfl (by kernel_rfl) (by kernel_rfl) (by kernel_rfl) (fun _ _ _ h => h) (Or.inl ⟨by kernel_rfl, fun x' hSx => by go_simp⟩) hHeld ?_
            try simp only [Act.put, List.setIfInBounds_toArray, List.set_cons_zero, List.set_cons_succ]
            refine hand_one 16 (by kernel_rfl) ?_
            refine hand_store rfl rfl rfl 30 (.tmp 6) (.tmp 40) rfl g6 0 30 #[.int .i64 0, .int .u64 0, .int .i64 0, .int .u64 0, .int .i64 0, .int .i64 0, .int .i64 0, .string ⟨#[]⟩, .string ⟨#[]⟩, .int .u64 0, .int .i64 0, .int .u64 0, .slice none 0 0, .slice none 0 0] rc rfl rfl N2 hinf (by rw [hz14]; decide) hone ?_
            intro z3 hr3 ho3
            have hpa := partA_all #[.int .i64 0, .int .u64 0, .int .i64 0, .int .u64 0, .int .i64 0, .int .i64 0, .int .i64 0, .string ⟨#[]⟩, .string ⟨#[]⟩, .int .u64 0, .int .i64 0, .int .u64 0, .slice none 0 0, .slice none 0 0] rc (by rw [hz14]; rfl)
            rw [hpa] at hr3
            have B3 : Below w.heap.size w z3 := ho3.below B2 L6
            refine ⟨HK0.out _ B3, ?_⟩
            try simp only [Act.put, List.setIfInBounds_toArray, List.set_cons_zero, List.set_cons_succ]
            have hHeld := HK0.out _ B3
            refine hand_take 17 (some 7) (.int .i64 0) rfl rfl (by kernel_rfl) (by kernel_rfl) (by kernel_rfl) (fun _ _ _ h => h) (Or.inl ⟨by kernel_rfl, fun x' hSx => by go_simp⟩) hHeld ?_
            try simp only [Act.put, List.setIfInBounds_toArray, List.set_cons_zero, List.set_cons_succ]
            refine wpAnyH_done (by kernel_rfl) ?_ _
            refine NoPanic.normal ?_
            obtain ⟨a9, ha9⟩ : ∃ a9 : Option Addr, a9 = none := ⟨_, rfl⟩
            obtain ⟨c9, hc9⟩ : ∃ c9 : Nat, c9 = 0 := ⟨_, rfl⟩
            exact REST g6 a9 c9 z3 ⟨HH.out.later B3, hr3, Aft15.first B3 (Aft15.refl _ _), fun hk => by have := (HH.out.here hk).2; omega, ha9, hc9⟩)
        intro g6 a9 c9 z HZ
        go_wp2_with (with_reducible refine stop_at 45 rfl ?_)
        refine unstop10 ?_
        refine wpList_load_at rfl 30 (.tmp 6) rfl g6 rfl rc HZ.out.2.1 _ Try.underlying30 rfl hinf ?_
        go_wp2_with fail
        refine (HTU.out z F HZ.out.1).mono ?_
        rintro e z2 ⟨F2, rfl, hb2, ha2⟩
        have H2 : Hid (HB z2 B g F2 (h.turn n i cr) ∧ RowAt z2 g6 30 rc ∧ Aft15 F F2 w z2) := ⟨hb2, ha2.row HZ.out.2.1 HZ.out.2.2.2.1, HZ.out.2.2.1.trans ha2⟩
        have c9r := H2.out.2.1.cell 9 _ HNX.out
        have f3 := hb2.free (o + 3)
        have t3 := (hb2.tu hi HO.out).2.2.2
        clear hb2 ha2 HZ HCR HK0 HTU
        obtain ⟨q, hq⟩ : ∃ q, q = cr.n := ⟨_, rfl⟩
        rw [← hq] at c9r HB3
        clear hq HNX
        go_wp2
        have q8 := H2.out.1.cell (h' := (h.turn n i cr).nextIs i q) (o + 3) (.int .u64 (q : Int)) (fun cs a b c H => by rw [HO.out]; exact H.setTx hi _ 3 (by omega) _ rfl (fun k hk he => by
          rcases (show k = 0 ∨ k = 1 ∨ k = 2 ∨ k = 3 by omega) with rfl | rfl | rfl | rfl
          · rfl
          · rfl
          · rfl
          · exact absurd rfl he)) rfl rfl rfl
        refine bodyPost_end (results_none rfl _ _ _) rfl ⟨F2, rfl, ?_, H2.out.2.2.trans q8.2⟩
        rw [HB3.out]
        exact q8.1
end Go.Proofs.Ytohdmmfmjadipaa

/-
  The contract of quaysideref15's does: one act.
-/
namespace Go.Proofs.Ytohdmmfmjadipaa
open Go.RowKit
set_option linter.unusedVariables false

/-- What makes a history such that an act can be done. -/
structure Hs.sound (h : Hs) : Prop where
  few : h.few
  rise : ∀ n, n < 3 → Rise 0 (h.lg n)
  pgs : ∀ n, n < 3 → ∀ r ∈ h.lg n, r.k = 1 → r.c.pg < 4
  next : ∀ i, i < 9 → (h.tx i).next ≠ 0 → ∃ r ∈ h.lg (i / 3), r.l = (h.tx i).next ∧ r.k = 1
def litR (k s : Int) : Array Value := #[.int .i64 k, .int .u64 0, .int .i64 0, .int .u64 0, .int .i64 0, .int .i64 0, .int .i64 0, .string ⟨#[]⟩, .string ⟨#[]⟩, .int .u64 0, .int .i64 s, .int .u64 0, .slice none 0 0, .slice none 0 0]
theorem infoOp15 : (Try.prog.info? 95).map (·.size) = some 7 := by kernel_rfl
theorem lit_bare (k s : Int) : rcF (bareM (bare15 k Ch.zero s)) = litR k s := rfl
theorem bare_bare (k s : Int) : (bare15 k Ch.zero s).bare := ⟨rfl, rfl, rec_fits15c zero_fits15.c rfl rfl⟩
theorem does_kd {h : Hs} {ac : Ac} {n k kd : Nat} (hn : n = pick15 ac.n 3) (hk : k = pick15 ac.t 3) (hd : kd = pick15 ac.k 13) : h.does ac = if kd ≤ 5 then h.change n (n * 3 + k) ac else if kd = 12 then h.setCk n (max (h.ck n) (h.ck k)) else if (h.tx (n * 3 + k)).last = 0 then h else h.does2 n (n * 3 + k) kd ac := by
  rw [hn, hk, hd]
  rfl
set_option maxRecDepth 8000 in
set_option maxHeartbeats 6000000 in
theorem hdoes15 (w : World) (B g : Nat) (F : Nat → Prop) (h : Hs) (ac : Ac) (H : HB w B g F h) (hf : ac.fits) (hs : h.sound) :
    Calls Try.prog 34 #[.pointer (some ⟨g, 0, none⟩), .agg (acA ac)] w fun e w' => ∃ F', e = .returned (.tuple #[]) ∧ HB w' B g F' (h.does ac) ∧ Aft15 F F' w w' := by
  have HS := hide hs
  have HFT := hide hf
  have hac : acA ac = #[.int .i64 ac.k, .int .i64 ac.n, .int .i64 ac.t, .int .i64 ac.pg, .int .i64 ac.sl, .bool ac.d, .string ac.v] := rfl
  rw [hac]
  have hb0 : Below w.heap.size w (w.alloc (.cells #[.int .i64 ac.k, .int .i64 ac.n, .int .i64 ac.t, .int .i64 ac.pg, .int .i64 ac.sl, .bool ac.d, .string ac.v] 95)) := (Below.refl _ _).alloc (Nat.le_refl _) _
  obtain ⟨g3, hg3⟩ : ∃ k, k = w.heap.size := ⟨_, rfl⟩
  have HG3 := hide hg3
  have H0 : Hid (HB (w.alloc (.cells #[.int .i64 ac.k, .int .i64 ac.n, .int .i64 ac.t, .int .i64 ac.pg, .int .i64 ac.sl, .bool ac.d, .string ac.v] 95)) B g F h ∧ RowAt (w.alloc (.cells #[.int .i64 ac.k, .int .i64 ac.n, .int .i64 ac.t, .int .i64 ac.pg, .int .i64 ac.sl, .bool ac.d, .string ac.v] 95)) g3 95 #[.int .i64 ac.k, .int .i64 ac.n, .int .i64 ac.t, .int .i64 ac.pg, .int .i64 ac.sl, .bool ac.d, .string ac.v] ∧ Aft15 F F w (w.alloc (.cells #[.int .i64 ac.k, .int .i64 ac.n, .int .i64 ac.t, .int .i64 ac.pg, .int .i64 ac.sl, .bool ac.d, .string ac.v] 95)) ∧ ¬ F g3) := by
    rw [hg3]
    exact ⟨H.later hb0, RowAt.new w _ _, Aft15.first hb0 (Aft15.refl _ _), fun hk => by have := (H.here hk).2; omega⟩
  have HP1 := hide (fun w => (hpick15 ac.n 3 w hf.n (by decide) (by decide)).mono (fun e w' h => And.intro h.1 h.2.symm))
  have HP2 := hide (fun w => (hpick15 ac.t 3 w hf.t (by decide) (by decide)).mono (fun e w' h => And.intro h.1 h.2.symm))
  have HP3 := hide (fun w => (hpick15 ac.k 13 w hf.k (by decide) (by decide)).mono (fun e w' h => And.intro h.1 h.2.symm))
  have HP4 := hide (fun w => (hpick15 ac.sl 8 w hf.sl (by decide) (by decide)).mono (fun e w' h => And.intro h.1 h.2.symm))
  obtain ⟨n, hn0⟩ : ∃ p, p = pick15 ac.n 3 := ⟨_, rfl⟩
  obtain ⟨k, hk0⟩ : ∃ p, p = pick15 ac.t 3 := ⟨_, rfl⟩
  obtain ⟨kd, hd0⟩ : ∃ p, p = pick15 ac.k 13 := ⟨_, rfl⟩
  obtain ⟨sl, hsl0⟩ : ∃ p, p = pick15 ac.sl 8 := ⟨_, rfl⟩
  have hn : n < 3 := by rw [hn0]; exact pick15_lt _ _ (by decide)
  have hk : k < 3 := by rw [hk0]; exact pick15_lt _ _ (by decide)
  have hd : kd < 13 := by rw [hd0]; exact pick15_lt _ _ (by decide)
  have hsl : sl < 8 := by rw [hsl0]; exact pick15_lt _ _ (by decide)
  have in3 : (n : Int) < 3 := by omega
  have ik3 : (k : Int) < 3 := by omega
  have HD := hide (does_kd (h := h) (ac := ac) hn0 hk0 hd0)
  have HSL := hide hsl0
  rw [← hn0] at HP1
  rw [← hk0] at HP2
  rw [← hd0] at HP3
  rw [← hsl0] at HP4
  clear hb0 hg3 H hac hs hf hn0 hk0 hd0 hsl0
  go_enter Try.func34, Try.ntmps34
  go_wp2_with fail
  rw [← HG3.out]
  refine gen_calls (fun y => HB y B g F h ∧ RowAt y g3 95 #[.int .i64 ac.k, .int .i64 ac.n, .int .i64 ac.t, .int .i64 ac.pg, .int .i64 ac.sl, .bool ac.d, .string ac.v] ∧ Aft15 F F w y ∧ ¬ F g3) H0.out ?_
  intro y HY0
  have HY := hide HY0
  have a2 := HY.out.2.1.cell 2 (.int .i64 ac.t) rfl
  clear HY0 H0
  refine (HP1.out y).mono ?_
  rintro e y1 ⟨rfl, rfl⟩
  go_wp2_with fail
  go_quiet (first | (go_at_call 51; first | with_reducible exact Calls.quiet_of_same (HP2.out _)))
  clear a2
  refine gen_w (fun y => HB y B g F h ∧ RowAt y g3 95 #[.int .i64 ac.k, .int .i64 ac.n, .int .i64 ac.t, .int .i64 ac.pg, .int .i64 ac.sl, .bool ac.d, .string ac.v] ∧ Aft15 F F w y ∧ ¬ F g3) (show _ from ⟨HY.out.1.later (below_dn (Below.refl _ _) _), HY.out.2.1, HY.out.2.2.1.later (below_dn (Below.refl _ _) _), HY.out.2.2.2⟩) ?_
  clear HY
  intro y HY0
  have HY := hide HY0
  have a0 := HY.out.2.1.cell 0 (.int .i64 ac.k) rfl
  clear HY0
  go_wp2_with fail
  refine (HP3.out y).mono ?_
  rintro e y2 ⟨rfl, hy2⟩
  subst y2
  clear a0
  obtain ⟨i, hi0⟩ : ∃ i, i = n * 3 + k := ⟨_, rfl⟩
  have hi : i < 9 := by omega
  have hi3 : i / 3 = n := by omega
  rw [← hi0] at HD
  obtain ⟨o, ho⟩ : ∃ o, o = 9 + n * 12 + k * 4 := ⟨_, rfl⟩
  rw [← ho]
  have HO : Hid (o = 9 + i * 4) := by show o = _; omega
  have HI3 := hide hi3
  clear ho hi0 hi3
  by_cases d5 : kd ≤ 5
  · have d5i : (kd : Int) ≤ 5 := by omega
    have HC := hide (hchange15 y B g n i o F h ac HY.out.1 hn hi HO.out HFT.out HS.out.few)
    rw [show acA ac = #[.int .i64 ac.k, .int .i64 ac.n, .int .i64 ac.t, .int .i64 ac.pg, .int .i64 ac.sl, .bool ac.d, .string ac.v] from rfl] at HC
    go_wp2_with (with_reducible refine stop_at 28 rfl ?_)
    refine unstop10 ?_
    refine wpList_load_at rfl 95 (.tmp 3) rfl g3 rfl #[.int .i64 ac.k, .int .i64 ac.n, .int .i64 ac.t, .int .i64 ac.pg, .int .i64 ac.sl, .bool ac.d, .string ac.v] HY.out.2.1 _ Try.underlying95 rfl infoOp15 ?_
    go_wp2_with fail
    refine HC.out.mono ?_
    rintro e z ⟨F1, rfl, hb1, ha1⟩
    have H1 := hide (And.intro hb1 ha1)
    clear hb1 ha1 HC
    go_wp2
    refine bodyPost_ret (results_none rfl _ _ _) rfl ⟨F1, rfl, ?_, HY.out.2.2.1.trans H1.out.2⟩
    rw [HD.out, if_pos d5]
    exact H1.out.1
  have d5i : ¬ (kd : Int) ≤ 5 := by omega
  by_cases d12 : kd = 12
  · subst d12
    have c1 := HY.out.1.ck hn
    have c2 := HY.out.1.ck hk
    have fr := HY.out.1.free (3 + n)
    have a2 := HY.out.2.1.cell 2 (.int .i64 ac.t) rfl
    have HN3 : Hid (¬ g3 = g) := fun e => HY.out.2.2.2 (by rw [e]; exact HY.out.1.mine)
    obtain ⟨M, hM⟩ : ∃ M, M = max (h.ck n) (h.ck k) := ⟨_, rfl⟩
    have HM : Hid (h.does ac = h.setCk n M) := by
      show h.does ac = _
      rw [HD.out, if_neg (by decide), if_pos rfl, hM]
    generalize h.ck n = p1 at *
    generalize h.ck k = p2 at *
    have hmx : (if p1 < p2 then (p2 : Int) else (p1 : Int)) = (M : Int) := by
      rw [hM]
      by_cases hq : p1 < p2
      · rw [if_pos hq]
        omega
      · rw [if_neg hq]
        omega
    clear hM
    go_wp2_with fail
    refine wp_region_noPanic ?_
    refine wp_region_held_drew (S := fun z => z.cell? ⟨g3, 2, none⟩ = some (.int .i64 ac.t)) (by kernel_rfl) (a2) (fun hHeld => ?_)
    refine hand_take 0 (some 32) (.pointer (some ⟨g, 0, none⟩)) rfl rfl (by kernel_rfl) (by kernel_rfl) (by kernel_rfl) (fun _ _ _ h => h) (Or.inl ⟨by kernel_rfl, fun x' hSx => by go_simp⟩) hHeld ?_
    try simp only [Act.put, List.setIfInBounds_toArray, List.set_cons_zero, List.set_cons_succ]
    refine hand_take 1 (some 33) (.int .i64 (n : Int)) rfl rfl (by kernel_rfl) (by kernel_rfl) (by kernel_rfl) (fun _ _ _ h => h) (Or.inl ⟨by kernel_rfl, fun x' hSx => by go_simp⟩) hHeld ?_
    try simp only [Act.put, List.setIfInBounds_toArray, List.set_cons_zero, List.set_cons_succ]
    refine hand_take 2 (some 34) (.pointer (some ⟨g, 0, none⟩)) rfl rfl (by kernel_rfl) (by kernel_rfl) (by kernel_rfl) (fun _ _ _ h => h) (Or.inl ⟨by kernel_rfl, fun x' hSx => by go_simp⟩) hHeld ?_
    try simp only [Act.put, List.setIfInBounds_toArray, List.set_cons_zero, List.set_cons_succ]
    refine hand_take 3 (some 35) (.int .i64 (n : Int)) rfl rfl (by kernel_rfl) (by kernel_rfl) (by kernel_rfl) (fun _ _ _ h => h) (Or.inl ⟨by kernel_rfl, fun x' hSx => by go_simp⟩) hHeld ?_
    try simp only [Act.put, List.setIfInBounds_toArray, List.set_cons_zero, List.set_cons_succ]
    refine hand_take 4 (some 36) (.pointer (some ⟨g, 0, none⟩)) rfl rfl (by kernel_rfl) (by kernel_rfl) (by kernel_rfl) (fun _ _ _ h => h) (Or.inl ⟨by kernel_rfl, fun x' hSx => by go_simp⟩) hHeld ?_
    try simp only [Act.put, List.setIfInBounds_toArray, List.set_cons_zero, List.set_cons_succ]
    refine hand_take 5 (some 37) (.pointer (some ⟨g, 3, none⟩)) rfl rfl (by kernel_rfl) (by kernel_rfl) (by kernel_rfl) (fun _ _ _ h => h) (Or.inl ⟨by kernel_rfl, fun x' hSx => by go_simp⟩) hHeld ?_
    try simp only [Act.put, List.setIfInBounds_toArray, List.set_cons_zero, List.set_cons_succ]
    refine hand_take 6 (some 38) (.pointer (some ⟨g, 3 + n, none⟩)) rfl rfl (by kernel_rfl) (by kernel_rfl) (by kernel_rfl) (fun _ _ _ h => h) (Or.inl ⟨by kernel_rfl, fun x' hSx => by go_simp⟩) hHeld ?_
    try simp only [Act.put, List.setIfInBounds_toArray, List.set_cons_zero, List.set_cons_succ]
    refine hand_take 8 (some 40) (.pointer (some ⟨g, 0, none⟩)) rfl rfl (by kernel_rfl) (by kernel_rfl) (by kernel_rfl) (fun _ _ _ h => h) (Or.inl ⟨by kernel_rfl, fun x' hSx => by go_simp⟩) hHeld ?_
    try simp only [Act.put, List.setIfInBounds_toArray, List.set_cons_zero, List.set_cons_succ]
    refine hand_take 9 (some 41) (.pointer (some ⟨g3, 2, none⟩)) rfl rfl (by kernel_rfl) (by kernel_rfl) (by kernel_rfl) (fun _ _ _ h => h) (Or.inl ⟨by kernel_rfl, fun x' hSx => by go_simp⟩) hHeld ?_
    try simp only [Act.put, List.setIfInBounds_toArray, List.set_cons_zero, List.set_cons_succ]
    refine hand_take 10 (some 42) (.int .i64 ac.t) rfl rfl (by kernel_rfl) (by kernel_rfl) (by kernel_rfl) (fun _ _ _ h => h) (Or.inl ⟨by kernel_rfl, fun x' hSx => by have h : World.cell? x' ⟨g3, 2, none⟩ = some (.int .i64 ac.t) := hSx; go_simp⟩) hHeld ?_
    try simp only [Act.put, List.setIfInBounds_toArray, List.set_cons_zero, List.set_cons_succ]
    refine hand_take 12 (some 44) (.pointer (some ⟨g, 0, none⟩)) rfl rfl (by kernel_rfl) (by kernel_rfl) (by kernel_rfl) (fun _ _ _ h => h) (Or.inl ⟨by kernel_rfl, fun x' hSx => by go_simp⟩) hHeld ?_
    try simp only [Act.put, List.setIfInBounds_toArray, List.set_cons_zero, List.set_cons_succ]
    refine hand_take 13 (some 45) (.pointer (some ⟨g, 3, none⟩)) rfl rfl (by kernel_rfl) (by kernel_rfl) (by kernel_rfl) (fun _ _ _ h => h) (Or.inl ⟨by kernel_rfl, fun x' hSx => by go_simp⟩) hHeld ?_
    try simp only [Act.put, List.setIfInBounds_toArray, List.set_cons_zero, List.set_cons_succ]
    refine hand_take 17 (some 49) (.pointer (some ⟨g, 0, none⟩)) rfl rfl (by kernel_rfl) (by kernel_rfl) (by kernel_rfl) (fun _ _ _ h => h) (Or.inl ⟨by kernel_rfl, fun x' hSx => by go_simp⟩) hHeld ?_
    try simp only [Act.put, List.setIfInBounds_toArray, List.set_cons_zero, List.set_cons_succ]
    refine hand_take 18 (some 50) (.pointer (some ⟨g, 3, none⟩)) rfl rfl (by kernel_rfl) (by kernel_rfl) (by kernel_rfl) (fun _ _ _ h => h) (Or.inl ⟨by kernel_rfl, fun x' hSx => by go_simp⟩) hHeld ?_
    try simp only [Act.put, List.setIfInBounds_toArray, List.set_cons_zero, List.set_cons_succ]
    refine hand_two 7 11 (by kernel_rfl) ?_ ?_
    · skip
      refine hand_run (some 39) rfl rfl rfl (.int .u64 (p1 : Int)) y.drew ?hz ?_
      (case hz => go_simp)
      refine ⟨a2, ?_⟩
      try simp only [Act.put, List.setIfInBounds_toArray, List.set_cons_zero, List.set_cons_succ]
      refine hand_one 11 (by kernel_rfl) ?_
      refine hand_call (some 43) rfl rfl rfl 51 #[.int .i64 ac.t, .int .i64 3] ?he ((HP2.out y.drew).mono ?_)
      (case he => go_simp)
      rintro e z0 ⟨rfl, hz0⟩
      subst z0
      refine ⟨_, rfl, a2, ?_⟩
      try simp only [Act.put, List.setIfInBounds_toArray, List.set_cons_zero, List.set_cons_succ]
      refine hand_take 14 (some 46) (.pointer (some ⟨g, 3 + k, none⟩)) rfl rfl (by kernel_rfl) (by kernel_rfl) (by kernel_rfl) (fun _ _ _ h => h) (Or.inl ⟨by kernel_rfl, fun x' hSx => by go_simp⟩) hHeld ?_
      try simp only [Act.put, List.setIfInBounds_toArray, List.set_cons_zero, List.set_cons_succ]
      refine hand_one 15 (by kernel_rfl) ?_
      refine hand_run (some 47) rfl rfl rfl (.int .u64 (p2 : Int)) y.drew ?hz ?_
      (case hz => go_simp)
      refine ⟨a2, ?_⟩
      try simp only [Act.put, List.setIfInBounds_toArray, List.set_cons_zero, List.set_cons_succ]
      refine hand_take 16 (some 48) (.int .u64 (M : Int)) rfl rfl (by kernel_rfl) (by kernel_rfl) (by kernel_rfl) (fun _ _ _ h => h) (Or.inl ⟨by kernel_rfl, fun x' hSx => by go_simp⟩) hHeld ?_
      try simp only [Act.put, List.setIfInBounds_toArray, List.set_cons_zero, List.set_cons_succ]
      refine hand_take 19 (some 51) (.pointer (some ⟨g, 3 + n, none⟩)) rfl rfl (by kernel_rfl) (by kernel_rfl) (by kernel_rfl) (fun _ _ _ h => h) (Or.inl ⟨by kernel_rfl, fun x' hSx => by go_simp⟩) hHeld ?_
      try simp only [Act.put, List.setIfInBounds_toArray, List.set_cons_zero, List.set_cons_succ]
      refine hand_one 20 (by kernel_rfl) ?_
      have q5 := HY.out.1.drew.cell (h' := h.setCk n M) (3 + n) (.int .u64 (M : Int)) (fun cs a b c H => H.setCk hn M) rfl rfl rfl
      refine hand_skip15 rfl rfl rfl (y.drew.setCell ⟨g, 3 + n, none⟩ (.int .u64 (M : Int))) ?hs ?_
      (case hs => go_simp)
      refine ⟨((HY.out.2.1.later (below_drew (Below.refl _ _))).other ⟨g, 3 + n, none⟩ _ (fun e => HN3.out e)).cell 2 _ rfl, ?_⟩
      try simp only [Act.put, List.setIfInBounds_toArray, List.set_cons_zero, List.set_cons_succ]
      refine wpAnyH_done (by kernel_rfl) ?_ _
      refine NoPanic.normal ?_
      go_wp2
      refine bodyPost_ret (results_none rfl _ _ _) rfl ⟨F, rfl, ?_, (HY.out.2.2.1.later (below_drew (Below.refl _ _))).trans q5.2⟩
      rw [HM.out]
      exact q5.1
    · skip
      refine hand_call (some 43) rfl rfl rfl 51 #[.int .i64 ac.t, .int .i64 3] ?he ((HP2.out y.drew).mono ?_)
      (case he => go_simp)
      rintro e z0 ⟨rfl, hz0⟩
      subst z0
      refine ⟨_, rfl, a2, ?_⟩
      try simp only [Act.put, List.setIfInBounds_toArray, List.set_cons_zero, List.set_cons_succ]
      refine hand_take 14 (some 46) (.pointer (some ⟨g, 3 + k, none⟩)) rfl rfl (by kernel_rfl) (by kernel_rfl) (by kernel_rfl) (fun _ _ _ h => h) (Or.inl ⟨by kernel_rfl, fun x' hSx => by go_simp⟩) hHeld ?_
      try simp only [Act.put, List.setIfInBounds_toArray, List.set_cons_zero, List.set_cons_succ]
      refine hand_two 7 15 (by kernel_rfl) ?_ ?_
      · skip
        refine hand_run (some 39) rfl rfl rfl (.int .u64 (p1 : Int)) y.drew ?hz ?_
        (case hz => go_simp)
        refine ⟨a2, ?_⟩
        try simp only [Act.put, List.setIfInBounds_toArray, List.set_cons_zero, List.set_cons_succ]
        refine hand_one 15 (by kernel_rfl) ?_
        refine hand_run (some 47) rfl rfl rfl (.int .u64 (p2 : Int)) y.drew ?hz ?_
        (case hz => go_simp)
        refine ⟨a2, ?_⟩
        try simp only [Act.put, List.setIfInBounds_toArray, List.set_cons_zero, List.set_cons_succ]
        refine hand_take 16 (some 48) (.int .u64 (M : Int)) rfl rfl (by kernel_rfl) (by kernel_rfl) (by kernel_rfl) (fun _ _ _ h => h) (Or.inl ⟨by kernel_rfl, fun x' hSx => by go_simp⟩) hHeld ?_
        try simp only [Act.put, List.setIfInBounds_toArray, List.set_cons_zero, List.set_cons_succ]
        refine hand_take 19 (some 51) (.pointer (some ⟨g, 3 + n, none⟩)) rfl rfl (by kernel_rfl) (by kernel_rfl) (by kernel_rfl) (fun _ _ _ h => h) (Or.inl ⟨by kernel_rfl, fun x' hSx => by go_simp⟩) hHeld ?_
        try simp only [Act.put, List.setIfInBounds_toArray, List.set_cons_zero, List.set_cons_succ]
        refine hand_one 20 (by kernel_rfl) ?_
        have q5 := HY.out.1.drew.cell (h' := h.setCk n M) (3 + n) (.int .u64 (M : Int)) (fun cs a b c H => H.setCk hn M) rfl rfl rfl
        refine hand_skip15 rfl rfl rfl (y.drew.setCell ⟨g, 3 + n, none⟩ (.int .u64 (M : Int))) ?hs ?_
        (case hs => go_simp)
        refine ⟨((HY.out.2.1.later (below_drew (Below.refl _ _))).other ⟨g, 3 + n, none⟩ _ (fun e => HN3.out e)).cell 2 _ rfl, ?_⟩
        try simp only [Act.put, List.setIfInBounds_toArray, List.set_cons_zero, List.set_cons_succ]
        refine wpAnyH_done (by kernel_rfl) ?_ _
        refine NoPanic.normal ?_
        go_wp2
        refine bodyPost_ret (results_none rfl _ _ _) rfl ⟨F, rfl, ?_, (HY.out.2.2.1.later (below_drew (Below.refl _ _))).trans q5.2⟩
        rw [HM.out]
        exact q5.1
      · skip
        refine hand_run (some 47) rfl rfl rfl (.int .u64 (p2 : Int)) y.drew ?hz ?_
        (case hz => go_simp)
        refine ⟨a2, ?_⟩
        try simp only [Act.put, List.setIfInBounds_toArray, List.set_cons_zero, List.set_cons_succ]
        refine hand_one 7 (by kernel_rfl) ?_
        refine hand_run (some 39) rfl rfl rfl (.int .u64 (p1 : Int)) y.drew ?hz ?_
        (case hz => go_simp)
        refine ⟨a2, ?_⟩
        try simp only [Act.put, List.setIfInBounds_toArray, List.set_cons_zero, List.set_cons_succ]
        refine hand_take 16 (some 48) (.int .u64 (M : Int)) rfl rfl (by kernel_rfl) (by kernel_rfl) (by kernel_rfl) (fun _ _ _ h => h) (Or.inl ⟨by kernel_rfl, fun x' hSx => by go_simp⟩) hHeld ?_
        try simp only [Act.put, List.setIfInBounds_toArray, List.set_cons_zero, List.set_cons_succ]
        refine hand_take 19 (some 51) (.pointer (some ⟨g, 3 + n, none⟩)) rfl rfl (by kernel_rfl) (by kernel_rfl) (by kernel_rfl) (fun _ _ _ h => h) (Or.inl ⟨by kernel_rfl, fun x' hSx => by go_simp⟩) hHeld ?_
        try simp only [Act.put, List.setIfInBounds_toArray, List.set_cons_zero, List.set_cons_succ]
        refine hand_one 20 (by kernel_rfl) ?_
        have q5 := HY.out.1.drew.cell (h' := h.setCk n M) (3 + n) (.int .u64 (M : Int)) (fun cs a b c H => H.setCk hn M) rfl rfl rfl
        refine hand_skip15 rfl rfl rfl (y.drew.setCell ⟨g, 3 + n, none⟩ (.int .u64 (M : Int))) ?hs ?_
        (case hs => go_simp)
        refine ⟨((HY.out.2.1.later (below_drew (Below.refl _ _))).other ⟨g, 3 + n, none⟩ _ (fun e => HN3.out e)).cell 2 _ rfl, ?_⟩
        try simp only [Act.put, List.setIfInBounds_toArray, List.set_cons_zero, List.set_cons_succ]
        refine wpAnyH_done (by kernel_rfl) ?_ _
        refine NoPanic.normal ?_
        go_wp2
        refine bodyPost_ret (results_none rfl _ _ _) rfl ⟨F, rfl, ?_, (HY.out.2.2.1.later (below_drew (Below.refl _ _))).trans q5.2⟩
        rw [HM.out]
        exact q5.1
  have d12i : ((kd : Int) == 12) = false := by simp; omega
  obtain ⟨t0, t1, t2, t3⟩ := HY.out.1.tu hi HO.out
  by_cases d0 : (h.tx i).last = 0
  · rw [d0] at t2
    go_wp2
    refine bodyPost_ret (results_none rfl _ _ _) rfl ⟨F, rfl, ?_, HY.out.2.2.1⟩
    rw [HD.out, if_neg d5, if_neg d12, if_pos d0]
    exact HY.out.1
  have d0i : (((h.tx i).last : Int) == 0) = false := by simpa using d0
  have HD2 : Hid (h.does ac = h.does2 n i kd ac) := by
    show h.does ac = _
    rw [HD.out, if_neg d5, if_neg d12, if_neg d0]
  have HTX : Hid (h.tx i = h.tx i) := rfl
  have HW := hide (HS.out.few)
  have HLOG := hide (fun z F' kk ss (hz : HB z B g F' h) => hlog15 z B g n i o 0 F' h (bare15 kk Ch.zero ss) hz hn hi HO.out (bare_bare kk ss) (Nat.le_trans (HS.out.few.ck n hn) (by decide)) (by decide) (HS.out.few.lg n hn))
  have HFR := hide (fun z F' h' (hz : HB z B g F' h') => hfree15 z B g n i o F' h' hz hn hi HO.out)
  clear d12i HD
  obtain ⟨st, hst⟩ : ∃ c, c = (h.tx i).st := ⟨_, rfl⟩
  obtain ⟨nx, hnx⟩ : ∃ c, c = (h.tx i).next := ⟨_, rfl⟩
  obtain ⟨lst, hlst⟩ : ∃ c, c = (h.tx i).last := ⟨_, rfl⟩
  rw [← hst] at t1
  rw [← hnx] at t3
  rw [← hlst] at t2 d0i
  have HTT : Hid (st = (h.tx i).st ∧ nx = (h.tx i).next ∧ lst = (h.tx i).last) := ⟨hst, hnx, hlst⟩
  clear hst hnx hlst d0 t0
  have hk6 : kd = 6 ∨ kd = 7 ∨ kd = 8 ∨ kd = 9 ∨ kd = 10 ∨ kd = 11 := by omega
  rcases hk6 with rfl | rfl | rfl | rfl | rfl | rfl
  · skip
    by_cases e1 : st = 1
    · subst e1
      have HR6 : Hid (h.does ac = (((h.log n i (bare15 3 Ch.zero 0) 0).setHi (max h.hi (h.lsn n 0))).state i 3).free n i) := by
        show h.does ac = _
        rw [HD2.out]
        unfold Hs.does2
        rw [if_pos ⟨rfl, HTT.out.1.symm⟩]
      have HL := hide (fun z (hz : HB z B g F h) => HLOG.out z F 3 0 hz)
      rw [lit_bare, show ((0 : Nat) : Int) = 0 from rfl] at HL
      unfold litR at HL
      obtain ⟨hL, hhL⟩ : ∃ q, q = h.log n i (bare15 3 Ch.zero 0) 0 := ⟨_, rfl⟩
      rw [← hhL] at HL HR6
      have HLh : Hid (hL.hi = h.hi) := by rw [hhL]; rfl
      obtain ⟨L, hL0⟩ : ∃ q, q = h.lsn n 0 := ⟨_, rfl⟩
      rw [← hL0] at HL HR6
      obtain ⟨q, hq⟩ : ∃ q, q = h.hi := ⟨_, rfl⟩
      rw [← hq] at HR6 HLh
      obtain ⟨M, hM⟩ : ∃ M, M = max q L := ⟨_, rfl⟩
      rw [← hM] at HR6
      have hmx : (if q < L then (L : Int) else (q : Int)) = (M : Int) := by
        rw [hM]
        by_cases hc : q < L
        · rw [if_pos hc]
          omega
        · rw [if_neg hc]
          omega
      have c4 : y.drew.cell? ⟨g, 173, none⟩ = some (.int .u64 (q : Int)) := by rw [hq]; exact HY.out.1.drew.hi
      clear hM hL0 hhL hq t3
      go_wp2_with fail
      clear t1 t2 d0i
      refine wp_region_noPanic ?_
      refine wp_region_held_drew (S := fun _ => True) (by kernel_rfl) (trivial) (fun hHeld => ?_)
      refine hand_take 0 (some 68) (.pointer (some ⟨g, 0, none⟩)) rfl rfl (by kernel_rfl) (by kernel_rfl) (by kernel_rfl) (fun _ _ _ h => h) (Or.inl ⟨by kernel_rfl, fun x' hSx => by go_simp⟩) hHeld ?_
      try simp only [Act.put, List.setIfInBounds_toArray, List.set_cons_zero, List.set_cons_succ]
      refine hand_take 1 (some 69) (.pointer (some ⟨g, 0, none⟩)) rfl rfl (by kernel_rfl) (by kernel_rfl) (by kernel_rfl) (fun _ _ _ h => h) (Or.inl ⟨by kernel_rfl, fun x' hSx => by go_simp⟩) hHeld ?_
      try simp only [Act.put, List.setIfInBounds_toArray, List.set_cons_zero, List.set_cons_succ]
      refine hand_take 2 (some 70) (.pointer (some ⟨g, 0, none⟩)) rfl rfl (by kernel_rfl) (by kernel_rfl) (by kernel_rfl) (fun _ _ _ h => h) (Or.inl ⟨by kernel_rfl, fun x' hSx => by go_simp⟩) hHeld ?_
      try simp only [Act.put, List.setIfInBounds_toArray, List.set_cons_zero, List.set_cons_succ]
      refine hand_take 3 (some 71) (.pointer (some ⟨g, 173, none⟩)) rfl rfl (by kernel_rfl) (by kernel_rfl) (by kernel_rfl) (fun _ _ _ h => h) (Or.inl ⟨by kernel_rfl, fun x' hSx => by go_simp⟩) hHeld ?_
      try simp only [Act.put, List.setIfInBounds_toArray, List.set_cons_zero, List.set_cons_succ]
      refine hand_take 5 (some 73) (.pointer (some ⟨g, 0, none⟩)) rfl rfl (by kernel_rfl) (by kernel_rfl) (by kernel_rfl) (fun _ _ _ h => h) (Or.inl ⟨by kernel_rfl, fun x' hSx => by go_simp⟩) hHeld ?_
      try simp only [Act.put, List.setIfInBounds_toArray, List.set_cons_zero, List.set_cons_succ]
      refine hand_take 6 (some 74) (.int .i64 (n : Int)) rfl rfl (by kernel_rfl) (by kernel_rfl) (by kernel_rfl) (fun _ _ _ h => h) (Or.inl ⟨by kernel_rfl, fun x' hSx => by go_simp⟩) hHeld ?_
      try simp only [Act.put, List.setIfInBounds_toArray, List.set_cons_zero, List.set_cons_succ]
      refine hand_take 7 (some 75) (.pointer (some ⟨g, o, none⟩)) rfl rfl (by kernel_rfl) (by kernel_rfl) (by kernel_rfl) (fun _ _ _ h => h) (Or.inl ⟨by kernel_rfl, fun x' hSx => by go_simp⟩) hHeld ?_
      try simp only [Act.put, List.setIfInBounds_toArray, List.set_cons_zero, List.set_cons_succ]
      refine hand_take 8 (some 76) (.agg #[.int .i64 3, .int .u64 0, .int .i64 0, .int .u64 0, .int .i64 0, .int .i64 0, .int .i64 0, .string ⟨#[]⟩, .string ⟨#[]⟩, .int .u64 0, .int .i64 0, .int .u64 0, .slice none 0 0, .slice none 0 0]) rfl rfl (by kernel_rfl) (by kernel_rfl) (by kernel_rfl) (fun _ _ _ h => h) (Or.inl ⟨by kernel_rfl, fun x' hSx => by go_simp⟩) hHeld ?_
      try simp only [Act.put, List.setIfInBounds_toArray, List.set_cons_zero, List.set_cons_succ]
      refine hand_two 4 9 (by kernel_rfl) ?_ ?_
      · skip
        refine hand_run (some 72) rfl rfl rfl (.int .u64 (q : Int)) y.drew ?hz ?_
        (case hz => go_simp)
        refine ⟨trivial, ?_⟩
        try simp only [Act.put, List.setIfInBounds_toArray, List.set_cons_zero, List.set_cons_succ]
        refine hand_one 9 (by kernel_rfl) ?_
        refine hand_call (some 77) rfl rfl rfl 53 #[.pointer (some ⟨g, 0, none⟩), .int .i64 (n : Int), .pointer (some ⟨g, o, none⟩), .agg #[.int .i64 3, .int .u64 0, .int .i64 0, .int .u64 0, .int .i64 0, .int .i64 0, .int .i64 0, .string ⟨#[]⟩, .string ⟨#[]⟩, .int .u64 0, .int .i64 0, .int .u64 0, .slice none 0 0, .slice none 0 0], .int .u64 0] ?he ((HL.out y.drew HY.out.1.drew).mono ?_)
        (case he => go_simp)
        rintro e z ⟨F1, rfl, hb1, ha1⟩
        have c5 : z.cell? ⟨g, 173, none⟩ = some (.int .u64 (q : Int)) := by
          rw [← HLh.out]
          exact hb1.hi
        have HZ : Hid (HB z B g F1 hL ∧ Aft15 F F1 w z) := ⟨hb1, (HY.out.2.2.1.later (below_drew (Below.refl _ _))).trans ha1⟩
        clear hb1 ha1
        refine ⟨_, rfl, trivial, ?_⟩
        try simp only [Act.put, List.setIfInBounds_toArray, List.set_cons_zero, List.set_cons_succ]
        refine hand_take 10 (some 78) (.int .u64 (M : Int)) rfl rfl (by kernel_rfl) (by kernel_rfl) (by kernel_rfl) (fun _ _ _ h => h) (Or.inl ⟨by kernel_rfl, fun x' hSx => by go_simp⟩) hHeld ?_
        try simp only [Act.put, List.setIfInBounds_toArray, List.set_cons_zero, List.set_cons_succ]
        refine hand_take 11 (some 79) (.pointer (some ⟨g, 0, none⟩)) rfl rfl (by kernel_rfl) (by kernel_rfl) (by kernel_rfl) (fun _ _ _ h => h) (Or.inl ⟨by kernel_rfl, fun x' hSx => by go_simp⟩) hHeld ?_
        try simp only [Act.put, List.setIfInBounds_toArray, List.set_cons_zero, List.set_cons_succ]
        refine hand_take 12 (some 80) (.pointer (some ⟨g, 173, none⟩)) rfl rfl (by kernel_rfl) (by kernel_rfl) (by kernel_rfl) (fun _ _ _ h => h) (Or.inl ⟨by kernel_rfl, fun x' hSx => by go_simp⟩) hHeld ?_
        try simp only [Act.put, List.setIfInBounds_toArray, List.set_cons_zero, List.set_cons_succ]
        refine hand_one 13 (by kernel_rfl) ?_
        have fr := HZ.out.1.free 173
        have q5 := HZ.out.1.cell (h' := hL.setHi M) 173 (.int .u64 (M : Int)) (fun cs a b c H => H.setHi M) rfl rfl rfl
        have H5 : Hid (HB (z.setCell ⟨g, 173, none⟩ (.int .u64 (M : Int))) B g F1 (hL.setHi M) ∧ Aft15 F F1 w (z.setCell ⟨g, 173, none⟩ (.int .u64 (M : Int)))) := ⟨q5.1, HZ.out.2.trans q5.2⟩
        clear q5
        refine hand_skip15 rfl rfl rfl (z.setCell ⟨g, 173, none⟩ (.int .u64 (M : Int))) ?hs ?_
        (case hs => go_simp)
        refine ⟨trivial, ?_⟩
        try simp only [Act.put, List.setIfInBounds_toArray, List.set_cons_zero, List.set_cons_succ]
        refine wpAnyH_done (by kernel_rfl) ?_ _
        refine NoPanic.normal ?_
        clear hmx c4 c5 fr HZ hHeld
        refine gen_w (fun z => HB z B g F1 (hL.setHi M) ∧ Aft15 F F1 w z) H5.out ?_
        clear H5
        intro z2 H0
        have H5 := hide H0
        have f1 := H0.1.free (o + 1)
        have f1c := (H0.1.tu hi HO.out).2.1
        clear H0
        go_wp2_with fail
        have q6 := H5.out.1.cell (h' := (hL.setHi M).state i 3) (o + 1) (.int .i64 3) (fun cs a b c H => by rw [HO.out]; exact H.setTx hi _ 1 (by omega) _ rfl (fun k hk he => by
          rcases (show k = 0 ∨ k = 1 ∨ k = 2 ∨ k = 3 by omega) with rfl | rfl | rfl | rfl
          · rfl
          · exact absurd rfl he
          · rfl
          · rfl)) rfl rfl rfl
        have H6 : Hid (HB (z2.setCell ⟨g, o + 1, none⟩ (.int .i64 3)) B g F1 ((hL.setHi M).state i 3) ∧ Aft15 F F1 w (z2.setCell ⟨g, o + 1, none⟩ (.int .i64 3))) := ⟨q6.1, H5.out.2.trans q6.2⟩
        clear q6 H5
        refine (HFR.out _ F1 _ H6.out.1).mono ?_
        rintro e z3 ⟨rfl, hb3, ha3⟩
        have H7 : Hid (HB z3 B g F1 (((hL.setHi M).state i 3).free n i) ∧ Aft15 F F1 w z3) := ⟨hb3, H6.out.2.trans ha3⟩
        clear hb3 ha3 H6
        go_wp2
        refine bodyPost_end (results_none rfl _ _ _) rfl ⟨F1, rfl, ?_, H7.out.2⟩
        rw [HR6.out]
        exact H7.out.1
      · skip
        refine hand_call (some 77) rfl rfl rfl 53 #[.pointer (some ⟨g, 0, none⟩), .int .i64 (n : Int), .pointer (some ⟨g, o, none⟩), .agg #[.int .i64 3, .int .u64 0, .int .i64 0, .int .u64 0, .int .i64 0, .int .i64 0, .int .i64 0, .string ⟨#[]⟩, .string ⟨#[]⟩, .int .u64 0, .int .i64 0, .int .u64 0, .slice none 0 0, .slice none 0 0], .int .u64 0] ?he ((HL.out y.drew HY.out.1.drew).mono ?_)
        (case he => go_simp)
        rintro e z ⟨F1, rfl, hb1, ha1⟩
        have c5 : z.cell? ⟨g, 173, none⟩ = some (.int .u64 (q : Int)) := by
          rw [← HLh.out]
          exact hb1.hi
        have HZ : Hid (HB z B g F1 hL ∧ Aft15 F F1 w z) := ⟨hb1, (HY.out.2.2.1.later (below_drew (Below.refl _ _))).trans ha1⟩
        clear hb1 ha1
        refine ⟨_, rfl, trivial, ?_⟩
        try simp only [Act.put, List.setIfInBounds_toArray, List.set_cons_zero, List.set_cons_succ]
        refine hand_one 4 (by kernel_rfl) ?_
        refine hand_run (some 72) rfl rfl rfl (.int .u64 (q : Int)) z ?hz ?_
        (case hz => go_simp)
        refine ⟨trivial, ?_⟩
        try simp only [Act.put, List.setIfInBounds_toArray, List.set_cons_zero, List.set_cons_succ]
        refine hand_take 10 (some 78) (.int .u64 (M : Int)) rfl rfl (by kernel_rfl) (by kernel_rfl) (by kernel_rfl) (fun _ _ _ h => h) (Or.inl ⟨by kernel_rfl, fun x' hSx => by go_simp⟩) hHeld ?_
        try simp only [Act.put, List.setIfInBounds_toArray, List.set_cons_zero, List.set_cons_succ]
        refine hand_take 11 (some 79) (.pointer (some ⟨g, 0, none⟩)) rfl rfl (by kernel_rfl) (by kernel_rfl) (by kernel_rfl) (fun _ _ _ h => h) (Or.inl ⟨by kernel_rfl, fun x' hSx => by go_simp⟩) hHeld ?_
        try simp only [Act.put, List.setIfInBounds_toArray, List.set_cons_zero, List.set_cons_succ]
        refine hand_take 12 (some 80) (.pointer (some ⟨g, 173, none⟩)) rfl rfl (by kernel_rfl) (by kernel_rfl) (by kernel_rfl) (fun _ _ _ h => h) (Or.inl ⟨by kernel_rfl, fun x' hSx => by go_simp⟩) hHeld ?_
        try simp only [Act.put, List.setIfInBounds_toArray, List.set_cons_zero, List.set_cons_succ]
        refine hand_one 13 (by kernel_rfl) ?_
        have fr := HZ.out.1.free 173
        have q5 := HZ.out.1.cell (h' := hL.setHi M) 173 (.int .u64 (M : Int)) (fun cs a b c H => H.setHi M) rfl rfl rfl
        have H5 : Hid (HB (z.setCell ⟨g, 173, none⟩ (.int .u64 (M : Int))) B g F1 (hL.setHi M) ∧ Aft15 F F1 w (z.setCell ⟨g, 173, none⟩ (.int .u64 (M : Int)))) := ⟨q5.1, HZ.out.2.trans q5.2⟩
        clear q5
        refine hand_skip15 rfl rfl rfl (z.setCell ⟨g, 173, none⟩ (.int .u64 (M : Int))) ?hs ?_
        (case hs => go_simp)
        refine ⟨trivial, ?_⟩
        try simp only [Act.put, List.setIfInBounds_toArray, List.set_cons_zero, List.set_cons_succ]
        refine wpAnyH_done (by kernel_rfl) ?_ _
        refine NoPanic.normal ?_
        clear hmx c4 c5 fr HZ hHeld
        refine gen_w (fun z => HB z B g F1 (hL.setHi M) ∧ Aft15 F F1 w z) H5.out ?_
        clear H5
        intro z2 H0
        have H5 := hide H0
        have f1 := H0.1.free (o + 1)
        have f1c := (H0.1.tu hi HO.out).2.1
        clear H0
        go_wp2_with fail
        have q6 := H5.out.1.cell (h' := (hL.setHi M).state i 3) (o + 1) (.int .i64 3) (fun cs a b c H => by rw [HO.out]; exact H.setTx hi _ 1 (by omega) _ rfl (fun k hk he => by
          rcases (show k = 0 ∨ k = 1 ∨ k = 2 ∨ k = 3 by omega) with rfl | rfl | rfl | rfl
          · rfl
          · exact absurd rfl he
          · rfl
          · rfl)) rfl rfl rfl
        have H6 : Hid (HB (z2.setCell ⟨g, o + 1, none⟩ (.int .i64 3)) B g F1 ((hL.setHi M).state i 3) ∧ Aft15 F F1 w (z2.setCell ⟨g, o + 1, none⟩ (.int .i64 3))) := ⟨q6.1, H5.out.2.trans q6.2⟩
        clear q6 H5
        refine (HFR.out _ F1 _ H6.out.1).mono ?_
        rintro e z3 ⟨rfl, hb3, ha3⟩
        have H7 : Hid (HB z3 B g F1 (((hL.setHi M).state i 3).free n i) ∧ Aft15 F F1 w z3) := ⟨hb3, H6.out.2.trans ha3⟩
        clear hb3 ha3 H6
        go_wp2
        refine bodyPost_end (results_none rfl _ _ _) rfl ⟨F1, rfl, ?_, H7.out.2⟩
        rw [HR6.out]
        exact H7.out.1
    · skip
      have e1b : (st == 1) = false := by simpa using e1
      have e1d : decide (st = 1) = false := by simpa using e1
      go_wp2
      refine bodyPost_end (results_none rfl _ _ _) rfl ⟨F, rfl, ?_, HY.out.2.2.1⟩
      rw [HD2.out]
      unfold Hs.does2
      rw [if_neg (fun q => e1 (HTT.out.1.trans q.2)), if_neg (by omega), if_neg (by omega), if_neg (by omega), if_neg (by omega)]
      exact HY.out.1
  · skip
    by_cases e3 : st = 3
    · subst e3
      have HR6 : Hid (h.does ac = ((h.log n i (bare15 5 Ch.zero 0) 0).free n i).setTx i Tu.zero) := by
        show h.does ac = _
        rw [HD2.out]
        unfold Hs.does2
        rw [if_neg (by omega), if_pos ⟨rfl, .inl HTT.out.1.symm⟩]
      have HL := hide (fun z (hz : HB z B g F h) => HLOG.out z F 5 0 hz)
      rw [lit_bare, show ((0 : Nat) : Int) = 0 from rfl] at HL
      unfold litR at HL
      obtain ⟨hL, hhL⟩ : ∃ q, q = h.log n i (bare15 5 Ch.zero 0) 0 := ⟨_, rfl⟩
      rw [← hhL] at HL HR6
      clear hhL
      go_wp2_with fail
      refine (HL.out y HY.out.1).mono ?_
      rintro e z ⟨F1, rfl, hb1, ha1⟩
      have HZ : Hid (HB z B g F1 hL ∧ Aft15 F F1 w z) := ⟨hb1, HY.out.2.2.1.trans ha1⟩
      clear hb1 ha1 t1 t2 t3 d0i
      go_wp2_with fail
      refine (HFR.out z F1 hL HZ.out.1).mono ?_
      rintro e z1 ⟨rfl, hb1, ha1⟩
      have hq7 : ∃ x, HAt z1 B g x (hL.free n i) ∧ F1 = FH g x := hb1
      obtain ⟨x, HX, hF⟩ := hq7
      have HXB : Hid (HAt z1 B g x (hL.free n i) ∧ F1 = FH g x ∧ Aft15 F F1 w z1) := ⟨HX, hF, HZ.out.2.trans ha1⟩
      have hsz : o + (tnA Tu.zero).toArray.size ≤ x.cs.size := by
        rw [HX.cells.1, HO.out]
        show 9 + i * 4 + 4 ≤ 174
        omega
      have hone := tnA_one Tu.zero
      clear HX hF hb1 ha1 HZ
      go_wp2_with (refine wpList_store_part rfl 59 (.tmp 123) (.tmp 122) rfl g o 69 x.cs (tnA Tu.zero).toArray rfl rfl HXB.out.1.blk infoTu15 hsz hone ?_; intro w2 hr2 ho2; refine stop10 ?_)
      refine unstop10 ?_
      go_wp2
      have q8 : HB w2 B g F1 ((hL.free n i).setTx i Tu.zero) ∧ Aft15 F1 F1 z1 w2 := by
        have hr3 : RowAt w2 g 69 (partA x.cs (9 + i * 4) (tnA Tu.zero)) := by
          rw [← HO.out]
          exact hr2
        have hc3 := HXB.out.1.cells.allTx hi Tu.zero
        have hb3 := HXB.out.1.own ho2 hr3 hc3 rfl rfl rfl
        rw [HXB.out.2.1]
        exact ⟨⟨_, hb3, rfl⟩, aft_own ho2 _⟩
      refine bodyPost_end (results_none rfl _ _ _) rfl ⟨F1, rfl, ?_, HXB.out.2.2.trans q8.2⟩
      rw [HR6.out]
      exact q8.1
    by_cases e2 : st = 2
    · subst e2
      by_cases e4 : nx = 0
      · subst e4
        have HR6 : Hid (h.does ac = ((h.log n i (bare15 5 Ch.zero 0) 0).free n i).setTx i Tu.zero) := by
          show h.does ac = _
          rw [HD2.out]
          unfold Hs.does2
          rw [if_neg (by omega), if_pos ⟨rfl, .inr ⟨HTT.out.1.symm, HTT.out.2.1.symm⟩⟩]
        have HL := hide (fun z (hz : HB z B g F h) => HLOG.out z F 5 0 hz)
        rw [lit_bare, show ((0 : Nat) : Int) = 0 from rfl] at HL
        unfold litR at HL
        obtain ⟨hL, hhL⟩ : ∃ q, q = h.log n i (bare15 5 Ch.zero 0) 0 := ⟨_, rfl⟩
        rw [← hhL] at HL HR6
        clear hhL
        go_wp2_with fail
        refine (HL.out y HY.out.1).mono ?_
        rintro e z ⟨F1, rfl, hb1, ha1⟩
        have HZ : Hid (HB z B g F1 hL ∧ Aft15 F F1 w z) := ⟨hb1, HY.out.2.2.1.trans ha1⟩
        clear hb1 ha1 t1 t2 t3 d0i
        go_wp2_with fail
        refine (HFR.out z F1 hL HZ.out.1).mono ?_
        rintro e z1 ⟨rfl, hb1, ha1⟩
        have hq7 : ∃ x, HAt z1 B g x (hL.free n i) ∧ F1 = FH g x := hb1
        obtain ⟨x, HX, hF⟩ := hq7
        have HXB : Hid (HAt z1 B g x (hL.free n i) ∧ F1 = FH g x ∧ Aft15 F F1 w z1) := ⟨HX, hF, HZ.out.2.trans ha1⟩
        have hsz : o + (tnA Tu.zero).toArray.size ≤ x.cs.size := by
          rw [HX.cells.1, HO.out]
          show 9 + i * 4 + 4 ≤ 174
          omega
        have hone := tnA_one Tu.zero
        clear HX hF hb1 ha1 HZ
        go_wp2_with (refine wpList_store_part rfl 59 (.tmp 123) (.tmp 122) rfl g o 69 x.cs (tnA Tu.zero).toArray rfl rfl HXB.out.1.blk infoTu15 hsz hone ?_; intro w2 hr2 ho2; refine stop10 ?_)
        refine unstop10 ?_
        go_wp2
        have q8 : HB w2 B g F1 ((hL.free n i).setTx i Tu.zero) ∧ Aft15 F1 F1 z1 w2 := by
          have hr3 : RowAt w2 g 69 (partA x.cs (9 + i * 4) (tnA Tu.zero)) := by
            rw [← HO.out]
            exact hr2
          have hc3 := HXB.out.1.cells.allTx hi Tu.zero
          have hb3 := HXB.out.1.own ho2 hr3 hc3 rfl rfl rfl
          rw [HXB.out.2.1]
          exact ⟨⟨_, hb3, rfl⟩, aft_own ho2 _⟩
        refine bodyPost_end (results_none rfl _ _ _) rfl ⟨F1, rfl, ?_, HXB.out.2.2.trans q8.2⟩
        rw [HR6.out]
        exact q8.1
      have e4b : ((nx : Int) == 0) = false := by simpa using e4
      have e4d : decide ((nx : Int) = 0) = false := by simpa using e4
      go_wp2
      refine bodyPost_end (results_none rfl _ _ _) rfl ⟨F, rfl, ?_, HY.out.2.2.1⟩
      rw [HD2.out]
      unfold Hs.does2
      rw [if_neg (by omega), if_neg (fun q => by rcases q.2 with a | a; exact absurd (HTT.out.1.trans a) (by decide); exact e4 (HTT.out.2.1.trans a.2)), if_neg (by omega), if_neg (by omega), if_neg (by omega)]
      exact HY.out.1
    have e3b : (st == 3) = false := by simpa using e3
    have e3d : decide (st = 3) = false := by simpa using e3
    have e2b : (st == 2) = false := by simpa using e2
    have e2d : decide (st = 2) = false := by simpa using e2
    go_wp2
    refine bodyPost_end (results_none rfl _ _ _) rfl ⟨F, rfl, ?_, HY.out.2.2.1⟩
    rw [HD2.out]
    unfold Hs.does2
    rw [if_neg (by omega), if_neg (fun q => by rcases q.2 with a | a; exact e3 (HTT.out.1.trans a); exact e2 (HTT.out.1.trans a.1)), if_neg (by omega), if_neg (by omega), if_neg (by omega)]
    exact HY.out.1
  · skip
    by_cases e1 : st = 1
    · subst e1
      have HR6 : Hid (h.does ac = (h.log n i (bare15 4 Ch.zero 0) 0).state i 2) := by
        show h.does ac = _
        rw [HD2.out]
        unfold Hs.does2
        rw [if_neg (by omega), if_neg (by omega), if_pos ⟨rfl, HTT.out.1.symm⟩]
      have HL := hide (fun z (hz : HB z B g F h) => HLOG.out z F 4 0 hz)
      rw [lit_bare, show ((0 : Nat) : Int) = 0 from rfl] at HL
      unfold litR at HL
      obtain ⟨hL, hhL⟩ : ∃ q, q = h.log n i (bare15 4 Ch.zero 0) 0 := ⟨_, rfl⟩
      rw [← hhL] at HL HR6
      clear hhL t3
      go_wp2_with fail
      refine (HL.out y HY.out.1).mono ?_
      rintro e z ⟨F1, rfl, hb1, ha1⟩
      have HZ : Hid (HB z B g F1 hL ∧ Aft15 F F1 w z) := ⟨hb1, HY.out.2.2.1.trans ha1⟩
      have f1 := hb1.free (o + 1)
      have f1c := (hb1.tu hi HO.out).2.1
      clear hb1 ha1 t1 t2 d0i
      go_wp2
      have q6 := HZ.out.1.cell (h' := (hL).state i 2) (o + 1) (.int .i64 2) (fun cs a b c H => by rw [HO.out]; exact H.setTx hi _ 1 (by omega) _ rfl (fun k hk he => by
        rcases (show k = 0 ∨ k = 1 ∨ k = 2 ∨ k = 3 by omega) with rfl | rfl | rfl | rfl
        · rfl
        · exact absurd rfl he
        · rfl
        · rfl)) rfl rfl rfl
      refine bodyPost_end (results_none rfl _ _ _) rfl ⟨F1, rfl, ?_, HZ.out.2.trans q6.2⟩
      rw [HR6.out]
      exact q6.1
    · skip
      have e1b : (st == 1) = false := by simpa using e1
      have e1d : decide (st = 1) = false := by simpa using e1
      go_wp2
      refine bodyPost_end (results_none rfl _ _ _) rfl ⟨F, rfl, ?_, HY.out.2.2.1⟩
      rw [HD2.out]
      unfold Hs.does2
      rw [if_neg (by omega), if_neg (by omega), if_neg (fun q => e1 (HTT.out.1.trans q.2)), if_neg (by omega), if_neg (by omega)]
      exact HY.out.1
  · skip
    have HBK := hide (hback15 y B g n i o F h HY.out.1 hn hi HO.out HS.out.few (HS.out.rise n hn) (HS.out.pgs n hn) (by have a := HS.out.next i hi; rw [HI3.out] at a; exact a))
    have HR6 : Hid (h.does ac = h.back n i) := by
      show h.does ac = _
      rw [HD2.out]
      unfold Hs.does2
      rw [if_neg (by omega), if_neg (by omega), if_neg (by omega), if_pos (by omega)]
    go_wp2_with fail
    clear t1 t2 t3 d0i
    refine HBK.out.mono ?_
    rintro e z ⟨F1, rfl, hb1, ha1⟩
    have HZ : Hid (HB z B g F1 (h.back n i) ∧ Aft15 F F1 w z) := ⟨hb1, HY.out.2.2.1.trans ha1⟩
    clear hb1 ha1
    go_wp2
    refine bodyPost_end (results_none rfl _ _ _) rfl ⟨F1, rfl, ?_, HZ.out.2⟩
    rw [HR6.out]
    exact HZ.out.1
  · skip
    have HBK := hide (hback15 y B g n i o F h HY.out.1 hn hi HO.out HS.out.few (HS.out.rise n hn) (HS.out.pgs n hn) (by have a := HS.out.next i hi; rw [HI3.out] at a; exact a))
    have HR6 : Hid (h.does ac = h.back n i) := by
      show h.does ac = _
      rw [HD2.out]
      unfold Hs.does2
      rw [if_neg (by omega), if_neg (by omega), if_neg (by omega), if_pos (by omega)]
    go_wp2_with fail
    clear t1 t2 t3 d0i
    refine HBK.out.mono ?_
    rintro e z ⟨F1, rfl, hb1, ha1⟩
    have HZ : Hid (HB z B g F1 (h.back n i) ∧ Aft15 F F1 w z) := ⟨hb1, HY.out.2.2.1.trans ha1⟩
    clear hb1 ha1
    go_wp2
    refine bodyPost_end (results_none rfl _ _ _) rfl ⟨F1, rfl, ?_, HZ.out.2⟩
    rw [HR6.out]
    exact HZ.out.1
  · skip
    by_cases e1 : st = 1
    · subst e1
      have HR6 : Hid (h.does ac = h.log n i (bare15 6 Ch.zero (1 + (sl : Nat))) 0) := by
        show h.does ac = _
        rw [HD2.out]
        unfold Hs.does2
        rw [if_neg (by omega), if_neg (by omega), if_neg (by omega), if_neg (by omega), if_pos ⟨rfl, HTT.out.1.symm⟩, ← HSL.out]
      have HL := hide (fun z (hz : HB z B g F h) => HLOG.out z F 6 (1 + (sl : Nat)) hz)
      rw [lit_bare, show ((0 : Nat) : Int) = 0 from rfl] at HL
      unfold litR at HL
      obtain ⟨hL, hhL⟩ : ∃ q, q = h.log n i (bare15 6 Ch.zero (1 + (sl : Nat))) 0 := ⟨_, rfl⟩
      rw [← hhL] at HL HR6
      clear hhL t3
      have a4 := HY.out.2.1.cell 4 (.int .i64 ac.sl) rfl
      go_wp2_with fail
      clear t1 t2 d0i
      refine (HP4.out y).mono ?_
      rintro e z0 ⟨rfl, hz0⟩
      subst z0
      go_wp2_with fail
      refine (HL.out y HY.out.1).mono ?_
      rintro e z ⟨F1, rfl, hb1, ha1⟩
      have HZ : Hid (HB z B g F1 hL ∧ Aft15 F F1 w z) := ⟨hb1, HY.out.2.2.1.trans ha1⟩
      clear hb1 ha1 a4
      go_wp2
      refine bodyPost_end (results_none rfl _ _ _) rfl ⟨F1, rfl, ?_, HZ.out.2⟩
      rw [HR6.out]
      exact HZ.out.1
    · skip
      have e1b : (st == 1) = false := by simpa using e1
      have e1d : decide (st = 1) = false := by simpa using e1
      go_wp2
      refine bodyPost_end (results_none rfl _ _ _) rfl ⟨F, rfl, ?_, HY.out.2.2.1⟩
      rw [HD2.out]
      unfold Hs.does2
      rw [if_neg (by omega), if_neg (by omega), if_neg (by omega), if_neg (by omega), if_neg (fun q => e1 (HTT.out.1.trans q.2))]
      exact HY.out.1
end Go.Proofs.Ytohdmmfmjadipaa

/-
  Changes that are made of cells, one behind the other: which fit, and what they leave. Of no program.
-/
namespace Go.Proofs.Ytohdmmfmjadipaa
open Go.RowKit
set_option linter.unusedVariables false

/-- A change's cell, among all of all pages. -/
def cellX (c : Ch) : Nat := c.pg.toNat * 8 + c.at
abbrev Cel := Bool × ByteArray
def doC (f : Nat → Cel) (c : Ch) : Nat → Cel := upd f (cellX c) (c.makeU, c.makeV)
def fitsC : (Nat → Cel) → List Ch → Prop
  | _, [] => True
  | f, c :: cs => f (cellX c) = (c.wantU, c.wantV) ∧ fitsC (doC f c) cs
def runC : (Nat → Cel) → List Ch → Nat → Cel
  | f, [] => f
  | f, c :: cs => runC (doC f c) cs
theorem doC_at (f : Nat → Cel) (c : Ch) : doC f c (cellX c) = (c.makeU, c.makeV) := upd_same _ _ _
theorem doC_out (f : Nat → Cel) (c : Ch) (x : Nat) (h : x ≠ cellX c) : doC f c x = f x := upd_other _ _ _ _ h
theorem doC_like {f g : Nat → Cel} (c : Ch) {M : Nat → Prop} (h : ∀ x, M x → f x = g x) : ∀ x, M x → doC f c x = doC g c x := fun x hx => by
  unfold doC upd
  by_cases e : x = cellX c
  · rw [if_pos e, if_pos e]
  · rw [if_neg e, if_neg e]
    exact h x hx
theorem fitsC_like {M : Nat → Prop} : ∀ (cs : List Ch) (f g : Nat → Cel), (∀ c ∈ cs, M (cellX c)) → (∀ x, M x → f x = g x) → fitsC f cs → fitsC g cs
  | [], _, _, _, _, _ => trivial
  | c :: cs, f, g, hm, h, hf => by
    refine ⟨by rw [← h _ (hm c (by simp))]; exact hf.1, fitsC_like cs _ _ (fun d hd => hm d (List.mem_cons_of_mem _ hd)) (doC_like c h) hf.2⟩
theorem runC_like {M : Nat → Prop} : ∀ (cs : List Ch) (f g : Nat → Cel), (∀ x, M x → f x = g x) → ∀ x, M x → runC f cs x = runC g cs x
  | [], _, _, h, x, hx => h x hx
  | c :: cs, f, g, h, x, hx => runC_like cs _ _ (doC_like c h) x hx
theorem runC_out : ∀ (cs : List Ch) (f : Nat → Cel) (x : Nat), (∀ c ∈ cs, cellX c ≠ x) → runC f cs x = f x
  | [], _, _, _ => rfl
  | c :: cs, f, x, h => by
    show runC (doC f c) cs x = f x
    rw [runC_out cs _ x (fun d hd => h d (List.mem_cons_of_mem _ hd)), doC_out _ _ _ (fun e => h c (by simp) e.symm)]
theorem runC_append : ∀ (cs ds : List Ch) (f : Nat → Cel), runC f (cs ++ ds) = runC (runC f cs) ds
  | [], _, _ => rfl
  | c :: cs, ds, f => runC_append cs ds (doC f c)
theorem fitsC_append : ∀ (cs ds : List Ch) (f : Nat → Cel), fitsC f (cs ++ ds) ↔ fitsC f cs ∧ fitsC (runC f cs) ds
  | [], _, _ => ⟨fun h => ⟨trivial, h⟩, fun h => h.2⟩
  | c :: cs, ds, f => by
    have ih := fitsC_append cs ds (doC f c)
    constructor
    · rintro ⟨h1, h2⟩
      exact ⟨⟨h1, (ih.1 h2).1⟩, (ih.1 h2).2⟩
    · rintro ⟨⟨h1, h2⟩, h3⟩
      exact ⟨h1, ih.2 ⟨h2, h3⟩⟩
/-- A change taken back at once. -/
theorem doC_inv (f : Nat → Cel) (c : Ch) (hc : c.right) (h : f (cellX c) = (c.wantU, c.wantV)) : cellX (invC c) = cellX c ∧ doC f c (cellX c) = ((invC c).wantU, (invC c).wantV) ∧ doC (doC f c) (invC c) = f := by
  obtain ⟨h1, h2, h3, h4, h5, h6, h7⟩ := inv_right c hc
  have e : cellX (invC c) = cellX c := by
    unfold cellX
    rw [h2]
    unfold invC
    rw [if_pos hc]
  refine ⟨e, by rw [doC_at, h3, h4], ?_⟩
  funext x
  by_cases hx : x = cellX c
  · subst hx
    rw [show doC (doC f c) (invC c) (cellX c) = doC (doC f c) (invC c) (cellX (invC c)) by rw [e], doC_at, h5, h6, h]
  · rw [doC_out _ _ _ (by rw [e]; exact hx), doC_out _ _ _ hx]
/-- Two lists of changes of cells of their own can be made in either order. -/
theorem both_ways (cs ds : List Ch) (f : Nat → Cel) (M : Nat → Prop) (hc : ∀ c ∈ cs, M (cellX c)) (hd : ∀ d ∈ ds, ¬ M (cellX d)) (h1 : fitsC f cs) (h2 : fitsC f ds) :
    fitsC f (cs ++ ds) ∧ fitsC f (ds ++ cs) ∧ ∀ x, runC f (cs ++ ds) x = runC f (ds ++ cs) x := by
  have a1 : ∀ x, ¬ M x → f x = runC f cs x := fun x hx => (runC_out cs f x (fun c h e => hx (e ▸ hc c h))).symm
  have a2 : ∀ x, M x → f x = runC f ds x := fun x hx => (runC_out ds f x (fun d h e => hd d h (e ▸ hx))).symm
  refine ⟨(fitsC_append _ _ _).2 ⟨h1, fitsC_like ds _ _ hd a1 h2⟩, (fitsC_append _ _ _).2 ⟨h2, fitsC_like cs _ _ hc a2 h1⟩, fun x => ?_⟩
  rw [runC_append, runC_append]
  by_cases hx : M x
  · rw [runC_out ds _ x (fun d h e => hd d h (e ▸ hx))]
    exact runC_like (M := M) cs _ _ a2 x hx
  · rw [runC_out cs (runC f ds) x (fun c h e => hx (e ▸ hc c h))]
    exact (runC_like (M := fun x => ¬ M x) ds _ _ a1 x hx).symm
end Go.Proofs.Ytohdmmfmjadipaa

/-
  What every history keeps to. Of no program.
-/
namespace Go.Proofs.Ytohdmmfmjadipaa
open Go.RowKit
set_option linter.unusedVariables false

def Hs.cell (h : Hs) (x : Nat) : Cel := ((h.pg (x / 8)).u (x % 8), (h.pg (x / 8)).s (x % 8))
def Linked (l : List Rec) (t : Int) (m : Nat) : Prop := m = 0 ∨ ∃ q ∈ l, q.l = m ∧ q.t = t
def chs (l : List Rec) : List Ch := l.map (·.c)
def hasN (o : Lo) (n : Nat) (nr : Int) : Prop := o.nd = (n : Int) ∧ o.nr = nr
def Hs.has (h : Hs) (i x : Nat) : Prop := hasN (h.lk x) (i / 3) (h.tx i).nr
def Hs.plan (h : Hs) (i : Nat) : List Rec := planL (h.lg (i / 3)) (h.tx i).next 0
/-- Under way, and not committed. -/
def Hs.live (h : Hs) (i : Nat) : Prop := (h.tx i).nr ≠ 0 ∧ (h.tx i).st ≠ 3
/-- What taking a transaction back does. -/
structure Hs.undo (h : Hs) (i : Nat) : Prop where
  fit : fitsC h.cell (chs (h.plan i))
  mine : ∀ c ∈ chs (h.plan i), h.has i (cellX c) ∧ c.right ∧ c.pg < 4
  was : ∀ x, x < 32 → h.has i x → runC h.cell (chs (h.plan i)) x = ((h.lk x).u, (h.lk x).s)
/-- What it has changed is locked by it; and the first change of each cell tells what that was. -/
structure Hs.did (h : Hs) (i : Nat) : Prop where
  locked : ∀ r ∈ h.lg (i / 3), r.t = (h.tx i).nr → r.k = 1 → h.has i (cellX r.c)
  first : ∀ pre r post, h.lg (i / 3) = pre ++ r :: post → r.t = (h.tx i).nr → r.k = 1 → (∀ q ∈ pre, q.t = (h.tx i).nr → q.k = 1 → cellX q.c ≠ cellX r.c) → ((h.lk (cellX r.c)).u, (h.lk (cellX r.c)).s) = (r.c.wantU, r.c.wantV)
/-- A transaction under way against its node's log. -/
structure Tu.ok (t : Tu) (l : List Rec) (m : Int) : Prop where
  zero : t.nr = 0 → t = Tu.zero
  nr : t.nr ≠ 0 → 1 ≤ t.nr ∧ t.nr ≤ m ∧ 1 ≤ t.st ∧ t.st ≤ 3
  last : t.nr ≠ 0 → t.last = lastT l t.nr
  next : t.nr ≠ 0 → t.next = nextT l t.last
  noend : t.nr ≠ 0 → ∀ r ∈ l, r.t = t.nr → r.k ≠ 5
  nocom : t.nr ≠ 0 → t.st ≠ 3 → ∀ r ∈ l, r.t = t.nr → r.k ≠ 3
  com : t.nr ≠ 0 → t.st = 3 → ∃ r ∈ l, r.t = t.nr ∧ r.k = 3
structure Hs.ok (h : Hs) (N : Nat) : Prop where
  ck : ∀ n, n < 3 → h.ck n ≤ N
  hi : h.hi ≤ N
  ct : ∀ n, n < 3 → 0 ≤ h.ct n ∧ h.ct n ≤ (N : Int)
  pl : ∀ p, p < 4 → (h.pg p).l ≤ N
  pr : ∀ p, p < 4 → (h.pg p).right
  rise : ∀ n, n < 3 → Rise 0 (h.lg n)
  last : ∀ n, n < 3 → ∀ r ∈ h.lg n, r.l ≤ h.ck n
  recs : ∀ n, n < 3 → ∀ r ∈ h.lg n, r.k ≤ 6 ∧ 1 ≤ r.t ∧ r.t ≤ h.ct n ∧ (r.k ≤ 2 → r.c.pg < 4)
  chain : ∀ n, n < 3 → ∀ r ∈ h.lg n, Linked (h.lg n) r.t r.p ∧ Linked (h.lg n) r.t r.n
  txn : ∀ i, i < 9 → (h.tx i).ok (h.lg (i / 3)) (h.ct (i / 3))
  apart : ∀ i j, i < 9 → j < 9 → i / 3 = j / 3 → i ≠ j → (h.tx i).nr ≠ 0 → (h.tx i).nr ≠ (h.tx j).nr
  over : ∀ n, n < 3 → ∀ r ∈ h.lg n, (∃ i, i < 9 ∧ i / 3 = n ∧ (h.tx i).nr = r.t) ∨ ∃ e ∈ h.lg n, e.t = r.t ∧ e.k = 5
  locks : ∀ x, x < 32 → (h.lk x).nr ≠ 0 → ∃ i, i < 9 ∧ h.has i x ∧ h.live i
  undo : ∀ i, i < 9 → h.live i → h.undo i
  did : ∀ i, i < 9 → h.live i → h.did i
theorem upd_upd {α : Type} (f : Nat → α) (i : Nat) (x y : α) : upd (upd f i x) i y = upd f i y := by
  funext j
  unfold upd
  split <;> rfl
theorem cell_lt {c : Ch} (h : c.right) (hp : c.pg < 4) : cellX c < 32 := by
  have := h.at_lt
  have := h.1.1
  unfold cellX
  omega
theorem linked_more {l : List Rec} {t : Int} {m : Nat} (e : List Rec) (h : Linked l t m) : Linked (l ++ e) t m :=
  h.imp id fun ⟨q, h1, h2⟩ => ⟨q, List.mem_append.2 (.inl h1), h2⟩
theorem planL_push {l : List Rec} {e : Rec} (n u : Nat) (h : n ≠ e.l) : planL (l ++ [e]) n u = planL l n u := by
  rw [planL_snoc, if_neg (fun x => h x.symm)]
/-- Two transactions have no lock together. -/
theorem Hs.ok.alone {h : Hs} {N : Nat} (ok : h.ok N) {i j x : Nat} (hi : i < 9) (hj : j < 9) (hne : i ≠ j) (h0 : (h.tx i).nr ≠ 0) (h1 : h.has i x) : ¬ h.has j x := by
  intro h2
  obtain ⟨a1, a2⟩ := h1
  obtain ⟨b1, b2⟩ := h2
  have e : i / 3 = j / 3 := by rw [a1] at b1; omega
  exact ok.apart i j hi hj e hne h0 (by rw [← a2, b2])
theorem lastL_mem : ∀ (l : List Rec) (a : Nat), l ≠ [] → ∃ r ∈ l, lastL a l = r.l
  | [], _, h => absurd rfl h
  | [r], _, _ => ⟨r, by simp, rfl⟩
  | r :: q :: l, _, _ => by
    obtain ⟨x, h1, h2⟩ := lastL_mem (q :: l) r.l (by simp)
    exact ⟨x, List.mem_cons_of_mem _ h1, h2⟩
/-- One transaction logs a record. -/
structure Logs (h h' : Hs) (i : Nat) (e : Rec) (t' : Tu) : Prop where
  i9 : i < 9
  nr : (h.tx i).nr ≠ 0
  lg : h'.lg = upd h.lg (i / 3) (h.lg (i / 3) ++ [e])
  ck : h'.ck = upd h.ck (i / 3) e.l
  ct : h'.ct = h.ct
  tx : h'.tx = upd h.tx i t'
  et : e.t = (h.tx i).nr
  ep : e.p = (h.tx i).last
  el : h.ck (i / 3) < e.l
  er : e.right
  ek : e.k ≤ 6
  en : Linked (h.lg (i / 3)) e.t e.n
  ec : e.k ≤ 2 → e.c.pg < 4
  lk : ∀ x, x < 32 → h'.lk x = h.lk x ∨ (h'.lk x).nr = 0 ∨ hasN (h'.lk x) (i / 3) (h.tx i).nr
  keep : ∀ x, x < 32 → (h.lk x).nr ≠ 0 → ¬ h.has i x → h'.lk x = h.lk x ∧ h'.cell x = h.cell x
section
variable {h h' : Hs} {i N : Nat} {e : Rec} {t' : Tu}
theorem Logs.lg_i (s : Logs h h' i e t') : h'.lg (i / 3) = h.lg (i / 3) ++ [e] := by rw [s.lg, upd_same]
theorem Logs.lg_o (s : Logs h h' i e t') (n : Nat) (hn : n ≠ i / 3) : h'.lg n = h.lg n := by rw [s.lg, upd_other _ _ _ _ hn]
theorem Logs.tx_i (s : Logs h h' i e t') : h'.tx i = t' := by rw [s.tx, upd_same]
theorem Logs.tx_o (s : Logs h h' i e t') (j : Nat) (hj : j ≠ i) : h'.tx j = h.tx j := by rw [s.tx, upd_other _ _ _ _ hj]
theorem Logs.rise (s : Logs h h' i e t') (ok : h.ok N) : Rise 0 (h.lg (i / 3) ++ [e]) := by
  have hi := s.i9
  have h1 := ok.rise (i / 3) (by omega)
  rw [rise_snoc]
  refine ⟨h1, s.er, ?_⟩
  have h2 := s.el
  by_cases h0 : h.lg (i / 3) = []
  · rw [h0]
    show 0 < e.l
    omega
  · obtain ⟨r, h3, h4⟩ := lastL_mem (h.lg (i / 3)) 0 h0
    have h5 := ok.last (i / 3) (by omega) r h3
    omega
/-- The log of every node behind it, record by record. -/
theorem Logs.mem (s : Logs h h' i e t') {n : Nat} {r : Rec} (hr : r ∈ h'.lg n) : r ∈ h.lg n ∨ n = i / 3 ∧ r = e := by
  by_cases hn : n = i / 3
  · subst hn
    rw [s.lg_i] at hr
    rcases List.mem_append.1 hr with hr | hr
    · exact .inl hr
    · exact .inr ⟨rfl, List.mem_singleton.1 hr⟩
  · rw [s.lg_o n hn] at hr
    exact .inl hr
theorem Logs.sub (s : Logs h h' i e t') {n : Nat} {r : Rec} (hr : r ∈ h.lg n) : r ∈ h'.lg n := by
  by_cases hn : n = i / 3
  · subst hn
    rw [s.lg_i]
    exact List.mem_append.2 (.inl hr)
  · rw [s.lg_o n hn]
    exact hr
theorem Logs.linked (s : Logs h h' i e t') {n : Nat} {t : Int} {m : Nat} (hl : Linked (h.lg n) t m) : Linked (h'.lg n) t m :=
  hl.imp id fun ⟨q, h1, h2⟩ => ⟨q, s.sub h1, h2⟩
theorem lastT_le {l : List Rec} {c : Nat} (h : ∀ r ∈ l, r.l ≤ c) (t : Int) : lastT l t ≤ c := by
  rcases lastT_is l t with h1 | ⟨r, h1, h2, _⟩
  · omega
  · have := h r h1
    omega
/-- Another transaction against the longer log. -/
theorem Logs.other_tn (s : Logs h h' i e t') (ok : h.ok N) (j : Nat) (hj : j < 9) (hne : j ≠ i) : (h'.tx j).ok (h'.lg (j / 3)) (h'.ct (j / 3)) ∧ h'.plan j = h.plan j := by
  have hi := s.i9
  have o := ok.txn j hj
  rw [s.tx_o j hne, s.ct]
  by_cases hn : j / 3 = i / 3
  · by_cases h0 : (h.tx j).nr = 0
    · have hz := o.zero h0
      rw [hz]
      have zz : Tu.zero.nr = 0 := rfl
      refine ⟨⟨fun _ => rfl, fun h => absurd zz h, fun h => absurd zz h, fun h => absurd zz h, fun h => absurd zz h, fun h => absurd zz h, fun h => absurd zz h⟩, ?_⟩
      unfold Hs.plan
      rw [s.tx_o j hne, hz, hn, s.lg_i]
      exact planL_push _ _ (by have := s.el; show (0 : Nat) ≠ e.l; omega)
    · have hap := ok.apart j i hj hi hn hne h0
      have hlast : (h.tx j).last ≤ h.ck (i / 3) := by
        rw [o.last h0, hn]
        exact lastT_le (ok.last (i / 3) (by omega)) _
      have hel := s.el
      have hnx : (h.tx j).next ≤ h.ck (i / 3) := by
        rw [o.next h0, hn]
        have := nextT_le (ok.rise (i / 3) (by omega)) (h.tx j).last
        omega
      have hmem : ∀ r ∈ h.lg (i / 3) ++ [e], r.t = (h.tx j).nr → r ∈ h.lg (i / 3) := fun r hr ht => by
        rcases List.mem_append.1 hr with hr | hr
        · exact hr
        · rw [List.mem_singleton.1 hr, s.et] at ht
          exact absurd ht.symm hap
      rw [hn, s.lg_i]
      have l1 := o.last h0
      have l2 := o.next h0
      have l3 := o.noend h0
      have l4 := o.nocom h0
      have l5 := o.com h0
      rw [hn] at l1 l2 l3 l4 l5
      refine ⟨⟨fun h => absurd h h0, fun h => by have := o.nr h; rwa [hn] at this, fun _ => ?_, fun _ => ?_, fun _ r hr ht => l3 r (hmem r hr ht) ht, fun _ hs r hr ht => l4 hs r (hmem r hr ht) ht, fun _ hs => ?_⟩, ?_⟩
      · rw [lastT_snoc, if_neg (fun x => hap (x.2.symm.trans s.et))]
        exact l1
      · rw [nextT_snoc, if_neg (by omega)]
        exact l2
      · obtain ⟨r, h1, h2⟩ := l5 hs
        exact ⟨r, List.mem_append.2 (.inl h1), h2⟩
      · unfold Hs.plan
        rw [s.tx_o j hne, hn, s.lg_i]
        exact planL_push _ _ (by omega)
  · rw [s.lg_o _ hn]
    refine ⟨o, ?_⟩
    unfold Hs.plan
    rw [s.tx_o j hne, s.lg_o _ hn]
/-- Another transaction keeps what it has. -/
theorem Logs.other (s : Logs h h' i e t') (ok : h.ok N) (j : Nat) (hj : j < 9) (hne : j ≠ i) (hl : h'.live j) : h'.undo j ∧ h'.did j := by
  have hi := s.i9
  have hlj : h.live j := by
    unfold Hs.live at hl ⊢
    rwa [s.tx_o j hne] at hl
  have u := ok.undo j hj hlj
  have d := ok.did j hj hlj
  have hp := (s.other_tn ok j hj hne).2
  have hk : ∀ x, x < 32 → h.has j x → h'.lk x = h.lk x ∧ h'.cell x = h.cell x := fun x hx hh =>
    s.keep x hx (by rw [hh.2]; exact hlj.1) (ok.alone hj hi hne hlj.1 hh)
  have hto : ∀ x, x < 32 → h.has j x → h'.has j x := fun x hx hh => by
    unfold Hs.has
    rw [(hk x hx hh).1, s.tx_o j hne]
    exact hh
  have hfrom : ∀ x, x < 32 → h'.has j x → h.has j x := fun x hx hh => by
    unfold Hs.has at hh ⊢
    rw [s.tx_o j hne] at hh
    rcases s.lk x hx with h1 | h1 | h1
    · rwa [h1] at hh
    · exact absurd (hh.2.symm.trans h1) hlj.1
    · exfalso
      have e1 : j / 3 = i / 3 := by have a := hh.1; have b := h1.1; rw [a] at b; omega
      exact ok.apart j i hj hi e1 hne hlj.1 (hh.2.symm.trans h1.2)
  have hx32 : ∀ c ∈ chs (h.plan j), cellX c < 32 := fun c hc => cell_lt (u.mine c hc).2.1 (u.mine c hc).2.2
  have hM : ∀ c ∈ chs (h.plan j), cellX c < 32 ∧ h.has j (cellX c) := fun c hc => ⟨hx32 c hc, (u.mine c hc).1⟩
  have hcl : ∀ x, x < 32 ∧ h.has j x → h.cell x = h'.cell x := fun x hx => (hk x hx.1 hx.2).2.symm
  refine ⟨⟨?_, ?_, ?_⟩, ⟨?_, ?_⟩⟩
  · rw [hp]
    exact fitsC_like (M := fun x => x < 32 ∧ h.has j x) _ _ _ hM hcl u.fit
  · rw [hp]
    intro c hc
    exact ⟨hto _ (hx32 c hc) (u.mine c hc).1, (u.mine c hc).2⟩
  · rw [hp]
    intro x hx hh
    have hh' := hfrom x hx hh
    rw [(hk x hx hh').1, ← u.was x hx hh']
    exact (runC_like (M := fun x => x < 32 ∧ h.has j x) _ _ _ hcl x ⟨hx, hh'⟩).symm
  · intro r hr ht hk1
    rw [s.tx_o j hne] at ht
    have hr' : r ∈ h.lg (j / 3) := by
      rcases s.mem hr with h1 | ⟨h1, h2⟩
      · exact h1
      · exfalso
        rw [h2, s.et] at ht
        exact ok.apart j i hj hi h1 hne hlj.1 ht.symm
    have hR := rise_right _ 0 (ok.rise (j / 3) (by omega)) r hr'
    have h3 := (ok.recs (j / 3) (by omega) r hr').2.2.2 (by omega)
    exact hto _ (cell_lt (hR.ch (by omega)) h3) (d.locked r hr' ht hk1)
  · intro pre r post he ht hk1 hpre
    rw [s.tx_o j hne] at ht hpre
    by_cases hn : j / 3 = i / 3
    · rw [hn, s.lg_i] at he
      have hcase : ∃ post', h.lg (i / 3) = pre ++ r :: post' := by
        rcases List.append_eq_append_iff.1 he with ⟨a, h1, h2⟩ | ⟨a, h1, h2⟩
        · cases a with
          | nil =>
            rw [List.nil_append] at h2
            injection h2 with h3 h4
            exfalso
            rw [← h3, s.et] at ht
            exact ok.apart j i hj hi hn hne hlj.1 ht.symm
          | cons b a =>
            exfalso
            rw [List.cons_append] at h2
            injection h2 with h3 h4
            have := congrArg List.length h4
            simp at this
        · cases a with
          | nil =>
            exfalso
            rw [List.nil_append] at h2
            injection h2 with h3 h4
            rw [h3, s.et] at ht
            exact ok.apart j i hj hi hn hne hlj.1 ht.symm
          | cons b a =>
            rw [List.cons_append] at h2
            injection h2 with h3 h4
            subst h3
            exact ⟨a, h1⟩
      obtain ⟨post', he'⟩ := hcase
      have hr' : r ∈ h.lg (i / 3) := by rw [he']; simp
      have hR := rise_right _ 0 (ok.rise (i / 3) (by omega)) r hr'
      have h3 := (ok.recs (i / 3) (by omega) r hr').2.2.2 (by omega)
      rw [← hn] at he' hr'
      rw [(hk _ (cell_lt (hR.ch (by omega)) h3) (d.locked r hr' ht hk1)).1]
      exact d.first pre r post' he' ht hk1 hpre
    · rw [s.lg_o _ hn] at he
      have hr' : r ∈ h.lg (j / 3) := by rw [he]; simp
      have hR := rise_right _ 0 (ok.rise (j / 3) (by omega)) r hr'
      have h3 := (ok.recs (j / 3) (by omega) r hr').2.2.2 (by omega)
      rw [(hk _ (cell_lt (hR.ch (by omega)) h3) (d.locked r hr' ht hk1)).1]
      exact d.first pre r post he ht hk1 hpre
/-- All of it behind a record. -/
theorem Logs.done (s : Logs h h' i e t') (ok : h.ok N) (M : Nat) (hNM : N ≤ M) (hel : e.l ≤ M) (hhi : h'.hi ≤ M) (hpl : ∀ p, p < 4 → (h'.pg p).l ≤ M) (hpr : ∀ p, p < 4 → (h'.pg p).right)
    (ht : t'.ok (h.lg (i / 3) ++ [e]) (h.ct (i / 3))) (hnr : t'.nr = (h.tx i).nr ∨ t'.nr = 0 ∧ e.k = 5)
    (hlk : ∀ x, x < 32 → hasN (h'.lk x) (i / 3) (h.tx i).nr → t'.nr = (h.tx i).nr ∧ t'.st ≠ 3)
    (hu : h'.live i → h'.undo i ∧ h'.did i) : h'.ok M := by
  have hi := s.i9
  refine ⟨?_, hhi, ?_, hpl, hpr, ?_, ?_, ?_, ?_, ?_, ?_, ?_, ?_, ?_, ?_⟩
  · intro n hn
    rw [s.ck]
    by_cases hni : n = i / 3
    · subst hni
      rw [upd_same]
      exact hel
    · rw [upd_other _ _ _ _ hni]
      have := ok.ck n hn
      omega
  · intro n hn
    rw [s.ct]
    have := ok.ct n hn
    omega
  · intro n hn
    by_cases hni : n = i / 3
    · subst hni
      rw [s.lg_i]
      exact s.rise ok
    · rw [s.lg_o _ hni]
      exact ok.rise n hn
  · intro n hn r hr
    rw [s.ck]
    have hel2 := s.el
    rcases s.mem hr with h1 | ⟨h1, h2⟩
    · have h3 := ok.last n hn r h1
      by_cases hni : n = i / 3
      · subst hni
        rw [upd_same]
        omega
      · rw [upd_other _ _ _ _ hni]
        exact h3
    · rw [h1, h2, upd_same]
      exact Nat.le_refl _
  · intro n hn r hr
    rw [s.ct]
    rcases s.mem hr with h1 | ⟨h1, h2⟩
    · exact ok.recs n hn r h1
    · rw [h1, h2]
      have h3 := (ok.txn i hi).nr s.nr
      exact ⟨s.ek, by rw [s.et]; exact h3.1, by rw [s.et]; exact h3.2.1, s.ec⟩
  · intro n hn r hr
    rcases s.mem hr with h1 | ⟨h1, h2⟩
    · have h3 := ok.chain n hn r h1
      exact ⟨s.linked h3.1, s.linked h3.2⟩
    · rw [h2, h1]
      refine ⟨s.linked ?_, s.linked s.en⟩
      rw [s.ep, s.et, (ok.txn i hi).last s.nr]
      rcases lastT_is (h.lg (i / 3)) (h.tx i).nr with h4 | ⟨q, h4, h5, h6, _⟩
      · exact .inl h4
      · exact .inr ⟨q, h4, h5, h6⟩
  · intro j hj
    by_cases hne : j = i
    · subst hne
      rw [s.tx_i, s.lg_i, s.ct]
      exact ht
    · exact (s.other_tn ok j hj hne).1
  · intro a b ha hb hab hne h0
    by_cases hai : a = i
    · subst hai
      rw [s.tx_i] at h0 ⊢
      rw [s.tx_o b (fun x => hne x.symm)]
      rcases hnr with h1 | ⟨h1, _⟩
      · rw [h1]
        exact ok.apart a b ha hb hab hne s.nr
      · exact absurd h1 h0
    · rw [s.tx_o a hai] at h0 ⊢
      by_cases hbi : b = i
      · subst hbi
        rw [s.tx_i]
        rcases hnr with h1 | ⟨h1, _⟩
        · rw [h1]
          exact ok.apart a b ha hb hab hne h0
        · rw [h1]
          exact h0
      · rw [s.tx_o b hbi]
        exact ok.apart a b ha hb hab hne h0
  · intro n hn r hr
    have key : ∀ r : Rec, r.t = (h.tx i).nr → n = i / 3 → (∃ j, j < 9 ∧ j / 3 = n ∧ (h'.tx j).nr = r.t) ∨ ∃ q ∈ h'.lg n, q.t = r.t ∧ q.k = 5 := fun r hrt hni => by
      rcases hnr with h1 | ⟨_, h1⟩
      · exact .inl ⟨i, hi, hni.symm, by rw [s.tx_i, h1, hrt]⟩
      · refine .inr ⟨e, ?_, by rw [s.et, hrt], h1⟩
        rw [hni, s.lg_i]
        simp
    rcases s.mem hr with h1 | ⟨h1, h2⟩
    · rcases ok.over n hn r h1 with ⟨j, h3, h4, h5⟩ | ⟨q, h3, h4⟩
      · by_cases hji : j = i
        · subst hji
          exact key r h5.symm h4.symm
        · exact .inl ⟨j, h3, h4, by rw [s.tx_o j hji]; exact h5⟩
      · exact .inr ⟨q, s.sub h3, h4⟩
    · exact key r (by rw [h2]; exact s.et) h1
  · intro x hx h0
    have mk : hasN (h'.lk x) (i / 3) (h.tx i).nr → ∃ j, j < 9 ∧ h'.has j x ∧ h'.live j := fun hh => by
      obtain ⟨h1, h2⟩ := hlk x hx hh
      refine ⟨i, hi, ?_, ?_⟩
      · unfold Hs.has
        rw [s.tx_i, h1]
        exact hh
      · unfold Hs.live
        rw [s.tx_i]
        exact ⟨by rw [h1]; exact s.nr, h2⟩
    rcases s.lk x hx with h1 | h1 | h1
    · rw [h1] at h0
      obtain ⟨j, h2, h3, h4⟩ := ok.locks x hx h0
      by_cases hji : j = i
      · subst hji
        exact mk (by rw [h1]; exact h3)
      · refine ⟨j, h2, ?_, ?_⟩
        · unfold Hs.has
          rw [h1, s.tx_o j hji]
          exact h3
        · unfold Hs.live
          rw [s.tx_o j hji]
          exact h4
    · exact absurd h1 h0
    · exact mk h1
  · intro j hj hl
    by_cases hne : j = i
    · subst hne
      exact (hu hl).1
    · exact (s.other ok j hj hne hl).1
  · intro j hj hl
    by_cases hne : j = i
    · subst hne
      exact (hu hl).2
    · exact (s.other ok j hj hne hl).2
end
end Go.Proofs.Ytohdmmfmjadipaa

/-
  Each act keeps what every history keeps to: clocks, and the records that change no page. Of no program.
-/
namespace Go.Proofs.Ytohdmmfmjadipaa
open Go.RowKit
set_option linter.unusedVariables false

section
variable {h h' : Hs} {N i : Nat} {e : Rec} {t' : Tu}
theorem Hs.ok.more (ok : h.ok N) {M : Nat} (hm : N ≤ M) : h.ok M :=
  { ok with
    ck := fun n hn => Nat.le_trans (ok.ck n hn) hm
    hi := Nat.le_trans ok.hi hm
    ct := fun n hn => ⟨(ok.ct n hn).1, by have := (ok.ct n hn).2; omega⟩
    pl := fun p hp => Nat.le_trans (ok.pl p hp) hm }
theorem Hs.ok.clock (ok : h.ok N) {n c : Nat} (h1 : h.ck n ≤ c) (h2 : c ≤ N) : (h.setCk n c).ok N :=
  { ok with
    ck := fun m hm => by
      show upd h.ck n c m ≤ N
      by_cases e : m = n
      · subst e
        rw [upd_same]
        exact h2
      · rw [upd_other _ _ _ _ e]
        exact ok.ck m hm
    last := fun m hm r hr => by
      have := ok.last m hm r hr
      show r.l ≤ upd h.ck n c m
      by_cases e : m = n
      · subst e
        rw [upd_same]
        omega
      · rw [upd_other _ _ _ _ e]
        exact this
    undo := fun i hi hl => ⟨(ok.undo i hi hl).fit, (ok.undo i hi hl).mine, (ok.undo i hi hl).was⟩
    did := fun i hi hl => ⟨(ok.did i hi hl).locked, (ok.did i hi hl).first⟩ }
theorem bare_right {k s t : Int} {L p : Nat} (hk : 3 ≤ k ∧ k ≤ 6) (hs : k = 6 → 1 ≤ s ∧ s ≤ 8) (hs0 : k ≠ 6 → s = 0) (hL : 1 ≤ L ∧ L ≤ maxP) (ht : 1 ≤ t ∧ t ≤ 1048575) (hp : p < L) : (⟨k, L, t, p, Ch.zero, 0, s, 0, [], []⟩ : Rec).right :=
  ⟨by show 1 ≤ k; omega, by show k ≤ 8; omega, hL.1, hL.2, fun _ => ⟨ht.1, ht.2, hp⟩, fun h => absurd h (by show ¬ 6 < k; omega), fun h => absurd h (by show ¬ k ≤ 2; omega), fun _ => rfl, fun h => absurd h (by show ¬ k = 2; omega), fun _ => rfl, hs, hs0, fun h => absurd h (by show ¬ k = 8; omega), fun _ => ⟨rfl, rfl, rfl⟩⟩
/-- The transaction that logged a record that is no change, no undoing and no end. -/
theorem Tu.ok.more {t : Tu} {l : List Rec} {m s : Int} (o : t.ok l m) (h0 : t.nr ≠ 0) (he : e.t = t.nr) (hp : e.p = t.last) (k1 : e.k ≠ 1) (k2 : e.k ≠ 2) (k5 : e.k ≠ 5) (hs : 1 ≤ s ∧ s ≤ 3) (hc : s ≠ 3 → t.st ≠ 3 ∧ e.k ≠ 3) (hd : s = 3 → e.k = 3) : (⟨t.nr, s, e.l, t.next⟩ : Tu).ok (l ++ [e]) m where
  zero := fun h => absurd h h0
  nr := fun _ => ⟨(o.nr h0).1, (o.nr h0).2.1, hs.1, hs.2⟩
  last := fun _ => by
    show e.l = lastT (l ++ [e]) t.nr
    rw [lastT_snoc, if_pos ⟨(o.nr h0).1, he⟩]
  next := fun _ => by
    show t.next = nextT (l ++ [e]) e.l
    rw [nextT_snoc, if_pos rfl, if_neg k1, if_neg k2, hp]
    exact o.next h0
  noend := fun _ r hr ht => by
    rcases List.mem_append.1 hr with hr | hr
    · exact o.noend h0 r hr ht
    · rw [List.mem_singleton.1 hr]
      exact k5
  nocom := fun _ hst r hr ht => by
    rcases List.mem_append.1 hr with hr | hr
    · exact o.nocom h0 (hc hst).1 r hr ht
    · rw [List.mem_singleton.1 hr]
      exact (hc hst).2
  com := fun _ hst => ⟨e, by simp, he, hd hst⟩
theorem snoc_split {l pre post : List Rec} {r : Rec} (he : l ++ [e] = pre ++ r :: post) : (∃ post', l = pre ++ r :: post') ∨ (pre = l ∧ r = e) := by
  rcases List.append_eq_append_iff.1 he with ⟨a, h1, h2⟩ | ⟨a, h1, h2⟩
  · cases a with
    | nil =>
      rw [List.nil_append] at h2
      injection h2 with h3 h4
      exact .inr ⟨by rw [h1, List.append_nil], h3.symm⟩
    | cons b a =>
      exfalso
      rw [List.cons_append] at h2
      injection h2 with h3 h4
      have := congrArg List.length h4
      simp at this
  · cases a with
    | nil =>
      rw [List.nil_append] at h2
      injection h2 with h3 h4
      exact .inr ⟨by rw [h1, List.append_nil], h3⟩
    | cons b a =>
      rw [List.cons_append] at h2
      injection h2 with h3 h4
      subst h3
      exact .inl ⟨a, h1⟩
theorem Hs.ok.last_lt (ok : h.ok N) (hi : i < 9) (h0 : (h.tx i).nr ≠ 0) : (h.tx i).last ≤ h.ck (i / 3) ∧ (h.tx i).next ≤ h.ck (i / 3) := by
  have o := ok.txn i hi
  have h1 : (h.tx i).last ≤ h.ck (i / 3) := by
    rw [o.last h0]
    exact lastT_le (ok.last (i / 3) (by omega)) _
  refine ⟨h1, ?_⟩
  rw [o.next h0]
  have := nextT_le (ok.rise (i / 3) (by omega)) (h.tx i).last
  omega
/-- What the transaction did, behind a record of it that is no change. -/
theorem Logs.stays (s : Logs h h' i e t') (ok : h.ok N) (hk : e.k ≠ 1) (hl : h.live i) (hnr : t'.nr = (h.tx i).nr) (hlk : ∀ x, x < 32 → h'.lk x = h.lk x) : h'.did i := by
  have hi := s.i9
  have d := ok.did i hi hl
  have old : ∀ r ∈ h.lg (i / 3), r.k = 1 → cellX r.c < 32 := fun r hr hk1 => by
    have hR := rise_right _ 0 (ok.rise (i / 3) (by omega)) r hr
    exact cell_lt (hR.ch (by omega)) ((ok.recs (i / 3) (by omega) r hr).2.2.2 (by omega))
  refine ⟨fun r hr ht hk1 => ?_, fun pre r post he ht hk1 hpre => ?_⟩
  · rw [s.tx_i, hnr] at ht
    rcases s.mem hr with h1 | ⟨_, h1⟩
    · unfold Hs.has
      rw [hlk _ (old r h1 hk1), s.tx_i, hnr]
      exact d.locked r h1 ht hk1
    · exact absurd (h1 ▸ hk1) hk
  · rw [s.tx_i, hnr] at ht hpre
    rw [s.lg_i] at he
    rcases snoc_split he with ⟨post', h1⟩ | ⟨h1, h2⟩
    · have hm : r ∈ h.lg (i / 3) := by rw [h1]; simp
      rw [hlk _ (old r hm hk1)]
      exact d.first pre r post' h1 ht hk1 hpre
    · exact absurd (h2 ▸ hk1) hk
/-- What is to be taken back, behind a record that moves nothing of it. -/
theorem Logs.undoes (s : Logs h h' i e t') (ok : h.ok N) (hl : h.live i) (hnr : t'.nr = (h.tx i).nr) (hnx : t'.next = (h.tx i).next) (hlk : ∀ x, x < 32 → h'.lk x = h.lk x) (hce : h'.cell = h.cell) : h'.undo i := by
  have hi := s.i9
  have u := ok.undo i hi hl
  have hp : h'.plan i = h.plan i := by
    unfold Hs.plan
    rw [s.tx_i, s.lg_i, hnx]
    have h1 := (ok.last_lt hi s.nr).2
    have h2 := s.el
    exact planL_push _ _ (by omega)
  have hh : ∀ x, x < 32 → (h'.has i x ↔ h.has i x) := fun x hx => by
    unfold Hs.has
    rw [hlk x hx, s.tx_i, hnr]
  refine ⟨by rw [hp, hce]; exact u.fit, fun c hc => ?_, fun x hx hhx => ?_⟩
  · rw [hp] at hc
    have := u.mine c hc
    exact ⟨(hh _ (cell_lt this.2.1 this.2.2)).2 this.1, this.2⟩
  · rw [hp, hce, hlk x hx]
    exact u.was x hx ((hh x hx).1 hhx)
/-- A record that changes no page, logged. -/
theorem Logs.bare (ok : h.ok N) (hN : N ≤ 100000) (hi : i < 9) (h0 : (h.tx i).nr ≠ 0) {k ss : Int} (hk : 3 ≤ k ∧ k ≤ 6) (hs : k = 6 → 1 ≤ ss ∧ ss ≤ 8) (hs0 : k ≠ 6 → ss = 0)
    (lg : h'.lg = upd h.lg (i / 3) (h.lg (i / 3) ++ [h.entry (i / 3) i (bare15 k Ch.zero ss) 0])) (ck : h'.ck = upd h.ck (i / 3) (h.lsn (i / 3) 0)) (ct : h'.ct = h.ct) (tx : h'.tx = upd h.tx i t') (hpg : h'.pg = h.pg)
    (lk : ∀ x, x < 32 → h'.lk x = h.lk x ∨ h.has i x ∧ (h'.lk x).nr = 0) : Logs h h' i (h.entry (i / 3) i (bare15 k Ch.zero ss) 0) t' := by
  have o := (ok.txn i hi).nr h0
  have h1 := ok.ct (i / 3) (by omega)
  have h2 := ok.ck (i / 3) (by omega)
  have h3 := (ok.last_lt hi h0).1
  have hL : h.lsn (i / 3) 0 = h.ck (i / 3) + 1 := by unfold Hs.lsn; omega
  have hce : h'.cell = h.cell := by
    funext x
    unfold Hs.cell
    rw [hpg]
  refine ⟨hi, h0, lg, ck, ct, tx, rfl, rfl, ?_, ?_, hk.2, .inl rfl, fun hq => ?_, fun x hx => ?_, fun x hx _ hn => ⟨?_, by rw [hce]⟩⟩
  · show h.ck (i / 3) < h.lsn (i / 3) 0
    omega
  · exact bare_right hk hs hs0 (by unfold maxP; omega) (by omega) (by omega)
  · exact absurd hq (by show ¬ k ≤ 2; omega)
  · rcases lk x hx with h4 | ⟨_, h4⟩
    · exact .inl h4
    · exact .inr (.inl h4)
  · rcases lk x hx with h4 | ⟨h4, _⟩
    · exact h4
    · exact absurd h4 hn
theorem free_lk {h1 : Hs} (hlk : h1.lk = h.lk) (hnr : (h1.tx i).nr = (h.tx i).nr) (x : Nat) (hx : x < 32) : (h.has i x → (h1.free (i / 3) i).lk x = Lo.zero) ∧ (¬ h.has i x → (h1.free (i / 3) i).lk x = h.lk x) := by
  have hm : h1.mine (i / 3) i x = true ↔ h.has i x := by
    unfold Hs.mine Hs.has hasN
    rw [hlk, hnr, Bool.and_eq_true, decide_eq_true_eq, decide_eq_true_eq]
  have e : (h1.free (i / 3) i).lk x = if x < 32 ∧ h1.mine (i / 3) i x = true then Lo.zero else h1.lk x := rfl
  rw [e, hlk]
  refine ⟨fun hh => if_pos ⟨hx, hm.2 hh⟩, fun hh => if_neg (fun q => hh (hm.1 q.2))⟩
/-- A record that leaves the transaction under way. -/
theorem Hs.ok.goes (ok : h.ok N) (hN : N ≤ 100000) (hi : i < 9) (h0 : (h.tx i).nr ≠ 0) (hst : (h.tx i).st = 1) {k ss s : Int} (hk : k = 4 ∨ k = 6) (hs : k = 6 → 1 ≤ ss ∧ ss ≤ 8) (hs0 : k ≠ 6 → ss = 0) (hs2 : s = 1 ∨ s = 2)
    (lg : h'.lg = upd h.lg (i / 3) (h.lg (i / 3) ++ [h.entry (i / 3) i (bare15 k Ch.zero ss) 0])) (ck : h'.ck = upd h.ck (i / 3) (h.lsn (i / 3) 0)) (ct : h'.ct = h.ct) (tx : h'.tx = upd h.tx i ⟨(h.tx i).nr, s, h.lsn (i / 3) 0, (h.tx i).next⟩) (hpg : h'.pg = h.pg) (lk : h'.lk = h.lk) (hh : h'.hi = h.hi) : h'.ok (N + 1) := by
  have hlk : ∀ x, x < 32 → h'.lk x = h.lk x := fun x _ => by rw [lk]
  have L := Logs.bare ok hN hi h0 (by omega) hs hs0 lg ck ct tx hpg (fun x hx => .inl (hlk x hx))
  have hl : h.live i := ⟨h0, by omega⟩
  have hL : h.lsn (i / 3) 0 = h.ck (i / 3) + 1 := by unfold Hs.lsn; omega
  have h2 := ok.ck (i / 3) (by omega)
  have hce : h'.cell = h.cell := by
    funext x
    unfold Hs.cell
    rw [hpg]
  refine L.done ok (N + 1) (by omega) (by show h.lsn (i / 3) 0 ≤ N + 1; omega) (by rw [hh]; have := ok.hi; omega) (fun p hp => by rw [hpg]; have := ok.pl p hp; omega) (fun p hp => by rw [hpg]; exact ok.pr p hp) ?_ (.inl rfl) (fun x hx hn => ⟨rfl, by show s ≠ 3; omega⟩) (fun _ => ⟨L.undoes ok hl rfl rfl hlk hce, L.stays ok ?_ hl rfl hlk⟩)
  · exact (ok.txn i hi).more (e := h.entry (i / 3) i (bare15 k Ch.zero ss) 0) (s := s) h0 rfl rfl (by show k ≠ 1; omega) (by show k ≠ 2; omega) (by show k ≠ 5; omega) (by omega) (fun _ => ⟨by omega, by show k ≠ 3; omega⟩) (fun q => absurd q (by omega))
  · show k ≠ 1
    omega
/-- A record that ends what the transaction holds: a commit, or the end itself. -/
theorem Hs.ok.stops (ok : h.ok N) (hN : N ≤ 100000) (hi : i < 9) (h0 : (h.tx i).nr ≠ 0) {k : Int} (hk : k = 3 ∧ (h.tx i).st = 1 ∧ t' = ⟨(h.tx i).nr, 3, h.lsn (i / 3) 0, (h.tx i).next⟩ ∨ k = 5 ∧ t' = Tu.zero)
    (lg : h'.lg = upd h.lg (i / 3) (h.lg (i / 3) ++ [h.entry (i / 3) i (bare15 k Ch.zero 0) 0])) (ck : h'.ck = upd h.ck (i / 3) (h.lsn (i / 3) 0)) (ct : h'.ct = h.ct) (tx : h'.tx = upd h.tx i t') (hpg : h'.pg = h.pg) (lk : ∀ x, x < 32 → (h.has i x → h'.lk x = Lo.zero) ∧ (¬ h.has i x → h'.lk x = h.lk x)) (hh : h'.hi ≤ N + 1) : h'.ok (N + 1) := by
  have hlk : ∀ x, x < 32 → h'.lk x = h.lk x ∨ h.has i x ∧ (h'.lk x).nr = 0 := fun x hx => by
    by_cases hq : h.has i x
    · exact .inr ⟨hq, by rw [(lk x hx).1 hq]; rfl⟩
    · exact .inl ((lk x hx).2 hq)
  have L := Logs.bare ok hN hi h0 (by omega) (fun q => absurd q (by omega)) (fun _ => rfl) lg ck ct tx hpg hlk
  have hL : h.lsn (i / 3) 0 = h.ck (i / 3) + 1 := by unfold Hs.lsn; omega
  have h2 := ok.ck (i / 3) (by omega)
  refine L.done ok (N + 1) (by omega) (by show h.lsn (i / 3) 0 ≤ N + 1; omega) hh (fun p hp => by rw [hpg]; have := ok.pl p hp; omega) (fun p hp => by rw [hpg]; exact ok.pr p hp) ?_ ?_ (fun x hx hn => ?_) (fun hl => ?_)
  · rcases hk with ⟨h3, h4, h5⟩ | ⟨h3, h5⟩
    · rw [h5]
      exact (ok.txn i hi).more (e := h.entry (i / 3) i (bare15 k Ch.zero 0) 0) (s := 3) h0 rfl rfl (by show k ≠ 1; omega) (by show k ≠ 2; omega) (by show k ≠ 5; omega) (by omega) (fun q => absurd rfl q) (fun _ => h3)
    · rw [h5]
      have zz : Tu.zero.nr = 0 := rfl
      exact ⟨fun _ => rfl, fun q => absurd zz q, fun q => absurd zz q, fun q => absurd zz q, fun q => absurd zz q, fun q => absurd zz q, fun q => absurd zz q⟩
  · rcases hk with ⟨h3, h4, h5⟩ | ⟨h3, h5⟩
    · exact .inl (by rw [h5])
    · exact .inr ⟨by rw [h5]; rfl, h3⟩
  · exfalso
    by_cases hq : h.has i x
    · rw [(lk x hx).1 hq] at hn
      exact h0 hn.2.symm
    · rw [(lk x hx).2 hq] at hn
      exact hq hn
  · exfalso
    unfold Hs.live at hl
    rw [L.tx_i] at hl
    rcases hk with ⟨h3, h4, h5⟩ | ⟨h3, h5⟩
    · rw [h5] at hl
      exact hl.2 rfl
    · rw [h5] at hl
      exact hl.1 rfl
end
end Go.Proofs.Ytohdmmfmjadipaa

/-
  Each act keeps what every history keeps to: the records that change a page. Of no program.
-/
namespace Go.Proofs.Ytohdmmfmjadipaa
open Go.RowKit
set_option linter.unusedVariables false

section
variable {h h' : Hs} {N i : Nat} {e : Rec} {t' : Tu}
theorem turn_right {k t : Int} {L p m : Nat} {c : Ch} (hk : k = 1 ∨ k = 2) (hc : c.right) (hL : 1 ≤ L ∧ L ≤ maxP) (ht : 1 ≤ t ∧ t ≤ 1048575) (hp : p < L) (h2 : k = 2 → m < L) (h1 : k = 1 → m = 0) : (⟨k, L, t, p, c, m, 0, 0, [], []⟩ : Rec).right :=
  ⟨by show 1 ≤ k; omega, by show k ≤ 8; omega, hL.1, hL.2, fun _ => ⟨ht.1, ht.2, hp⟩, fun h => absurd h (by show ¬ 6 < k; omega), fun _ => hc, fun h => absurd h (by show ¬ 2 < k; omega), fun h => h2 h, fun h => h1 (by have : k ≠ 2 := h; omega), fun h => absurd h (by show ¬ k = 6; omega), fun _ => rfl, fun h => absurd h (by show ¬ k = 8; omega), fun _ => ⟨rfl, rfl, rfl⟩⟩
theorem cell_put {p L : Nat} {c : Ch} (hc : c.right) (hp : p = c.pg.toNat) (hpg : h'.pg = upd h.pg p ((h.pg p).put L c.at c.makeU c.makeV)) : h'.cell = doC h.cell c := by
  have hat := hc.at_lt
  funext x
  unfold Hs.cell
  rw [hpg]
  by_cases hx : x = cellX c
  · rw [hx, doC_at]
    have e1 : cellX c / 8 = p := by unfold cellX; rw [hp]; omega
    have e2 : cellX c % 8 = c.at := by unfold cellX; omega
    rw [e1, e2, upd_same]
    show ((if c.at = c.at then c.makeU else (h.pg p).u c.at), (if c.at = c.at then c.makeV else (h.pg p).s c.at)) = _
    rw [if_pos rfl, if_pos rfl]
  · rw [doC_out _ _ _ hx]
    by_cases h1 : x / 8 = p
    · have h2 : x % 8 ≠ c.at := fun h2 => hx (by unfold cellX; rw [← hp, ← h1, ← h2]; omega)
      rw [h1, upd_same]
      show ((if x % 8 = c.at then c.makeU else (h.pg p).u (x % 8)), (if x % 8 = c.at then c.makeV else (h.pg p).s (x % 8))) = _
      rw [if_neg h2, if_neg h2]
    · rw [upd_other _ _ _ _ h1]
theorem nextT_linked {l : List Rec} (hl : Rise 0 l) (ch : ∀ r ∈ l, Linked l r.t r.p ∧ Linked l r.t r.n) (t : Int) : ∀ f m, m ≤ f → Linked l t m → Linked l t (nextT l m) := by
  intro f
  induction f with
  | zero =>
    intro m hm _
    obtain rfl : m = 0 := by omega
    rw [nextT_zero hl]
    exact .inl rfl
  | succ f ih =>
    intro m hm hk
    rcases hk with rfl | ⟨q, hq, h2, h3⟩
    · rw [nextT_zero hl]
      exact .inl rfl
    · have hR := rise_right _ 0 hl q hq
      have h4 := right_prev hR
      have h5 := right_next hR
      have h6 := ch q hq
      rw [h3] at h6
      rw [← h2, nextT_step hl hq]
      unfold stepT
      split
      · exact .inr ⟨q, hq, rfl, h3⟩
      · split
        · exact ih _ (by omega) h6.2
        · exact ih _ (by omega) h6.1
/-- The record that a live transaction would take back next. -/
theorem Hs.ok.front (ok : h.ok N) (hi : i < 9) (h0 : (h.tx i).nr ≠ 0) (hn : (h.tx i).next ≠ 0) : ∃ r ∈ h.lg (i / 3), r.l = (h.tx i).next ∧ r.k = 1 ∧ r.t = (h.tx i).nr ∧ (h.plan i) = clrOf (h.lg (i / 3)) r :: planL (h.lg (i / 3)) (clrOf (h.lg (i / 3)) r).n 0 := by
  have hl := ok.rise (i / 3) (by omega)
  have o := ok.txn i hi
  have hnx := o.next h0
  rcases nextT_is hl (h.tx i).last with h1 | ⟨r, hr, h2, h3⟩
  · exact absurd (hnx.trans h1) hn
  · have hr2 : r.l = (h.tx i).next := h2.trans hnx.symm
    have hlk : Linked (h.lg (i / 3)) (h.tx i).nr (h.tx i).last := by
      rw [o.last h0]
      rcases lastT_is (h.lg (i / 3)) (h.tx i).nr with h4 | ⟨q, h4, h5, h6, _⟩
      · exact .inl h4
      · exact .inr ⟨q, h4, h5, h6⟩
    have hl2 := nextT_linked hl (ok.chain (i / 3) (by omega)) (h.tx i).nr _ _ (Nat.le_refl _) hlk
    rw [← hnx] at hl2
    have ht : r.t = (h.tx i).nr := by
      rcases hl2 with h4 | ⟨q, h4, h5, h6⟩
      · exact absurd h4 hn
      · have a := getT_mem hl hr
        rw [hr2, ← h5, getT_mem hl h4] at a
        injection a with a
        rw [← a]
        exact h6
    refine ⟨r, hr, hr2, h3, ht, ?_⟩
    unfold Hs.plan
    rw [← hr2, planL_step hl hr h3, if_pos (rise_mem15 _ 0 hl r hr).1]
theorem Hs.back_no (e : (h.tx i).next = 0 ∨ ((h.tx i).st ≠ 1 ∧ (h.tx i).st ≠ 2)) (n : Nat) : h.back n i = h := by unfold Hs.back; rw [if_pos e]
theorem Hs.back_yes {n : Nat} {r : Rec} (e : ¬ ((h.tx i).next = 0 ∨ ((h.tx i).st ≠ 1 ∧ (h.tx i).st ≠ 2))) (hl : Rise 0 (h.lg n)) (hr : r ∈ h.lg n) (h2 : r.l = (h.tx i).next) : h.back n i = (h.turn n i (clrOf (h.lg n) r)).nextIs i (clrOf (h.lg n) r).n := by
  have hget : recAt (h.lg n) (h.tx i).next = r := by
    unfold recAt
    rw [← h2, getT_mem hl hr]
    rfl
  unfold Hs.back
  rw [if_neg e, hget]
/-- A change taken back. -/
theorem Hs.ok.backs (ok : h.ok N) (hN : N ≤ 100000) (hi : i < 9) : (h.back (i / 3) i).ok (N + 1) := by
  by_cases e : (h.tx i).next = 0 ∨ ((h.tx i).st ≠ 1 ∧ (h.tx i).st ≠ 2)
  · rw [Hs.back_no e]
    exact ok.more (by omega)
  have e1 : (h.tx i).next ≠ 0 := fun q => e (.inl q)
  have e2 : (h.tx i).st = 1 ∨ (h.tx i).st = 2 := by
    by_cases q : (h.tx i).st = 1
    · exact .inl q
    · by_cases q2 : (h.tx i).st = 2
      · exact .inr q2
      · exact absurd (.inr ⟨q, q2⟩) e
  have h0 : (h.tx i).nr ≠ 0 := fun q => e1 (by rw [(ok.txn i hi).zero q]; rfl)
  have hl := ok.rise (i / 3) (by omega)
  have hlive : h.live i := ⟨h0, by omega⟩
  obtain ⟨r, hr, hr2, hk, ht, hplan⟩ := ok.front hi h0 e1
  have hrR := rise_right _ 0 hl r hr
  have u := ok.undo i hi hlive
  have hinv := inv_right r.c (hrR.ch (by omega))
  rw [Hs.back_yes e hl hr hr2]
  obtain ⟨cr, hcr⟩ : ∃ c, c = clrOf (h.lg (i / 3)) r := ⟨_, rfl⟩
  have hcn : nextT (h.lg (i / 3)) cr.n = cr.n := by rw [hcr]; exact clr_again hl r
  have hcl : cr.n < r.l := by rw [hcr]; exact clr_less hl hr
  have hclk : Linked (h.lg (i / 3)) (h.tx i).nr cr.n := by
    have a := nextT_linked hl (ok.chain (i / 3) (by omega)) r.t _ _ (Nat.le_refl _) (ok.chain (i / 3) (by omega) r hr).1
    rw [ht] at a
    rw [hcr]
    exact a
  have hcc : cr.c = invC r.c := by rw [hcr]; rfl
  have hck : cr.k = 2 := by rw [hcr]; rfl
  have hcs : cr.s = 0 ∧ cr.b = 0 ∧ cr.ts = [] ∧ cr.ds = [] := by rw [hcr]; exact ⟨rfl, rfl, rfl, rfl⟩
  rw [← hcr] at hplan ⊢
  have hplan2 : chs (h.plan i) = cr.c :: chs (planL (h.lg (i / 3)) cr.n 0) := by rw [hplan]; rfl
  have hright : cr.c.right := by rw [hcc]; exact hinv.1
  have hmine := u.mine cr.c (by rw [hplan2]; simp)
  obtain ⟨p, hp⟩ : ∃ p, p = cr.c.pg.toNat := ⟨_, rfl⟩
  have hp4 : p < 4 := by
    have := hmine.2.2
    have := hright.1.1
    omega
  have hpage : cr.page = p := hp.symm
  obtain ⟨L, hL⟩ : ∃ L, L = h.lsn (i / 3) (h.pg p).l := ⟨_, rfl⟩
  have hLv : L = max (h.ck (i / 3)) (h.pg p).l + 1 := by rw [hL]; rfl
  have b1 := ok.ck (i / 3) (by omega)
  have b2 := ok.pl p hp4
  have b3 := ok.last_lt hi h0
  have b4 := (ok.txn i hi).nr h0
  have b5 := ok.ct (i / 3) (by omega)
  have b6 := ok.last (i / 3) (by omega) r hr
  have hpg : ((h.turn (i / 3) i cr).nextIs i cr.n).pg = upd h.pg p ((h.pg p).put L cr.c.at cr.c.makeU cr.c.makeV) := by
    show upd h.pg cr.page _ = _
    rw [hpage, ← hL]
  have hce := cell_put (h := h) hright hp hpg
  have htx : ((h.turn (i / 3) i cr).nextIs i cr.n).tx = upd h.tx i ⟨(h.tx i).nr, (h.tx i).st, L, cr.n⟩ := by
    show upd (upd h.tx i ((h.tx i).setLast (h.lsn (i / 3) (h.pg cr.page).l))) i ((upd h.tx i ((h.tx i).setLast (h.lsn (i / 3) (h.pg cr.page).l)) i).setNext cr.n) = _
    rw [upd_upd, upd_same, hpage, ← hL]
    rfl
  have hE : h.entry (i / 3) i cr (h.pg p).l = ⟨2, L, (h.tx i).nr, (h.tx i).last, cr.c, cr.n, 0, 0, [], []⟩ := by
    unfold Hs.entry
    rw [hck, hcs.1, hcs.2.1, hcs.2.2.1, hcs.2.2.2, ← hL]
  have S : Logs h ((h.turn (i / 3) i cr).nextIs i cr.n) i ⟨2, L, (h.tx i).nr, (h.tx i).last, cr.c, cr.n, 0, 0, [], []⟩ ⟨(h.tx i).nr, (h.tx i).st, L, cr.n⟩ := by
    refine ⟨hi, h0, ?_, ?_, rfl, htx, rfl, rfl, ?_, ?_, (by show (2 : Int) ≤ 6; decide), hclk, fun _ => hmine.2.2, fun x hx => .inl rfl, fun x hx _ hn => ⟨rfl, ?_⟩⟩
    · show upd h.lg (i / 3) (h.lg (i / 3) ++ [h.entry (i / 3) i cr (h.pg cr.page).l]) = _
      rw [hpage, hE]
    · show upd h.ck (i / 3) (h.lsn (i / 3) (h.pg cr.page).l) = _
      rw [hpage, ← hL]
    · show h.ck (i / 3) < L
      omega
    · exact turn_right (.inr rfl) hright (by unfold maxP; omega) (by omega) (by omega) (fun _ => by omega) (fun q => absurd q (by decide))
    · rw [hce]
      exact doC_out _ _ _ (fun q => hn (q ▸ hmine.1))
  have hp' : ((h.turn (i / 3) i cr).nextIs i cr.n).plan i = planL (h.lg (i / 3)) cr.n 0 := by
    unfold Hs.plan
    rw [S.tx_i, S.lg_i]
    exact planL_push _ _ (by show cr.n ≠ L; omega)
  have hhas : ∀ x, ((h.turn (i / 3) i cr).nextIs i cr.n).has i x ↔ h.has i x := fun x => by
    unfold Hs.has
    rw [S.tx_i]
    exact Iff.rfl
  refine S.done ok (N + 1) (by omega) (by show L ≤ N + 1; omega) (by have := ok.hi; show h.hi ≤ N + 1; omega) (fun q hq => ?_) (fun q hq => ?_) ?_ (.inl rfl) (fun x hx hn => ⟨rfl, hlive.2⟩) (fun _ => ⟨⟨?_, fun c hc => ?_, fun x hx hh => ?_⟩, S.stays ok (by show (2 : Int) ≠ 1; decide) hlive rfl (fun x hx => rfl)⟩)
  · rw [hpg]
    by_cases hqp : q = p
    · subst hqp
      rw [upd_same]
      show L ≤ N + 1
      omega
    · rw [upd_other _ _ _ _ hqp]
      have := ok.pl q hq
      omega
  · rw [hpg]
    by_cases hqp : q = p
    · subst hqp
      rw [upd_same]
      exact put_right _ _ _ (ok.pr q hq) hright (by unfold maxP; omega)
    · rw [upd_other _ _ _ _ hqp]
      exact ok.pr q hq
  · have o := ok.txn i hi
    exact {
      zero := fun q => absurd q h0
      nr := fun _ => o.nr h0
      last := fun _ => by
        show L = lastT _ (h.tx i).nr
        rw [lastT_snoc, if_pos ⟨b4.1, rfl⟩]
      next := fun _ => by
        show cr.n = nextT _ L
        rw [nextT_snoc, if_pos rfl, if_neg (by show ¬ (2 : Int) = 1; decide), if_pos (by show (2 : Int) = 2; rfl)]
        exact hcn.symm
      noend := fun _ r hr ht => by
        rcases List.mem_append.1 hr with hr | hr
        · exact o.noend h0 r hr ht
        · rw [List.mem_singleton.1 hr]
          show (2 : Int) ≠ 5
          decide
      nocom := fun _ hst r hr ht => by
        rcases List.mem_append.1 hr with hr | hr
        · exact o.nocom h0 hst r hr ht
        · rw [List.mem_singleton.1 hr]
          show (2 : Int) ≠ 3
          decide
      com := fun _ hst => absurd hst hlive.2 }
  · rw [hp', hce]
    have a := u.fit
    rw [hplan2] at a
    exact a.2
  · rw [hp'] at hc
    have a := u.mine c (by rw [hplan2]; exact List.mem_cons_of_mem _ hc)
    exact ⟨(hhas _).2 a.1, a.2⟩
  · rw [hp', hce]
    have a := u.was x hx ((hhas x).1 hh)
    rw [hplan2] at a
    exact a
end
end Go.Proofs.Ytohdmmfmjadipaa

/-
  Each act keeps what every history keeps to: a transaction begun, a change made; and all acts. Of no program.
-/
namespace Go.Proofs.Ytohdmmfmjadipaa
open Go.RowKit
set_option linter.unusedVariables false

section
variable {h h1 : Hs} {N i : Nat}
theorem none15 (v : ByteArray) (hv : v.size = 0) : v = ⟨#[]⟩ := by
  obtain ⟨⟨l⟩⟩ := v
  cases l with
  | nil => rfl
  | cons a l => exact absurd hv (by simp [ByteArray.size])
theorem ofC_tells {pg sl : Int} {fu tu : Bool} {fv tv : ByteArray} (he : ofE pg sl fu fv tu tv = 0) : (ofC pg sl fu fv tu tv).right ∧ (ofC pg sl fu fv tu tv).pg = pg ∧ (ofC pg sl fu fv tu tv).sl = sl ∧ (ofC pg sl fu fv tu tv).wantU = fu ∧ (ofC pg sl fu fv tu tv).wantV = fv := by
  have er : ofC pg sl fu fv tu tv = rawC pg sl fu fv tu tv := by unfold ofC; rw [if_pos he]
  rw [er]
  unfold ofE at he
  by_cases h1 : (fu = false ∧ fv.size ≠ 0) ∨ (tu = false ∧ tv.size ≠ 0)
  · rw [if_pos h1] at he
    exact absurd he (by decide)
  rw [if_neg h1] at he
  by_cases h2 : (rawC pg sl fu fv tu tv).right
  · rw [if_neg (fun q => q h2)] at he
    by_cases h3 : fu = false ∧ tu = false
    · rw [if_pos h3] at he
      exact absurd he (by decide)
    refine ⟨h2, rfl, rfl, ?_, ?_⟩
    · cases fu <;> cases tu
      · exact absurd ⟨rfl, rfl⟩ h3
      · rfl
      · rfl
      · rfl
    · cases fu <;> cases tu
      · exact absurd ⟨rfl, rfl⟩ h3
      · have hv : fv.size = 0 := by
          by_cases q : fv.size = 0
          · exact q
          · exact absurd (.inl ⟨rfl, q⟩) h1
        exact (none15 fv hv).symm
      · rfl
      · rfl
  · rw [if_pos h2] at he
    exact absurd he (by decide)
theorem Tu.ok.grows {t : Tu} {l : List Rec} {m m' : Int} (o : t.ok l m) (hm : m ≤ m') : t.ok l m' :=
  { o with nr := fun q => by have := o.nr q; omega }
/-- A transaction begins. -/
theorem Hs.ok.starts (ok : h.ok N) (hi : i < 9) (h0 : (h.tx i).nr = 0) (lg : h1.lg = h.lg) (pg : h1.pg = h.pg) (ck : h1.ck = h.ck) (lk : h1.lk = h.lk) (hh : h1.hi = h.hi) (ct : h1.ct = upd h.ct (i / 3) (h.ct (i / 3) + 1)) (tx : h1.tx = upd h.tx i ⟨h.ct (i / 3) + 1, 1, 0, 0⟩) : h1.ok (N + 1) := by
  have n3 : i / 3 < 3 := by omega
  have hc := ok.ct (i / 3) n3
  have hl := ok.rise (i / 3) n3
  have none : ∀ r ∈ h.lg (i / 3), r.t ≠ h.ct (i / 3) + 1 := fun r hr => by
    have := (ok.recs (i / 3) n3 r hr).2.2.1
    omega
  have tx_i : h1.tx i = ⟨h.ct (i / 3) + 1, 1, 0, 0⟩ := by rw [tx, upd_same]
  have tx_o : ∀ j, j ≠ i → h1.tx j = h.tx j := fun j hj => by rw [tx, upd_other _ _ _ _ hj]
  have ct_le : ∀ n, h.ct n ≤ h1.ct n := fun n => by
    rw [ct]
    by_cases e : n = i / 3
    · rw [e, upd_same]
      omega
    · rw [upd_other _ _ _ _ e]
      exact Int.le_refl _
  have ce : h1.cell = h.cell := by
    funext x
    unfold Hs.cell
    rw [pg]
  have small : ∀ j, j < 9 → j / 3 = i / 3 → (h.tx j).nr ≤ h.ct (i / 3) := fun j hj e => by
    by_cases q : (h.tx j).nr = 0
    · omega
    · have := (ok.txn j hj).nr q
      rw [e] at this
      exact this.2.1
  have has_o : ∀ j x, j ≠ i → (h1.has j x ↔ h.has j x) := fun j x hj => by
    unfold Hs.has
    rw [lk, tx_o j hj]
  refine { ck := fun n hn => ?_, hi := ?_, ct := fun n hn => ?_, pl := fun p hp => ?_, pr := fun p hp => ?_, rise := fun n hn => ?_, last := fun n hn r hr => ?_, recs := fun n hn r hr => ?_, chain := fun n hn r hr => ?_, txn := fun j hj => ?_, apart := fun a b ha hb hab hne q => ?_, over := fun n hn r hr => ?_, locks := fun x hx q => ?_, undo := fun j hj q => ?_, did := fun j hj q => ?_ }
  · rw [ck]
    have := ok.ck n hn
    omega
  · rw [hh]
    have := ok.hi
    omega
  · have := ct_le n
    have := ok.ct n hn
    refine ⟨by omega, ?_⟩
    rw [ct]
    by_cases e : n = i / 3
    · rw [e, upd_same]
      omega
    · rw [upd_other _ _ _ _ e]
      omega
  · rw [pg]
    have := ok.pl p hp
    omega
  · rw [pg]
    exact ok.pr p hp
  · rw [lg]
    exact ok.rise n hn
  · rw [lg] at hr
    rw [ck]
    exact ok.last n hn r hr
  · rw [lg] at hr
    have a := ok.recs n hn r hr
    have := ct_le n
    exact ⟨a.1, a.2.1, by omega, a.2.2.2⟩
  · rw [lg] at hr ⊢
    exact ok.chain n hn r hr
  · by_cases e : j = i
    · rw [e, tx_i, lg, ct, upd_same]
      exact {
        zero := fun q => absurd q (by show ¬ h.ct (i / 3) + 1 = 0; omega)
        nr := fun _ => ⟨by show 1 ≤ h.ct (i / 3) + 1; omega, by show h.ct (i / 3) + 1 ≤ h.ct (i / 3) + 1; omega, by show (1 : Int) ≤ 1; decide, by show (1 : Int) ≤ 3; decide⟩
        last := fun _ => (lastT_none _ _ (fun r hr q => none r hr q.2)).symm
        next := fun _ => (nextT_zero hl).symm
        noend := fun _ r hr q => absurd q (none r hr)
        nocom := fun _ _ r hr q => absurd q (none r hr)
        com := fun _ q => absurd q (by show ¬ (1 : Int) = 3; decide) }
    · rw [tx_o j e, lg]
      exact (ok.txn j hj).grows (ct_le _)
  · by_cases ea : a = i
    · subst ea
      have := small b hb hab.symm
      rw [tx_i, tx_o b (fun e => hne e.symm)]
      show h.ct (a / 3) + 1 ≠ _
      omega
    · by_cases eb : b = i
      · subst eb
        have := small a ha hab
        rw [tx_i, tx_o a ea]
        show _ ≠ h.ct (b / 3) + 1
        omega
      · rw [tx_o a ea] at q ⊢
        rw [tx_o b eb]
        exact ok.apart a b ha hb hab hne q
  · rw [lg] at hr ⊢
    rcases ok.over n hn r hr with ⟨j, a1, a2, a3⟩ | a
    · by_cases e : j = i
      · subst e
        have := (ok.recs n hn r hr).2.1
        omega
      · exact .inl ⟨j, a1, a2, by rw [tx_o j e]; exact a3⟩
    · exact .inr a
  · rw [lk] at q
    obtain ⟨j, a1, a2, a3⟩ := ok.locks x hx q
    have e : j ≠ i := fun e => a3.1 (e ▸ h0)
    refine ⟨j, a1, (has_o j x e).2 a2, ?_⟩
    unfold Hs.live
    rw [tx_o j e]
    exact a3
  · by_cases e : j = i
    · subst e
      have hp : h1.plan j = [] := by
        unfold Hs.plan
        rw [tx_i, lg]
        exact planL_zero hl 0
      refine ⟨by rw [hp]; trivial, fun c hc => (by rw [hp] at hc; exact absurd hc (by unfold chs; simp)), fun x hx hhx => ?_⟩
      exfalso
      unfold Hs.has at hhx
      rw [lk, tx_i] at hhx
      obtain ⟨b1, b2⟩ := hhx
      have b2' : (h.lk x).nr = h.ct (j / 3) + 1 := b2
      obtain ⟨m, a1, a2, a3⟩ := ok.locks x hx (by omega)
      have a4 := a2.1
      have a5 := a2.2
      have a6 : m / 3 = j / 3 := by rw [b1] at a4; omega
      have := small m a1 a6
      omega
    · have q' : h.live j := by
        unfold Hs.live at q ⊢
        rwa [tx_o j e] at q
      have u := ok.undo j hj q'
      have hp : h1.plan j = h.plan j := by
        unfold Hs.plan
        rw [tx_o j e, lg]
      refine ⟨by rw [hp, ce]; exact u.fit, fun c hc => ?_, fun x hx hhx => ?_⟩
      · rw [hp] at hc
        exact ⟨(has_o j _ e).2 (u.mine c hc).1, (u.mine c hc).2⟩
      · rw [hp, ce, lk]
        exact u.was x hx ((has_o j x e).1 hhx)
  · by_cases e : j = i
    · subst e
      refine ⟨fun r hr ht hk => ?_, fun pre r post he ht hk hpre => ?_⟩
      · rw [lg] at hr
        rw [tx_i] at ht
        exact absurd ht (none r hr)
      · rw [lg] at he
        rw [tx_i] at ht
        exact absurd ht (none r (by rw [he]; simp))
    · have q' : h.live j := by
        unfold Hs.live at q ⊢
        rwa [tx_o j e] at q
      have d := ok.did j hj q'
      refine ⟨fun r hr ht hk => ?_, fun pre r post he ht hk hpre => ?_⟩
      · rw [lg] at hr
        rw [tx_o j e] at ht
        exact (has_o j _ e).2 (d.locked r hr ht hk)
      · rw [lg] at he
        rw [tx_o j e] at ht hpre
        rw [lk]
        exact d.first pre r post he ht hk hpre
theorem Hs.ok.begins (ok : h.ok N) (hi : i < 9) : (h.begun (i / 3) i).ok (N + 1) ∧ ((h.begun (i / 3) i).tx i).nr ≠ 0 := by
  by_cases h0 : (h.tx i).nr = 0
  · have e : h.begun (i / 3) i = (h.setCt (i / 3) (h.ct (i / 3) + 1)).setTx i ⟨h.ct (i / 3) + 1, 1, (h.tx i).last, (h.tx i).next⟩ := by unfold Hs.begun; rw [if_pos h0]
    have hz := (ok.txn i hi).zero h0
    rw [hz] at e
    have hc := ok.ct (i / 3) (by omega)
    refine ⟨ok.starts hi h0 (by rw [e]; rfl) (by rw [e]; rfl) (by rw [e]; rfl) (by rw [e]; rfl) (by rw [e]; rfl) (by rw [e]; rfl) (by rw [e]; rfl), ?_⟩
    rw [e]
    show (upd h.tx i _ i).nr ≠ 0
    rw [upd_same]
    show h.ct (i / 3) + 1 ≠ 0
    omega
  · have e : h.begun (i / 3) i = h := by unfold Hs.begun; rw [if_neg h0]
    rw [e]
    exact ⟨ok.more (by omega), h0⟩
end
end Go.Proofs.Ytohdmmfmjadipaa

/-
  Each act keeps what every history keeps to: a change made; and all acts. Of no program.
-/
namespace Go.Proofs.Ytohdmmfmjadipaa
open Go.RowKit
set_option linter.unusedVariables false

section
variable {h h' : Hs} {N i : Nat}
/-- What stands in a plan was changed by the transaction. -/
theorem plan_from {l : List Rec} (hl : Rise 0 l) (ch : ∀ r ∈ l, Linked l r.t r.p ∧ Linked l r.t r.n) (t : Int) : ∀ f m, m ≤ f → nextT l m = m → Linked l t m → ∀ c ∈ chs (planL l m 0), ∃ r ∈ l, r.t = t ∧ r.k = 1 ∧ c = invC r.c := by
  intro f
  induction f with
  | zero =>
    intro m hm _ _ c hc
    obtain rfl : m = 0 := by omega
    rw [planL_zero hl] at hc
    exact absurd hc (by unfold chs; simp)
  | succ f ih =>
    intro m hm hn hk c hc
    rcases planL_next hl m 0 hn with ⟨_, e⟩ | ⟨r, hr, h2, h3, h4, e⟩
    · rw [e] at hc
      exact absurd hc (by unfold chs; simp)
    · have ht : r.t = t := by
        rcases hk with h5 | ⟨q, h5, h6, h7⟩
        · omega
        · have a := getT_mem hl hr
          rw [h2, ← h6, getT_mem hl h5] at a
          injection a with a
          rw [← a]
          exact h7
      rw [e] at hc
      have hc' : c = (clrOf l r).c ∨ c ∈ chs (planL l (clrOf l r).n 0) := by
        unfold chs at hc ⊢
        rw [List.map_cons] at hc
        exact List.mem_cons.1 hc
      rcases hc' with h5 | h5
      · exact ⟨r, hr, ht, h3, h5⟩
      · have h6 := clr_less hl hr
        have h7 := (ch r hr).1
        rw [ht] at h7
        exact ih (clrOf l r).n (by omega) (clr_again hl r) (nextT_linked hl ch t _ _ (Nat.le_refl _) h7) c h5
/-- A change made and logged. -/
theorem Hs.ok.makes (ok : h.ok N) (hN : N ≤ 100000) (hi : i < 9) {p s : Nat} (hp4 : p < 4) (hs8 : s < 8) {o : Ac} (h0 : (h.tx i).nr ≠ 0) (hst : (h.tx i).st = 1) (hbar : (h.lk (p * 8 + s)).nr = 0 ∨ h.has i (p * 8 + s)) (hE : h.ofE p s o = 0) : (h.made (i / 3) i p s o).ok (N + 1) := by
  have hl := ok.rise (i / 3) (by omega)
  have hlive : h.live i := ⟨h0, by omega⟩
  have u := ok.undo i hi hlive
  have d := ok.did i hi hlive
  have of := ofC_tells hE
  obtain ⟨C, hC⟩ : ∃ C, C = h.ofC p s o := ⟨_, rfl⟩
  have of' : C.right ∧ C.pg = (p : Int) ∧ C.sl = (s : Int) ∧ C.wantU = (h.pg p).u s ∧ C.wantV = (h.pg p).s s := by rw [hC]; exact of
  clear of
  obtain ⟨c1, c2, c3, c4, c5⟩ := of'
  have hat : C.at = s := by unfold Ch.at; rw [c3]; omega
  have hpp : C.pg.toNat = p := by rw [c2]; omega
  obtain ⟨x0, hx0⟩ : ∃ x, x = p * 8 + s := ⟨_, rfl⟩
  have hx : cellX C = x0 := by unfold cellX; rw [hpp, hat, hx0]
  have x32 : x0 < 32 := by omega
  have hcell : h.cell x0 = (C.wantU, C.wantV) := by
    unfold Hs.cell
    rw [show x0 / 8 = p by omega, show x0 % 8 = s by omega, c4, c5]
  rw [← hx0] at hbar
  obtain ⟨L, hL⟩ : ∃ L, L = max (max (h.ck (i / 3)) h.hi) (h.pg p).l + 1 := ⟨_, rfl⟩
  have b1 := ok.ck (i / 3) (by omega)
  have b2 := ok.pl p hp4
  have b3 := ok.last_lt hi h0
  have b4 := (ok.txn i hi).nr h0
  have b5 := ok.ct (i / 3) (by omega)
  have b6 := ok.hi
  -- the locks
  have kl : (h.locked (i / 3) i p s).lg = h.lg ∧ (h.locked (i / 3) i p s).pg = h.pg ∧ (h.locked (i / 3) i p s).ck = h.ck ∧ (h.locked (i / 3) i p s).ct = h.ct ∧ (h.locked (i / 3) i p s).tx = h.tx ∧ (h.locked (i / 3) i p s).hi = h.hi := by
    unfold Hs.locked
    split <;> exact ⟨rfl, rfl, rfl, rfl, rfl, rfl⟩
  have kk : ((h.lk x0).nr = 0 ∧ (h.locked (i / 3) i p s).lk = upd h.lk x0 ⟨((i / 3 : Nat) : Int), (h.tx i).nr, C.wantU, C.wantV⟩) ∨ (h.has i x0 ∧ (h.locked (i / 3) i p s).lk = h.lk) := by
    unfold Hs.locked
    rw [← hx0]
    by_cases q : (h.lk x0).nr = 0
    · refine .inl ⟨q, ?_⟩
      rw [if_pos q, c4, c5]
      rfl
    · refine .inr ⟨?_, by rw [if_neg q]⟩
      rcases hbar with a | a
      · exact absurd a q
      · exact a
  -- the state behind it
  have hlsn : (h.lockedUp (i / 3) i p s).lsn (i / 3) (h.pg p).l = L := by
    show max (upd (h.locked (i / 3) i p s).ck (i / 3) (max (h.ck (i / 3)) h.hi) (i / 3)) (h.pg p).l + 1 = L
    rw [upd_same, hL]
  obtain ⟨e, he⟩ : ∃ e : Rec, e = ⟨1, L, (h.tx i).nr, (h.tx i).last, C, 0, 0, 0, [], []⟩ := ⟨_, rfl⟩
  have hent : (h.lockedUp (i / 3) i p s).entry (i / 3) i (bare15 1 C 0) (h.pg p).l = e := by
    show (⟨1, (h.lockedUp (i / 3) i p s).lsn (i / 3) (h.pg p).l, ((h.locked (i / 3) i p s).tx i).nr, ((h.locked (i / 3) i p s).tx i).last, C, 0, 0, 0, [], []⟩ : Rec) = e
    rw [hlsn, kl.2.2.2.2.1, he]
  obtain ⟨hm, hhm⟩ : ∃ q, q = h.made (i / 3) i p s o := ⟨_, rfl⟩
  have m_lg : hm.lg = upd h.lg (i / 3) (h.lg (i / 3) ++ [e]) := by
    rw [hhm]
    show upd (h.locked (i / 3) i p s).lg (i / 3) ((h.locked (i / 3) i p s).lg (i / 3) ++ [(h.lockedUp (i / 3) i p s).entry (i / 3) i (bare15 1 (h.ofC p s o) 0) ((h.locked (i / 3) i p s).pg (h.ofC p s o).pg.toNat).l]) = _
    rw [← hC, hpp, kl.1, kl.2.1, hent]
  have m_ck : hm.ck = upd h.ck (i / 3) L := by
    rw [hhm]
    show upd (upd (h.locked (i / 3) i p s).ck (i / 3) (max (h.ck (i / 3)) h.hi)) (i / 3) ((h.lockedUp (i / 3) i p s).lsn (i / 3) ((h.locked (i / 3) i p s).pg (h.ofC p s o).pg.toNat).l) = _
    rw [← hC, hpp, kl.2.1, hlsn, upd_upd, kl.2.2.1]
  have m_tx : hm.tx = upd h.tx i ⟨(h.tx i).nr, (h.tx i).st, L, L⟩ := by
    rw [hhm]
    show upd (upd (h.locked (i / 3) i p s).tx i (((h.locked (i / 3) i p s).tx i).setLast ((h.lockedUp (i / 3) i p s).lsn (i / 3) ((h.locked (i / 3) i p s).pg (h.ofC p s o).pg.toNat).l))) i ((upd (h.locked (i / 3) i p s).tx i (((h.locked (i / 3) i p s).tx i).setLast ((h.lockedUp (i / 3) i p s).lsn (i / 3) ((h.locked (i / 3) i p s).pg (h.ofC p s o).pg.toNat).l)) i).setNext (upd (h.locked (i / 3) i p s).tx i (((h.locked (i / 3) i p s).tx i).setLast ((h.lockedUp (i / 3) i p s).lsn (i / 3) ((h.locked (i / 3) i p s).pg (h.ofC p s o).pg.toNat).l)) i).last) = _
    rw [← hC, hpp, kl.2.1, hlsn, upd_upd, upd_same, kl.2.2.2.2.1]
    rfl
  have m_pg : hm.pg = upd h.pg p ((h.pg p).put L C.at C.makeU C.makeV) := by
    rw [hhm]
    show upd (h.locked (i / 3) i p s).pg (h.ofC p s o).pg.toNat (((h.locked (i / 3) i p s).pg (h.ofC p s o).pg.toNat).put ((h.lockedUp (i / 3) i p s).lsn (i / 3) ((h.locked (i / 3) i p s).pg (h.ofC p s o).pg.toNat).l) (h.ofC p s o).at (h.ofC p s o).makeU (h.ofC p s o).makeV) = _
    rw [← hC, hpp, kl.2.1, hlsn]
  have m_ct : hm.ct = h.ct := by
    rw [hhm]
    show (h.locked (i / 3) i p s).ct = _
    exact kl.2.2.2.1
  have m_hi : hm.hi = h.hi := by
    rw [hhm]
    show (h.locked (i / 3) i p s).hi = _
    exact kl.2.2.2.2.2
  have m_lk : hm.lk = (h.locked (i / 3) i p s).lk := by rw [hhm]; rfl
  rw [← m_lk] at kk
  rw [← hhm]
  clear hhm m_lk kl hlsn hent hE hC hbar
  have hce := cell_put (h := h) c1 hpp.symm m_pg
  have lk_o : ∀ x, x ≠ x0 → hm.lk x = h.lk x := fun x hne => by
    rcases kk with ⟨_, a⟩ | ⟨_, a⟩
    · rw [a, upd_other _ _ _ _ hne]
    · rw [a]
  have lk_i : hasN (hm.lk x0) (i / 3) (h.tx i).nr := by
    rcases kk with ⟨_, a⟩ | ⟨b, a⟩
    · rw [a, upd_same]
      exact ⟨rfl, rfl⟩
    · rw [a]
      exact b
  have lk_h : ∀ x, h.has i x → hm.lk x = h.lk x := fun x hh => by
    by_cases q : x = x0
    · subst q
      rcases kk with ⟨b, a⟩ | ⟨_, a⟩
      · exact absurd (hh.2.symm.trans b) h0
      · rw [a]
    · exact lk_o x q
  have S : Logs h hm i e ⟨(h.tx i).nr, (h.tx i).st, L, L⟩ := by
    refine ⟨hi, h0, m_lg, by rw [m_ck, he], m_ct, m_tx, by rw [he], by rw [he], by rw [he]; show h.ck (i / 3) < L; omega, ?_, by rw [he]; show (1 : Int) ≤ 6; decide, by rw [he]; exact .inl rfl, fun _ => ?_, fun x hx9 => ?_, fun x hx9 hnz hn => ?_⟩
    · rw [he]
      exact turn_right (.inl rfl) c1 (by unfold maxP; omega) (by omega) (by omega) (fun q => absurd q (by decide)) (fun _ => rfl)
    · rw [he]
      show C.pg < 4
      omega
    · by_cases q : x = x0
      · rw [q]
        exact .inr (.inr lk_i)
      · exact .inl (lk_o x q)
    · have q : x ≠ x0 := fun q => by
        subst q
        rcases kk with ⟨b, _⟩ | ⟨b, _⟩
        · exact hnz b
        · exact hn b
      exact ⟨lk_o x q, by rw [hce]; exact doC_out _ _ _ (by rw [hx]; exact q)⟩
  have inv := doC_inv h.cell C c1 (by rw [hx]; exact hcell)
  have hinv := inv_right C c1
  have hnx := (ok.txn i hi).next h0
  have hlink : Linked (h.lg (i / 3)) (h.tx i).nr (h.tx i).next := by
    have a : Linked (h.lg (i / 3)) (h.tx i).nr (h.tx i).last := by
      rw [(ok.txn i hi).last h0]
      rcases lastT_is (h.lg (i / 3)) (h.tx i).nr with h4 | ⟨q, h4, h5, h6, _⟩
      · exact .inl h4
      · exact .inr ⟨q, h4, h5, h6⟩
    rw [hnx]
    exact nextT_linked hl (ok.chain (i / 3) (by omega)) _ _ _ (Nat.le_refl _) a
  have hag : nextT (h.lg (i / 3)) (h.tx i).next = (h.tx i).next := by
    rw [hnx]
    exact nextT_again hl _
  have hplan : chs (hm.plan i) = invC C :: chs (h.plan i) := by
    unfold Hs.plan
    rw [S.tx_i, S.lg_i, planL_snoc, if_pos (by rw [he]), if_pos ⟨by show 0 < L; omega, by rw [he]⟩]
    unfold chs
    rw [List.map_cons]
    have e1 : (clrOf (h.lg (i / 3)) e).c = invC C := by rw [he]; rfl
    have e2 : nextT (h.lg (i / 3)) e.p = (h.tx i).next := by
      rw [he]
      show nextT (h.lg (i / 3)) (h.tx i).last = _
      exact hnx.symm
    rw [e1, e2]
  have has_of : ∀ x, hasN (hm.lk x) (i / 3) (h.tx i).nr → hm.has i x := fun x hh => by
    unfold Hs.has
    rw [S.tx_i]
    exact hh
  have has_to : ∀ x, hm.has i x → hasN (hm.lk x) (i / 3) (h.tx i).nr := fun x hh => by
    unfold Hs.has at hh
    rw [S.tx_i] at hh
    exact hh
  have has_up : ∀ x, h.has i x → hm.has i x := fun x hh => has_of x (by rw [lk_h x hh]; exact hh)
  have free_cell : (h.lk x0).nr = 0 → ∀ c ∈ chs (h.plan i), cellX c ≠ x0 := fun q c hc e => by
    have a := (u.mine c hc).1
    rw [e] at a
    exact h0 (a.2.symm.trans q)
  refine S.done ok (N + 1) (by omega) (by rw [he]; show L ≤ N + 1; omega) (by rw [m_hi]; omega) (fun q hq => ?_) (fun q hq => ?_) ?_ (.inl rfl) (fun x hx hn => ⟨rfl, hlive.2⟩) (fun _ => ⟨⟨?_, fun c hc => ?_, fun x hx2 hh => ?_⟩, ⟨fun r hr ht hk1 => ?_, fun pre r post hsp ht hk1 hpre => ?_⟩⟩)
  · rw [m_pg]
    by_cases hqp : q = p
    · subst hqp
      rw [upd_same]
      show L ≤ N + 1
      omega
    · rw [upd_other _ _ _ _ hqp]
      have := ok.pl q hq
      omega
  · rw [m_pg]
    by_cases hqp : q = p
    · subst hqp
      rw [upd_same]
      exact put_right _ _ _ (ok.pr q hq) c1 (by unfold maxP; omega)
    · rw [upd_other _ _ _ _ hqp]
      exact ok.pr q hq
  · have w := ok.txn i hi
    exact {
      zero := fun q => absurd q h0
      nr := fun _ => w.nr h0
      last := fun _ => by
        show L = lastT _ (h.tx i).nr
        rw [lastT_snoc, if_pos ⟨b4.1, by rw [he]⟩, he]
      next := fun _ => by
        show L = nextT _ L
        rw [nextT_snoc, if_pos (by rw [he]), if_pos (by rw [he])]
      noend := fun _ r hr ht => by
        rcases List.mem_append.1 hr with hr | hr
        · exact w.noend h0 r hr ht
        · rw [List.mem_singleton.1 hr, he]
          show (1 : Int) ≠ 5
          decide
      nocom := fun _ hst r hr ht => by
        rcases List.mem_append.1 hr with hr | hr
        · exact w.nocom h0 hst r hr ht
        · rw [List.mem_singleton.1 hr, he]
          show (1 : Int) ≠ 3
          decide
      com := fun _ hst => absurd hst hlive.2 }
  · rw [hplan, hce]
    refine ⟨by rw [inv.1]; exact inv.2.1, ?_⟩
    rw [inv.2.2]
    exact u.fit
  · rw [hplan] at hc
    rcases List.mem_cons.1 hc with a | a
    · rw [a, inv.1, hx]
      refine ⟨has_of x0 lk_i, hinv.1, ?_⟩
      have : (invC C).pg = C.pg := by unfold invC; rw [if_pos c1]
      omega
    · have b := u.mine c a
      exact ⟨has_up _ b.1, b.2⟩
  · rw [hplan, hce]
    show runC (doC (doC h.cell C) (invC C)) (chs (h.plan i)) x = _
    rw [inv.2.2]
    by_cases q : x = x0
    · subst q
      rcases kk with ⟨b, a⟩ | ⟨b, a⟩
      · rw [runC_out _ _ _ (free_cell b), hcell, a, upd_same]
      · rw [a]
        exact u.was x x32 b
    · rw [lk_o x q]
      have a := has_to x hh
      rw [lk_o x q] at a
      exact u.was x hx2 a
  · rw [S.tx_i] at ht
    rcases S.mem hr with a | ⟨_, a⟩
    · exact has_up _ (d.locked r a ht hk1)
    · rw [a, he]
      show hm.has i (cellX C)
      rw [hx]
      exact has_of x0 lk_i
  · rw [S.tx_i] at ht hpre
    rw [S.lg_i] at hsp
    rcases snoc_split hsp with ⟨post', a⟩ | ⟨a, b⟩
    · have hmem : r ∈ h.lg (i / 3) := by rw [a]; simp
      rw [lk_h _ (d.locked r hmem ht hk1)]
      exact d.first pre r post' a ht hk1 hpre
    · subst b
      have hrc : r.c = C := by rw [he]
      rw [hrc, hx] at hpre ⊢
      rcases kk with ⟨b, k⟩ | ⟨b, k⟩
      · rw [k, upd_same]
      · rw [k, ← hcell, ← u.was x0 x32 b]
        refine runC_out _ _ _ (fun c hc hcx => ?_)
        obtain ⟨q, hq, q1, q2, q3⟩ := plan_from hl (ok.chain (i / 3) (by omega)) (h.tx i).nr _ _ (Nat.le_refl _) hag hlink c hc
        have hqR := rise_right _ 0 hl q hq
        refine hpre q (by rw [a]; exact hq) q1 q2 ?_
        rw [← hcx, q3]
        have hqc := hqR.ch (by omega)
        have w := inv_right q.c hqc
        unfold cellX
        rw [w.2.1]
        unfold invC
        rw [if_pos hqc]
end
end Go.Proofs.Ytohdmmfmjadipaa

/-
  What every history keeps to: all acts, all that is played. Of no program.
-/
namespace Go.Proofs.Ytohdmmfmjadipaa
open Go.RowKit
set_option linter.unusedVariables false

section
variable {h : Hs} {N : Nat}
theorem Hs.ok.changed (ok : h.ok N) (hN : N ≤ 50000) {i : Nat} (hi : i < 9) (o : Ac) : (h.change (i / 3) i o).ok (N + 2) := by
  obtain ⟨ok1, h0⟩ := ok.begins hi
  unfold Hs.change
  obtain ⟨g, hg⟩ : ∃ g, g = h.begun (i / 3) i := ⟨_, rfl⟩
  rw [← hg] at ok1 h0 ⊢
  have hp := pick15_lt o.pg 4 (by decide)
  have hs := pick15_lt o.sl 8 (by decide)
  unfold Hs.change1
  by_cases hb : g.barred (i / 3) i (pick15 o.pg 4 * 8 + pick15 o.sl 8) = true
  · rw [if_pos hb]
    exact ok1.more (by omega)
  rw [if_neg hb]
  by_cases hE : g.ofE (pick15 o.pg 4) (pick15 o.sl 8) o ≠ 0
  · rw [if_pos hE]
    exact ok1.more (by omega)
  rw [if_neg hE]
  have hE0 : g.ofE (pick15 o.pg 4) (pick15 o.sl 8) o = 0 := by
    by_cases q : g.ofE (pick15 o.pg 4) (pick15 o.sl 8) o = 0
    · exact q
    · exact absurd q hE
  have hst : (g.tx i).st = 1 := by
    by_cases q : (g.tx i).st = 1
    · exact q
    · exact absurd (by unfold Hs.barred; simp [q]) hb
  have hbar : (g.lk (pick15 o.pg 4 * 8 + pick15 o.sl 8)).nr = 0 ∨ g.has i (pick15 o.pg 4 * 8 + pick15 o.sl 8) := by
    by_cases q : (g.lk (pick15 o.pg 4 * 8 + pick15 o.sl 8)).nr = 0
    · exact .inl q
    · refine .inr ?_
      unfold Hs.has hasN
      by_cases q1 : (g.lk (pick15 o.pg 4 * 8 + pick15 o.sl 8)).nd = ((i / 3 : Nat) : Int)
      · by_cases q2 : (g.lk (pick15 o.pg 4 * 8 + pick15 o.sl 8)).nr = (g.tx i).nr
        · exact ⟨q1, q2⟩
        · refine absurd ?_ hb
          unfold Hs.barred
          rw [Bool.or_eq_true, Bool.and_eq_true, Bool.or_eq_true, decide_eq_true_eq, decide_eq_true_eq, decide_eq_true_eq, decide_eq_true_eq]
          exact .inr ⟨q, .inr q2⟩
      · refine absurd ?_ hb
        unfold Hs.barred
        rw [Bool.or_eq_true, Bool.and_eq_true, Bool.or_eq_true, decide_eq_true_eq, decide_eq_true_eq, decide_eq_true_eq, decide_eq_true_eq]
        exact .inr ⟨q, .inl q1⟩
  exact ok1.makes (by omega) hi hp hs h0 hst hbar hE0
theorem Hs.ok.did2 (ok : h.ok N) (hN : N ≤ 50000) {i : Nat} (hi : i < 9) (kd : Nat) (o : Ac) (hl : (h.tx i).last ≠ 0) : (h.does2 (i / 3) i kd o).ok (N + 1) := by
  have h0 : (h.tx i).nr ≠ 0 := fun q => hl (by rw [(ok.txn i hi).zero q]; rfl)
  have hN1 : N ≤ 100000 := by omega
  have c1 := ok.ck (i / 3) (by omega)
  have c2 := ok.hi
  have hL : h.lsn (i / 3) 0 = h.ck (i / 3) + 1 := by unfold Hs.lsn; omega
  unfold Hs.does2
  by_cases e6 : kd = 6 ∧ (h.tx i).st = 1
  · rw [if_pos e6]
    refine ok.stops hN1 hi h0 (t' := ⟨(h.tx i).nr, 3, h.lsn (i / 3) 0, (h.tx i).next⟩) (k := 3) (.inl ⟨rfl, e6.2, rfl⟩) rfl rfl rfl ?_ rfl (fun x hx => ?_) ?_
    · show upd (upd h.tx i ((h.tx i).setLast (h.lsn (i / 3) 0))) i ((upd h.tx i ((h.tx i).setLast (h.lsn (i / 3) 0)) i).setSt 3) = _
      rw [upd_upd, upd_same]
      rfl
    · refine free_lk (h := h) (h1 := ((h.log (i / 3) i (bare15 3 Ch.zero 0) 0).setHi (max h.hi (h.lsn (i / 3) 0))).state i 3) rfl ?_ x hx
      show (upd (upd h.tx i ((h.tx i).setLast (h.lsn (i / 3) 0))) i ((upd h.tx i ((h.tx i).setLast (h.lsn (i / 3) 0)) i).setSt 3) i).nr = _
      rw [upd_upd, upd_same, upd_same]
      rfl
    · show max h.hi (h.lsn (i / 3) 0) ≤ N + 1
      omega
  rw [if_neg e6]
  by_cases e7 : kd = 7 ∧ ((h.tx i).st = 3 ∨ (h.tx i).st = 2 ∧ (h.tx i).next = 0)
  · rw [if_pos e7]
    refine ok.stops hN1 hi h0 (t' := Tu.zero) (k := 5) (.inr ⟨rfl, rfl⟩) rfl rfl rfl ?_ rfl (fun x hx => ?_) ?_
    · show upd (upd h.tx i ((h.tx i).setLast (h.lsn (i / 3) 0))) i Tu.zero = _
      rw [upd_upd]
    · refine free_lk (h := h) (h1 := h.log (i / 3) i (bare15 5 Ch.zero 0) 0) rfl ?_ x hx
      show (upd h.tx i ((h.tx i).setLast (h.lsn (i / 3) 0)) i).nr = _
      rw [upd_same]
      rfl
    · show h.hi ≤ N + 1
      omega
  rw [if_neg e7]
  by_cases e8 : kd = 8 ∧ (h.tx i).st = 1
  · rw [if_pos e8]
    refine ok.goes hN1 hi h0 e8.2 (k := 4) (ss := 0) (s := 2) (.inl rfl) (fun q => absurd q (by decide)) (fun _ => rfl) (.inr rfl) rfl rfl rfl ?_ rfl rfl rfl
    show upd (upd h.tx i ((h.tx i).setLast (h.lsn (i / 3) 0))) i ((upd h.tx i ((h.tx i).setLast (h.lsn (i / 3) 0)) i).setSt 2) = _
    rw [upd_upd, upd_same]
    rfl
  rw [if_neg e8]
  by_cases e9 : kd = 9 ∨ kd = 10
  · rw [if_pos e9]
    exact ok.backs hN1 hi
  rw [if_neg e9]
  by_cases e11 : kd = 11 ∧ (h.tx i).st = 1
  · rw [if_pos e11]
    have hs := pick15_lt o.sl 8 (by decide)
    refine ok.goes hN1 hi h0 e11.2 (k := 6) (ss := 1 + (pick15 o.sl 8 : Nat)) (s := 1) (.inr rfl) (fun _ => by omega) (fun q => absurd rfl q) (.inl rfl) rfl rfl rfl ?_ rfl rfl rfl
    show upd h.tx i ((h.tx i).setLast (h.lsn (i / 3) 0)) = _
    rw [← e11.2]
    rfl
  rw [if_neg e11]
  exact ok.more (by omega)
theorem Hs.ok.does (ok : h.ok N) (hN : N ≤ 50000) (o : Ac) : (h.does o).ok (N + 2) := by
  have hn := pick15_lt o.n 3 (by decide)
  have hk := pick15_lt o.t 3 (by decide)
  unfold Hs.does
  obtain ⟨i, hi⟩ : ∃ i, i = pick15 o.n 3 * 3 + pick15 o.t 3 := ⟨_, rfl⟩
  have hi9 : i < 9 := by omega
  have h3 : pick15 o.n 3 = i / 3 := by omega
  rw [← hi, h3]
  by_cases e5 : pick15 o.k 13 ≤ 5
  · rw [if_pos e5]
    exact ok.changed hN hi9 o
  rw [if_neg e5]
  by_cases e12 : pick15 o.k 13 = 12
  · rw [if_pos e12]
    have a := ok.ck (i / 3) (by omega)
    have b := ok.ck (pick15 o.t 3) hk
    exact (ok.clock (by omega) (by omega)).more (by omega)
  rw [if_neg e12]
  by_cases e0 : (h.tx i).last = 0
  · rw [if_pos e0]
    exact ok.more (by omega)
  rw [if_neg e0]
  exact (ok.did2 hN hi9 _ o e0).more (by omega)
theorem cell0 : ∀ i, i < 8 → cellOk (Pg.zero.u i) (Pg.zero.s i) := fun i _ => ⟨Nat.zero_le _, fun _ => rfl⟩
theorem Hs.zero_ok : Hs.zero.ok 0 where
  ck := fun n hn => Nat.le_refl _
  hi := Nat.le_refl _
  ct := fun n hn => ⟨Int.le_refl _, Int.le_refl _⟩
  pl := fun p hp => Nat.le_refl _
  pr := fun p hp => ⟨Nat.zero_le _, cell0⟩
  rise := fun n hn => trivial
  last := fun n hn r hr => absurd hr (by show ¬ r ∈ ([] : List Rec); simp)
  recs := fun n hn r hr => absurd hr (by show ¬ r ∈ ([] : List Rec); simp)
  chain := fun n hn r hr => absurd hr (by show ¬ r ∈ ([] : List Rec); simp)
  txn := fun i hi => ⟨fun _ => rfl, fun q => absurd rfl q, fun q => absurd rfl q, fun q => absurd rfl q, fun q => absurd rfl q, fun q => absurd rfl q, fun q => absurd rfl q⟩
  apart := fun i j _ _ _ _ q => absurd rfl q
  over := fun n hn r hr => absurd hr (by show ¬ r ∈ ([] : List Rec); simp)
  locks := fun x hx q => absurd rfl q
  undo := fun i hi q => absurd rfl q.1
  did := fun i hi q => absurd rfl q.1
theorem Hs.play_ok : ∀ l : List Ac, l.length ≤ 20000 → (Hs.play l).ok (2 * l.length) := by
  intro l
  induction l using snoc_ind with
  | h0 => exact fun _ => Hs.zero_ok
  | h1 l o ih =>
    intro hl
    rw [List.length_append, List.length_singleton] at hl ⊢
    rw [Hs.play_snoc]
    exact (ih (by omega)).does (by omega) o
/-! ### How long its lists are -/
theorem rise_len : ∀ (l : List Rec) (a c : Nat), Rise a l → (∀ r ∈ l, r.l ≤ c) → a ≤ c → l.length ≤ c - a
  | [], _, _, _, _, _ => Nat.zero_le _
  | r :: l, a, c, h, hc, ha => by
    have h1 := hc r (by simp)
    have h2 := rise_len l r.l c h.2.2 (fun q hq => hc q (List.mem_cons_of_mem _ hq)) h1
    have h3 := h.2.1
    rw [List.length_cons]
    omega
theorem Hs.ok.len (ok : h.ok N) {n : Nat} (hn : n < 3) : (h.lg n).length ≤ N := by
  have := rise_len (h.lg n) 0 (h.ck n) (ok.rise n hn) (ok.last n hn) (Nat.zero_le _)
  have := ok.ck n hn
  omega
theorem turn_past (h : Hs) (n i : Nat) (r : Rec) (p : Nat) : ((h.turn n i r).past p).length ≤ (h.past p).length + 1 := by
  show (upd h.past r.page _ p).length ≤ _
  by_cases e : p = r.page
  · rw [e, upd_same, List.length_append, List.length_singleton]
    exact Nat.le_refl _
  · rw [upd_other _ _ _ _ e]
    omega
theorem does_past (h : Hs) (o : Ac) (p : Nat) : ((h.does o).past p).length ≤ (h.past p).length + 1 := by
  unfold Hs.does
  split
  · unfold Hs.change
    obtain ⟨g, hg⟩ : ∃ g, g = h.begun (pick15 o.n 3) (pick15 o.n 3 * 3 + pick15 o.t 3) := ⟨_, rfl⟩
    have e : g.past = h.past := by
      rw [hg]
      unfold Hs.begun
      split <;> rfl
    rw [← hg, ← e]
    unfold Hs.change1
    split
    · omega
    · split
      · omega
      · have a := turn_past (g.lockedUp (pick15 o.n 3) (pick15 o.n 3 * 3 + pick15 o.t 3) (pick15 o.pg 4) (pick15 o.sl 8)) (pick15 o.n 3) (pick15 o.n 3 * 3 + pick15 o.t 3) (bare15 1 (g.ofC (pick15 o.pg 4) (pick15 o.sl 8) o) 0) p
        have b : (g.lockedUp (pick15 o.n 3) (pick15 o.n 3 * 3 + pick15 o.t 3) (pick15 o.pg 4) (pick15 o.sl 8)).past = g.past := by
          unfold Hs.lockedUp Hs.locked
          split <;> rfl
        rw [b] at a
        exact a
  · split
    · show (h.past p).length ≤ _
      omega
    · split
      · omega
      · unfold Hs.does2
        split
        · show (h.past p).length ≤ _
          omega
        · split
          · show (h.past p).length ≤ _
            omega
          · split
            · show (h.past p).length ≤ _
              omega
            · split
              · unfold Hs.back
                split
                · omega
                · exact turn_past h _ _ _ p
              · split
                · show (h.past p).length ≤ _
                  omega
                · omega
theorem play_past (l : List Ac) (p : Nat) : ((Hs.play l).past p).length ≤ l.length + 1 := by
  induction l using snoc_ind with
  | h0 => exact Nat.le_refl _
  | h1 l o ih =>
    rw [Hs.play_snoc, List.length_append, List.length_singleton]
    have := does_past (Hs.play l) o p
    omega
end
end Go.Proofs.Ytohdmmfmjadipaa

/-
  The contract of quaysideref15's Play.
-/
namespace Go.Proofs.Ytohdmmfmjadipaa
open Go.RowKit
set_option linter.unusedVariables false

theorem share15p {F G : Nat → Nat → Nat → World → Prop} {R : Prop} (h : (∀ g a c z, F g a c z → G g a c z) → R) (k : ∀ g a c z, F g a c z → G g a c z) : R := h k
theorem run_mkR3 (w : World) : (Instr.makeSlice 53 (.int .i64 3) (.int .i64 3)).run Try.prog w = .ok (.slice (some ⟨w.heap.size, 0, none⟩) 3 3) (w.alloc (.cells z3R 22)) := by kernel_rfl
theorem infoP15 : (Try.prog.info? 77).map (fun i => (i.zero, i.size, i.bytes)) = some (some (.agg (pgA Pg.zero)), 17, 200) := by kernel_rfl
theorem z4P_made : madeCells (pgA Pg.zero) (4 * 17) = z4P := by kernel_rfl
theorem run_mkP4 (w : World) : (Instr.makeSlice 54 (.int .i64 4) (.int .i64 4)).run Try.prog w = .ok (.slice (some ⟨w.heap.size, 0, none⟩) 4 4) (w.alloc (.cells z4P 77)) := by
  kernel_rfl
theorem infoPs15 : (Try.prog.info? 54).map (fun i => (i.zero, i.size, i.bytes)) = some (some (.slice none 0 0), 1, 24) := by kernel_rfl
theorem sound_of {h : Hs} {N : Nat} (ok : h.ok N) (hN : N ≤ 800) (hp : ∀ p, p < 4 → (h.past p).length ≤ 900) : h.sound where
  few := ⟨fun n hn => Nat.le_trans (ok.ck n hn) (by omega), Nat.le_trans ok.hi (by omega), fun p hp => Nat.le_trans (ok.pl p hp) (by omega), fun n hn => ⟨(ok.ct n hn).1, by have := (ok.ct n hn).2; omega⟩, fun n hn => Nat.le_trans (ok.len hn) (by omega), hp⟩
  rise := ok.rise
  pgs := fun n hn r hr hk => (ok.recs n hn r hr).2.2.2 (by omega)
  next := fun i hi h1 => by
    have h0 : (h.tx i).nr ≠ 0 := fun q => h1 (by rw [(ok.txn i hi).zero q]; rfl)
    obtain ⟨r, a, b, c, _⟩ := ok.front hi h0 h1
    exact ⟨r, a, b, c⟩
set_option maxRecDepth 8000 in
set_option maxHeartbeats 3200000 in
theorem hplay15 (w : World) (a0 : Option Addr) (n0 k0 : Nat) (l : List Ac) (H : AcsIn w (.slice a0 n0 k0) l) (hl : l.length ≤ 300) :
    Calls Try.prog 24 #[.slice a0 n0 k0] w fun e w' => ∃ g F, e = .returned (.pointer (some ⟨g, 0, none⟩)) ∧ HB w' w.heap.size g F (Hs.play l) ∧ Below w.heap.size w w' := by
  have HH := hide H
  have hn0 : n0 = l.length := by
    obtain ⟨a, c, e, _⟩ := H.1
    injection e
  have HL := hide hl
  have HLN := hide hn0
  clear H hl hn0
  go_enter Try.func24, Try.ntmps24
  go_wp2_with fail
  apply share15p (F := fun g gl gp z => Hid (NewAt z w.heap.size g gl gp 0 (.slice none 0 0) (fun _ => 0) (z174 gl gp) ∧ Below w.heap.size w z))
  (case h =>
    intro REST
    refine wp_region_noPanic ?_
    refine wp_region_held_drew (S := fun _ => True) (by kernel_rfl) trivial (fun hHeld => ?_)
    refine hand_two 0 1 (by kernel_rfl) ?_ ?_
    · skip
      obtain ⟨gl, hgl⟩ : ∃ k, k = w.drew.heap.size := ⟨_, rfl⟩
      have rgl := run_mkR3 w.drew
      refine hand_run (some 6) rfl rfl rfl (.slice (some ⟨gl, 0, none⟩) 3 3) (w.drew.alloc (.cells z3R 22)) ?hz ?_
      (case hz => rw [hgl]; go_simp)
      have bgl : Below w.drew.heap.size w.drew (w.drew.alloc (.cells z3R 22)) := (Below.refl _ _).alloc (Nat.le_refl _) _
      have Rgl : RowAt (w.drew.alloc (.cells z3R 22)) gl 22 z3R := by rw [hgl]; exact RowAt.new _ _ _
      have lgl : w.heap.size ≤ gl := by rw [hgl]; exact Nat.le_refl _
      clear rgl
      refine ⟨trivial, ?_⟩
      try simp only [Act.put, List.setIfInBounds_toArray, List.set_cons_zero, List.set_cons_succ]
      obtain ⟨z1, hz1⟩ : ∃ z, z = (w.drew.alloc (.cells z3R 22)) := ⟨_, rfl⟩
      rw [← hz1] at bgl Rgl ⊢
      have B1 : Below w.heap.size w z1 := (below_drew (Below.refl w.heap.size w)).trans bgl
      clear hz1
      refine hand_one 1 (by kernel_rfl) ?_
      obtain ⟨gp, hgp⟩ : ∃ k, k = z1.heap.size := ⟨_, rfl⟩
      have rgp := run_mkP4 z1
      refine hand_run (some 7) rfl rfl rfl (.slice (some ⟨gp, 0, none⟩) 4 4) (z1.alloc (.cells z4P 77)) ?hz ?_
      (case hz => rw [hgp]; go_simp)
      have bgp : Below z1.heap.size z1 (z1.alloc (.cells z4P 77)) := (Below.refl _ _).alloc (Nat.le_refl _) _
      have Rgp : RowAt (z1.alloc (.cells z4P 77)) gp 77 z4P := by rw [hgp]; exact RowAt.new _ _ _
      have lgp : w.heap.size ≤ gp := by rw [hgp]; exact B1.size
      clear rgp
      refine ⟨trivial, ?_⟩
      try simp only [Act.put, List.setIfInBounds_toArray, List.set_cons_zero, List.set_cons_succ]
      obtain ⟨z2, hz2⟩ : ∃ z, z = z1.alloc (.cells z4P 77) := ⟨_, rfl⟩
      rw [← hz2] at bgp Rgp ⊢
      have B2 := B1.trans (bgp.mono B1.size)
      have R2 := Rgl.later bgp
      clear hz2
      refine hand_take 2 (some 8) (.agg (z174 gl gp)) rfl rfl (by kernel_rfl) (by kernel_rfl) (by kernel_rfl) (fun _ _ _ h => h) (Or.inl ⟨by kernel_rfl, fun x' hSx => by kernel_rfl⟩) hHeld ?_
      try simp only [Act.put, List.setIfInBounds_toArray, List.set_cons_zero, List.set_cons_succ]
      refine hand_one 3 (by kernel_rfl) ?_
      obtain ⟨g, hg⟩ : ∃ k, k = z2.heap.size := ⟨_, rfl⟩
      have b3 : Below z2.heap.size z2 (z2.alloc (.cells (z174 gl gp) 69)) := (Below.refl _ _).alloc (Nat.le_refl _) _
      have R3 : RowAt (z2.alloc (.cells (z174 gl gp) 69)) g 69 (z174 gl gp) := by rw [hg]; exact RowAt.new _ _ _
      have lg : w.heap.size ≤ g := by rw [hg]; exact B2.size
      have HZ4 := hide (z174_cells gl gp)
      refine hand_run (some 9) rfl rfl rfl (.pointer (some ⟨g, 0, none⟩)) (z2.alloc (.cells (z174 gl gp) 69)) ?hz ?_
      (case hz => rw [hg]; go_simp)
      obtain ⟨z3, hz3⟩ : ∃ z, z = z2.alloc (.cells (z174 gl gp) 69) := ⟨_, rfl⟩
      rw [← hz3] at b3 R3 ⊢
      clear hz3
      refine ⟨trivial, ?_⟩
      try simp only [Act.put, List.setIfInBounds_toArray, List.set_cons_zero, List.set_cons_succ]
      refine hand_take 4 (some 3) (.pointer (some ⟨g, 0, none⟩)) rfl rfl (by kernel_rfl) (by kernel_rfl) (by kernel_rfl) (fun _ _ _ h => h) (Or.inl ⟨by kernel_rfl, fun x' hSx => by go_simp⟩) hHeld ?_
      try simp only [Act.put, List.setIfInBounds_toArray, List.set_cons_zero, List.set_cons_succ]
      refine wpAnyH_done (by kernel_rfl) ?_ _
      refine NoPanic.normal ?_
      exact REST g gl gp z3 ⟨⟨⟨lg, lgl, lgp⟩, R3, HZ4.out, R2.later b3, Rgp.later b3, World.ownsRow_nil _ _ _ _, fun p hp => absurd hp (Nat.not_lt_zero p), fun p q hp => absurd hp (Nat.not_lt_zero p)⟩, B2.trans (b3.mono B2.size)⟩
    · skip
      obtain ⟨gp, hgp⟩ : ∃ k, k = w.drew.heap.size := ⟨_, rfl⟩
      have rgp := run_mkP4 w.drew
      refine hand_run (some 7) rfl rfl rfl (.slice (some ⟨gp, 0, none⟩) 4 4) (w.drew.alloc (.cells z4P 77)) ?hz ?_
      (case hz => rw [hgp]; go_simp)
      have bgp : Below w.drew.heap.size w.drew (w.drew.alloc (.cells z4P 77)) := (Below.refl _ _).alloc (Nat.le_refl _) _
      have Rgp : RowAt (w.drew.alloc (.cells z4P 77)) gp 77 z4P := by rw [hgp]; exact RowAt.new _ _ _
      have lgp : w.heap.size ≤ gp := by rw [hgp]; exact Nat.le_refl _
      clear rgp
      refine ⟨trivial, ?_⟩
      try simp only [Act.put, List.setIfInBounds_toArray, List.set_cons_zero, List.set_cons_succ]
      obtain ⟨z1, hz1⟩ : ∃ z, z = (w.drew.alloc (.cells z4P 77)) := ⟨_, rfl⟩
      rw [← hz1] at bgp Rgp ⊢
      have B1 : Below w.heap.size w z1 := (below_drew (Below.refl w.heap.size w)).trans bgp
      clear hz1
      refine hand_one 0 (by kernel_rfl) ?_
      obtain ⟨gl, hgl⟩ : ∃ k, k = z1.heap.size := ⟨_, rfl⟩
      have rgl := run_mkR3 z1
      refine hand_run (some 6) rfl rfl rfl (.slice (some ⟨gl, 0, none⟩) 3 3) (z1.alloc (.cells z3R 22)) ?hz ?_
      (case hz => rw [hgl]; go_simp)
      have bgl : Below z1.heap.size z1 (z1.alloc (.cells z3R 22)) := (Below.refl _ _).alloc (Nat.le_refl _) _
      have Rgl : RowAt (z1.alloc (.cells z3R 22)) gl 22 z3R := by rw [hgl]; exact RowAt.new _ _ _
      have lgl : w.heap.size ≤ gl := by rw [hgl]; exact B1.size
      clear rgl
      refine ⟨trivial, ?_⟩
      try simp only [Act.put, List.setIfInBounds_toArray, List.set_cons_zero, List.set_cons_succ]
      obtain ⟨z2, hz2⟩ : ∃ z, z = z1.alloc (.cells z3R 22) := ⟨_, rfl⟩
      rw [← hz2] at bgl Rgl ⊢
      have B2 := B1.trans (bgl.mono B1.size)
      have R2 := Rgp.later bgl
      clear hz2
      refine hand_take 2 (some 8) (.agg (z174 gl gp)) rfl rfl (by kernel_rfl) (by kernel_rfl) (by kernel_rfl) (fun _ _ _ h => h) (Or.inl ⟨by kernel_rfl, fun x' hSx => by kernel_rfl⟩) hHeld ?_
      try simp only [Act.put, List.setIfInBounds_toArray, List.set_cons_zero, List.set_cons_succ]
      refine hand_one 3 (by kernel_rfl) ?_
      obtain ⟨g, hg⟩ : ∃ k, k = z2.heap.size := ⟨_, rfl⟩
      have b3 : Below z2.heap.size z2 (z2.alloc (.cells (z174 gl gp) 69)) := (Below.refl _ _).alloc (Nat.le_refl _) _
      have R3 : RowAt (z2.alloc (.cells (z174 gl gp) 69)) g 69 (z174 gl gp) := by rw [hg]; exact RowAt.new _ _ _
      have lg : w.heap.size ≤ g := by rw [hg]; exact B2.size
      have HZ4 := hide (z174_cells gl gp)
      refine hand_run (some 9) rfl rfl rfl (.pointer (some ⟨g, 0, none⟩)) (z2.alloc (.cells (z174 gl gp) 69)) ?hz ?_
      (case hz => rw [hg]; go_simp)
      obtain ⟨z3, hz3⟩ : ∃ z, z = z2.alloc (.cells (z174 gl gp) 69) := ⟨_, rfl⟩
      rw [← hz3] at b3 R3 ⊢
      clear hz3
      refine ⟨trivial, ?_⟩
      try simp only [Act.put, List.setIfInBounds_toArray, List.set_cons_zero, List.set_cons_succ]
      refine hand_take 4 (some 3) (.pointer (some ⟨g, 0, none⟩)) rfl rfl (by kernel_rfl) (by kernel_rfl) (by kernel_rfl) (fun _ _ _ h => h) (Or.inl ⟨by kernel_rfl, fun x' hSx => by go_simp⟩) hHeld ?_
      try simp only [Act.put, List.setIfInBounds_toArray, List.set_cons_zero, List.set_cons_succ]
      refine wpAnyH_done (by kernel_rfl) ?_ _
      refine NoPanic.normal ?_
      exact REST g gl gp z3 ⟨⟨⟨lg, lgl, lgp⟩, R3, HZ4.out, Rgl.later b3, R2.later b3, World.ownsRow_nil _ _ _ _, fun p hp => absurd hp (Nat.not_lt_zero p), fun p q hp => absurd hp (Nat.not_lt_zero p)⟩, B2.trans (b3.mono B2.size)⟩)
  intro g gl gp z HZ
  obtain ⟨hN0, hB0⟩ := HZ.out
  have HN0 := hide hN0
  have HB0 := hide hB0
  clear HZ hN0 hB0
  go_wp2
  go_loopw [4] (fun i wr => ∃ a : Nat, a ≤ 4 ∧ i = .int .i64 (a : Int) ∧ Hid (∃ v bq cs, NewAt wr w.heap.size g gl gp a v bq cs ∧ Below w.heap.size w wr)) (fun i _ => 4 - (intOf i).toNat)
  case atStart => exact ⟨0, by omega, rfl, _, _, _, HN0.out, HB0.out⟩
  case round =>
    clear HN0 HB0
    obtain ⟨a, ha, rfl, HA⟩ := hrel
    by_cases hlt : a < 4
    · have i4 : (a : Int) < 4 := by omega
      obtain ⟨v, bq, cs, hN, hB⟩ := HA.out
      obtain ⟨a1, c1, rfl⟩ := own_slot15 hN.own
      have c2 := hN.blk.cell _ _ hN.cells.c2
      have HN := hide hN
      have HBW := hide hB
      clear hN hB HA
      go_wp2_with (with_reducible refine stop_at 22 rfl ?_)
      refine unstop10 ?_
      obtain ⟨z1, hz1⟩ : ∃ z, z = wr.alloc (.cells #[.int .u64 0, .bool false, .string ⟨#[]⟩, .bool false, .string ⟨#[]⟩, .bool false, .string ⟨#[]⟩, .bool false, .string ⟨#[]⟩, .bool false, .string ⟨#[]⟩, .bool false, .string ⟨#[]⟩, .bool false, .string ⟨#[]⟩, .bool false, .string ⟨#[]⟩] 77) := ⟨_, rfl⟩
      have s1 : z1.heap.size = wr.heap.size + 1 := by rw [hz1]; simp
      have b1 : Below wr.heap.size wr z1 := by rw [hz1]; exact (Below.refl _ _).alloc (Nat.le_refl _) _
      have R1 : RowAt z1 wr.heap.size 77 (pgA Pg.zero) := by rw [hz1]; exact RowAt.new wr _ _
      rw [← hz1]
      obtain ⟨z2, hz2⟩ : ∃ z, z = z1.alloc (.cells #[.slice (some ⟨wr.heap.size, 0, none⟩) 1 1] 54) := ⟨_, rfl⟩
      have b2 : Below z1.heap.size z1 z2 := by rw [hz2]; exact (Below.refl _ _).alloc (Nat.le_refl _) _
      have R2 : RowAt z2 (wr.heap.size + 1) 54 #[q1C wr.heap.size] := by rw [hz2, ← s1]; exact RowAt.new z1 _ _
      rw [← hz2]
      have b12 : Below wr.heap.size wr z2 := b1.trans (b2.mono b1.size)
      have R3 := R1.later b2
      clear hz1 hz2 b1 b2 R1 s1
      obtain ⟨v', z3, r1, ho, hg, _⟩ := run_app_one z2 55 54 55 1 24 (.slice none 0 0) Try.underlying55 infoPs15 rfl (by decide) (by decide) w.heap.size (.slice a1 a c1) a _ (ow_later HN.out.own b12) (wr.heap.size + 1) #[q1C wr.heap.size] R2 rfl (by simp [q1C, Value.oneCell']) (by omega) (Nat.le_trans HBW.out.size b12.size)
      obtain ⟨a2, c3, rfl⟩ := own_slot15 ho
      have hs := HN.out.step b12 R3 (Nat.le_refl _) HBW.out.size hg ho
      have HS := hide hs
      have fr := hs.2.2.free 2
      have cc := hs.2.2.cell 2 _ HN.out.cells.c2
      clear hs ho hg R2 R3 c2
      refine Lib.wpList_append_run _ rfl _ _ _ _ rfl _ _ rfl rfl _ _ r1 ?_
      clear r1
      go_wp2
      go_roundw
      case rel => exact ⟨a + 1, by omega, by go_num, _, _, _, HS.out.1, HBW.out.trans HS.out.2.1⟩
      case measure => simp [intOf] <;> omega
    · have i4 : ¬ (a : Int) < 4 := by omega
      obtain rfl : a = 4 := by omega
      obtain ⟨v, bq, cs, hN, hB⟩ := HA.out
      obtain ⟨F0, hF0⟩ := hN.done
      have HF := hide (And.intro hF0 hB)
      clear hN hB HA hF0
      go_wp2
      go_loopw [27] (fun i wr => ∃ b : Nat, b ≤ n0 ∧ i = .int .i64 (b : Int) ∧ Hid (∃ F, HB wr w.heap.size g F (Hs.play (l.take b)) ∧ Below w.heap.size w wr)) (fun i _ => n0 - (intOf i).toNat)
      case atStart => exact ⟨0, by omega, rfl, F0, HF.out.1, HF.out.2⟩
      case round =>
        clear HF
        obtain ⟨b, hb, rfl, HP⟩ := hrel
        by_cases hlt2 : b < n0
        · have ib : (b : Int) < (n0 : Int) := by omega
          have i0 : (0 : Int) ≤ (b : Int) := by omega
          obtain ⟨F, h1, h2⟩ := HP.out
          have hbl : b < l.length := by rw [← HLN.out]; exact hlt2
          have hb9 : b < 300 := by have := HL.out; omega
          obtain ⟨bb, off, rfl, hbz, hfit, hrng⟩ := HH.out.mid hbl
          have HRG := hide (rangeAt_below hrng h2 hbz)
          have HTK := hide (take_snoc15 l b Ac.zero hbl)
          have hlen : (l.take b).length ≤ 300 := by rw [List.length_take]; have := HL.out; omega
          have hok := Hs.play_ok (l.take b) (by omega)
          have hsd := sound_of hok (by omega) (fun p hp => Nat.le_trans (play_past (l.take b) p) (by omega))
          obtain ⟨ac, hac⟩ : ∃ ac, ac = l.getD b Ac.zero := ⟨_, rfl⟩
          rw [← hac] at HRG HTK hfit
          have HDO := hide (hdoes15 wr w.heap.size g F (Hs.play (l.take b)) ac h1 hfit hsd)
          have HBW : Hid (Below w.heap.size w wr ∧ ∀ k, F k → w.heap.size ≤ k) := ⟨h2, fun k hk => (h1.here hk).1⟩
          clear h1 h2 hbz hfit hrng hlen hok hsd HP hac
          go_wp2_with (refine wpList_load_mid rfl 95 (.tmp 33) rfl bb (off + b * 7) (acA ac) rfl HRG.out _ Try.underlying95 rfl infoOp15 ?_)
          refine HDO.out.mono ?_
          rintro e y ⟨F1, rfl, hb1, ha1⟩
          have HY : Hid (HB y w.heap.size g F1 (Hs.play (l.take (b + 1))) ∧ Below w.heap.size w y) := by
            refine ⟨?_, HBW.out.1.trans (ha1.1.below HBW.out.2 HBW.out.1.size)⟩
            rw [HTK.out, Hs.play_snoc]
            exact hb1
          clear hb1 ha1 HRG HDO HBW
          go_wp2
          go_roundw
          case rel => exact ⟨b + 1, by omega, by go_num, F1, HY.out⟩
          case measure => simp [intOf] <;> omega
        · have ib : ¬ (b : Int) < (n0 : Int) := by omega
          obtain ⟨F, h1, h2⟩ := HP.out
          have hbl : l.length ≤ b := by rw [← HLN.out]; omega
          rw [List.take_of_length_le hbl] at h1
          have HE := hide (And.intro h1 h2)
          clear h1 h2 HP
          go_wp2
          go_ret
          exact ⟨g, rfl, ⟨F, HE.out.1⟩, HE.out.2⟩
end Go.Proofs.Ytohdmmfmjadipaa

/-
  The contract of txn.Good: whether records are a log.
-/
namespace Go.Proofs.Ytohdmmfmjadipaa
open Go.RowKit
set_option linter.unusedVariables false

set_option maxRecDepth 8000 in
set_option maxHeartbeats 3200000 in
theorem good15 (v : Value) (ms : List (Rec × Value × Value)) (w : World) (h : LogIn w v ms) :
    Calls Try.prog 15 #[v] w fun e w' => e = .returned (.bool (riseB 0 (msR ms))) ∧ Below w.heap.size w w' := by
  obtain ⟨q, hq⟩ : ∃ q, q = riseB 0 (msR ms) := ⟨_, rfl⟩
  have HQ : Hid (q = true ↔ Rise 0 (msR ms)) := by rw [hq]; exact riseB_iff _ _
  rw [← hq]
  clear hq
  have HA := hide h
  obtain ⟨aa, ca, rfl, hlc⟩ := h.slice
  have hl := h.few
  clear h
  obtain ⟨ln, hln⟩ : ∃ ln, ln = ms.length := ⟨_, rfl⟩
  rw [← hln] at HA hl hlc ⊢
  have HN := hide hln
  clear hln
  have ft : (4 : Int) = 4 := rfl
  go_enter Try.func15, Try.ntmps15
  go_wp2
  go_loopw [3, 8] (fun v i wr => ∃ (j ll : Nat), j ≤ ln ∧ i = .int .i64 (j : Int) ∧ v = .int .u64 (ll : Int) ∧ ll < 18446744073709551616 ∧ Hid (ll = lastL 0 ((msR ms).take j)) ∧ Hid (Rise 0 ((msR ms).take j)) ∧ Hid (Below w.heap.size w wr)) (fun _ i _ => ln - (intOf i).toNat)
  case atStart => exact ⟨0, 0, Nat.zero_le _, rfl, rfl, by decide, by rw [List.take_zero]; rfl, by rw [List.take_zero]; trivial, Below.refl _ _⟩
  case round =>
    obtain ⟨j, ll, hj, rfl, rfl, hll, HLL, HRI, HBR⟩ := hrel
    by_cases hlt : j < ln
    · have hjm : j < ms.length := by rw [← HN.out]; exact hlt
      have HS := hide (msR_take_succ hjm)
      obtain ⟨b, off, rfl, hf, _, hx⟩ := HA.out.mid hjm
      obtain ⟨m, hm⟩ : ∃ m, m = ms.getD j rcZ := ⟨_, rfl⟩
      rw [← hm] at hf hx HS
      clear hm
      have ij : (j : Int) < (ln : Int) := by omega
      obtain ⟨hr0, hin⟩ := hx wr HBR.out
      have HLD := hide (load_mid wr b (off + j * 14) m hr0)
      have hb1 : Below wr.heap.size wr (wr.alloc (.cells zeroA 30)) := (Below.refl _ _).alloc (Nat.le_refl _) _
      have HZ := hide (And.intro (RowAt.new wr 30 zeroA) hb1)
      have hall := all15 hin
      have HFX := hide (And.intro hf hx)
      clear hr0 hf hx hb1 hin
      go_wp2_with (first | (refine wpList_load_val rfl 30 (.tmp 10) rfl _ _ rfl HLD.out ?_) | (refine wpList_store_at rfl 30 (.tmp 5) (.tmp 11) rfl wr.heap.size zeroA (rcF m) rfl rfl HZ.out.1 infoRc rfl hall ?_; intro w2 hr2 hk2 hrow2; refine stop10 ?_))
      have hb2 := hk2 _ _ HZ.out.2 (Nat.le_refl _)
      have hbw := HBR.out.trans (hb2.mono HBR.out.size)
      have c1 := hr2.cell 1 (.int .u64 (m.1.l : Int)) rfl
      have H2 := hide (And.intro hr2 hbw)
      clear hr2 hk2 hrow2 hb2 HLD HZ
      refine unstop10 ?_
      by_cases hle : m.1.l ≤ ll
      · have ile : (m.1.l : Int) ≤ (ll : Int) := by omega
        go_wp2
        go_ret
        refine ⟨?_, H2.out.2⟩
        congr 2
        cases hq : q
        · rfl
        · exfalso
          have h1 := rise_take _ (j + 1) (HQ.out.1 hq)
          rw [HS.out, rise_snoc, ← HLL.out] at h1
          omega
      · have ile : ¬ (m.1.l : Int) ≤ (ll : Int) := by omega
        have HR := hide (rec_right_any m.1 m.2.1 m.2.2 w2 HFX.out.1 ((HFX.out.2 w2 hbw).2))
        clear hbw
        by_cases hr : m.1.right
        · rw [rightB_yes hr] at HR
          have hrl : m.1.l < 18446744073709551616 := by have := hr.lm; unfold maxP at this; omega
          go_wp2_with (refine wpList_load_at rfl 30 (.tmp 5) rfl wr.heap.size rfl (rcF m) H2.out.1 _ Try.underlying30 rfl infoRc ?_)
          refine HR.out.mono ?_
          rintro e w3 ⟨rfl, hb3⟩
          have k1 := (H2.out.1.later hb3).cell 1 (.int .u64 (m.1.l : Int)) rfl
          have HB3 := hide (H2.out.2.trans (hb3.mono H2.out.2.size))
          clear c1 hb3 HR
          go_wp2
          go_roundw
          case rel =>
            refine ⟨j + 1, m.1.l, by omega, by go_num, rfl, hrl, ?_, ?_, HB3⟩
            · rw [HS.out, last_snoc]
              exact rfl
            · rw [HS.out, rise_snoc, ← HLL.out]
              exact ⟨HRI.out, hr, by omega⟩
          case measure => simp [intOf]; omega
        · rw [rightB_no hr] at HR
          go_wp2_with (refine wpList_load_at rfl 30 (.tmp 5) rfl wr.heap.size rfl (rcF m) H2.out.1 _ Try.underlying30 rfl infoRc ?_)
          refine HR.out.mono ?_
          rintro e w3 ⟨rfl, hb3⟩
          have HB3 := hide (H2.out.2.trans (hb3.mono H2.out.2.size))
          clear c1 hb3 HR
          go_wp2
          go_ret
          refine ⟨?_, HB3.out⟩
          congr 2
          cases hq : q
          · rfl
          · exfalso
            have h1 := rise_take _ (j + 1) (HQ.out.1 hq)
            rw [HS.out, rise_snoc] at h1
            exact hr h1.2.1
    · obtain rfl : j = ln := by omega
      go_wp2
      go_ret
      refine ⟨?_, HBR.out⟩
      have h1 := HRI.out
      rw [HN.out, ← msR_len, List.take_length] at h1
      rw [HQ.out.2 h1]
      rfl
end Go.Proofs.Ytohdmmfmjadipaa

/-
  Frames cut off anywhere: what is scanned of them. Plain facts, of no program.
-/
namespace Go.Proofs.Ytohdmmfmjadipaa
open Go.RowKit
set_option linter.unusedVariables false

theorem framesB_append (a b : List Rec) : framesB (a ++ b) = framesB a ++ framesB b := by simp [framesB]
theorem framesB_cons (r : Rec) (rs : List Rec) : framesB (r :: rs) = frameB r ++ framesB rs := by simp [framesB]
theorem rise_first : ∀ (rs : List Rec) (a i : Nat), Rise a rs → Rise a (rs.take i)
  | _, _, 0, _ => by rw [List.take_zero]; trivial
  | [], _, _ + 1, _ => trivial
  | r :: rs, a, i + 1, h => ⟨h.1, h.2.1, rise_first rs r.l i h.2.2⟩
theorem head_nil : (headF []).2.2 ≠ 0 := by
  unfold headF
  rw [if_pos (.inl (by decide))]
  decide
theorem cut_scan (rs : List Rec) (k i : Nat) (hr : Rise 0 rs) (hi : i ≤ rs.length) (h1 : (framesB (rs.take i)).length ≤ k) (h2 : i < rs.length → k < (framesB (rs.take (i + 1))).length) : scanL ((framesB rs).take k) = (rs.take i, (framesB (rs.take i)).length) := by
  have e1 : framesB rs = framesB (rs.take i) ++ framesB (rs.drop i) := by rw [← framesB_append, List.take_append_drop]
  have e2 : (framesB rs).take k = framesB (rs.take i) ++ (framesB (rs.drop i)).take (k - (framesB (rs.take i)).length) := by
    rw [e1, List.take_append, List.take_of_length_le h1]
  refine scan_end e2 (rise_first rs 0 i hr) (.inl ?_)
  by_cases hlt : i < rs.length
  · have e3 : rs.drop i = rs[i] :: rs.drop (i + 1) := List.drop_eq_getElem_cons hlt
    have e4 : framesB (rs.drop i) = frameB rs[i] ++ framesB (rs.drop (i + 1)) := by rw [e3, framesB_cons]
    have e5 : rs.take (i + 1) = rs.take i ++ [rs[i]] := by rw [List.take_add_one, List.getElem?_eq_getElem hlt]; rfl
    have h3 := h2 hlt
    rw [e5, framesB_append, List.length_append] at h3
    have e6 : framesB [rs[i]] = frameB rs[i] := by simp [framesB]
    rw [e6] at h3
    have hrr : rs[i].right := rise_right rs 0 hr _ (List.getElem_mem hlt)
    rw [e4, List.take_append_of_le_length (by omega)]
    rw [head_cut rs[i] hrr _ _ (List.take_append_drop (k - (framesB (rs.take i)).length) _).symm (fun h => by
      have h5 := congrArg List.length h
      rw [List.length_drop] at h5
      have h6 : (frameB rs[i]).length - (k - (framesB (rs.take i)).length) = 0 := h5
      omega)]
    decide
  · have e3 : rs.drop i = [] := List.drop_eq_nil_of_le (by omega)
    rw [e3]
    have e4 : (framesB []).take (k - (framesB (rs.take i)).length) = [] := by simp [framesB]
    rw [e4]
    exact head_nil
end Go.Proofs.Ytohdmmfmjadipaa

/-
  Plain facts on numbers of records, of no program: the order of numbers and nodes; lists that rise; what a clock answers.
-/
namespace Go.Proofs.Ytohdmmfmjadipaa
open Go.RowKit
set_option linter.unusedVariables false

/-- The greatest number, and the greatest one that is not spare. -/
def maxL : Nat := 4611686018427387904
def topL : Nat := 4611686018427322368

/-- A fact kept from the walk. -/
theorem hideL {p : Prop} (h : p) : Hid p := h

/-- The order of numbers of nodes. -/
def bef (a : Nat) (i : Int) (b : Nat) (j : Int) : Bool := decide (a < b) || (decide (a = b) && decide (i < j))
theorem bef_iff (a b : Nat) (i j : Int) : bef a i b j = true ↔ (a < b ∨ a = b ∧ i < j) := by simp [bef]
theorem bef_no (a b : Nat) (i j : Int) : bef a i b j = false ↔ ¬ (a < b ∨ a = b ∧ i < j) := by
  rw [← bef_iff]
  simp

/-- Numbers that rise. -/
def rises : List Nat → Bool
  | [] => true
  | [_] => true
  | a :: b :: l => decide (a < b) && rises (b :: l)

/-- What 'Next' answers, and the last number behind it. -/
def full (n f : Nat) (s : Bool) : Bool := decide (maxL ≤ max n f) || (!s && decide (topL ≤ max n f))
def nextS (n f : Nat) (s : Bool) : Int × Int := if full n f s then (0, 7) else ((max n f + 1 : Nat), 0)
def nextN (n f : Nat) (s : Bool) : Nat := if full n f s then n else max n f + 1

/-- A slice value whose elements read as these numbers. -/
def IsU (w : World) (a : Option Addr) (len : Nat) (zs : List Nat) : Prop :=
  zs.length = len ∧ (∀ z ∈ zs, z < 18446744073709551616) ∧ (0 < len → ∃ b off, a = some ⟨b, off, none⟩ ∧ b < w.heap.size ∧ ∀ j, j < len → w.cell? ⟨b, off + j, none⟩ = some (.int .u64 (zs.getD j 0 : Nat)))
theorem IsU.nil (w : World) : IsU w none 0 [] := ⟨rfl, fun _ h => absurd h (by simp), fun h => absurd h (by omega)⟩
theorem IsU.below {w w' : World} {a : Option Addr} {len : Nat} {zs : List Nat} (h : IsU w a len zs) (hb : Below w.heap.size w w') : IsU w' a len zs := by
  refine ⟨h.1, h.2.1, fun hp => ?_⟩
  obtain ⟨b, off, ha, hlt, hc⟩ := h.2.2 hp
  exact ⟨b, off, ha, Nat.lt_of_lt_of_le hlt hb.size, fun j hj => (hb.cell (p := ⟨b, off + j, none⟩) hlt).trans (hc j hj)⟩
end Go.Proofs.Ytohdmmfmjadipaa

/-
  A log: its tape, its clock, its records, how many are on the tape and stand fast, what is held back, the greatest LSN that stood fast. Of no program.
-/
namespace Go.Proofs.Ytohdmmfmjadipaa
open Go.RowKit
set_option linter.unusedVariables false

structure Lg where
  t : Tp
  c : Nat
  l : List Rec
  on : Nat
  fa : Nat
  hd : Nat
  du : Nat
def Rec.put (r : Rec) (n : Nat) : Rec := { r with l := n }
def bytesS (rs : List Rec) : ByteArray := ⟨(framesB rs).toArray⟩
theorem bytesS_size (rs : List Rec) : (bytesS rs).size = (framesB rs).length := by simp [bytesS, ByteArray.size]
theorem bytesS_data (rs : List Rec) : (bytesS rs).data.toList = framesB rs := by simp [bytesS]
def Lg.used (g : Lg) : Nat := g.t.b.size + (framesB (g.l.drop g.on)).length
def Lg.see (g : Lg) (n : Nat) : Lg := { g with c := max g.c (min n maxL) }
def Lg.open (t : Tp) (base : Nat) : Lg :=
  ⟨(t.chop ((scanL t.b.data.toList).2 : Int)).1.sync, max (max 0 (min base maxL)) (min (lastL 0 (scanL t.b.data.toList).1) maxL), (scanL t.b.data.toList).1, (scanL t.b.data.toList).1.length, (scanL t.b.data.toList).1.length, 0, lastL 0 (scanL t.b.data.toList).1⟩
/-- The number that a record gets. -/
def Lg.num (g : Lg) (floor : Nat) : Nat := max g.c floor + 1
def Lg.hold (g : Lg) (h : Int) : Nat := (max 0 ((g.hd : Int) + h)).toNat
/-- Append: 0, or the error's number. -/
def Lg.appE (g : Lg) (r : Rec) (floor : Nat) (h : Int) : Int :=
  if r.l ≠ 0 ∨ h < -65536 ∨ 65536 < h then 1
  else if full g.c floor (decide (h < 0)) = true then 7
  else @ite Int (¬ (r.put (g.num floor)).right) (@instDecidableNot _ (r.put (g.num floor)).rightD) 1 (if g.t.m < g.used + (frameB (r.put (g.num floor))).length + g.hold h then 7 else 0)
def Lg.app (g : Lg) (r : Rec) (floor : Nat) (h : Int) : Lg := if g.appE r floor h = 0 then { g with c := g.num floor, hd := g.hold h, l := g.l ++ [r.put (g.num floor)] } else g
def Lg.appN (g : Lg) (r : Rec) (floor : Nat) (h : Int) : Nat := if g.appE r floor h = 0 then g.num floor else 0
/-- Write, where it fits (it always does). -/
def Lg.write (g : Lg) : Lg := { g with t := (g.t.app (bytesS (g.l.drop g.on))).1, on := g.l.length }
def Lg.sync (g : Lg) : Lg := { g with t := g.t.sync, fa := g.on, du := if 0 < g.on then (g.l.getD (g.on - 1) Rec.zero).l else g.du }
/-- How many records are trimmed: from the first on, at most so many, with lower numbers. -/
def trimK : List Rec → Nat → Nat → Nat
  | [], _, _ => 0
  | _, 0, _ => 0
  | r :: rs, f + 1, n => if r.l < n then trimK rs f n + 1 else 0
def Lg.trim (g : Lg) (n : Nat) : Lg := { g with t := (g.t.cut ((framesB (g.l.take (trimK g.l g.fa n))).length : Int)).1, l := g.l.drop (trimK g.l g.fa n), on := g.on - trimK g.l g.fa n, fa := g.fa - trimK g.l g.fa n }
def Lg.pend (g : Lg) : Nat := if g.fa = g.l.length then 0 else (g.l.getD g.fa Rec.zero).l
/-- What every log keeps to. -/
structure Lg.ok (g : Lg) : Prop where
  tok : g.t.ok
  on : g.on ≤ g.l.length
  fa : g.fa ≤ g.on
  rise : Rise 0 g.l
  last : lastL 0 g.l ≤ g.c
  top : g.c ≤ maxL
  bytes : g.t.b.data.toList = framesB (g.l.take g.on)
  fast : g.t.f = (framesB (g.l.take g.fa)).length
  room : g.used + g.hd ≤ g.t.m
  low : ∀ r ∈ g.l.take g.fa, r.l ≤ g.du
  high : ∀ r ∈ g.l.drop g.fa, g.du < r.l
  du : g.du ≤ g.c

/-! ### Lists -/
theorem frames_cut (l : List Rec) (i : Nat) : framesB l = framesB (l.take i) ++ framesB (l.drop i) := by rw [← framesB_append, List.take_append_drop]
theorem frames_len (l : List Rec) (i : Nat) : (framesB l).length = (framesB (l.take i)).length + (framesB (l.drop i)).length := by
  have h := congrArg List.length (frames_cut l i)
  rwa [List.length_append] at h
theorem frames_mono (l : List Rec) (i j : Nat) (h : i ≤ j) : (framesB (l.take i)).length ≤ (framesB (l.take j)).length := by
  have h1 := frames_len (l.take j) i
  rw [List.take_take, Nat.min_eq_left h] at h1
  omega
theorem rise_le : ∀ (l : List Rec) (a : Nat), Rise a l → a ≤ lastL a l
  | [], _, _ => Nat.le_refl _
  | r :: rs, a, h => Nat.le_trans (Nat.le_of_lt h.2.1) (rise_le rs r.l h.2.2)
theorem rise_mem : ∀ (l : List Rec) (a : Nat), Rise a l → ∀ r ∈ l, a < r.l ∧ r.l ≤ lastL a l
  | [], _, _, _, h => nomatch h
  | q :: rs, a, h, r, hr => by
    rcases List.mem_cons.1 hr with rfl | hr
    · exact ⟨h.2.1, rise_le rs r.l h.2.2⟩
    · have := rise_mem rs q.l h.2.2 r hr
      exact ⟨Nat.lt_trans h.2.1 this.1, this.2⟩
theorem rise_weak : ∀ (l : List Rec) (a b : Nat), Rise a l → b ≤ a → Rise b l
  | [], _, _, _, _ => trivial
  | r :: rs, a, b, h, hb => ⟨h.1, Nat.lt_of_le_of_lt hb h.2.1, h.2.2⟩
theorem rise_drop : ∀ (l : List Rec) (a i : Nat), Rise a l → Rise (lastL a (l.take i)) (l.drop i)
  | l, a, 0, h => by rw [List.take_zero, List.drop_zero]; exact h
  | [], _, _ + 1, _ => trivial
  | r :: rs, a, i + 1, h => rise_drop rs r.l i h.2.2
theorem last_drop : ∀ (l : List Rec) (a i : Nat), lastL (lastL a (l.take i)) (l.drop i) = lastL a l
  | l, a, 0 => by rw [List.take_zero, List.drop_zero]; rfl
  | [], _, _ + 1 => rfl
  | r :: rs, a, i + 1 => last_drop rs r.l i
theorem last_mono : ∀ (l : List Rec) (a b : Nat), a ≤ b → lastL a l ≤ lastL b l
  | [], _, _, h => h
  | _ :: _, _, _, _ => Nat.le_refl _
theorem last_le_drop (l : List Rec) (i : Nat) (h : Rise 0 l) : lastL 0 (l.drop i) ≤ lastL 0 l := by
  rw [← last_drop l 0 i]
  exact last_mono _ _ _ (Nat.zero_le _)
/-- The last of the first ones. -/
theorem last_take : ∀ (l : List Rec) (a i : Nat), i < l.length → lastL a (l.take (i + 1)) = (l.getD i Rec.zero).l
  | [], _, _, h => absurd h (by simp)
  | r :: rs, a, 0, _ => by simp [lastL]
  | r :: rs, a, i + 1, h => by
    have := last_take rs r.l i (by simpa using h)
    simpa [lastL] using this
theorem trimK_le : ∀ (l : List Rec) (f n : Nat), trimK l f n ≤ f ∧ trimK l f n ≤ l.length
  | [], f, n => ⟨Nat.zero_le _, Nat.zero_le _⟩
  | r :: rs, 0, n => ⟨Nat.zero_le _, Nat.zero_le _⟩
  | r :: rs, f + 1, n => by
    have := trimK_le rs f n
    unfold trimK
    split
    · simp only [List.length_cons]
      omega
    · exact ⟨Nat.zero_le _, Nat.zero_le _⟩
theorem trimK_low : ∀ (l : List Rec) (f n : Nat), ∀ r ∈ l.take (trimK l f n), r.l < n
  | [], f, n, r, h => by simp at h
  | q :: rs, 0, n, r, h => by simp [trimK] at h
  | q :: rs, f + 1, n, r, h => by
    unfold trimK at h
    split at h
    · rename_i hq
      rw [List.take_succ_cons] at h
      rcases List.mem_cons.1 h with rfl | h
      · exact hq
      · exact trimK_low rs f n r h
    · simp at h
theorem trimK_stop : ∀ (l : List Rec) (f n : Nat), trimK l f n < f → trimK l f n < l.length → n ≤ (l.getD (trimK l f n) Rec.zero).l
  | [], f, n, _, h => absurd h (by simp)
  | q :: rs, 0, n, h, _ => absurd h (Nat.not_lt_zero _)
  | q :: rs, f + 1, n, h1, h2 => by
    unfold trimK at h1 h2 ⊢
    split
    · rename_i hq
      rw [if_pos hq] at h1 h2
      have := trimK_stop rs f n (by omega) (by simpa using h2)
      simpa using this
    · rename_i hq
      simp only [List.getD_cons_zero]
      omega

/-! ### What is kept -/
theorem Lg.see_ok (g : Lg) (h : g.ok) (n : Nat) : (g.see n).ok :=
  ⟨h.tok, h.on, h.fa, h.rise, by show lastL 0 g.l ≤ max g.c (min n maxL); have := h.last; omega, by show max g.c (min n maxL) ≤ maxL; have := h.top; omega, h.bytes, h.fast, h.room, h.low, h.high, by show g.du ≤ max g.c (min n maxL); have := h.du; omega⟩
theorem few_recs (g : Lg) (h : g.ok) : g.l.length * 6 ≤ 65536 := by
  have h1 := framesB_long g.l
  have h2 := frames_len g.l g.on
  have h3 := congrArg List.length h.bytes
  rw [Array.length_toList] at h3
  have h4 : g.t.b.data.size = g.t.b.size := rfl
  have h5 := h.room
  have h6 := h.tok.room
  unfold Lg.used at h5
  omega
theorem scan_facts (bs : List UInt8) : Rise 0 (scanL bs).1 ∧ bs.take (scanL bs).2 = framesB (scanL bs).1 ∧ (scanL bs).2 ≤ bs.length := scan_again _ 0 bs
theorem last_max : ∀ (l : List Rec) (a : Nat), Rise a l → a ≤ maxL → lastL a l ≤ maxL
  | [], _, _, h => h
  | r :: rs, a, h, _ => last_max rs r.l h.2.2 (by have := h.1.lm; unfold maxP at this; unfold maxL; omega)
theorem Lg.open_ok (t : Tp) (h : t.ok) (base : Nat) : (Lg.open t base).ok := by
  obtain ⟨h1, h2, h3⟩ := scan_facts t.b.data.toList
  have hl := last_max _ 0 h1 (Nat.zero_le _)
  have hsz : t.b.data.toList.length = t.b.size := by rw [Array.length_toList]; rfl
  have hc : t.chop ((scanL t.b.data.toList).2 : Int) = ({ t with b := t.b.extract 0 (scanL t.b.data.toList).2, f := min t.f (scanL t.b.data.toList).2 }, 0) := by
    unfold Tp.chop
    rw [if_neg (by omega)]
    simp
  have hz : (t.b.extract 0 (scanL t.b.data.toList).2).size = (scanL t.b.data.toList).2 := by rw [ByteArray.size_extract]; omega
  have hd : (t.b.extract 0 (scanL t.b.data.toList).2).data.toList = framesB (scanL t.b.data.toList).1 := by
    have e := extract_eq t.b 0 (scanL t.b.data.toList).2 (by omega)
    rw [Nat.zero_add] at e
    rw [e, ← h2]
    simp
  have hlen : (framesB (scanL t.b.data.toList).1).length = (scanL t.b.data.toList).2 := by
    rw [← h2, List.length_take]
    omega
  have hco := t.chop_ok h ((scanL t.b.data.toList).2 : Int)
  rw [hc] at hco
  unfold Lg.open
  rw [hc]
  refine ⟨Tp.sync_ok _ hco, Nat.le_refl _, Nat.le_refl _, h1, ?_, ?_, ?_, ?_, ?_, ?_, ?_, ?_⟩
  · show lastL 0 (scanL t.b.data.toList).1 ≤ max (max 0 (min base maxL)) (min (lastL 0 (scanL t.b.data.toList).1) maxL)
    omega
  · show max (max 0 (min base maxL)) _ ≤ maxL
    omega
  · show (t.b.extract 0 (scanL t.b.data.toList).2).data.toList = framesB ((scanL t.b.data.toList).1.take (scanL t.b.data.toList).1.length)
    rw [List.take_length, hd]
  · show (t.b.extract 0 (scanL t.b.data.toList).2).size = (framesB ((scanL t.b.data.toList).1.take (scanL t.b.data.toList).1.length)).length
    rw [List.take_length, hz, hlen]
  · show (t.b.extract 0 (scanL t.b.data.toList).2).size + (framesB ((scanL t.b.data.toList).1.drop (scanL t.b.data.toList).1.length)).length + 0 ≤ t.m
    rw [List.drop_length, hz]
    have := h.few
    simp [framesB]
    omega
  · intro r hr
    rw [List.take_length] at hr
    exact (rise_mem _ 0 h1 r hr).2
  · intro r hr
    rw [List.drop_length] at hr
    nomatch hr
  · show lastL 0 (scanL t.b.data.toList).1 ≤ max (max 0 (min base maxL)) (min (lastL 0 (scanL t.b.data.toList).1) maxL)
    omega
end Go.Proofs.Ytohdmmfmjadipaa
