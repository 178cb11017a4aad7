/-
  The contract of a place's enter: one who waits comes into the row.
-/
import Derived.Test.YtmlbghloddiflaaLkBar
namespace Go.Proofs.Ytmlbghloddiflaa
open Go.RowKit
set_option linter.unusedVariables false

theorem entN_zero (H : List Hd) : ∀ {l : List Hd}, (∀ k ∈ l, atW H k.w = 0) → entN H l = 0
  | [], _ => rfl
  | k :: l, h => by
    unfold entN
    rw [entN_zero H (fun q hq => h q (List.mem_cons_of_mem _ hq)), if_neg]
    rintro (e | e)
    · exact e rfl
    · exact e (h k (List.mem_cons_self ..))
theorem entN_eq (H : List Hd) : ∀ {l : List Hd} (j : Nat), j ≤ l.length → (∀ i k, j ≤ i → l[i]? = some k → atW H k.w = 0) → (j = 0 ∨ ∃ k, l[j - 1]? = some k ∧ atW H k.w ≠ 0) → entN H l = j
  | [], j, hj, _, _ => by
    have : j = 0 := by simpa using hj
    rw [this]
    rfl
  | k :: l, 0, _, hz, _ => entN_zero H (fun q hq => by
      obtain ⟨i, hi, e⟩ := List.getElem_of_mem hq
      exact hz i q (Nat.zero_le _) (by rw [List.getElem?_eq_getElem hi, e]))
  | k :: l, j + 1, hj, hz, hn => by
    have hj' : j ≤ l.length := by simpa using hj
    have hz' : ∀ i q, j ≤ i → l[i]? = some q → atW H q.w = 0 := fun i q hi e => hz (i + 1) q (by omega) (by simpa using e)
    unfold entN
    by_cases h0 : j = 0
    · subst h0
      have e0 := entN_eq H 0 hj' hz' (.inl rfl)
      rw [e0, if_pos]
      rcases hn with hn | ⟨q, hq, hne⟩
      · omega
      · simp at hq
        subst hq
        exact .inr hne
    · have e0 := entN_eq H j hj' hz' (.inr (by
        rcases hn with hn | ⟨q, hq, hne⟩
        · omega
        · refine ⟨q, ?_, hne⟩
          obtain ⟨i, rfl⟩ : ∃ i, j = i + 1 := ⟨j - 1, by omega⟩
          simpa using hq))
      rw [e0, if_pos (.inl h0)]
theorem entN_le (H : List Hd) : ∀ l : List Hd, entN H l ≤ l.length
  | [] => Nat.le_refl _
  | k :: l => by
    unfold entN
    split
    · have := entN_le H l
      simp only [List.length_cons]; omega
    · exact Nat.zero_le _
theorem rgt_at {H : List Hd} (hs : SortW H) (hr : ∀ k ∈ H, rgt k.m = true) (w : Int) : rgt (atW H w) = decide (atW H w ≠ 0) := by
  by_cases h : ∃ k ∈ H, k.w = w
  · obtain ⟨k, hk, rfl⟩ := h
    have h1 := hr k hk
    rw [atW_of hs hk, h1]
    have : k.m ≠ 0 := fun e => by rw [e] at h1; exact absurd h1 (by decide)
    simp [this]
  · rw [atW_none (fun k hk e => h ⟨k, hk, e⟩)]
    rfl
section
variable {w : World} {g : Nat} {p : Pt} {S : Nat → Sl} {x : Nat}
set_option maxRecDepth 8000 in
set_option maxHeartbeats 6400000 in
theorem enter13 (h : TAt w g p S) (hx : x < 288) (hs : SortW (p.had x)) (hr : ∀ k ∈ p.had x, rgt k.m = true) (hlh : (p.had x).length ≤ 1000000) (hl : (p.row x).length ≤ 1000000) (k : Hd) :
    Calls Try.prog 48 #[.pointer (some ⟨g, x * 2, none⟩), .agg (hdA k)] w fun e w' => (∃ v, e = .returned v) ∧ Aft1 (x * 2 + 1) w g S (p.setRow x (entS (p.had x) (p.row x) k)) w' := by
  have H := hide h
  have H0 := hide (CB.new h (hdA k))
  have HHO := hide (fun y (hy : CB w g p S w.heap.size (hdA k) y) who => holds13 hy.1 hx hs hlh who)
  have HRG := hide (rgt_at hs hr)
  have HRT := hide (fun a y => right12 a y)
  have c0 := (CB.new h (hdA k)).1.rows hx
  have hcap := (h.rowB hx).cap
  unfold slV at c0
  obtain ⟨n, hn⟩ : ∃ n, n = (p.row x).length := ⟨_, rfl⟩
  have HN := hide hn
  rw [← hn] at hcap c0
  clear hn h hs hr
  obtain ⟨ad, had⟩ : ∃ ad, ad = adr (S (x * 2 + 1)).b := ⟨_, rfl⟩
  have HAD := hide had
  rw [← had] at c0
  clear had
  generalize (S (x * 2 + 1)).c = c at *
  obtain ⟨A, hA⟩ : ∃ A, A = hdA k := ⟨_, rfl⟩
  have HA := hide hA
  rw [← hA] at H0 HHO c0 ⊢
  clear hA
  have d0 := H0.out.2.1.cell 0 (.int .i64 k.w) (by rw [HA.out]; rfl)
  obtain ⟨gb, hgb⟩ : ∃ gb, gb = w.heap.size := ⟨_, rfl⟩
  have HGB := hide hgb
  have hnl : n ≤ 1000000 := by have := HN.out; omega
  go_enter Try.func48, Try.ntmps48
  go_wp2_with fail
  refine (HHO.out _ H0.out k.w).mono ?_
  rintro e w1 ⟨rfl, hb0⟩
  have H1 := hide (H0.out.later hb0)
  clear hb0 d0 c0
  go_wp2_with fail
  refine (HRT.out _ w1).mono ?_
  rintro e w0 ⟨rfl, rfl⟩
  rw [HRG.out]
  by_cases hk0 : atW (p.had x) k.w = 0
  · have e1 : decide (atW (p.had x) k.w ≠ 0) = false := by simp [hk0]
    rw [e1]
    clear e1
    have HW := hide (show TAt w1 g p S ∧ Below w.heap.size w w1 ∧ RowAt w1 gb 46 A from ⟨H1.out.1, H1.out.2.2, by rw [hgb]; exact H1.out.2.1⟩)
    obtain ⟨i, hi0⟩ : ∃ i, i = n := ⟨_, rfl⟩
    have hi : i ≤ (p.row x).length := by have := HN.out; omega
    have HK := hide (show insL (p.row x) i k = entS (p.had x) (p.row x) k from by
      unfold insL entS
      rw [if_neg (by simpa using hk0), hi0, HN.out, List.take_length, List.drop_length])
    rw [← hi0, ← hgb]
    clear hk0 hi0 H1 hgb HHO HRT HRG H0
    obtain ⟨V, hV⟩ : ∃ V, V = slV (S (x * 2 + 1)) (p.row x).length := ⟨_, rfl⟩
    have c0 := HW.out.1.rows hx
    rw [← hV] at c0
    have HC := hide c0
    have HV := hide hV
    clear c0 hV
    go_wp2_with fail
    refine wp_region_noPanic ?_
    refine wp_region_held_drew (S := fun y => RowAt y gb 46 A) (by kernel_rfl) (HW.out.2.2) (fun hHeld => ?_)
    refine hand_take 0 (some 34) (.pointer (some ⟨g, x * 2, none⟩)) rfl rfl (by kernel_rfl) (by kernel_rfl) (by kernel_rfl) (fun _ _ _ h => h) (Or.inl ⟨by kernel_rfl, fun y hy => by go_simp⟩) hHeld ?_
    try simp only [Act.put, List.setIfInBounds_toArray, List.set_cons_zero, List.set_cons_succ]
    refine hand_take 1 (some 35) (.pointer (some ⟨g, x * 2, none⟩)) rfl rfl (by kernel_rfl) (by kernel_rfl) (by kernel_rfl) (fun _ _ _ h => h) (Or.inl ⟨by kernel_rfl, fun y hy => by go_simp⟩) hHeld ?_
    try simp only [Act.put, List.setIfInBounds_toArray, List.set_cons_zero, List.set_cons_succ]
    refine hand_take 2 (some 36) (.pointer (some ⟨g, x * 2, none⟩)) rfl rfl (by kernel_rfl) (by kernel_rfl) (by kernel_rfl) (fun _ _ _ h => h) (Or.inl ⟨by kernel_rfl, fun y hy => by go_simp⟩) hHeld ?_
    try simp only [Act.put, List.setIfInBounds_toArray, List.set_cons_zero, List.set_cons_succ]
    refine hand_take 3 (some 37) (.pointer (some ⟨g, x * 2 + 1, none⟩)) rfl rfl (by kernel_rfl) (by kernel_rfl) (by kernel_rfl) (fun _ _ _ h => h) (Or.inl ⟨by kernel_rfl, fun y hy => by go_simp⟩) hHeld ?_
    try simp only [Act.put, List.setIfInBounds_toArray, List.set_cons_zero, List.set_cons_succ]
    refine hand_take 5 (some 39) (.int .i64 (i : Int)) rfl rfl (by kernel_rfl) (by kernel_rfl) (by kernel_rfl) (fun _ _ _ h => h) (Or.inl ⟨by kernel_rfl, fun y hy => by go_simp⟩) hHeld ?_
    try simp only [Act.put, List.setIfInBounds_toArray, List.set_cons_zero, List.set_cons_succ]
    refine hand_take 6 (some 40) (.agg A) rfl rfl (by kernel_rfl) (by kernel_rfl) (by kernel_rfl) (fun _ _ _ h => h) (yieldsIf_load_run (by kernel_rfl) 46 _ rfl (.pointer (some ⟨gb, 0, none⟩)) rfl _ (fun y hy => by have r := hy; rw [HA.out] at r ⊢; exact load_box r)) hHeld ?_
    try simp only [Act.put, List.setIfInBounds_toArray, List.set_cons_zero, List.set_cons_succ]
    have b2 : Below w1.heap.size w1 (w1.drew.alloc (.cells A 46)) := (Below.refl w1.heap.size w1).drew.alloc (Nat.le_refl _) _
    have r2 : RowAt (w1.drew.alloc (.cells A 46)) w1.heap.size 46 A := RowAt.new w1.drew _ _
    have HX := hide (And.intro (HW.out.1.later b2) (And.intro (show ¬ ofS (S (x * 2 + 1)) gb from fun e => by
      have h6 := (H.out.rowB hx).lt e
      have h7 := HGB.out
      omega) (HW.out.2.2.later b2)))
    have HX2 := hide (HW.out.2.1.trans (b2.mono HW.out.2.1.size))
    have HI := hide (show Calls Try.prog 74 #[V, .int .i64 (i : Int), .slice (some ⟨w1.heap.size, 0, none⟩) 1 1] (w1.drew.alloc (.cells A 46)) (InsAns (w1.drew.alloc (.cells A 46)) (S (x * 2 + 1)) ((p.row x)) i k) from by
      rw [HV.out]
      exact ins13 _ (S (x * 2 + 1)) ((p.row x)) (HX.out.1.rowB hx) i hi k w1.heap.size (by rw [← HA.out]; exact r2) (fun e => by
        have h6 := (HW.out.1.rowB hx).lt e
        omega) hl)
    have hc2 : (w1.drew.alloc (.cells A 46)).cell? ⟨g, x * 2 + 1, none⟩ = some V := by
      rw [HV.out]
      exact HX.out.1.rows hx
    have hHeld2 : RowAt (w1.drew.alloc (.cells A 46)) gb 46 A := HX.out.2.2
    clear b2 r2
    have hc1 : w1.drew.cell? ⟨g, x * 2 + 1, none⟩ = some V := HC.out
    refine hand_two 4 7 (by kernel_rfl) ?_ ?_
    · refine hand_run (some 38) rfl rfl rfl V w1.drew ?hz ?_
      (case hz => have h : w1.cell? ⟨g, x * 2 + 1, none⟩ = some V := hc1; go_simp)
      refine ⟨hHeld, ?_⟩
      try simp only [Act.put, List.setIfInBounds_toArray, List.set_cons_zero, List.set_cons_succ]
      refine hand_one 7 (by kernel_rfl) ?_
      refine hand_run (some 41) rfl rfl rfl (.slice (some ⟨w1.heap.size, 0, none⟩) 1 1) (w1.drew.alloc (.cells A 46)) ?hz ?_
      (case hz =>
        have hAl : A = #[.int .i64 k.w, .int .i64 k.x, .int .i64 k.m] := HA.out
        clear HX HI HW HC HV hHeld hHeld2 hc1 hc2 HA HX2
        subst hAl
        go_simp)
      refine ⟨hHeld2, ?_⟩
      try simp only [Act.put, List.setIfInBounds_toArray, List.set_cons_zero, List.set_cons_succ]
      refine hand_one 8 (by kernel_rfl) ?_
      refine hand_call (some 42) rfl rfl rfl 74 #[V, .int .i64 (i : Int), .slice (some ⟨w1.heap.size, 0, none⟩) 1 1] ?he (HI.out.mono ?_)
      (case he => go_simp)
      rintro e w3 ⟨s', rfl, hB, hT, hq⟩
      have hbx3 : RowAt w3 gb 46 A := hT.row HX.out.2.2 (fun e => HX.out.2.1 e)
      refine ⟨_, rfl, ?_⟩
      refine ⟨hbx3, ?_⟩
      try simp only [Act.put, List.setIfInBounds_toArray, List.set_cons_zero, List.set_cons_succ]
      refine hand_take 9 (some 43) (.pointer (some ⟨g, x * 2, none⟩)) rfl rfl (by kernel_rfl) (by kernel_rfl) (by kernel_rfl) (fun _ _ _ h => h) (Or.inl ⟨by kernel_rfl, fun y hy => by go_simp⟩) hbx3 ?_
      try simp only [Act.put, List.setIfInBounds_toArray, List.set_cons_zero, List.set_cons_succ]
      refine hand_take 10 (some 44) (.pointer (some ⟨g, x * 2 + 1, none⟩)) rfl rfl (by kernel_rfl) (by kernel_rfl) (by kernel_rfl) (fun _ _ _ h => h) (Or.inl ⟨by kernel_rfl, fun y hy => by go_simp⟩) hbx3 ?_
      try simp only [Act.put, List.setIfInBounds_toArray, List.set_cons_zero, List.set_cons_succ]
      refine hand_one 11 (by kernel_rfl) ?_
      have HP := hide (HX.out.1.put (p' := p.setRow x (insL (p.row x) i k)) (s := x * 2 + 1) (by omega) s' (insL (p.row x) i k) (fun t => sl_setRow p x _ t) hB hT hq)
      have hg3 : RowAt w3 g 35 (tabA p.sl S) := hT.row HX.out.1.row (HX.out.1.off (s := x * 2 + 1) (by omega))
      have hc3 : w3.cell? ⟨g, x * 2 + 1, none⟩ = some (slV (S (x * 2 + 1)) (p.sl (x * 2 + 1)).length) := hg3.cell _ _ (tabA_get _ _ (by omega))
      have hf3 : w3.frozen? ⟨g, x * 2 + 1, none⟩ = false := hg3.free _
      have hln : ((insL (p.row x) i k : List Hd)).length = (p.row x).length + 1 := insL_len _ _ _ hi
      rw [hln] at HP
      refine hand_set rfl rfl rfl 30 (.tmp 44) (.tmp 42) rfl ⟨g, x * 2 + 1, none⟩ (slV s' ((p.row x).length + 1)) rfl rfl (store_sl hc3 hf3 _ _) ?_
      have hbx4 : RowAt (w3.setCell ⟨g, x * 2 + 1, none⟩ (slV s' ((p.row x).length + 1))) gb 46 A := hbx3.other _ _ (fun e => by
        have h7 := HGB.out
        have h8 := H.out.row.lt
        have e : gb = g := e
        omega)
      refine ⟨hbx4, ?_⟩
      try simp only [Act.put, List.setIfInBounds_toArray, List.set_cons_zero, List.set_cons_succ]
      refine wpAnyH_done (by kernel_rfl) ?_ _
      refine NoPanic.normal ?_
      have HE := hide (Aft1.first HX2.out HP.out)
      rw [HK.out] at HE
      clear HP hg3 hc3 hf3 hln hbx3 hbx4 hT hB hq HX HI HX2
      try go_wp2
      go_end0
      exact ⟨⟨_, rfl⟩, HE.out⟩
    · refine hand_run (some 41) rfl rfl rfl (.slice (some ⟨w1.heap.size, 0, none⟩) 1 1) (w1.drew.alloc (.cells A 46)) ?hz ?_
      (case hz =>
        have hAl : A = #[.int .i64 k.w, .int .i64 k.x, .int .i64 k.m] := HA.out
        clear HX HI HW HC HV hHeld hHeld2 hc1 hc2 HA HX2
        subst hAl
        go_simp)
      refine ⟨hHeld2, ?_⟩
      try simp only [Act.put, List.setIfInBounds_toArray, List.set_cons_zero, List.set_cons_succ]
      refine hand_one 4 (by kernel_rfl) ?_
      refine hand_run (some 38) rfl rfl rfl V (w1.drew.alloc (.cells A 46)) ?hz ?_
      (case hz => have h : (w1.alloc (.cells A 46)).cell? ⟨g, x * 2 + 1, none⟩ = some V := hc2; go_simp)
      refine ⟨hHeld2, ?_⟩
      try simp only [Act.put, List.setIfInBounds_toArray, List.set_cons_zero, List.set_cons_succ]
      refine hand_one 8 (by kernel_rfl) ?_
      refine hand_call (some 42) rfl rfl rfl 74 #[V, .int .i64 (i : Int), .slice (some ⟨w1.heap.size, 0, none⟩) 1 1] ?he (HI.out.mono ?_)
      (case he => go_simp)
      rintro e w3 ⟨s', rfl, hB, hT, hq⟩
      have hbx3 : RowAt w3 gb 46 A := hT.row HX.out.2.2 (fun e => HX.out.2.1 e)
      refine ⟨_, rfl, ?_⟩
      refine ⟨hbx3, ?_⟩
      try simp only [Act.put, List.setIfInBounds_toArray, List.set_cons_zero, List.set_cons_succ]
      refine hand_take 9 (some 43) (.pointer (some ⟨g, x * 2, none⟩)) rfl rfl (by kernel_rfl) (by kernel_rfl) (by kernel_rfl) (fun _ _ _ h => h) (Or.inl ⟨by kernel_rfl, fun y hy => by go_simp⟩) hbx3 ?_
      try simp only [Act.put, List.setIfInBounds_toArray, List.set_cons_zero, List.set_cons_succ]
      refine hand_take 10 (some 44) (.pointer (some ⟨g, x * 2 + 1, none⟩)) rfl rfl (by kernel_rfl) (by kernel_rfl) (by kernel_rfl) (fun _ _ _ h => h) (Or.inl ⟨by kernel_rfl, fun y hy => by go_simp⟩) hbx3 ?_
      try simp only [Act.put, List.setIfInBounds_toArray, List.set_cons_zero, List.set_cons_succ]
      refine hand_one 11 (by kernel_rfl) ?_
      have HP := hide (HX.out.1.put (p' := p.setRow x (insL (p.row x) i k)) (s := x * 2 + 1) (by omega) s' (insL (p.row x) i k) (fun t => sl_setRow p x _ t) hB hT hq)
      have hg3 : RowAt w3 g 35 (tabA p.sl S) := hT.row HX.out.1.row (HX.out.1.off (s := x * 2 + 1) (by omega))
      have hc3 : w3.cell? ⟨g, x * 2 + 1, none⟩ = some (slV (S (x * 2 + 1)) (p.sl (x * 2 + 1)).length) := hg3.cell _ _ (tabA_get _ _ (by omega))
      have hf3 : w3.frozen? ⟨g, x * 2 + 1, none⟩ = false := hg3.free _
      have hln : ((insL (p.row x) i k : List Hd)).length = (p.row x).length + 1 := insL_len _ _ _ hi
      rw [hln] at HP
      refine hand_set rfl rfl rfl 30 (.tmp 44) (.tmp 42) rfl ⟨g, x * 2 + 1, none⟩ (slV s' ((p.row x).length + 1)) rfl rfl (store_sl hc3 hf3 _ _) ?_
      have hbx4 : RowAt (w3.setCell ⟨g, x * 2 + 1, none⟩ (slV s' ((p.row x).length + 1))) gb 46 A := hbx3.other _ _ (fun e => by
        have h7 := HGB.out
        have h8 := H.out.row.lt
        have e : gb = g := e
        omega)
      refine ⟨hbx4, ?_⟩
      try simp only [Act.put, List.setIfInBounds_toArray, List.set_cons_zero, List.set_cons_succ]
      refine wpAnyH_done (by kernel_rfl) ?_ _
      refine NoPanic.normal ?_
      have HE := hide (Aft1.first HX2.out HP.out)
      rw [HK.out] at HE
      clear HP hg3 hc3 hf3 hln hbx3 hbx4 hT hB hq HX HI HX2
      try go_wp2
      go_end0
      exact ⟨⟨_, rfl⟩, HE.out⟩
  · have e1 : decide (atW (p.had x) k.w ≠ 0) = true := by simp [hk0]
    rw [e1]
    clear e1
    have HK0 := hide hk0
    clear hk0
    go_wp2_with fail
    go_loopw [4] (fun v wr => ∃ j : Nat, j ≤ n ∧ v = .int .i64 j ∧ Hid (CB w g p S w.heap.size A wr ∧ ∀ i q, j ≤ i → (p.row x)[i]? = some q → atW (p.had x) q.w = 0)) (fun v _ => (intOf v).toNat)
    case atStart => exact ⟨n, Nat.le_refl _, rfl, ⟨H1.out, fun i q hi e => by
      rw [List.getElem?_eq_none (by have := HN.out; omega)] at e
      cases e⟩⟩
    case round =>
      obtain ⟨i, hi1, rfl, HR⟩ := hrel
      by_cases h0 : i = 0
      · have i1 : ¬ (0 : Int) < (i : Int) := by omega
        have HW := hide (show TAt wr g p S ∧ Below w.heap.size w wr ∧ RowAt wr gb 46 A from ⟨HR.out.1.1, HR.out.1.2.2, by rw [hgb]; exact HR.out.1.2.1⟩)
        have HK := hide (show insL (p.row x) i k = entS (p.had x) (p.row x) k from by
          unfold insL entS
          rw [if_pos HK0.out, entN_eq (p.had x) i (by have := HN.out; omega) HR.out.2 (.inl h0)])
        have hi : i ≤ (p.row x).length := by have := HN.out; omega
        rw [← hgb]
        clear h0 H1 hgb HHO HRT HRG HR H0
        revert HW
        generalize wr = w1
        intro HW
        go_wp2_with fail
        obtain ⟨V, hV⟩ : ∃ V, V = slV (S (x * 2 + 1)) (p.row x).length := ⟨_, rfl⟩
        have c0 := HW.out.1.rows hx
        rw [← hV] at c0
        have HC := hide c0
        have HV := hide hV
        clear c0 hV
        refine wp_region_noPanic ?_
        refine wp_region_held_drew (S := fun y => RowAt y gb 46 A) (by kernel_rfl) (HW.out.2.2) (fun hHeld => ?_)
        refine hand_take 0 (some 34) (.pointer (some ⟨g, x * 2, none⟩)) rfl rfl (by kernel_rfl) (by kernel_rfl) (by kernel_rfl) (fun _ _ _ h => h) (Or.inl ⟨by kernel_rfl, fun y hy => by go_simp⟩) hHeld ?_
        try simp only [Act.put, List.setIfInBounds_toArray, List.set_cons_zero, List.set_cons_succ]
        refine hand_take 1 (some 35) (.pointer (some ⟨g, x * 2, none⟩)) rfl rfl (by kernel_rfl) (by kernel_rfl) (by kernel_rfl) (fun _ _ _ h => h) (Or.inl ⟨by kernel_rfl, fun y hy => by go_simp⟩) hHeld ?_
        try simp only [Act.put, List.setIfInBounds_toArray, List.set_cons_zero, List.set_cons_succ]
        refine hand_take 2 (some 36) (.pointer (some ⟨g, x * 2, none⟩)) rfl rfl (by kernel_rfl) (by kernel_rfl) (by kernel_rfl) (fun _ _ _ h => h) (Or.inl ⟨by kernel_rfl, fun y hy => by go_simp⟩) hHeld ?_
        try simp only [Act.put, List.setIfInBounds_toArray, List.set_cons_zero, List.set_cons_succ]
        refine hand_take 3 (some 37) (.pointer (some ⟨g, x * 2 + 1, none⟩)) rfl rfl (by kernel_rfl) (by kernel_rfl) (by kernel_rfl) (fun _ _ _ h => h) (Or.inl ⟨by kernel_rfl, fun y hy => by go_simp⟩) hHeld ?_
        try simp only [Act.put, List.setIfInBounds_toArray, List.set_cons_zero, List.set_cons_succ]
        refine hand_take 5 (some 39) (.int .i64 (i : Int)) rfl rfl (by kernel_rfl) (by kernel_rfl) (by kernel_rfl) (fun _ _ _ h => h) (Or.inl ⟨by kernel_rfl, fun y hy => by go_simp⟩) hHeld ?_
        try simp only [Act.put, List.setIfInBounds_toArray, List.set_cons_zero, List.set_cons_succ]
        refine hand_take 6 (some 40) (.agg A) rfl rfl (by kernel_rfl) (by kernel_rfl) (by kernel_rfl) (fun _ _ _ h => h) (yieldsIf_load_run (by kernel_rfl) 46 _ rfl (.pointer (some ⟨gb, 0, none⟩)) rfl _ (fun y hy => by have r := hy; rw [HA.out] at r ⊢; exact load_box r)) hHeld ?_
        try simp only [Act.put, List.setIfInBounds_toArray, List.set_cons_zero, List.set_cons_succ]
        have b2 : Below w1.heap.size w1 (w1.drew.alloc (.cells A 46)) := (Below.refl w1.heap.size w1).drew.alloc (Nat.le_refl _) _
        have r2 : RowAt (w1.drew.alloc (.cells A 46)) w1.heap.size 46 A := RowAt.new w1.drew _ _
        have HX := hide (And.intro (HW.out.1.later b2) (And.intro (show ¬ ofS (S (x * 2 + 1)) gb from fun e => by
          have h6 := (H.out.rowB hx).lt e
          have h7 := HGB.out
          omega) (HW.out.2.2.later b2)))
        have HX2 := hide (HW.out.2.1.trans (b2.mono HW.out.2.1.size))
        have HI := hide (show Calls Try.prog 74 #[V, .int .i64 (i : Int), .slice (some ⟨w1.heap.size, 0, none⟩) 1 1] (w1.drew.alloc (.cells A 46)) (InsAns (w1.drew.alloc (.cells A 46)) (S (x * 2 + 1)) ((p.row x)) i k) from by
          rw [HV.out]
          exact ins13 _ (S (x * 2 + 1)) ((p.row x)) (HX.out.1.rowB hx) i hi k w1.heap.size (by rw [← HA.out]; exact r2) (fun e => by
            have h6 := (HW.out.1.rowB hx).lt e
            omega) hl)
        have hc2 : (w1.drew.alloc (.cells A 46)).cell? ⟨g, x * 2 + 1, none⟩ = some V := by
          rw [HV.out]
          exact HX.out.1.rows hx
        have hHeld2 : RowAt (w1.drew.alloc (.cells A 46)) gb 46 A := HX.out.2.2
        clear b2 r2
        have hc1 : w1.drew.cell? ⟨g, x * 2 + 1, none⟩ = some V := HC.out
        refine hand_two 4 7 (by kernel_rfl) ?_ ?_
        · refine hand_run (some 38) rfl rfl rfl V w1.drew ?hz ?_
          (case hz => have h : w1.cell? ⟨g, x * 2 + 1, none⟩ = some V := hc1; go_simp)
          refine ⟨hHeld, ?_⟩
          try simp only [Act.put, List.setIfInBounds_toArray, List.set_cons_zero, List.set_cons_succ]
          refine hand_one 7 (by kernel_rfl) ?_
          refine hand_run (some 41) rfl rfl rfl (.slice (some ⟨w1.heap.size, 0, none⟩) 1 1) (w1.drew.alloc (.cells A 46)) ?hz ?_
          (case hz =>
            have hAl : A = #[.int .i64 k.w, .int .i64 k.x, .int .i64 k.m] := HA.out
            clear HX HI HW HC HV hHeld hHeld2 hc1 hc2 HA HX2
            subst hAl
            go_simp)
          refine ⟨hHeld2, ?_⟩
          try simp only [Act.put, List.setIfInBounds_toArray, List.set_cons_zero, List.set_cons_succ]
          refine hand_one 8 (by kernel_rfl) ?_
          refine hand_call (some 42) rfl rfl rfl 74 #[V, .int .i64 (i : Int), .slice (some ⟨w1.heap.size, 0, none⟩) 1 1] ?he (HI.out.mono ?_)
          (case he => go_simp)
          rintro e w3 ⟨s', rfl, hB, hT, hq⟩
          have hbx3 : RowAt w3 gb 46 A := hT.row HX.out.2.2 (fun e => HX.out.2.1 e)
          refine ⟨_, rfl, ?_⟩
          refine ⟨hbx3, ?_⟩
          try simp only [Act.put, List.setIfInBounds_toArray, List.set_cons_zero, List.set_cons_succ]
          refine hand_take 9 (some 43) (.pointer (some ⟨g, x * 2, none⟩)) rfl rfl (by kernel_rfl) (by kernel_rfl) (by kernel_rfl) (fun _ _ _ h => h) (Or.inl ⟨by kernel_rfl, fun y hy => by go_simp⟩) hbx3 ?_
          try simp only [Act.put, List.setIfInBounds_toArray, List.set_cons_zero, List.set_cons_succ]
          refine hand_take 10 (some 44) (.pointer (some ⟨g, x * 2 + 1, none⟩)) rfl rfl (by kernel_rfl) (by kernel_rfl) (by kernel_rfl) (fun _ _ _ h => h) (Or.inl ⟨by kernel_rfl, fun y hy => by go_simp⟩) hbx3 ?_
          try simp only [Act.put, List.setIfInBounds_toArray, List.set_cons_zero, List.set_cons_succ]
          refine hand_one 11 (by kernel_rfl) ?_
          have HP := hide (HX.out.1.put (p' := p.setRow x (insL (p.row x) i k)) (s := x * 2 + 1) (by omega) s' (insL (p.row x) i k) (fun t => sl_setRow p x _ t) hB hT hq)
          have hg3 : RowAt w3 g 35 (tabA p.sl S) := hT.row HX.out.1.row (HX.out.1.off (s := x * 2 + 1) (by omega))
          have hc3 : w3.cell? ⟨g, x * 2 + 1, none⟩ = some (slV (S (x * 2 + 1)) (p.sl (x * 2 + 1)).length) := hg3.cell _ _ (tabA_get _ _ (by omega))
          have hf3 : w3.frozen? ⟨g, x * 2 + 1, none⟩ = false := hg3.free _
          have hln : ((insL (p.row x) i k : List Hd)).length = (p.row x).length + 1 := insL_len _ _ _ hi
          rw [hln] at HP
          refine hand_set rfl rfl rfl 30 (.tmp 44) (.tmp 42) rfl ⟨g, x * 2 + 1, none⟩ (slV s' ((p.row x).length + 1)) rfl rfl (store_sl hc3 hf3 _ _) ?_
          have hbx4 : RowAt (w3.setCell ⟨g, x * 2 + 1, none⟩ (slV s' ((p.row x).length + 1))) gb 46 A := hbx3.other _ _ (fun e => by
            have h7 := HGB.out
            have h8 := H.out.row.lt
            have e : gb = g := e
            omega)
          refine ⟨hbx4, ?_⟩
          try simp only [Act.put, List.setIfInBounds_toArray, List.set_cons_zero, List.set_cons_succ]
          refine wpAnyH_done (by kernel_rfl) ?_ _
          refine NoPanic.normal ?_
          have HE := hide (Aft1.first HX2.out HP.out)
          rw [HK.out] at HE
          clear HP hg3 hc3 hf3 hln hbx3 hbx4 hT hB hq HX HI HX2
          try go_wp2
          go_end0
          exact ⟨⟨_, rfl⟩, HE.out⟩
        · refine hand_run (some 41) rfl rfl rfl (.slice (some ⟨w1.heap.size, 0, none⟩) 1 1) (w1.drew.alloc (.cells A 46)) ?hz ?_
          (case hz =>
            have hAl : A = #[.int .i64 k.w, .int .i64 k.x, .int .i64 k.m] := HA.out
            clear HX HI HW HC HV hHeld hHeld2 hc1 hc2 HA HX2
            subst hAl
            go_simp)
          refine ⟨hHeld2, ?_⟩
          try simp only [Act.put, List.setIfInBounds_toArray, List.set_cons_zero, List.set_cons_succ]
          refine hand_one 4 (by kernel_rfl) ?_
          refine hand_run (some 38) rfl rfl rfl V (w1.drew.alloc (.cells A 46)) ?hz ?_
          (case hz => have h : (w1.alloc (.cells A 46)).cell? ⟨g, x * 2 + 1, none⟩ = some V := hc2; go_simp)
          refine ⟨hHeld2, ?_⟩
          try simp only [Act.put, List.setIfInBounds_toArray, List.set_cons_zero, List.set_cons_succ]
          refine hand_one 8 (by kernel_rfl) ?_
          refine hand_call (some 42) rfl rfl rfl 74 #[V, .int .i64 (i : Int), .slice (some ⟨w1.heap.size, 0, none⟩) 1 1] ?he (HI.out.mono ?_)
          (case he => go_simp)
          rintro e w3 ⟨s', rfl, hB, hT, hq⟩
          have hbx3 : RowAt w3 gb 46 A := hT.row HX.out.2.2 (fun e => HX.out.2.1 e)
          refine ⟨_, rfl, ?_⟩
          refine ⟨hbx3, ?_⟩
          try simp only [Act.put, List.setIfInBounds_toArray, List.set_cons_zero, List.set_cons_succ]
          refine hand_take 9 (some 43) (.pointer (some ⟨g, x * 2, none⟩)) rfl rfl (by kernel_rfl) (by kernel_rfl) (by kernel_rfl) (fun _ _ _ h => h) (Or.inl ⟨by kernel_rfl, fun y hy => by go_simp⟩) hbx3 ?_
          try simp only [Act.put, List.setIfInBounds_toArray, List.set_cons_zero, List.set_cons_succ]
          refine hand_take 10 (some 44) (.pointer (some ⟨g, x * 2 + 1, none⟩)) rfl rfl (by kernel_rfl) (by kernel_rfl) (by kernel_rfl) (fun _ _ _ h => h) (Or.inl ⟨by kernel_rfl, fun y hy => by go_simp⟩) hbx3 ?_
          try simp only [Act.put, List.setIfInBounds_toArray, List.set_cons_zero, List.set_cons_succ]
          refine hand_one 11 (by kernel_rfl) ?_
          have HP := hide (HX.out.1.put (p' := p.setRow x (insL (p.row x) i k)) (s := x * 2 + 1) (by omega) s' (insL (p.row x) i k) (fun t => sl_setRow p x _ t) hB hT hq)
          have hg3 : RowAt w3 g 35 (tabA p.sl S) := hT.row HX.out.1.row (HX.out.1.off (s := x * 2 + 1) (by omega))
          have hc3 : w3.cell? ⟨g, x * 2 + 1, none⟩ = some (slV (S (x * 2 + 1)) (p.sl (x * 2 + 1)).length) := hg3.cell _ _ (tabA_get _ _ (by omega))
          have hf3 : w3.frozen? ⟨g, x * 2 + 1, none⟩ = false := hg3.free _
          have hln : ((insL (p.row x) i k : List Hd)).length = (p.row x).length + 1 := insL_len _ _ _ hi
          rw [hln] at HP
          refine hand_set rfl rfl rfl 30 (.tmp 44) (.tmp 42) rfl ⟨g, x * 2 + 1, none⟩ (slV s' ((p.row x).length + 1)) rfl rfl (store_sl hc3 hf3 _ _) ?_
          have hbx4 : RowAt (w3.setCell ⟨g, x * 2 + 1, none⟩ (slV s' ((p.row x).length + 1))) gb 46 A := hbx3.other _ _ (fun e => by
            have h7 := HGB.out
            have h8 := H.out.row.lt
            have e : gb = g := e
            omega)
          refine ⟨hbx4, ?_⟩
          try simp only [Act.put, List.setIfInBounds_toArray, List.set_cons_zero, List.set_cons_succ]
          refine wpAnyH_done (by kernel_rfl) ?_ _
          refine NoPanic.normal ?_
          have HE := hide (Aft1.first HX2.out HP.out)
          rw [HK.out] at HE
          clear HP hg3 hc3 hf3 hln hbx3 hbx4 hT hB hq HX HI HX2
          try go_wp2
          go_end0
          exact ⟨⟨_, rfl⟩, HE.out⟩
      · have i1 : (0 : Int) < (i : Int) := by omega
        obtain ⟨i', rfl⟩ : ∃ i', i = i' + 1 := ⟨i - 1, by omega⟩
        obtain ⟨m, hmm⟩ : ∃ m, (p.row x)[i']? = some m := ⟨_, List.getElem?_eq_getElem (by have := HN.out; omega)⟩
        obtain ⟨b, hb0, hbl, c0, c1, c2⟩ := (HR.out.1.1.rowB hx).at hmm
        have r0 := HR.out.1.1.rows hx
        rw [← HN.out, slV_some hb0] at r0
        have hmeq := HAD.out
        rw [hb0] at hmeq
        have hmeq2 : ad = some ⟨b, 0, none⟩ := hmeq
        subst hmeq2
        have HMM := hide hmm
        have i2 : (i' : Int) < (n : Int) := by omega
        have i3 : ((i' + 1 : Nat) : Int) - 1 = (i' : Int) := by omega
        clear hmm hmeq hb0 c1 c2 hbl
        generalize (S (x * 2 + 1)).c = cc at *
        have HH1 := hide (HHO.out wr HR.out.1 m.w)
        have ecast : ((i' + 1 : Nat) : Int) = (i' : Int) + 1 := by omega
        rw [ecast]
        go_wp2_with fail
        refine HH1.out.mono ?_
        rintro e w2 ⟨rfl, hb2⟩
        have HR2 := hide (HR.out.1.later hb2)
        clear hb2 c0 r0 HH1
        go_wp2_with fail
        refine (HRT.out _ w2).mono ?_
        rintro e w3 ⟨rfl, rfl⟩
        rw [HRG.out]
        by_cases hm0 : atW (p.had x) m.w = 0
        · have e1 : decide (atW (p.had x) m.w ≠ 0) = false := by simp [hm0]
          rw [e1]
          have HM0 := hide hm0
          clear e1 hm0
          go_wp2
          go_roundw
          case rel => exact ⟨i', by omega, by go_num, ⟨HR2.out, fun j q hj e => by
            by_cases ej : j = i'
            · subst ej
              have e2 := HMM.out
              rw [e] at e2
              injection e2 with e2
              rw [e2]
              exact HM0.out
            · exact HR.out.2 j q (by omega) e⟩⟩
          case measure => simp [intOf]
        · have e1 : decide (atW (p.had x) m.w ≠ 0) = true := by simp [hm0]
          rw [e1]
          obtain ⟨i, hii⟩ : ∃ i, i = i' + 1 := ⟨_, rfl⟩
          have HK := hide (show insL (p.row x) i k = entS (p.had x) (p.row x) k from by
            unfold insL entS
            rw [hii, if_pos HK0.out, entN_eq (p.had x) (i' + 1) (by have := HN.out; omega) HR.out.2 (.inr ⟨m, HMM.out, hm0⟩)])
          have HW := hide (show TAt w2 g p S ∧ Below w.heap.size w w2 ∧ RowAt w2 gb 46 A from ⟨HR2.out.1, HR2.out.2.2, by rw [hgb]; exact HR2.out.2.1⟩)
          have hi : i ≤ (p.row x).length := by have := HN.out; omega
          have e5 : (i' : Int) + 1 = (i : Int) := by omega
          rw [e5, ← hgb]
          clear e1 hm0 hgb HHO HRT HRG HR HR2 H0 HMM e5 hii ecast i2 i3 i1 h0
          revert HW
          generalize w2 = w1
          intro HW
          go_wp2_with fail
          obtain ⟨V, hV⟩ : ∃ V, V = slV (S (x * 2 + 1)) (p.row x).length := ⟨_, rfl⟩
          have c0 := HW.out.1.rows hx
          rw [← hV] at c0
          have HC := hide c0
          have HV := hide hV
          clear c0 hV
          refine wp_region_noPanic ?_
          refine wp_region_held_drew (S := fun y => RowAt y gb 46 A) (by kernel_rfl) (HW.out.2.2) (fun hHeld => ?_)
          refine hand_take 0 (some 34) (.pointer (some ⟨g, x * 2, none⟩)) rfl rfl (by kernel_rfl) (by kernel_rfl) (by kernel_rfl) (fun _ _ _ h => h) (Or.inl ⟨by kernel_rfl, fun y hy => by go_simp⟩) hHeld ?_
          try simp only [Act.put, List.setIfInBounds_toArray, List.set_cons_zero, List.set_cons_succ]
          refine hand_take 1 (some 35) (.pointer (some ⟨g, x * 2, none⟩)) rfl rfl (by kernel_rfl) (by kernel_rfl) (by kernel_rfl) (fun _ _ _ h => h) (Or.inl ⟨by kernel_rfl, fun y hy => by go_simp⟩) hHeld ?_
          try simp only [Act.put, List.setIfInBounds_toArray, List.set_cons_zero, List.set_cons_succ]
          refine hand_take 2 (some 36) (.pointer (some ⟨g, x * 2, none⟩)) rfl rfl (by kernel_rfl) (by kernel_rfl) (by kernel_rfl) (fun _ _ _ h => h) (Or.inl ⟨by kernel_rfl, fun y hy => by go_simp⟩) hHeld ?_
          try simp only [Act.put, List.setIfInBounds_toArray, List.set_cons_zero, List.set_cons_succ]
          refine hand_take 3 (some 37) (.pointer (some ⟨g, x * 2 + 1, none⟩)) rfl rfl (by kernel_rfl) (by kernel_rfl) (by kernel_rfl) (fun _ _ _ h => h) (Or.inl ⟨by kernel_rfl, fun y hy => by go_simp⟩) hHeld ?_
          try simp only [Act.put, List.setIfInBounds_toArray, List.set_cons_zero, List.set_cons_succ]
          refine hand_take 5 (some 39) (.int .i64 (i : Int)) rfl rfl (by kernel_rfl) (by kernel_rfl) (by kernel_rfl) (fun _ _ _ h => h) (Or.inl ⟨by kernel_rfl, fun y hy => by go_simp⟩) hHeld ?_
          try simp only [Act.put, List.setIfInBounds_toArray, List.set_cons_zero, List.set_cons_succ]
          refine hand_take 6 (some 40) (.agg A) rfl rfl (by kernel_rfl) (by kernel_rfl) (by kernel_rfl) (fun _ _ _ h => h) (yieldsIf_load_run (by kernel_rfl) 46 _ rfl (.pointer (some ⟨gb, 0, none⟩)) rfl _ (fun y hy => by have r := hy; rw [HA.out] at r ⊢; exact load_box r)) hHeld ?_
          try simp only [Act.put, List.setIfInBounds_toArray, List.set_cons_zero, List.set_cons_succ]
          have b2 : Below w1.heap.size w1 (w1.drew.alloc (.cells A 46)) := (Below.refl w1.heap.size w1).drew.alloc (Nat.le_refl _) _
          have r2 : RowAt (w1.drew.alloc (.cells A 46)) w1.heap.size 46 A := RowAt.new w1.drew _ _
          have HX := hide (And.intro (HW.out.1.later b2) (And.intro (show ¬ ofS (S (x * 2 + 1)) gb from fun e => by
            have h6 := (H.out.rowB hx).lt e
            have h7 := HGB.out
            omega) (HW.out.2.2.later b2)))
          have HX2 := hide (HW.out.2.1.trans (b2.mono HW.out.2.1.size))
          have HI := hide (show Calls Try.prog 74 #[V, .int .i64 (i : Int), .slice (some ⟨w1.heap.size, 0, none⟩) 1 1] (w1.drew.alloc (.cells A 46)) (InsAns (w1.drew.alloc (.cells A 46)) (S (x * 2 + 1)) ((p.row x)) i k) from by
            rw [HV.out]
            exact ins13 _ (S (x * 2 + 1)) ((p.row x)) (HX.out.1.rowB hx) i hi k w1.heap.size (by rw [← HA.out]; exact r2) (fun e => by
              have h6 := (HW.out.1.rowB hx).lt e
              omega) hl)
          have hc2 : (w1.drew.alloc (.cells A 46)).cell? ⟨g, x * 2 + 1, none⟩ = some V := by
            rw [HV.out]
            exact HX.out.1.rows hx
          have hHeld2 : RowAt (w1.drew.alloc (.cells A 46)) gb 46 A := HX.out.2.2
          clear b2 r2
          have hc1 : w1.drew.cell? ⟨g, x * 2 + 1, none⟩ = some V := HC.out
          refine hand_two 4 7 (by kernel_rfl) ?_ ?_
          · refine hand_run (some 38) rfl rfl rfl V w1.drew ?hz ?_
            (case hz => have h : w1.cell? ⟨g, x * 2 + 1, none⟩ = some V := hc1; go_simp)
            refine ⟨hHeld, ?_⟩
            try simp only [Act.put, List.setIfInBounds_toArray, List.set_cons_zero, List.set_cons_succ]
            refine hand_one 7 (by kernel_rfl) ?_
            refine hand_run (some 41) rfl rfl rfl (.slice (some ⟨w1.heap.size, 0, none⟩) 1 1) (w1.drew.alloc (.cells A 46)) ?hz ?_
            (case hz =>
              have hAl : A = #[.int .i64 k.w, .int .i64 k.x, .int .i64 k.m] := HA.out
              clear HX HI HW HC HV hHeld hHeld2 hc1 hc2 HA HX2
              subst hAl
              go_simp)
            refine ⟨hHeld2, ?_⟩
            try simp only [Act.put, List.setIfInBounds_toArray, List.set_cons_zero, List.set_cons_succ]
            refine hand_one 8 (by kernel_rfl) ?_
            refine hand_call (some 42) rfl rfl rfl 74 #[V, .int .i64 (i : Int), .slice (some ⟨w1.heap.size, 0, none⟩) 1 1] ?he (HI.out.mono ?_)
            (case he => go_simp)
            rintro e w3 ⟨s', rfl, hB, hT, hq⟩
            have hbx3 : RowAt w3 gb 46 A := hT.row HX.out.2.2 (fun e => HX.out.2.1 e)
            refine ⟨_, rfl, ?_⟩
            refine ⟨hbx3, ?_⟩
            try simp only [Act.put, List.setIfInBounds_toArray, List.set_cons_zero, List.set_cons_succ]
            refine hand_take 9 (some 43) (.pointer (some ⟨g, x * 2, none⟩)) rfl rfl (by kernel_rfl) (by kernel_rfl) (by kernel_rfl) (fun _ _ _ h => h) (Or.inl ⟨by kernel_rfl, fun y hy => by go_simp⟩) hbx3 ?_
            try simp only [Act.put, List.setIfInBounds_toArray, List.set_cons_zero, List.set_cons_succ]
            refine hand_take 10 (some 44) (.pointer (some ⟨g, x * 2 + 1, none⟩)) rfl rfl (by kernel_rfl) (by kernel_rfl) (by kernel_rfl) (fun _ _ _ h => h) (Or.inl ⟨by kernel_rfl, fun y hy => by go_simp⟩) hbx3 ?_
            try simp only [Act.put, List.setIfInBounds_toArray, List.set_cons_zero, List.set_cons_succ]
            refine hand_one 11 (by kernel_rfl) ?_
            have HP := hide (HX.out.1.put (p' := p.setRow x (insL (p.row x) i k)) (s := x * 2 + 1) (by omega) s' (insL (p.row x) i k) (fun t => sl_setRow p x _ t) hB hT hq)
            have hg3 : RowAt w3 g 35 (tabA p.sl S) := hT.row HX.out.1.row (HX.out.1.off (s := x * 2 + 1) (by omega))
            have hc3 : w3.cell? ⟨g, x * 2 + 1, none⟩ = some (slV (S (x * 2 + 1)) (p.sl (x * 2 + 1)).length) := hg3.cell _ _ (tabA_get _ _ (by omega))
            have hf3 : w3.frozen? ⟨g, x * 2 + 1, none⟩ = false := hg3.free _
            have hln : ((insL (p.row x) i k : List Hd)).length = (p.row x).length + 1 := insL_len _ _ _ hi
            rw [hln] at HP
            refine hand_set rfl rfl rfl 30 (.tmp 44) (.tmp 42) rfl ⟨g, x * 2 + 1, none⟩ (slV s' ((p.row x).length + 1)) rfl rfl (store_sl hc3 hf3 _ _) ?_
            have hbx4 : RowAt (w3.setCell ⟨g, x * 2 + 1, none⟩ (slV s' ((p.row x).length + 1))) gb 46 A := hbx3.other _ _ (fun e => by
              have h7 := HGB.out
              have h8 := H.out.row.lt
              have e : gb = g := e
              omega)
            refine ⟨hbx4, ?_⟩
            try simp only [Act.put, List.setIfInBounds_toArray, List.set_cons_zero, List.set_cons_succ]
            refine wpAnyH_done (by kernel_rfl) ?_ _
            refine NoPanic.normal ?_
            have HE := hide (Aft1.first HX2.out HP.out)
            rw [HK.out] at HE
            clear HP hg3 hc3 hf3 hln hbx3 hbx4 hT hB hq HX HI HX2
            try go_wp2
            go_end0
            exact ⟨⟨_, rfl⟩, HE.out⟩
          · refine hand_run (some 41) rfl rfl rfl (.slice (some ⟨w1.heap.size, 0, none⟩) 1 1) (w1.drew.alloc (.cells A 46)) ?hz ?_
            (case hz =>
              have hAl : A = #[.int .i64 k.w, .int .i64 k.x, .int .i64 k.m] := HA.out
              clear HX HI HW HC HV hHeld hHeld2 hc1 hc2 HA HX2
              subst hAl
              go_simp)
            refine ⟨hHeld2, ?_⟩
            try simp only [Act.put, List.setIfInBounds_toArray, List.set_cons_zero, List.set_cons_succ]
            refine hand_one 4 (by kernel_rfl) ?_
            refine hand_run (some 38) rfl rfl rfl V (w1.drew.alloc (.cells A 46)) ?hz ?_
            (case hz => have h : (w1.alloc (.cells A 46)).cell? ⟨g, x * 2 + 1, none⟩ = some V := hc2; go_simp)
            refine ⟨hHeld2, ?_⟩
            try simp only [Act.put, List.setIfInBounds_toArray, List.set_cons_zero, List.set_cons_succ]
            refine hand_one 8 (by kernel_rfl) ?_
            refine hand_call (some 42) rfl rfl rfl 74 #[V, .int .i64 (i : Int), .slice (some ⟨w1.heap.size, 0, none⟩) 1 1] ?he (HI.out.mono ?_)
            (case he => go_simp)
            rintro e w3 ⟨s', rfl, hB, hT, hq⟩
            have hbx3 : RowAt w3 gb 46 A := hT.row HX.out.2.2 (fun e => HX.out.2.1 e)
            refine ⟨_, rfl, ?_⟩
            refine ⟨hbx3, ?_⟩
            try simp only [Act.put, List.setIfInBounds_toArray, List.set_cons_zero, List.set_cons_succ]
            refine hand_take 9 (some 43) (.pointer (some ⟨g, x * 2, none⟩)) rfl rfl (by kernel_rfl) (by kernel_rfl) (by kernel_rfl) (fun _ _ _ h => h) (Or.inl ⟨by kernel_rfl, fun y hy => by go_simp⟩) hbx3 ?_
            try simp only [Act.put, List.setIfInBounds_toArray, List.set_cons_zero, List.set_cons_succ]
            refine hand_take 10 (some 44) (.pointer (some ⟨g, x * 2 + 1, none⟩)) rfl rfl (by kernel_rfl) (by kernel_rfl) (by kernel_rfl) (fun _ _ _ h => h) (Or.inl ⟨by kernel_rfl, fun y hy => by go_simp⟩) hbx3 ?_
            try simp only [Act.put, List.setIfInBounds_toArray, List.set_cons_zero, List.set_cons_succ]
            refine hand_one 11 (by kernel_rfl) ?_
            have HP := hide (HX.out.1.put (p' := p.setRow x (insL (p.row x) i k)) (s := x * 2 + 1) (by omega) s' (insL (p.row x) i k) (fun t => sl_setRow p x _ t) hB hT hq)
            have hg3 : RowAt w3 g 35 (tabA p.sl S) := hT.row HX.out.1.row (HX.out.1.off (s := x * 2 + 1) (by omega))
            have hc3 : w3.cell? ⟨g, x * 2 + 1, none⟩ = some (slV (S (x * 2 + 1)) (p.sl (x * 2 + 1)).length) := hg3.cell _ _ (tabA_get _ _ (by omega))
            have hf3 : w3.frozen? ⟨g, x * 2 + 1, none⟩ = false := hg3.free _
            have hln : ((insL (p.row x) i k : List Hd)).length = (p.row x).length + 1 := insL_len _ _ _ hi
            rw [hln] at HP
            refine hand_set rfl rfl rfl 30 (.tmp 44) (.tmp 42) rfl ⟨g, x * 2 + 1, none⟩ (slV s' ((p.row x).length + 1)) rfl rfl (store_sl hc3 hf3 _ _) ?_
            have hbx4 : RowAt (w3.setCell ⟨g, x * 2 + 1, none⟩ (slV s' ((p.row x).length + 1))) gb 46 A := hbx3.other _ _ (fun e => by
              have h7 := HGB.out
              have h8 := H.out.row.lt
              have e : gb = g := e
              omega)
            refine ⟨hbx4, ?_⟩
            try simp only [Act.put, List.setIfInBounds_toArray, List.set_cons_zero, List.set_cons_succ]
            refine wpAnyH_done (by kernel_rfl) ?_ _
            refine NoPanic.normal ?_
            have HE := hide (Aft1.first HX2.out HP.out)
            rw [HK.out] at HE
            clear HP hg3 hc3 hf3 hln hbx3 hbx4 hT hB hq HX HI HX2
            try go_wp2
            go_end0
            exact ⟨⟨_, rfl⟩, HE.out⟩
end
end Go.Proofs.Ytmlbghloddiflaa
