/-
  The contracts of a place's calls that give a lock and take one back.
-/
import Derived.Test.YtmlbghloddiflaaLkPlace
import Derived.Test.YtmlbghloddiflaaLkIns2
namespace Go.Proofs.Ytmlbghloddiflaa
open Go.RowKit
set_option linter.unusedVariables false

section
variable {w : World} {g : Nat} {p : Pt} {S : Nat → Sl} {x : Nat}
/-- One lock laid over at its place. -/
theorem HB.over {s : Sl} {l : List Hd} (h : HB w s l) {i : Nat} {k0 : Hd} (hi : l[i]? = some k0) (k : Hd) : ∃ b cs, s.b = some b ∧ RowAt w b 46 cs ∧ i * 3 + 3 ≤ cs.size ∧ ∀ w2, RowAt w2 b 46 (partA cs (i * 3) (hdL k)) → HB w2 s (l.take i ++ k :: l.drop (i + 1)) := by
  have hil : i < l.length := (List.getElem?_eq_some_iff.1 hi).1
  rcases h with ⟨_, rfl, _⟩ | ⟨b, cs, h1, h2, h3, h4, h5, h6, h7⟩
  · simp at hi
  · refine ⟨b, cs, h1, h2, by omega, fun w2 h8 => .inr ⟨b, _, h1, h8, by rw [partA_size _ _ _ (by show i * 3 + 3 ≤ _; omega)]; exact h3, by rw [List.length_append, List.length_cons, List.length_take, List.length_drop]; omega, h5, h6, fun j u hu => h8.cell j u ?_⟩⟩
    have hti : (flatH (l.take i)).length = i * 3 := by rw [flatH_len, List.length_take]; omega
    rw [flatH_append, show k :: l.drop (i + 1) = [k] ++ l.drop (i + 1) from rfl, flatH_append, flatH_one] at hu
    have hcs : ∀ j u, (flatH l)[j]? = some u → cs[j]? = some u := fun j u hu => by
      rw [← cell_of_row w b j _ _ (0, 0) h2]
      exact h7 j u hu
    by_cases h9 : j < i * 3
    · rw [partA_out _ _ _ (by show i * 3 + 3 ≤ _; omega) j (.inl h9)]
      rw [List.getElem?_append_left (by omega), ← flatH_take, List.getElem?_take, if_pos h9] at hu
      exact hcs j u hu
    · rw [List.getElem?_append_right (by omega), hti] at hu
      by_cases h10 : j < i * 3 + 3
      · rw [List.getElem?_append_left (by show _ < 3; omega)] at hu
        have := partA_in cs (i * 3) (hdL k) (by show i * 3 + 3 ≤ _; omega) (j - i * 3) (by show _ < 3; omega)
        rw [show i * 3 + (j - i * 3) = j by omega] at this
        rw [this]
        exact hu
      · rw [partA_out _ _ _ (by show i * 3 + 3 ≤ _; omega) j (.inr (by show i * 3 + 3 ≤ j; omega))]
        rw [List.getElem?_append_right (by show 3 ≤ _; omega), ← flatH_drop, List.getElem?_drop] at hu
        refine hcs j u ?_
        rw [← hu]
        congr 1
        show j = (i + 1) * 3 + (j - i * 3 - 3)
        omega
/-- A list laid over in its own row: the table's block stays. -/
theorem TAt.over {w2 : World} (h : TAt w g p S) (hx : x < 288) {b : Nat} (hb : (S (x * 2)).b = some b) {l : List Hd} (hl : HB w2 (S (x * 2)) l) (hn : l.length = (p.had x).length) (ho : Only b w w2) : Aft1 (x * 2) w g S (p.setHad x l) w2 := by
  have hT : Tn (ofS (S (x * 2))) w w2 := ⟨ho.os, ho.tape, ho.output, Nat.le_of_eq ho.size, fun k hk hn => ho.block k (fun e => hn (by rw [e]; exact hb))⟩
  have hg : ¬ ofS (S (x * 2)) g := h.off (by omega)
  refine ⟨S, ⟨?_, fun t ht => ?_, h.one⟩, hT.weak (fun k hk => .inr ⟨x * 2, by omega, hk⟩), fun k hk => .inl hk, fun _ _ => rfl⟩
  · have hr := hT.row h.row hg
    have e : tabA (p.setHad x l).sl S = tabA p.sl S := by
      unfold tabA
      congr 1
      funext t
      rw [sl_setHad]
      split
      · rename_i e
        rw [hn, e, sl_had]
      · rfl
    rw [e]
    exact hr
  · rw [sl_setHad]
    by_cases e : t = x * 2
    · rw [if_pos e, e]
      exact hl
    · rw [if_neg e]
      exact (h.has t ht).turn hT (fun q hq hf => e (h.one t (x * 2) q ht (by omega) hq hf))
/-! ### give -/
theorem load_box {y : World} {gb : Nat} {k : Hd} (h : RowAt y gb 46 (hdA k)) : (Instr.loadAt 46 (.pointer (some ⟨gb, 0, none⟩))).run Try.prog y = .ok (.agg (hdA k)) y := load_hold (h.cell 0 _ rfl) (h.cell 1 _ rfl) (h.cell 2 _ rfl)
theorem hdA_one (k : Hd) : (hdA k).all (·.oneCell') = true := Array.all_eq_true_iff_forall_mem.2 (fun v hv => hdL_one k v (by
  have : v ∈ (hdA k).toList := by simpa using hv
  exact this))
theorem store_sl {w : World} {g s : Nat} {o1 : Value} (hc : w.cell? ⟨g, s, none⟩ = some o1) (hf : w.frozen? ⟨g, s, none⟩ = false) (v : Sl) (n : Nat) : (Instr.storeAt 30 (.pointer (some ⟨g, s, none⟩)) (slV v n)).run Try.prog w = .ok () (w.setCell ⟨g, s, none⟩ (slV v n)) := by
  unfold slV
  go_simp
theorem hand_set {P : Program} {ops : Array Oper} {Q : Exit → Act → World → Prop} {a : Act} {w w' : World} {o : Oper} {K : Act → World → Prop} {i : Nat} (ho : ops[i]? = some o) (hd : o.dst = none) (hg : o.guard = none) (ty : TypeId) (x y : Operand) (hop : o.op = .store ty x y) (ad : Addr) (v : Value) (hx : a.eval x = .pointer (some ad)) (hy : a.eval y = v) (hr : (Instr.storeAt ty (.pointer (some ad)) v).run P w = .ok () w') (h : K a w') : wpOp P ops Q i K a w := by
  refine wpOp_step ho (fun K' hK => ?_)
  have hw : Region.wanted o (yielded ops a.tmps) = true := by simp [Region.wanted, hg]
  rw [if_pos hw]
  unfold Oper.wp execOp
  simp only [hop, hx, hy, Sem.run_bind, hr, Result.andThen_ok, Sem.run_pure]
  have e : a.put o.dst undef = a := by rw [hd]; rfl
  have h2 := hK _ _ h
  rw [← e] at h2
  exact h2
set_option maxRecDepth 8000 in
set_option maxHeartbeats 1600000 in
theorem give13 (h : TAt w g p S) (hx : x < 288) (hs : SortW (p.had x)) (hl : (p.had x).length ≤ 1000000) (k : Hd) : Calls Try.prog 47 #[.pointer (some ⟨g, x * 2, none⟩), .agg (hdA k)] w fun e w' => (∃ v, e = .returned v) ∧ Aft1 (x * 2) w g S (p.setHad x (putS k (p.had x))) w' := by
  have b1 : Below w.heap.size w (w.alloc (.cells (hdA k) 46)) := (Below.refl w.heap.size w).alloc (Nat.le_refl _) _
  have r1 := RowAt.new w 46 (hdA k)
  have d0 := r1.cell 0 (.int .i64 k.w) rfl
  have HF := hide (find13 (h.later b1) hx hs hl k.w)
  have H := hide h
  have HS := hide hs
  have HR := hide (And.intro r1 b1)
  clear h hs r1 b1
  obtain ⟨A, hA⟩ : ∃ A, A = hdA k := ⟨_, rfl⟩
  have HA := hide hA
  rw [← hA] at HR HF d0 ⊢
  clear hA
  go_enter Try.func47, Try.ntmps47
  go_wp2_with fail
  refine HF.out.mono ?_
  rintro e w1 ⟨i, q, rfl, hi, h1, h2, h3, hb⟩
  have hb' : Below w.heap.size w w1 := HR.out.2.trans (hb.mono HR.out.2.size)
  have hbx : RowAt w1 w.heap.size 46 A := HR.out.1.later hb
  obtain ⟨gb, hgb⟩ : ∃ gb, gb = w.heap.size := ⟨_, rfl⟩
  have HGB := hide hgb
  rw [← hgb] at hbx ⊢
  have HW := hide (And.intro (H.out.later hb') (And.intro hb' hbx))
  clear hb hb' hbx HF d0 HR hgb
  cases q with
  | true =>
    obtain ⟨k0, hk0, hkw⟩ := h2 rfl
    have HK := hide (And.intro hk0 hkw)
    have il : (i : Int) < ((p.had x).length : Int) := by
      have := (List.getElem?_eq_some_iff.1 hk0).1
      omega
    clear h1 h2 h3
    obtain ⟨b, cs, hb0, hrow, hcs, hover⟩ := (HW.out.1.hadB hx).over hk0 k
    have c0 := HW.out.1.had hx
    rw [slV_some hb0] at c0
    have HO := hide (And.intro hb0 (And.intro hrow (And.intro hcs hover)))
    have HC := hide c0
    clear hk0 hkw hb0 hrow hcs hover c0
    obtain ⟨n, hn⟩ : ∃ n, n = (p.had x).length := ⟨_, rfl⟩
    have HN := hide hn
    rw [← hn] at il HC hi
    clear hn
    generalize (S (x * 2)).c = c at *
    go_wp2_with fail
    refine wp_region_noPanic ?_
    refine wp_region_held_drew (S := fun y => y.cell? ⟨g, x * 2, none⟩ = some (.slice (some ⟨b, 0, none⟩) n c) ∧ RowAt y gb 46 A) (by kernel_rfl) (⟨HC.out, HW.out.2.2⟩) (fun hHeld => ?_)
    refine hand_take 0 (some 14) (.pointer (some ⟨g, x * 2, none⟩)) rfl rfl (by kernel_rfl) (by kernel_rfl) (by kernel_rfl) (fun _ _ _ h => h) (Or.inl ⟨by kernel_rfl, fun y hy => by go_simp⟩) hHeld ?_
    try simp only [Act.put, List.setIfInBounds_toArray, List.set_cons_zero, List.set_cons_succ]
    refine hand_take 1 (some 15) (.pointer (some ⟨g, x * 2, none⟩)) rfl rfl (by kernel_rfl) (by kernel_rfl) (by kernel_rfl) (fun _ _ _ h => h) (Or.inl ⟨by kernel_rfl, fun y hy => by go_simp⟩) hHeld ?_
    try simp only [Act.put, List.setIfInBounds_toArray, List.set_cons_zero, List.set_cons_succ]
    refine hand_take 2 (some 16) (.pointer (some ⟨g, x * 2, none⟩)) rfl rfl (by kernel_rfl) (by kernel_rfl) (by kernel_rfl) (fun _ _ _ h => h) (Or.inl ⟨by kernel_rfl, fun y hy => by go_simp⟩) hHeld ?_
    try simp only [Act.put, List.setIfInBounds_toArray, List.set_cons_zero, List.set_cons_succ]
    refine hand_take 3 (some 17) (.slice (some ⟨b, 0, none⟩) n c) rfl rfl (by kernel_rfl) (by kernel_rfl) (by kernel_rfl) (fun _ _ _ h => h) (Or.inl ⟨by kernel_rfl, fun y hy => by have h := hy.1; go_simp⟩) hHeld ?_
    try simp only [Act.put, List.setIfInBounds_toArray, List.set_cons_zero, List.set_cons_succ]
    refine hand_take 4 (some 18) (.int .i64 (i : Int)) rfl rfl (by kernel_rfl) (by kernel_rfl) (by kernel_rfl) (fun _ _ _ h => h) (Or.inl ⟨by kernel_rfl, fun y hy => by go_simp⟩) hHeld ?_
    try simp only [Act.put, List.setIfInBounds_toArray, List.set_cons_zero, List.set_cons_succ]
    refine hand_take 5 (some 19) (.agg A) rfl rfl (by kernel_rfl) (by kernel_rfl) (by kernel_rfl) (fun _ _ _ h => h) (yieldsIf_load_run (by kernel_rfl) 46 _ rfl (.pointer (some ⟨gb, 0, none⟩)) rfl _ (fun y hy => by have r := hy.2; rw [HA.out] at r ⊢; exact load_box r)) hHeld ?_
    try simp only [Act.put, List.setIfInBounds_toArray, List.set_cons_zero, List.set_cons_succ]
    refine hand_take 6 (some 20) (.pointer (some ⟨b, i * 3, none⟩)) rfl rfl (by kernel_rfl) (by kernel_rfl) (by kernel_rfl) (fun _ _ _ h => h) (Or.inl ⟨by kernel_rfl, fun y hy => by go_simp⟩) hHeld ?_
    try simp only [Act.put, List.setIfInBounds_toArray, List.set_cons_zero, List.set_cons_succ]
    refine hand_one 7 (by kernel_rfl) ?_
    have hAl : A.toList = hdL k := by rw [HA.out]; rfl
    have hAs : A.size = 3 := by rw [HA.out]; rfl
    refine hand_store rfl rfl rfl 46 (.tmp 20) (.tmp 19) rfl b (i * 3) 46 cs A rfl rfl (show RowAt w1.drew b 46 cs from HO.out.2.1) (by rw [hAs]; exact infoHs) (by rw [hAs]; exact HO.out.2.2.1) (by rw [HA.out]; exact hdA_one k) ?_
    intro w2 h21 h22
    rw [hAl] at h21
    have hne : b ≠ g := fun e => HW.out.1.off (s := x * 2) (by omega) (by rw [HO.out.1, e])
    have hne2 : b ≠ gb := fun e => by
      have h5 : (S (x * 2)).b = some b := HO.out.1
      have h6 := (H.out.hadB hx).lt h5
      have h7 := HGB.out
      omega
    have hS2 : w2.cell? ⟨g, x * 2, none⟩ = some (.slice (some ⟨b, 0, none⟩) n c) ∧ RowAt w2 gb 46 A := ⟨(World.cell?_of_block (a := ⟨g, x * 2, none⟩) (h22.block g (fun e => hne e.symm))).trans hHeld.1, h22.row hHeld.2 (fun e => hne2 e.symm)⟩
    refine ⟨hS2, ?_⟩
    try simp only [Act.put, List.setIfInBounds_toArray, List.set_cons_zero, List.set_cons_succ]
    refine wpAnyH_done (by kernel_rfl) ?_ _
    refine NoPanic.normal ?_
    have hB2 := HO.out.2.2.2 w2 h21
    have ho : Only b w1 w2 := ⟨h22.os, h22.tape, h22.output, h22.size, h22.block⟩
    have hlen : ((p.had x).take i ++ k :: (p.had x).drop (i + 1)).length = (p.had x).length := by
      rw [List.length_append, List.length_cons, List.length_take, List.length_drop]
      have := HN.out
      omega
    have hput := put_set HS.out i HK.out.1 HK.out.2
    have HE := hide (Aft1.first HW.out.2.1 (HW.out.1.over hx HO.out.1 hB2 hlen ho))
    rw [← hput] at HE
    clear hB2 ho hlen hput hS2 h21 h22 hne hne2 hHeld
    go_wp2
    (try simp only [Exit.inBlock, Exit.then])
    refine bodyPost_ret (results_none rfl _ _ _) rfl ?_
    exact ⟨⟨_, rfl⟩, HE.out⟩
  | false =>
    have HK := hide (And.intro h1 (h3 rfl))
    clear h1 h2 h3
    obtain ⟨V, hV⟩ : ∃ V, V = slV (S (x * 2)) (p.had x).length := ⟨_, rfl⟩
    have c0 := HW.out.1.had hx
    rw [← hV] at c0
    have HC := hide c0
    have HV := hide hV
    clear c0 hV
    go_wp2_with fail
    refine wp_region_noPanic ?_
    refine wp_region_held_drew (S := fun y => RowAt y gb 46 A) (by kernel_rfl) (HW.out.2.2) (fun hHeld => ?_)
    refine hand_take 0 (some 21) (.pointer (some ⟨g, x * 2, none⟩)) rfl rfl (by kernel_rfl) (by kernel_rfl) (by kernel_rfl) (fun _ _ _ h => h) (Or.inl ⟨by kernel_rfl, fun y hy => by go_simp⟩) hHeld ?_
    try simp only [Act.put, List.setIfInBounds_toArray, List.set_cons_zero, List.set_cons_succ]
    refine hand_take 1 (some 22) (.pointer (some ⟨g, x * 2, none⟩)) rfl rfl (by kernel_rfl) (by kernel_rfl) (by kernel_rfl) (fun _ _ _ h => h) (Or.inl ⟨by kernel_rfl, fun y hy => by go_simp⟩) hHeld ?_
    try simp only [Act.put, List.setIfInBounds_toArray, List.set_cons_zero, List.set_cons_succ]
    refine hand_take 2 (some 23) (.pointer (some ⟨g, x * 2, none⟩)) rfl rfl (by kernel_rfl) (by kernel_rfl) (by kernel_rfl) (fun _ _ _ h => h) (Or.inl ⟨by kernel_rfl, fun y hy => by go_simp⟩) hHeld ?_
    try simp only [Act.put, List.setIfInBounds_toArray, List.set_cons_zero, List.set_cons_succ]
    refine hand_take 3 (some 24) (.pointer (some ⟨g, x * 2, none⟩)) rfl rfl (by kernel_rfl) (by kernel_rfl) (by kernel_rfl) (fun _ _ _ h => h) (Or.inl ⟨by kernel_rfl, fun y hy => by go_simp⟩) hHeld ?_
    try simp only [Act.put, List.setIfInBounds_toArray, List.set_cons_zero, List.set_cons_succ]
    refine hand_take 5 (some 26) (.int .i64 (i : Int)) rfl rfl (by kernel_rfl) (by kernel_rfl) (by kernel_rfl) (fun _ _ _ h => h) (Or.inl ⟨by kernel_rfl, fun y hy => by go_simp⟩) hHeld ?_
    try simp only [Act.put, List.setIfInBounds_toArray, List.set_cons_zero, List.set_cons_succ]
    refine hand_take 6 (some 27) (.agg A) rfl rfl (by kernel_rfl) (by kernel_rfl) (by kernel_rfl) (fun _ _ _ h => h) (yieldsIf_load_run (by kernel_rfl) 46 _ rfl (.pointer (some ⟨gb, 0, none⟩)) rfl _ (fun y hy => by have r := hy; rw [HA.out] at r ⊢; exact load_box r)) hHeld ?_
    try simp only [Act.put, List.setIfInBounds_toArray, List.set_cons_zero, List.set_cons_succ]
    have b2 : Below w1.heap.size w1 (w1.drew.alloc (.cells A 46)) := (Below.refl w1.heap.size w1).drew.alloc (Nat.le_refl _) _
    have r2 : RowAt (w1.drew.alloc (.cells A 46)) w1.heap.size 46 A := RowAt.new w1.drew _ _
    have HX := hide (And.intro (HW.out.1.later b2) (And.intro (show ¬ ofS (S (x * 2)) gb from fun e => by
      have h6 := (H.out.hadB hx).lt e
      have h7 := HGB.out
      omega) (HW.out.2.2.later b2)))
    have HX2 := hide (HW.out.2.1.trans (b2.mono HW.out.2.1.size))
    have HI := hide (show Calls Try.prog 74 #[V, .int .i64 (i : Int), .slice (some ⟨w1.heap.size, 0, none⟩) 1 1] (w1.drew.alloc (.cells A 46)) (InsAns (w1.drew.alloc (.cells A 46)) (S (x * 2)) ((p.had x)) i k) from by
      rw [HV.out]
      exact ins13 _ (S (x * 2)) ((p.had x)) (HX.out.1.hadB hx) i hi k w1.heap.size (by rw [← HA.out]; exact r2) (fun e => by
        have h6 := (HW.out.1.hadB hx).lt e
        omega) hl)
    have hc2 : (w1.drew.alloc (.cells A 46)).cell? ⟨g, x * 2, none⟩ = some V := by
      rw [HV.out]
      exact HX.out.1.had hx
    have hHeld2 : RowAt (w1.drew.alloc (.cells A 46)) gb 46 A := HX.out.2.2
    clear b2 r2
    have hc1 : w1.drew.cell? ⟨g, x * 2, none⟩ = some V := HC.out
    refine hand_two 4 7 (by kernel_rfl) ?_ ?_
    · refine hand_run (some 25) rfl rfl rfl V w1.drew ?hz ?_
      (case hz => have h : w1.cell? ⟨g, x * 2, none⟩ = some V := hc1; go_simp)
      refine ⟨hHeld, ?_⟩
      try simp only [Act.put, List.setIfInBounds_toArray, List.set_cons_zero, List.set_cons_succ]
      refine hand_one 7 (by kernel_rfl) ?_
      refine hand_run (some 28) rfl rfl rfl (.slice (some ⟨w1.heap.size, 0, none⟩) 1 1) (w1.drew.alloc (.cells A 46)) ?hz ?_
      (case hz =>
        have hAl : A = #[.int .i64 k.w, .int .i64 k.x, .int .i64 k.m] := HA.out
        clear HX HI HW HC HV hHeld hHeld2 hc1 hc2 HA HX2
        subst hAl
        go_simp)
      refine ⟨hHeld2, ?_⟩
      try simp only [Act.put, List.setIfInBounds_toArray, List.set_cons_zero, List.set_cons_succ]
      refine hand_one 8 (by kernel_rfl) ?_
      refine hand_call (some 29) rfl rfl rfl 74 #[V, .int .i64 (i : Int), .slice (some ⟨w1.heap.size, 0, none⟩) 1 1] ?he (HI.out.mono ?_)
      (case he => go_simp)
      rintro e w3 ⟨s', rfl, hB, hT, hq⟩
      have hbx3 : RowAt w3 gb 46 A := hT.row HX.out.2.2 (fun e => HX.out.2.1 e)
      refine ⟨_, rfl, ?_⟩
      refine ⟨hbx3, ?_⟩
      try simp only [Act.put, List.setIfInBounds_toArray, List.set_cons_zero, List.set_cons_succ]
      refine hand_take 9 (some 30) (.pointer (some ⟨g, x * 2, none⟩)) rfl rfl (by kernel_rfl) (by kernel_rfl) (by kernel_rfl) (fun _ _ _ h => h) (Or.inl ⟨by kernel_rfl, fun y hy => by go_simp⟩) hbx3 ?_
      try simp only [Act.put, List.setIfInBounds_toArray, List.set_cons_zero, List.set_cons_succ]
      refine hand_take 10 (some 31) (.pointer (some ⟨g, x * 2, none⟩)) rfl rfl (by kernel_rfl) (by kernel_rfl) (by kernel_rfl) (fun _ _ _ h => h) (Or.inl ⟨by kernel_rfl, fun y hy => by go_simp⟩) hbx3 ?_
      try simp only [Act.put, List.setIfInBounds_toArray, List.set_cons_zero, List.set_cons_succ]
      refine hand_one 11 (by kernel_rfl) ?_
      have HP := hide (HX.out.1.put (p' := p.setHad x (insL (p.had x) i k)) (s := x * 2) (by omega) s' (insL (p.had x) i k) (fun t => sl_setHad p x _ t) hB hT hq)
      have hg3 : RowAt w3 g 35 (tabA p.sl S) := hT.row HX.out.1.row (HX.out.1.off (s := x * 2) (by omega))
      have hc3 : w3.cell? ⟨g, x * 2, none⟩ = some (slV (S (x * 2)) (p.sl (x * 2)).length) := hg3.cell _ _ (tabA_get _ _ (by omega))
      have hf3 : w3.frozen? ⟨g, x * 2, none⟩ = false := hg3.free _
      have hln : ((insL (p.had x) i k : List Hd)).length = (p.had x).length + 1 := insL_len _ _ _ hi
      rw [hln] at HP
      refine hand_set rfl rfl rfl 30 (.tmp 31) (.tmp 29) rfl ⟨g, x * 2, none⟩ (slV s' ((p.had x).length + 1)) rfl rfl (store_sl hc3 hf3 _ _) ?_
      have hbx4 : RowAt (w3.setCell ⟨g, x * 2, none⟩ (slV s' ((p.had x).length + 1))) gb 46 A := hbx3.other _ _ (fun e => by
        have h7 := HGB.out
        have h8 := H.out.row.lt
        have e : gb = g := e
        omega)
      refine ⟨hbx4, ?_⟩
      try simp only [Act.put, List.setIfInBounds_toArray, List.set_cons_zero, List.set_cons_succ]
      refine wpAnyH_done (by kernel_rfl) ?_ _
      refine NoPanic.normal ?_
      have HE := hide (Aft1.first HX2.out HP.out)
      have hput := put_in HS.out i hi HK.out.1 HK.out.2
      rw [show insL (p.had x) i k = putS k (p.had x) from hput.symm] at HE
      clear hput
      clear HP hg3 hc3 hf3 hln hbx3 hbx4 hT hB hq HX HI HX2
      try go_wp2
      go_end0
      exact ⟨⟨_, rfl⟩, HE.out⟩
    · refine hand_run (some 28) rfl rfl rfl (.slice (some ⟨w1.heap.size, 0, none⟩) 1 1) (w1.drew.alloc (.cells A 46)) ?hz ?_
      (case hz =>
        have hAl : A = #[.int .i64 k.w, .int .i64 k.x, .int .i64 k.m] := HA.out
        clear HX HI HW HC HV hHeld hHeld2 hc1 hc2 HA HX2
        subst hAl
        go_simp)
      refine ⟨hHeld2, ?_⟩
      try simp only [Act.put, List.setIfInBounds_toArray, List.set_cons_zero, List.set_cons_succ]
      refine hand_one 4 (by kernel_rfl) ?_
      refine hand_run (some 25) rfl rfl rfl V (w1.drew.alloc (.cells A 46)) ?hz ?_
      (case hz => have h : (w1.alloc (.cells A 46)).cell? ⟨g, x * 2, none⟩ = some V := hc2; go_simp)
      refine ⟨hHeld2, ?_⟩
      try simp only [Act.put, List.setIfInBounds_toArray, List.set_cons_zero, List.set_cons_succ]
      refine hand_one 8 (by kernel_rfl) ?_
      refine hand_call (some 29) rfl rfl rfl 74 #[V, .int .i64 (i : Int), .slice (some ⟨w1.heap.size, 0, none⟩) 1 1] ?he (HI.out.mono ?_)
      (case he => go_simp)
      rintro e w3 ⟨s', rfl, hB, hT, hq⟩
      have hbx3 : RowAt w3 gb 46 A := hT.row HX.out.2.2 (fun e => HX.out.2.1 e)
      refine ⟨_, rfl, ?_⟩
      refine ⟨hbx3, ?_⟩
      try simp only [Act.put, List.setIfInBounds_toArray, List.set_cons_zero, List.set_cons_succ]
      refine hand_take 9 (some 30) (.pointer (some ⟨g, x * 2, none⟩)) rfl rfl (by kernel_rfl) (by kernel_rfl) (by kernel_rfl) (fun _ _ _ h => h) (Or.inl ⟨by kernel_rfl, fun y hy => by go_simp⟩) hbx3 ?_
      try simp only [Act.put, List.setIfInBounds_toArray, List.set_cons_zero, List.set_cons_succ]
      refine hand_take 10 (some 31) (.pointer (some ⟨g, x * 2, none⟩)) rfl rfl (by kernel_rfl) (by kernel_rfl) (by kernel_rfl) (fun _ _ _ h => h) (Or.inl ⟨by kernel_rfl, fun y hy => by go_simp⟩) hbx3 ?_
      try simp only [Act.put, List.setIfInBounds_toArray, List.set_cons_zero, List.set_cons_succ]
      refine hand_one 11 (by kernel_rfl) ?_
      have HP := hide (HX.out.1.put (p' := p.setHad x (insL (p.had x) i k)) (s := x * 2) (by omega) s' (insL (p.had x) i k) (fun t => sl_setHad p x _ t) hB hT hq)
      have hg3 : RowAt w3 g 35 (tabA p.sl S) := hT.row HX.out.1.row (HX.out.1.off (s := x * 2) (by omega))
      have hc3 : w3.cell? ⟨g, x * 2, none⟩ = some (slV (S (x * 2)) (p.sl (x * 2)).length) := hg3.cell _ _ (tabA_get _ _ (by omega))
      have hf3 : w3.frozen? ⟨g, x * 2, none⟩ = false := hg3.free _
      have hln : ((insL (p.had x) i k : List Hd)).length = (p.had x).length + 1 := insL_len _ _ _ hi
      rw [hln] at HP
      refine hand_set rfl rfl rfl 30 (.tmp 31) (.tmp 29) rfl ⟨g, x * 2, none⟩ (slV s' ((p.had x).length + 1)) rfl rfl (store_sl hc3 hf3 _ _) ?_
      have hbx4 : RowAt (w3.setCell ⟨g, x * 2, none⟩ (slV s' ((p.had x).length + 1))) gb 46 A := hbx3.other _ _ (fun e => by
        have h7 := HGB.out
        have h8 := H.out.row.lt
        have e : gb = g := e
        omega)
      refine ⟨hbx4, ?_⟩
      try simp only [Act.put, List.setIfInBounds_toArray, List.set_cons_zero, List.set_cons_succ]
      refine wpAnyH_done (by kernel_rfl) ?_ _
      refine NoPanic.normal ?_
      have HE := hide (Aft1.first HX2.out HP.out)
      have hput := put_in HS.out i hi HK.out.1 HK.out.2
      rw [show insL (p.had x) i k = putS k (p.had x) from hput.symm] at HE
      clear hput
      clear HP hg3 hc3 hf3 hln hbx3 hbx4 hT hB hq HX HI HX2
      try go_wp2
      go_end0
      exact ⟨⟨_, rfl⟩, HE.out⟩
end
end Go.Proofs.Ytmlbghloddiflaa
