/-
  The contract of a place's letIn: those who wait are let in as long as it fits.
-/
import Derived.Test.YtmlbghloddiflaaLkEnter
namespace Go.Proofs.Ytmlbghloddiflaa
open Go.RowKit
set_option linter.unusedVariables false

theorem setHad_setHad (p : Pt) (x : Nat) (l m : List Hd) : (p.setHad x l).setHad x m = p.setHad x m := by
  show (⟨setF (setF p.had x l) x m, p.row⟩ : Pt) = ⟨setF p.had x m, p.row⟩
  congr 1
  funext y
  unfold setF
  by_cases e : y = x
  · rw [if_pos e, if_pos e]
  · rw [if_neg e, if_neg e, if_neg e]
theorem OwnI.shape {B : Nat} {y : World} {v : Value} {l : List Int} (h : OwnI B y v l) : ∃ a c, v = .slice a l.length c := by
  rcases h.2 with ⟨rfl, h0⟩ | ⟨g', cap, cur, rfl, hb, hr, _⟩
  · exact ⟨none, 0, by rw [h0]⟩
  · exact ⟨_, _, rfl⟩
/-- Other blocks, all new, are turned. -/
theorem Aft1.side {s : Nat} {w x y : World} {g : Nat} {p : Pt} {S : Nat → Sl} {G : Nat → Prop} (h : Aft1 s w g S p x) (q : Tn G x y) (hG : ∀ k, G k → w.heap.size ≤ k) (hK : ∀ k t cs, RowAt x k t cs → (t = 35 ∨ t = 46) → ¬ G k) : Aft1 s w g S p y := by
  obtain ⟨S', a, b, c, d⟩ := h
  exact ⟨S', a.turn q (fun k hk => by
    obtain ⟨t, cs, h1, h2⟩ := a.kind hk
    exact hK k t cs h1 h2), b.trans q (fun k hk => .inr (hG k hk)), c, d⟩
theorem Aft.side {w x y : World} {g : Nat} {p : Pt} {S : Nat → Sl} {G : Nat → Prop} (h : Aft w g S p x) (q : Tn G x y) (hG : ∀ k, G k → w.heap.size ≤ k) (hK : ∀ k t cs, RowAt x k t cs → (t = 35 ∨ t = 46) → ¬ G k) : Aft w g S p y := by
  obtain ⟨S', a, b, c⟩ := h
  exact ⟨S', a.turn q (fun k hk => by
    obtain ⟨t, cs, h1, h2⟩ := a.kind hk
    exact hK k t cs h1 h2), b.trans q (fun k hk => .inr (hG k hk)), c⟩
theorem OwnI.apart {B : Nat} {y : World} {v : Value} {l : List Int} (h : OwnI B y v l) : ∀ k t cs, RowAt y k t cs → (t = 35 ∨ t = 46) → ¬ v.ownBlock = some k := fun k t cs hr ht => h.not hr (by rcases ht with rfl | rfl <;> decide)
theorem OwnI.turned {F : Nat → Prop} {B : Nat} {y z : World} {v : Value} {l : List Int} (h : OwnI B y v l) (q : Tn F y z) (hF : ∀ k, F k → ¬ v.ownBlock = some k) : OwnI B z v l := by
  obtain ⟨h1, h2⟩ := h
  refine ⟨h1, h2.imp id ?_⟩
  rintro ⟨g, cap, cur, rfl, b, c, d⟩
  have c' : RowAt y g _ cur := c
  exact ⟨g, cap, cur, rfl, b, q.row c' (fun hf => hF g hf rfl), d⟩
/-- What a table's call leaves of a list of numbers. -/
theorem OwnI.tab {B : Nat} {w y z : World} {g : Nat} {p : Pt} {S : Nat → Sl} {v : Value} {l : List Int} (h : OwnI B y v l) (ht : TAt y g p S) (q : Tn (FT g S) y z) : OwnI B z v l := h.turned q (fun k hk => by
  obtain ⟨t, cs, h1, h2⟩ := ht.kind hk
  exact h.apart k t cs h1 h2)
theorem let_len : ∀ (l H : List Hd), (letS l H).2.length ≤ l.length
  | [], _ => Nat.le_refl _
  | h :: l, H => by
    unfold letS
    split
    · have := let_len l (putS h H)
      simp only [List.length_cons]; omega
    · simp
theorem put_len (h : Hd) : ∀ l : List Hd, (putS h l).length ≤ l.length + 1
  | [] => Nat.le_refl _
  | k :: l => by
    unfold putS
    split
    · have := put_len h l
      simp only [List.length_cons]; omega
    · split <;> simp
/-- Behind j of them. -/
structure LetAt (R H0 : List Hd) (j : Nat) (H : List Hd) : Prop where
  eq : letS R H0 = ((letS (R.drop j) H).1, (R.take j).map Hd.w ++ (letS (R.drop j) H).2)
  srt : SortW H
  len : H.length ≤ H0.length + j
theorem LetAt.start (R H0 : List Hd) (hs : SortW H0) : LetAt R H0 0 H0 := ⟨by simp, hs, Nat.le_refl _⟩
theorem LetAt.next {R H0 H : List Hd} {j : Nat} {m : Hd} (h : LetAt R H0 j H) (hm : R[j]? = some m) (hf : fitsS H m = true) : LetAt R H0 (j + 1) (putS m H) := by
  obtain ⟨hj, rfl⟩ := List.getElem?_eq_some_iff.1 hm
  refine ⟨?_, sort_put h.srt, ?_⟩
  · rw [h.eq, List.drop_eq_getElem_cons hj, letS, if_pos hf, take_snoc R j _ hm]
    simp only [List.map_append, List.map_cons, List.map_nil, List.append_assoc, List.cons_append, List.nil_append]
  · have := put_len R[j] H
    have := h.len
    omega
theorem LetAt.stop {R H0 H : List Hd} {j : Nat} (h : LetAt R H0 j H) (he : j = R.length ∨ ∃ m, R[j]? = some m ∧ fitsS H m = false) : letS R H0 = (H, (R.take j).map Hd.w) := by
  rw [h.eq]
  rcases he with rfl | ⟨m, hm, hf⟩
  · rw [List.drop_length]
    simp [letS]
  · obtain ⟨hj, rfl⟩ := List.getElem?_eq_some_iff.1 hm
    rw [List.drop_eq_getElem_cons hj, letS, if_neg (by rw [hf]; simp)]
    simp
/-- What letIn leaves. -/
def LetAns (w : World) (g : Nat) (p : Pt) (S : Nat → Sl) (x : Nat) (e : Ending) (w' : World) : Prop :=
  ∃ v, e = .returned v ∧ OwnI w.heap.size w' v (letS (p.row x) (p.had x)).2 ∧ Aft w g S ((p.setHad x (letS (p.row x) (p.had x)).1).setRow x ((p.row x).drop (letS (p.row x) (p.had x)).2.length)) w'
section
variable {w : World} {g : Nat} {p : Pt} {S : Nat → Sl} {x : Nat}
/-- The end of it: the row without those who got in. -/
theorem let_end (hx : x < 288) {wr w3 : World} {S' : Nat → Sl} {v : Value} {H : List Hd} {j : Nat} (hA : Aft1 (x * 2) w g S (p.setHad x H) wr) (hT' : TAt wr g (p.setHad x H) S') (hS' : Tn (FT g S) w wr ∧ ∀ k, FT g S' k → FT g S k ∨ w.heap.size ≤ k) (hO : OwnI w.heap.size wr v ((p.row x).take j |>.map Hd.w)) (hj : j ≤ (p.row x).length) (hL : letS (p.row x) (p.had x) = (H, ((p.row x).take j).map Hd.w))
    (hB : HB w3 (S' (x * 2 + 1)) ((p.row x).drop j)) (ht : Tn (ofS (S' (x * 2 + 1))) wr w3) : LetAns w g p S x (.returned v) (w3.setCell ⟨g, x * 2 + 1, none⟩ (slV (S' (x * 2 + 1)) ((p.row x).drop j).length)) := by
  have hput := hT'.put (p' := (p.setHad x H).setRow x ((p.row x).drop j)) (s := x * 2 + 1) (by omega) (S' (x * 2 + 1)) _ (fun t => sl_setRow _ x _ t) hB ht (fun q hq => .inl hq)
  obtain ⟨S2, a, b, c, _⟩ := hput
  refine ⟨v, rfl, ?_, ?_⟩
  · rw [hL]
    exact hO.tab (w := w) hT' b
  · rw [hL]
    have e : (List.map Hd.w (List.take j (p.row x))).length = j := by rw [List.length_map, List.length_take]; omega
    show Aft w g S ((p.setHad x H).setRow x (List.drop (List.map Hd.w (List.take j (p.row x))).length (p.row x))) _
    rw [e]
    refine ⟨S2, a, hS'.1.trans b hS'.2, fun k hk => ?_⟩
    rcases c k hk with h | h
    · exact hS'.2 k h
    · exact .inr (Nat.le_trans hS'.1.size h)
set_option maxRecDepth 8000 in
set_option maxHeartbeats 6400000 in
theorem letin13 (h : TAt w g p S) (hx : x < 288) (hs : SortW (p.had x)) (hl : (p.had x).length + (p.row x).length ≤ 1000000) : Calls Try.prog 63 #[.pointer (some ⟨g, x * 2, none⟩)] w (LetAns w g p S x) := by
  have H := hide h
  have c0 := h.rows hx
  have hcap := (h.rowB hx).cap
  have HS := hide hs
  obtain ⟨n, hn⟩ : ∃ n, n = (p.row x).length := ⟨_, rfl⟩
  have HN := hide hn
  unfold slV at c0
  rw [← hn] at hcap c0 hl
  clear hn h hs
  obtain ⟨ad, had⟩ : ∃ ad, ad = adr (S (x * 2 + 1)).b := ⟨_, rfl⟩
  have HAD := hide had
  rw [← had] at c0
  clear had
  obtain ⟨c, hc⟩ : ∃ c, c = (S (x * 2 + 1)).c := ⟨_, rfl⟩
  have HCC := hide hc
  rw [← hc] at c0 hcap
  clear hc
  have hnl : n ≤ 1000000 := by omega
  go_enter Try.func63, Try.ntmps63
  go_wp2
  clear c0
  go_loopw [3, 11] (fun v q wr => ∃ j : Nat, j ≤ n ∧ q = .int .i64 j ∧ Hid (∃ H, LetAt (p.row x) (p.had x) j H ∧ Aft1 (x * 2) w g S (p.setHad x H) wr ∧ OwnI w.heap.size wr v (((p.row x).take j).map Hd.w))) (fun _ q _ => n - (intOf q).toNat)
  case atStart => exact ⟨0, Nat.zero_le _, rfl, ⟨p.had x, LetAt.start _ _ HS.out, by rw [setHad_same]; exact Aft1.same H.out (Below.refl _ _), OwnI.nil _ _⟩⟩
  case round =>
    obtain ⟨j, hj, rfl, HR⟩ := hrel
    obtain ⟨H1, hLA, hA, hO⟩ := HR.out
    obtain ⟨av, cv, hav⟩ := hO.shape
    have hlj : (((p.row x).take j).map Hd.w).length = j := by rw [List.length_map, List.length_take]; have := HN.out; omega
    rw [hlj] at hav
    subst hav
    clear hlj
    obtain ⟨S', hT', hTn, hF', hSE⟩ := id hA
    have eS := hSE (x * 2 + 1) (by omega)
    have HSE2 := hide hSE
    have HLA := hide hLA
    have HA := hide hA
    have HO := hide hO
    have HT := hide hT'
    have HF := hide (And.intro hTn hF')
    have HSE := hide eS
    clear hLA hA hO hT' hTn hF' hSE HR eS
    have hEnd : ∀ (he : j = (p.row x).length ∨ ∃ m, (p.row x)[j]? = some m ∧ fitsS H1 m = false) (y : World) (hb : Below wr.heap.size wr y), ∃ S', TAt y g (p.setHad x H1) S' ∧ y.cell? ⟨g, x * 2 + 1, none⟩ = some (.slice ad n c) ∧ Calls Try.prog 77 #[.slice ad n c, .int .i64 0, .int .i64 (j : Int)] y (fun e w3 => ∃ m, e = .returned (.slice ad m c) ∧ RowAt w3 g 35 (tabA (p.setHad x H1).sl S') ∧ LetAns w g p S x (.returned (.slice av j cv)) (w3.setCell ⟨g, x * 2 + 1, none⟩ (.slice ad m c))) := by
      intro he y hb
      have hy := HT.out.later hb
      have hlen : (p.row x).length ≤ 1000000 := by have := HN.out; omega
      have hd := del13 y (S' (x * 2 + 1)) (p.row x) (hy.rowB hx) 0 j (Nat.zero_le _) (by have := HN.out; omega) hlen
      rw [HSE.out] at hd
      have ev : slV (S (x * 2 + 1)) (p.row x).length = .slice ad n c := by rw [HAD.out, HN.out, HCC.out]; rfl
      rw [ev] at hd
      have hcl := hy.rows hx
      rw [HSE.out] at hcl
      refine ⟨S', hy, hcl.trans (by rw [← ev]; rfl), hd.mono ?_⟩
      rintro e w3 ⟨rfl, hB, hT3⟩
      rw [List.take_zero, List.nil_append] at hB ⊢
      refine ⟨((p.row x).drop j).length, by rw [HAD.out, HCC.out]; rfl, ?_, ?_⟩
      · rw [← HSE.out] at hT3
        exact hT3.row hy.row (hy.off (s := x * 2 + 1) (by omega))
      · have hA2 : Aft1 (x * 2) w g S (p.setHad x H1) y := HA.out.side (Tn.of_below (F := fun _ => False) hb) (fun k hk => hk.elim) (fun _ _ _ _ _ hk => hk)
        have := let_end (w := w) (S := S) (p := p) (H := H1) hx hA2 hy ⟨HF.out.1.later hb, HF.out.2⟩ (HO.out.later hb) (by have := HN.out; omega) (HLA.out.stop he) (by rw [HSE.out]; exact hB) (by rw [HSE.out]; exact hT3)
        rw [HSE.out] at this
        have e2 : slV (S (x * 2 + 1)) ((p.row x).drop j).length = .slice ad ((p.row x).drop j).length c := by rw [HAD.out, HCC.out]; rfl
        rw [e2] at this
        exact this
    have HEND := hide hEnd
    clear hEnd
    by_cases hlt : j < n
    · have i1 : (j : Int) < n := by omega
      obtain ⟨m, hmm⟩ : ∃ m, (p.row x)[j]? = some m := ⟨_, List.getElem?_eq_getElem (by have := HN.out; omega)⟩
      obtain ⟨b, hb0, hbl, c0, c1, c2⟩ := (HT.out.rowB hx).at hmm
      have hmeq := HAD.out
      rw [← HSE.out, hb0] at hmeq
      have hmeq2 : ad = some ⟨b, 0, none⟩ := hmeq
      subst hmeq2
      have HLD := hide (load_hold c0 c1 c2)
      have HMM := hide hmm
      clear hmm hmeq hb0 c0 c1 c2 hbl
      go_wp2_with (with_reducible refine stop_at 14 rfl ?_)
      refine unstop10 ?_
      refine lst_load (some 14) (.agg (hdA m)) rfl rfl 46 (.tmp 13) rfl _ rfl (HLD.out) ?_
      simp only [Act.put, Array.setIfInBounds, List.size_toArray, List.length_cons, List.length_nil, Nat.reduceAdd, Nat.reduceLT, ↓reduceDIte, List.set_toArray, List.set_cons_succ, List.set_cons_zero]
      refine lst_run (some 5) rfl rfl (.pointer (some ⟨wr.heap.size, 0, none⟩)) (wr.alloc (.cells zeroH 46)) (by go_simp; rfl) ?_
      simp only [Act.put, Array.setIfInBounds, List.size_toArray, List.length_cons, List.length_nil, Nat.reduceAdd, Nat.reduceLT, ↓reduceDIte, List.set_toArray, List.set_cons_succ, List.set_cons_zero]
      refine wpList_store_part rfl 46 (.tmp 5) (.tmp 14) rfl wr.heap.size 0 46 zeroH (hdA m) rfl rfl (RowAt.new wr _ _) infoHs (by show 0 + 3 ≤ 3; omega) (hdA_one m) ?_
      intro w2 h21 h22
      rw [partA_all zeroH (hdA m) rfl] at h21
      have b2 : Below wr.heap.size wr w2 := h22.below ((Below.refl wr.heap.size wr).alloc (Nat.le_refl _) (.cells zeroH 46)) (Nat.le_refl _)
      simp only [Act.put]
      have HW2 := hide (And.intro (HT.out.later b2) (And.intro b2 h21))
      obtain ⟨gv, hgv⟩ : ∃ gv, gv = wr.heap.size := ⟨_, rfl⟩
      have HGV := hide hgv
      rw [← hgv] at h21 ⊢
      have d0 := h21.cell 0 (.int .i64 m.w) rfl
      have d1 := h21.cell 1 (.int .i64 m.x) rfl
      have d2 := h21.cell 2 (.int .i64 m.m) rfl
      have hlen1 : H1.length ≤ 1000000 := by have := HLA.out.len; have := HN.out; omega
      have ehad : (p.setHad x H1).had x = H1 := setF_same _ _ _
      have HFT := hide (show Calls Try.prog 46 #[.pointer (some ⟨g, x * 2, none⟩), .agg (hdA m)] w2 fun e w' => e = .returned (.bool (fitsS H1 m)) ∧ Below w2.heap.size w2 w' from by
        have := fits13 HW2.out.1 hx (by rw [ehad]; exact hlen1) m
        rw [ehad] at this
        exact this)
      unfold hdA at HFT
      clear h21 h22 b2 HLD hgv
      cases hq : fitsS H1 m with
      | false =>
        rw [hq] at HFT
        have HQ := hide hq
        clear hq
        go_wp2_with fail
        refine HFT.out.mono ?_
        rintro e w3 ⟨rfl, hb3⟩
        have hbb : Below wr.heap.size wr w3 := HW2.out.2.1.trans (hb3.mono HW2.out.2.1.size)
        obtain ⟨S2, hy, r0, hdel⟩ := HEND.out (.inr ⟨m, HMM.out, HQ.out⟩) w3 hbb
        have HD := hide hdel
        clear hdel hb3 hbb d0 d1 d2 HFT HEND HW2 HLA HA HO HF HT
        go_wp2_with fail
        refine HD.out.mono ?_
        rintro e w4 ⟨mm, rfl, hr4, hans⟩
        have hc4 := hr4.cell (x * 2 + 1) _ (tabA_get _ _ (by omega))
        have hf4 := hr4.free (x * 2 + 1)
        have HANS := hide hans
        generalize slV (S2 (x * 2 + 1)) ((p.setHad x H1).sl (x * 2 + 1)).length = o1 at hc4
        clear hr4 hans HD r0 hy
        go_wp2
        go_ret
        exact HANS.out
      | true =>
        rw [hq] at HFT
        have HQ := hide hq
        clear hq
        go_wp2_with fail
        refine HFT.out.mono ?_
        rintro e w3 ⟨rfl, hb3⟩
        have hT3 := HW2.out.1.later hb3
        have ehad : (p.setHad x H1).had x = H1 := setF_same _ _ _
        have hlen1 : H1.length ≤ 1000000 := by have := HLA.out.len; have := HN.out; omega
        have HG := hide (show Calls Try.prog 47 #[.pointer (some ⟨g, x * 2, none⟩), .agg (hdA m)] w3 fun e w' => (∃ v, e = .returned v) ∧ Aft1 (x * 2) w3 g S' (p.setHad x (putS m H1)) w' from by
          have := give13 hT3 hx (by rw [ehad]; exact HLA.out.srt) (by rw [ehad]; exact hlen1) m
          rw [ehad, setHad_setHad] at this
          exact this)
        unfold hdA at HG
        have hgv3 : RowAt w3 gv 46 (hdA m) := by
          have h := HW2.out.2.2
          rw [← HGV.out] at h
          exact h.later hb3
        have HW3 := hide (And.intro hT3 (And.intro hgv3 (HW2.out.2.1.trans (hb3.mono HW2.out.2.1.size))))
        have d0 := hgv3.cell 0 (.int .i64 m.w) rfl
        have d1 := hgv3.cell 1 (.int .i64 m.x) rfl
        have d2 := hgv3.cell 2 (.int .i64 m.m) rfl
        clear hb3 hT3 hgv3 HFT HEND HW2 hlen1 ehad
        go_wp2_with fail
        refine HG.out.mono ?_
        rintro e w4 ⟨⟨vv, rfl⟩, hA4⟩
        obtain ⟨S4, hT4, hTn4, hF4, hS4⟩ := id hA4
        have hgv4 : RowAt w4 gv 46 (hdA m) := hTn4.row HW3.out.2.1 (fun hk => by
          have h1 := HT.out.lt hk
          have h2 := HGV.out
          omega)
        have hO4 : OwnI w.heap.size w4 (.slice av j cv) (((p.row x).take j).map Hd.w) := (HO.out.later HW3.out.2.2).tab (w := w) HW3.out.1 hTn4
        have b5 : Below w4.heap.size w4 (w4.alloc (.cells #[.int .i64 m.w] 3)) := (Below.refl w4.heap.size w4).alloc (Nat.le_refl _) _
        have hcell : (w4.alloc (.cells #[.int .i64 m.w] 3)).cell? ⟨w4.heap.size, 0, none⟩ = some (.int .i64 m.w) := (RowAt.new w4 3 #[.int .i64 m.w]).cell 0 _ rfl
        have hO5 := hO4.later b5
        have hlj : (((p.row x).take j).map Hd.w).length = j := by rw [List.length_map, List.length_take]; have := HN.out; omega
        have hw4 : w.heap.size ≤ w4.heap.size := Nat.le_trans HF.out.1.size (Nat.le_trans HW3.out.2.2.size hTn4.size)
        obtain ⟨v', w6, ha, hO6, hT6⟩ := hO5.push m.w w4.heap.size 1 hcell (Nat.le_trans hw4 b5.size) (by rw [hlj]; omega) 50
        have f0 := hgv4.cell 0 (.int .i64 m.w) rfl
        have hA0 : Aft1 (x * 2) w g S (p.setHad x H1) w3 := HA.out.side (Tn.of_below (F := fun _ => False) HW3.out.2.2) (fun k hk => hk.elim) (fun _ _ _ _ _ hk => hk)
        have hA1 : Aft1 (x * 2) w g S (p.setHad x (putS m H1)) w4 := ⟨S4, hT4, (HF.out.1.later HW3.out.2.2).trans hTn4 HF.out.2, fun k hk => by
          rcases hF4 k hk with h | h
          · exact HF.out.2 k h
          · exact .inr (Nat.le_trans (Nat.le_trans HF.out.1.size HW3.out.2.2.size) h), fun t ht => by
          rw [hS4 t ht]
          exact HSE2.out t ht⟩
        have hA2 : Aft1 (x * 2) w g S (p.setHad x (putS m H1)) (w4.alloc (.cells #[.int .i64 m.w] 3)) := hA1.side (Tn.of_below (F := fun _ => False) b5) (fun k hk => hk.elim) (fun _ _ _ _ _ hk => hk)
        have hA3 : Aft1 (x * 2) w g S (p.setHad x (putS m H1)) w6 := hA2.side hT6 (fun k hk => (hO5.block hk).1) hO5.apart
        have hmap : List.map Hd.w (List.take (j + 1) (p.row x)) = List.map Hd.w (List.take j (p.row x)) ++ [m.w] := by rw [take_snoc _ _ _ HMM.out]; simp only [List.map_append, List.map_cons, List.map_nil]
        rw [← hmap] at hO6
        have HR4 := hide (show ∃ H, LetAt (p.row x) (p.had x) (j + 1) H ∧ Aft1 (x * 2) w g S (p.setHad x H) w6 ∧ OwnI w.heap.size w6 v' (((p.row x).take (j + 1)).map Hd.w) from ⟨_, HLA.out.next HMM.out HQ.out, hA3, hO6⟩)
        clear d0 d1 d2 HG hgv4 b5 hcell hO4 hO5 hlj hO6 hT6 hA0 hA1 hA2 hA3 hmap hw4 hA4 hT4 hTn4 hF4 hS4 HW3
        go_wp2_with (at_builtin; refine Lib.wpList_append_run _ rfl _ _ _ _ rfl _ _ rfl rfl _ _ ha ?_)
        go_roundw
        case rel => exact ⟨j + 1, by omega, by go_num, HR4⟩
        case measure => simp [intOf]; omega
    · have i1 : ¬ (j : Int) < n := by omega
      obtain ⟨S2, hy, r0, hdel⟩ := HEND.out (.inl (by have := HN.out; omega)) wr (Below.refl _ _)
      have HD := hide hdel
      clear hdel HEND HLA HA HO HF HT
      go_wp2_with fail
      refine HD.out.mono ?_
      rintro e w4 ⟨mm, rfl, hr4, hans⟩
      have hc4 := hr4.cell (x * 2 + 1) _ (tabA_get _ _ (by omega))
      have hf4 := hr4.free (x * 2 + 1)
      have HANS := hide hans
      generalize slV (S2 (x * 2 + 1)) ((p.setHad x H1).sl (x * 2 + 1)).length = o1 at hc4
      clear hr4 hans HD r0 hy
      go_wp2
      go_ret
      exact HANS.out
end
end Go.Proofs.Ytmlbghloddiflaa
