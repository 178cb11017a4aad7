/-
  The contract of Behind: whom one who waits has to go behind, rising.
-/
import Derived.Test.YtmlbghloddiflaaLkSort
namespace Go.Proofs.Ytmlbghloddiflaa
open Go.RowKit
set_option linter.unusedVariables false

theorem beh_none {t : Tb} {who : Int} (h : t.wt who = none) : t.behL who = [] := by
  cases e : t.behL who with
  | nil => rfl
  | cons b l =>
    have hb : b ∈ t.behL who := by rw [e]; exact List.mem_cons_self ..
    obtain ⟨k, hk, _⟩ := (beh_iff _ _ _).1 (mem_behL.1 hb)
    rw [h] at hk
    cases hk
theorem beh_list {t : Tb} {p : Pt} {N : Nat} (hp : PtOk t p N) {x : Nat} (hx : x < 288) {k : Hd} (hk : k ∈ p.row x) : Go.Lib.compact ((barL (p.had x) k ++ (aheadS (p.row x) k).map Hd.w).mergeSort fun x y => decide (x ≤ y)) = t.behL k.w := by
  have hs := sort_rises (barL (p.had x) k ++ (aheadS (p.row x) k).map Hd.w)
  have hm := hp.mem hx hk
  refine rises_same hs.1 (rises_behL t k.w) (fun a => ?_)
  rw [hs.2, mem_behL, hp.rep.beh hp.tok hm.1 hx hm.2, List.mem_append, List.mem_map]
section
variable {w : World} {g : Nat} {t : Tb} {N : Nat} {F : Nat → Prop}
set_option maxRecDepth 8000 in
set_option maxHeartbeats 12800000 in
theorem kbehind (hk : Kt w g t N F) (hN : N ≤ 3000) (who : Int) : Calls Try.prog 20 #[.pointer (some ⟨g, 0, none⟩), .int .i64 who] w fun e w' => ∃ v, e = .returned v ∧ OwnI w.heap.size w' v (t.behL who) ∧ Below w.heap.size w w' := by
  have HKW := hide (kwaits hk hN who)
  obtain ⟨p, S, h, hp, _, rfl⟩ := hk
  have H := hide h
  have HP := hide hp
  clear h hp
  cases hwt : t.wt who with
  | none =>
    rw [hwt] at HKW
    have HE := hide (beh_none hwt)
    clear hwt
    go_enter Try.func20, Try.ntmps20
    go_wp2_with fail
    refine HKW.out.mono ?_
    rintro e w1 ⟨rfl, hb⟩
    have HB := hide hb
    clear hb HKW
    go_wp2_with (with_reducible refine stop_at 5 rfl ?_)
    refine unstop10 ?_
    refine lst_run (some 5) rfl rfl (.pointer (some ⟨w1.heap.size, 0, none⟩)) (w1.alloc (.cells zeroH 46)) (by go_simp; rfl) ?_
    simp only [Act.put, Array.setIfInBounds, List.size_toArray, List.length_cons, List.length_nil, Nat.reduceAdd, Nat.reduceLT, ↓reduceDIte, List.set_toArray, List.set_cons_succ, List.set_cons_zero]
    refine wpList_store_part rfl 46 (.tmp 5) (.tmp 15) rfl w1.heap.size 0 46 zeroH (hdA hdZ) rfl rfl (RowAt.new w1 _ _) infoHs (by show 0 + 3 ≤ 3; omega) (hdA_one hdZ) ?_
    intro w2 h21 h22
    simp only [Act.put]
    have b2 : Below w1.heap.size w1 w2 := h22.below ((Below.refl w1.heap.size w1).alloc (Nat.le_refl _) (.cells zeroH 46)) (Nat.le_refl _)
    have HB3 := hide (HB.out.trans (b2.mono HB.out.size))
    clear h21 h22 b2
    go_wp2
    go_ret
    exact ⟨_, rfl, by rw [HE.out]; exact OwnI.nil _ _, HB3.out⟩
  | some k =>
    rw [hwt] at HKW
    obtain ⟨hkr, hkw⟩ := wt_some hwt
    obtain ⟨h4, h5⟩ := thing_nat (HP.out.tok.rk k hkr).2.1
    obtain ⟨x, hxd⟩ : ∃ x, x = k.x.toNat := ⟨_, rfl⟩
    rw [← hxd] at h4 h5
    have hkp : k ∈ p.row x := by rw [HP.out.rep.row x h4]; exact mem_que.2 ⟨hkr, h5⟩
    obtain ⟨i, hst⟩ := stands_of hkp
    have HLI := hide (beh_list HP.out h4 hkp)
    rw [hkw, hst.ahead] at HLI
    have hil := (List.getElem?_eq_some_iff.1 hst.at').1
    have hlen := HP.out.len x h4
    obtain ⟨b, hb0, _⟩ := (H.out.rowB h4).at hst.at'
    have hcap := (H.out.rowB h4).cap
    have HAH := hide (fun y (hy : TAt y g p S) => ahead13 hy h4 k i (HP.out.fine h4 hkp).1 (fun q hq => (HP.out.fine h4 hq).1) hst.at' hst.first (by omega))
    rw [slV_some hb0] at HAH
    have HBA := hide (fun y (hy : TAt y g p S) => barring13 hy h4 k (by omega))
    have HB0 := hide hb0
    have HX := hide (And.intro h5 (And.intro hil hlen))
    have HAT := hide (fun y => at13 g y x h4)
    have hic : i ≤ (S (x * 2 + 1)).c := by omega
    have hi6 : i ≤ 1000000 := by omega
    clear hwt hkr hkw hxd hkp hst h5 hil hlen hb0 hcap
    generalize (S (x * 2 + 1)).c = c at *
    go_enter Try.func20, Try.ntmps20
    go_wp2_with fail
    refine HKW.out.mono ?_
    rintro e w1 ⟨rfl, hb⟩
    have HB := hide hb
    clear hb HKW
    go_wp2_with (with_reducible refine stop_at 5 rfl ?_)
    refine unstop10 ?_
    refine lst_run (some 5) rfl rfl (.pointer (some ⟨w1.heap.size, 0, none⟩)) (w1.alloc (.cells zeroH 46)) (by go_simp; rfl) ?_
    simp only [Act.put, Array.setIfInBounds, List.size_toArray, List.length_cons, List.length_nil, Nat.reduceAdd, Nat.reduceLT, ↓reduceDIte, List.set_toArray, List.set_cons_succ, List.set_cons_zero]
    refine wpList_store_part rfl 46 (.tmp 5) (.tmp 15) rfl w1.heap.size 0 46 zeroH (hdA k) rfl rfl (RowAt.new w1 _ _) infoHs (by show 0 + 3 ≤ 3; omega) (hdA_one k) ?_
    intro w2 h21 h22
    rw [partA_all zeroH (hdA k) rfl] at h21
    simp only [Act.put]
    have b2 : Below w1.heap.size w1 w2 := h22.below ((Below.refl w1.heap.size w1).alloc (Nat.le_refl _) (.cells zeroH 46)) (Nat.le_refl _)
    have hb3 : Below w.heap.size w w2 := HB.out.trans (b2.mono HB.out.size)
    obtain ⟨gv, hgv⟩ : ∃ gv, gv = w1.heap.size := ⟨_, rfl⟩
    rw [← hgv] at h21 ⊢
    have HC2 := hide (show CB w g p S gv (hdA k) w2 from ⟨H.out.later hb3, h21, hb3⟩)
    have d0 := h21.cell 0 (.int .i64 k.w) rfl
    have d1 := h21.cell 1 (.int .i64 k.x) rfl
    have d2 := h21.cell 2 (.int .i64 k.m) rfl
    rw [HX.out.1] at d1
    have HA3 := hide (show hdA k = #[.int .i64 k.w, .int .i64 (x : Int), .int .i64 k.m] from by unfold hdA; rw [HX.out.1])
    rw [HA3.out] at HAH HBA
    clear h21 h22 b2 hb3 hgv
    go_wp2_with fail
    refine (HAT.out _).mono ?_
    rintro e w0 ⟨rfl, rfl⟩
    go_wp2_with fail
    refine (HBA.out w2 HC2.out.1).mono ?_
    rintro e w3 ⟨v, rfl, hO, hb⟩
    have HC3 := hide (HC2.out.later hb)
    have HO3 := hide (hO.weak HC2.out.2.2.size)
    have d0 := HC3.out.2.1.cell 0 (.int .i64 k.w) rfl
    have d1 := HC3.out.2.1.cell 1 (.int .i64 k.x) rfl
    have d2 := HC3.out.2.1.cell 2 (.int .i64 k.m) rfl
    rw [HX.out.1] at d1
    clear hO hb HC2 HBA
    go_wp2_with fail
    refine (HAH.out w3 HC3.out.1).mono ?_
    rintro e w4 ⟨rfl, hb⟩
    have H4 := hide (show (TAt w4 g p S ∧ Below w.heap.size w w4) ∧ OwnI w.heap.size w4 v (barL (p.had x) k ++ ((p.row x).take 0).map Hd.w) from ⟨⟨HC3.out.1.later hb, (HC3.out.later hb).2.2⟩, by rw [List.take_zero, List.map_nil, List.append_nil]; exact HO3.out.later hb⟩)
    clear d0 d1 d2 hb HC3 HO3 HAH
    go_wp2
    go_loopw [8, 30] (fun v q wr => ∃ j : Nat, j ≤ i ∧ q = .int .i64 j ∧ Hid ((TAt wr g p S ∧ Below w.heap.size w wr) ∧ OwnI w.heap.size wr v (barL (p.had x) k ++ ((p.row x).take j).map Hd.w))) (fun _ q _ => i - (intOf q).toNat)
    case atStart => exact ⟨0, Nat.zero_le _, rfl, H4⟩
    case round =>
      obtain ⟨j, hj, rfl, HR⟩ := hrel
      by_cases hlt : j < i
      · have i1 : (j : Int) < i := by omega
        obtain ⟨m, hmm⟩ : ∃ m, (p.row x)[j]? = some m := ⟨_, List.getElem?_eq_getElem (by have := HX.out.2.1; omega)⟩
        obtain ⟨b', hb', hbl, c0, c1, c2⟩ := (HR.out.1.1.rowB h4).at hmm
        have : b' = b := by
          have e := HB0.out
          rw [hb'] at e
          injection e
        subst this
        have HLD := hide (load_hold c0 c1 c2)
        have HT := hide (take_snoc _ _ _ hmm)
        clear hmm hb' c0 c1 c2 hbl
        go_wp2_with (with_reducible refine stop_at 33 rfl ?_)
        refine unstop10 ?_
        refine lst_load (some 33) (.agg (hdA m)) rfl rfl 46 (.tmp 32) rfl _ rfl (HLD.out) ?_
        simp only [Act.put, Array.setIfInBounds, List.size_toArray, List.length_cons, List.length_nil, Nat.reduceAdd, Nat.reduceLT, ↓reduceDIte, List.set_toArray, List.set_cons_succ, List.set_cons_zero]
        refine lst_run (some 10) rfl rfl (.pointer (some ⟨wr.heap.size, 0, none⟩)) (wr.alloc (.cells zeroH 46)) (by go_simp; rfl) ?_
        simp only [Act.put, Array.setIfInBounds, List.size_toArray, List.length_cons, List.length_nil, Nat.reduceAdd, Nat.reduceLT, ↓reduceDIte, List.set_toArray, List.set_cons_succ, List.set_cons_zero]
        refine wpList_store_part rfl 46 (.tmp 10) (.tmp 33) rfl wr.heap.size 0 46 zeroH (hdA m) rfl rfl (RowAt.new wr _ _) infoHs (by show 0 + 3 ≤ 3; omega) (hdA_one m) ?_
        intro w5 h21 h22
        rw [partA_all zeroH (hdA m) rfl] at h21
        have b2 : Below wr.heap.size wr w5 := h22.below ((Below.refl wr.heap.size wr).alloc (Nat.le_refl _) (.cells zeroH 46)) (Nat.le_refl _)
        simp only [Act.put]
        have d0 := h21.cell 0 (.int .i64 m.w) rfl
        have b5 : Below w5.heap.size w5 (w5.alloc (.cells #[.int .i64 m.w] 3)) := (Below.refl w5.heap.size w5).alloc (Nat.le_refl _) _
        have hcell : (w5.alloc (.cells #[.int .i64 m.w] 3)).cell? ⟨w5.heap.size, 0, none⟩ = some (.int .i64 m.w) := (RowAt.new w5 3 #[.int .i64 m.w]).cell 0 _ rfl
        have hO5 := (HR.out.2.later b2).later b5
        have hB5 := HR.out.1.2.trans ((b2.trans (b5.mono b2.size)).mono HR.out.1.2.size)
        have hT5 := (HR.out.1.1.later b2).later b5
        have hblen : (barL (p.had x) k ++ ((p.row x).take j).map Hd.w).length ≤ 100000000 := by
          have h1 := bar_len (p.had x) k
          have h2 := HX.out.2.2
          rw [List.length_append, List.length_map, List.length_take]
          omega
        obtain ⟨v', w6, ha, hO6, hT6⟩ := hO5.push m.w w5.heap.size 1 hcell hB5.size hblen 50
        obtain ⟨gw, hgw⟩ : ∃ gw, gw = wr.heap.size := ⟨_, rfl⟩
        rw [← hgw] at d0 ⊢
        have HR6 := hide (show (TAt w6 g p S ∧ Below w.heap.size w w6) ∧ OwnI w.heap.size w6 v' (barL (p.had x) k ++ ((p.row x).take (j + 1)).map Hd.w) from ⟨⟨hT5.turn hT6 (fun q hq e => by
          have h1 := (hO5.block e).1
          have h2 := H.out.lt hq
          omega), hB5.trans (hT6.below (fun q hq => (hO5.block hq).1) hB5.size)⟩, by rw [HT.out, List.map_append, ← List.append_assoc]; exact hO6⟩)
        clear h21 h22 b2 HLD hgw b5 hcell hO5 hB5 hT5 hblen hO6 hT6 HT HR
        go_wp2_with (at_builtin; refine Lib.wpList_append_run _ rfl _ _ _ _ rfl _ _ rfl rfl _ _ ha ?_)
        go_roundw
        case rel => exact ⟨j + 1, by omega, by go_num, HR6⟩
        case measure => simp [intOf]; omega
      · have i1 : ¬ (j : Int) < i := by omega
        obtain rfl : j = i := by omega
        obtain ⟨l, hl⟩ : ∃ l, l = barL (p.had x) k ++ ((p.row x).take j).map Hd.w := ⟨_, rfl⟩
        have hll : l.length ≤ 1000000 := by
          have h1 := bar_len (p.had x) k
          have h2 := HX.out.2.2
          rw [hl, List.length_append, List.length_map, List.length_take]
          omega
        rw [← hl] at HR HLI
        have HSO := hide (sorted13 HR.out.2 hll)
        have HLL := hide hll
        clear hl hll
        go_wp2_with fail
        refine HSO.out.mono ?_
        rintro e w5 ⟨rfl, hO5, hT5⟩
        have HB5 := hide (HR.out.1.2.trans (hT5.below (fun q hq => (HR.out.2.block hq).1) HR.out.1.2.size))
        have HO5 := hide hO5
        have HCO := hide (compacted13 hO5 (by rw [List.length_mergeSort]; exact HLL.out))
        rw [HLI.out] at HCO
        clear hO5 hT5 HSO HR
        go_wp2_with fail
        refine HCO.out.mono ?_
        rintro e w6 ⟨v6, rfl, hO6, hT6⟩
        have HE := hide (And.intro hO6 (HB5.out.trans (hT6.below (fun q hq => (HO5.out.block hq).1) HB5.out.size)))
        clear hO6 hT6 HCO
        go_wp2
        go_ret
        exact ⟨_, rfl, HE.out⟩
end
end Go.Proofs.Ytmlbghloddiflaa
