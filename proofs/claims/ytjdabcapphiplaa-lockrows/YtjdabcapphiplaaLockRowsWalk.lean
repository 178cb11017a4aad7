/-
  The walk of LockRows: it returns true, and turns nothing that was there.
-/
import Derived.Test.YtjdabcapphiplaaLkRows
namespace Go.Proofs.Ytjdabcapphiplaa.lockRows
open Go.RowKit
set_option linter.unusedVariables false

/-- A mode that came in. -/
theorem mode_at {w : World} {a : Option Addr} {n c : Nat} {ms : List Int} (h : RowsIn i64A 0 1 w (.slice a n c) ms) {j : Nat} (hj : j < ms.length) : ∃ b off m, a = some ⟨b, off, none⟩ ∧ ms[j]? = some m ∧ ∀ y, Below w.heap.size w y → y.cell? ⟨b, off + j, none⟩ = some (.int .i64 m) := by
  obtain ⟨a', cap', e, h2⟩ := h
  injection e with e1 e2 e3
  subst e1
  obtain ⟨b, off, h3, h4, h5⟩ := h2 (by omega)
  refine ⟨b, off, ms[j], h3, List.getElem?_eq_getElem hj, fun y hb => ?_⟩
  have h6 := rangeAt_below (h5 j hj) hb h4
  have hg : ms.getD j 0 = ms[j] := by rw [List.getD_eq_getElem?_getD, List.getElem?_eq_getElem hj]; rfl
  rw [hg] at h6
  have h7 := h6 0 _ rfl
  simpa using h7
theorem rowL_len (x : Int) : ∀ (l : List Int) (i : Nat), (rowL x i l).length ≤ l.length
  | [], _ => Nat.le_refl _
  | m :: l, i => by
    rw [rowL_cons]
    have := rowL_len x l (i + 1)
    split
    · simp only [List.length_cons]; omega
    · simp only [List.length_cons]; omega
theorem len_at {w : World} {a : Option Addr} {n c : Nat} {ms : List Int} (h : RowsIn i64A 0 1 w (.slice a n c) ms) : n = ms.length := by
  obtain ⟨a', cap', e, h2⟩ := h
  injection e
/-- What stands at the head of the second loop. -/
structure Turn (w : World) (g : Nat) (x : Int) (ag : Option Addr) (cg : Nat) (ar : Option Addr) (cr : Nat) (G R : List Hd) (F : Nat → Prop) (y : World) : Prop where
  tab : K13 w y g ⟨G, R⟩ 100 F
  alone : Alone x G R
  few : (G ++ R).length ≤ 20
  got : OwnI w.heap.size y (.slice ag G.length cg) (G.map Hd.w)
  row : 0 < (G ++ R).length → ∃ b off, ar = some ⟨b, off, none⟩ ∧ RowS y b off cr ((G ++ R).map Hd.w)
theorem freeAll_few {x : Int} (hx : thingOk x = true) {G R : List Hd} (ha : Alone x G R) (i : Nat) : (freeAll ((G.map Hd.w).take i) ⟨G, R⟩).2.length ≤ R.length := by
  obtain ⟨L1, L2, h1, h2, _⟩ := freeAll_line hx (G.take i) (G.drop i) R (by rw [List.take_append_drop]; exact ha)
  rw [List.take_append_drop, List.map_take] at h2
  rw [h2, h1]
  simp only [List.length_map, List.length_append]
  omega
/-- What stands at the head of the third loop. -/
structure Inn (w : World) (g B b1 cg b off cr : Nat) (G R : List Hd) (i : Nat) (v : Value) (F : Nat → Prop) (y : World) : Prop where
  tab : K13 w y g (freeAll ((G.map Hd.w).take i) ⟨G, R⟩).1 100 F
  out : OwnI B y v (freeAll ((G.map Hd.w).take i) ⟨G, R⟩).2
  size : w.heap.size ≤ B ∧ B ≤ y.heap.size
  low : b1 < B ∧ b < B
  got : RowS y b1 0 cg (G.map Hd.w)
  row : RowS y b off cr ((G ++ R).map Hd.w)
section
variable {w : World} {g B b1 cg b off cr : Nat} {x : Int} {G R : List Hd} {i : Nat} {v : Value} {F : Nat → Prop} {y : World}
theorem Inn.first (h : K13 w y g ⟨G, R⟩ 100 F) (h1 : RowS y b1 0 cg (G.map Hd.w)) (h2 : RowS y b off cr ((G ++ R).map Hd.w)) : Inn w g y.heap.size b1 cg b off cr G R 0 (.slice none 0 0) F y := by
  obtain ⟨c1, r1⟩ := h1.row
  obtain ⟨c2, r2⟩ := h2.row
  exact ⟨h, OwnI.nil _ _, ⟨h.bel.size, Nat.le_refl _⟩, ⟨r1.lt, r2.lt⟩, h1, h2⟩
theorem Inn.step (h : Inn w g B b1 cg b off cr G R i v F y) (hx : thingOk x = true) (ha : Alone x G R) (hi : i < G.length) (hf : R.length ≤ 20) {v2 : Value} {z : World} (hO : OwnI y.heap.size z v2 ((freeAll ((G.map Hd.w).take i) ⟨G, R⟩).1.free ((G.map Hd.w).getD i 0)).2) (hA : Kaft y g F ((freeAll ((G.map Hd.w).take i) ⟨G, R⟩).1.free ((G.map Hd.w).getD i 0)).1 100 z) :
    ∃ v' z', (Builtin.append_ #[50, 50] 50 #[v, v2]).run Try.prog z = .ok v' z' ∧ ∃ F', Inn w g B b1 cg b off cr G R (i + 1) v' F' z' := by
  have hl : i < (G.map Hd.w).length := by rw [List.length_map]; exact hi
  have et : (G.map Hd.w).take (i + 1) = (G.map Hd.w).take i ++ [(G.map Hd.w).getD i 0] := by
    rw [List.take_succ_eq_append_getElem hl, List.getD_eq_getElem?_getD, List.getElem?_eq_getElem hl]
    rfl
  have e := freeAll_snoc ((G.map Hd.w).take i) ((G.map Hd.w).getD i 0) ⟨G, R⟩
  rw [← et] at e
  have e1 : (freeAll ((G.map Hd.w).take (i + 1)) ⟨G, R⟩).1 = ((freeAll ((G.map Hd.w).take i) ⟨G, R⟩).1.free ((G.map Hd.w).getD i 0)).1 := by rw [e]
  have e2 : (freeAll ((G.map Hd.w).take (i + 1)) ⟨G, R⟩).2 = (freeAll ((G.map Hd.w).take i) ⟨G, R⟩).2 ++ ((freeAll ((G.map Hd.w).take i) ⟨G, R⟩).1.free ((G.map Hd.w).getD i 0)).2 := by rw [e]
  have hn := freeAll_few hx ha (i + 1)
  rw [e2, List.length_append] at hn
  obtain ⟨F', hK, hTn, -⟩ := h.tab.aft hA
  have hv := h.out.kt h.tab.tab hTn
  have hBz : B ≤ z.heap.size := Nat.le_trans h.size.2 hTn.size
  obtain ⟨v', z', r, hO', hT⟩ := hv.join (hO.weak h.size.2) hBz (by omega) 50
  have hs := hT.size
  have h1 := h.low.1
  have h2 := h.low.2
  refine ⟨v', z', r, F', ?_, ?_, ⟨h.size.1, Nat.le_trans hBz hs⟩, h.low, (h.got.kt h.tab.tab hTn).keep (hT.block b1 (by omega) (fun q => ?_)), (h.row.kt h.tab.tab hTn).keep (hT.block b (by omega) (fun q => ?_))⟩
  · rw [e1]
    refine ⟨hK.tab.turn hT (fun k hk q => ?_), hK.new, hK.bel.trans (hT.below (fun k hk => Nat.le_trans h.size.1 (hv.block hk).1) hK.bel.size)⟩
    obtain ⟨_, cs, q1⟩ := hv.block q
    exact hK.tab.kind q1 hk
  · rw [e2]
    exact hO'
  · have := (hv.block q).1
    omega
  · have := (hv.block q).1
    omega
theorem Inn.done (h : Inn w g B b1 cg b off cr G R G.length v F y) (hx : thingOk x = true) (ha : Alone x G R) (hf : (G ++ R).length ≤ 20) {ar : Option Addr} (har : 0 < R.length → ar = some ⟨b, off + G.length, none⟩) :
    ∃ L1 L2, R.length = L1.length + L2.length ∧ ∃ a c, v = .slice a L1.length c ∧ ∃ F, Turn w g x a c ar (cr - G.length) L1 L2 F y := by
  obtain ⟨L1, L2, h1, h2, h3⟩ := freeAll_line hx G [] R (by rw [List.append_nil]; exact ha)
  rw [List.append_nil, List.nil_append] at h2
  rw [List.nil_append] at h3
  have et : (G.map Hd.w).take G.length = G.map Hd.w := List.take_of_length_le (by rw [List.length_map]; exact Nat.le_refl _)
  have hK := h.tab
  have hO := h.out
  rw [et, h2] at hK hO
  obtain ⟨a, c, hac⟩ := hO.shape
  rw [List.length_map] at hac
  subst hac
  refine ⟨L1, L2, by rw [h1, List.length_append], a, c, rfl, F, hK, h3, ?_, hO.weak h.size.1, fun hp => ⟨b, off + G.length, har (by rw [h1]; exact hp), ?_⟩⟩
  · rw [← h1]
    rw [List.length_append] at hf
    omega
  · have hd := h.row.drop G.length (by rw [List.length_map, List.length_append]; omega)
    rw [List.map_append, List.drop_left' (List.length_map _), h1] at hd
    exact hd
end
set_option maxRecDepth 8000 in
set_option maxHeartbeats 12800000 in
theorem walk (x : Int) (v : Value) (ms : List Int) (w : World) (hxw : (Lit.int .i64 x).wf = true) (h1 : RowsIn i64A 0 1 w v ms) (h2 : ms.length ≤ maxLen) (h3 : ∀ c ∈ ms, (Lit.int .i64 c).wf = true) (h4 : ∀ a len cap, v = .slice a len cap → len ≤ cap) :
    Calls Try.prog 6 #[.int .i64 x, v] w fun e w' => e = .returned (.bool true) ∧ Below w.heap.size w w' := by
  have h' := h1
  obtain ⟨am, cap, rfl, -⟩ := h'
  have hcap := h4 _ _ _ rfl
  obtain ⟨ln, hln⟩ : ∃ ln, ln = ms.length := ⟨_, rfl⟩
  rw [← hln] at h1 h2 hcap ⊢
  have HS := hide h1
  have HL := hide hln
  clear h1 h3 h4 hln hxw
  go_enter Try.func6, Try.ntmps6
  go_wp2_with fail
  refine (awake13 _).mono ?_
  rintro e w1 ⟨rfl, hb1⟩
  have HB1 := hide hb1
  clear hb1
  by_cases hbad : 20 < ln ∨ x < 0 ∨ 288 ≤ x
  · have key : ∃ q : Bool, True := ⟨true, trivial⟩
    clear key
    by_cases hl : 20 < ln
    · have hl2 : (20 : Int) < (ln : Int) := by omega
      clear hbad
      go_wp2_with fail
      refine (awake13 _).mono ?_
      rintro e w2 ⟨rfl, hb2⟩
      have HB2 := hide hb2
      clear hb2
      go_wp2
      go_ret
      exact ⟨rfl, HB1.out.trans (HB2.out.mono HB1.out.size)⟩
    · have hl2 : ¬ (20 : Int) < (ln : Int) := by omega
      by_cases hx0 : x < 0
      · clear hbad
        go_wp2_with fail
        refine (awake13 _).mono ?_
        rintro e w2 ⟨rfl, hb2⟩
        have HB2 := hide hb2
        clear hb2
        go_wp2
        go_ret
        exact ⟨rfl, HB1.out.trans (HB2.out.mono HB1.out.size)⟩
      · have hx1 : 288 ≤ x := by omega
        clear hbad
        go_wp2_with fail
        refine (awake13 _).mono ?_
        rintro e w2 ⟨rfl, hb2⟩
        have HB2 := hide hb2
        clear hb2
        go_wp2
        go_ret
        exact ⟨rfl, HB1.out.trans (HB2.out.mono HB1.out.size)⟩
  have hl : ln ≤ 20 := by omega
  have hl2 : ¬ (20 : Int) < (ln : Int) := by omega
  have hx0 : ¬ x < 0 := by omega
  have hx1 : ¬ 288 ≤ x := by omega
  have hx : 0 ≤ x ∧ x < 288 := by omega
  have HX := hide hx
  clear hbad hx
  go_wp2_with fail
  refine (knew13 HB1.out).mono ?_
  rintro e w2 ⟨g, rfl, hK, -, -⟩
  have hq := kreq hK.tab (by omega) 1 x 5
  rw [rows_first HX.out] at hq
  have HK := hide hK
  have HQ := hide hq
  clear hK hq HB1
  go_wp2_with fail
  refine HQ.out.mono ?_
  rintro e w3 ⟨rfl, hA⟩
  obtain ⟨F3, hK3, -, -⟩ := HK.out.aft hA
  have H3 := hide (show ∃ F, K13 w w3 g ⟨[⟨1, x, 5⟩], rowL x 0 (ms.take 0)⟩ 1 F from ⟨F3, hK3⟩)
  clear hA hK3 HQ HK hx0 hx1
  go_wp2
  go_loopw [6, 39] (fun vr q wr => ∃ j : Nat, j ≤ ln ∧ q = .int .i64 j ∧ Hid (∃ F, K13 w wr g ⟨[⟨1, x, 5⟩], rowL x 0 (ms.take j)⟩ (1 + j) F ∧ OwnI w.heap.size wr vr ((rowL x 0 (ms.take j)).map Hd.w))) (fun _ q _ => ln - (intOf q).toNat)
  case atStart =>
    obtain ⟨F, hK⟩ := H3.out
    exact ⟨0, Nat.zero_le _, rfl, ⟨F, hK, OwnI.nil _ _⟩⟩
  case round =>
    obtain ⟨j, hj, rfl, HR⟩ := hrel
    by_cases hlt : j < ln
    · have i1 : (j : Int) < (ln : Int) := by omega
      obtain ⟨F, hK, hO⟩ := HR.out
      obtain ⟨b, off, m, rfl, hm, hcm⟩ := mode_at HS.out (j := j) (by rw [← HL.out]; exact hlt)
      have HCM := hide hcm
      have HSN := hide (rowL_snoc x ms j m hm)
      have HKO := hide (And.intro hK hO)
      have hlt2 : ∀ h ∈ rowL x 0 (ms.take j), h.w < (j : Int) + 2 := fun h hh => by
        have h5 := (rowL_mem x _ 0 hh).2.2
        rw [List.length_take] at h5
        omega
      have hrl : (rowL x 0 (ms.take j)).length ≤ 1000 := by
        have h5 := rowL_len x (ms.take j) 0
        rw [List.length_take] at h5
        omega
      have c0 := hcm wr hK.bel
      clear hm hK hO HR hcm
      have HRI := hide (fun y => right12 m y)
      cases hrm : rgt m with
      | false =>
        have hq := kreq HKO.out.1.tab (by omega) ((j : Int) + 2) x m
        rw [rows_bad hrm] at hq
        have HQ := hide hq
        rw [hrm] at HRI
        rw [hrm, if_neg (by simp), List.append_nil] at HSN
        clear hq hrm hlt2
        go_wp2_with fail
        refine HQ.out.mono ?_
        rintro e w5 ⟨rfl, hA⟩
        obtain ⟨F5, hK5, hTn5, -⟩ := HKO.out.1.aft hA
        have c5 := HCM.out w5 hK5.bel
        have HE := hide (show ∃ F, K13 w w5 g ⟨[⟨1, x, 5⟩], rowL x 0 (ms.take (j + 1))⟩ (1 + (j + 1)) F ∧ OwnI w.heap.size w5 u6 ((rowL x 0 (ms.take (j + 1))).map Hd.w) from ⟨F5, by rw [HSN.out]; exact ⟨hK5.weak (by omega), HKO.out.2.kt HKO.out.1.tab hTn5⟩⟩)
        clear hA hK5 hTn5 HQ HKO c0
        go_wp2_with fail
        refine (HRI.out w5).mono ?_
        rintro e w6 ⟨rfl, rfl⟩
        go_wp2_with fail
        refine (HRI.out w5).mono ?_
        rintro e w6 ⟨rfl, rfl⟩
        clear c5
        go_wp2
        go_roundw
        case rel => exact ⟨j + 1, by omega, by go_num, HE⟩
        case measure => simp [intOf]; omega
      | true =>
        have hq := kreq HKO.out.1.tab (by omega) ((j : Int) + 2) x m
        rw [rows_next HX.out (by omega) hlt2 hrm] at hq
        have HQ := hide hq
        rw [hrm] at HRI
        rw [hrm, if_pos rfl] at HSN
        clear hq hrm hlt2
        go_wp2_with fail
        refine HQ.out.mono ?_
        rintro e w5 ⟨rfl, hA⟩
        obtain ⟨F5, hK5, hTn5, -⟩ := HKO.out.1.aft hA
        have c5 := HCM.out w5 hK5.bel
        have hO5 := HKO.out.2.kt HKO.out.1.tab hTn5
        have b6 : Below w5.heap.size w5 (w5.alloc (.cells #[.int .i64 ((j : Int) + 2)] 3)) := (Below.refl w5.heap.size w5).alloc (Nat.le_refl _) _
        have hcell : (w5.alloc (.cells #[.int .i64 ((j : Int) + 2)] 3)).cell? ⟨w5.heap.size, 0, none⟩ = some (.int .i64 ((j : Int) + 2)) := (RowAt.new w5 3 #[.int .i64 ((j : Int) + 2)]).cell 0 _ rfl
        have hK6 := hK5.later b6
        obtain ⟨v', w7, ha, hO7, hT7⟩ := (hO5.later b6).push ((j : Int) + 2) w5.heap.size 1 hcell hK6.bel.size (by rw [List.length_map]; omega) 50
        have HE := hide (show ∃ F, K13 w w7 g ⟨[⟨1, x, 5⟩], rowL x 0 (ms.take (j + 1))⟩ (1 + (j + 1)) F ∧ OwnI w.heap.size w7 v' ((rowL x 0 (ms.take (j + 1))).map Hd.w) from ⟨F5, by
          rw [HSN.out, List.map_append]
          refine ⟨⟨hK6.tab.turn hT7 (fun k hk e => ?_) |>.weak (by omega), hK6.new, hK6.bel.trans (hT7.below (fun k hk => ((hO5.later b6).block hk).1) hK6.bel.size)⟩, hO7⟩
          obtain ⟨_, cs, h1⟩ := (hO5.later b6).block e
          exact hK6.tab.kind h1 hk⟩)
        clear hA hK5 hTn5 HQ HKO c0 hO5 b6 hcell hK6 hO7 hT7
        go_wp2_with fail
        refine (HRI.out w5).mono ?_
        rintro e w6 ⟨rfl, rfl⟩
        go_wp2_with fail
        refine (HRI.out w5).mono ?_
        rintro e w6 ⟨rfl, rfl⟩
        clear c5
        go_wp2_with (at_builtin; refine Lib.wpList_append_run _ rfl _ _ _ _ rfl _ _ rfl rfl _ _ ha ?_)
        go_roundw
        case rel => exact ⟨j + 1, by omega, by go_num, HE⟩
        case measure => simp [intOf]; omega
    · have i1 : ¬ (j : Int) < (ln : Int) := by omega
      have ej : j = ln := by omega
      obtain ⟨F, hK, hO⟩ := HR.out
      rw [ej, HL.out, List.take_length] at hK hO
      obtain ⟨R0, hR0⟩ : ∃ R0, R0 = rowL x 0 ms := ⟨_, rfl⟩
      have hal : Alone x [⟨1, x, 5⟩] R0 := by
        refine ⟨fun h hh => ?_, List.pairwise_append.2 ⟨List.pairwise_singleton _ _, by rw [hR0]; exact rowL_pair x ms 0, fun a ha b hb e => ?_⟩⟩
        · rcases List.mem_append.1 hh with hh | hh
          · rw [List.mem_singleton.1 hh]
          · rw [hR0] at hh
            exact (rowL_mem x ms 0 hh).1
        · rw [List.mem_singleton.1 ha] at e
          rw [hR0] at hb
          have := (rowL_mem x ms 0 hb).2.1
          have e : (1 : Int) = b.w := e
          omega
      have hthing : thingOk x = true := by
        unfold thingOk
        simp [HX.out.1, HX.out.2]
      obtain ⟨L1, L2, hL, hfr, hal2⟩ := free_line hthing hal
      rw [← hR0] at hK hO
      have hms : ms.length ≤ 20 := by rw [← HL.out]; exact hl
      have hR20 : R0.length ≤ 20 := by
        rw [hR0]
        have := rowL_len x ms 0
        have := HL.out
        omega
      have hq := kfree hK.tab (by omega) 1
      rw [show (⟨[⟨1, x, 5⟩], R0⟩ : Tb).free 1 = (⟨[] ++ L1, L2⟩, L1.map Hd.w) from hfr, List.nil_append] at hq
      rw [List.nil_append] at hal2
      have HQ := hide hq
      have HTH := hide hthing
      have HKO := hide (And.intro hK (And.intro hO (And.intro hL (And.intro hal2 hR20))))
      obtain ⟨ar, cr, har⟩ := hO.shape
      rw [List.length_map, hL] at har
      subst har
      have HMS := hide hms
      clear hK hO hL hfr hal2 hal hq hthing hR0 ej HR hR20 hms
      go_wp2_with fail
      refine HQ.out.mono ?_
      rintro e w5 ⟨v5, rfl, hO5, hA5⟩
      obtain ⟨F5, hK5, hTn5, -⟩ := HKO.out.1.aft hA5
      have hOr := HKO.out.2.1.kt HKO.out.1.tab hTn5
      obtain ⟨ag, cg, hag⟩ := hO5.shape
      rw [List.length_map] at hag
      subst hag
      have HT := hide (show ∃ F, Turn w g x ag cg ar cr L1 L2 F w5 from ⟨F5, hK5.weak (by have := HMS.out; omega), HKO.out.2.2.2.1, by rw [← HKO.out.2.2.1]; exact HKO.out.2.2.2.2, hO5.weak HKO.out.1.bel.size, fun hp => by
        rw [HKO.out.2.2.1] at hOr
        obtain ⟨b, e1, e2⟩ := hOr.rowS (by rw [List.length_map]; exact hp)
        exact ⟨b, 0, e1, e2⟩⟩)
      clear hO5 hA5 hK5 hTn5 hOr HQ HKO
      go_wp2
      go_loopw [6, 9] (fun vr vg wr => ∃ (ag : Option Addr) (cg : Nat) (ar : Option Addr) (cr : Nat) (G R : List Hd), vg = .slice ag G.length cg ∧ vr = .slice ar (G.length + R.length) cr ∧ Hid (∃ F, Turn w g x ag cg ar cr G R F wr)) (fun vr _ _ => lenS vr)
      case atStart => exact ⟨ag, cg, ar, cr, L1, L2, rfl, rfl, HT⟩
      case round =>
        obtain ⟨ag, cg, ar, cr, G, R, rfl, rfl, HR⟩ := hrel
        obtain ⟨F, hT⟩ := HR.out
        by_cases hG : G = []
        · subst hG
          have hR := hT.tab.tab.good.none_waits
          subst hR
          have HKH := hide (kheld hT.tab.tab (by omega))
          have HB := hide hT.tab
          have hz : (⟨[], []⟩ : Tb).held.length = 0 := good_nil.ok.held_len
          have HZ := hide hz
          clear hT HR hz
          simp only [List.length_nil, Nat.add_zero]
          go_wp2_with fail
          refine HKH.out.mono ?_
          rintro e w6 ⟨v6, rfl, hO6, hb6⟩
          obtain ⟨a6, c6, hv6, -, -⟩ := hO6.shape
          rw [HZ.out] at hv6
          subst hv6
          have HE := hide (HB.out.later hb6).bel
          clear hO6 hb6 HKH HB
          go_wp2
          go_ret
          exact ⟨rfl, HE.out⟩
        · have hGl : 0 < G.length := List.length_pos_iff.2 hG
          have hGR : 0 < (G ++ R).length := by rw [List.length_append]; omega
          obtain ⟨b, off, har, hrow⟩ := hT.row hGR
          subst har
          obtain ⟨b1, hag, hgot⟩ := hT.got.rowS (by rw [List.length_map]; exact hGl)
          subst hag
          have hrc := hrow.cap
          rw [List.length_map] at hrc
          have hint := ints13 hgot hrow (n := G.length) (List.length_map _) (by rw [List.length_map, List.length_append]; omega) (fun j hj => by
            rw [List.map_append, List.getD_eq_getElem?_getD, List.getD_eq_getElem?_getD, List.getElem?_append_left (by rw [List.length_map]; exact hj)])
          have HIN := hide hint
          have HTT := hide (And.intro hT (And.intro hrow hgot))
          have hlg : (G ++ R).length = G.length + R.length := List.length_append
          have hfew := hT.few
          rw [hlg] at hrc hfew
          have j1 : (0 : Int) < (G.length : Int) := by omega
          have j2 : ¬ (G.length : Int) + (R.length : Int) < (G.length : Int) := by omega
          have j3 : (G.length : Int) ≤ (cr : Int) := by omega
          have j4 : (G.length : Int) ≤ (G.length : Int) + (R.length : Int) := by omega
          have hc63 : cr ≤ 9223372036854775807 := by have := hrc.2; unfold maxLen at this; exact this
          clear hT HR hrow hgot hint hG
          have hz : (0 : Int) ≤ 0 := by omega
          go_wp2_with fail
          refine HIN.out.mono ?_
          rintro e w6 ⟨rfl, hb6⟩
          have HT6 := hide (show ∃ F, Inn w g w6.heap.size b1 cg b off cr G R 0 (.slice none 0 0) F w6 from ⟨F, Inn.first (HTT.out.1.tab.later hb6) (HTT.out.2.2.later hb6) (HTT.out.2.1.later hb6)⟩)
          have HAL := hide (And.intro HTT.out.1.alone HTT.out.1.few)
          clear hb6 HIN HTT
          by_cases hcr : cr = G.length
          · have hR0 : R.length = 0 := by omega
            have hcr2 : ¬ cr ≠ G.length := fun q => q hcr
            go_wp2
            go_loopw [10, 104] (fun v10 q wr => ∃ i : Nat, i ≤ G.length ∧ q = .int .i64 i ∧ Hid (∃ F, Inn w g w6.heap.size b1 cg b off cr G R i v10 F wr)) (fun _ q _ => G.length - (intOf q).toNat)
            case atStart => exact ⟨0, Nat.zero_le _, rfl, HT6⟩
            case round =>
              obtain ⟨i, hi, rfl, HI⟩ := hrel
              obtain ⟨F, hI⟩ := HI.out
              by_cases hlt : i < G.length
              · have k1 : (i : Int) < (G.length : Int) := by omega
                have c0 := hI.got.cell i (by rw [List.length_map]; exact hlt)
                rw [Nat.zero_add] at c0
                have HQ := hide (kfree hI.tab.tab (by omega) ((G.map Hd.w).getD i 0))
                have HST := hide (fun v2 z => hI.step (v2 := v2) (z := z) HTH.out HAL.out.1 hlt (by have := hfew; omega))
                generalize (G.map Hd.w).getD i 0 = n at c0 HQ HST
                clear hI HI
                go_wp2_with fail
                refine HQ.out.mono ?_
                rintro e w8 ⟨v8, rfl, hO8, hA8⟩
                obtain ⟨v', z', ha, hN⟩ := HST.out v8 w8 hO8 hA8
                have HN := hide hN
                clear hO8 hA8 hN HST HQ c0
                go_wp2_with (at_builtin; refine Lib.wpList_append_run _ rfl _ _ _ _ rfl _ _ rfl rfl _ _ ha ?_)
                go_roundw
                case rel => exact ⟨i + 1, by omega, by go_num, HN⟩
                case measure => simp [intOf]; omega
              · have k1 : ¬ (i : Int) < (G.length : Int) := by omega
                obtain rfl : i = G.length := by omega
                obtain ⟨L1, L2, hL, a, c, rfl, hT2⟩ := hI.done HTH.out HAL.out.1 HAL.out.2 (ar := some ⟨b, off, none⟩) (fun hp => absurd hp (by omega))
                have HT2 := hide hT2
                have HL2 := hide hL
                clear hI HI hT2 hL
                go_wp2
                go_roundw
                case rel => exact ⟨a, c, some ⟨b, off, none⟩, cr - G.length, L1, L2, rfl, by rw [← HL2.out, show R.length = 0 from by omega, show cr - G.length = 0 from by omega], HT2⟩
                case measure => simp [lenS]; omega
          · go_wp2
            go_loopw [10, 104] (fun v10 q wr => ∃ i : Nat, i ≤ G.length ∧ q = .int .i64 i ∧ Hid (∃ F, Inn w g w6.heap.size b1 cg b off cr G R i v10 F wr)) (fun _ q _ => G.length - (intOf q).toNat)
            case atStart => exact ⟨0, Nat.zero_le _, rfl, HT6⟩
            case round =>
              obtain ⟨i, hi, rfl, HI⟩ := hrel
              obtain ⟨F, hI⟩ := HI.out
              by_cases hlt : i < G.length
              · have k1 : (i : Int) < (G.length : Int) := by omega
                have c0 := hI.got.cell i (by rw [List.length_map]; exact hlt)
                rw [Nat.zero_add] at c0
                have HQ := hide (kfree hI.tab.tab (by omega) ((G.map Hd.w).getD i 0))
                have HST := hide (fun v2 z => hI.step (v2 := v2) (z := z) HTH.out HAL.out.1 hlt (by have := hfew; omega))
                generalize (G.map Hd.w).getD i 0 = n at c0 HQ HST
                clear hI HI
                go_wp2_with fail
                refine HQ.out.mono ?_
                rintro e w8 ⟨v8, rfl, hO8, hA8⟩
                obtain ⟨v', z', ha, hN⟩ := HST.out v8 w8 hO8 hA8
                have HN := hide hN
                clear hO8 hA8 hN HST HQ c0
                go_wp2_with (at_builtin; refine Lib.wpList_append_run _ rfl _ _ _ _ rfl _ _ rfl rfl _ _ ha ?_)
                go_roundw
                case rel => exact ⟨i + 1, by omega, by go_num, HN⟩
                case measure => simp [intOf]; omega
              · have k1 : ¬ (i : Int) < (G.length : Int) := by omega
                obtain rfl : i = G.length := by omega
                obtain ⟨L1, L2, hL, a, c, rfl, hT2⟩ := hI.done HTH.out HAL.out.1 HAL.out.2 (ar := some ⟨b, off + G.length, none⟩) (fun hp => rfl)
                have HT2 := hide hT2
                have HL2 := hide hL
                clear hI HI hT2 hL
                go_wp2
                go_roundw
                case rel => exact ⟨a, c, some ⟨b, off + G.length, none⟩, cr - G.length, L1, L2, rfl, by rw [← HL2.out], HT2⟩
                case measure => simp [lenS]; omega
end Go.Proofs.Ytjdabcapphiplaa.lockRows
