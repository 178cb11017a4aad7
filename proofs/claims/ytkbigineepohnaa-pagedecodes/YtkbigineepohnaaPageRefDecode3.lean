/-
  quaysideref04's Decode where the sum is right.
-/
import Derived.Test.YtkbigineepohnaaPageDecMath
import Derived.Test.YtkbigineepohnaaPageRefDecode2
namespace Go.Proofs.Ytkbigineepohnaa
open Go.RowKit
set_option linter.unusedVariables false

/-- Two pages in memory: the result's and the variable's. -/
def Two (w : World) (g gp : Nat) (q : Pg) (x : World) : Prop := PgAt x g Pg.zero ∧ PgAt x gp q ∧ Below g w x ∧ gp < x.heap.size
theorem two_setL {w x : World} {g gp : Nat} {q : Pg} (h : PgAt x g Pg.zero ∧ PgAt x gp q ∧ Below g w x ∧ gp < x.heap.size) (hg : g < gp) (n : Nat) : Two w g gp ⟨n, q.u, q.s⟩ (x.setCell ⟨gp, 0, none⟩ (.int .u64 n)) := by
  refine ⟨h.1.other _ _ (by simp; omega), ?_, ?_, ?_⟩
  · have h1 := heap_setCell_same x gp 0 _ _ (.int .u64 n) h.2.1
    exact h1
  · exact h.2.2.1.setCell (Nat.le_of_lt hg) _
  · simpa using h.2.2.2

theorem two_zero {w x : World} {g gp : Nat} {bs : List UInt8} (h : Two w g gp ⟨beAt bs 0 8, Pg.zero.u, Pg.zero.s⟩ x) : Two w g gp (prefP bs 0) x := by
  refine ⟨h.1, ?_, h.2.2⟩
  have h1 := h.2.1
  unfold PgAt at h1 ⊢
  rw [pref_zero]
  exact h1
theorem two_skip {w x : World} {g gp j : Nat} {bs : List UInt8} (h : Two w g gp (prefP bs j) x) (hu : usedAt (taleOf bs) j = false) : Two w g gp (prefP bs (j + 1)) x := by
  refine ⟨h.1, ?_, h.2.2⟩
  have h1 := h.2.1
  unfold PgAt at h1 ⊢
  rw [pref_skip bs j hu]
  exact h1
theorem len_more {t : List UInt8} {j : Nat} (h : ∀ k, k < j → lenAt t k ≤ 20) (hj : lenAt t j ≤ 20) : ∀ k, k < j + 1 → lenAt t k ≤ 20 := by
  intro k hk
  by_cases hkj : k = j
  · subst hkj
    exact hj
  · exact h k (by omega)

theorem two_more {w x : World} {g gp j : Nat} {bs : List UInt8} (h : Two w g gp (prefP bs j) x) (hg : g < gp) (hj : j < 8) (hu : usedAt (taleOf bs) j = true) :
    Two w g gp (prefP bs (j + 1)) ((x.setCell ⟨gp, 1 + j * 2, none⟩ (.bool true)).setCell ⟨gp, 1 + j * 2 + 1, none⟩ (.string (cutAt (taleOf bs) j))) := by
  refine ⟨(h.1.other _ _ (by simp; omega)).other _ _ (by simp; omega), ?_, (h.2.2.1.setCell (Nat.le_of_lt hg) _).setCell (Nat.le_of_lt hg) _, by simpa using h.2.2.2⟩
  have h1 := heap_setCell_same x gp (1 + j * 2) _ _ (.bool true) h.2.1
  have h2 := heap_setCell_same _ gp (1 + j * 2 + 1) _ _ (.string (cutAt (taleOf bs) j)) h1
  rw [pgA_set _ j hj, pref_more bs j hu] at h2
  exact h2

theorem two_scan {w x : World} {g gp : Nat} {bs : List UInt8} (h : Two w g gp (prefP bs 8) x) : Two w g gp (scanP bs) x := by
  refine ⟨h.1, ?_, h.2.2⟩
  have h1 := h.2.1
  unfold PgAt at h1 ⊢
  rw [same_pgA (pref_full bs)] at h1
  exact h1

theorem Two.later {w x y : World} {g gp : Nat} {q : Pg} (h : Two w g gp q x) (hb : Below x.heap.size x y) (hg : g < gp) : Two w g gp q y :=
  ⟨h.1.below hb (Nat.lt_trans hg h.2.2.2), h.2.1.below hb h.2.2.2, h.2.2.1.trans (hb.mono (Nat.le_of_lt (Nat.lt_trans hg h.2.2.2))), Nat.lt_of_lt_of_le h.2.2.2 hb.size⟩

set_option maxRecDepth 4000 in
set_option maxHeartbeats 400000 in
theorem rdec_rest (id : Nat) (s : ByteArray) (w : World) (hid : id < 32) (h3 : s.size = 256) (ht : tornB s.data.toList = false)
    (hs : leN ((taleOf s.data.toList).drop 236) = crc ((taleOf s.data.toList).take 236)) :
    Calls Try.prog 15 #[.int .i64 id, .string s] w fun e w' => e = .returned (.tuple #[.agg (pgA (decP id s.data.toList)), .int .i64 (decE id s.data.toList)]) ∧ Below w.heap.size w w' := by
  have HT := hide (fun w => rtorn_any s w (by omega))
  rw [ht] at HT
  have h4 : (s.size : Int) = 256 := by omega
  have h1 : ¬ (id : Int) < 0 := by omega
  have h2 : ¬ 31 < (id : Int) := by omega
  have htl := taleOf_length s.data.toList (by rw [data_length]; exact h3)
  have xt := tale_str s h3
  have e := extract_eq ⟨(taleOf s.data.toList).toArray⟩ 0 236 (by rw [size_mk]; omega)
  have ed : (⟨(taleOf s.data.toList).toArray⟩ : ByteArray).data.toList = taleOf s.data.toList := rfl
  rw [ed, List.drop_zero, Nat.zero_add] at e
  have R := fun w => rseal_any ⟨((taleOf s.data.toList).take 236).toArray⟩ w (by rw [size_mk, List.length_take]; omega)
  have ed2 : (⟨((taleOf s.data.toList).take 236).toArray⟩ : ByteArray).data.toList = (taleOf s.data.toList).take 236 := rfl
  rw [ed2] at R
  have heq : (taleOf s.data.toList).take 236 ++ leB (crc ((taleOf s.data.toList).take 236)) = taleOf s.data.toList := by
    have h5 := (seal_eq_iff (taleOf s.data.toList) (by omega)).2
    rw [htl] at h5
    exact h5 hs
  rw [heq] at R
  have zT := size_mk (taleOf s.data.toList)
  rw [htl] at zT
  have HS := hide R
  obtain ⟨T, hT⟩ : ∃ T : ByteArray, T = ⟨(taleOf s.data.toList).toArray⟩ := ⟨_, rfl⟩
  rw [← hT] at HS xt e zT
  have hne2 : (T.toList == T.toList) = true := by simp
  have HTT := hide hT
  have et : takeS s.data.toList 0 8 = (((beAt s.data.toList 0 8 : Nat) : Int), 0) := by
    rw [takeS_ok s.data.toList 0 8 (by omega) (by rw [data_length]; omega)]
    rfl
  have K := fun w => rtake_any s 0 8 w (by omega)
  rw [et] at K
  have HK := hide K
  have H3 := hide h3
  have HD := hide (dec_last id s.data.toList (by omega) (by rw [data_length]; exact h3) ht hs)
  clear R ed ed2 hs ht htl heq hT et K h3
  generalize (⟨((taleOf s.data.toList).take 236).toArray⟩ : ByteArray) = B at *
  go_enter Try.func15, Try.ntmps15
  go_wp2_with fail
  refine (HT.out _).mono ?_
  rintro e w1 ⟨rfl, m, rfl⟩
  have hP1 : PgAt ((w.alloc (.cells (pgA Pg.zero) 27)).drewN m) w.heap.size Pg.zero := heap_alloc_new w _
  have hb1 : Below w.heap.size w ((w.alloc (.cells (pgA Pg.zero) 27)).drewN m) := below_dn ((Below.refl w.heap.size w).alloc (Nat.le_refl _) _) m
  have hz1 : w.heap.size < ((w.alloc (.cells (pgA Pg.zero) 27)).drewN m).heap.size := (by simp : w.heap.size < (w.alloc (.cells (pgA Pg.zero) 27)).heap.size)
  have HP1 := hide (And.intro hP1 (And.intro hb1 hz1))
  clear hP1 hb1 hz1 HT
  refine gen_world (fun x => Hid (PgAt x w.heap.size Pg.zero ∧ Below w.heap.size w x ∧ w.heap.size < x.heap.size)) HP1 ?_
  clear HP1
  intro w1 HP1
  go_wp2_with fail
  go_quiet (fail)
  have HP2 : Hid (PgAt (w1.drewN nq) w.heap.size Pg.zero ∧ Below w.heap.size w (w1.drewN nq) ∧ w.heap.size < (w1.drewN nq).heap.size) := ⟨HP1.out.1, below_dn HP1.out.2.1 nq, HP1.out.2.2⟩
  generalize w1.drewN nq = w2 at *
  clear HP1
  go_wp2_with fail
  refine (HS.out _).mono ?_
  rintro e w3 ⟨rfl, hb3⟩
  have hP3 := HP2.out.1.below hb3 HP2.out.2.2
  have d3 := HP2.out.2.1.trans (hb3.mono HP2.out.2.1.size)
  have z3 : w.heap.size < w3.heap.size := Nat.lt_of_lt_of_le HP2.out.2.2 hb3.size
  have HP3 := hide (And.intro hP3 (And.intro d3 z3))
  clear hP3 hb3 HP2 HS d3 z3
  go_wp2_with fail
  obtain ⟨gp, hgp⟩ : ∃ g, g = w3.heap.size := ⟨_, rfl⟩
  rw [← hgp]
  have hg0 : w.heap.size < gp := by rw [hgp]; exact HP3.out.2.2
  have HQ : Hid (PgAt (w3.alloc (.cells (pgA Pg.zero) 27)) w.heap.size Pg.zero ∧ PgAt (w3.alloc (.cells (pgA Pg.zero) 27)) gp Pg.zero ∧ Below w.heap.size w (w3.alloc (.cells (pgA Pg.zero) 27)) ∧ gp < (w3.alloc (.cells (pgA Pg.zero) 27)).heap.size) :=
    ⟨HP3.out.1.alloc HP3.out.2.2 _, by rw [hgp]; exact heap_alloc_new w3 _, HP3.out.2.1.alloc HP3.out.2.1.size _, by rw [hgp]; simp⟩
  refine gen_calls (fun x => Hid (PgAt x w.heap.size Pg.zero ∧ PgAt x gp Pg.zero ∧ Below w.heap.size w x ∧ gp < x.heap.size)) HQ ?_
  clear HQ HP3 hgp
  clear w2 w3
  intro w4 HQ
  refine (HK.out _).mono ?_
  rintro e w5 ⟨rfl, rfl⟩
  have c0 := HQ.out.2.1.lsn
  have f0 := HQ.out.2.1.free 0
  have HQ5 := hide (two_zero (two_setL HQ.out hg0 (beAt s.data.toList 0 8)))
  clear HK HQ
  go_wp2_with fail
  refine gen_wp (fun x => Hid (Two w w.heap.size gp (prefP s.data.toList 0) x)) HQ5 ?_
  clear HQ5 c0 f0
  clear w4
  intro w5 HQ5
  go_loopw [8, 9] (fun a i wr => ∃ j : Nat, j ≤ 8 ∧ i = .int .i64 j ∧ a = .int .i64 (posAt (taleOf s.data.toList) j : Nat) ∧ Two w w.heap.size gp (prefP s.data.toList j) wr ∧ (∀ k, k < j → lenAt (taleOf s.data.toList) k ≤ 20)) (fun _ i _ => 8 - (intOf i).toNat)
  case atStart => exact ⟨0, Nat.zero_le _, rfl, rfl, HQ5.out, fun k hk => absurd hk (by omega)⟩
  case round =>
    obtain ⟨j, hj, rfl, rfl, hq, hlen⟩ := hrel
    clear HQ5
    have HQ := hide hq
    have HLN := hide hlen
    have hpl := pos_le _ _ hlen
    clear hq hlen
    by_cases hlt : j < 8
    · have hm := nAt_str s T HTT.out j (by omega)
      have hm2 : T[2 + j].toNat < 256 := T[2 + j].toNat_lt
      obtain ⟨mm, hmm⟩ : ∃ mm, nAt (taleOf s.data.toList) j = mm := ⟨_, rfl⟩
      rw [hmm] at hm
      rw [hm] at hm2
      have HMM := hide hmm
      clear hmm
      by_cases h255 : mm = 255
      · subst h255
        have hl := len_unused _ _ HMM.out
        have HN := hide (two_skip HQ.out hl.2)
        have HP := hide (show posAt (taleOf s.data.toList) (j + 1) = posAt (taleOf s.data.toList) j by rw [posAt, hl.1]; rfl)
        have HL2 := hide (len_more HLN.out (show lenAt (taleOf s.data.toList) j ≤ 20 by omega))
        clear hl HQ HLN
        generalize posAt (taleOf s.data.toList) j = pp at *
        go_wp2
        go_roundw
        case rel => exact ⟨j + 1, by omega, by go_num, by rw [HP.out], HN.out, HL2.out⟩
        case measure => simp [intOf]; omega
      · have hl := len_used _ _ mm HMM.out h255
        by_cases h20 : 20 < mm
        · have hw := scan_wrong s.data.toList j (by rw [data_length]; exact H3.out) hlt HLN.out (by rw [hl.1]; exact h20)
          have he : decE id s.data.toList = 2 := by rw [HD.out, if_neg (fun h => hw h.1)]
          have hp : decP id s.data.toList = Pg.zero := decP_no _ _ (by rw [he]; decide)
          have HE := hide (And.intro he hp)
          have h5 : ((mm : Int) == 255) = false := by simp; omega
          have h6 : (20 : Int) < (mm : Int) := by omega
          have HQ1 := hide HQ.out.1
          have hb1 := HQ.out.2.2.1
          clear hw he hp hl HQ HLN h255 HD
          generalize posAt (taleOf s.data.toList) j = pp at *
          go_wp2_with (refine wpList_store_page rfl (.tmp 4) (.tmp 63) rfl w.heap.size Pg.zero Pg.zero rfl rfl HQ1.out ?_)
          intro w6 hP6 hk
          have HP6 := hide hP6
          have d6 := hk _ _ hb1 (Nat.le_refl _)
          clear hP6 hk hb1 HQ1
          go_wp2
          rw [HE.out.1, HE.out.2]
          exact bodyPost_ret (res_page rfl _ _ w.heap.size Pg.zero rfl HP6.out) rfl ⟨rfl, d6⟩
        · have h5 : ((mm : Int) == 255) = false := by simp; omega
          have h6 : ¬ (20 : Int) < (mm : Int) := by omega
          have hcut := cut_str s T HTT.out j (by rw [hl.1]; omega)
          have HP := hide (show posAt (taleOf s.data.toList) (j + 1) = posAt (taleOf s.data.toList) j + mm by rw [posAt, hl.1])
          have HL2 := hide (len_more HLN.out (show lenAt (taleOf s.data.toList) j ≤ 20 by omega))
          rw [hl.1] at hcut
          have HN := hide (two_more HQ.out hg0 hlt hl.2)
          have c1 := HQ.out.2.1.used j hlt
          have c2 := HQ.out.2.1.val j hlt
          have f1 := HQ.out.2.1.free (1 + j * 2)
          have f2 := HQ.out.2.1.free (1 + j * 2 + 1)
          clear hl HLN h255 HD HQ
          generalize posAt (taleOf s.data.toList) j = pp at *
          generalize cutAt (taleOf s.data.toList) j = C at *
          go_wp2
          go_roundw
          case rel => exact ⟨j + 1, by omega, by go_num, by rw [HP.out]; go_num, HN.out, HL2.out⟩
          case measure => simp [intOf]; omega
    · obtain rfl : j = 8 := by omega
      have HS8 := hide (two_scan HQ.out)
      clear HQ HLN hpl hlt hj
      generalize posAt (taleOf s.data.toList) 8 = pp at *
      have R := fun w => rright_any (scanP s.data.toList) w
      by_cases hr : (scanP s.data.toList).right
      · rw [decide_eq_true hr] at R
        have HR := hide R
        have HI := hide (fun w => rimage_any id (scanP s.data.toList) w hid hr)
        clear R
        go_wp2_with (refine wpList_load_page rfl (.tmp 7) rfl gp rfl (scanP s.data.toList) HS8.out.2.1 ?_)
        refine (HR.out _).mono ?_
        rintro e w7 ⟨rfl, hb7⟩
        have HS7 := hide (HS8.out.later hb7 hg0)
        clear HS8 hb7 HR
        go_wp2_with (refine wpList_load_page rfl (.tmp 7) rfl gp rfl (scanP s.data.toList) HS7.out.2.1 ?_)
        refine (HI.out _).mono ?_
        rintro e w8 ⟨rfl, hb8⟩
        have HS9 := hide (HS7.out.later hb8 hg0)
        clear HS7 hb8 HI
        by_cases hi : imageB id (scanP s.data.toList) = s.data.toList
        · have he : decE id s.data.toList = 0 := by rw [HD.out, if_pos ⟨hr, by simpa using hi⟩]
          have hp : decP id s.data.toList = scanP s.data.toList := by unfold decP; rw [if_pos he]
          have HE := hide (And.intro he hp)
          have hx : (⟨(imageB id (scanP s.data.toList)).toArray⟩ : ByteArray) = s := by rw [hi, mk_self]
          have hne3 : (s.toList == s.toList) = true := by simp
          rw [hx]
          clear he hp HD hi hx
          go_wp2_with (first | (refine wpList_load_page rfl (.tmp 7) rfl gp rfl (scanP s.data.toList) HS9.out.2.1 ?_) | (refine wpList_store_page rfl (.tmp 4) (.tmp 88) rfl w.heap.size Pg.zero (scanP s.data.toList) rfl rfl HS9.out.1 ?_))
          intro w10 hP10 hk
          have HP10 := hide hP10
          have d10 := hk _ _ HS9.out.2.2.1 (Nat.le_refl _)
          clear hP10 hk HS9
          go_wp2
          rw [HE.out.1, HE.out.2]
          exact bodyPost_ret (res_page rfl _ _ w.heap.size (scanP s.data.toList) rfl HP10.out) rfl ⟨rfl, d10⟩
        · have he : decE id s.data.toList = 2 := by rw [HD.out, if_neg (fun h => hi (by simpa using h.2))]
          have hp : decP id s.data.toList = Pg.zero := decP_no _ _ (by rw [he]; decide)
          have HE := hide (And.intro he hp)
          have hne3 := ne_list2 s _ hi
          generalize (⟨(imageB id (scanP s.data.toList)).toArray⟩ : ByteArray) = I at *
          clear he hp HD hi
          go_wp2_with (first | (refine wpList_load_page rfl (.tmp 7) rfl gp rfl (scanP s.data.toList) HS9.out.2.1 ?_) | (refine wpList_store_page rfl (.tmp 4) (.tmp 87) rfl w.heap.size Pg.zero Pg.zero rfl rfl HS9.out.1 ?_))
          intro w10 hP10 hk
          have HP10 := hide hP10
          have d10 := hk _ _ HS9.out.2.2.1 (Nat.le_refl _)
          clear hP10 hk HS9
          go_wp2
          rw [HE.out.1, HE.out.2]
          exact bodyPost_ret (res_page rfl _ _ w.heap.size Pg.zero rfl HP10.out) rfl ⟨rfl, d10⟩
      · rw [decide_eq_false hr] at R
        have HR := hide R
        have he : decE id s.data.toList = 2 := by rw [HD.out, if_neg (fun h => hr h.1)]
        have hp : decP id s.data.toList = Pg.zero := decP_no _ _ (by rw [he]; decide)
        have HE := hide (And.intro he hp)
        clear R he hp HD
        go_wp2_with (refine wpList_load_page rfl (.tmp 7) rfl gp rfl (scanP s.data.toList) HS8.out.2.1 ?_)
        refine (HR.out _).mono ?_
        rintro e w7 ⟨rfl, hb7⟩
        have HS7 := hide (HS8.out.later hb7 hg0)
        clear HS8 hb7 HR
        go_wp2_with (first | (refine wpList_load_page rfl (.tmp 7) rfl gp rfl (scanP s.data.toList) HS7.out.2.1 ?_) | (refine wpList_store_page rfl (.tmp 4) (.tmp 87) rfl w.heap.size Pg.zero Pg.zero rfl rfl HS7.out.1 ?_))
        intro w10 hP10 hk
        have HP10 := hide hP10
        have d10 := hk _ _ HS7.out.2.2.1 (Nat.le_refl _)
        clear hP10 hk HS7
        go_wp2
        rw [HE.out.1, HE.out.2]
        exact bodyPost_ret (res_page rfl _ _ w.heap.size Pg.zero rfl HP10.out) rfl ⟨rfl, d10⟩

/-- THE CONTRACT. -/
theorem rdec_any (id : Int) (s : ByteArray) (w : World) (hz : s.size ≤ 140737488355328) :
    Calls Try.prog 15 #[.int .i64 id, .string s] w fun e w' => e = .returned (.tuple #[.agg (pgA (decP id s.data.toList)), .int .i64 (decE id s.data.toList)]) ∧ Below w.heap.size w w' := by
  have hd := data_length s
  by_cases h : 0 ≤ id ∧ id ≤ 31
  · obtain ⟨n, rfl⟩ := Int.eq_ofNat_of_zero_le h.1
    have h1 : ¬ ((n : Int) < 0) := by omega
    have h2 : ¬ (31 < (n : Int)) := by omega
    by_cases h3 : s.size < 256
    · have e : decE n s.data.toList = 4 := by unfold decE; rw [if_neg (by simpa using h), if_pos (by omega)]
      rw [decP_no n s.data.toList (by rw [e]; decide), e]
      exact rdec_short n s w h1 h2 (by omega)
    · by_cases h4 : 256 < s.size
      · have e : decE n s.data.toList = 2 := by unfold decE; rw [if_neg (by simpa using h), if_neg (by omega), if_pos (by omega)]
        rw [decP_no n s.data.toList (by rw [e]; decide), e]
        exact rdec_long n s w h1 h2 (by omega) (by omega)
      · cases ht : tornB s.data.toList with
        | true =>
          have e : decE n s.data.toList = 14 := by unfold decE; rw [if_neg (by simpa using h), if_neg (by omega), if_neg (by omega), if_pos ht]
          rw [decP_no n s.data.toList (by rw [e]; decide), e]
          exact rdec_torn n s w h1 h2 (by omega) ht
        | false =>
          by_cases hs : leN ((taleOf s.data.toList).drop 236) = crc ((taleOf s.data.toList).take 236)
          · exact rdec_rest n s w (by omega) (by omega) ht hs
          · have e : decE n s.data.toList = 3 := by unfold decE; rw [if_neg (by simpa using h), if_neg (by omega), if_neg (by omega), if_neg (by simp [ht]), if_pos hs]
            rw [decP_no n s.data.toList (by rw [e]; decide), e]
            exact rdec_sum n s w h1 h2 (by omega) ht hs
  · have e : decE id s.data.toList = 1 := by unfold decE; rw [if_pos h]
    rw [decP_no id s.data.toList (by rw [e]; decide), e]
    exact rdec_id id s w (by omega)
end Go.Proofs.Ytkbigineepohnaa
