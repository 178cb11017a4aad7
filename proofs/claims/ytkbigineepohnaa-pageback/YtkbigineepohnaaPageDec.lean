/-
  The contract of package page's Decode.
-/
import Derived.Test.YtkbigineepohnaaPageRight
import Derived.Test.YtkbigineepohnaaPageStamp
import Derived.Test.YtkbigineepohnaaPageCellsOf
import Derived.Test.YtkbigineepohnaaSumCode
namespace Go.Proofs.Ytkbigineepohnaa
open Go.RowKit
set_option linter.unusedVariables false

theorem run_build_pg (l : Nat) (q : Pg) (w : World) : (Instr.build 27 #[(0, .int .u64 (l : Int)), (1, .agg (csA q))]).run Try.prog w = .ok (.agg (pgA ⟨l, q.u, q.s⟩)) w := by kernel_rfl
theorem wpList_build_pg {ops : Array Oper} {rest : List Oper} {o : Oper} {a : Act} {w : World} {Q : Exit → Act → World → Prop} (hw : Region.wanted o (yielded ops a.tmps) = true) (x y : Operand) (ho : o.op = .build 27 #[(0, x), (1, y)])
    (l : Nat) (q : Pg) (hx : a.eval x = .int .u64 (l : Int)) (hy : a.eval y = .agg (csA q)) (h : wpList Try.prog ops Q rest (a.put o.dst (.agg (pgA ⟨l, q.u, q.s⟩))) w) : wpList Try.prog ops Q (o :: rest) a w :=
  wpList_step fun K hK => by
    simp only [hw, if_true]
    unfold Oper.wp execOp
    have e : (#[(0, x), (1, y)] : Array (Nat × Operand)).map (fun z => (z.1, a.eval z.2)) = #[(0, .int .u64 (l : Int)), (1, .agg (csA q))] := by simp [hx, hy]
    have e2 : (#[(0, x), (1, y)] : Array (Nat × Operand)).map (fun (i, x) => (i, a.eval x)) = #[(0, .int .u64 (l : Int)), (1, .agg (csA q))] := e
    simp only [ho, e2, Sem.run_bind, run_build_pg l q w, Result.andThen_ok, Sem.run_pure]
    exact hK _ _ h

section
variable (id : Int) (a : Option Addr) (len cap : Nat) (w : World)

set_option maxHeartbeats 400000 in
theorem dec_id (h : ¬ (0 ≤ id ∧ id ≤ 31)) :
    Calls Try.prog 14 #[.int .i64 id, .slice a len cap] w fun e w' => e = .returned (.tuple #[.agg (pgA Pg.zero), .int .i64 1]) ∧ Below w.heap.size w w' := by
  have hb0 : Below w.heap.size w (w.alloc (.cells (pgA Pg.zero) 27)) := (Below.refl _ _).alloc (Nat.le_refl _) _
  have HP := hide (show PgAt (w.alloc (.cells (pgA Pg.zero) 27)) w.heap.size Pg.zero from heap_alloc_new w _)
  have R := fun w => rightID_any id w
  rw [decide_eq_false h] at R
  have HR := hide R
  clear R h
  go_enter Try.func14, Try.ntmps14
  go_wp2_with fail
  refine (HR.out _).mono ?_
  rintro e w1 ⟨rfl, rfl⟩
  clear HR
  go_wp2_with (refine wpList_store_page rfl (.tmp 4) (.tmp 15) rfl w.heap.size Pg.zero Pg.zero rfl rfl HP.out ?_)
  intro w2 hP2 hk
  have HP2 := hide hP2
  have d2 := hk _ _ hb0 (Nat.le_refl _)
  clear hP2 hk hb0 HP
  go_wp2
  exact bodyPost_ret (res_page rfl _ _ w.heap.size Pg.zero rfl HP2.out) rfl ⟨rfl, d2⟩

set_option maxHeartbeats 400000 in
theorem dec_few (h : 0 ≤ id ∧ id ≤ 31) (h3 : (len : Int) < 256) :
    Calls Try.prog 14 #[.int .i64 id, .slice a len cap] w fun e w' => e = .returned (.tuple #[.agg (pgA Pg.zero), .int .i64 4]) ∧ Below w.heap.size w w' := by
  have hb0 : Below w.heap.size w (w.alloc (.cells (pgA Pg.zero) 27)) := (Below.refl _ _).alloc (Nat.le_refl _) _
  have HP := hide (show PgAt (w.alloc (.cells (pgA Pg.zero) 27)) w.heap.size Pg.zero from heap_alloc_new w _)
  have R := fun w => rightID_any id w
  rw [decide_eq_true h] at R
  have HR := hide R
  clear R h
  go_enter Try.func14, Try.ntmps14
  go_wp2_with fail
  refine (HR.out _).mono ?_
  rintro e w1 ⟨rfl, rfl⟩
  clear HR
  go_wp2_with (refine wpList_store_page rfl (.tmp 4) (.tmp 19) rfl w.heap.size Pg.zero Pg.zero rfl rfl HP.out ?_)
  intro w2 hP2 hk
  have HP2 := hide hP2
  have d2 := hk _ _ hb0 (Nat.le_refl _)
  clear hP2 hk hb0 HP
  go_wp2
  exact bodyPost_ret (res_page rfl _ _ w.heap.size Pg.zero rfl HP2.out) rfl ⟨rfl, d2⟩

set_option maxRecDepth 4000 in
set_option maxHeartbeats 400000 in
theorem dec_many (h : 0 ≤ id ∧ id ≤ 31) (h3 : ¬ (len : Int) < 256) (h4 : 256 < (len : Int)) :
    Calls Try.prog 14 #[.int .i64 id, .slice a len cap] w fun e w' => e = .returned (.tuple #[.agg (pgA Pg.zero), .int .i64 2]) ∧ Below w.heap.size w w' := by
  have hb0 : Below w.heap.size w (w.alloc (.cells (pgA Pg.zero) 27)) := (Below.refl _ _).alloc (Nat.le_refl _) _
  have HP := hide (show PgAt (w.alloc (.cells (pgA Pg.zero) 27)) w.heap.size Pg.zero from heap_alloc_new w _)
  have R := fun w => rightID_any id w
  rw [decide_eq_true h] at R
  have HR := hide R
  clear R h
  go_enter Try.func14, Try.ntmps14
  go_wp2_with fail
  refine (HR.out _).mono ?_
  rintro e w1 ⟨rfl, rfl⟩
  clear HR
  go_wp2_with (refine wpList_store_page rfl (.tmp 4) (.tmp 23) rfl w.heap.size Pg.zero Pg.zero rfl rfl HP.out ?_)
  intro w2 hP2 hk
  have HP2 := hide hP2
  have d2 := hk _ _ hb0 (Nat.le_refl _)
  clear hP2 hk hb0 HP
  go_wp2
  exact bodyPost_ret (res_page rfl _ _ w.heap.size Pg.zero rfl HP2.out) rfl ⟨rfl, d2⟩

set_option maxHeartbeats 400000 in
theorem dec_tears (bs : List UInt8) (hB : IsB w a 256 bs) (h : 0 ≤ id ∧ id ≤ 31) (ht : tornB bs = true) :
    Calls Try.prog 14 #[.int .i64 id, .slice a 256 cap] w fun e w' => e = .returned (.tuple #[.agg (pgA Pg.zero), .int .i64 14]) ∧ Below w.heap.size w w' := by
  have hb0 : Below w.heap.size w (w.alloc (.cells (pgA Pg.zero) 27)) := (Below.refl _ _).alloc (Nat.le_refl _) _
  have HP := hide (show PgAt (w.alloc (.cells (pgA Pg.zero) 27)) w.heap.size Pg.zero from heap_alloc_new w _)
  have R := fun w => rightID_any id w
  rw [decide_eq_true h] at R
  have HR := hide R
  have S := stamp_same a 256 cap bs _ (hB.below hb0) (by omega)
  have e : stampB bs = (0, false) := by unfold stampB; rw [if_neg (fun g => by rw [ht] at g; exact absurd g.2 (by decide))]
  rw [e] at S
  have HS := hide S
  clear R h S e ht hB
  go_enter Try.func14, Try.ntmps14
  go_wp2_with fail
  refine (HR.out _).mono ?_
  rintro e w1 ⟨rfl, rfl⟩
  clear HR
  go_wp2_with fail
  refine HS.out.mono ?_
  rintro e w1 ⟨rfl, rfl⟩
  clear HS
  go_wp2_with (refine wpList_store_page rfl (.tmp 4) (.tmp 31) rfl w.heap.size Pg.zero Pg.zero rfl rfl HP.out ?_)
  intro w2 hP2 hk
  have HP2 := hide hP2
  have d2 := hk _ _ hb0 (Nat.le_refl _)
  clear hP2 hk hb0 HP
  go_wp2
  exact bodyPost_ret (res_page rfl _ _ w.heap.size Pg.zero rfl HP2.out) rfl ⟨rfl, d2⟩
end

set_option maxHeartbeats 400000 in
theorem dec_sum (id : Int) (g off cap : Nat) (w : World) (bs : List UInt8) (hB : IsB w (some ⟨g, off, none⟩) 256 bs) (hcap : 256 ≤ cap) (h : 0 ≤ id ∧ id ≤ 31) (ht : tornB bs = false) (hs : ¬ leN ((taleOf bs).drop 236) = crc ((taleOf bs).take 236)) :
    Calls Try.prog 14 #[.int .i64 id, .slice (some ⟨g, off, none⟩) 256 cap] w fun e w' => e = .returned (.tuple #[.agg (pgA Pg.zero), .int .i64 3]) ∧ Below w.heap.size w w' := by
  have hb0 : Below w.heap.size w (w.alloc (.cells (pgA Pg.zero) 27)) := (Below.refl _ _).alloc (Nat.le_refl _) _
  have HP := hide (show PgAt (w.alloc (.cells (pgA Pg.zero) 27)) w.heap.size Pg.zero from heap_alloc_new w _)
  have R := fun w => rightID_any id w
  rw [decide_eq_true h] at R
  have HR := hide R
  have S := stamp_same _ 256 cap bs _ (hB.below hb0) (by omega)
  have e : stampB bs = (beAt bs 0 8, true) := by unfold stampB; rw [if_pos ⟨hB.1, ht⟩]
  rw [e] at S
  have HS := hide S
  have HT := hide (taleOf_any g off cap bs _ (hB.below hb0) hcap)
  have htl := taleOf_length bs hB.1
  have ho := openS_no (taleOf bs) (by omega) (by rw [htl]; exact hs)
  have HO := hide ho
  clear R h S e ht hB hs ho
  generalize beAt bs 0 8 = st at *
  go_enter Try.func14, Try.ntmps14
  go_wp2_with fail
  refine (HR.out _).mono ?_
  rintro e w1 ⟨rfl, rfl⟩
  clear HR
  go_wp2_with fail
  refine HS.out.mono ?_
  rintro e w1 ⟨rfl, rfl⟩
  clear HS
  go_wp2_with fail
  refine HT.out.mono ?_
  rintro e w2 ⟨v2, rfl, hown2, hb2⟩
  obtain ⟨a2, cap2, rfl, hcap2, hB2⟩ := shape_isB hown2
  have d2 := hb0.trans (hb2.mono hb0.size)
  have HP2 := hide (HP.out.below hb2 (by simp))
  have O := open_any a2 240 cap2 _ w2 hB2 (by omega) hcap2
  rw [HO.out] at O
  have HOp := hide O
  clear hown2 hb2 hB2 O hb0 HP HT HO
  go_wp2_with fail
  refine HOp.out.mono ?_
  rintro e w3 ⟨v3, rfl, _, hb3⟩
  have d3 := d2.trans (hb3.mono d2.size)
  have HP3 := hide (HP2.out.below hb3 (Array.getElem?_eq_some_iff.1 HP2.out).1)
  clear d2 HP2 hb3 HOp
  go_wp2_with (refine wpList_store_page rfl (.tmp 4) (.tmp 40) rfl w.heap.size Pg.zero Pg.zero rfl rfl HP3.out ?_)
  intro w4 hP4 hk
  have HP4 := hide hP4
  have d4 := hk _ _ d3 (Nat.le_refl _)
  clear hP4 hk d3 HP3
  go_wp2
  exact bodyPost_ret (res_page rfl _ _ w.heap.size Pg.zero rfl HP4.out) rfl ⟨rfl, d4⟩

set_option maxHeartbeats 800000 in
theorem dec_tell (id : Nat) (g off cap : Nat) (w : World) (bs : List UInt8) (hB : IsB w (some ⟨g, off, none⟩) 256 bs) (hcap : 256 ≤ cap) (h : id < 32) (ht : tornB bs = false) (hs : leN ((taleOf bs).drop 236) = crc ((taleOf bs).take 236)) :
    Calls Try.prog 14 #[.int .i64 id, .slice (some ⟨g, off, none⟩) 256 cap] w fun e w' => e = .returned (.tuple #[.agg (pgA (decP id bs)), .int .i64 (decE id bs)]) ∧ Below w.heap.size w w' := by
  have hb0 : Below w.heap.size w (w.alloc (.cells (pgA Pg.zero) 27)) := (Below.refl _ _).alloc (Nat.le_refl _) _
  have HP := hide (show PgAt (w.alloc (.cells (pgA Pg.zero) 27)) w.heap.size Pg.zero from heap_alloc_new w _)
  have R := fun w => rightID_any id w
  rw [decide_eq_true (show 0 ≤ (id : Int) ∧ (id : Int) ≤ 31 by omega)] at R
  have HR := hide R
  have S := stamp_same _ 256 cap bs _ (hB.below hb0) (by omega)
  have e : stampB bs = (beAt bs 0 8, true) := by unfold stampB; rw [if_pos ⟨hB.1, ht⟩]
  rw [e] at S
  have HS := hide S
  have HT := hide (taleOf_any g off cap bs _ (hB.below hb0) hcap)
  have htl := taleOf_length bs hB.1
  have ho := openS_ok (taleOf bs) (by omega) (by rw [htl]; exact hs)
  rw [htl] at ho
  have HO := hide ho
  have hl236 : ((taleOf bs).take 236).length = 236 := by rw [List.length_take]; omega
  have HD := hide (dec_last id bs (by omega) hB.1 ht hs)
  have hiff := tell_iff id bs (by omega) hB.1 ht hs
  have HI := hide hiff
  have hsc := fun hok => scan_tell bs hB.1 hok
  have HSC := hide hsc
  have e2 : maxP = 4611686018427387904 := rfl
  clear R S e ht hB hs ho htl hiff hsc
  go_enter Try.func14, Try.ntmps14
  go_wp2_with fail
  refine (HR.out _).mono ?_
  rintro e w1 ⟨rfl, rfl⟩
  clear HR
  go_wp2_with fail
  refine HS.out.mono ?_
  rintro e w1 ⟨rfl, rfl⟩
  clear HS
  go_wp2_with fail
  refine HT.out.mono ?_
  rintro e w2 ⟨v2, rfl, hown2, hb2⟩
  obtain ⟨a2, cap2, rfl, hcap2, hB2⟩ := shape_isB hown2
  have d2 := hb0.trans (hb2.mono hb0.size)
  have HP2 := hide (HP.out.below hb2 (by simp))
  have O := open_any a2 240 cap2 _ w2 hB2 (by omega) hcap2
  rw [HO.out] at O
  have HOp := hide O
  clear hown2 hb2 hB2 O hb0 HP HT HO
  go_wp2_with fail
  refine HOp.out.mono ?_
  rintro e w3 ⟨v3, rfl, hown3, hb3⟩
  rw [hl236] at hown3
  obtain ⟨g3, cap3, rfl, hg3⟩ := own_slice hown3 (by omega)
  have hc3 := own_cap hown3
  have hB3 := hown3.isB hl236
  have d3 := d2.trans (hb3.mono d2.size)
  have HP3 := hide (HP2.out.below hb3 (Array.getElem?_eq_some_iff.1 HP2.out).1)
  have HC := hide (tells_any g3 0 cap3 _ w3 hB3 hc3)
  have HB3 := hide hB3
  clear d2 HP2 hb3 HOp hown3 hB3 hg3
  obtain ⟨T, hT⟩ : ∃ T, T = (taleOf bs).take 236 := ⟨_, rfl⟩
  rw [← hT] at HC HB3 HI hl236
  have HTT := hide hT
  clear hT
  obtain ⟨Q2, hQ2⟩ : ∃ q, q = (if okT T then tellP T else Pg.zero) := ⟨_, rfl⟩
  rw [← hQ2] at HC
  have HQQ := hide hQ2
  clear hQ2
  obtain ⟨st, hst⟩ : ∃ s, s = beAt bs 0 8 := ⟨_, rfl⟩
  rw [← hst] at HI ⊢
  have HST := hide hst
  clear hst
  by_cases hall : okT T ∧ beAt T 0 2 = id ∧ st ≤ maxP
  · have hr := HI.out.2 hall
    have he : decE id bs = 0 := by rw [HD.out, if_pos ⟨hr.1, by simpa using hr.2⟩]
    have hp : pgA (decP id bs) = pgA ⟨st, (tellP T).u, (tellP T).s⟩ := by
      unfold decP
      rw [if_pos he]
      refine same_pgA ⟨HST.out.symm, fun i hi => ?_⟩
      have h1 := HSC.out (by rw [← HTT.out]; exact hall.1) i hi
      rw [← HTT.out] at h1
      exact h1
    have HE := hide (And.intro hp he)
    have hq : Q2 = tellP T := by rw [HQQ.out, if_pos hall.1]
    rw [hq, decide_eq_true hall.1] at HC
    have K := fun w' (h' : IsB w' (some ⟨g3, 0, none⟩) 236 T) => tellsID_any (some ⟨g3, 0, none⟩) cap3 T id w' h' h
    rw [decide_eq_true hall.2.1] at K
    have HK := hide K
    have hmx : ((4611686018427387904 : Int) < (st : Int)) = False := by
      have := hall.2.2
      simp
      omega
    clear hr he hp hq K HD HI HSC HQQ HTT HST hall e2 Q2
    go_wp2_with fail
    refine HC.out.mono ?_
    rintro e w4 ⟨rfl, hb4⟩
    have HP4 := hide (HP3.out.below hb4 (Array.getElem?_eq_some_iff.1 HP3.out).1)
    have d4 := d3.trans (hb4.mono d3.size)
    have HB4 := hide (HB3.out.below hb4)
    clear HC hb4 HP3 d3 HB3
    go_wp2_with (refine wpList_store_at rfl 25 (.tmp 10) (.tmp 45) rfl w4.heap.size (csA Pg.zero) (csA (tellP T)) rfl rfl (RowAt.new w4 25 _) infoCs rfl (csA_one _) ?_)
    intro w5 hr5 hk5 _
    have s5 := hk5 _ _ ((Below.refl w4.heap.size w4).alloc (Nat.le_refl _) _) (Nat.le_refl _)
    have HR5 := hide hr5
    have HP5 := hide (HP4.out.below s5 (Array.getElem?_eq_some_iff.1 HP4.out).1)
    have d5 := d4.trans (s5.mono d4.size)
    have HB5 := hide (HB4.out.below s5)
    clear hr5 hk5 s5 HP4 d4 HB4
    go_wp2_with fail
    refine (HK.out _ HB5.out).mono ?_
    rintro e w6 ⟨rfl, rfl⟩
    clear HK HB5
    go_wp2_with (first | (refine wpList_load_at rfl 25 (.tmp 10) rfl w4.heap.size rfl (csA (tellP T)) HR5.out _ Try.underlying25 rfl infoCs ?_) | (refine wpList_build_pg rfl (.tmp 60) (.tmp 61) rfl st (tellP T) rfl rfl ?_) | (refine wpList_store_page rfl (.tmp 4) (.tmp 62) rfl w.heap.size Pg.zero ⟨st, (tellP T).u, (tellP T).s⟩ rfl rfl HP5.out ?_))
    intro w7 hP7 hk7
    have HP7 := hide hP7
    have d7 := hk7 _ _ d5 (Nat.le_refl _)
    clear hP7 hk7 d5 HP5 HR5
    go_wp2
    rw [HE.out.1, HE.out.2]
    exact bodyPost_ret (res_page rfl _ _ w.heap.size ⟨st, (tellP T).u, (tellP T).s⟩ rfl HP7.out) rfl ⟨rfl, d7⟩
  by_cases hok : okT T
  · have hq : Q2 = tellP T := by rw [HQQ.out, if_pos hok]
    rw [hq, decide_eq_true hok] at HC
    have he : decE id bs = 2 := by rw [HD.out, if_neg (fun g => hall (HI.out.1 ⟨g.1, by simpa using g.2⟩))]
    have hp : pgA (decP id bs) = pgA Pg.zero := by rw [decP_no _ _ (by rw [he]; decide)]
    have HE := hide (And.intro hp he)
    by_cases hi : beAt T 0 2 = id
    · have hmx : (4611686018427387904 : Int) < (st : Int) := by
        have h1 : ¬ st ≤ maxP := fun h1 => hall ⟨hok, hi, h1⟩
        omega
      have K := fun w' (h' : IsB w' (some ⟨g3, 0, none⟩) 236 T) => tellsID_any (some ⟨g3, 0, none⟩) cap3 T id w' h' h
      rw [decide_eq_true hi] at K
      have HK := hide K
      clear he hp hq K HD HI HSC HQQ HTT HST hall e2 Q2 hok hi
      go_wp2_with fail
      refine HC.out.mono ?_
      rintro e w4 ⟨rfl, hb4⟩
      have HP4 := hide (HP3.out.below hb4 (Array.getElem?_eq_some_iff.1 HP3.out).1)
      have d4 := d3.trans (hb4.mono d3.size)
      have HB4 := hide (HB3.out.below hb4)
      clear HC hb4 HP3 d3 HB3
      go_wp2_with (refine wpList_store_at rfl 25 (.tmp 10) (.tmp 45) rfl w4.heap.size (csA Pg.zero) (csA (tellP T)) rfl rfl (RowAt.new w4 25 _) infoCs rfl (csA_one _) ?_)
      intro w5 hr5 hk5 _
      have s5 := hk5 _ _ ((Below.refl w4.heap.size w4).alloc (Nat.le_refl _) _) (Nat.le_refl _)
      have HR5 := hide hr5
      have HP5 := hide (HP4.out.below s5 (Array.getElem?_eq_some_iff.1 HP4.out).1)
      have d5 := d4.trans (s5.mono d4.size)
      have HB5 := hide (HB4.out.below s5)
      clear hr5 hk5 s5 HP4 d4 HB4
      go_wp2_with fail
      refine (HK.out _ HB5.out).mono ?_
      rintro e w6 ⟨rfl, rfl⟩
      clear HK HB5
      go_wp2_with (refine wpList_store_page rfl (.tmp 4) (.tmp 59) rfl w.heap.size Pg.zero Pg.zero rfl rfl HP5.out ?_)
      intro w7 hP7 hk7
      have HP7 := hide hP7
      have d7 := hk7 _ _ d5 (Nat.le_refl _)
      clear hP7 hk7 d5 HP5 HR5
      go_wp2
      rw [HE.out.1, HE.out.2]
      exact bodyPost_ret (res_page rfl _ _ w.heap.size Pg.zero rfl HP7.out) rfl ⟨rfl, d7⟩
    · have K := fun w' (h' : IsB w' (some ⟨g3, 0, none⟩) 236 T) => tellsID_any (some ⟨g3, 0, none⟩) cap3 T id w' h' h
      rw [decide_eq_false hi] at K
      have HK := hide K
      clear he hp hq K HD HI HSC HQQ HTT HST hall e2 Q2 hok hi
      go_wp2_with fail
      refine HC.out.mono ?_
      rintro e w4 ⟨rfl, hb4⟩
      have HP4 := hide (HP3.out.below hb4 (Array.getElem?_eq_some_iff.1 HP3.out).1)
      have d4 := d3.trans (hb4.mono d3.size)
      have HB4 := hide (HB3.out.below hb4)
      clear HC hb4 HP3 d3 HB3
      go_wp2_with (refine wpList_store_at rfl 25 (.tmp 10) (.tmp 45) rfl w4.heap.size (csA Pg.zero) (csA (tellP T)) rfl rfl (RowAt.new w4 25 _) infoCs rfl (csA_one _) ?_)
      intro w5 hr5 hk5 _
      have s5 := hk5 _ _ ((Below.refl w4.heap.size w4).alloc (Nat.le_refl _) _) (Nat.le_refl _)
      have HR5 := hide hr5
      have HP5 := hide (HP4.out.below s5 (Array.getElem?_eq_some_iff.1 HP4.out).1)
      have d5 := d4.trans (s5.mono d4.size)
      have HB5 := hide (HB4.out.below s5)
      clear hr5 hk5 s5 HP4 d4 HB4
      go_wp2_with fail
      refine (HK.out _ HB5.out).mono ?_
      rintro e w6 ⟨rfl, rfl⟩
      clear HK HB5
      go_wp2_with (refine wpList_store_page rfl (.tmp 4) (.tmp 59) rfl w.heap.size Pg.zero Pg.zero rfl rfl HP5.out ?_)
      intro w7 hP7 hk7
      have HP7 := hide hP7
      have d7 := hk7 _ _ d5 (Nat.le_refl _)
      clear hP7 hk7 d5 HP5 HR5
      go_wp2
      rw [HE.out.1, HE.out.2]
      exact bodyPost_ret (res_page rfl _ _ w.heap.size Pg.zero rfl HP7.out) rfl ⟨rfl, d7⟩
  · have hq : Q2 = Pg.zero := by rw [HQQ.out, if_neg hok]
    rw [hq, decide_eq_false hok] at HC
    have he : decE id bs = 2 := by rw [HD.out, if_neg (fun g => hall (HI.out.1 ⟨g.1, by simpa using g.2⟩))]
    have hp : pgA (decP id bs) = pgA Pg.zero := by rw [decP_no _ _ (by rw [he]; decide)]
    have HE := hide (And.intro hp he)
    clear he hp hq HD HI HSC HQQ HTT HST hall e2 Q2 hok
    go_wp2_with fail
    refine HC.out.mono ?_
    rintro e w4 ⟨rfl, hb4⟩
    have HP4 := hide (HP3.out.below hb4 (Array.getElem?_eq_some_iff.1 HP3.out).1)
    have d4 := d3.trans (hb4.mono d3.size)
    have HB4 := hide (HB3.out.below hb4)
    clear HC hb4 HP3 d3 HB3
    go_wp2_with (refine wpList_store_at rfl 25 (.tmp 10) (.tmp 45) rfl w4.heap.size (csA Pg.zero) (csA Pg.zero) rfl rfl (RowAt.new w4 25 _) infoCs rfl (csA_one _) ?_)
    intro w5 hr5 hk5 _
    have s5 := hk5 _ _ ((Below.refl w4.heap.size w4).alloc (Nat.le_refl _) _) (Nat.le_refl _)
    have HR5 := hide hr5
    have HP5 := hide (HP4.out.below s5 (Array.getElem?_eq_some_iff.1 HP4.out).1)
    have d5 := d4.trans (s5.mono d4.size)
    have HB5 := hide (HB4.out.below s5)
    clear hr5 hk5 s5 HP4 d4 HB4
    go_wp2_with (refine wpList_store_page rfl (.tmp 4) (.tmp 59) rfl w.heap.size Pg.zero Pg.zero rfl rfl HP5.out ?_)
    intro w7 hP7 hk7
    have HP7 := hide hP7
    have d7 := hk7 _ _ d5 (Nat.le_refl _)
    clear hP7 hk7 d5 HP5 HR5
    go_wp2
    rw [HE.out.1, HE.out.2]
    exact bodyPost_ret (res_page rfl _ _ w.heap.size Pg.zero rfl HP7.out) rfl ⟨rfl, d7⟩

/-- THE CONTRACT. -/
theorem dec_any (id : Int) (a : Option Addr) (len cap : Nat) (bs : List UInt8) (w : World) (hB : IsB w a len bs) (hl : len ≤ 140737488355328) (hcap : len ≤ cap) :
    Calls Try.prog 14 #[.int .i64 id, .slice a len cap] w fun e w' => e = .returned (.tuple #[.agg (pgA (decP id bs)), .int .i64 (decE id bs)]) ∧ Below w.heap.size w w' := by
  have hb := hB.1
  by_cases h : 0 ≤ id ∧ id ≤ 31
  · obtain ⟨n, rfl⟩ := Int.eq_ofNat_of_zero_le h.1
    by_cases h3 : len < 256
    · have e : decE n bs = 4 := by unfold decE; rw [if_neg (by simpa using h), if_pos (by omega)]
      rw [decP_no n bs (by rw [e]; decide), e]
      exact dec_few n a len cap w h (by omega)
    · by_cases h4 : 256 < len
      · have e : decE n bs = 2 := by unfold decE; rw [if_neg (by simpa using h), if_neg (by omega), if_pos (by omega)]
        rw [decP_no n bs (by rw [e]; decide), e]
        exact dec_many n a len cap w h (by omega) (by omega)
      · obtain rfl : len = 256 := by omega
        cases ht : tornB bs with
        | true =>
          have e : decE n bs = 14 := by unfold decE; rw [if_neg (by simpa using h), if_neg (by omega), if_neg (by omega), if_pos ht]
          rw [decP_no n bs (by rw [e]; decide), e]
          exact dec_tears n a cap w bs hB h ht
        | false =>
          obtain ⟨g, off, rfl, _⟩ := hB.2 (by omega)
          by_cases hs : leN ((taleOf bs).drop 236) = crc ((taleOf bs).take 236)
          · exact dec_tell n g off cap w bs hB hcap (by omega) ht hs
          · have e : decE n bs = 3 := by unfold decE; rw [if_neg (by simpa using h), if_neg (by omega), if_neg (by omega), if_neg (by simp [ht]), if_pos hs]
            rw [decP_no n bs (by rw [e]; decide), e]
            exact dec_sum n g off cap w bs hB hcap h ht hs
  · have e : decE id bs = 1 := by unfold decE; rw [if_pos h]
    rw [decP_no id bs (by rw [e]; decide), e]
    exact dec_id id a len cap w h
end Go.Proofs.Ytkbigineepohnaa
