/-
  The contracts of the document's own Ask, Of and Fail. (gen14/ref3.py)
-/
import Derived.Test.YtpbdachbefafiaaOwRef2
namespace Go.Proofs.Ytpbdachbefafiaa
open Go.RowKit
set_option linter.unusedVariables false

section
variable {w : World} {g gr : Nat} {d : Dr}
set_option maxRecDepth 4000 in
set_option maxHeartbeats 1600000 in
theorem rask14 (p m : Int) (h : DD w g gr d) : Calls Try.prog 21 #[.pointer (some ⟨g, 0, none⟩), .int .i64 p, .int .i64 m] w fun e w' => e = .returned (.tuple #[.int .i64 (d.askN p m), .int .i64 (d.askE p m)]) ∧ DD w' g gr (d.ask p m) ∧ Tn (Is gr) w w' := by
  have HF := hide (rok14 p h)
  have HH := hide h
  have HL := hide h.lt.2
  have hne : ¬ gr = w.heap.size := fun e => by have := HL.out; omega
  have h32 := h.few
  clear h
  unfold Dr.askN Dr.askE Dr.ask
  cases e : d.ix p with
  | none =>
    rw [e] at HF
    clear e
    go_enter Try.func21, Try.ntmps21
    go_wp2_with fail
    refine HF.out.mono ?_
    rintro e w1 ⟨rfl, rfl⟩
    go_wp2
    go_ret2
    exact ⟨rfl, HH.out, Tn.refl _ _⟩
  | some i =>
    rw [e] at HF
    obtain ⟨rfl, hi⟩ := Dr.ix_some e
    have HI := hide hi
    obtain ⟨d0, d1⟩ := HH.out.cell hi
    obtain ⟨cap, c0, hc, hc2⟩ := HH.out.head
    have i1 : (i : Int) < d.n := by omega
    have hnd := fun w => rnode14 (w := w) m
    clear e
    simp only []
    by_cases hm : isNd m = true
    · rw [if_pos hm, if_pos hm, if_pos hm]
      rw [hm] at hnd
      have HN := hide hnd
      clear hm hnd
      by_cases h0 : (d.sp i).k = 0
      · rw [if_pos h0, if_pos h0, if_pos h0]
        rw [h0] at d0
        clear h0
        generalize (d.sp i).m = m' at *
        obtain ⟨W, hW⟩ : ∃ W, W = w.alloc (.cells #[.int .i64 0, .int .i64 m'] 64) := ⟨_, rfl⟩
        have hb : Below w.heap.size w W := by rw [hW]; exact (Below.refl _ _).alloc (Nat.le_refl _) _
        have HT := hide (show Tn (Is gr) w W from Tn.of_below hb)
        have hN : RowAt W w.heap.size 64 #[.int .i64 0, .int .i64 m'] := by rw [hW]; exact RowAt.new w _ _
        have b0 := hN.cell 0 _ rfl
        have b1 := hN.cell 1 _ rfl
        have HD := hide (HH.out.later hb)
        obtain ⟨capW, cW, hcW, hcW2⟩ := HD.out.head
        obtain ⟨dW0, dW1⟩ := HD.out.cell HI.out
        have f0 := HD.out.free (i * 2)
        have f1 := HD.out.free (i * 2 + 1)
        subst hW
        clear hb hN
        go_enter Try.func21, Try.ntmps21
        go_wp2_with fail
        refine HF.out.mono ?_
        rintro e w1 ⟨rfl, rfl⟩
        go_wp2_with fail
        refine (HN.out _).mono ?_
        rintro e w1 ⟨rfl, rfl⟩
        go_wp2
        go_ret2
        exact ⟨rfl, HD.out.two HI.out ⟨1, m⟩, (HT.out.set gr _ _ rfl).set gr _ _ rfl⟩
      · rw [if_neg h0, if_neg h0, if_neg h0]
        have e0 : ((d.sp i).k == 0) = false := by simpa using h0
        by_cases hs : d.is i 1 m
        · rw [if_pos hs, if_pos hs]
          obtain ⟨s1, s2⟩ := hs
          rw [s1] at d0 e0
          rw [s2] at d1
          clear s1 s2 h0
          obtain ⟨W, hW⟩ : ∃ W, W = w.alloc (.cells #[.int .i64 1, .int .i64 m] 64) := ⟨_, rfl⟩
          have hb : Below w.heap.size w W := by rw [hW]; exact (Below.refl _ _).alloc (Nat.le_refl _) _
          have HT := hide (show Tn (Is gr) w W from Tn.of_below hb)
          have hN : RowAt W w.heap.size 64 #[.int .i64 1, .int .i64 m] := by rw [hW]; exact RowAt.new w _ _
          have b0 := hN.cell 0 _ rfl
          have b1 := hN.cell 1 _ rfl
          have HD := hide (HH.out.later hb)
          obtain ⟨capW, cW, hcW, hcW2⟩ := HD.out.head
          obtain ⟨dW0, dW1⟩ := HD.out.cell HI.out
          have f0 := HD.out.free (i * 2)
          have f1 := HD.out.free (i * 2 + 1)
          subst hW
          clear hb hN
          go_enter Try.func21, Try.ntmps21
          go_wp2_with fail
          refine HF.out.mono ?_
          rintro e w1 ⟨rfl, rfl⟩
          go_wp2_with fail
          refine (HN.out _).mono ?_
          rintro e w1 ⟨rfl, rfl⟩
          go_wp2
          go_ret2
          exact ⟨rfl, HD.out, HT.out⟩
        · rw [if_neg hs, if_neg hs]
          by_cases s1 : (d.sp i).k = 1
          · have s3 : ((d.sp i).m == m) = false := by
              rw [beq_eq_false_iff_ne]
              exact fun e => hs ⟨s1, e⟩
            rw [s1] at d0
            clear s1 hs h0 e0
            generalize (d.sp i).m = m' at *
            obtain ⟨W, hW⟩ : ∃ W, W = w.alloc (.cells #[.int .i64 1, .int .i64 m'] 64) := ⟨_, rfl⟩
            have hb : Below w.heap.size w W := by rw [hW]; exact (Below.refl _ _).alloc (Nat.le_refl _) _
            have HT := hide (show Tn (Is gr) w W from Tn.of_below hb)
            have hN : RowAt W w.heap.size 64 #[.int .i64 1, .int .i64 m'] := by rw [hW]; exact RowAt.new w _ _
            have b0 := hN.cell 0 _ rfl
            have b1 := hN.cell 1 _ rfl
            have HD := hide (HH.out.later hb)
            obtain ⟨capW, cW, hcW, hcW2⟩ := HD.out.head
            obtain ⟨dW0, dW1⟩ := HD.out.cell HI.out
            have f0 := HD.out.free (i * 2)
            have f1 := HD.out.free (i * 2 + 1)
            subst hW
            clear hb hN
            go_enter Try.func21, Try.ntmps21
            go_wp2_with fail
            refine HF.out.mono ?_
            rintro e w1 ⟨rfl, rfl⟩
            go_wp2_with fail
            refine (HN.out _).mono ?_
            rintro e w1 ⟨rfl, rfl⟩
            go_wp2
            go_ret2
            exact ⟨rfl, HD.out, HT.out⟩
          · have s3 : ((d.sp i).k == 1) = false := by rw [beq_eq_false_iff_ne]; exact s1
            clear hs
            generalize (d.sp i).m = m' at *
            generalize (d.sp i).k = k' at *
            obtain ⟨W, hW⟩ : ∃ W, W = w.alloc (.cells #[.int .i64 k', .int .i64 m'] 64) := ⟨_, rfl⟩
            have hb : Below w.heap.size w W := by rw [hW]; exact (Below.refl _ _).alloc (Nat.le_refl _) _
            have HT := hide (show Tn (Is gr) w W from Tn.of_below hb)
            have hN : RowAt W w.heap.size 64 #[.int .i64 k', .int .i64 m'] := by rw [hW]; exact RowAt.new w _ _
            have b0 := hN.cell 0 _ rfl
            have b1 := hN.cell 1 _ rfl
            have HD := hide (HH.out.later hb)
            obtain ⟨capW, cW, hcW, hcW2⟩ := HD.out.head
            obtain ⟨dW0, dW1⟩ := HD.out.cell HI.out
            have f0 := HD.out.free (i * 2)
            have f1 := HD.out.free (i * 2 + 1)
            subst hW
            clear hb hN
            go_enter Try.func21, Try.ntmps21
            go_wp2_with fail
            refine HF.out.mono ?_
            rintro e w1 ⟨rfl, rfl⟩
            go_wp2_with fail
            refine (HN.out _).mono ?_
            rintro e w1 ⟨rfl, rfl⟩
            go_wp2
            go_ret2
            exact ⟨rfl, HD.out, HT.out⟩
    · rw [if_neg hm, if_neg hm, if_neg hm]
      rw [show isNd m = false by simpa using hm] at hnd
      have HN := hide hnd
      clear hm hnd
      go_enter Try.func21, Try.ntmps21
      go_wp2_with fail
      refine HF.out.mono ?_
      rintro e w1 ⟨rfl, rfl⟩
      go_wp2_with fail
      refine (HN.out _).mono ?_
      rintro e w1 ⟨rfl, rfl⟩
      go_wp2
      go_ret2
      exact ⟨rfl, HH.out, Tn.refl _ _⟩
set_option maxRecDepth 4000 in
set_option maxHeartbeats 1600000 in
theorem rof14 (m k : Int) (h : DD w g gr d) : Calls Try.prog 28 #[.pointer (some ⟨g, 0, none⟩), .int .i64 m, .int .i64 k] w fun e w' => ∃ v, e = .returned v ∧ w'.ownsRow w.heap.size 3 1 v (d.of m k).length (intsV (d.of m k)) ∧ Below w.heap.size w w' := by
  have HH := hide h
  have h32 := h.few
  clear h
  unfold Dr.of
  by_cases hk : k = 0
  · rw [if_pos hk]
    have e1 : (k == 0) = true := by simpa using hk
    have e2 : (k != 0) = false := by simpa using hk
    clear hk
    obtain ⟨cap, c0, hc, hc2⟩ := HH.out.head
    go_enter Try.func28, Try.ntmps28
    go_wp2
    clear c0 hc hc2
    go_loopw [7, 14] (fun v i wr => ∃ j : Nat, j ≤ d.n ∧ i = .int .i64 j ∧ v = .slice none 0 0 ∧ wr = w) (fun _ i _ => d.n - (intOf i).toNat)
    case atStart => exact ⟨0, Nat.zero_le _, rfl, rfl, rfl⟩
    case round =>
      obtain ⟨j, hj, rfl, rfl, rfl⟩ := hrel
      by_cases hlt : j < d.n
      · have i1 : (j : Int) < d.n := by omega
        go_wp2
        go_roundw
        case rel => exact ⟨j + 1, by omega, by go_num, by first | rfl | trivial, by first | rfl | trivial⟩
        case measure => simp [intOf]; omega
      · have i1 : ¬ (j : Int) < d.n := by omega
        go_wp2
        go_ret
        exact ⟨_, rfl, World.ownsRow_nil _ _ _ _, Below.refl _ _⟩
  · rw [if_neg hk]
    have e1 : (k == 0) = false := by simpa using hk
    have e2 : (k != 0) = true := by simpa using hk
    clear hk
    go_enter Try.func28, Try.ntmps28
    obtain ⟨cap, c0, hc, hc2⟩ := HH.out.head
    go_wp2
    clear c0 hc hc2
    go_loopw [7, 14] (fun v i wr => ∃ j : Nat, j ≤ d.n ∧ i = .int .i64 j ∧ Hid (wr.ownsRow w.heap.size 3 1 v (d.ofTo m k j).length (intsV (d.ofTo m k j)) ∧ Below w.heap.size w wr)) (fun _ i _ => d.n - (intOf i).toNat)
    case atStart => exact ⟨0, Nat.zero_le _, rfl, World.ownsRow_nil _ _ _ _, Below.refl _ _⟩
    case round =>
      obtain ⟨j, hj, rfl, HR⟩ := hrel
      by_cases hlt : j < d.n
      · have i1 : (j : Int) < d.n := by omega
        have HD := hide (HH.out.later HR.out.2)
        obtain ⟨cap, c0, hc, hc2⟩ := HD.out.head
        obtain ⟨d0, d1⟩ := HD.out.cell hlt
        by_cases hs : d.is j k m
        · have HL := hide (d.ofTo_yes m k j hs)
          obtain ⟨s1, s2⟩ := hs
          rw [s1] at d0
          rw [s2] at d1
          clear s1 s2
          have HZ := hide (show (d.ofTo m k j).length ≤ 1000 from by have := d.ofTo_len m k j; have := HH.out.few; omega)
          have HO := hide (ow_later HR.out.1 ((Below.refl _ _).alloc (Nat.le_refl _) (.cells #[.int .i64 (j : Int)] 3)))
          have HB := hide (HR.out.2.alloc HR.out.2.size (.cells #[.int .i64 (j : Int)] 3))
          have hN := RowAt.new wr 3 #[.int .i64 (j : Int)]
          go_wp2_with (refine wpList_append_i _ rfl _ _ rfl w.heap.size _ _ _ rfl HO.out wr.heap.size (j : Int) rfl hN HZ.out HB.out.size ?_)
          intro v' w2 h1 h2
          have HQ := hide (And.intro h1 (ow_below HO.out (Nat.le_refl _) HB.out HB.out.size h2))
          clear h1 h2
          go_wp2
          go_roundw
          case rel =>
            refine ⟨j + 1, by omega, by go_num, ?_⟩
            rw [HL.out, List.length_append, intsV_snoc]
            exact HQ.out
          case measure => simp [intOf]; omega
        · have HL := hide (d.ofTo_no m k j hs)
          by_cases s1 : (d.sp j).k = k
          · have s3 : ((d.sp j).m == m) = false := by
              rw [beq_eq_false_iff_ne]
              exact fun e => hs ⟨s1, e⟩
            rw [s1] at d0
            clear s1 hs
            generalize (d.sp j).m = m' at *
            go_wp2
            go_roundw
            case rel => exact ⟨j + 1, by omega, by go_num, by rw [HL.out]; exact HR.out⟩
            case measure => simp [intOf]; omega
          · have s3 : ((d.sp j).k == k) = false := by rw [beq_eq_false_iff_ne]; exact s1
            clear hs
            generalize (d.sp j).m = m' at *
            generalize (d.sp j).k = k' at *
            go_wp2
            go_roundw
            case rel => exact ⟨j + 1, by omega, by go_num, by rw [HL.out]; exact HR.out⟩
            case measure => simp [intOf]; omega
      · have i1 : ¬ (j : Int) < d.n := by omega
        have HE := hide (show j = d.n from by omega)
        go_wp2
        go_ret
        exact ⟨_, rfl, by rw [← HE.out]; exact HR.out.1, HR.out.2⟩
/-- A number laid behind one's own row leaves the directory. -/
theorem rfail_push {x y : World} {v v' : Value} {n n' : Nat} {xs ys : List Value} {D : Dr} (h1 : y.ownsRow w.heap.size 3 1 v' n' ys) (h2 : x.grownBy y v.ownBlock) (hO : x.ownsRow w.heap.size 3 1 v n xs) (hD : DD x g gr D) (hT : Tn (Is gr) w x) (hgr : gr < w.heap.size) : y.ownsRow w.heap.size 3 1 v' n' ys ∧ DD y g gr D ∧ Tn (Is gr) w y := by
  have hown : ∀ k, v.ownBlock = some k → w.heap.size ≤ k ∧ ∃ cs, RowAt x k 3 cs := by
    intro k hk
    rcases hO.2 with ⟨rfl, _⟩ | ⟨b, cap, cur, rfl, hB, hr, _⟩
    · cases hk
    · injection hk with hk
      subst hk
      exact ⟨hB, cur, hr⟩
  have hTT : Tn (fun k => v.ownBlock = some k) x y := Tn.of_grown h2 (fun k hk => hk)
  obtain ⟨cs, ds, r1, r2⟩ := hD.kinds
  refine ⟨h1, hD.turn hTT (fun e => ?_) (fun e => ?_), hT.trans hTT (fun k hk => .inr (hown k hk).1)⟩
  · obtain ⟨_, cs', q⟩ := hown g e
    exact absurd (row_kind r1 q) (by decide)
  · obtain ⟨_, cs', q⟩ := hown gr e
    exact absurd (row_kind r2 q) (by decide)
set_option maxRecDepth 4000 in
set_option maxHeartbeats 1600000 in
theorem rfail14 (m : Int) (h : DD w g gr d) : Calls Try.prog 26 #[.pointer (some ⟨g, 0, none⟩), .int .i64 m] w fun e w' => ∃ v, e = .returned v ∧ w'.ownsRow w.heap.size 3 1 v (d.faL m).length (intsV (d.faL m)) ∧ DD w' g gr (d.fa m) ∧ Tn (Is gr) w w' := by
  have HH := hide h
  have h32 := h.few
  have HGR := hide h.lt.2
  clear h
  unfold Dr.faL Dr.fa
  go_enter Try.func26, Try.ntmps26
  obtain ⟨cap, c0, hc, hc2⟩ := HH.out.head
  go_wp2
  clear c0 hc hc2
  go_loopw [5, 12] (fun v i wr => ∃ j : Nat, j ≤ d.n ∧ i = .int .i64 j ∧ Hid (wr.ownsRow w.heap.size 3 1 v (d.faTo m j).length (intsV (d.faTo m j)) ∧ DD wr g gr (d.faD m j) ∧ Tn (Is gr) w wr)) (fun _ i _ => d.n - (intOf i).toNat)
  case atStart => exact ⟨0, Nat.zero_le _, rfl, World.ownsRow_nil _ _ _ _, by rw [Dr.faD_zero]; exact HH.out, Tn.refl _ _⟩
  case round =>
    obtain ⟨j, hj, rfl, HR⟩ := hrel
    by_cases hlt : j < d.n
    · have i1 : (j : Int) < d.n := by omega
      have HD := hide HR.out.2.1
      obtain ⟨cap, c0, hc, hc2⟩ := HD.out.head
      obtain ⟨d0, d1⟩ := HD.out.cell (i := j) hlt
      rw [Dr.faD_at] at d0 d1
      have c0' : wr.cell? ⟨g, 0, none⟩ = some (.slice (some ⟨gr, 0, none⟩) d.n cap) := c0
      have hc' : d.n ≤ cap := hc
      have f0 := HD.out.free (j * 2)
      clear c0 hc
      by_cases hs : d.goes j m
      · have HL := hide (And.intro (d.faTo_yes m j hs) (d.faD_yes m j hs))
        obtain ⟨s1, s2⟩ := hs
        have HM := hide s1
        rw [s1] at d1
        have HZ := hide (show (d.faTo m j).length ≤ 1000 from by have := d.faTo_len m j; omega)
        obtain ⟨W, hW⟩ : ∃ W, W = wr.setCell ⟨gr, j * 2, none⟩ (.int .i64 3) := ⟨_, rfl⟩
        have hTW : Tn (Is gr) wr W := by rw [hW]; exact (Tn.refl _ _).set gr _ _ rfl
        have HW1 := hide (show DD W g gr (d.faD m (j + 1)) from by
          have q := HD.out.one (i := j) hlt 3
          rw [Dr.faD_at, s1] at q
          rw [hW, HL.out.2]
          exact q)
        have HO1 := hide (ow_turn HR.out.1 hTW (fun k hk => by rw [show k = gr from hk]; exact HGR.out))
        have HT1 := hide (HR.out.2.2.then hTW)
        have HO := hide (ow_later HO1.out ((Below.refl _ _).alloc (Nat.le_refl _) (.cells #[.int .i64 (j : Int)] 3)))
        have hbW : Below W.heap.size W (W.alloc (.cells #[.int .i64 (j : Int)] 3)) := (Below.refl _ _).alloc (Nat.le_refl _) _
        have HD2 := hide (HW1.out.later hbW)
        have HT2 := hide (HT1.out.later hbW)
        have hN := RowAt.new W 3 #[.int .i64 (j : Int)]
        have HS2 := hide (show w.heap.size ≤ (W.alloc (.cells #[.int .i64 (j : Int)] 3)).heap.size from HT2.out.size)
        have HSW : W.heap.size = wr.heap.size := by rw [hW]; exact World.size_setCell _ _ _
        have hN2 : RowAt (W.alloc (.cells #[.int .i64 (j : Int)] 3)) wr.heap.size 3 #[.int .i64 (j : Int)] := by rw [← HSW]; exact hN
        clear hbW hTW s1 hN HSW
        subst hW
        rcases s2 with s2 | s2
        · rw [s2] at d0
          clear s2
          go_wp2_with (refine wpList_append_i _ rfl _ _ rfl w.heap.size _ _ _ rfl HO.out wr.heap.size (j : Int) rfl hN2 HZ.out HS2.out ?_)
          intro v' w2 h1 h2
          have HQ := hide (rfail_push h1 h2 HO.out HD2.out HT2.out HGR.out)
          clear h1 h2
          go_wp2
          go_roundw
          case rel =>
            refine ⟨j + 1, by omega, by go_num, ?_⟩
            rw [HL.out.1, List.length_append, intsV_snoc]
            exact HQ.out
          case measure => simp [intOf]; omega
        · rw [s2] at d0
          clear s2
          go_wp2_with (refine wpList_append_i _ rfl _ _ rfl w.heap.size _ _ _ rfl HO.out wr.heap.size (j : Int) rfl hN2 HZ.out HS2.out ?_)
          intro v' w2 h1 h2
          have HQ := hide (rfail_push h1 h2 HO.out HD2.out HT2.out HGR.out)
          clear h1 h2
          go_wp2
          go_roundw
          case rel =>
            refine ⟨j + 1, by omega, by go_num, ?_⟩
            rw [HL.out.1, List.length_append, intsV_snoc]
            exact HQ.out
          case measure => simp [intOf]; omega
      · have HL := hide (And.intro (d.faTo_no m j hs) (d.faD_no m j hs))
        by_cases s1 : (d.sp j).m = m
        · have s2 : ((d.sp j).k == 1) = false := by
            rw [beq_eq_false_iff_ne]
            exact fun e => hs ⟨s1, .inl e⟩
          have s3 : ((d.sp j).k == 2) = false := by
            rw [beq_eq_false_iff_ne]
            exact fun e => hs ⟨s1, .inr e⟩
          rw [s1] at d1
          clear s1 hs
          generalize (d.sp j).k = k' at *
          go_wp2
          go_roundw
          case rel => exact ⟨j + 1, by omega, by go_num, by rw [HL.out.1, HL.out.2]; exact HR.out⟩
          case measure => simp [intOf]; omega
        · have s3 : ((d.sp j).m == m) = false := by rw [beq_eq_false_iff_ne]; exact s1
          clear hs
          generalize (d.sp j).m = m' at *
          generalize (d.sp j).k = k' at *
          go_wp2
          go_roundw
          case rel => exact ⟨j + 1, by omega, by go_num, by rw [HL.out.1, HL.out.2]; exact HR.out⟩
          case measure => simp [intOf]; omega
    · have i1 : ¬ (j : Int) < d.n := by omega
      have HE := hide (show j = d.n from by omega)
      go_wp2
      go_ret
      rw [← HE.out]
      exact ⟨_, rfl, HR.out⟩
end
end Go.Proofs.Ytpbdachbefafiaa
