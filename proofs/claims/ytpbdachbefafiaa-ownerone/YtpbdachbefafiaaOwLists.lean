/-
  The contracts of package owner's Of and Fail.
-/
import Derived.Test.YtpbdachbefafiaaOwCode
import Derived.Test.YtpbdachbefafiaaOwnRows
namespace Go.Proofs.Ytpbdachbefafiaa
open Go.RowKit
set_option linter.unusedVariables false

def intsV (l : List Int) : List Value := l.map (.int .i64 ·)
theorem intsV_snoc (l : List Int) (x : Int) : intsV (l ++ [x]) = intsV l ++ [.int .i64 x] := by simp [intsV]
theorem intsV_get (l : List Int) (j : Nat) (h : j < l.length) : (intsV l)[j]? = some (.int .i64 (l.getD j 0)) := by
  simp [intsV, List.getD, List.getElem?_eq_getElem h]
theorem infoI14 : (Try.prog.info? 3).map (fun i => (i.zero, i.size, i.bytes)) = some (some (.int .i64 0), 1, 8) := by kernel_rfl
/-- append(s, x) of one number, s the call's own. -/
theorem wpList_append_i (w : World) {ops : Array Oper} {rest : List Oper} {o : Oper} {a : Act} {Q : Exit → Act → World → Prop}
    (hg : o.guard = none) (s x : Operand) (hop : o.op = Op.call { callee := Callee.builtin Builtin.append, args := #[s, x], argTypes := #[35, 35] })
    (base : Nat) (v : Value) (n : Nat) (xs : List Value) (hs : a.eval s = v) (hown : w.ownsRow base 3 1 v n xs)
    (b : Nat) (y : Int) (hx : a.eval x = .slice (some ⟨b, 0, none⟩) 1 1) (hB : RowAt w b 3 #[.int .i64 y]) (hz : n ≤ 1000) (hbase : base ≤ w.heap.size)
    (hK : ∀ v' w', w'.ownsRow base 3 1 v' (n + 1) (xs ++ [.int .i64 y]) → w.grownBy w' v.ownBlock → wpList Try.prog ops Q rest (a.put o.dst v') w') :
    wpList Try.prog ops Q (o :: rest) a w := by
  obtain ⟨i, hi0, hi1⟩ := Option.map_eq_some_iff.1 infoI14
  simp only [Prod.mk.injEq] at hi1
  refine wpList_append_own w hg s x 35 hop base 3 i (.int .i64 0) 1 8 Try.underlying35 hi0 hi1.1 hi1.2.1 hi1.2.2 rfl (by decide) v n xs hs hown ⟨b, 0, none⟩ 1 1 [.int .i64 y] hx rfl ?_ ?_ (by unfold maxLen; omega) (by omega) hbase (fun v' w' h1 h2 _ => hK v' w' h1 h2)
  · intro j u hu
    match j with
    | 0 => simp at hu; subst hu; rw [Addr.add_lit]; exact hB.cell 0 _ rfl
    | j + 1 => simp at hu
  · intro u hu
    rw [List.mem_singleton.1 hu]
    rfl
section
variable {w : World} {g gr : Nat} {d : Dr}
set_option maxRecDepth 4000 in
set_option maxHeartbeats 1600000 in
theorem of14 (m k : Int) (h : DC w g gr d) : Calls Try.prog 13 #[.pointer (some ⟨g, 0, none⟩), .int .i64 m, .int .i64 k] w fun e w' => ∃ v, e = .returned v ∧ w'.ownsRow w.heap.size 3 1 v (d.of m k).length (intsV (d.of m k)) ∧ Below w.heap.size w w' := by
  have HH := hide h
  have h32 := h.few
  clear h
  unfold Dr.of
  by_cases hk : k = 0
  · rw [if_pos hk]
    have e1 : (k == 0) = true := by simpa using hk
    clear hk
    go_enter Try.func13, Try.ntmps13
    go_wp2
    go_ret
    exact ⟨_, rfl, World.ownsRow_nil _ _ _ _, Below.refl _ _⟩
  · rw [if_neg hk]
    have e1 : (k == 0) = false := by simpa using hk
    clear hk
    go_enter Try.func13, Try.ntmps13
    go_wp2_with fail
    refine (size14 HH.out).mono ?_
    rintro e w1 ⟨rfl, rfl⟩
    go_wp2
    go_loopw [7, 13] (fun v i wr => ∃ j : Nat, j ≤ d.n ∧ i = .int .i64 j ∧ Hid (wr.ownsRow w.heap.size 3 1 v (d.ofTo m k j).length (intsV (d.ofTo m k j)) ∧ Below w.heap.size w wr)) (fun _ i _ => d.n - (intOf i).toNat)
    case atStart => exact ⟨0, Nat.zero_le _, rfl, World.ownsRow_nil _ _ _ _, Below.refl _ _⟩
    case round =>
      obtain ⟨j, hj, rfl, HR⟩ := hrel
      by_cases hlt : j < d.n
      · have i1 : (j : Int) < d.n := by omega
        have HD := hide (HH.out.later HR.out.2)
        obtain ⟨cap, c0, hc, hc2⟩ := HD.out.head
        obtain ⟨d0, d1⟩ := HD.out.cell hlt
        by_cases hs : d.is j k m
        · have HL := hide (d.ofTo_yes m k j hs)
          obtain ⟨s1, s2⟩ := hs
          rw [s1] at d0
          rw [s2] at d1
          clear s1 s2
          have HZ := hide (show (d.ofTo m k j).length ≤ 1000 from by have := d.ofTo_len m k j; have := HH.out.few; omega)
          have HO := hide (ow_later HR.out.1 ((Below.refl _ _).alloc (Nat.le_refl _) (.cells #[.int .i64 (j : Int)] 3)))
          have HB := hide (HR.out.2.alloc HR.out.2.size (.cells #[.int .i64 (j : Int)] 3))
          have hN := RowAt.new wr 3 #[.int .i64 (j : Int)]
          go_wp2_with (refine wpList_append_i _ rfl _ _ rfl w.heap.size _ _ _ rfl HO.out wr.heap.size (j : Int) rfl hN HZ.out HB.out.size ?_)
          intro v' w2 h1 h2
          have HQ := hide (And.intro h1 (ow_below HO.out (Nat.le_refl _) HB.out HB.out.size h2))
          clear h1 h2
          go_wp2
          go_roundw
          case rel =>
            refine ⟨j + 1, by omega, by go_num, ?_⟩
            rw [HL.out, List.length_append, intsV_snoc]
            exact HQ.out
          case measure => simp [intOf]; omega
        · have HL := hide (d.ofTo_no m k j hs)
          by_cases s1 : (d.sp j).k = k
          · have s3 : ((d.sp j).m == m) = false := by
              rw [beq_eq_false_iff_ne]
              exact fun e => hs ⟨s1, e⟩
            rw [s1] at d0
            clear s1 hs
            generalize (d.sp j).m = m' at *
            go_wp2
            go_roundw
            case rel => exact ⟨j + 1, by omega, by go_num, by rw [HL.out]; exact HR.out⟩
            case measure => simp [intOf]; omega
          · have s3 : ((d.sp j).k == k) = false := by rw [beq_eq_false_iff_ne]; exact s1
            clear hs
            generalize (d.sp j).m = m' at *
            generalize (d.sp j).k = k' at *
            go_wp2
            go_roundw
            case rel => exact ⟨j + 1, by omega, by go_num, by rw [HL.out]; exact HR.out⟩
            case measure => simp [intOf]; omega
      · have i1 : ¬ (j : Int) < d.n := by omega
        have HE := hide (show j = d.n from by omega)
        go_wp2
        go_ret
        exact ⟨_, rfl, by rw [← HE.out]; exact HR.out.1, HR.out.2⟩
/-- A number laid behind one's own row leaves the directory. -/
theorem fail_push {x y : World} {v v' : Value} {n n' : Nat} {xs ys : List Value} {D : Dr} (h1 : y.ownsRow w.heap.size 3 1 v' n' ys) (h2 : x.grownBy y v.ownBlock) (hO : x.ownsRow w.heap.size 3 1 v n xs) (hD : DC x g gr D) (hT : Tn (Is gr) w x) (hgr : gr < w.heap.size) : y.ownsRow w.heap.size 3 1 v' n' ys ∧ DC y g gr D ∧ Tn (Is gr) w y := by
  have hown : ∀ k, v.ownBlock = some k → w.heap.size ≤ k ∧ ∃ cs, RowAt x k 3 cs := by
    intro k hk
    rcases hO.2 with ⟨rfl, _⟩ | ⟨b, cap, cur, rfl, hB, hr, _⟩
    · cases hk
    · injection hk with hk
      subst hk
      exact ⟨hB, cur, hr⟩
  have hTT : Tn (fun k => v.ownBlock = some k) x y := Tn.of_grown h2 (fun k hk => hk)
  obtain ⟨cs, ds, r1, r2⟩ := hD.kinds
  refine ⟨h1, hD.turn hTT (fun e => ?_) (fun e => ?_), hT.trans hTT (fun k hk => .inr (hown k hk).1)⟩
  · obtain ⟨_, cs', q⟩ := hown g e
    exact absurd (row_kind r1 q) (by decide)
  · obtain ⟨_, cs', q⟩ := hown gr e
    exact absurd (row_kind r2 q) (by decide)
set_option maxRecDepth 4000 in
set_option maxHeartbeats 1600000 in
theorem fail14 (m : Int) (h : DC w g gr d) : Calls Try.prog 15 #[.pointer (some ⟨g, 0, none⟩), .int .i64 m] w fun e w' => ∃ v, e = .returned v ∧ w'.ownsRow w.heap.size 3 1 v (d.faL m).length (intsV (d.faL m)) ∧ DC w' g gr (d.fa m) ∧ Tn (Is gr) w w' := by
  have HH := hide h
  have h32 := h.few
  have HGR := hide h.lt.2
  clear h
  unfold Dr.faL Dr.fa
  go_enter Try.func15, Try.ntmps15
  go_wp2_with fail
  refine (size14 HH.out).mono ?_
  rintro e w1 ⟨rfl, rfl⟩
  go_wp2
  go_loopw [5, 10] (fun v i wr => ∃ j : Nat, j ≤ d.n ∧ i = .int .i64 j ∧ Hid (wr.ownsRow w.heap.size 3 1 v (d.faTo m j).length (intsV (d.faTo m j)) ∧ DC wr g gr (d.faD m j) ∧ Tn (Is gr) w wr)) (fun _ i _ => d.n - (intOf i).toNat)
  case atStart => exact ⟨0, Nat.zero_le _, rfl, World.ownsRow_nil _ _ _ _, by rw [Dr.faD_zero]; exact HH.out, Tn.refl _ _⟩
  case round =>
    obtain ⟨j, hj, rfl, HR⟩ := hrel
    by_cases hlt : j < d.n
    · have i1 : (j : Int) < d.n := by omega
      have HD := hide HR.out.2.1
      obtain ⟨cap, c0, hc, hc2⟩ := HD.out.head
      obtain ⟨d0, d1⟩ := HD.out.cell (i := j) hlt
      rw [Dr.faD_at] at d0 d1
      have c0' : wr.cell? ⟨g, 0, none⟩ = some (.slice (some ⟨gr, 0, none⟩) d.n cap) := c0
      have hc' : d.n ≤ cap := hc
      have f0 := HD.out.free (j * 2)
      clear c0 hc
      by_cases hs : d.goes j m
      · have HL := hide (And.intro (d.faTo_yes m j hs) (d.faD_yes m j hs))
        obtain ⟨s1, s2⟩ := hs
        have HM := hide s1
        rw [s1] at d1
        have HZ := hide (show (d.faTo m j).length ≤ 1000 from by have := d.faTo_len m j; omega)
        obtain ⟨W, hW⟩ : ∃ W, W = wr.setCell ⟨gr, j * 2, none⟩ (.int .i64 3) := ⟨_, rfl⟩
        have hTW : Tn (Is gr) wr W := by rw [hW]; exact (Tn.refl _ _).set gr _ _ rfl
        have HW1 := hide (show DC W g gr (d.faD m (j + 1)) from by
          have q := HD.out.one (i := j) hlt 3
          rw [Dr.faD_at, s1] at q
          rw [hW, HL.out.2]
          exact q)
        have HO1 := hide (ow_turn HR.out.1 hTW (fun k hk => by rw [show k = gr from hk]; exact HGR.out))
        have HT1 := hide (HR.out.2.2.then hTW)
        have HO := hide (ow_later HO1.out ((Below.refl _ _).alloc (Nat.le_refl _) (.cells #[.int .i64 (j : Int)] 3)))
        have hbW : Below W.heap.size W (W.alloc (.cells #[.int .i64 (j : Int)] 3)) := (Below.refl _ _).alloc (Nat.le_refl _) _
        have HD2 := hide (HW1.out.later hbW)
        have HT2 := hide (HT1.out.later hbW)
        have hN := RowAt.new W 3 #[.int .i64 (j : Int)]
        have HS2 := hide (show w.heap.size ≤ (W.alloc (.cells #[.int .i64 (j : Int)] 3)).heap.size from HT2.out.size)
        have HSW : W.heap.size = wr.heap.size := by rw [hW]; exact World.size_setCell _ _ _
        have hN2 : RowAt (W.alloc (.cells #[.int .i64 (j : Int)] 3)) wr.heap.size 3 #[.int .i64 (j : Int)] := by rw [← HSW]; exact hN
        clear hbW hTW s1 hN HSW
        subst hW
        rcases s2 with s2 | s2
        · rw [s2] at d0
          clear s2
          go_wp2_with (refine wpList_append_i _ rfl _ _ rfl w.heap.size _ _ _ rfl HO.out wr.heap.size (j : Int) rfl hN2 HZ.out HS2.out ?_)
          intro v' w2 h1 h2
          have HQ := hide (fail_push h1 h2 HO.out HD2.out HT2.out HGR.out)
          clear h1 h2
          go_wp2
          go_roundw
          case rel =>
            refine ⟨j + 1, by omega, by go_num, ?_⟩
            rw [HL.out.1, List.length_append, intsV_snoc]
            exact HQ.out
          case measure => simp [intOf]; omega
        · rw [s2] at d0
          clear s2
          go_wp2_with (refine wpList_append_i _ rfl _ _ rfl w.heap.size _ _ _ rfl HO.out wr.heap.size (j : Int) rfl hN2 HZ.out HS2.out ?_)
          intro v' w2 h1 h2
          have HQ := hide (fail_push h1 h2 HO.out HD2.out HT2.out HGR.out)
          clear h1 h2
          go_wp2
          go_roundw
          case rel =>
            refine ⟨j + 1, by omega, by go_num, ?_⟩
            rw [HL.out.1, List.length_append, intsV_snoc]
            exact HQ.out
          case measure => simp [intOf]; omega
      · have HL := hide (And.intro (d.faTo_no m j hs) (d.faD_no m j hs))
        by_cases s1 : (d.sp j).m = m
        · have s2 : ((d.sp j).k == 1) = false := by
            rw [beq_eq_false_iff_ne]
            exact fun e => hs ⟨s1, .inl e⟩
          have s3 : ((d.sp j).k == 2) = false := by
            rw [beq_eq_false_iff_ne]
            exact fun e => hs ⟨s1, .inr e⟩
          rw [s1] at d1
          clear s1 hs
          generalize (d.sp j).k = k' at *
          go_wp2
          go_roundw
          case rel => exact ⟨j + 1, by omega, by go_num, by rw [HL.out.1, HL.out.2]; exact HR.out⟩
          case measure => simp [intOf]; omega
        · have s3 : ((d.sp j).m == m) = false := by rw [beq_eq_false_iff_ne]; exact s1
          clear hs
          generalize (d.sp j).m = m' at *
          generalize (d.sp j).k = k' at *
          go_wp2
          go_roundw
          case rel => exact ⟨j + 1, by omega, by go_num, by rw [HL.out.1, HL.out.2]; exact HR.out⟩
          case measure => simp [intOf]; omega
    · have i1 : ¬ (j : Int) < d.n := by omega
      have HE := hide (show j = d.n from by omega)
      go_wp2
      go_ret
      rw [← HE.out]
      exact ⟨_, rfl, HR.out⟩
end
end Go.Proofs.Ytpbdachbefafiaa
