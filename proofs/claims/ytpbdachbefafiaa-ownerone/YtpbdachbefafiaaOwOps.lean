/-
  The contracts of package owner's calls on one page.
-/
import Derived.Test.YtpbdachbefafiaaOwCode
import Derived.Test.YtpbdachbefafiaaQuietIn
namespace Go.Proofs.Ytpbdachbefafiaa
open Go.RowKit
set_option linter.unusedVariables false

section
variable {w : World} {g gr : Nat} {d : Dr}
set_option maxRecDepth 4000 in
set_option maxHeartbeats 800000 in
theorem where14 (p : Int) (h : DC w g gr d) : Calls Try.prog 14 #[.pointer (some ⟨g, 0, none⟩), .int .i64 p] w fun e w' => e = .returned (.tuple #[.int .i64 (d.wh p).k, .int .i64 (d.wh p).m]) ∧ Below w.heap.size w w' := by
  have HF := hide (at14 p h)
  unfold Dr.wh
  cases e : d.ix p with
  | none =>
    rw [e] at HF
    clear h e
    go_enter Try.func14, Try.ntmps14
    go_wp2_with fail
    refine HF.out.mono ?_
    rintro e w1 ⟨rfl, rfl⟩
    go_wp2
    go_ret2
    exact ⟨rfl, Below.refl _ _⟩
  | some i =>
    rw [e] at HF
    obtain ⟨-, hi⟩ := Dr.ix_some e
    obtain ⟨d0, d1⟩ := h.cell hi
    clear h e hi
    generalize (d.sp i).k = k at *
    generalize (d.sp i).m = m at *
    go_enter Try.func14, Try.ntmps14
    go_wp2_with fail
    refine HF.out.mono ?_
    rintro e w1 ⟨rfl, rfl⟩
    go_wp2_with fail
    go_quiet (fail)
    go_wp2
    go_ret2
    exact ⟨rfl, below_dn (Below.refl _ _) _⟩
set_option maxRecDepth 4000 in
set_option maxHeartbeats 800000 in
theorem move14 (p m k : Int) (t : Sp) (h : DC w g gr d) : Calls Try.prog 33 #[.pointer (some ⟨g, 0, none⟩), .int .i64 p, .int .i64 m, .int .i64 k, .agg #[.int .i64 t.k, .int .i64 t.m]] w fun e w' => e = .returned (.int .i64 (d.mvE p m k)) ∧ DC w' g gr (d.mv p m k t) ∧ Tn (Is gr) w w' := by
  have hb : Below w.heap.size w (w.alloc (.cells #[.int .i64 t.k, .int .i64 t.m] 68)) := (Below.refl _ _).alloc (Nat.le_refl _) _
  have HT := hide (show Tn (Is gr) w (w.alloc (.cells #[.int .i64 t.k, .int .i64 t.m] 68)) from Tn.of_below hb)
  have hN := RowAt.new w 68 #[.int .i64 t.k, .int .i64 t.m]
  have HL := hide h.lt.2
  have h' := h.later hb
  have b0 := hN.cell 0 _ rfl
  have b1 := hN.cell 1 _ rfl
  have HF := hide (at14 p h')
  have HH := hide h'
  have hne : ¬ gr = w.heap.size := fun e => by have := HL.out; omega
  clear h h' hb hN
  unfold Dr.mvE Dr.mv
  cases e : d.ix p with
  | none =>
    rw [e] at HF
    clear e
    go_enter Try.func33, Try.ntmps33
    go_wp2_with fail
    refine HF.out.mono ?_
    rintro e w1 ⟨rfl, rfl⟩
    go_wp2
    go_ret
    exact ⟨rfl, HH.out, HT.out⟩
  | some i =>
    rw [e] at HF
    obtain ⟨-, hi⟩ := Dr.ix_some e
    have HI := hide hi
    obtain ⟨d0, d1⟩ := HH.out.cell hi
    have f0 := HH.out.free (i * 2)
    have f1 := HH.out.free (i * 2 + 1)
    clear e hi
    simp only []
    by_cases hm : isNd m = true
    · rw [if_pos hm, if_pos hm]
      have hnd := fun w => isNode14 (w := w) m
      rw [hm] at hnd
      have HN := hide hnd
      clear hm hnd
      by_cases hs : d.is i k m
      · rw [if_pos hs, if_pos hs]
        obtain ⟨s1, s2⟩ := hs
        rw [s1] at d0
        rw [s2] at d1
        clear s1 s2
        go_enter Try.func33, Try.ntmps33
        go_wp2_with fail
        refine HF.out.mono ?_
        rintro e w1 ⟨rfl, rfl⟩
        go_wp2_with fail
        refine (HN.out _).mono ?_
        rintro e w1 ⟨rfl, rfl⟩
        go_wp2
        go_ret
        exact ⟨rfl, HH.out.two HI.out t, (HT.out.set gr _ _ rfl).set gr _ _ rfl⟩
      · rw [if_neg hs, if_neg hs]
        by_cases s1 : (d.sp i).k = k
        · have s2 : ¬ (d.sp i).m = m := fun e => hs ⟨s1, e⟩
          rw [s1] at d0
          have s3 : ((d.sp i).m == m) = false := by simpa using s2
          clear s1 hs
          generalize (d.sp i).m = m' at *
          go_enter Try.func33, Try.ntmps33
          go_wp2_with fail
          refine HF.out.mono ?_
          rintro e w1 ⟨rfl, rfl⟩
          go_wp2_with fail
          refine (HN.out _).mono ?_
          rintro e w1 ⟨rfl, rfl⟩
          go_wp2
          go_ret
          exact ⟨rfl, HH.out, HT.out⟩
        · have s3 : ((d.sp i).k == k) = false := by simpa using s1
          clear hs
          generalize (d.sp i).k = k' at *
          generalize (d.sp i).m = m' at *
          go_enter Try.func33, Try.ntmps33
          go_wp2_with fail
          refine HF.out.mono ?_
          rintro e w1 ⟨rfl, rfl⟩
          go_wp2_with fail
          refine (HN.out _).mono ?_
          rintro e w1 ⟨rfl, rfl⟩
          go_wp2
          go_ret
          exact ⟨rfl, HH.out, HT.out⟩
    · rw [if_neg hm, if_neg hm]
      have hnd := fun w => isNode14 (w := w) m
      rw [show isNd m = false by simpa using hm] at hnd
      have HN := hide hnd
      clear hm hnd
      go_enter Try.func33, Try.ntmps33
      go_wp2_with fail
      refine HF.out.mono ?_
      rintro e w1 ⟨rfl, rfl⟩
      go_wp2_with fail
      refine (HN.out _).mono ?_
      rintro e w1 ⟨rfl, rfl⟩
      go_wp2
      go_ret
      exact ⟨rfl, HH.out, HT.out⟩
set_option maxRecDepth 4000 in
set_option maxHeartbeats 400000 in
theorem land14 (p m : Int) (h : DC w g gr d) : Calls Try.prog 18 #[.pointer (some ⟨g, 0, none⟩), .int .i64 p, .int .i64 m] w fun e w' => e = .returned (.int .i64 (d.laE p m)) ∧ DC w' g gr (d.la p m) ∧ Tn (Is gr) w w' := by
  have HM := hide (move14 p m 2 ⟨1, m⟩ h)
  unfold Dr.laE Dr.la
  clear h
  generalize d.mvE p m 2 = E at *
  generalize d.mv p m 2 ⟨1, m⟩ = D at *
  go_enter Try.func18, Try.ntmps18
  go_wp2_with fail
  refine HM.out.mono ?_
  rintro e w1 ⟨rfl, h1⟩
  have H1 := hide h1
  clear h1
  go_wp2
  go_ret
  exact ⟨rfl, H1.out⟩
set_option maxRecDepth 4000 in
set_option maxHeartbeats 400000 in
theorem leave14 (p m : Int) (h : DC w g gr d) : Calls Try.prog 20 #[.pointer (some ⟨g, 0, none⟩), .int .i64 p, .int .i64 m] w fun e w' => e = .returned (.int .i64 (d.leE p m)) ∧ DC w' g gr (d.le p m) ∧ Tn (Is gr) w w' := by
  have HM := hide (move14 p m 1 Sp.home h)
  unfold Dr.leE Dr.le
  clear h
  generalize d.mvE p m 1 = E at *
  generalize d.mv p m 1 Sp.home = D at *
  go_enter Try.func20, Try.ntmps20
  go_wp2_with fail
  refine HM.out.mono ?_
  rintro e w1 ⟨rfl, h1⟩
  have H1 := hide h1
  clear h1
  go_wp2
  go_ret
  exact ⟨rfl, H1.out⟩
set_option maxRecDepth 4000 in
set_option maxHeartbeats 400000 in
theorem ship14 (p a b : Int) (h : DC w g gr d) : Calls Try.prog 19 #[.pointer (some ⟨g, 0, none⟩), .int .i64 p, .int .i64 a, .int .i64 b] w fun e w' => e = .returned (.int .i64 (d.shE p a b)) ∧ DC w' g gr (d.sh p a b) ∧ Tn (Is gr) w w' := by
  have HM := hide (move14 p a 1 ⟨2, b⟩ h)
  have HH := hide h
  unfold Dr.shE Dr.sh
  clear h
  generalize d.mvE p a 1 = E at *
  generalize d.mv p a 1 ⟨2, b⟩ = D at *
  have hnd := fun w => isNode14 (w := w) b
  by_cases hm : isNd b = true
  · rw [if_pos hm, if_pos hm]
    rw [hm] at hnd
    have HN := hide hnd
    clear hm hnd
    by_cases hab : a = b
    · rw [if_pos hab, if_pos hab]
      have e1 : (a == b) = true := by simpa using hab
      clear hab
      go_enter Try.func19, Try.ntmps19
      go_wp2_with fail
      refine (HN.out _).mono ?_
      rintro e w1 ⟨rfl, rfl⟩
      go_wp2
      go_ret
      exact ⟨rfl, HH.out, Tn.refl _ _⟩
    · rw [if_neg hab, if_neg hab]
      have e1 : (a == b) = false := by simpa using hab
      clear hab
      go_enter Try.func19, Try.ntmps19
      go_wp2_with fail
      refine (HN.out _).mono ?_
      rintro e w1 ⟨rfl, rfl⟩
      go_wp2_with fail
      refine HM.out.mono ?_
      rintro e w1 ⟨rfl, h1⟩
      have H1 := hide h1
      clear h1
      go_wp2
      go_ret
      exact ⟨rfl, H1.out⟩
  · rw [if_neg hm, if_neg hm]
    rw [show isNd b = false by simpa using hm] at hnd
    have HN := hide hnd
    clear hm hnd
    go_enter Try.func19, Try.ntmps19
    go_wp2_with fail
    refine (HN.out _).mono ?_
    rintro e w1 ⟨rfl, rfl⟩
    go_wp2
    go_ret
    exact ⟨rfl, HH.out, Tn.refl _ _⟩
set_option maxRecDepth 4000 in
set_option maxHeartbeats 800000 in
theorem heal14 (p : Int) (h : DC w g gr d) : Calls Try.prog 16 #[.pointer (some ⟨g, 0, none⟩), .int .i64 p] w fun e w' => e = .returned (.int .i64 (d.heE p)) ∧ DC w' g gr (d.he p) ∧ Tn (Is gr) w w' := by
  have HF := hide (at14 p h)
  have HH := hide h
  clear h
  unfold Dr.heE Dr.he
  cases e : d.ix p with
  | none =>
    rw [e] at HF
    clear e
    go_enter Try.func16, Try.ntmps16
    go_wp2_with fail
    refine HF.out.mono ?_
    rintro e w1 ⟨rfl, rfl⟩
    go_wp2
    go_ret
    exact ⟨rfl, HH.out, Tn.refl _ _⟩
  | some i =>
    rw [e] at HF
    obtain ⟨-, hi⟩ := Dr.ix_some e
    have HI := hide hi
    obtain ⟨d0, d1⟩ := HH.out.cell hi
    have f0 := HH.out.free (i * 2)
    have f1 := HH.out.free (i * 2 + 1)
    clear e hi
    simp only []
    by_cases hs : (d.sp i).k = 3
    · rw [if_pos hs, if_pos hs]
      rw [hs] at d0
      clear hs
      go_enter Try.func16, Try.ntmps16
      go_wp2_with fail
      refine HF.out.mono ?_
      rintro e w1 ⟨rfl, rfl⟩
      go_wp2
      go_ret
      exact ⟨rfl, HH.out.two HI.out Sp.home, ((Tn.refl (Is gr) _).set gr _ _ rfl).set gr _ _ rfl⟩
    · rw [if_neg hs, if_neg hs]
      have s3 : ((d.sp i).k == 3) = false := by simpa using hs
      have s4 : ((d.sp i).k != 3) = true := by simpa using hs
      generalize (d.sp i).k = k' at *
      go_enter Try.func16, Try.ntmps16
      go_wp2_with fail
      refine HF.out.mono ?_
      rintro e w1 ⟨rfl, rfl⟩
      go_wp2
      go_ret
      exact ⟨rfl, HH.out, Tn.refl _ _⟩
end
end Go.Proofs.Ytpbdachbefafiaa
