/-
  The contract of package owner's Ask.
-/
import Derived.Test.YtpbdachbefafiaaOwOps
namespace Go.Proofs.Ytpbdachbefafiaa
open Go.RowKit
set_option linter.unusedVariables false

section
variable {w : World} {g gr : Nat} {d : Dr}
set_option maxRecDepth 4000 in
set_option maxHeartbeats 1600000 in
theorem ask14 (p m : Int) (h : DC w g gr d) : Calls Try.prog 17 #[.pointer (some ⟨g, 0, none⟩), .int .i64 p, .int .i64 m] w fun e w' => e = .returned (.tuple #[.int .i64 (d.askN p m), .int .i64 (d.askE p m)]) ∧ DC w' g gr (d.ask p m) ∧ Tn (Is gr) w w' := by
  have HF := hide (at14 p h)
  have HH := hide h
  clear h
  unfold Dr.askN Dr.askE Dr.ask
  cases e : d.ix p with
  | none =>
    rw [e] at HF
    clear e
    go_enter Try.func17, Try.ntmps17
    go_wp2_with fail
    refine HF.out.mono ?_
    rintro e w1 ⟨rfl, rfl⟩
    go_wp2
    go_ret2
    exact ⟨rfl, HH.out, Tn.refl _ _⟩
  | some i =>
    rw [e] at HF
    obtain ⟨-, hi⟩ := Dr.ix_some e
    have HI := hide hi
    have hnd := fun w => isNode14 (w := w) m
    clear e hi
    simp only []
    by_cases hm : isNd m = true
    · rw [if_pos hm, if_pos hm, if_pos hm]
      rw [hm] at hnd
      have HN := hide hnd
      clear hm hnd
      obtain ⟨W, hW⟩ : ∃ W, W = w.alloc (.cells #[.int .i64 1, .int .i64 m] 68) := ⟨_, rfl⟩
      have hb : Below w.heap.size w W := by rw [hW]; exact (Below.refl _ _).alloc (Nat.le_refl _) _
      have HT := hide (show Tn (Is gr) w W from Tn.of_below hb)
      have hN : RowAt W w.heap.size 68 #[.int .i64 1, .int .i64 m] := by rw [hW]; exact RowAt.new w 68 #[.int .i64 1, .int .i64 m]
      have b0 := hN.cell 0 _ rfl
      have b1 := hN.cell 1 _ rfl
      have HL := hide HH.out.lt.2
      have HD := hide (HH.out.later hb)
      obtain ⟨d0, d1⟩ := HD.out.cell HI.out
      have f0 := HD.out.free (i * 2)
      have f1 := HD.out.free (i * 2 + 1)
      have hne : ¬ gr = w.heap.size := fun e => by have := HL.out; omega
      subst hW
      clear hb hN
      by_cases h0 : (d.sp i).k = 0
      · rw [if_pos h0, if_pos h0, if_pos h0]
        rw [h0] at d0
        clear h0
        go_enter Try.func17, Try.ntmps17
        go_wp2_with fail
        refine HF.out.mono ?_
        rintro e w1 ⟨rfl, rfl⟩
        go_wp2_with fail
        refine (HN.out _).mono ?_
        rintro e w1 ⟨rfl, rfl⟩
        go_wp2
        go_ret2
        exact ⟨rfl, HD.out.two HI.out ⟨1, m⟩, (HT.out.set gr _ _ rfl).set gr _ _ rfl⟩
      · rw [if_neg h0, if_neg h0, if_neg h0]
        by_cases hs : d.is i 1 m
        · rw [if_pos hs, if_pos hs]
          obtain ⟨s1, s2⟩ := hs
          rw [s1] at d0
          rw [s2] at d1
          clear s1 s2 h0
          go_enter Try.func17, Try.ntmps17
          go_wp2_with fail
          refine HF.out.mono ?_
          rintro e w1 ⟨rfl, rfl⟩
          go_wp2_with fail
          refine (HN.out _).mono ?_
          rintro e w1 ⟨rfl, rfl⟩
          go_wp2_with fail
          go_quiet (fail)
          go_wp2
          go_ret2
          exact ⟨rfl, HD.out.drewN _, HT.out.later (below_dn (Below.refl _ _) _)⟩
        · rw [if_neg hs, if_neg hs]
          have e0 : ((d.sp i).k == 0) = false := by simpa using h0
          have hs2 : ((d.sp i).k == 1 && (d.sp i).m == m) = false := by
            rw [Bool.eq_false_iff]
            intro e
            rw [Bool.and_eq_true, beq_iff_eq, beq_iff_eq] at e
            exact hs e
          clear hs
          generalize (d.sp i).k = k' at *
          generalize (d.sp i).m = m' at *
          by_cases s1 : k' = 1
          · subst s1
            have s3 : (m' == m) = false := by simpa using hs2
            clear hs2
            go_enter Try.func17, Try.ntmps17
            go_wp2_with fail
            refine HF.out.mono ?_
            rintro e w1 ⟨rfl, rfl⟩
            go_wp2_with fail
            refine (HN.out _).mono ?_
            rintro e w1 ⟨rfl, rfl⟩
            go_wp2_with fail
            go_quiet (fail)
            go_wp2
            go_ret2
            exact ⟨rfl, HD.out.drewN _, HT.out.later (below_dn (Below.refl _ _) _)⟩
          · have s3 : (k' == 1) = false := by simpa using s1
            clear hs2
            go_enter Try.func17, Try.ntmps17
            go_wp2_with fail
            refine HF.out.mono ?_
            rintro e w1 ⟨rfl, rfl⟩
            go_wp2_with fail
            refine (HN.out _).mono ?_
            rintro e w1 ⟨rfl, rfl⟩
            go_wp2_with fail
            go_quiet (fail)
            go_wp2
            go_ret2
            exact ⟨rfl, HD.out.drewN _, HT.out.later (below_dn (Below.refl _ _) _)⟩
    · rw [if_neg hm, if_neg hm, if_neg hm]
      rw [show isNd m = false by simpa using hm] at hnd
      have HN := hide hnd
      clear hm hnd
      go_enter Try.func17, Try.ntmps17
      go_wp2_with fail
      refine HF.out.mono ?_
      rintro e w1 ⟨rfl, rfl⟩
      go_wp2_with fail
      refine (HN.out _).mono ?_
      rintro e w1 ⟨rfl, rfl⟩
      go_wp2
      go_ret2
      exact ⟨rfl, HH.out, Tn.refl _ _⟩
end
end Go.Proofs.Ytpbdachbefafiaa
