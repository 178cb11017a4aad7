/-
  The contract of quaysidelaw11.asks.
-/
import Derived.Test.YthigibgokbmehaaPoolDuo
import Derived.Test.YthigibgokbmehaaPoolSame
namespace Go.Proofs.Ythigibgokbmehaa
open Go.RowKit
set_option linter.unusedVariables false
section
variable {w0 x : World} {g gr k kr b : Nat} {p : Po}
set_option maxRecDepth 4000 in
set_option maxHeartbeats 800000 in
theorem asks11_9 (i : Int) (h : D11 w0 x g gr k kr p b) : Calls Try.prog 13 #[.pointer (some ⟨g, 0, none⟩), .pointer (some ⟨k, 0, none⟩), .int .i64 9, .int .i64 i] x fun e y => e = .returned (.bool true) ∧ D11 w0 y g gr k kr p b ∧ Below x.heap.size x y := by
  have HD := hide h
  clear h
  go_enter Try.func13, Try.ntmps13
  go_wp2_with fail
  obtain ⟨z2, hz⟩ : ∃ z2, decide (p.recN i ≠ 0) = z2 := ⟨_, rfl⟩
  have HZ := hide hz
  clear hz
  have T := krec11 i HD.out.l
  rw [HZ.out] at T
  refine T.mono ?_
  clear T
  rintro e w2 ⟨rfl, -, hb⟩
  have H2 := hide (And.intro (HD.out.later hb) hb)
  clear hb HD
  go_wp2_with fail
  have T := rrec11 i H2.out.1.l.ok H2.out.1.r
  rw [HZ.out] at T
  refine T.mono ?_
  clear T HZ
  rintro e w3 ⟨rfl, rfl⟩
  generalize p.recN i = z1 at *
  go_wp2
  go_ret
  exact ⟨rfl, H2.out.1, H2.out.2⟩
set_option maxRecDepth 4000 in
set_option maxHeartbeats 800000 in
theorem asks11_10 (i : Int) (h : D11 w0 x g gr k kr p b) : Calls Try.prog 13 #[.pointer (some ⟨g, 0, none⟩), .pointer (some ⟨k, 0, none⟩), .int .i64 10, .int .i64 i] x fun e y => e = .returned (.bool true) ∧ D11 w0 y g gr k kr p b ∧ Below x.heap.size x y := by
  have HD := hide h
  clear h
  go_enter Try.func13, Try.ntmps13
  go_wp2_with fail
  refine (kdirty11 HD.out.l).mono ?_
  rintro e w2 ⟨v, rfl, ho, -, hb⟩
  have H2 := hide (And.intro ho (And.intro (HD.out.later hb) hb))
  clear hb ho HD
  obtain ⟨a2, c2, rfl, -⟩ := own11_shape H2.out.1
  go_wp2_with fail
  refine (rdirty11 H2.out.2.1.l.ok H2.out.2.1.r).mono ?_
  rintro e w3 ⟨v, rfl, ho, hb⟩
  have H3 := hide (And.intro (own11_later H2.out.1 hb) (And.intro ho (And.intro (H2.out.2.1.later hb) (H2.out.2.2.trans (hb.mono H2.out.2.2.size)))))
  clear hb ho H2
  obtain ⟨a3, c3, rfl, -⟩ := own11_shape H3.out.2.1
  go_wp2_with fail
  refine (rows11 _ (p.dirTo_len 32) H3.out.1 H3.out.2.1).mono ?_
  rintro e w4 ⟨rfl, hb⟩
  have H4 := hide (And.intro (H3.out.2.2.1.later hb) (H3.out.2.2.2.trans (hb.mono H3.out.2.2.2.size)))
  clear hb H3
  go_wp2
  go_ret
  exact ⟨rfl, H4.out.1, H4.out.2⟩
set_option maxRecDepth 4000 in
set_option maxHeartbeats 800000 in
theorem asks11_11 (i : Int) (h : D11 w0 x g gr k kr p b) : Calls Try.prog 13 #[.pointer (some ⟨g, 0, none⟩), .pointer (some ⟨k, 0, none⟩), .int .i64 11, .int .i64 i] x fun e y => e = .returned (.bool true) ∧ D11 w0 y g gr k kr p b ∧ Below x.heap.size x y := by
  have HD := hide h
  clear h
  go_enter Try.func13, Try.ntmps13
  go_wp2_with fail
  refine (kpages11 HD.out.l).mono ?_
  rintro e w2 ⟨v, rfl, ho, -, hb⟩
  have H2 := hide (And.intro ho (And.intro (HD.out.later hb) hb))
  clear hb ho HD
  obtain ⟨a2, c2, rfl, -⟩ := own11_shape H2.out.1
  go_wp2_with fail
  refine (rpages11 H2.out.2.1.l.ok H2.out.2.1.r).mono ?_
  rintro e w3 ⟨v, rfl, ho, hb⟩
  have H3 := hide (And.intro (own11_later H2.out.1 hb) (And.intro ho (And.intro (H2.out.2.1.later hb) (H2.out.2.2.trans (hb.mono H2.out.2.2.size)))))
  clear hb ho H2
  obtain ⟨a3, c3, rfl, -⟩ := own11_shape H3.out.2.1
  go_wp2_with fail
  refine (ints11 _ (p.idsTo_len 32) H3.out.1 H3.out.2.1).mono ?_
  rintro e w4 ⟨rfl, hb⟩
  have H4 := hide (And.intro (H3.out.2.2.1.later hb) (H3.out.2.2.2.trans (hb.mono H3.out.2.2.2.size)))
  clear hb H3
  go_wp2
  go_ret
  exact ⟨rfl, H4.out.1, H4.out.2⟩
set_option maxRecDepth 4000 in
set_option maxHeartbeats 800000 in
theorem asks11_12 (i : Int) (h : D11 w0 x g gr k kr p b) : Calls Try.prog 13 #[.pointer (some ⟨g, 0, none⟩), .pointer (some ⟨k, 0, none⟩), .int .i64 12, .int .i64 i] x fun e y => e = .returned (.bool true) ∧ D11 w0 y g gr k kr p b ∧ Below x.heap.size x y := by
  have HD := hide h
  clear h
  go_enter Try.func13, Try.ntmps13
  go_wp2_with fail
  refine (full11 HD.out.l.ok.n16 HD.out.l.ps).mono ?_
  rintro e w2 ⟨rfl, rfl⟩
  go_wp2_with fail
  refine (rfull11 HD.out.l.ok HD.out.r).mono ?_
  rintro e w2 ⟨rfl, rfl⟩
  generalize p.gap.isNone = z at *
  go_wp2
  go_ret
  exact ⟨rfl, HD.out, Below.refl _ _⟩
set_option maxRecDepth 4000 in
set_option maxHeartbeats 800000 in
theorem asks11_0 (kk i : Int) (k9 : ¬ kk = 9) (k10 : ¬ kk = 10) (k11 : ¬ kk = 11) (k12 : ¬ kk = 12) (h : D11 w0 x g gr k kr p b) : Calls Try.prog 13 #[.pointer (some ⟨g, 0, none⟩), .pointer (some ⟨k, 0, none⟩), .int .i64 kk, .int .i64 i] x fun e y => e = .returned (.bool true) ∧ D11 w0 y g gr k kr p b ∧ Below x.heap.size x y := by
  have HD := hide h
  clear h
  go_enter Try.func13, Try.ntmps13
  go_wp2
  go_ret
  exact ⟨rfl, HD.out, Below.refl _ _⟩
theorem asks11 (kk i : Int) (h : D11 w0 x g gr k kr p b) : Calls Try.prog 13 #[.pointer (some ⟨g, 0, none⟩), .pointer (some ⟨k, 0, none⟩), .int .i64 kk, .int .i64 i] x fun e y => e = .returned (.bool true) ∧ D11 w0 y g gr k kr p b ∧ Below x.heap.size x y := by
  by_cases k9 : kk = 9
  · subst k9
    exact asks11_9 i h
  by_cases k10 : kk = 10
  · subst k10
    exact asks11_10 i h
  by_cases k11 : kk = 11
  · subst k11
    exact asks11_11 i h
  by_cases k12 : kk = 12
  · subst k12
    exact asks11_12 i h
  exact asks11_0 kk i k9 k10 k11 k12 h
end
end Go.Proofs.Ythigibgokbmehaa
