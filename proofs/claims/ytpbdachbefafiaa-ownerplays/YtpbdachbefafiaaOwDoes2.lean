/-
  The contract of the statements' does, the calls that answer lists, Where, and any other kind. (gen14/does2.py)
-/
import Derived.Test.YtpbdachbefafiaaOwDoes
namespace Go.Proofs.Ytpbdachbefafiaa
open Go.RowKit
set_option linter.unusedVariables false
theorem Dr.faL_len (d : Dr) (m : Int) (h : d.ok) : (d.faL m).length ≤ 32 := Nat.le_trans (d.faTo_len m d.n) h.few
theorem Dr.of_len (d : Dr) (m k : Int) (h : d.ok) : (d.of m k).length ≤ 32 := by
  unfold Dr.of
  split
  · exact Nat.zero_le _
  · exact Nat.le_trans (d.ofTo_len m k d.n) h.few
section
variable {w0 x : World} {g gr h hr : Nat} {d : Dr}
set_option maxRecDepth 8000 in
set_option maxHeartbeats 3200000 in
theorem does14_5 (q : D14 w0 x g gr h hr d) (p a b : Int) : Calls Try.prog 11 #[.pointer (some ⟨g, 0, none⟩), .pointer (some ⟨h, 0, none⟩), .agg (odA ⟨5, p, a, b⟩)] x fun e y => e = .returned (.bool true) ∧ D14 w0 y g gr h hr (d.fa a) := by
  have hbx : (Instr.box 30 (.agg (odA ⟨5, p, a, b⟩))).run Try.prog x = .ok (.pointer (some ⟨x.heap.size, 0, none⟩)) (x.alloc (.cells (odA ⟨5, p, a, b⟩) 30)) := rfl
  have HO := hide q.ok
  have HQ := hide ((q.call ⟨5, p, a, b⟩).drewN 1)
  have HD := hide (q.call ⟨5, p, a, b⟩)
  obtain ⟨c0, c1, c2, c3⟩ := HD.out.cells
  have c0' : (x.alloc (.cells (odA ⟨5, p, a, b⟩) 30)).cell? ⟨x.heap.size, 0, none⟩ = some (.int .i64 5) := c0
  clear q c0 HD
  have HT1 := hide (fail14 a HQ.out.code)
  have HL := hide (d.faL_len a HO.out)
  go_enter Try.func11, Try.ntmps11
  go_wp2_with fail
  go_region_held3 (fun y => y.cell? ⟨x.heap.size, 2, none⟩ = some (.int .i64 a)) (go_keep)
    (first
      | (go_at_call 15; refine HT1.out.mono ?_; rintro e w2 ⟨v1, rfl, o1, q1, t1⟩; have HQ2 := hide (HQ.out.codes q1 t1); have HO1 := hide o1; clear q1 t1 o1; obtain ⟨-, m1, m2, m3⟩ := HQ2.out.cells; have HT2 := hide (rfail14 a HQ2.out.doc); have HLW := hide HQ.out.doc.lt.2)
      | (go_at_call 26; refine HT2.out.mono ?_; rintro e w3 ⟨v2, rfl, o2, q2, t2⟩; have HQ3 := hide (HQ2.out.docs q2 t2); have HO3 := hide (And.intro (ow_turn HO1.out t2 (fun k hk => by rw [show k = hr from hk]; exact HLW.out)) o2); clear q2 t2 o2; obtain ⟨-, n1, n2, n3⟩ := HQ3.out.cells; have HT3 := hide (ints14 (d.faL a) HL.out HO3.out.1 HO3.out.2))
      | (go_at_call 25; refine HT3.out.mono ?_; rintro e w4 ⟨rfl, b4⟩; have HQ4 := hide (HQ3.out.later b4); clear b4; obtain ⟨-, k1, k2, k3⟩ := HQ4.out.cells))
  have HF := hide (HQ4.out.both (HO.out.fa a))
  clear HQ4 HQ3 m1 m2 m3 n1 n2 n3 HQ2 HT2 HT3 HO3
  go_wp2
  go_ret
  exact ⟨rfl, HF.out⟩
set_option maxRecDepth 8000 in
set_option maxHeartbeats 3200000 in
theorem does14_7 (q : D14 w0 x g gr h hr d) (p a b : Int) : Calls Try.prog 11 #[.pointer (some ⟨g, 0, none⟩), .pointer (some ⟨h, 0, none⟩), .agg (odA ⟨7, p, a, b⟩)] x fun e y => e = .returned (.bool true) ∧ D14 w0 y g gr h hr (d) := by
  have hbx : (Instr.box 30 (.agg (odA ⟨7, p, a, b⟩))).run Try.prog x = .ok (.pointer (some ⟨x.heap.size, 0, none⟩)) (x.alloc (.cells (odA ⟨7, p, a, b⟩) 30)) := rfl
  have HO := hide q.ok
  have HQ := hide ((q.call ⟨7, p, a, b⟩).drewN 1)
  have HD := hide (q.call ⟨7, p, a, b⟩)
  obtain ⟨c0, c1, c2, c3⟩ := HD.out.cells
  have c0' : (x.alloc (.cells (odA ⟨7, p, a, b⟩) 30)).cell? ⟨x.heap.size, 0, none⟩ = some (.int .i64 7) := c0
  clear q c0 HD
  have HT1 := hide (of14 a b HQ.out.code)
  have HL := hide (d.of_len a b HO.out)
  go_enter Try.func11, Try.ntmps11
  go_wp2_with fail
  go_region_held3 (fun y => y.cell? ⟨x.heap.size, 2, none⟩ = some (.int .i64 a) ∧ y.cell? ⟨x.heap.size, 3, none⟩ = some (.int .i64 b)) (go_keep)
    (first
      | (go_at_call 13; refine HT1.out.mono ?_; rintro e w2 ⟨v1, rfl, o1, b2⟩; have HQ2 := hide (HQ.out.later b2); have HO1 := hide o1; clear b2 o1; obtain ⟨-, m1, m2, m3⟩ := HQ2.out.cells; have HT2 := hide (rof14 a b HQ2.out.doc); have HLW := hide HQ.out.doc.lt.2)
      | (go_at_call 28; refine HT2.out.mono ?_; rintro e w3 ⟨v2, rfl, o2, b3⟩; have HQ3 := hide (HQ2.out.later b3); have HO3 := hide (And.intro (ow_later HO1.out b3) o2); clear b3 o2; obtain ⟨-, n1, n2, n3⟩ := HQ3.out.cells; have HT3 := hide (ints14 (d.of a b) HL.out HO3.out.1 HO3.out.2))
      | (go_at_call 25; refine HT3.out.mono ?_; rintro e w4 ⟨rfl, b4⟩; have HQ4 := hide (HQ3.out.later b4); clear b4; obtain ⟨-, k1, k2, k3⟩ := HQ4.out.cells))
  have HF := hide (HQ4.out.both (HO.out))
  clear HQ4 HQ3 m1 m2 m3 n1 n2 n3 HQ2 HT2 HT3 HO3
  go_wp2
  go_ret
  exact ⟨rfl, HF.out⟩
set_option maxRecDepth 8000 in
set_option maxHeartbeats 3200000 in
theorem does14_8 (q : D14 w0 x g gr h hr d) (p a b : Int) : Calls Try.prog 11 #[.pointer (some ⟨g, 0, none⟩), .pointer (some ⟨h, 0, none⟩), .agg (odA ⟨8, p, a, b⟩)] x fun e y => e = .returned (.bool true) ∧ D14 w0 y g gr h hr (d) := by
  have hbx : (Instr.box 30 (.agg (odA ⟨8, p, a, b⟩))).run Try.prog x = .ok (.pointer (some ⟨x.heap.size, 0, none⟩)) (x.alloc (.cells (odA ⟨8, p, a, b⟩) 30)) := rfl
  have HO := hide q.ok
  have HQ := hide (q.call ⟨8, p, a, b⟩)
  obtain ⟨c0, c1, c2, c3⟩ := HQ.out.cells
  have c0' : (x.alloc (.cells (odA ⟨8, p, a, b⟩) 30)).cell? ⟨x.heap.size, 0, none⟩ = some (.int .i64 8) := c0
  clear q c0
  obtain ⟨s, hs⟩ : ∃ s, d.wh p = s := ⟨_, rfl⟩
  have HS := hide hs
  clear hs
  go_enter Try.func11, Try.ntmps11
  go_wp2_with fail
  have T := where14 p HQ.out.code
  rw [HS.out] at T
  refine T.mono ?_
  clear T
  rintro e w2 ⟨rfl, b1⟩
  have HQ2 := hide (HQ.out.later b1)
  clear b1 c1 c2 c3 c0' HQ
  obtain ⟨-, c1, c2, c3⟩ := HQ2.out.cells
  go_wp2_with fail
  have T := rwhere14 p HQ2.out.doc
  rw [HS.out] at T
  refine T.mono ?_
  clear T HS
  rintro e w3 ⟨rfl, b1⟩
  have b2 : Below w3.heap.size w3 (w3.alloc (.cells #[.int .i64 s.k, .int .i64 s.m] 64)) := (Below.refl _ _).alloc (Nat.le_refl _) _
  have hN := RowAt.new w3 64 #[.int .i64 s.k, .int .i64 s.m]
  have n0 := hN.cell 0 _ rfl
  have n1 := hN.cell 1 _ rfl
  have HQ3 := hide (((HQ2.out.later b1).later b2).both HO.out)
  clear b1 b2 c1 c2 c3 HQ2 hN
  go_wp2
  go_ret
  exact ⟨rfl, HQ3.out⟩
set_option maxRecDepth 8000 in
set_option maxHeartbeats 3200000 in
theorem does14_0 (q : D14 w0 x g gr h hr d) (c : Od) (h1 : ¬ c.k = 1) (h2 : ¬ c.k = 2) (h3 : ¬ c.k = 3) (h4 : ¬ c.k = 4) (h5 : ¬ c.k = 5) (h6 : ¬ c.k = 6) (h7 : ¬ c.k = 7) (h8 : ¬ c.k = 8) : Calls Try.prog 11 #[.pointer (some ⟨g, 0, none⟩), .pointer (some ⟨h, 0, none⟩), .agg (odA c)] x fun e y => e = .returned (.bool true) ∧ D14 w0 y g gr h hr d := by
  have hbx : (Instr.box 30 (.agg (odA c))).run Try.prog x = .ok (.pointer (some ⟨x.heap.size, 0, none⟩)) (x.alloc (.cells (odA c) 30)) := rfl
  have HQ := hide (q.call c)
  have HO := hide q.ok
  obtain ⟨c0, c1, c2, c3⟩ := HQ.out.cells
  have e1 : (c.k == 1) = false := by rw [beq_eq_false_iff_ne]; exact h1
  have e2 : (c.k == 2) = false := by rw [beq_eq_false_iff_ne]; exact h2
  have e3 : (c.k == 3) = false := by rw [beq_eq_false_iff_ne]; exact h3
  have e4 : (c.k == 4) = false := by rw [beq_eq_false_iff_ne]; exact h4
  have e5 : (c.k == 5) = false := by rw [beq_eq_false_iff_ne]; exact h5
  have e6 : (c.k == 6) = false := by rw [beq_eq_false_iff_ne]; exact h6
  have e7 : (c.k == 7) = false := by rw [beq_eq_false_iff_ne]; exact h7
  have e8 : (c.k == 8) = false := by rw [beq_eq_false_iff_ne]; exact h8
  clear q h1 h2 h3 h4 h5 h6 h7 h8
  go_enter Try.func11, Try.ntmps11
  go_wp2
  go_ret
  exact ⟨rfl, HQ.out.both HO.out⟩
/-- A call of a script, of both. -/
theorem does14 (q : D14 w0 x g gr h hr d) (c : Od) : Calls Try.prog 11 #[.pointer (some ⟨g, 0, none⟩), .pointer (some ⟨h, 0, none⟩), .agg (odA c)] x fun e y => e = .returned (.bool true) ∧ D14 w0 y g gr h hr (d.step c) := by
  obtain ⟨k, p, a, b⟩ := c
  by_cases h1 : k = 1
  · subst h1; exact does14_1 q p a b
  by_cases h2 : k = 2
  · subst h2; exact does14_2 q p a b
  by_cases h3 : k = 3
  · subst h3; exact does14_3 q p a b
  by_cases h4 : k = 4
  · subst h4; exact does14_4 q p a b
  by_cases h5 : k = 5
  · subst h5; exact does14_5 q p a b
  by_cases h6 : k = 6
  · subst h6; exact does14_6 q p a b
  have hs : d.step ⟨k, p, a, b⟩ = d := by
    unfold Dr.step
    simp only [h1, h2, h3, h4, h5, h6, if_false]
  rw [hs]
  by_cases h7 : k = 7
  · subst h7; exact does14_7 q p a b
  by_cases h8 : k = 8
  · subst h8; exact does14_8 q p a b
  exact does14_0 q ⟨k, p, a, b⟩ h1 h2 h3 h4 h5 h6 h7 h8
end
end Go.Proofs.Ytpbdachbefafiaa
