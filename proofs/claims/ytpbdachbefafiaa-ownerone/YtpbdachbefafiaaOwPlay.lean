/-
  The contract of the statements' play: a call of a script, whose answer isn't looked at.
-/
import Derived.Test.YtpbdachbefafiaaOwKept
import Derived.Test.YtpbdachbefafiaaOwScr
namespace Go.Proofs.Ytpbdachbefafiaa
open Go.RowKit
set_option linter.unusedVariables false

/-- What a call of a script makes. -/
def Dr.step (d : Dr) (c : Od) : Dr := if c.k = 1 then d.ask c.p c.a else if c.k = 2 then d.sh c.p c.a c.b else if c.k = 3 then d.la c.p c.a else if c.k = 4 then d.le c.p c.a else if c.k = 5 then d.fa c.a else if c.k = 6 then d.he c.p else d
theorem Dr.ok.step {d : Dr} (h : d.ok) (c : Od) : (d.step c).ok := by
  unfold Dr.step
  split
  · exact h.ask _ _
  split
  · exact h.sh _ _ _
  split
  · exact h.la _ _
  split
  · exact h.le _ _
  split
  · exact h.fa _
  split
  · exact h.he _
  · exact h
def playD (p : Int) (cs : List Od) : Dr := cs.foldl Dr.step (Dr.new p)
theorem playD_snoc (p : Int) (cs : List Od) (j : Nat) (c : Od) (h : cs[j]? = some c) : playD p (cs.take (j + 1)) = (playD p (cs.take j)).step c := by
  obtain ⟨hj, rfl⟩ := List.getElem?_eq_some_iff.1 h
  unfold playD
  rw [List.take_succ_eq_append_getElem hj, List.foldl_append]
  rfl
theorem playD_ok (p : Int) (cs : List Od) : (playD p cs).ok := by
  have key : ∀ (cs : List Od) (d : Dr), d.ok → (cs.foldl Dr.step d).ok := by
    intro cs
    induction cs with
    | nil => exact fun d h => h
    | cons c cs ih => exact fun d h => ih _ (h.step c)
  exact key cs _ (Dr.new_ok p)
set_option maxRecDepth 4000 in
set_option maxHeartbeats 1600000 in
theorem play14 {w0 w : World} {g gr : Nat} {d : Dr} (h : K14 w0 w g gr d) (c : Od) : Calls Try.prog 12 #[.pointer (some ⟨g, 0, none⟩), .agg (odA c)] w fun e w' => e = .returned (.tuple #[]) ∧ K14 w0 w' g gr (d.step c) := by
  have hb : Below w.heap.size w (w.alloc (.cells (odA c) 30)) := (Below.refl _ _).alloc (Nat.le_refl _) _
  have hN := RowAt.new w 30 (odA c)
  have d0 := hN.cell 0 (.int .i64 c.k) rfl
  have d1 := hN.cell 1 (.int .i64 c.p) rfl
  have d2 := hN.cell 2 (.int .i64 c.a) rfl
  have d3 := hN.cell 3 (.int .i64 c.b) rfl
  have HK := hide (h.later hb)
  have hbx : (Instr.box 30 (.agg (odA c))).run Try.prog w = .ok (.pointer (some ⟨w.heap.size, 0, none⟩)) (w.alloc (.cells (odA c) 30)) := rfl
  clear h hb hN
  by_cases h1 : c.k = 1
  · have e1 : (c.k == 1) = true := by rw [beq_iff_eq]; exact h1
    have HS := hide (show d.step c = d.ask c.p c.a from by unfold Dr.step; rw [if_pos h1])
    clear h1
    go_enter Try.func12, Try.ntmps12
    go_wp2_with fail
    refine (kask14 HK.out c.p c.a).mono ?_
    rintro e w1 ⟨rfl, hK, -⟩
    have HE := hide hK
    clear hK d0 d1 d2 d3
    go_wp2
    refine bodyPost_end (results_none rfl _ _ _) rfl ?_
    rw [HS.out]
    exact ⟨rfl, HE.out⟩
  have e1 : (c.k == 1) = false := by rw [beq_eq_false_iff_ne]; exact h1
  by_cases h2 : c.k = 2
  · have e2 : (c.k == 2) = true := by rw [beq_iff_eq]; exact h2
    have HS := hide (show d.step c = d.sh c.p c.a c.b from by unfold Dr.step; rw [if_neg h1, if_pos h2])
    clear h1 h2
    go_enter Try.func12, Try.ntmps12
    go_wp2_with fail
    refine (kship14 HK.out c.p c.a c.b).mono ?_
    rintro e w1 ⟨rfl, hK, -⟩
    have HE := hide hK
    clear hK d0 d1 d2 d3
    go_wp2
    refine bodyPost_end (results_none rfl _ _ _) rfl ?_
    rw [HS.out]
    exact ⟨rfl, HE.out⟩
  have e2 : (c.k == 2) = false := by rw [beq_eq_false_iff_ne]; exact h2
  by_cases h3 : c.k = 3
  · have e3 : (c.k == 3) = true := by rw [beq_iff_eq]; exact h3
    have HS := hide (show d.step c = d.la c.p c.a from by unfold Dr.step; rw [if_neg h1, if_neg h2, if_pos h3])
    clear h1 h2 h3
    go_enter Try.func12, Try.ntmps12
    go_wp2_with fail
    refine (kland14 HK.out c.p c.a).mono ?_
    rintro e w1 ⟨rfl, hK, -⟩
    have HE := hide hK
    clear hK d0 d1 d2 d3
    go_wp2
    refine bodyPost_end (results_none rfl _ _ _) rfl ?_
    rw [HS.out]
    exact ⟨rfl, HE.out⟩
  have e3 : (c.k == 3) = false := by rw [beq_eq_false_iff_ne]; exact h3
  by_cases h4 : c.k = 4
  · have e4 : (c.k == 4) = true := by rw [beq_iff_eq]; exact h4
    have HS := hide (show d.step c = d.le c.p c.a from by unfold Dr.step; rw [if_neg h1, if_neg h2, if_neg h3, if_pos h4])
    clear h1 h2 h3 h4
    go_enter Try.func12, Try.ntmps12
    go_wp2_with fail
    refine (kleave14 HK.out c.p c.a).mono ?_
    rintro e w1 ⟨rfl, hK, -⟩
    have HE := hide hK
    clear hK d0 d1 d2 d3
    go_wp2
    refine bodyPost_end (results_none rfl _ _ _) rfl ?_
    rw [HS.out]
    exact ⟨rfl, HE.out⟩
  have e4 : (c.k == 4) = false := by rw [beq_eq_false_iff_ne]; exact h4
  by_cases h5 : c.k = 5
  · have e5 : (c.k == 5) = true := by rw [beq_iff_eq]; exact h5
    have HS := hide (show d.step c = d.fa c.a from by unfold Dr.step; rw [if_neg h1, if_neg h2, if_neg h3, if_neg h4, if_pos h5])
    clear h1 h2 h3 h4 h5
    go_enter Try.func12, Try.ntmps12
    go_wp2_with fail
    refine (kfail14 HK.out c.a).mono ?_
    rintro e w1 ⟨v, rfl, -, hK, -⟩
    have HE := hide hK
    clear hK d0 d1 d2 d3
    go_wp2
    refine bodyPost_end (results_none rfl _ _ _) rfl ?_
    rw [HS.out]
    exact ⟨rfl, HE.out⟩
  have e5 : (c.k == 5) = false := by rw [beq_eq_false_iff_ne]; exact h5
  by_cases h6 : c.k = 6
  · have e6 : (c.k == 6) = true := by rw [beq_iff_eq]; exact h6
    have HS := hide (show d.step c = d.he c.p from by unfold Dr.step; rw [if_neg h1, if_neg h2, if_neg h3, if_neg h4, if_neg h5, if_pos h6])
    clear h1 h2 h3 h4 h5 h6
    go_enter Try.func12, Try.ntmps12
    go_wp2_with fail
    refine (kheal14 HK.out c.p).mono ?_
    rintro e w1 ⟨rfl, hK, -⟩
    have HE := hide hK
    clear hK d0 d1 d2 d3
    go_wp2
    refine bodyPost_end (results_none rfl _ _ _) rfl ?_
    rw [HS.out]
    exact ⟨rfl, HE.out⟩
  have e6 : (c.k == 6) = false := by rw [beq_eq_false_iff_ne]; exact h6
  have HS := hide (show d.step c = d from by unfold Dr.step; rw [if_neg h1, if_neg h2, if_neg h3, if_neg h4, if_neg h5, if_neg h6])
  clear h1 h2 h3 h4 h5 h6
  go_enter Try.func12, Try.ntmps12
  go_wp2
  refine bodyPost_end (results_none rfl _ _ _) rfl ?_
  rw [HS.out]
  exact ⟨rfl, HK.out⟩
end Go.Proofs.Ytpbdachbefafiaa
