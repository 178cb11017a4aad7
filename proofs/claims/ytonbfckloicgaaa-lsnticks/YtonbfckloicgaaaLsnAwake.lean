/-
  The contract of quaysidelaw03.awake: it answers true, and turns nothing that was there.
-/
import Derived.Test.YtonbfckloicgaaaLsnCode
namespace Go.Proofs.Ytonbfckloicgaaa
open Go.RowKit
set_option linter.unusedVariables false

theorem below_clock {B b : Nat} {a w w' : World} (h : Below B a w) (hB : B ≤ w.heap.size) (hb : B ≤ b) (hg : w.grownBy w' (some b)) : Below B a w' :=
  h.grown hg hB (by intro k hk; cases hk; exact hb)

set_option maxHeartbeats 400000 in
theorem awake_any (w : World) : Calls Try.prog 9 #[] w fun e w' => e = .returned (.bool true) ∧ Below w.heap.size w w' := by
  go_enter Try.func9, Try.ntmps9
  go_wp2_with fail
  refine (new_any 5 w (by decide)).mono ?_
  rintro e w1 ⟨b, rfl, hb, hc, hb1⟩
  go_wp2_with fail
  have N := next_any b (min 5 maxL) 3 false w1 hc (by decide)
  have e1 : nextS (min 5 maxL) 3 false = (6, 0) := by decide +kernel
  rw [e1] at N
  have HN := hideL N
  clear N e1
  refine HN.out.mono ?_
  rintro e w2 ⟨rfl, hc2, hg2⟩
  have c2 := below_clock hb1 hb1.size hb hg2
  clear hc hc2 HN hg2
  go_wp2_with fail
  refine (rises_any none 0 0 [] w2 (IsU.nil w2) (by omega)).mono ?_
  rintro e w3 ⟨rfl, hb3⟩
  have e2 : rises [] = true := rfl
  rw [e2]
  go_wp2
  go_ret
  exact ⟨rfl, c2.trans (hb3.mono c2.size)⟩
end Go.Proofs.Ytonbfckloicgaaa
