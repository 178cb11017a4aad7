/-
  The contract of quaysidelaw11.awake.
-/
import Derived.Test.YthigibgokbmehaaPoolKept
namespace Go.Proofs.Ythigibgokbmehaa
open Go.RowKit
set_option linter.unusedVariables false

def aw11 : Po := Po.new (.string ⟨#[]⟩) 2
def aw11a (x : Value) : Po := aw11.put 5 x
def aw11b (x y : Value) : Po := (aw11a x).put 7 y
theorem aw11_1 : aw11.putE 5 = 0 := by decide
theorem aw11_2 (x : Value) : (aw11a x).putE 7 = 0 := by rfl
theorem aw11_3 (x y : Value) : (aw11b x y).putE 8 = 8 := by rfl
theorem aw11_4 (x y z : Value) : (aw11b x y).put 8 z = aw11b x y := by rfl
theorem aw11_5 (x y : Value) : (aw11b x y).getX 7 = y := by rfl
theorem aw11_6 (x y : Value) : (aw11b x y).has 7 = true := by rfl
theorem aw11_7 (x y : Value) : ((aw11b x y).get 7).gap = none := by rfl
set_option maxRecDepth 4000 in
set_option maxHeartbeats 800000 in
theorem awake11_any (w : World) : Calls Try.prog 9 #[] w fun e w' => e = .returned (.bool true) ∧ Below w.heap.size w w' := by
  go_enter Try.func9, Try.ntmps9
  go_wp2_with fail
  refine (knew11 (w0 := w) 2 (Below.refl _ _)).mono ?_
  rintro e w1 ⟨g, gr, rfl, h1, -⟩
  have H1 := hide (show K11 w w1 g gr aw11 0 from h1)
  clear h1
  go_wp2_with fail
  have T := kput11 5 ⟨#[97]⟩ H1.out
  rw [aw11_1] at T
  refine T.mono ?_
  rintro e w2 ⟨rfl, h2, -⟩
  have H2 := hide (show K11 w w2 g gr (aw11a (.string ⟨#[97]⟩)) 0 from h2)
  clear h2 T H1
  go_wp2_with fail
  have T := kput11 7 ⟨#[98]⟩ H2.out
  rw [aw11_2] at T
  refine T.mono ?_
  rintro e w3 ⟨rfl, h3, -⟩
  have H3 := hide (show K11 w w3 g gr (aw11b (.string ⟨#[97]⟩) (.string ⟨#[98]⟩)) 0 from h3)
  clear h3 T H2
  go_wp2_with fail
  have T := kput11 8 ⟨#[99]⟩ H3.out
  rw [aw11_3, aw11_4] at T
  refine T.mono ?_
  rintro e w4 ⟨rfl, h4, -⟩
  have H4 := hide h4
  clear h4 T H3
  go_wp2_with fail
  have T := kget11 7 H4.out
  rw [aw11_6, aw11_5] at T
  refine T.mono ?_
  rintro e w5 ⟨s, rfl, hs, h5, -⟩
  injection hs with hs
  subst hs
  have H5 := hide h5
  clear h5 T H4
  go_wp2_with fail
  have T := full11 H5.out.ok.n16 H5.out.ps
  rw [aw11_7] at T
  refine T.mono ?_
  rintro e w6 ⟨rfl, rfl⟩
  go_wp2
  go_ret
  exact ⟨rfl, H5.out.bel⟩
end Go.Proofs.Ythigibgokbmehaa
