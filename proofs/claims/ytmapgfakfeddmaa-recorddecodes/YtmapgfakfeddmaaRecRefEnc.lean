/-
  The contract of quaysideref06.Encode.
-/
import Derived.Test.YtmapgfakfeddmaaRecRefRight6
import Derived.Test.YtmapgfakfeddmaaRecRefBytesCh
import Derived.Test.YtmapgfakfeddmaaRecRefBytes8
namespace Go.Proofs.Ytmapgfakfeddmaa
open Go.RowKit
set_option linter.unusedVariables false

theorem bytes_any (r : Rec) (va vb : Value) (w : World) (hr : r.right) (hin : RcIn w r va vb) :
    Calls Try.prog 23 #[.agg (rcA r va vb)] w fun e w' => e = .returned (.string (mkS (recB r))) ∧ Below w.heap.size w w' := by
  have h1 := hr.k1
  have h8 := hr.k8
  by_cases k1 : r.k = 1
  · exact bytes_update r va vb w hr k1 hin
  by_cases k2 : r.k = 2
  · exact bytes_clr r va vb w hr k2 hin
  by_cases k6 : r.k = 6
  · exact bytes_save r va vb w hr k6 hin
  by_cases k8 : r.k = 8
  · exact bytes_check r va vb w hr k8 hin
  exact bytes_end r va vb w hr (by omega) hin

/-- What 'Encode' answers. -/
noncomputable def encE (r : Rec) : Int := if r.rightB = true then 0 else 1
noncomputable def encL (r : Rec) : List UInt8 := if r.rightB = true then recB r else []

set_option maxRecDepth 4000 in
set_option maxHeartbeats 1600000 in
theorem renc6_any (r : Rec) (va vb : Value) (w : World) (hf : r.c.fits) (hin : RcIn w r va vb) :
    Calls Try.prog 11 #[.agg (rcA r va vb)] w fun e w' => e = .returned (.tuple #[.string (mkS (encL r)), .int .i64 (encE r)]) ∧ Below w.heap.size w w' := by
  have HK0 := hide (Keeps.one w 28 (rcA r va vb))
  have HR := hide (fun w hin => rright6_any r va vb w hf hin)
  have HI := hide hin
  obtain ⟨A, hA⟩ : ∃ A, A = rcA r va vb := ⟨_, rfl⟩
  rw [← hA] at HK0 HR ⊢
  have HA := hide hA
  clear hA hf hin
  have HIA : Hid ((Try.prog.info? 28).map (·.size) = some A.size) := by
    rw [HA.out]
    exact infoRc
  by_cases hr : r.right
  · have e1 : encL r = recB r := by unfold encL; rw [if_pos (rightB_yes hr)]
    have e2 : encE r = 0 := by unfold encE; rw [if_pos (rightB_yes hr)]
    rw [e1, e2]
    rw [rightB_yes hr] at HR
    have HB := hide (fun w hin => bytes_any r va vb w hr hin)
    rw [← HA.out] at HB
    clear e1 e2 hr
    go_enter Try.func11, Try.ntmps11
    go_wp2_with (refine wpList_load_at rfl 28 (.tmp 1) rfl w.heap.size rfl A HK0.out.1.1 _ Try.underlying28 rfl HIA.out ?_)
    refine (HR.out _ (HI.out.below HK0.out.2)).mono ?_
    rintro e w1 ⟨rfl, hb1⟩
    have HK1 := hide (HK0.out.later hb1)
    clear HK0 HR hb1
    go_wp2_with (refine wpList_load_at rfl 28 (.tmp 1) rfl w.heap.size rfl A HK1.out.1.1 _ Try.underlying28 rfl HIA.out ?_)
    refine (HB.out _ (HI.out.below HK1.out.2)).mono ?_
    rintro e w2 ⟨rfl, hb2⟩
    have d2 := (HK1.out.later hb2).2
    clear HK1 HB hb2
    go_wp2
    go_ret2
    exact ⟨rfl, d2⟩
  · have e1 : encL r = [] := by unfold encL; rw [if_neg (by rw [rightB_no hr]; decide)]
    have e2 : encE r = 1 := by unfold encE; rw [if_neg (by rw [rightB_no hr]; decide)]
    rw [e1, e2]
    rw [rightB_no hr] at HR
    clear e1 e2 hr
    go_enter Try.func11, Try.ntmps11
    go_wp2_with (refine wpList_load_at rfl 28 (.tmp 1) rfl w.heap.size rfl A HK0.out.1.1 _ Try.underlying28 rfl HIA.out ?_)
    refine (HR.out _ (HI.out.below HK0.out.2)).mono ?_
    rintro e w1 ⟨rfl, hb1⟩
    have d1 := (HK0.out.later hb1).2
    clear HK0 HR hb1
    go_wp2
    go_ret2
    exact ⟨rfl, d1⟩
end Go.Proofs.Ytmapgfakfeddmaa
