/-
  The contract of quaysideref04's Encode.
-/
import Derived.Test.YtkbigineepohnaaPageRefImage
namespace Go.Proofs.Ytkbigineepohnaa
open Go.RowKit
set_option linter.unusedVariables false

set_option maxRecDepth 4000 in
set_option maxHeartbeats 400000 in
theorem renc_id (id : Int) (p : Pg) (w : World) (h : id < 0 ∨ 31 < id) :
    Calls Try.prog 11 #[.int .i64 id, .agg (pgA p)] w fun e w' => e = .returned (.tuple #[.string ⟨#[]⟩, .int .i64 1]) ∧ Below w.heap.size w w' := by
  have hb0 : Below w.heap.size w (w.alloc (.cells (pgA p) 27)) := (Below.refl _ _).alloc (Nat.le_refl _) _
  by_cases h1 : id < 0
  · clear h
    go_enter Try.func11, Try.ntmps11
    go_wp2
    go_ret2
    exact ⟨rfl, hb0⟩
  · have h2 : 31 < id := by omega
    clear h
    go_enter Try.func11, Try.ntmps11
    go_wp2
    go_ret2
    exact ⟨rfl, hb0⟩

set_option maxRecDepth 4000 in
set_option maxHeartbeats 400000 in
theorem renc_right (id : Nat) (p : Pg) (w : World) (h : id < 32) :
    Calls Try.prog 11 #[.int .i64 id, .agg (pgA p)] w fun e w' => e = .returned (.tuple #[.string ⟨(encB id p).1.toArray⟩, .int .i64 (encB id p).2]) ∧ Below w.heap.size w w' := by
  have hP : PgAt (w.alloc (.cells (pgA p) 27)) w.heap.size p := heap_alloc_new w _
  have hb0 : Below w.heap.size w (w.alloc (.cells (pgA p) 27)) := (Below.refl _ _).alloc (Nat.le_refl _) _
  have hz0 : w.heap.size < (w.alloc (.cells (pgA p) 27)).heap.size := by simp
  have h1 : ¬ (id : Int) < 0 := by omega
  have h2 : ¬ 31 < (id : Int) := by omega
  have R := fun w => rright_any p w
  have HP := hide hP
  have ha := hP.all
  by_cases hr : p.right
  · have HR := hide (fun w => (show Calls Try.prog 13 #[.agg (pgA p)] w fun e w' => e = .returned (.bool true) ∧ Below w.heap.size w w' by have := R w; rwa [decide_eq_true hr] at this))
    have HI := hide (fun w => rimage_any id p w h hr)
    have e : encB id p = (imageB id p, 0) := by unfold encB; rw [if_pos ⟨by omega, by omega, hr⟩]; rfl
    rw [e]
    clear R e hr hP
    obtain ⟨a0, a1, a2, a3, a4, a5, a6, a7, a8, a9, a10, a11, a12, a13, a14, a15, a16⟩ := ha
    go_enter Try.func11, Try.ntmps11
    go_wp2_with fail
    refine (HR.out _).mono ?_
    rintro e w1 ⟨rfl, hb1⟩
    have hP1 := HP.out.below hb1 hz0
    have d1 := hb0.trans (hb1.mono hb0.size)
    clear a0 a1 a2 a3 a4 a5 a6 a7 a8 a9 a10 a11 a12 a13 a14 a15 a16 HP HR hb0 hb1 hz0
    obtain ⟨a0, a1, a2, a3, a4, a5, a6, a7, a8, a9, a10, a11, a12, a13, a14, a15, a16⟩ := hP1.all
    clear hP1
    go_wp2_with fail
    refine (HI.out _).mono ?_
    rintro e w2 ⟨rfl, hb2⟩
    have d2 := d1.trans (hb2.mono d1.size)
    clear a0 a1 a2 a3 a4 a5 a6 a7 a8 a9 a10 a11 a12 a13 a14 a15 a16 HI d1 hb2
    go_wp2
    go_ret2
    exact ⟨rfl, d2⟩
  · have HR := hide (fun w => (show Calls Try.prog 13 #[.agg (pgA p)] w fun e w' => e = .returned (.bool false) ∧ Below w.heap.size w w' by have := R w; rwa [decide_eq_false hr] at this))
    have e : encB id p = ([], 1) := by unfold encB; rw [if_neg (fun h => hr h.2.2)]
    rw [e]
    clear R e hr hP
    obtain ⟨a0, a1, a2, a3, a4, a5, a6, a7, a8, a9, a10, a11, a12, a13, a14, a15, a16⟩ := ha
    go_enter Try.func11, Try.ntmps11
    go_wp2_with fail
    refine (HR.out _).mono ?_
    rintro e w1 ⟨rfl, hb1⟩
    have d1 := hb0.trans (hb1.mono hb0.size)
    clear a0 a1 a2 a3 a4 a5 a6 a7 a8 a9 a10 a11 a12 a13 a14 a15 a16 HP HR hb0 hb1 hz0
    go_wp2
    go_ret2
    exact ⟨rfl, d1⟩

/-- THE CONTRACT. -/
theorem renc_any (id : Int) (p : Pg) (w : World) :
    Calls Try.prog 11 #[.int .i64 id, .agg (pgA p)] w fun e w' => e = .returned (.tuple #[.string ⟨(encB id p).1.toArray⟩, .int .i64 (encB id p).2]) ∧ Below w.heap.size w w' := by
  by_cases h : 0 ≤ id ∧ id ≤ 31
  · obtain ⟨n, rfl⟩ := Int.eq_ofNat_of_zero_le h.1
    exact renc_right n p w (by omega)
  · have e : encB id p = ([], 1) := by unfold encB; rw [if_neg (fun g => h ⟨g.1, g.2.1⟩)]
    rw [e]
    exact renc_id id p w (by omega)
end Go.Proofs.Ytkbigineepohnaa
