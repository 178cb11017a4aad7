/-
  A page that comes in by value, opened.
-/
import Derived.Test.YtcehppekcbbaaaaRows
import Derived.Test.YtcehppekcbbaaaaOpeners
import Derived.Test.YtcehppekcbbaaaaPageMath
namespace Go.Proofs.Ytcehppekcbbaaaa
open Go.ChangeShapes Go.WideShapes Go.ChangeAt Go.RowKit Go.Deep Go.Joins
set_option linter.unusedVariables false

section
variable {H : Type} {enc : TypeId × Value → H} {W : World}

theorem cell_open (n : Nat) (c0 c1 : Value) (y : Option (DataW H × List MemPlace)) (hy : y.isSome = true) (h : DataW.trod enc Try.prog W 0 (fun _ => true) true n 24 [c0, c1] = y) : ∃ (u : Bool) (s : ByteArray), c0 = .bool u ∧ c1 = .string s ∧ s.size ≤ maxLen := by
  obtain ⟨y, rfl⟩ := Option.isSome_iff_exists.1 hy
  obtain ⟨y0, y1, m, _, _, h0, h1⟩ := trod_struct2 Try.underlying24 h
  have e0 : Try.prog.cellsOf 4 = 1 := by kernel_rfl
  have e1 : Try.prog.cellsOf 9 = 1 := by kernel_rfl
  simp only [e0, e1, List.drop_zero, List.drop_succ_cons, List.take_succ_cons, List.take_zero] at h0 h1
  obtain ⟨b, hb, _⟩ := DataW.trod_bool Try.underlying4 h0
  obtain ⟨s, hs, _, hz⟩ := DataW.trod_string Try.underlying9 h1
  simp only [List.cons.injEq, and_true] at hb hs
  exact ⟨b, s, hb, hs, hz⟩

/-- The page of given cells. -/
def mkPg (l : Nat) (u0 u1 u2 u3 u4 u5 u6 u7 : Bool) (s0 s1 s2 s3 s4 s5 s6 s7 : ByteArray) : Pg :=
  ⟨l, fun i => match i with | 0 => u0 | 1 => u1 | 2 => u2 | 3 => u3 | 4 => u4 | 5 => u5 | 6 => u6 | _ => u7, fun i => match i with | 0 => s0 | 1 => s1 | 2 => s2 | 3 => s3 | 4 => s4 | 5 => s5 | 6 => s6 | _ => s7⟩

theorem op_page {v : Value} {d : DataW H} {p : List MemPlace} {r : Reach} {b0 : Nat} (hv : Value.okWide Try.prog W r b0 27 v) (h : DataW.Trod enc Try.prog W 0 (fun _ => true) true 27 v d p) :
    ∃ q : Pg, v = .agg (pgA q) ∧ q.fits := by
  obtain ⟨cs, rfl, hsz⟩ := okWide_struct Try.underlying27 hv
  have hC : Try.prog.cellsOf 27 = 17 := by kernel_rfl
  rw [hC] at hsz
  obtain ⟨fuel, hf⟩ := h
  obtain ⟨l⟩ := cs
  have hl : l.length = 17 := hsz
  match l, hl with
  | [c0, c1, c2, c3, c4, c5, c6, c7, c8, c9, c10, c11, c12, c13, c14, c15, c16], _ =>
    have ec : (Value.agg ⟨[c0, c1, c2, c3, c4, c5, c6, c7, c8, c9, c10, c11, c12, c13, c14, c15, c16]⟩).cells.toList = [c0, c1, c2, c3, c4, c5, c6, c7, c8, c9, c10, c11, c12, c13, c14, c15, c16] := rfl
    obtain ⟨y0, y1, m, _, _, h0, h1⟩ := trod_struct2 Try.underlying27 hf
    have e0 : Try.prog.cellsOf 22 = 1 := by kernel_rfl
    have e1 : Try.prog.cellsOf 25 = 16 := by kernel_rfl
    have e2 : Try.prog.cellsOf 24 = 2 := by kernel_rfl
    simp only [ec, e0, e1, List.drop_zero, List.drop_succ_cons, List.take_succ_cons, List.take_zero] at h0 h1
    obtain ⟨j, hj, _, hw⟩ := DataW.trod_int Try.underlying22 h0
    obtain ⟨xs, m2, _, _, _, hx, hall⟩ := DataW.trod_array Try.underlying25 h1
    simp only [e2] at hall
    have ho : ∀ i, i < 8 → (xs[i]?).isSome = true := fun i hi => by rw [List.getElem?_eq_getElem (by omega)]; rfl
    have a0 := hall 0 (by omega)
    have a1 := hall 1 (by omega)
    have a2 := hall 2 (by omega)
    have a3 := hall 3 (by omega)
    have a4 := hall 4 (by omega)
    have a5 := hall 5 (by omega)
    have a6 := hall 6 (by omega)
    have a7 := hall 7 (by omega)
    simp only [List.drop_zero, List.drop_succ_cons, List.take_succ_cons, List.take_zero, Nat.zero_mul, Nat.one_mul, Nat.reduceMul] at a0 a1 a2 a3 a4 a5 a6 a7
    obtain ⟨u0, s0, rfl, rfl, z0⟩ := cell_open _ _ _ _ (ho 0 (by omega)) a0
    obtain ⟨u1, s1, rfl, rfl, z1⟩ := cell_open _ _ _ _ (ho 1 (by omega)) a1
    obtain ⟨u2, s2, rfl, rfl, z2⟩ := cell_open _ _ _ _ (ho 2 (by omega)) a2
    obtain ⟨u3, s3, rfl, rfl, z3⟩ := cell_open _ _ _ _ (ho 3 (by omega)) a3
    obtain ⟨u4, s4, rfl, rfl, z4⟩ := cell_open _ _ _ _ (ho 4 (by omega)) a4
    obtain ⟨u5, s5, rfl, rfl, z5⟩ := cell_open _ _ _ _ (ho 5 (by omega)) a5
    obtain ⟨u6, s6, rfl, rfl, z6⟩ := cell_open _ _ _ _ (ho 6 (by omega)) a6
    obtain ⟨u7, s7, rfl, rfl, z7⟩ := cell_open _ _ _ _ (ho 7 (by omega)) a7
    simp only [List.cons.injEq, and_true] at hj
    subst hj
    have hb := bounds_u64 hw
    have hn : ((j.toNat : Nat) : Int) = j := Int.toNat_of_nonneg hb.1
    refine ⟨mkPg j.toNat u0 u1 u2 u3 u4 u5 u6 u7 s0 s1 s2 s3 s4 s5 s6 s7, ?_, ?_, fun i hi => ?_⟩
    · unfold pgA mkPg
      simp only [hn]
    · show j.toNat < _
      omega
    · rcases lt8 hi with rfl | rfl | rfl | rfl | rfl | rfl | rfl | rfl <;> assumption
end
end Go.Proofs.Ytcehppekcbbaaaa
