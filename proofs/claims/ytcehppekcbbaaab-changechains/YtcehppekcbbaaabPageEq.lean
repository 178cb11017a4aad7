/-
  Two pages held against each other by == or !=.
-/
import Derived.Test.YtcehppekcbbaaabPageMem
import Derived.DeepKeys
import Derived.Laws.StructEq
namespace Go.Proofs.Ytcehppekcbbaaab
open Go.RowKit
set_option linter.unusedVariables false


/-- A page's cells as plain data. -/
def litsP (p : Pg) : List Lit := [.int .u64 p.l, .bool (p.u 0), .string (p.s 0).data.toList, .bool (p.u 1), .string (p.s 1).data.toList, .bool (p.u 2), .string (p.s 2).data.toList, .bool (p.u 3), .string (p.s 3).data.toList, .bool (p.u 4), .string (p.s 4).data.toList, .bool (p.u 5), .string (p.s 5).data.toList, .bool (p.u 6), .string (p.s 6).data.toList, .bool (p.u 7), .string (p.s 7).data.toList]

theorem data_inj {s t : ByteArray} : s.data.toList = t.data.toList ↔ s = t :=
  ⟨fun h => by rw [← mk_data s, h, mk_data], fun h => by rw [h]⟩

theorem litsP_iff (p q : Pg) : litsP p = litsP q ↔ p.same q := by
  unfold litsP
  simp only [List.cons.injEq, and_true, Lit.int.injEq, Lit.bool.injEq, Lit.string.injEq, data_inj, true_and]
  constructor
  · rintro ⟨h, a0, b0, a1, b1, a2, b2, a3, b3, a4, b4, a5, b5, a6, b6, a7, b7⟩
    refine ⟨by omega, fun i hi => ?_⟩
    rcases lt8 hi with rfl | rfl | rfl | rfl | rfl | rfl | rfl | rfl
    · exact ⟨a0, b0⟩
    · exact ⟨a1, b1⟩
    · exact ⟨a2, b2⟩
    · exact ⟨a3, b3⟩
    · exact ⟨a4, b4⟩
    · exact ⟨a5, b5⟩
    · exact ⟨a6, b6⟩
    · exact ⟨a7, b7⟩
  · rintro ⟨h, g⟩
    exact ⟨by omega, (g 0 (by omega)).1, (g 0 (by omega)).2, (g 1 (by omega)).1, (g 1 (by omega)).2, (g 2 (by omega)).1, (g 2 (by omega)).2, (g 3 (by omega)).1, (g 3 (by omega)).2, (g 4 (by omega)).1, (g 4 (by omega)).2, (g 5 (by omega)).1, (g 5 (by omega)).2, (g 6 (by omega)).1, (g 6 (by omega)).2, (g 7 (by omega)).1, (g 7 (by omega)).2⟩

theorem cell_lits (u : Bool) (s : ByteArray) (hs : s.size ≤ maxLen) : Try.prog.keyLits 2 26 [.bool u, .string s] = some [.bool u, .string s.data.toList] := by
  have e0 : Try.prog.cellsOf 4 = 1 := by kernel_rfl
  have e1 : Try.prog.cellsOf 9 = 1 := by kernel_rfl
  have e2 : Try.prog.cellsOf 26 = 2 := by kernel_rfl
  simp [Program.keyLits, Try.underlying26, Try.underlying4, Try.underlying9, e0, e1, e2, hs]

theorem lits_page (p : Pg) (h : p.fits) : Try.prog.keyLits 4 29 (pgA p).toList = some (litsP p) := by
  have e0 : Try.prog.cellsOf 24 = 1 := by kernel_rfl
  have e1 : Try.prog.cellsOf 27 = 16 := by kernel_rfl
  have e2 : Try.prog.cellsOf 26 = 2 := by kernel_rfl
  have e3 : Try.prog.cellsOf 29 = 17 := by kernel_rfl
  have hw : (Lit.int .u64 (p.l : Int)).wf = true := by
    have h1 := h.1
    have m1 : IntKind.u64.min = 0 := rfl
    have m2 : IntKind.u64.max = 18446744073709551615 := by decide
    simp only [Lit.wf, m1, m2, Bool.and_eq_true, decide_eq_true_eq]
    omega
  have r8 : List.range 8 = [0, 1, 2, 3, 4, 5, 6, 7] := rfl
  have c0 := cell_lits (p.u 0) (p.s 0) (h.2 0 (by omega))
  have c1 := cell_lits (p.u 1) (p.s 1) (h.2 1 (by omega))
  have c2 := cell_lits (p.u 2) (p.s 2) (h.2 2 (by omega))
  have c3 := cell_lits (p.u 3) (p.s 3) (h.2 3 (by omega))
  have c4 := cell_lits (p.u 4) (p.s 4) (h.2 4 (by omega))
  have c5 := cell_lits (p.u 5) (p.s 5) (h.2 5 (by omega))
  have c6 := cell_lits (p.u 6) (p.s 6) (h.2 6 (by omega))
  have c7 := cell_lits (p.u 7) (p.s 7) (h.2 7 (by omega))
  have hu : Try.prog.keyLits 3 24 [.int .u64 (p.l : Int)] = some [.int .u64 (p.l : Int)] := by
    simp [Program.keyLits, Try.underlying24, hw]
  have ha : Try.prog.keyLits 3 27 [.bool (p.u 0), .string (p.s 0), .bool (p.u 1), .string (p.s 1), .bool (p.u 2), .string (p.s 2), .bool (p.u 3), .string (p.s 3), .bool (p.u 4), .string (p.s 4), .bool (p.u 5), .string (p.s 5), .bool (p.u 6), .string (p.s 6), .bool (p.u 7), .string (p.s 7)] = some (litsP p).tail := by
    unfold Program.keyLits
    simp [Try.underlying27, e1, e2, r8, c0, c1, c2, c3, c4, c5, c6, c7, litsP]
  unfold Program.keyLits
  simp [Try.underlying29, e0, e1, e3, pgA, hu, ha]
  simp [litsP]

theorem run_page_eql (p q : Pg) (hp : p.fits) (hq : q.fits) (w : World) : (binOp .eql 29 (.agg (pgA p)) (.agg (pgA q))).run Try.prog w = .ok (.bool (decide (p.same q))) w := by
  obtain ⟨r, hr, hiff⟩ := run_equalIn_deep (P := Try.prog) 9996 4 29 (by kernel_rfl) w 4 4 (.agg (pgA p)) (.agg (pgA q)) (litsP p) (litsP q) (by kernel_rfl) (by kernel_rfl) (lits_page p hp) (lits_page q hq)
  have e : r = decide (p.same q) := by
    rw [Bool.eq_iff_iff, hiff, litsP_iff, decide_eq_true_iff]
  rw [e] at hr
  have hr2 : (Op.equal 29 (.agg (pgA p)) (.agg (pgA q))).run Try.prog w = .ok (decide (p.same q)) w := hr
  simp [binOp, hr2]
theorem run_page_neq (p q : Pg) (hp : p.fits) (hq : q.fits) (w : World) : (binOp .neq 29 (.agg (pgA p)) (.agg (pgA q))).run Try.prog w = .ok (.bool (!decide (p.same q))) w := by
  obtain ⟨r, hr, hiff⟩ := run_equalIn_deep (P := Try.prog) 9996 4 29 (by kernel_rfl) w 4 4 (.agg (pgA p)) (.agg (pgA q)) (litsP p) (litsP q) (by kernel_rfl) (by kernel_rfl) (lits_page p hp) (lits_page q hq)
  have e : r = decide (p.same q) := by
    rw [Bool.eq_iff_iff, hiff, litsP_iff, decide_eq_true_iff]
  rw [e] at hr
  have hr2 : (Op.equal 29 (.agg (pgA p)) (.agg (pgA q))).run Try.prog w = .ok (decide (p.same q)) w := hr
  simp [binOp, hr2]
theorem page_guard (op : BinOp) (x y : Operand) (p q : Pg) (w : World) : (eqGuard op 29 x y (.agg (pgA p)) (.agg (pgA q))).run Try.prog w = .ok () w := run_eqGuard_agg (P := Try.prog) w op 29 x y (pgA p) (pgA q) (by kernel_rfl)
end Go.Proofs.Ytcehppekcbbaaab
