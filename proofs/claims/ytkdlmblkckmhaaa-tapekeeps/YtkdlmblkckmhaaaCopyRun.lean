/-
  'copy' between slices, by what the operation answers. Of no program.
-/
import Derived.Test.YtkdlmblkckmhaaaPackMath
import Derived.Laws.IdiomCopy
namespace Go.Proofs.Ytkdlmblkckmhaaa
open Go.RowKit
set_option linter.unusedVariables false

theorem wpList_copy_run {P : Program} {ops : Array Oper} {rest : List Oper} {o : Oper} {a : Act} {w w' : World} {Q : Exit → Act → World → Prop} (hgd : o.guard = none) (d x : Operand) (t u : TypeId) (hop : o.op = Op.call { callee := Callee.builtin Builtin.copy, args := #[d, x], argTypes := #[t, u] })
    (vd vx v' : Value) (hs : a.eval d = vd) (hx : a.eval x = vx) (hrun : (Builtin.copy_ #[t, u] o.type #[vd, vx]).run P w = .ok v' w') (h : wpList P ops Q rest (a.put o.dst v') w') : wpList P ops Q (o :: rest) a w := by
  refine wpList_plain hgd fun K hK => ?_
  unfold Oper.wp
  simp [execOp, hop, resolve, invoke, builtin, hs, hx, hrun, Result.andThen]
  exact hK _ _ h

/-- Bytes copied into a row that was made for them. -/
theorem run_copy_made {P : Program} (w x : World) (t ty e : TypeId) (ht : P.underlying t = some (.slice e)) (hi : (P.info? e).map (·.size) = some 1) (g n : Nat) (hb : Below w.heap.size w x) (hg : w.heap.size ≤ g) (hr : x.heap[g]? = some (.cells (zrow n).toArray e (0, 0))) (a : Option Addr) (c : Nat) (bs : List UInt8) (hB : IsB x a n bs) (hm : n ≤ maxLen) :
    ∃ w', (Builtin.copy_ #[t, t] ty #[.slice (some ⟨g, 0, none⟩) n n, .slice a n c]).run P x = .ok (.int .i64 (n : Int)) w' ∧ w'.ownsRow w.heap.size e 1 (.slice (some ⟨g, 0, none⟩) n n) n (toV bs) ∧ Below w.heap.size w w' := by
  have hl := hB.1
  rcases Nat.eq_zero_or_pos n with rfl | hn
  · obtain rfl : bs = [] := List.eq_nil_of_length_eq_zero hl
    exact ⟨x, run_copy_none (P := P) x t t ty e _ _ 0 0 0 c ht hi rfl, ⟨rfl, .inr ⟨g, 0, _, rfl, hg, hr, Nat.le_refl _, hm, rfl, rfl⟩⟩, hb⟩
  · obtain ⟨b, off, rfl, _, hc⟩ := hB.2 hn
    have r1 := run_copy_row P x t t ty e g 0 n n ⟨b, off, none⟩ n c (zrow n).toArray e (toV bs) ht hi hr (by rw [toV_length, hl]; exact (Nat.min_self n).symm) (fun j v hv => by
      obtain ⟨h1, rfl⟩ := toV_some bs j v hv
      rw [Addr.add_lit]
      exact hc j (by omega)) (by rw [toV_length, hl]; simp [zrow]) (toV_one bs)
    rw [toV_length, hl] at r1
    refine ⟨_, r1, ⟨by rw [toV_length, hl, Nat.mul_one], .inr ⟨g, n, _, rfl, hg, setRow_heap x g _ _ e _ hr, Nat.le_refl _, hm, ?_, ?_⟩⟩, below_setRow hb hg _⟩
    · simp [zrow, toV_length, hl]
    · rw [Nat.mul_one]
      simp only [List.take_zero, List.nil_append]
      have e2 : n = (toV bs).length := by rw [toV_length, hl]
      rw [e2]
      exact List.take_left
/-- .. as one step of a region that draws its order. -/
theorem step_copy_run {P : Program} {ops : Array Oper} {o : Oper} {a : Act} {w : World} {K : Act → World → Prop} {Q : Exit → Act → World → Prop} {E : Prop}
    (hg : o.guard = none) (d x : Operand) (t u : TypeId) (hop : o.op = Op.call { callee := Callee.builtin Builtin.copy, args := #[d, x], argTypes := #[t, u] })
    (vd vx v' : Value) (w' : World) (hs : a.eval d = vd) (hx : a.eval x = vx) (hrun : (Builtin.copy_ #[t, u] o.type #[vd, vx]).run P w = .ok v' w') (hK : K (a.put o.dst v') w') :
    if Region.wanted o (yielded ops a.tmps) = true then Oper.wp P o a w K Q else E := by
  have hw : Region.wanted o (yielded ops a.tmps) = true := by simp [Region.wanted, hg]
  rw [if_pos hw]
  unfold Oper.wp
  simp [execOp, hop, resolve, invoke, builtin, hs, hx, hrun, Result.andThen]
  exact hK
end Go.Proofs.Ytkdlmblkckmhaaa
