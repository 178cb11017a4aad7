/-
  The arguments of layer 3's statements, opened.
-/
import Derived.Test.YtonbfckloicgaaaRows
import Derived.Test.YtonbfckloicgaaaOpeners
import Derived.Test.YtonbfckloicgaaaLsnMath
namespace Go.Proofs.Ytonbfckloicgaaa
open Go.ChangeShapes Go.WideShapes Go.ChangeAt Go.RowKit Go.Deep Go.Joins
set_option linter.unusedVariables false

/-- A script's cells. -/
def opV (x : Int × Int × Bool) (c : Nat) : Value := if c = 0 then .int .i64 x.1 else if c = 1 then .int .u64 x.2.1 else .bool x.2.2

section
variable {H : Type} {enc : TypeId × Value → H} {W : World}

theorem elem_op (n : Nat) (cs : List Value) (y : DataW H × List MemPlace) (h : DataW.trod enc Try.prog W 0 (fun _ => true) true n 34 cs = some y) :
    ∃ x : Int × Int × Bool, (Lit.int .u64 x.2.1).wf = true ∧ ∀ k, k < 3 → cs[k]? = some (opV x k) := by
  obtain ⟨y0, y1, y2, m, _, hl, h0, h1, h2⟩ := trod_struct3 Try.underlying34 h
  have hC : Try.prog.cellsOf 34 = 3 := by kernel_rfl
  rw [hC] at hl
  match cs, hl with
  | [c0, c1, c2], _ =>
    have e0 : Try.prog.cellsOf 3 = 1 := by kernel_rfl
    have e1 : Try.prog.cellsOf 22 = 1 := by kernel_rfl
    have e2 : Try.prog.cellsOf 4 = 1 := by kernel_rfl
    simp only [e0, e1, e2, List.drop_zero, List.drop_succ_cons, List.take_succ_cons, List.take_zero] at h0 h1 h2
    obtain ⟨i, hi, _, _⟩ := DataW.trod_int Try.underlying3 h0
    obtain ⟨j, hj, _, hw⟩ := DataW.trod_int Try.underlying22 h1
    obtain ⟨b, hb, _⟩ := DataW.trod_bool Try.underlying4 h2
    simp only [List.cons.injEq, and_true] at hi hj hb
    subst hi hj hb
    refine ⟨(i, j, b), hw, fun k hk => ?_⟩
    match k, hk with
    | 0, _ => rfl
    | 1, _ => rfl
    | 2, _ => rfl

theorem op_op {v : Value} {d : DataW H} {p : List MemPlace} {r : Reach} {b0 : Nat} (hv : Value.okWide Try.prog W r b0 34 v) (h : DataW.Trod enc Try.prog W 0 (fun _ => true) true 34 v d p) :
    ∃ k n s, v = .agg #[.int .i64 k, .int .u64 n, .bool s] := by
  obtain ⟨v0, v1, v2, y0, y1, y2, m, rfl, _, _, h0, h1, h2⟩ := open_agg3 Try.underlying34 (by kernel_rfl) (by kernel_rfl) hv h
  obtain ⟨i, hi, _, _⟩ := DataW.trod_int Try.underlying3 h0
  obtain ⟨j, hj, _, hw⟩ := DataW.trod_int Try.underlying22 h1
  obtain ⟨b, hb, _⟩ := DataW.trod_bool Try.underlying4 h2
  simp only [List.cons.injEq, and_true] at hi hj hb
  subst hi hj hb
  exact ⟨i, j, b, rfl⟩

theorem op_bools {v : Value} {d : DataW H} {p : List MemPlace} {r : Reach} {b0 : Nat} (hv : Value.okWide Try.prog W r b0 43 v) (h : DataW.Trod enc Try.prog W 0 (fun _ => true) true 43 v d p)
    (hs : ∀ n ∈ d.weights Try.prog 43, n ≤ reachBytes) : ∃ m : Option Addr × Nat × Nat × (Nat → Bool), v = .slice m.1 m.2.1 m.2.2.1 ∧ m.2.1 ≤ 140737488355328 ∧ IsRow W m.1 m.2.1 1 (fun i _ => .bool (m.2.2.2 i)) := by
  obtain ⟨a, len, cap, f, rfl, fm, _, _, _, hr⟩ := open_rows_all (fun (x : Bool) _ => Value.bool x) (fun _ => True) trivial (elem_bool Try.underlying4) Try.underlying43 (by kernel_rfl) (by decide) hv h
  have z := fm.sized Try.underlying43 (of_decide_eq_true (by kernel_rfl)) hs
  exact ⟨(a, len, cap, f), rfl, by show len ≤ _; omega, hr⟩

theorem op_ops {v : Value} {d : DataW H} {p : List MemPlace} {r : Reach} {b0 : Nat} (hv : Value.okWide Try.prog W r b0 23 v) (h : DataW.Trod enc Try.prog W 0 (fun _ => true) true 23 v d p)
    (hs : ∀ n ∈ d.weights Try.prog 23, n ≤ reachBytes) : ∃ m : Option Addr × Nat × Nat × (Nat → Int) × (Nat → Int) × (Nat → Bool), v = .slice m.1 m.2.1 m.2.2.1 ∧ (∀ i, (Lit.int .u64 (m.2.2.2.2.1 i)).wf = true) ∧ m.2.1 ≤ 140737488355328 ∧
      IsRow W m.1 m.2.1 3 (fun i c => if c = 0 then .int .i64 (m.2.2.2.1 i) else if c = 1 then .int .u64 (m.2.2.2.2.1 i) else .bool (m.2.2.2.2.2 i)) := by
  obtain ⟨a, len, cap, f, rfl, fm, _, _, hG, hr⟩ := open_rows_all opV (fun x => (Lit.int .u64 x.2.1).wf = true) (by decide) elem_op Try.underlying23 (by kernel_rfl) (by decide) hv h
  have z := fm.sized Try.underlying23 (of_decide_eq_true (by kernel_rfl)) hs
  exact ⟨(a, len, cap, fun i => (f i).1, fun i => (f i).2.1, fun i => (f i).2.2), rfl, hG, by show len ≤ _; omega, hr⟩

theorem bulk_pos (d : DataW H) : 1 ≤ Rows.uptoBulk d := by
  cases d with
  | lit l => cases l <;> simp [Rows.uptoBulk]
  | _ => simp [Rows.uptoBulk]
theorem bulk_all : ∀ (l : List (DataW H)), l.length ≤ Rows.uptoBulkAll l
  | [] => by simp
  | d :: l => by
    have h1 := bulk_pos d
    have h2 := bulk_all l
    simp only [Rows.uptoBulkAll, List.length_cons]
    omega
theorem SlForm.small {d : DataW H} {len cap : Nat} (h : SlForm d len cap) : len ≤ Rows.uptoBulk d := by
  rcases h with ⟨_, rfl, _⟩ | ⟨es, sp, rfl, h1, h2⟩
  · omega
  · have := bulk_all es
    simp only [Rows.uptoBulk]
    omega

theorem op_u64s {v : Value} {d : DataW H} {p : List MemPlace} {r : Reach} {b0 : Nat} (hv : Value.okWide Try.prog W r b0 47 v) (h : DataW.Trod enc Try.prog W 0 (fun _ => true) true 47 v d p)
    (hs : Rows.uptoBulk d ≤ 1048576) : ∃ m : Option Addr × Nat × Nat × List Nat, v = .slice m.1 m.2.1 m.2.2.1 ∧ m.2.1 ≤ 1048576 ∧ (m.1 = none → m.2.2.1 = 0) ∧ IsU W m.1 m.2.1 m.2.2.2 := by
  obtain ⟨a, len, cap, f, rfl, fm, _, hn, hG, hr⟩ := open_rows_all (fun (x : Int) _ => Value.int .u64 x) (fun x => (Lit.int .u64 x).wf = true) (by decide) (elem_int Try.underlying22) Try.underlying47 (by kernel_rfl) (by decide) hv h
  have z := fm.small
  refine ⟨(a, len, cap, (List.range len).map fun i => (f i).toNat), rfl, by show len ≤ _; omega, hn, by simp, fun z hz => ?_, fun hp => ?_⟩
  · obtain ⟨i, _, rfl⟩ := List.mem_map.1 hz
    have := bounds_u64 (hG i)
    omega
  · obtain ⟨b, off, ha, hb, hc⟩ := hr hp
    refine ⟨b, off, ha, hb, fun j hj => ?_⟩
    have h1 := hc j 0 hj (by omega)
    rw [Nat.mul_one, Nat.add_zero] at h1
    rw [h1]
    have h2 := bounds_u64 (hG j)
    have h3 : (List.map (fun i => (f i).toNat) (List.range len)).getD j 0 = (f j).toNat := by simp [List.getD, hj]
    rw [h3]
    have h4 : (((f j).toNat : Nat) : Int) = f j := Int.toNat_of_nonneg h2.1
    rw [h4]
end
end Go.Proofs.Ytonbfckloicgaaa
