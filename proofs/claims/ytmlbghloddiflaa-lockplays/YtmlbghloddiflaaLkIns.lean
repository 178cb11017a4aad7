/-
  The contract of slices.Insert of one lock among locks.
-/
import Derived.Test.YtmlbghloddiflaaLkDel
import Derived.Lib.Overlaps
import Derived.Lib.AppendZerosOnto
import Derived.Laws.NewBlocks
import Derived.Maps.AppendAt
import Derived.Laws.Externs
import Derived.Shelf.RegionOpenPlain
import Derived.Lib.Walk
namespace Go.Proofs.Ytmlbghloddiflaa
open Go.RowKit
set_option linter.unusedVariables false

theorem wpList_copy_run13 {P : Program} (w : World) {ops : Array Oper} {rest : List Oper} {o : Oper} {a : Act} {Q : Exit → Act → World → Prop} (hgd : o.guard = none) (d s : Operand) (t t' : TypeId)
    (ho : o.op = .call { callee := .builtin .copy, args := #[d, s], argTypes := #[t, t'] }) (v u : Value) (hd : a.eval d = v) (hs : a.eval s = u) {v' : Value} {w' : World}
    (hr : (Builtin.copy_ #[t, t'] o.type #[v, u]).run P w = .ok v' w') (h : wpList P ops Q rest (a.put o.dst v') w') : wpList P ops Q (o :: rest) a w :=
  wpList_plain hgd fun _ hK => by
    unfold Oper.wp execOp
    simp only [ho, resolve, invoke, builtin, Sem.run_bind, Sem.run_pure, Result.andThen_ok, List.map_toArray, List.map_cons, List.map_nil, hd, hs, hr]
    exact hK _ _ h
theorem step_copy_run13 {P : Program} {ops : Array Oper} {o : Oper} {a : Act} {w : World} {K : Act → World → Prop} {Q : Exit → Act → World → Prop} {E : Prop}
    (hg : o.guard = none) (d x : Operand) (dT sT : TypeId) (hop : o.op = Op.call { callee := Callee.builtin Builtin.copy, args := #[d, x], argTypes := #[dT, sT] })
    (v u : Value) (hd : a.eval d = v) (hx : a.eval x = u) {v' : Value} {w' : World} (hr : (Builtin.copy_ #[dT, sT] o.type #[v, u]).run P w = .ok v' w') (hK : K (a.put o.dst v') w') :
    if Region.wanted o (yielded ops a.tmps) = true then Oper.wp P o a w K Q else E := by
  have hw : Region.wanted o (yielded ops a.tmps) = true := by simp [Region.wanted, hg]
  rw [if_pos hw]
  unfold Oper.wp
  simp [execOp, hop, resolve, invoke, builtin, hd, hx, hr, Result.andThen]
  exact hK
/-- One lock behind the others: in their row, or in a new one. -/
theorem run_push13 (w : World) (ty : TypeId) (s : Sl) (l : List Hd) (h : HB w s l) (k : Hd) (g c : Nat) (hg : ∀ j u, (hdL k)[j]? = some u → w.cell? ⟨g, j, none⟩ = some u) (hl : l.length ≤ 1000000) :
    ∃ s' w', (Builtin.append_ #[30, 30] ty #[slV s l.length, .slice (some ⟨g, 0, none⟩) 1 c]).run Try.prog w = .ok (slV s' (l.length + 1)) w' ∧ HB w' s' (l ++ [k]) ∧ Tn (ofS s) w w' ∧ (∀ q, s'.b = some q → s.b = some q ∨ w.heap.size ≤ q) := by
  obtain ⟨i, hi0, hi1⟩ := Option.map_eq_some_iff.1 infoH
  simp only [Prod.mk.injEq] at hi1
  have hcells : ∀ j u, (hdL k)[j]? = some u → w.cell? ((⟨g, 0, none⟩ : Addr).add j) = some u := fun j u hu => by
    rw [Addr.add_lit, Nat.zero_add]
    exact hg j u hu
  have flat : flatH (l ++ [k]) = flatH l ++ hdL k := by rw [flatH_append, flatH_one]
  have own : w.ownsRow 0 46 3 (slV s l.length) l.length (flatH l) := by
    refine ⟨flatH_len l, ?_⟩
    rcases h with ⟨h1, rfl, h3⟩ | ⟨b, cs, h1, h2, h3, h4, h5, h6, h7⟩
    · left
      unfold slV
      rw [h1, h3]
      exact ⟨rfl, rfl⟩
    · right
      refine ⟨b, s.c, cs, by unfold slV; rw [h1]; rfl, Nat.zero_le _, h2, h4, h6, h3, ?_⟩
      apply List.ext_getElem?
      intro j
      rw [List.getElem?_take]
      by_cases hj : j < l.length * 3
      · rw [if_pos hj]
        have hj2 : j < (flatH l).length := by rw [flatH_len]; exact hj
        have h8 := h7 j _ (List.getElem?_eq_getElem hj2)
        rw [cell_of_row w b j _ _ (0, 0) h2] at h8
        rw [Array.getElem?_toList, h8, List.getElem?_eq_getElem hj2]
      · rw [if_neg hj, List.getElem?_eq_none (by rw [flatH_len]; omega)]
  obtain ⟨v', w', r1, r2, r3, _, r5⟩ := run_append_own_at (P := Try.prog) w 0 30 ty 46 i (.agg zeroH) 3 24 Try.underlying30 hi0 hi1.1 hi1.2.1 hi1.2.2 rfl (by omega) (slV s l.length) l.length (flatH l) own ⟨g, 0, none⟩ 1 c (hdL k) rfl hcells (hdL_one k) (by unfold maxLen; omega) (by omega) (Nat.zero_le _)
  rw [← flat] at r2
  obtain ⟨s', rfl, h1, _⟩ := HB.fresh (l := l ++ [k]) (by simp) (by omega) r2
  have hob : ∀ (s : Sl) (n : Nat), (slV s n).ownBlock = s.b := by
    rintro ⟨_ | b, c⟩ n <;> rfl
  rw [hob, hob] at r5
  rw [hob] at r3
  refine ⟨s', w', r1, h1, Tn.of_grown r3 (fun k hk => hk), fun q hq => ?_⟩
  rcases r5 with r5 | r5
  · exact .inl (r5.symm.trans hq)
  · rw [r5] at hq
    injection hq with hq
    exact .inr (by omega)
theorem over13 (w : World) (vb b i m vc lb cb : Nat) (hne : vb ≠ b) (tA tB : TypeId) (va vs : Array Value) (hA : RowAt w vb tA va) (hB : RowAt w b tB vs) (hz : vs.size ≠ 0) :
    (callFunc 94 #[.slice (some ⟨vb, 0, none⟩) m vc, .slice (some ⟨b, i, none⟩) lb cb]).run Try.prog w = .ok (.value (.bool false)) w := by
  have hsa : w.shape? vb = some (tA, va.size) := by
    have e : w.heap[vb]? = some (.cells va tA (0, 0)) := hA
    simp [World.shape?, e]
  have hsb : w.shape? b = some (tB, vs.size) := by
    have e : w.heap[b]? = some (.cells vs tB (0, 0)) := hB
    simp [World.shape?, e]
  rw [run_callFunc_extern Try.func94 (by kernel_rfl) (by kernel_rfl) (by kernel_rfl) (e := Extern.SlicesOverlaps.overlaps #[30, 30] #[4]) (by kernel_rfl),
    Lib.run_overlaps_apart w 30 4 46 Try.underlying30 3 (fun w => by kernel_rfl) ⟨vb, 0, none⟩ ⟨b, i, none⟩ m vc lb cb hne tA tB va.size vs.size hsa hsb hz (hA.free _) (hA.free _)]
  rfl
/-- What Insert makes. -/
def insL (l : List Hd) (i : Nat) (k : Hd) : List Hd := l.take i ++ k :: l.drop i
theorem insL_len (l : List Hd) (i : Nat) (k : Hd) (hi : i ≤ l.length) : (insL l i k).length = l.length + 1 := by
  unfold insL
  rw [List.length_append, List.length_cons, List.length_take, List.length_drop]
  omega
theorem flat_ins (l : List Hd) (i : Nat) (k : Hd) : flatH (insL l i k) = flatH (l.take i) ++ (hdL k ++ flatH (l.drop i)) := by
  unfold insL
  rw [flatH_append, show k :: l.drop i = [k] ++ l.drop i from rfl, flatH_append, flatH_one]
end Go.Proofs.Ytmlbghloddiflaa
