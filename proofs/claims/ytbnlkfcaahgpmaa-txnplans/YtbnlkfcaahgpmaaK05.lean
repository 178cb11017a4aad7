/-
  Texts that lean on one another, one behind the other: each opens with its own remark.
-/
import Derived.Test.YtbnlkfcaahgpmaaRows
import Derived.Test.YtbnlkfcaahgpmaaProg
import Derived.WalkSpells
import Derived.Test.YtbnlkfcaahgpmaaK04
import Derived.Test.YtbnlkfcaahgpmaaK00
import Derived.Test.YtbnlkfcaahgpmaaK01

/-
  A list of structs that comes in as an argument, opened. Of no program.
-/
namespace Go.Proofs.Ytbnlkfcaahgpmaa
open Go.ChangeShapes Go.WideShapes Go.ChangeAt Go.RowKit Go.Deep Go.Joins
set_option linter.unusedVariables false

theorem u64_nat {i : Int} (h : (Lit.int .u64 i).wf = true) : ∃ n : Nat, i = (n : Int) := by
  have := (bounds_u64 h).1
  exact ⟨i.toNat, by omega⟩

section
variable {H : Type} {enc : TypeId × Value → H} {W : World}

theorem trod_st3 {P : Program} {t : TypeId} {f0 f1 f2 : Field} {fuel : Nat} {cs : List Value} {x : DataW H × List MemPlace} (ht : P.underlying t = some (.struct #[f0, f1, f2])) (h : DataW.trod enc P W 0 (fun _ => true) true fuel t cs = some x) :
    ∃ y0 y1 y2 n, cs.length = P.cellsOf t ∧ DataW.trod enc P W 0 (fun _ => true) true n f0.type ((cs.drop f0.offset).take (P.cellsOf f0.type)) = some y0 ∧ DataW.trod enc P W 0 (fun _ => true) true n f1.type ((cs.drop f1.offset).take (P.cellsOf f1.type)) = some y1 ∧ DataW.trod enc P W 0 (fun _ => true) true n f2.type ((cs.drop f2.offset).take (P.cellsOf f2.type)) = some y2 := by
  obtain ⟨xs, n, _, rfl, hl, hlen, hf⟩ := DataW.trod_struct ht h
  match xs, hlen with
  | [y0, y1, y2], _ => exact ⟨y0, y1, y2, n, hl, by simpa using hf 0 f0 rfl, by simpa using hf 1 f1 rfl, by simpa using hf 2 f2 rfl⟩

theorem trod_st2 {P : Program} {t : TypeId} {f0 f1 : Field} {fuel : Nat} {cs : List Value} {x : DataW H × List MemPlace} (ht : P.underlying t = some (.struct #[f0, f1])) (h : DataW.trod enc P W 0 (fun _ => true) true fuel t cs = some x) :
    ∃ y0 y1 n, cs.length = P.cellsOf t ∧ DataW.trod enc P W 0 (fun _ => true) true n f0.type ((cs.drop f0.offset).take (P.cellsOf f0.type)) = some y0 ∧ DataW.trod enc P W 0 (fun _ => true) true n f1.type ((cs.drop f1.offset).take (P.cellsOf f1.type)) = some y1 := by
  obtain ⟨xs, n, _, rfl, hl, hlen, hf⟩ := DataW.trod_struct ht h
  match xs, hlen with
  | [y0, y1], _ => exact ⟨y0, y1, n, hl, by simpa using hf 0 f0 rfl, by simpa using hf 1 f1 rfl⟩

theorem trod_st5 {P : Program} {t : TypeId} {f0 f1 f2 f3 f4 : Field} {fuel : Nat} {cs : List Value} {x : DataW H × List MemPlace} (ht : P.underlying t = some (.struct #[f0, f1, f2, f3, f4])) (h : DataW.trod enc P W 0 (fun _ => true) true fuel t cs = some x) :
    ∃ y0 y1 y2 y3 y4 n, cs.length = P.cellsOf t ∧ DataW.trod enc P W 0 (fun _ => true) true n f0.type ((cs.drop f0.offset).take (P.cellsOf f0.type)) = some y0 ∧ DataW.trod enc P W 0 (fun _ => true) true n f1.type ((cs.drop f1.offset).take (P.cellsOf f1.type)) = some y1 ∧ DataW.trod enc P W 0 (fun _ => true) true n f2.type ((cs.drop f2.offset).take (P.cellsOf f2.type)) = some y2 ∧ DataW.trod enc P W 0 (fun _ => true) true n f3.type ((cs.drop f3.offset).take (P.cellsOf f3.type)) = some y3 ∧ DataW.trod enc P W 0 (fun _ => true) true n f4.type ((cs.drop f4.offset).take (P.cellsOf f4.type)) = some y4 := by
  obtain ⟨xs, n, _, rfl, hl, hlen, hf⟩ := DataW.trod_struct ht h
  match xs, hlen with
  | [y0, y1, y2, y3, y4], _ => exact ⟨y0, y1, y2, y3, y4, n, hl, by simpa using hf 0 f0 rfl, by simpa using hf 1 f1 rfl, by simpa using hf 2 f2 rfl, by simpa using hf 3 f3 rfl, by simpa using hf 4 f4 rfl⟩

theorem trod_st10 {P : Program} {t : TypeId} {f0 f1 f2 f3 f4 f5 f6 f7 f8 f9 : Field} {fuel : Nat} {cs : List Value} {x : DataW H × List MemPlace} (ht : P.underlying t = some (.struct #[f0, f1, f2, f3, f4, f5, f6, f7, f8, f9])) (h : DataW.trod enc P W 0 (fun _ => true) true fuel t cs = some x) :
    ∃ y0 y1 y2 y3 y4 y5 y6 y7 y8 y9 n, cs.length = P.cellsOf t ∧ DataW.trod enc P W 0 (fun _ => true) true n f0.type ((cs.drop f0.offset).take (P.cellsOf f0.type)) = some y0 ∧ DataW.trod enc P W 0 (fun _ => true) true n f1.type ((cs.drop f1.offset).take (P.cellsOf f1.type)) = some y1 ∧ DataW.trod enc P W 0 (fun _ => true) true n f2.type ((cs.drop f2.offset).take (P.cellsOf f2.type)) = some y2 ∧ DataW.trod enc P W 0 (fun _ => true) true n f3.type ((cs.drop f3.offset).take (P.cellsOf f3.type)) = some y3 ∧ DataW.trod enc P W 0 (fun _ => true) true n f4.type ((cs.drop f4.offset).take (P.cellsOf f4.type)) = some y4 ∧ DataW.trod enc P W 0 (fun _ => true) true n f5.type ((cs.drop f5.offset).take (P.cellsOf f5.type)) = some y5 ∧ DataW.trod enc P W 0 (fun _ => true) true n f6.type ((cs.drop f6.offset).take (P.cellsOf f6.type)) = some y6 ∧ DataW.trod enc P W 0 (fun _ => true) true n f7.type ((cs.drop f7.offset).take (P.cellsOf f7.type)) = some y7 ∧ DataW.trod enc P W 0 (fun _ => true) true n f8.type ((cs.drop f8.offset).take (P.cellsOf f8.type)) = some y8 ∧ DataW.trod enc P W 0 (fun _ => true) true n f9.type ((cs.drop f9.offset).take (P.cellsOf f9.type)) = some y9 := by
  obtain ⟨xs, n, _, rfl, hl, hlen, hf⟩ := DataW.trod_struct ht h
  match xs, hlen with
  | [y0, y1, y2, y3, y4, y5, y6, y7, y8, y9], _ => exact ⟨y0, y1, y2, y3, y4, y5, y6, y7, y8, y9, n, hl, by simpa using hf 0 f0 rfl, by simpa using hf 1 f1 rfl, by simpa using hf 2 f2 rfl, by simpa using hf 3 f3 rfl, by simpa using hf 4 f4 rfl, by simpa using hf 5 f5 rfl, by simpa using hf 6 f6 rfl, by simpa using hf 7 f7 rfl, by simpa using hf 8 f8 rfl, by simpa using hf 9 f9 rfl⟩

theorem op_rows {α : Type} (f : α → Array Value) (z : α) (G : α → Prop) {P : Program} {t e : TypeId} {sz fuel : Nat} {c : Value} {x : DataW H × List MemPlace} (hel : ∀ n cs y, DataW.trod enc P W 0 (fun _ => true) true n e cs = some y → ∃ x, cs = (f x).toList ∧ G x)
    (ht : P.underlying t = some (.slice e)) (hsz : P.cellsOf e = sz) (hfz : ∀ x, (f x).size = sz) (hpos : 0 < sz) (h : DataW.trod enc P W 0 (fun _ => true) true fuel t [c] = some x) : ∃ xs, RowsIn f z sz W c xs ∧ xs.length ≤ maxLen ∧ ∀ x ∈ xs, G x := by
  rcases open_slice ht h with ⟨hcs, _⟩ | ⟨a, len, cap, m, n, D, Pl, hcs, _, hl, hm, hmm, _, hall⟩
  · simp only [List.cons.injEq, and_true] at hcs
    exact ⟨[], ⟨none, 0, hcs, fun h => absurd h (by simp)⟩, Nat.zero_le _, fun x hx => nomatch hx⟩
  · simp only [List.cons.injEq, and_true] at hcs
    subst hcs
    simp only [if_true] at hmm
    subst hmm
    have : Nonempty α := ⟨z⟩
    obtain ⟨g, hg⟩ := @choose_lt α ⟨z⟩ m (fun i y => G y ∧ ∀ k, k < sz → W.cell? (a.add (i * sz + k)) = (f y).toList[k]?) (fun i hi => by
      obtain ⟨cs', h1, h2⟩ := hall i hi
      obtain ⟨y, rfl, hG⟩ := hel _ _ _ h2
      rw [hsz] at h1
      obtain ⟨_, _, h3⟩ := World.cells?_some h1
      refine ⟨y, hG, fun k hk => ?_⟩
      rw [← h3 k hk, Addr.add_add])
    have hL : ((List.range len).map g).length = len := by simp
    refine ⟨(List.range len).map g, ⟨some a, m, by rw [hL], fun hp => ?_⟩, by rw [hL]; omega, fun x hx => by
      obtain ⟨i, hi, rfl⟩ := List.mem_map.1 hx
      exact (hg i (by have := List.mem_range.1 hi; omega)).1⟩
    rw [hL] at hp
    have hf0 : ∀ y k, k < sz → ∃ v, (f y).toList[k]? = some v := fun y k hk => ⟨_, List.getElem?_eq_getElem (by rw [Array.length_toList, hfz]; exact hk)⟩
    have hc0 := (hg 0 (by omega)).2 0 hpos
    obtain ⟨v0, hv0⟩ := hf0 (g 0) 0 hpos
    rw [hv0] at hc0
    obtain ⟨b, off, spot⟩ := a
    have hspot : spot = none := by simpa [Addr.add] using World.cell?_spot hc0
    subst hspot
    refine ⟨b, off, rfl, ?_, fun i hi j v hv => ?_⟩
    · have := World.block_lt_of_cell? W _ hc0
      simpa [Addr.add] using this
    · rw [hL] at hi
      have hget : ((List.range len).map g).getD i z = g i := by
        rw [List.getD_eq_getElem?_getD, List.getElem?_map, List.getElem?_range hi]
        rfl
      rw [hget] at hv
      have hj : j < sz := by
        have := (List.getElem?_eq_some_iff.1 hv).1
        rw [Array.length_toList, hfz] at this
        exact this
      have := (hg i (by omega)).2 j hj
      rw [Addr.add_lit, hv] at this
      rw [← this, Nat.add_assoc]

/-- A slice's length is within its capacity. -/
theorem op_cap {P : Program} {t e : TypeId} {c : Value} {fuel : Nat} {x : DataW H × List MemPlace} (ht : P.underlying t = some (.slice e)) (h : DataW.trod enc P W 0 (fun _ => true) true fuel t [c] = some x) {a : Option Addr} {len cap : Nat} (hc : c = .slice a len cap) : len ≤ cap ∧ (a = none → cap = 0) := by
  rcases open_slice ht h with ⟨hcs, _⟩ | ⟨a', len', cap', m, n, D, Pl, hcs, _, hl, hm, hmm, _, hall⟩
  · simp only [List.cons.injEq, and_true] at hcs
    rw [hc] at hcs
    injection hcs with h1 h2 h3
    subst h1 h2 h3
    exact ⟨Nat.le_refl _, fun _ => rfl⟩
  · simp only [List.cons.injEq, and_true] at hcs
    rw [hc] at hcs
    injection hcs with h1 h2 h3
    subst h1 h2 h3
    simp only [if_true] at hmm
    exact ⟨by omega, fun h => (nomatch h)⟩
end
end Go.Proofs.Ytbnlkfcaahgpmaa

/-
  A record that comes in by value, opened.
-/
namespace Go.Proofs.Ytbnlkfcaahgpmaa
open Go.ChangeShapes Go.WideShapes Go.ChangeAt Go.RowKit Go.Deep Go.Joins
set_option linter.unusedVariables false

section
variable {H : Type} {enc : TypeId × Value → H} {W : World}

set_option maxRecDepth 40000 in
theorem elem_ch (n : Nat) (cs : List Value) (y : DataW H × List MemPlace) (h : DataW.trod enc Try.prog W 0 (fun _ => true) true n 26 cs = some y) : ∃ c : Ch, cs = (chA c).toList ∧ c.fits := by
  obtain ⟨y0, y1, y2, y3, y4, m, hl, h0, h1, h2, h3, h4⟩ := trod_st5 Try.underlying26 h
  have hC : Try.prog.cellsOf 26 = 5 := by kernel_rfl
  rw [hC] at hl
  match cs, hl with
  | [c0, c1, c2, c3, c4], _ =>
    have e0 : Try.prog.cellsOf 3 = 1 := by kernel_rfl
    have e1 : Try.prog.cellsOf 9 = 1 := by kernel_rfl
    simp only [e0, e1, List.drop_zero, List.drop_succ_cons, List.take_succ_cons, List.take_zero] at h0 h1 h2 h3 h4
    obtain ⟨i0, g0, _, w0⟩ := DataW.trod_int Try.underlying3 h0
    obtain ⟨i1, g1, _, w1⟩ := DataW.trod_int Try.underlying3 h1
    obtain ⟨i2, g2, _, w2⟩ := DataW.trod_int Try.underlying3 h2
    obtain ⟨i3, g3, _, w3⟩ := DataW.trod_string Try.underlying9 h3
    obtain ⟨i4, g4, _, w4⟩ := DataW.trod_string Try.underlying9 h4
    simp only [List.cons.injEq, and_true] at g0 g1 g2 g3 g4
    subst g0 g1 g2 g3 g4
    exact ⟨⟨i0, i1, i2, i3, i4⟩, rfl, w0, w1, w2, w3, w4⟩

set_option maxRecDepth 40000 in
theorem elem_tx (n : Nat) (cs : List Value) (y : DataW H × List MemPlace) (h : DataW.trod enc Try.prog W 0 (fun _ => true) true n 84 cs = some y) : ∃ c : Tx, cs = (txA c).toList ∧ c.fits := by
  obtain ⟨y0, y1, y2, y3, y4, m, hl, h0, h1, h2, h3, h4⟩ := trod_st5 Try.underlying84 h
  have hC : Try.prog.cellsOf 84 = 5 := by kernel_rfl
  rw [hC] at hl
  match cs, hl with
  | [c0, c1, c2, c3, c4], _ =>
    have e0 : Try.prog.cellsOf 3 = 1 := by kernel_rfl
    have e1 : Try.prog.cellsOf 23 = 1 := by kernel_rfl
    simp only [e0, e1, List.drop_zero, List.drop_succ_cons, List.take_succ_cons, List.take_zero] at h0 h1 h2 h3 h4
    obtain ⟨i0, g0, _, w0⟩ := DataW.trod_int Try.underlying3 h0
    obtain ⟨i1, g1, _, w1⟩ := DataW.trod_int Try.underlying3 h1
    obtain ⟨i2, g2, _, w2⟩ := DataW.trod_int Try.underlying23 h2
    obtain ⟨i3, g3, _, w3⟩ := DataW.trod_int Try.underlying23 h3
    obtain ⟨i4, g4, _, w4⟩ := DataW.trod_int Try.underlying23 h4
    simp only [List.cons.injEq, and_true] at g0 g1 g2 g3 g4
    subst g0 g1 g2 g3 g4
    obtain ⟨j2, rfl⟩ := u64_nat w2
    obtain ⟨j3, rfl⟩ := u64_nat w3
    obtain ⟨j4, rfl⟩ := u64_nat w4
    exact ⟨⟨i0, i1, j2, j3, j4⟩, rfl, w0, w1, w2, w3, w4⟩

set_option maxRecDepth 40000 in
theorem elem_di (n : Nat) (cs : List Value) (y : DataW H × List MemPlace) (h : DataW.trod enc Try.prog W 0 (fun _ => true) true n 86 cs = some y) : ∃ c : Di, cs = (diA c).toList ∧ c.fits := by
  obtain ⟨y0, y1, m, hl, h0, h1⟩ := trod_st2 Try.underlying86 h
  have hC : Try.prog.cellsOf 86 = 2 := by kernel_rfl
  rw [hC] at hl
  match cs, hl with
  | [c0, c1], _ =>
    have e0 : Try.prog.cellsOf 3 = 1 := by kernel_rfl
    have e1 : Try.prog.cellsOf 23 = 1 := by kernel_rfl
    simp only [e0, e1, List.drop_zero, List.drop_succ_cons, List.take_succ_cons, List.take_zero] at h0 h1
    obtain ⟨i0, g0, _, w0⟩ := DataW.trod_int Try.underlying3 h0
    obtain ⟨i1, g1, _, w1⟩ := DataW.trod_int Try.underlying23 h1
    simp only [List.cons.injEq, and_true] at g0 g1
    subst g0 g1
    obtain ⟨j1, rfl⟩ := u64_nat w1
    exact ⟨⟨i0, j1⟩, rfl, w0, w1⟩

set_option maxRecDepth 40000 in
theorem op_record {v : Value} {d : DataW H} {p : List MemPlace} {r : Reach} {b0 : Nat} (hv : Value.okWide Try.prog W r b0 30 v) (h : DataW.Trod enc Try.prog W 0 (fun _ => true) true 30 v d p) :
    ∃ m : Rec × Value × Value, v = .agg (rcA m.1 m.2.1 m.2.2) ∧ m.1.fits ∧ RcIn W m.1 m.2.1 m.2.2 := by
  obtain ⟨cs, rfl, hsz⟩ := okWide_struct Try.underlying30 hv
  have hC : Try.prog.cellsOf 30 = 14 := by kernel_rfl
  rw [hC] at hsz
  obtain ⟨fuel, hf⟩ := h
  obtain ⟨l⟩ := cs
  have hl : l.length = 14 := hsz
  match l, hl with
  | [c0, c1, c2, c3, c4, c5, c6, c7, c8, c9, c10, c11, c12, c13], _ =>
    have ec : (Value.agg ⟨[c0, c1, c2, c3, c4, c5, c6, c7, c8, c9, c10, c11, c12, c13]⟩).cells.toList = [c0, c1, c2, c3, c4, c5, c6, c7, c8, c9, c10, c11, c12, c13] := rfl
    obtain ⟨y0, y1, y2, y3, y4, y5, y6, y7, y8, y9, m, _, h0, h1, h2, h3, h4, h5, h6, h7, h8, h9⟩ := trod_st10 Try.underlying30 hf
    have e0 : Try.prog.cellsOf 3 = 1 := by kernel_rfl
    have e1 : Try.prog.cellsOf 23 = 1 := by kernel_rfl
    have e2 : Try.prog.cellsOf 26 = 5 := by kernel_rfl
    have e3 : Try.prog.cellsOf 27 = 1 := by kernel_rfl
    have e4 : Try.prog.cellsOf 28 = 1 := by kernel_rfl
    simp only [ec, e0, e1, e2, e3, e4, List.drop_zero, List.drop_succ_cons, List.take_succ_cons, List.take_zero] at h0 h1 h2 h3 h4 h5 h6 h7 h8 h9
    obtain ⟨i0, g0, _, w0⟩ := DataW.trod_int Try.underlying3 h0
    obtain ⟨i1, g1, _, w1⟩ := DataW.trod_int Try.underlying23 h1
    obtain ⟨i2, g2, _, w2⟩ := DataW.trod_int Try.underlying3 h2
    obtain ⟨i3, g3, _, w3⟩ := DataW.trod_int Try.underlying23 h3
    obtain ⟨ch, g4, w4⟩ := elem_ch _ _ _ h4
    obtain ⟨i5, g5, _, w5⟩ := DataW.trod_int Try.underlying23 h5
    obtain ⟨i6, g6, _, w6⟩ := DataW.trod_int Try.underlying3 h6
    obtain ⟨i7, g7, _, w7⟩ := DataW.trod_int Try.underlying23 h7
    obtain ⟨ts, g8, w8, u8⟩ := op_rows (sz := 5) txA Tx.zero Tx.fits elem_tx Try.underlying27 (by kernel_rfl) (fun _ => rfl) (by decide) h8
    obtain ⟨ds, g9, w9, u9⟩ := op_rows (sz := 2) diA Di.zero Di.fits elem_di Try.underlying28 (by kernel_rfl) (fun _ => rfl) (by decide) h9
    simp only [chA, List.cons.injEq, and_true] at g0 g1 g2 g3 g4 g5 g6 g7
    obtain ⟨g40, g41, g42, g43, g44⟩ := g4
    subst g0 g1 g2 g3 g40 g41 g42 g43 g44 g5 g6 g7
    obtain ⟨j1, rfl⟩ := u64_nat w1
    obtain ⟨j3, rfl⟩ := u64_nat w3
    obtain ⟨j5, rfl⟩ := u64_nat w5
    obtain ⟨j7, rfl⟩ := u64_nat w7
    exact ⟨(⟨i0, j1, i2, j3, ch, j5, i6, j7, ts, ds⟩, c12, c13), rfl, ⟨w4, w8, w9, u8, u9⟩, g8, g9⟩
end
end Go.Proofs.Ytbnlkfcaahgpmaa

/-
  Records in a list that comes in, opened.
-/
namespace Go.Proofs.Ytbnlkfcaahgpmaa
open Go.ChangeShapes Go.WideShapes Go.ChangeAt Go.RowKit Go.Deep Go.Joins
set_option linter.unusedVariables false

set_option maxRecDepth 40000 in
/-- A record with the values of its lists, and its cells. -/
def rcF (m : Rec × Value × Value) : Array Value := rcA m.1 m.2.1 m.2.2
set_option maxRecDepth 40000 in
def rcZ : Rec × Value × Value := (Rec.zero, .slice none 0 0, .slice none 0 0)
section
variable {H : Type} {enc : TypeId × Value → H} {W : World}

set_option maxRecDepth 40000 in
theorem elem_rec (n : Nat) (cs : List Value) (y : DataW H × List MemPlace) (h : DataW.trod enc Try.prog W 0 (fun _ => true) true n 30 cs = some y) : ∃ m : Rec × Value × Value, cs = (rcF m).toList ∧ (m.1.fits ∧ RcIn W m.1 m.2.1 m.2.2) := by
  obtain ⟨z0, z1, z2, z3, z4, z5, z6, z7, z8, z9, m', hl, -⟩ := trod_st10 Try.underlying30 h
  have hC : Try.prog.cellsOf 30 = 14 := by kernel_rfl
  rw [hC] at hl
  match cs, hl with
  | [c0, c1, c2, c3, c4, c5, c6, c7, c8, c9, c10, c11, c12, c13], _ =>
    obtain ⟨y0, y1, y2, y3, y4, y5, y6, y7, y8, y9, m, _, h0, h1, h2, h3, h4, h5, h6, h7, h8, h9⟩ := trod_st10 Try.underlying30 h
    have e0 : Try.prog.cellsOf 3 = 1 := by kernel_rfl
    have e1 : Try.prog.cellsOf 23 = 1 := by kernel_rfl
    have e2 : Try.prog.cellsOf 26 = 5 := by kernel_rfl
    have e3 : Try.prog.cellsOf 27 = 1 := by kernel_rfl
    have e4 : Try.prog.cellsOf 28 = 1 := by kernel_rfl
    simp only [e0, e1, e2, e3, e4, List.drop_zero, List.drop_succ_cons, List.take_succ_cons, List.take_zero] at h0 h1 h2 h3 h4 h5 h6 h7 h8 h9
    obtain ⟨i0, g0, _, w0⟩ := DataW.trod_int Try.underlying3 h0
    obtain ⟨i1, g1, _, w1⟩ := DataW.trod_int Try.underlying23 h1
    obtain ⟨i2, g2, _, w2⟩ := DataW.trod_int Try.underlying3 h2
    obtain ⟨i3, g3, _, w3⟩ := DataW.trod_int Try.underlying23 h3
    obtain ⟨ch, g4, w4⟩ := elem_ch _ _ _ h4
    obtain ⟨i5, g5, _, w5⟩ := DataW.trod_int Try.underlying23 h5
    obtain ⟨i6, g6, _, w6⟩ := DataW.trod_int Try.underlying3 h6
    obtain ⟨i7, g7, _, w7⟩ := DataW.trod_int Try.underlying23 h7
    obtain ⟨ts, g8, w8, u8⟩ := op_rows (sz := 5) txA Tx.zero Tx.fits elem_tx Try.underlying27 (by kernel_rfl) (fun _ => rfl) (by decide) h8
    obtain ⟨ds, g9, w9, u9⟩ := op_rows (sz := 2) diA Di.zero Di.fits elem_di Try.underlying28 (by kernel_rfl) (fun _ => rfl) (by decide) h9
    simp only [chA, List.cons.injEq, and_true] at g0 g1 g2 g3 g4 g5 g6 g7
    obtain ⟨g40, g41, g42, g43, g44⟩ := g4
    subst g0 g1 g2 g3 g40 g41 g42 g43 g44 g5 g6 g7
    obtain ⟨j1, rfl⟩ := u64_nat w1
    obtain ⟨j3, rfl⟩ := u64_nat w3
    obtain ⟨j5, rfl⟩ := u64_nat w5
    obtain ⟨j7, rfl⟩ := u64_nat w7
    exact ⟨(⟨i0, j1, i2, j3, ch, j5, i6, j7, ts, ds⟩, c12, c13), rfl, ⟨w4, w8, w9, u8, u9⟩, g8, g9⟩
set_option maxRecDepth 40000 in
/-- A list of records. The mark of its type is wanted: see NOTES, "Stage 7". -/
theorem op_recs {t : TypeId} {c : Value} {fuel : Nat} {x : DataW H × List MemPlace} (ht : Try.prog.underlying t = some (.slice 30)) (h : DataW.trod enc Try.prog W 0 (fun _ => true) true fuel t [c] = some x) :
    ∃ ms : List (Rec × Value × Value), RowsIn rcF rcZ 14 W c ms ∧ ms.length ≤ maxLen ∧ ∀ m ∈ ms, m.1.fits ∧ RcIn W m.1 m.2.1 m.2.2 :=
  op_rows (sz := 14) rcF rcZ (fun m => m.1.fits ∧ RcIn W m.1 m.2.1 m.2.2) elem_rec ht (by kernel_rfl) (fun _ => rfl) (by decide) h
end
end Go.Proofs.Ytbnlkfcaahgpmaa

/-
  A record's bytes are read as it; bytes that are read are just the bytes of what they tell; cut off they end too early.
-/
namespace Go.Proofs.Ytbnlkfcaahgpmaa
open Go.RowKit
set_option linter.unusedVariables false

theorem Reads.same {α : Type} {a b : α} (h : b = a) : Reads (pureP a) b [] := by
  subst h
  exact Reads.pure _
theorem cast_nat (k : Int) (h : 0 ≤ k) : ((k.toNat : Nat) : Int) = k := Int.toNat_of_nonneg h

theorem Reads.ch (c : Ch) (h : c.right) : Reads pCh c (chB c) := by
  obtain ⟨h1, h2⟩ := h
  have hk : 1 ≤ c.k ∧ c.k ≤ 3 := by rcases h2 with h | h | h <;> omega
  have e : c = ⟨(c.k.toNat : Nat), (c.pg.toNat : Nat), (c.sl.toNat : Nat), c.o, c.n⟩ := by
    rw [cast_nat _ (by omega), cast_nat _ (by omega), cast_nat _ (by omega)]
  unfold pCh chB
  refine (Reads.num 1 _ (by omega)).bind ((Reads.num 2 _ (by omega)).bind ((Reads.num 1 _ (by omega)).bind ((Reads.text c.o (by omega)).bind ((Reads.text c.n (by omega)).last ?_))))
  exact Reads.same e
theorem Reads.tx (l : Nat) (x : Tx) (hl : l ≤ maxP) (h : txOk l x) : Reads pTx x (txB x) := by
  obtain ⟨h1, h2, h3, h4, h5, h6, h7, h8⟩ := h
  have e : x = ⟨(x.t.toNat : Nat), (x.s.toNat : Nat), x.f, x.l, x.n⟩ := by
    rw [cast_nat _ (by omega), cast_nat _ (by omega)]
  unfold maxP at hl
  unfold pTx txB
  refine (Reads.num 4 _ (by omega)).bind ((Reads.num 1 _ (by omega)).bind ((Reads.num 8 _ (by omega)).bind ((Reads.num 8 _ (by omega)).bind ((Reads.num 8 _ (by omega)).last ?_))))
  exact Reads.same e
theorem Reads.di (l : Nat) (d : Di) (hl : l ≤ maxP) (h : diOk l d) : Reads pDi d (diB d) := by
  obtain ⟨h1, h2, h3, h4⟩ := h
  have e : d = ⟨(d.p.toNat : Nat), d.r⟩ := by rw [cast_nat _ (by omega)]
  unfold maxP at hl
  unfold pDi diB
  refine (Reads.num 2 _ (by omega)).bind ((Reads.num 8 _ (by omega)).last ?_)
  exact Reads.same e
theorem mem_getD {α : Type} (xs : List α) (z x : α) (h : x ∈ xs) : ∃ i, i < xs.length ∧ xs.getD i z = x := by
  obtain ⟨i, hi, he⟩ := List.mem_iff_getElem.1 h
  exact ⟨i, hi, by simp [List.getD, hi, he]⟩
theorem Reads.check (r : Rec) (hl : r.l ≤ maxP) (h : r.rows) : Reads pCheck (r.b, r.ts, r.ds) (checkB r.b r.ts r.ds) := by
  obtain ⟨h1, h2, h3, h4, h5, h6⟩ := h
  have g1 : ∀ x ∈ r.ts, Reads pTx x (txB x) := fun x hx => by
    obtain ⟨i, hi, rfl⟩ := mem_getD r.ts Tx.zero x hx
    exact Reads.tx r.l _ hl (h3 i hi).1
  have g2 : ∀ x ∈ r.ds, Reads pDi x (diB x) := fun x hx => by
    obtain ⟨i, hi, rfl⟩ := mem_getD r.ds Di.zero x hx
    exact Reads.di r.l _ hl (h4 i hi).1
  unfold maxP at hl
  unfold pCheck checkB
  exact (Reads.num 8 _ (by omega)).bind ((Reads.in 0 16 _ (by omega) (by omega) h1).bind ((Reads.some r.ts g1).bind ((Reads.in 0 32 _ (by omega) (by omega) h2).bind ((Reads.some r.ds g2).last (Reads.pure _)))))
theorem Reads.rec (r : Rec) (h : r.right) : Reads pRec r (recB r) := by
  have hk1 := h.k1
  have hk8 := h.k8
  have ht : 0 ≤ r.t ∧ r.t < 4294967296 := by
    by_cases hk : r.k ≤ 6
    · have := h.own hk
      omega
    · have := h.none (by omega)
      omega
  have hp : r.p < 256 ^ 8 := by
    have hl := h.lm
    unfold maxP at hl
    by_cases hk : r.k ≤ 6
    · have := h.own hk
      omega
    · have := h.none (by omega)
      omega
  have hll := h.lm
  have hs : 0 ≤ r.s ∧ r.s < 256 := by
    by_cases hk : r.k = 6
    · have := h.save hk
      omega
    · have := h.nosave hk
      omega
  have hn : r.n < 256 ^ 8 := by
    unfold maxP at hll
    by_cases hk : r.k = 2
    · have := h.next hk
      omega
    · have := h.nonext hk
      omega
  have e : r = ⟨(r.k.toNat : Nat), r.l, (r.t.toNat : Nat), r.p, r.c, r.n, (r.s.toNat : Nat), (r.b, r.ts, r.ds).1, (r.b, r.ts, r.ds).2.1, (r.b, r.ts, r.ds).2.2⟩ := by
    rw [cast_nat _ (by omega), cast_nat _ ht.1, cast_nat _ hs.1]
  have ek := cast_nat r.k (by omega)
  have m1 : mayB (r.k ≤ 2) (chB r.c) = mayB (r.k.toNat ≤ 2) (chB r.c) := by
    unfold mayB
    by_cases hk : r.k ≤ 2
    · rw [if_pos hk, if_pos (by omega)]
    · rw [if_neg hk, if_neg (by omega)]
  have m2 : mayB (r.k = 2) (beB 8 r.n) = mayB (r.k.toNat = 2) (beB 8 r.n) := by
    unfold mayB
    by_cases hk : r.k = 2
    · rw [if_pos hk, if_pos (by omega)]
    · rw [if_neg hk, if_neg (by omega)]
  have m3 : mayB (r.k = 6) (beB 1 r.s.toNat) = mayB (r.k.toNat = 6) (beB 1 r.s.toNat) := by
    unfold mayB
    by_cases hk : r.k = 6
    · rw [if_pos hk, if_pos (by omega)]
    · rw [if_neg hk, if_neg (by omega)]
  have m4 : mayB (r.k = 8) (checkB r.b r.ts r.ds) = mayB (r.k.toNat = 8) (checkB r.b r.ts r.ds) := by
    unfold mayB
    by_cases hk : r.k = 8
    · rw [if_pos hk, if_pos (by omega)]
    · rw [if_neg hk, if_neg (by omega)]
  unfold pRec recB
  rw [m1, m2, m3, m4]
  refine (Reads.in 1 8 _ (by omega) (by omega) (by omega)).bind ((Reads.num 8 r.l (by unfold maxP at hll; omega)).bind ((Reads.num 4 _ (by omega)).bind ((Reads.num 8 r.p hp).bind ((Reads.may (a := r.c) (fun hk => Reads.ch r.c (h.ch (by omega))) (fun hk => h.noch (by omega))).bind ((Reads.may (a := r.n) (fun hk => Reads.num 8 r.n hn) (fun hk => h.nonext (by omega))).bind
    ((Reads.may (a := r.s.toNat) (fun hk => Reads.num 1 _ (by omega)) (fun hk => by have := h.nosave (by omega); omega)).bind ((Reads.may (a := (r.b, r.ts, r.ds)) (fun hk => Reads.check r hll (h.check (by omega))) (fun hk => by obtain ⟨a1, a2, a3⟩ := h.nocheck (by omega); rw [a1, a2, a3])).last ?_)))))))
  exact Reads.same e

/-- A record's bytes, and bytes behind them. -/
theorem dec_enc (r : Rec) (h : r.right) : decR (recB r) = (r, 0) := by
  have h1 := Reads.rec r h []
  rw [List.append_nil] at h1
  unfold decR
  rw [h1, if_neg (by simp), if_neg]
  simp [rightB_yes h]
theorem dec_more (r : Rec) (h : r.right) (t : List UInt8) (ht : t ≠ []) : decR (recB r ++ t) = (Rec.zero, 2) := by
  unfold decR
  rw [Reads.rec r h t, if_neg (by simp), if_pos (.inl ht)]

/-! ### Bytes that are read are the bytes of what they tell -/
theorem beB_be : ∀ (bs : List UInt8), beB bs.length (be bs) = bs
  | [] => rfl
  | b :: bs => by
    have h := be_lt bs
    have hp : 0 < 256 ^ bs.length := Nat.pow_pos (by omega)
    rw [be_cons, List.length_cons, beB_cons, beB_low]
    have e1 : (b.toNat * 256 ^ bs.length + be bs) / 256 ^ bs.length = b.toNat := by
      rw [Nat.mul_comm, Nat.mul_add_div hp, Nat.div_eq_of_lt h, Nat.add_zero]
    have e2 : (b.toNat * 256 ^ bs.length + be bs) % 256 ^ bs.length = be bs := by
      rw [Nat.mul_comm, Nat.mul_add_mod, Nat.mod_eq_of_lt h]
    rw [e1, e2, beB_be bs]
    congr 1
    simp
def Tells {α : Type} (p : St → α × St) (f : α → List UInt8) : Prop := ∀ s, (p s).2.e = 0 → s.e = 0 ∧ s.l = f (p s).1 ++ (p s).2.l
theorem Tells.num (w : Nat) : ∀ s, (pNum w s).2.e = 0 → s.e = 0 ∧ s.l = beB w (pNum w s).1 ++ (pNum w s).2.l ∧ (pNum w s).1 < 256 ^ w := by
  intro s
  unfold pNum
  by_cases he : s.e = 0
  · rw [if_neg (by simpa using he)]
    by_cases hw : w ≤ s.l.length
    · rw [if_pos hw]
      intro _
      have hl : (s.l.take w).length = w := by rw [List.length_take]; omega
      refine ⟨he, ?_, ?_⟩
      · show s.l = beB w (be (s.l.take w)) ++ s.l.drop w
        have h := beB_be (s.l.take w)
        rw [hl] at h
        rw [h, List.take_append_drop]
      · have h := be_lt (s.l.take w)
        rwa [hl] at h
    · rw [if_neg hw]
      intro h
      cases h
  · rw [if_pos he]
    intro h
    exact absurd h he
theorem Tells.text : ∀ s, (pText s).2.e = 0 → s.e = 0 ∧ s.l = textB (pText s).1.data.toList ++ (pText s).2.l := by
  intro s
  unfold pText
  by_cases he : s.e = 0
  · rw [if_neg (by simpa using he)]
    obtain ⟨l, e⟩ := s
    cases l with
    | nil => intro h; cases h
    | cons b l =>
      simp only
      by_cases hb : b.toNat ≤ l.length
      · rw [if_pos hb]
        intro _
        refine ⟨he, ?_⟩
        show b :: l = textB (l.take b.toNat) ++ l.drop b.toNat
        unfold textB
        have hl : (l.take b.toNat).length = b.toNat := by rw [List.length_take]; omega
        rw [hl, List.cons_append, List.take_append_drop]
        congr 1
        simp
      · rw [if_neg hb]
        intro h
        cases h
  · rw [if_pos he]
    intro h
    exact absurd h he
theorem Tells.in (lo hi : Nat) : ∀ s, (pIn lo hi s).2.e = 0 → s.e = 0 ∧ s.l = beB 1 (pIn lo hi s).1 ++ (pIn lo hi s).2.l ∧ lo ≤ (pIn lo hi s).1 ∧ (pIn lo hi s).1 ≤ hi := by
  intro s
  unfold pIn
  by_cases h : (pNum 1 s).2.e = 0 ∧ ((pNum 1 s).1 < lo ∨ hi < (pNum 1 s).1)
  · rw [if_pos h]
    intro h2
    cases h2
  · rw [if_neg h]
    intro h2
    obtain ⟨h3, h4, _⟩ := Tells.num 1 s h2
    exact ⟨h3, h4, by omega, by omega⟩

theorem Tells.ch : Tells pCh chB := by
  intro s h
  have h5 := Tells.text _ h
  have h4 := Tells.text _ h5.1
  have h3 := Tells.num 1 _ h4.1
  have h2 := Tells.num 2 _ h3.1
  have h1 := Tells.num 1 _ h2.1
  refine ⟨h1.1, ?_⟩
  rw [h1.2.1, h2.2.1, h3.2.1, h4.2, h5.2]
  show _ = (beB 1 _ ++ (beB 2 _ ++ (beB 1 _ ++ (textB _ ++ textB _)))) ++ _
  simp only [List.append_assoc]
  rfl
theorem Tells.tx : Tells pTx txB := by
  intro s h
  have h5 := Tells.num 8 _ h
  have h4 := Tells.num 8 _ h5.1
  have h3 := Tells.num 8 _ h4.1
  have h2 := Tells.num 1 _ h3.1
  have h1 := Tells.num 4 _ h2.1
  refine ⟨h1.1, ?_⟩
  rw [h1.2.1, h2.2.1, h3.2.1, h4.2.1, h5.2.1]
  show _ = (beB 4 _ ++ (beB 1 _ ++ (beB 8 _ ++ (beB 8 _ ++ beB 8 _)))) ++ _
  simp only [List.append_assoc]
  rfl
theorem Tells.di : Tells pDi diB := by
  intro s h
  have h2 := Tells.num 8 _ h
  have h1 := Tells.num 2 _ h2.1
  refine ⟨h1.1, ?_⟩
  rw [h1.2.1, h2.2.1]
  show _ = (beB 2 _ ++ beB 8 _) ++ _
  simp only [List.append_assoc]
  rfl
theorem Tells.some {α : Type} {p : St → α × St} {f : α → List UInt8} (hp : Tells p f) : ∀ n s, (pSome p n s).2.e = 0 → s.e = 0 ∧ s.l = (pSome p n s).1.flatMap f ++ (pSome p n s).2.l ∧ (pSome p n s).1.length = n
  | 0, s => fun h => ⟨h, rfl, rfl⟩
  | n + 1, s => by
    unfold pSome
    by_cases he : s.e = 0
    · rw [if_neg (by simpa using he)]
      intro h
      obtain ⟨h1, h2, h3⟩ := Tells.some hp n (p s).2 h
      obtain ⟨_, h4⟩ := hp s h1
      refine ⟨he, ?_, by show (pSome p n (p s).2).1.length + 1 = n + 1; rw [h3]⟩
      rw [h4]
      conv => lhs; rw [h2]
      show _ = (f _ ++ _) ++ _
      rw [List.append_assoc]
      rfl
    · rw [if_pos he]
      intro h
      exact absurd h he
end Go.Proofs.Ytbnlkfcaahgpmaa

/-
  Bytes that are read whole, and bytes that are cut off.
-/
namespace Go.Proofs.Ytbnlkfcaahgpmaa
open Go.RowKit
set_option linter.unusedVariables false

theorem Tells.check : ∀ s, (pCheck s).2.e = 0 → s.e = 0 ∧ s.l = checkB (pCheck s).1.1 (pCheck s).1.2.1 (pCheck s).1.2.2 ++ (pCheck s).2.l := by
  intro s h
  have h5 := Tells.some Tells.di _ _ h
  have h4 := Tells.in 0 32 _ h5.1
  have h3 := Tells.some Tells.tx _ _ h4.1
  have h2 := Tells.in 0 16 _ h3.1
  have h1 := Tells.num 8 _ h2.1
  refine ⟨h1.1, ?_⟩
  have e : ∀ (b n m : Nat) (ts : List Tx) (ds : List Di), ts.length = n → ds.length = m → checkB b ts ds = beB 8 b ++ (beB 1 n ++ (txsB ts ++ (beB 1 m ++ disB ds))) := by
    rintro b n m ts ds rfl rfl
    rfl
  unfold pCheck bindP pureP
  simp only
  rw [e _ _ _ _ _ h3.2.2 h5.2.2]
  rw [h1.2.1, h2.2.1, h3.2.1, h4.2.1, h5.2.1]
  simp only [List.append_assoc]
  rfl

theorem Tells.may {α : Type} {q : Prop} [Decidable q] {z : α} {p : St → α × St} {f : α → List UInt8} (h : Tells p f) : ∀ s, (pMay q z p s).2.e = 0 → s.e = 0 ∧ s.l = mayB q (f (pMay q z p s).1) ++ (pMay q z p s).2.l := by
  intro s
  unfold pMay mayB
  by_cases hq : q
  · rw [if_pos hq, if_pos hq]
    exact h s
  · rw [if_neg hq, if_neg hq]
    intro he
    exact ⟨he, rfl⟩

theorem mayB_iff {a b : Prop} [Decidable a] [Decidable b] (h : a ↔ b) (l : List UInt8) : mayB a l = mayB b l := by
  unfold mayB
  by_cases hb : b
  · rw [if_pos (h.2 hb), if_pos hb]
  · rw [if_neg (fun g => hb (h.1 g)), if_neg hb]

theorem Tells.rec : ∀ s, (pRec s).2.e = 0 → s.e = 0 ∧ s.l = recB (pRec s).1 ++ (pRec s).2.l := by
  intro s h
  have h8 := Tells.may (f := fun x : Nat × List Tx × List Di => checkB x.1 x.2.1 x.2.2) Tells.check _ h
  have h7 := Tells.may (f := fun x : Nat => beB 1 x) (fun s hs => ⟨(Tells.num 1 s hs).1, (Tells.num 1 s hs).2.1⟩) _ h8.1
  have h6 := Tells.may (f := fun x : Nat => beB 8 x) (fun s hs => ⟨(Tells.num 8 s hs).1, (Tells.num 8 s hs).2.1⟩) _ h7.1
  have h5 := Tells.may Tells.ch _ h6.1
  have h4 := Tells.num 8 _ h5.1
  have h3 := Tells.num 4 _ h4.1
  have h2 := Tells.num 8 _ h3.1
  have h1 := Tells.in 1 8 _ h2.1
  refine ⟨h1.1, ?_⟩
  have e : ∀ (k l t p : Nat) (c : Ch) (n sv b : Nat) (ts : List Tx) (ds : List Di), recB ⟨k, l, t, p, c, n, sv, b, ts, ds⟩ = beB 1 k ++ (beB 8 l ++ (beB 4 t ++ (beB 8 p ++ (mayB (k ≤ 2) (chB c) ++ (mayB (k = 2) (beB 8 n) ++ (mayB (k = 6) (beB 1 sv) ++ mayB (k = 8) (checkB b ts ds))))))) := by
    intro k l t p c n sv b ts ds
    unfold recB
    simp only [Int.toNat_natCast]
    rw [mayB_iff (show ((k : Int) ≤ 2) ↔ k ≤ 2 by omega), mayB_iff (show ((k : Int) = 2) ↔ k = 2 by omega), mayB_iff (show ((k : Int) = 6) ↔ k = 6 by omega), mayB_iff (show ((k : Int) = 8) ↔ k = 8 by omega)]
  show s.l = recB _ ++ _
  unfold pRec bindP pureP
  simp only
  rw [e]
  rw [h1.2.1, h2.2.1, h3.2.1, h4.2.1, h5.2, h6.2, h7.2, h8.2]
  simp only [List.append_assoc]

/-- What is decoded is right, and has just these bytes. -/
theorem dec_ok (b : List UInt8) (h : (decR b).2 = 0) : (decR b).1.right ∧ recB (decR b).1 = b := by
  unfold decR at h ⊢
  by_cases h1 : (pRec ⟨b, 0⟩).2.e ≠ 0
  · rw [if_pos h1] at h
    exact absurd h h1
  · rw [if_neg h1] at h ⊢
    by_cases h2 : (pRec ⟨b, 0⟩).2.l ≠ [] ∨ (pRec ⟨b, 0⟩).1.rightB = false
    · rw [if_pos h2] at h
      cases h
    · rw [if_neg h2]
      have h3 : (pRec ⟨b, 0⟩).2.l = [] := Decidable.of_not_not fun h3 => h2 (.inl h3)
      have h4 : (pRec ⟨b, 0⟩).1.rightB = true := by
        cases hb : (pRec ⟨b, 0⟩).1.rightB
        · exact absurd (.inr hb) h2
        · rfl
      obtain ⟨_, h5⟩ := Tells.rec ⟨b, 0⟩ (Decidable.of_not_not h1)
      refine ⟨rightB_iff.1 h4, ?_⟩
      rw [h3, List.append_nil] at h5
      exact h5.symm
theorem dec_no (b : List UInt8) (h : (decR b).2 ≠ 0) : (decR b).1 = Rec.zero := by
  unfold decR at h ⊢
  split
  · rfl
  · rename_i h1
    rw [if_neg h1] at h
    split
    · rfl
    · rename_i h2
      rw [if_neg h2] at h
      exact absurd rfl h

/-! ### Cut off -/
/-- The one reads what the other reads, whose end the one lacks; or has come to its end. -/
def Rel (t : List UInt8) (s s' : St) : Prop := s.e = 4 ∨ (s.e = 0 ∧ s'.e = 0 ∧ s'.l = s.l ++ t)
structure Good {α : Type} (p : St → α × St) : Prop where
  stick : ∀ s, s.e ≠ 0 → (p s).2 = s
  sim : ∀ t s s', Rel t s s' → (p s').2.e = 0 → Rel t (p s).2 (p s').2 ∧ ((p s).2.e = 0 → (p s).1 = (p s').1)
theorem Good.pure {α : Type} (a : α) : Good (pureP a) := ⟨fun s _ => rfl, fun t s s' h _ => ⟨h, fun _ => rfl⟩⟩
theorem Good.bind {α β : Type} {p : St → α × St} {q : α → St → β × St} (hp : Good p) (hq : ∀ a, Good (q a)) : Good (bindP p q) := by
  refine ⟨fun s hs => ?_, fun t s s' h h' => ?_⟩
  · unfold bindP
    have h1 := hp.stick s hs
    rw [h1]
    exact (hq _).stick s hs
  · unfold bindP at h' ⊢
    have e' : (p s').2.e = 0 := by
      by_cases he : (p s').2.e = 0
      · exact he
      · rw [(hq _).stick _ he] at h'
        exact h'
    obtain ⟨h1, h2⟩ := hp.sim t s s' h e'
    by_cases he : (p s).2.e = 0
    · rw [h2 he]
      exact (hq _).sim t _ _ h1 h'
    · have h4 : (p s).2.e = 4 := by
        rcases h1 with h1 | h1
        · exact h1
        · exact absurd h1.1 he
      rw [(hq (p s).1).stick _ he]
      exact ⟨.inl h4, fun h5 => absurd h5 he⟩
theorem Good.num (w : Nat) : Good (pNum w) := by
  refine ⟨fun s hs => by unfold pNum; rw [if_pos hs], fun t s s' h h' => ?_⟩
  rcases h with h | ⟨h1, h2, h3⟩
  · have hs : s.e ≠ 0 := by omega
    have e : pNum w s = (0, s) := by unfold pNum; rw [if_pos hs]
    rw [e]
    exact ⟨.inl h, fun h5 => absurd h5 hs⟩
  · by_cases hw : w ≤ s.l.length
    · have e : pNum w s = (be (s.l.take w), ⟨s.l.drop w, 0⟩) := by unfold pNum; rw [if_neg (by simpa using h1), if_pos hw]
      have hw' : w ≤ s'.l.length := by rw [h3, List.length_append]; omega
      have e' : pNum w s' = (be (s'.l.take w), ⟨s'.l.drop w, 0⟩) := by unfold pNum; rw [if_neg (by simpa using h2), if_pos hw']
      rw [e, e', h3]
      refine ⟨.inr ⟨rfl, rfl, ?_⟩, fun _ => ?_⟩
      · show (s.l ++ t).drop w = s.l.drop w ++ t
        rw [List.drop_append_of_le_length hw]
      · show be (s.l.take w) = be ((s.l ++ t).take w)
        rw [List.take_append_of_le_length hw]
    · have e : pNum w s = (0, ⟨[], 4⟩) := by unfold pNum; rw [if_neg (by simpa using h1), if_neg hw]
      rw [e]
      exact ⟨.inl rfl, fun h5 => by cases h5⟩
theorem Good.text : Good pText := by
  refine ⟨fun s hs => by unfold pText; rw [if_pos hs], fun t s s' h h' => ?_⟩
  rcases h with h | ⟨h1, h2, h3⟩
  · have hs : s.e ≠ 0 := by omega
    have e : pText s = (⟨#[]⟩, s) := by unfold pText; rw [if_pos hs]
    rw [e]
    exact ⟨.inl h, fun h5 => absurd h5 hs⟩
  · obtain ⟨l, e⟩ := s
    obtain ⟨l', e'⟩ := s'
    simp only at h1 h2 h3
    subst h1 h2 h3
    cases l with
    | nil => exact ⟨.inl rfl, fun h5 => by cases h5⟩
    | cons b l =>
      by_cases hb : b.toNat ≤ l.length
      · have e1 : pText ⟨b :: l, 0⟩ = (⟨(l.take b.toNat).toArray⟩, ⟨l.drop b.toNat, 0⟩) := by
          unfold pText
          rw [if_neg (by simp)]
          simp only
          rw [if_pos hb]
        have e2 : pText ⟨b :: l ++ t, 0⟩ = (⟨((l ++ t).take b.toNat).toArray⟩, ⟨(l ++ t).drop b.toNat, 0⟩) := by
          unfold pText
          rw [if_neg (by simp)]
          simp only [List.cons_append]
          rw [if_pos (by rw [List.length_append]; omega)]
        rw [e1, e2, List.drop_append_of_le_length hb, List.take_append_of_le_length hb]
        exact ⟨.inr ⟨rfl, rfl, rfl⟩, fun _ => rfl⟩
      · have e1 : pText ⟨b :: l, 0⟩ = (⟨#[]⟩, ⟨[], 4⟩) := by
          unfold pText
          rw [if_neg (by simp)]
          simp only
          rw [if_neg hb]
        rw [e1]
        exact ⟨.inl rfl, fun h5 => by cases h5⟩
theorem Good.in (lo hi : Nat) : Good (pIn lo hi) := by
  refine ⟨fun s hs => ?_, fun t s s' h h' => ?_⟩
  · unfold pIn
    have h1 := (Good.num 1).stick s hs
    rw [if_neg (by rw [h1]; exact fun h => hs h.1)]
    exact h1
  · have hc' : ¬ ((pNum 1 s').2.e = 0 ∧ ((pNum 1 s').1 < lo ∨ hi < (pNum 1 s').1)) := by
      intro hc
      unfold pIn at h'
      rw [if_pos hc] at h'
      cases h'
    have e' : pIn lo hi s' = pNum 1 s' := by unfold pIn; rw [if_neg hc']
    rw [e'] at h' ⊢
    obtain ⟨h1, h2⟩ := (Good.num 1).sim t s s' h h'
    have hc : ¬ ((pNum 1 s).2.e = 0 ∧ ((pNum 1 s).1 < lo ∨ hi < (pNum 1 s).1)) := by
      intro hc
      rw [h2 hc.1] at hc
      exact hc' ⟨h', hc.2⟩
    have e : pIn lo hi s = pNum 1 s := by unfold pIn; rw [if_neg hc]
    rw [e]
    exact ⟨h1, h2⟩
theorem Good.some {α : Type} {p : St → α × St} (hp : Good p) : ∀ n, Good (pSome p n)
  | 0 => ⟨fun s _ => rfl, fun t s s' h _ => ⟨h, fun _ => rfl⟩⟩
  | n + 1 => by
    have ih := Good.some hp n
    refine ⟨fun s hs => by unfold pSome; rw [if_pos hs], fun t s s' h h' => ?_⟩
    by_cases hs : s.e = 0
    · have hs' : s'.e = 0 := by
        rcases h with h | h
        · omega
        · exact h.2.1
      have e : pSome p (n + 1) s = ((p s).1 :: (pSome p n (p s).2).1, (pSome p n (p s).2).2) := by
        conv => lhs; unfold pSome
        rw [if_neg (by simpa using hs)]
      have e' : pSome p (n + 1) s' = ((p s').1 :: (pSome p n (p s').2).1, (pSome p n (p s').2).2) := by
        conv => lhs; unfold pSome
        rw [if_neg (by simpa using hs')]
      rw [e'] at h' ⊢
      rw [e]
      have e1 : (p s').2.e = 0 := by
        by_cases he : (p s').2.e = 0
        · exact he
        · have := ih.stick _ he
          simp only at h'
          rw [this] at h'
          exact h'
      obtain ⟨h1, h2⟩ := hp.sim t s s' h e1
      obtain ⟨h3, h4⟩ := ih.sim t _ _ h1 h'
      refine ⟨h3, fun h5 => ?_⟩
      have e2 : (p s).2.e = 0 := by
        by_cases he : (p s).2.e = 0
        · exact he
        · have := ih.stick _ he
          simp only at h5
          rw [this] at h5
          exact h5
      show _ :: _ = _ :: _
      rw [h2 e2, h4 h5]
    · have e : pSome p (n + 1) s = ([], s) := by
        conv => lhs; unfold pSome
        rw [if_pos hs]
      rw [e]
      have h4 : s.e = 4 := by
        rcases h with h | h
        · exact h
        · exact absurd h.1 hs
      exact ⟨.inl h4, fun h5 => absurd h5 hs⟩
theorem Good.may {α : Type} {q : Prop} [Decidable q] {z : α} {p : St → α × St} (hp : Good p) : Good (pMay q z p) := by
  unfold pMay
  split
  · exact hp
  · exact Good.pure z
theorem Good.ch : Good pCh := (Good.num 1).bind fun _ => (Good.num 2).bind fun _ => (Good.num 1).bind fun _ => Good.text.bind fun _ => Good.text.bind fun _ => Good.pure _
theorem Good.tx : Good pTx := (Good.num 4).bind fun _ => (Good.num 1).bind fun _ => (Good.num 8).bind fun _ => (Good.num 8).bind fun _ => (Good.num 8).bind fun _ => Good.pure _
theorem Good.di : Good pDi := (Good.num 2).bind fun _ => (Good.num 8).bind fun _ => Good.pure _
theorem Good.check : Good pCheck := (Good.num 8).bind fun _ => (Good.in 0 16).bind fun n => (Good.some Good.tx n).bind fun _ => (Good.in 0 32).bind fun m => (Good.some Good.di m).bind fun _ => Good.pure _
theorem Good.record : Good pRec := (Good.in 1 8).bind fun _ => (Good.num 8).bind fun _ => (Good.num 4).bind fun _ => (Good.num 8).bind fun _ => (Good.may Good.ch).bind fun _ => (Good.may (Good.num 8)).bind fun _ => (Good.may (Good.num 1)).bind fun _ => (Good.may Good.check).bind fun _ => Good.pure _

/-- A record's bytes that are cut off. -/
theorem dec_cut (r : Rec) (h : r.right) (b t : List UInt8) (hb : recB r = b ++ t) (ht : t ≠ []) : decR b = (Rec.zero, 4) := by
  have h1 := Reads.rec r h []
  rw [List.append_nil, hb] at h1
  have h2 := (Good.record.sim t ⟨b, 0⟩ ⟨b ++ t, 0⟩ (.inr ⟨rfl, rfl, rfl⟩) (by rw [h1])).1
  rw [h1] at h2
  have h3 : (pRec ⟨b, 0⟩).2.e = 4 := by
    rcases h2 with h2 | ⟨_, _, h2⟩
    · exact h2
    · have h4 : ([] : List UInt8) = (pRec ⟨b, 0⟩).2.l ++ t := h2
      have h5 := congrArg List.length h4
      rw [List.length_append] at h5
      have h6 : t.length = 0 := by simp only [List.length_nil] at h5; omega
      exact absurd (List.eq_nil_of_length_eq_zero h6) ht
  unfold decR
  rw [h3, if_pos (by decide)]
end Go.Proofs.Ytbnlkfcaahgpmaa

/-
  How many bytes a record has: plain facts.
-/
namespace Go.Proofs.Ytbnlkfcaahgpmaa
open Go.RowKit
set_option linter.unusedVariables false

theorem mayB_len {q : Prop} [Decidable q] {b : List UInt8} : (mayB q b).length = if q then b.length else 0 := by
  unfold mayB
  split <;> rfl
theorem chB_len (c : Ch) : (chB c).length = 6 + c.o.size + c.n.size := by
  unfold chB
  simp only [List.length_append, beB_length, textB_length, data_length]
  omega
/-- The bytes of a record that is no checkpoint's. -/
theorem rec_room (r : Rec) (h : r.right) (h8 : r.k ≠ 8) : 21 ≤ (recB r).length ∧ (recB r).length ≤ 75 ∧ ((r.k = 3 ∨ r.k = 4 ∨ r.k = 5 ∨ r.k = 7) → (recB r).length = 21) := by
  have e : (recB r).length = 21 + ((if r.k ≤ 2 then (chB r.c).length else 0) + ((if r.k = 2 then 8 else 0) + (if r.k = 6 then 1 else 0))) := by
    unfold recB
    simp only [List.length_append, beB_length, mayB_len]
    rw [if_neg h8]
    omega
  rw [e, chB_len]
  have hc : r.k ≤ 2 → r.c.o.size ≤ 20 ∧ r.c.n.size ≤ 20 := fun hk => by
    have := (h.ch hk).1
    omega
  by_cases h2 : r.k ≤ 2
  · have := hc h2
    rw [if_pos h2]
    split <;> split <;> exact ⟨by omega, by omega, fun hk => by omega⟩
  · rw [if_neg h2]
    split <;> split <;> exact ⟨by omega, by omega, fun hk => by omega⟩
/-- All bytes together are few. -/
theorem txB_len (x : Tx) : (txB x).length = 29 := by
  unfold txB
  simp only [List.length_append, beB_length]
theorem diB_len (d : Di) : (diB d).length = 10 := by
  unfold diB
  simp only [List.length_append, beB_length]
theorem flat_len {α : Type} (f : α → List UInt8) (n : Nat) (hf : ∀ x, (f x).length = n) : ∀ xs : List α, (xs.flatMap f).length = xs.length * n
  | [] => by simp
  | x :: xs => by
    rw [List.flatMap_cons, List.length_append, hf, flat_len f n hf xs, List.length_cons]
    rw [Nat.add_mul, Nat.one_mul, Nat.add_comm]
theorem checkB_len (b : Nat) (ts : List Tx) (ds : List Di) : (checkB b ts ds).length = 10 + ts.length * 29 + ds.length * 10 := by
  unfold checkB txsB disB
  simp only [List.length_append, beB_length, flat_len txB 29 txB_len, flat_len diB 10 diB_len]
  omega
theorem rec_few (r : Rec) (h : r.right) : (recB r).length ≤ 1000 := by
  by_cases h8 : r.k = 8
  · have hr := h.check h8
    have e : (recB r).length = 21 + (checkB r.b r.ts r.ds).length := by
      unfold recB
      simp only [List.length_append, beB_length, mayB_len]
      rw [if_neg (by omega), if_neg (by omega), if_neg (by omega), if_pos h8]
      omega
    rw [e, checkB_len]
    have := hr.1
    have := hr.2.1
    omega
  · have := (rec_room r h h8).2.1
    omega
/-- Right records are alike just if their bytes are. -/
theorem rec_inj {a b : Rec} (ha : a.right) (hb : b.right) (h : recB a = recB b) : a = b := by
  have h1 := dec_enc a ha
  rw [h, dec_enc b hb] at h1
  exact (Prod.mk.inj h1).1.symm
end Go.Proofs.Ytbnlkfcaahgpmaa

/-
  Frames of records: plain facts, of no program.
-/
namespace Go.Proofs.Ytbnlkfcaahgpmaa
open Go.RowKit
set_option linter.unusedVariables false

def sealB (bs : List UInt8) : List UInt8 := bs ++ leB (crc bs)
/-- A record's frame. -/
def frameB (r : Rec) : List UInt8 := sealB (beB 2 (recB r).length ++ recB r)
theorem sealB_length (bs : List UInt8) : (sealB bs).length = bs.length + 4 := by
  unfold sealB
  rw [List.length_append, leB_length]
theorem frameB_length (r : Rec) : (frameB r).length = (recB r).length + 6 := by
  unfold frameB
  rw [sealB_length, List.length_append, beB_length]
  omega
theorem open_seal (bs : List UInt8) : openS (sealB bs) = (bs, 0) := by
  have hl := sealB_length bs
  have e : (sealB bs).length - 4 = bs.length := by omega
  have t : (sealB bs).take bs.length = bs := List.take_left' rfl
  have d : (sealB bs).drop bs.length = leB (crc bs) := List.drop_left' rfl
  rw [openS_ok _ (by omega) (by rw [e, t, d]; exact leN_leB _ (crc_lt bs)), e, t]
theorem seal_open (f : List UInt8) (h : (openS f).2 = 0) : f = sealB (openS f).1 := by
  by_cases h1 : f.length < 4
  · rw [openS_short f h1] at h
    cases h
  · by_cases h2 : leN (f.drop (f.length - 4)) = crc (f.take (f.length - 4))
    · rw [openS_ok f h1 h2]
      exact ((seal_eq_iff f h1).2 h2).symm
    · rw [openS_no f h1 h2] at h
      cases h
/-- What is taken of bytes that begin with a frame: the record, how many bytes, the error. -/
def headF (l : List UInt8) : Rec × Nat × Int :=
  if l.length < 2 ∨ l.length < be (l.take 2) + 6 then (Rec.zero, 0, 4)
  else if (openS (l.take (be (l.take 2) + 6))).2 ≠ 0 then (Rec.zero, 0, 3)
  else if (decR ((openS (l.take (be (l.take 2) + 6))).1.drop 2)).2 ≠ 0 then (Rec.zero, 0, 2)
  else ((decR ((openS (l.take (be (l.take 2) + 6))).1.drop 2)).1, be (l.take 2) + 6, 0)
theorem frame_two (r : Rec) (h : r.right) (y : List UInt8) : be ((frameB r ++ y).take 2) = (recB r).length := by
  have hf := rec_few r h
  have e : (frameB r ++ y).take 2 = beB 2 (recB r).length := by
    unfold frameB sealB
    rw [List.append_assoc, List.append_assoc]
    exact List.take_left' (beB_length 2 _)
  rw [e]
  exact be_beB 2 _ (by omega)
/-- A frame is taken as its record. -/
theorem head_frame (r : Rec) (h : r.right) (y : List UInt8) : headF (frameB r ++ y) = (r, (frameB r).length, 0) := by
  have h2 := frame_two r h y
  have hl := frameB_length r
  have ht : (frameB r ++ y).take ((recB r).length + 6) = frameB r := List.take_left' hl
  have ho : openS (frameB r) = (beB 2 (recB r).length ++ recB r, 0) := open_seal _
  have hd : (beB 2 (recB r).length ++ recB r).drop 2 = recB r := List.drop_left' (beB_length 2 _)
  unfold headF
  rw [h2, ht, ho]
  simp only
  rw [hd, dec_enc r h, if_neg (by rw [List.length_append]; omega), if_neg (by simp), if_neg (by simp), hl]
/-- What was taken stands there. -/
theorem head_ok (l : List UInt8) (h : (headF l).2.2 = 0) : (headF l).1.right ∧ l.take (headF l).2.1 = frameB (headF l).1 ∧ (headF l).2.1 = (frameB (headF l).1).length ∧ (headF l).2.1 ≤ l.length := by
  unfold headF at h ⊢
  by_cases h1 : l.length < 2 ∨ l.length < be (l.take 2) + 6
  · rw [if_pos h1] at h
    cases h
  rw [if_neg h1] at h ⊢
  by_cases h2 : (openS (l.take (be (l.take 2) + 6))).2 ≠ 0
  · rw [if_pos h2] at h
    cases h
  rw [if_neg h2] at h ⊢
  by_cases h3 : (decR ((openS (l.take (be (l.take 2) + 6))).1.drop 2)).2 ≠ 0
  · rw [if_pos h3] at h
    cases h
  rw [if_neg h3] at h ⊢
  simp only
  have h2' : (openS (l.take (be (l.take 2) + 6))).2 = 0 := by omega
  have h3' : (decR ((openS (l.take (be (l.take 2) + 6))).1.drop 2)).2 = 0 := by omega
  obtain ⟨hr, hb⟩ := dec_ok _ h3'
  have hs := seal_open _ h2'
  generalize hn : be (l.take 2) = n at *
  generalize hq : (openS (l.take (n + 6))).1 = q at *
  have hlen : (l.take (n + 6)).length = n + 6 := by rw [List.length_take]; omega
  have hql : q.length = n + 2 := by
    have h5 := congrArg List.length hs
    rw [hlen, sealB_length] at h5
    omega
  have hq2 : q.take 2 = l.take 2 := by
    have h6 : (l.take (n + 6)).take 2 = l.take 2 := by rw [List.take_take, Nat.min_eq_left (by omega)]
    have h7 : (sealB q).take 2 = q.take 2 := by
      unfold sealB
      rw [List.take_append_of_le_length (by omega)]
    rw [← h6, hs, h7]
  have hrl : (recB (decR (q.drop 2)).1).length = n := by rw [hb, List.length_drop]; omega
  have hbe : beB 2 n = l.take 2 := by
    have h8 := beB_be (l.take 2)
    rw [List.length_take, Nat.min_eq_left (by omega), hn] at h8
    exact h8
  have hfr : frameB (decR (q.drop 2)).1 = l.take (n + 6) := by
    have e9 : beB 2 n ++ q.drop 2 = q := by rw [hbe, ← hq2]; exact List.take_append_drop 2 q
    unfold frameB
    rw [hrl, hb, e9]
    exact hs.symm
  exact ⟨hr, hfr.symm, by rw [hfr, hlen], by omega⟩
/-- A frame that is cut off isn't taken. -/
theorem head_cut (r : Rec) (h : r.right) (p t : List UInt8) (hp : frameB r = p ++ t) (ht : t ≠ []) : headF p = (Rec.zero, 0, 4) := by
  have hl := congrArg List.length hp
  rw [List.length_append, frameB_length] at hl
  have htl : 0 < t.length := List.length_pos_iff.2 ht
  unfold headF
  rw [if_pos]
  by_cases h2 : p.length < 2
  · exact .inl h2
  · right
    have h3 := frame_two r h []
    rw [List.append_nil, hp, List.take_append_of_le_length (by omega)] at h3
    rw [h3]
    omega

/-! ### Frames one behind the other -/
def framesB (rs : List Rec) : List UInt8 := rs.flatMap frameB
/-- Records that can stand one behind the other, behind this LSN. -/
def Rise : Nat → List Rec → Prop
  | _, [] => True
  | a, r :: rs => r.right ∧ a < r.l ∧ Rise r.l rs
/-- What is scanned: the records, and how many bytes. -/
def scanF : Nat → Nat → List UInt8 → List Rec × Nat
  | 0, _, _ => ([], 0)
  | f + 1, a, l =>
    if (headF l).2.2 ≠ 0 ∨ (headF l).1.l ≤ a then ([], 0)
    else ((headF l).1 :: (scanF f (headF l).1.l (l.drop (headF l).2.1)).1, (headF l).2.1 + (scanF f (headF l).1.l (l.drop (headF l).2.1)).2)
theorem scan_stop (f a : Nat) (l : List UInt8) (h : (headF l).2.2 ≠ 0 ∨ (headF l).1.l ≤ a) : scanF f a l = ([], 0) := by
  cases f with
  | zero => rfl
  | succ f => rw [scanF, if_pos h]
theorem scan_one (f a : Nat) (r : Rec) (h : r.right) (ha : a < r.l) (y : List UInt8) : scanF (f + 1) a (frameB r ++ y) = (r :: (scanF f r.l y).1, (frameB r).length + (scanF f r.l y).2) := by
  have hd : (frameB r ++ y).drop (frameB r).length = y := List.drop_left' rfl
  rw [scanF, head_frame r h y]
  simp only
  rw [if_neg (by omega), hd]
def lastL : Nat → List Rec → Nat
  | a, [] => a
  | _, r :: rs => lastL r.l rs
/-- Frames of records whose LSNs rise are scanned as these; then what stands behind. -/
theorem scan_all : ∀ (rs : List Rec) (f a : Nat) (y : List UInt8), Rise a rs → scanF (rs.length + f) a (framesB rs ++ y) = (rs ++ (scanF f (lastL a rs) y).1, (framesB rs).length + (scanF f (lastL a rs) y).2)
  | [], f, a, y, _ => by
    show scanF (0 + f) a y = _
    rw [Nat.zero_add]
    show _ = ((scanF f a y).1, 0 + (scanF f a y).2)
    rw [Nat.zero_add]
  | r :: rs, f, a, y, h => by
    obtain ⟨h1, h2, h3⟩ := h
    have e1 : (r :: rs).length + f = (rs.length + f) + 1 := by rw [List.length_cons]; omega
    have e2 : framesB (r :: rs) ++ y = frameB r ++ (framesB rs ++ y) := by
      unfold framesB
      rw [List.flatMap_cons, List.append_assoc]
    rw [e1, e2, scan_one _ a r h1 h2, scan_all rs f r.l y h3]
    show (r :: (rs ++ (scanF f (lastL r.l rs) y).1), (frameB r).length + ((framesB rs).length + (scanF f (lastL r.l rs) y).2)) = _
    have e3 : (framesB (r :: rs)).length = (frameB r).length + (framesB rs).length := by
      unfold framesB
      rw [List.flatMap_cons, List.length_append]
    rw [e3, Nat.add_assoc]
    rfl
/-- What was scanned, laid anew, is just the bytes that were scanned. -/
theorem scan_again : ∀ (f a : Nat) (l : List UInt8), Rise a (scanF f a l).1 ∧ l.take (scanF f a l).2 = framesB (scanF f a l).1 ∧ (scanF f a l).2 ≤ l.length
  | 0, a, l => ⟨trivial, rfl, Nat.zero_le _⟩
  | f + 1, a, l => by
    by_cases h : (headF l).2.2 ≠ 0 ∨ (headF l).1.l ≤ a
    · rw [scan_stop _ a l h]
      exact ⟨trivial, rfl, Nat.zero_le _⟩
    · obtain ⟨h1, h2, h3, h4⟩ := head_ok l (by omega)
      obtain ⟨i1, i2, i3⟩ := scan_again f (headF l).1.l (l.drop (headF l).2.1)
      rw [scanF, if_neg h]
      simp only
      rw [List.length_drop] at i3
      refine ⟨⟨h1, by omega, i1⟩, ?_, by omega⟩
      rw [List.take_add, h2, i2]
      unfold framesB
      rw [List.flatMap_cons]
/-- Nothing is scanned of nothing, and of a frame that is cut off. -/
theorem scan_nil (f a : Nat) : scanF f a [] = ([], 0) := scan_stop f a [] (.inl (by unfold headF; rw [if_pos (.inl (by decide))]; decide))
theorem scan_cut (f a : Nat) (r : Rec) (h : r.right) (p t : List UInt8) (hp : frameB r = p ++ t) (ht : t ≠ []) : scanF f a p = ([], 0) := scan_stop f a p (.inl (by rw [head_cut r h p t hp ht]; decide))
end Go.Proofs.Ytbnlkfcaahgpmaa

/-
  The contract of quaysideref01.Take: it answers 'takeS' too, over the string's bytes.
-/
namespace Go.Proofs.Ytbnlkfcaahgpmaa
open Go.RowKit
set_option linter.unusedVariables false

end Go.Proofs.Ytbnlkfcaahgpmaa

/-
  The contract of quaysideref01.TakeText: it answers 'textS' too, over the string's bytes.
-/
namespace Go.Proofs.Ytbnlkfcaahgpmaa
open Go.RowKit
set_option linter.unusedVariables false

end Go.Proofs.Ytbnlkfcaahgpmaa

/-
  The contracts of quaysideref06's reader.
-/
namespace Go.Proofs.Ytbnlkfcaahgpmaa
open Go.RowKit
set_option linter.unusedVariables false

def rdA (b : ByteArray) (k : Nat) (e : Int) : Array Value := #[.string b, .int .i64 (k : Int), .int .i64 e]
theorem grown_refl (w : World) (o : Option Nat) : w.grownBy w o := ⟨rfl, rfl, rfl, Nat.le_refl _, fun _ _ _ => rfl⟩
theorem grown_drew {w x : World} {o : Option Nat} (h : w.grownBy x o) : w.grownBy x.drew o := ⟨h.os, h.tape, h.output, h.size, h.block⟩
theorem grown_set {w x : World} {g j : Nat} (v : Value) (h : w.grownBy x (some g)) : w.grownBy (x.setCell ⟨g, j, none⟩ v) (some g) := by
  have hb : Below 0 x (x.setCell ⟨g, j, none⟩ v) := (Below.refl 0 x).setCell (Nat.zero_le _) _
  refine ⟨hb.os.trans h.os, hb.tape.trans h.tape, hb.output.trans h.output, Nat.le_trans h.size hb.size, fun k hk hn => ?_⟩
  rw [heap_setCell_other x ⟨g, j, none⟩ k v (fun e => hn (by rw [e]))]
  exact h.block k hk hn
theorem grown_any {w x : World} {o : Option Nat} (h : w.grownBy x none) : w.grownBy x o := ⟨h.os, h.tape, h.output, h.size, fun k hk _ => h.block k hk (by simp)⟩
theorem load_s {b j : Nat} (x : World) (s : ByteArray) (h : x.cell? ⟨b, j, none⟩ = some (.string s)) : (Instr.loadAt 9 (.pointer (some ⟨b, j, none⟩))).run Try.prog x = .ok (.string s) x := by go_simp

/-- What 'num' answers, by what 'Take' answers. -/
theorem num_take (b : ByteArray) (s : St) (k w : Nat) (hw : 1 ≤ w ∧ w ≤ 8) (he : s.e = 0) (hk : k ≤ b.size) (hl : b.data.toList.drop k = s.l) :
    (takeS b.data.toList (k : Int) (w : Int)).1 = ((pNum w s).1 : Int) ∧ (takeS b.data.toList (k : Int) (w : Int)).2 = (pNum w s).2.e ∧ ((pNum w s).2.e = 0 → k + w ≤ b.size ∧ b.data.toList.drop (k + w) = (pNum w s).2.l) := by
  have hz := data_length b
  have hll : s.l.length = b.size - k := by rw [← hl, List.length_drop, hz]
  unfold pNum
  rw [if_neg (by simpa using he)]
  by_cases h : w ≤ s.l.length
  · rw [if_pos h, takeS_ok _ _ _ (by omega) (by rw [hz]; omega)]
    refine ⟨?_, rfl, fun _ => ⟨by omega, ?_⟩⟩
    · show ((beAt b.data.toList (k : Int).toNat (w : Int).toNat : Nat) : Int) = ((be (s.l.take w) : Nat) : Int)
      rw [Int.toNat_natCast, Int.toNat_natCast, ← hl]
      rfl
    · show _ = s.l.drop w
      rw [← hl, List.drop_drop]
  · rw [if_neg h, takeS_short _ _ _ (by omega) (by rw [hz]; omega)]
    exact ⟨rfl, rfl, fun h => by cases h⟩

/-- What 'text' answers, by what 'TakeText' answers. -/
theorem text_take (b : ByteArray) (s : St) (k : Nat) (he : s.e = 0) (hk : k ≤ b.size) (hl : b.data.toList.drop k = s.l) :
    ∃ k2 : Nat, (textS b.data.toList (k : Int)).2.1 = (k2 : Int) ∧ k2 ≤ b.size ∧ (⟨(textS b.data.toList (k : Int)).1.toArray⟩ : ByteArray) = (pText s).1 ∧ (textS b.data.toList (k : Int)).2.2 = (pText s).2.e ∧ ((pText s).2.e = 0 → b.data.toList.drop k2 = (pText s).2.l) := by
  have hz := data_length b
  unfold pText
  rw [if_neg (by simpa using he)]
  cases hs : s.l with
  | nil =>
    have hkk : b.size ≤ k := by
      have h := congrArg List.length hl
      rw [hs, List.length_drop, hz] at h
      simp only [List.length_nil] at h
      omega
    rw [textS_short _ _ (by omega) (by rw [hz]; omega)]
    exact ⟨0, rfl, by omega, rfl, rfl, fun h => by cases h⟩
  | cons x l =>
    have hlen : k < b.size := by
      have h := congrArg List.length hl
      rw [hs, List.length_drop, hz, List.length_cons] at h
      omega
    have hll : l.length = b.size - k - 1 := by
      have h := congrArg List.length hl
      rw [hs, List.length_drop, hz, List.length_cons] at h
      omega
    have hx : b.data.toList.getD k 0 = x := by
      have h : (b.data.toList.drop k)[0]? = some x := by rw [hl, hs]; rfl
      rw [List.getElem?_drop, Nat.add_zero] at h
      rw [List.getD, h]
      rfl
    have hd : b.data.toList.drop (k + 1) = l := by
      have h : (b.data.toList.drop k).drop 1 = l := by rw [hl, hs]; rfl
      rwa [List.drop_drop] at h
    simp only
    by_cases hb : x.toNat ≤ l.length
    · rw [if_pos hb, textS_ok _ k x.toNat (by rw [hz]; omega) (by rw [hx]) (by rw [hz]; omega)]
      refine ⟨k + 1 + x.toNat, by show (k : Int) + 1 + (x.toNat : Int) = _; omega, by omega, by rw [hd], rfl, fun _ => ?_⟩
      show _ = l.drop x.toNat
      rw [← hd, List.drop_drop]
    · rw [if_neg hb, textS_few _ k x.toNat (by rw [hz]; omega) (by rw [hx]) (by rw [hz]; omega)]
      exact ⟨0, rfl, by omega, rfl, rfl, fun h => by cases h⟩

theorem grown_trans {w x y : World} {o : Option Nat} (h : w.grownBy x o) (g : x.grownBy y o) : w.grownBy y o :=
  ⟨g.os.trans h.os, g.tape.trans h.tape, g.output.trans h.output, Nat.le_trans h.size g.size, fun k hk hn => (g.block k (Nat.lt_of_lt_of_le hk h.size) hn).trans (h.block k hk hn)⟩

end Go.Proofs.Ytbnlkfcaahgpmaa

/-
  The contracts of isTxn, within, rightTxn and rightTxnRow of package record.
-/
namespace Go.Proofs.Ytbnlkfcaahgpmaa
open Go.RowKit
set_option linter.unusedVariables false

set_option maxRecDepth 4000 in
set_option maxHeartbeats 800000 in
theorem istxn_at (t : Int) (w : World) (q : Bool) (Hq : Hid (decide (1 ≤ t ∧ t ≤ 1048575) = q)) :
    Calls Try.prog 70 #[.int .i64 t] w fun e w' => e = .returned (.bool q) ∧ w = w' := by
  by_cases h1 : 1 ≤ t
  case neg =>
    obtain rfl : q = false := by rw [← Hq.out]; exact decide_eq_false (fun h => by omega)
    clear Hq
    go_enter Try.func70, Try.ntmps70
    go_wp2
    go_ret
    exact ⟨by (first | rfl | (apply congrArg Ending.returned; apply congrArg Value.bool; first | (apply decide_eq_false; omega) | (apply decide_eq_true; omega))), rfl⟩
  by_cases h2 : t ≤ 1048575
  case neg =>
    obtain rfl : q = false := by rw [← Hq.out]; exact decide_eq_false (fun h => by omega)
    clear Hq
    go_enter Try.func70, Try.ntmps70
    go_wp2
    go_ret
    exact ⟨by (first | rfl | (apply congrArg Ending.returned; apply congrArg Value.bool; first | (apply decide_eq_false; omega) | (apply decide_eq_true; omega))), rfl⟩
  obtain rfl : q = true := by rw [← Hq.out]; exact decide_eq_true (by omega)
  clear Hq
  go_enter Try.func70, Try.ntmps70
  go_wp2
  go_ret
  exact ⟨by (first | rfl | (apply congrArg Ending.returned; apply congrArg Value.bool; first | (apply decide_eq_false; omega) | (apply decide_eq_true; omega))), rfl⟩

set_option maxRecDepth 4000 in
set_option maxHeartbeats 800000 in
theorem within_at (n l : Nat) (w : World) (q : Bool) (Hq : Hid (decide (1 ≤ n ∧ n < l) = q)) :
    Calls Try.prog 60 #[.int .u64 (n : Int), .int .u64 (l : Int)] w fun e w' => e = .returned (.bool q) ∧ w = w' := by
  by_cases h1 : (1 : Int) ≤ (n : Int)
  case neg =>
    obtain rfl : q = false := by rw [← Hq.out]; exact decide_eq_false (fun h => by omega)
    clear Hq
    go_enter Try.func60, Try.ntmps60
    go_wp2
    go_ret
    exact ⟨by (first | rfl | (apply congrArg Ending.returned; apply congrArg Value.bool; first | (apply decide_eq_false; omega) | (apply decide_eq_true; omega))), rfl⟩
  by_cases h2 : (n : Int) < (l : Int)
  case neg =>
    obtain rfl : q = false := by rw [← Hq.out]; exact decide_eq_false (fun h => by omega)
    clear Hq
    go_enter Try.func60, Try.ntmps60
    go_wp2
    go_ret
    exact ⟨by (first | rfl | (apply congrArg Ending.returned; apply congrArg Value.bool; first | (apply decide_eq_false; omega) | (apply decide_eq_true; omega))), rfl⟩
  obtain rfl : q = true := by rw [← Hq.out]; exact decide_eq_true (by omega)
  clear Hq
  go_enter Try.func60, Try.ntmps60
  go_wp2
  go_ret
  exact ⟨by (first | rfl | (apply congrArg Ending.returned; apply congrArg Value.bool; first | (apply decide_eq_false; omega) | (apply decide_eq_true; omega))), rfl⟩

set_option maxRecDepth 4000 in
set_option maxHeartbeats 800000 in
theorem rtxn_at (r : Rec) (va vb : Value) (w : World) (q : Bool) (Hq : Hid (decide (1 ≤ r.t ∧ r.t ≤ 1048575 ∧ r.p < r.l) = q)) :
    Calls Try.prog 59 #[.agg (rcA r va vb)] w fun e w' => e = .returned (.bool q) ∧ Below w.heap.size w w' := by
  have K0 := Keeps.one w 30 (rcA r va vb)
  obtain ⟨-, c1, c2, c3, -⟩ := rc_cells K0.1.1
  have hb0 := K0.2
  clear K0
  by_cases ht : 1 ≤ r.t ∧ r.t ≤ 1048575
  case neg =>
    have H := hide (fun w => istxn_at r.t w false (hide (decide_eq_false ht)))
    obtain rfl : q = false := by rw [← Hq.out]; exact decide_eq_false (fun h => ht ⟨h.1, h.2.1⟩)
    clear Hq ht
    go_enter Try.func59, Try.ntmps59
    go_wp2_with fail
    refine (H.out _).mono ?_
    rintro e w1 ⟨rfl, rfl⟩
    clear H
    go_wp2
    go_ret
    exact ⟨by (first | rfl | (apply congrArg Ending.returned; apply congrArg Value.bool; first | (apply decide_eq_false; omega) | (apply decide_eq_true; omega))), hb0⟩
  have H := hide (fun w => istxn_at r.t w true (hide (decide_eq_true ht)))
  by_cases h3 : (r.p : Int) < (r.l : Int)
  case neg =>
    obtain rfl : q = false := by rw [← Hq.out]; exact decide_eq_false (fun h => by omega)
    clear Hq ht
    go_enter Try.func59, Try.ntmps59
    go_wp2_with fail
    refine (H.out _).mono ?_
    rintro e w1 ⟨rfl, rfl⟩
    clear H
    go_wp2
    go_ret
    exact ⟨by (first | rfl | (apply congrArg Ending.returned; apply congrArg Value.bool; first | (apply decide_eq_false; omega) | (apply decide_eq_true; omega))), hb0⟩
  obtain rfl : q = true := by rw [← Hq.out]; exact decide_eq_true ⟨ht.1, ht.2, by omega⟩
  clear Hq ht
  go_enter Try.func59, Try.ntmps59
  go_wp2_with fail
  refine (H.out _).mono ?_
  rintro e w1 ⟨rfl, rfl⟩
  clear H
  go_wp2
  go_ret
  exact ⟨by (first | rfl | (apply congrArg Ending.returned; apply congrArg Value.bool; first | (apply decide_eq_false; omega) | (apply decide_eq_true; omega))), hb0⟩

def txOkB (l : Nat) (x : Tx) : Bool := @decide (txOk l x) (txOkD l x)
theorem txOkB_iff {l : Nat} {x : Tx} : txOkB l x = true ↔ txOk l x := by
  unfold txOkB
  exact @decide_eq_true_iff _ (txOkD l x)
set_option maxRecDepth 4000 in
set_option maxHeartbeats 1600000 in
theorem rtxrow_at (x : Tx) (l : Nat) (w : World) (q : Bool) (Hq : Hid (q = true ↔ txOk l x)) :
    Calls Try.prog 71 #[.agg (txA x), .int .u64 (l : Int)] w fun e w' => e = .returned (.bool q) ∧ Below w.heap.size w w' := by
  have K0 := Keeps.one w 84 (txA x)
  have c0 := K0.1.1.cell 0 (.int .i64 x.t) rfl
  have c1 := K0.1.1.cell 1 (.int .i64 x.s) rfl
  have c2 := K0.1.1.cell 2 (.int .u64 (x.f : Int)) rfl
  have c3 := K0.1.1.cell 3 (.int .u64 (x.l : Int)) rfl
  have c4 := K0.1.1.cell 4 (.int .u64 (x.n : Int)) rfl
  have hb0 := K0.2
  clear K0
  have HF : Hid (¬ txOk l x → q = false) := fun h => by
    cases q
    · rfl
    · exact absurd (Hq.out.1 rfl) h
  have HT : Hid (txOk l x → q = true) := fun h => Hq.out.2 h
  clear Hq
  by_cases ht : 1 ≤ x.t ∧ x.t ≤ 1048575
  case neg =>
    have H := hide (fun w => istxn_at x.t w false (hide (decide_eq_false ht)))
    obtain rfl := HF.out (fun h => ht ⟨h.1, h.2.1⟩)
    clear HF HT ht
    generalize x.t = xt at *
    generalize x.s = xs at *
    generalize x.f = xf at *
    generalize x.l = xl at *
    generalize x.n = xn at *
    go_enter Try.func71, Try.ntmps71
    go_wp2_with fail
    refine (H.out _).mono ?_
    rintro e w1 ⟨rfl, rfl⟩
    clear H
    go_wp2
    go_ret
    exact ⟨by (first | rfl | (apply congrArg Ending.returned; apply congrArg Value.bool; first | (apply decide_eq_false; omega) | (apply decide_eq_true; omega))), hb0⟩
  have H := hide (fun w => istxn_at x.t w true (hide (decide_eq_true ht)))
  by_cases s1 : 1 ≤ x.s
  case neg =>
    obtain rfl := HF.out (fun h => by obtain ⟨h1, h2, h3, h4, h5, h6, h7, h8⟩ := h; omega)
    clear HF HT ht
    generalize x.t = xt at *
    generalize x.s = xs at *
    generalize x.f = xf at *
    generalize x.l = xl at *
    generalize x.n = xn at *
    go_enter Try.func71, Try.ntmps71
    go_wp2_with fail
    refine (H.out _).mono ?_
    rintro e w1 ⟨rfl, rfl⟩
    clear H
    go_wp2
    go_ret
    exact ⟨by (first | rfl | (apply congrArg Ending.returned; apply congrArg Value.bool; first | (apply decide_eq_false; omega) | (apply decide_eq_true; omega))), hb0⟩
  by_cases s2 : x.s ≤ 3
  case neg =>
    obtain rfl := HF.out (fun h => by obtain ⟨h1, h2, h3, h4, h5, h6, h7, h8⟩ := h; omega)
    clear HF HT ht
    generalize x.t = xt at *
    generalize x.s = xs at *
    generalize x.f = xf at *
    generalize x.l = xl at *
    generalize x.n = xn at *
    go_enter Try.func71, Try.ntmps71
    go_wp2_with fail
    refine (H.out _).mono ?_
    rintro e w1 ⟨rfl, rfl⟩
    clear H
    go_wp2
    go_ret
    exact ⟨by (first | rfl | (apply congrArg Ending.returned; apply congrArg Value.bool; first | (apply decide_eq_false; omega) | (apply decide_eq_true; omega))), hb0⟩
  by_cases f1 : (1 : Int) ≤ (x.f : Int)
  case neg =>
    obtain rfl := HF.out (fun h => by obtain ⟨h1, h2, h3, h4, h5, h6, h7, h8⟩ := h; omega)
    clear HF HT ht
    generalize x.t = xt at *
    generalize x.s = xs at *
    generalize x.f = xf at *
    generalize x.l = xl at *
    generalize x.n = xn at *
    go_enter Try.func71, Try.ntmps71
    go_wp2_with fail
    refine (H.out _).mono ?_
    rintro e w1 ⟨rfl, rfl⟩
    clear H
    go_wp2
    go_ret
    exact ⟨by (first | rfl | (apply congrArg Ending.returned; apply congrArg Value.bool; first | (apply decide_eq_false; omega) | (apply decide_eq_true; omega))), hb0⟩
  by_cases f2 : (x.f : Int) ≤ (x.l : Int)
  case neg =>
    obtain rfl := HF.out (fun h => by obtain ⟨h1, h2, h3, h4, h5, h6, h7, h8⟩ := h; omega)
    clear HF HT ht
    generalize x.t = xt at *
    generalize x.s = xs at *
    generalize x.f = xf at *
    generalize x.l = xl at *
    generalize x.n = xn at *
    go_enter Try.func71, Try.ntmps71
    go_wp2_with fail
    refine (H.out _).mono ?_
    rintro e w1 ⟨rfl, rfl⟩
    clear H
    go_wp2
    go_ret
    exact ⟨by (first | rfl | (apply congrArg Ending.returned; apply congrArg Value.bool; first | (apply decide_eq_false; omega) | (apply decide_eq_true; omega))), hb0⟩
  by_cases l1 : (x.l : Int) < (l : Int)
  case neg =>
    obtain rfl := HF.out (fun h => by obtain ⟨h1, h2, h3, h4, h5, h6, h7, h8⟩ := h; omega)
    clear HF HT ht
    generalize x.t = xt at *
    generalize x.s = xs at *
    generalize x.f = xf at *
    generalize x.l = xl at *
    generalize x.n = xn at *
    go_enter Try.func71, Try.ntmps71
    go_wp2_with fail
    refine (H.out _).mono ?_
    rintro e w1 ⟨rfl, rfl⟩
    clear H
    go_wp2
    go_ret
    exact ⟨by (first | rfl | (apply congrArg Ending.returned; apply congrArg Value.bool; first | (apply decide_eq_false; omega) | (apply decide_eq_true; omega))), hb0⟩
  by_cases n1 : (x.n : Int) ≤ (x.l : Int)
  case neg =>
    obtain rfl := HF.out (fun h => by obtain ⟨h1, h2, h3, h4, h5, h6, h7, h8⟩ := h; omega)
    clear HF HT ht
    generalize x.t = xt at *
    generalize x.s = xs at *
    generalize x.f = xf at *
    generalize x.l = xl at *
    generalize x.n = xn at *
    go_enter Try.func71, Try.ntmps71
    go_wp2_with fail
    refine (H.out _).mono ?_
    rintro e w1 ⟨rfl, rfl⟩
    clear H
    go_wp2
    go_ret
    exact ⟨by (first | rfl | (apply congrArg Ending.returned; apply congrArg Value.bool; first | (apply decide_eq_false; omega) | (apply decide_eq_true; omega))), hb0⟩
  obtain rfl := HT.out ⟨ht.1, ht.2, s1, s2, by omega, by omega, by omega, by omega⟩
  clear HF HT ht
  generalize x.t = xt at *
  generalize x.s = xs at *
  generalize x.f = xf at *
  generalize x.l = xl at *
  generalize x.n = xn at *
  go_enter Try.func71, Try.ntmps71
  go_wp2_with fail
  refine (H.out _).mono ?_
  rintro e w1 ⟨rfl, rfl⟩
  clear H
  go_wp2
  go_ret
  exact ⟨by (first | rfl | (apply congrArg Ending.returned; apply congrArg Value.bool; first | (apply decide_eq_false; omega) | (apply decide_eq_true; omega))), hb0⟩
end Go.Proofs.Ytbnlkfcaahgpmaa

/-
  The contract of record.rightTxns.
-/
namespace Go.Proofs.Ytbnlkfcaahgpmaa
open Go.RowKit
set_option linter.unusedVariables false

set_option maxRecDepth 4000 in
set_option maxHeartbeats 3200000 in
theorem rtxns_at (va : Value) (xs : List Tx) (l : Nat) (w : World) (q : Bool) (Hq : Hid (q = true ↔ xs.length ≤ 16 ∧ ∀ i, i < xs.length → txAt l xs i)) (hin : TxIn w va xs) :
    Calls Try.prog 61 #[va, .int .u64 (l : Int)] w fun e w' => e = .returned (.bool q) ∧ Below w.heap.size w w' := by
  have HIN := hide hin
  obtain ⟨a1, cap1, rfl, -⟩ := hin
  have hb0 := Below.refl w.heap.size w
  have HF : Hid (¬ (xs.length ≤ 16 ∧ ∀ i, i < xs.length → txAt l xs i) → q = false) := fun h => by
    cases q
    · rfl
    · exact absurd (Hq.out.1 rfl) h
  have HT : Hid (xs.length ≤ 16 ∧ (∀ i, i < xs.length → txAt l xs i) → q = true) := fun h => Hq.out.2 h
  clear Hq
  by_cases hm : 16 < xs.length
  case pos =>
    obtain rfl := HF.out (fun h => by have := h.1; omega)
    have i1 : (16 : Int) < (xs.length : Int) := by omega
    clear HF HT HIN
    generalize xs.length = n1 at *
    go_enter Try.func61, Try.ntmps61
    go_wp2
    go_ret
    exact ⟨rfl, hb0⟩
  have i1 : ¬ (16 : Int) < (xs.length : Int) := by omega
  go_enter Try.func61, Try.ntmps61
  go_wp2
  go_loopw [13, 5] (fun v u wr => ∃ j : Nat, j ≤ xs.length ∧ v = .int .i64 j ∧ (∃ p : Int, u = .int .i64 p ∧ (j = 0 → p = 0) ∧ (0 < j → p = (xs.getD (j - 1) Tx.zero).t)) ∧ Below w.heap.size w wr ∧ ∀ i, i < j → txAt l xs i) (fun v _ _ => xs.length - (intOf v).toNat)
  case atStart => exact ⟨0, Nat.zero_le _, rfl, ⟨0, rfl, fun _ => rfl, fun h => absurd h (by omega)⟩, Below.refl _ _, fun i hi => absurd hi (by omega)⟩
  case round =>
    obtain ⟨j, hj, rfl, ⟨p, rfl, hp0, hp1⟩, hb, hat⟩ := hrel
    have HAT := hide hat
    have HB := hide hb
    have HP0 := hide hp0
    have HP1 := hide hp1
    clear hat hb hb0 hp0 hp1
    by_cases hlt : j < xs.length
    case neg =>
      obtain rfl : j = xs.length := by omega
      obtain rfl := HT.out ⟨by omega, HAT.out⟩
      have d3 := HB.out
      clear HF HT HAT HIN HB HP0 HP1
      go_wp2
      go_ret
      exact ⟨rfl, d3⟩
    have jlt : (j : Int) < (xs.length : Int) := by omega
    obtain ⟨u1, k1, e1, hrow1⟩ := HIN.out.below HB.out
    cases e1
    obtain ⟨b, off, rfl, -, hc⟩ := hrow1 (by omega)
    have HRG := hide (hc j hlt)
    clear hrow1 hc
    obtain ⟨x, hx⟩ : ∃ x, x = xs.getD j Tx.zero := ⟨_, rfl⟩
    have HX := hide hx
    rw [← hx] at HRG
    clear hx
    go_wp2_with (first | (refine wpList_load_mid rfl 84 (.tmp 15) rfl b (off + j * 5) (txA x) rfl HRG.out _ Try.underlying84 rfl infoTx ?_) | (refine wpList_store_at rfl 84 (.tmp 7) (.tmp 16) rfl wr.heap.size (txA Tx.zero) (txA x) rfl rfl (RowAt.new wr 84 (txA Tx.zero)) infoTx rfl (txA_one _) ?_))
    intro w2 hr2 hk2 _
    have HB2 := hide (HB.out.trans ((hk2 _ _ ((Below.refl wr.heap.size wr).alloc (Nat.le_refl _) _) (Nat.le_refl _)).mono HB.out.size))
    have HR2 := hide hr2
    clear hr2 hk2 HB HRG
    generalize wr.heap.size = g at *
    have c0 := HR2.out.cell 0 (.int .i64 x.t) rfl
    by_cases t1 : x.t ≤ p
    case pos =>
      obtain rfl := HF.out (fun h => by
        have h2 := h.2 j hlt
        unfold txAt at h2
        rw [← HX.out] at h2
        by_cases h0 : j = 0
        · have := HP0.out h0
          have := h2.1.1
          omega
        · have := HP1.out (by omega)
          have := h2.2 (by omega)
          omega)
      have d3 := HB2.out
      clear HF HT HAT HIN HB2 HP0 HP1 HX HR2
      generalize x.t = xt at *
      go_wp2
      go_ret
      exact ⟨rfl, d3⟩
    have c1 := HR2.out.cell 1 (.int .i64 x.s) rfl
    have c2 := HR2.out.cell 2 (.int .u64 (x.f : Int)) rfl
    have c3 := HR2.out.cell 3 (.int .u64 (x.l : Int)) rfl
    have c4 := HR2.out.cell 4 (.int .u64 (x.n : Int)) rfl
    by_cases ok : txOk l x
    case neg =>
      obtain rfl := HF.out (fun h => ok (by have h2 := (h.2 j hlt).1; rwa [← HX.out] at h2))
      have H := hide (fun w => rtxrow_at x l w false (hide ⟨fun h => (nomatch h), fun h => absurd h ok⟩))
      have d3 := HB2.out
      clear HF HT HAT HIN HB2 HP0 HP1 HX HR2 ok
      go_wp2_with fail
      refine (H.out _).mono ?_
      rintro e w3 ⟨rfl, hb3⟩
      have d4 := d3.trans (hb3.mono d3.size)
      clear hb3 d3 H c0 c1 c2 c3 c4
      go_wp2
      go_ret
      exact ⟨rfl, d4⟩
    have H := hide (fun w => rtxrow_at x l w true (hide ⟨fun _ => ok, fun _ => rfl⟩))
    have HOK := hide ok
    clear ok
    go_wp2_with fail
    refine (H.out _).mono ?_
    rintro e w3 ⟨rfl, hb3⟩
    have HB3 := hide (HB2.out.trans (hb3.mono HB2.out.size))
    have d0 := (HR2.out.later hb3).cell 0 (.int .i64 x.t) rfl
    clear hb3 H c0 c1 c2 c3 c4 HR2 HB2
    go_wp2
    go_roundw
    case rel =>
      refine ⟨j + 1, by omega, by go_num, ⟨x.t, rfl, fun h => absurd h (by omega), fun _ => by rw [HX.out]; rfl⟩, HB3.out, at_more HAT.out ⟨by rw [← HX.out]; exact HOK.out, fun h => ?_⟩⟩
      rw [← HX.out, ← HP1.out h]
      omega
    case measure => simp [intOf]; omega
end Go.Proofs.Ytbnlkfcaahgpmaa

/-
  The contract of record.rightDirty.
-/
namespace Go.Proofs.Ytbnlkfcaahgpmaa
open Go.RowKit
set_option linter.unusedVariables false

set_option maxRecDepth 4000 in
set_option maxHeartbeats 3200000 in
theorem rdirty_at (va : Value) (xs : List Di) (l : Nat) (w : World) (q : Bool) (Hq : Hid (q = true ↔ xs.length ≤ 32 ∧ ∀ i, i < xs.length → diAt l xs i)) (hin : DiIn w va xs) :
    Calls Try.prog 62 #[va, .int .u64 (l : Int)] w fun e w' => e = .returned (.bool q) ∧ Below w.heap.size w w' := by
  have HIN := hide hin
  obtain ⟨a1, cap1, rfl, -⟩ := hin
  have hb0 := Below.refl w.heap.size w
  have HF : Hid (¬ (xs.length ≤ 32 ∧ ∀ i, i < xs.length → diAt l xs i) → q = false) := fun h => by
    cases q
    · rfl
    · exact absurd (Hq.out.1 rfl) h
  have HT : Hid (xs.length ≤ 32 ∧ (∀ i, i < xs.length → diAt l xs i) → q = true) := fun h => Hq.out.2 h
  clear Hq
  by_cases hm : 32 < xs.length
  case pos =>
    obtain rfl := HF.out (fun h => by have := h.1; omega)
    have i1 : (32 : Int) < (xs.length : Int) := by omega
    clear HF HT HIN
    generalize xs.length = n1 at *
    go_enter Try.func62, Try.ntmps62
    go_wp2
    go_ret
    exact ⟨rfl, hb0⟩
  have i1 : ¬ (32 : Int) < (xs.length : Int) := by omega
  go_enter Try.func62, Try.ntmps62
  go_wp2
  go_loopw [13, 5] (fun v u wr => ∃ j : Nat, j ≤ xs.length ∧ v = .int .i64 j ∧ (∃ p : Int, u = .int .i64 p ∧ (j = 0 → p = -1) ∧ (0 < j → p = (xs.getD (j - 1) Di.zero).p)) ∧ Below w.heap.size w wr ∧ ∀ i, i < j → diAt l xs i) (fun v _ _ => xs.length - (intOf v).toNat)
  case atStart => exact ⟨0, Nat.zero_le _, rfl, ⟨-1, rfl, fun _ => rfl, fun h => absurd h (by omega)⟩, Below.refl _ _, fun i hi => absurd hi (by omega)⟩
  case round =>
    obtain ⟨j, hj, rfl, ⟨p, rfl, hp0, hp1⟩, hb, hat⟩ := hrel
    have HAT := hide hat
    have HB := hide hb
    have HP0 := hide hp0
    have HP1 := hide hp1
    clear hat hb hb0 hp0 hp1
    by_cases hlt : j < xs.length
    case neg =>
      obtain rfl : j = xs.length := by omega
      obtain rfl := HT.out ⟨by omega, HAT.out⟩
      have d3 := HB.out
      clear HF HT HAT HIN HB HP0 HP1
      go_wp2
      go_ret
      exact ⟨rfl, d3⟩
    have jlt : (j : Int) < (xs.length : Int) := by omega
    obtain ⟨u1, k1, e1, hrow1⟩ := HIN.out.below HB.out
    cases e1
    obtain ⟨b, off, rfl, -, hc⟩ := hrow1 (by omega)
    have HRG := hide (hc j hlt)
    clear hrow1 hc
    obtain ⟨x, hx⟩ : ∃ x, x = xs.getD j Di.zero := ⟨_, rfl⟩
    have HX := hide hx
    rw [← hx] at HRG
    clear hx
    go_wp2_with (first | (refine wpList_load_mid rfl 86 (.tmp 15) rfl b (off + j * 2) (diA x) rfl HRG.out _ Try.underlying86 rfl infoDi ?_) | (refine wpList_store_at rfl 86 (.tmp 7) (.tmp 16) rfl wr.heap.size (diA Di.zero) (diA x) rfl rfl (RowAt.new wr 86 (diA Di.zero)) infoDi rfl (diA_one _) ?_))
    intro w2 hr2 hk2 _
    have HB2 := hide (HB.out.trans ((hk2 _ _ ((Below.refl wr.heap.size wr).alloc (Nat.le_refl _) _) (Nat.le_refl _)).mono HB.out.size))
    have HR2 := hide hr2
    clear hr2 hk2 HB HRG
    generalize wr.heap.size = g at *
    have c0 := HR2.out.cell 0 (.int .i64 x.p) rfl
    have c1 := HR2.out.cell 1 (.int .u64 (x.r : Int)) rfl
    by_cases t1 : x.p ≤ p
    case pos =>
      obtain rfl := HF.out (fun h => by
        have h2 := h.2 j hlt
        unfold diAt at h2
        rw [← HX.out] at h2
        by_cases h0 : j = 0
        · have := HP0.out h0
          have := h2.1.1
          omega
        · have := HP1.out (by omega)
          have := h2.2 (by omega)
          omega)
      have d3 := HB2.out
      clear HF HT HAT HIN HB2 HP0 HP1 HX HR2
      generalize x.p = xp at *
      generalize x.r = xr at *
      go_wp2
      go_ret
      exact ⟨rfl, d3⟩
    by_cases t2 : 32 ≤ x.p
    case pos =>
      obtain rfl := HF.out (fun h => by
        have h2 := (h.2 j hlt).1.2.1
        rw [← HX.out] at h2
        omega)
      have d3 := HB2.out
      clear HF HT HAT HIN HB2 HP0 HP1 HX HR2
      generalize x.p = xp at *
      generalize x.r = xr at *
      go_wp2
      go_ret
      exact ⟨rfl, d3⟩
    by_cases ok : 1 ≤ x.r ∧ x.r < l
    case neg =>
      obtain rfl := HF.out (fun h => ok (by have h2 := (h.2 j hlt).1.2.2; rwa [← HX.out] at h2))
      have H := hide (fun w => within_at x.r l w false (hide (decide_eq_false ok)))
      have d3 := HB2.out
      clear HF HT HAT HIN HB2 HP0 HP1 HX HR2 ok
      go_wp2_with fail
      refine (H.out _).mono ?_
      rintro e w3 ⟨rfl, rfl⟩
      clear H c0 c1
      go_wp2
      go_ret
      exact ⟨rfl, d3⟩
    have H := hide (fun w => within_at x.r l w true (hide (decide_eq_true ok)))
    have HOK := hide ok
    clear ok
    go_wp2_with fail
    refine (H.out _).mono ?_
    rintro e w3 ⟨rfl, rfl⟩
    clear H HR2 c1
    go_wp2
    go_roundw
    case rel =>
      have hp : 0 ≤ x.p := by
        by_cases h0 : j = 0
        · have := HP0.out h0
          omega
        · have h1 := (HAT.out (j - 1) (by omega)).1.1
          rw [← HP1.out (by omega)] at h1
          omega
      refine ⟨j + 1, by omega, by go_num, ⟨x.p, rfl, fun h => absurd h (by omega), fun _ => by rw [HX.out]; rfl⟩, HB2.out, at_more HAT.out ⟨by rw [← HX.out]; exact ⟨hp, by omega, HOK.out⟩, fun h => ?_⟩⟩
      rw [← HX.out, ← HP1.out h]
      omega
    case measure => simp [intOf]; omega
end Go.Proofs.Ytbnlkfcaahgpmaa

/-
  The contracts of package change's Right and of what it calls.
-/
namespace Go.Proofs.Ytbnlkfcaahgpmaa
open Go.RowKit
set_option linter.unusedVariables false

/-- A page and a slot that can be. -/
abbrev placeOk (pg sl : Int) : Prop := 0 ≤ pg ∧ pg ≤ 31 ∧ 0 ≤ sl ∧ sl ≤ 7

set_option maxRecDepth 4000 in
set_option maxHeartbeats 400000 in
theorem place_at (pg sl : Int) (w : World) (r : Bool) (Hr : Hid (decide (placeOk pg sl) = r)) :
    Calls Try.prog 57 #[.int .i64 pg, .int .i64 sl] w fun e w' => e = .returned (.bool r) ∧ w = w' := by
  by_cases h1 : 0 ≤ pg
  · by_cases h2 : pg < 32
    · by_cases h3 : 0 ≤ sl
      · by_cases h4 : sl < 8
        · obtain rfl : r = true := by rw [← Hr.out]; exact decide_eq_true ⟨h1, by omega, h3, by omega⟩
          clear Hr
          go_enter Try.func57, Try.ntmps57
          go_wp2
          go_ret
          exact ⟨rfl, rfl⟩
        · obtain rfl : r = false := by rw [← Hr.out]; exact decide_eq_false (fun h => by omega)
          clear Hr
          go_enter Try.func57, Try.ntmps57
          go_wp2
          go_ret
          exact ⟨rfl, rfl⟩
      · obtain rfl : r = false := by rw [← Hr.out]; exact decide_eq_false (fun h => by omega)
        clear Hr
        go_enter Try.func57, Try.ntmps57
        go_wp2
        go_ret
        exact ⟨rfl, rfl⟩
    · obtain rfl : r = false := by rw [← Hr.out]; exact decide_eq_false (fun h => by omega)
      clear Hr
      go_enter Try.func57, Try.ntmps57
      go_wp2
      go_ret
      exact ⟨rfl, rfl⟩
  · obtain rfl : r = false := by rw [← Hr.out]; exact decide_eq_false (fun h => by omega)
    clear Hr
    go_enter Try.func57, Try.ntmps57
    go_wp2
    go_ret
    exact ⟨rfl, rfl⟩
theorem place_any (pg sl : Int) (w : World) :
    Calls Try.prog 57 #[.int .i64 pg, .int .i64 sl] w fun e w' => e = .returned (.bool (decide (placeOk pg sl))) ∧ w = w' := place_at pg sl w _ (hide rfl)

set_option maxRecDepth 4000 in
set_option maxHeartbeats 400000 in
theorem kind_at (c : Ch) (w : World) (r : Bool) (Hr : Hid (decide c.kindOk = r)) :
    Calls Try.prog 58 #[.agg (chA c)] w fun e w' => e = .returned (.bool r) ∧ Below w.heap.size w w' := by
  have hb0 : Below w.heap.size w (w.alloc (.cells (chA c) 26)) := (Below.refl _ _).alloc (Nat.le_refl _) _
  obtain ⟨a0, a1, a2, a3, a4⟩ := ChAt.all (show ChAt (w.alloc (.cells (chA c) 26)) w.heap.size c from heap_alloc_new w _)
  clear a1 a2
  by_cases k1 : c.k = 1
  · obtain rfl : c.o.toList.isEmpty = r := by
      rw [← Hr.out, Bool.eq_iff_iff, empty_iff, decide_eq_true_eq]
      exact ⟨fun h => .inl ⟨k1, h⟩, fun h => by rcases h with h | h | h <;> omega⟩
    rw [k1] at a0
    clear Hr k1
    go_enter Try.func58, Try.ntmps58
    generalize c.o = o at *
    go_wp2
    go_ret
    exact ⟨rfl, hb0⟩
  · by_cases k3 : c.k = 3
    · obtain rfl : c.n.toList.isEmpty = r := by
        rw [← Hr.out, Bool.eq_iff_iff, empty_iff, decide_eq_true_eq]
        exact ⟨fun h => .inr (.inr ⟨k3, h⟩), fun h => by rcases h with h | h | h <;> omega⟩
      rw [k3] at a0
      clear Hr k1 k3
      go_enter Try.func58, Try.ntmps58
      generalize c.n = n at *
      go_wp2
      go_ret
      exact ⟨rfl, hb0⟩
    · by_cases k2 : c.k = 2
      · obtain rfl : r = true := by rw [← Hr.out]; exact decide_eq_true (.inr (.inl k2))
        rw [k2] at a0
        clear Hr k1 k2 k3
        go_enter Try.func58, Try.ntmps58
        go_wp2
        go_ret
        exact ⟨rfl, hb0⟩
      · obtain rfl : r = false := by
          rw [← Hr.out]
          exact decide_eq_false (fun h => by rcases h with h | h | h <;> omega)
        have j1 : (c.k == 1) = false := by simpa using k1
        have j2 : (c.k == 2) = false := by simpa using k2
        have j3 : (c.k == 3) = false := by simpa using k3
        clear Hr k1 k2 k3
        go_enter Try.func58, Try.ntmps58
        generalize c.k = k at *
        go_wp2
        go_ret
        exact ⟨rfl, hb0⟩
theorem kind_any (c : Ch) (w : World) :
    Calls Try.prog 58 #[.agg (chA c)] w fun e w' => e = .returned (.bool (decide c.kindOk)) ∧ Below w.heap.size w w' := kind_at c w _ (hide rfl)

set_option maxRecDepth 4000 in
set_option maxHeartbeats 400000 in
theorem cright_at (c : Ch) (w : World) (r : Bool) (Hr : Hid (decide c.right = r)) :
    Calls Try.prog 36 #[.agg (chA c)] w fun e w' => e = .returned (.bool r) ∧ Below w.heap.size w w' := by
  have hb0 : Below w.heap.size w (w.alloc (.cells (chA c) 26)) := (Below.refl _ _).alloc (Nat.le_refl _) _
  have hc0 : ChAt (w.alloc (.cells (chA c) 26)) w.heap.size c := heap_alloc_new w _
  obtain ⟨a0, a1, a2, a3, a4⟩ := hc0.all
  have HC := hide hc0
  clear a0 hc0
  by_cases hpl : placeOk c.pg c.sl
  · have HP := hide (fun w => place_at c.pg c.sl w true (hide (decide_eq_true hpl)))
    by_cases h1 : (c.o.size : Int) ≤ 20
    · by_cases h2 : (c.n.size : Int) ≤ 20
      · have HK := hide (fun w => kind_at c w r (hide (by
          rw [← Hr.out]
          exact decide_eq_decide.2 ⟨fun h => ⟨⟨hpl.1, hpl.2.1, hpl.2.2.1, hpl.2.2.2, by omega, by omega⟩, h⟩, fun h => h.2⟩)))
        clear Hr hpl
        go_enter Try.func36, Try.ntmps36
        go_wp2_with fail
        refine (HP.out _).mono ?_
        rintro e w1 ⟨rfl, rfl⟩
        go_wp2_with (refine wpList_load_at rfl 26 (.tmp 1) rfl w.heap.size rfl (chA c) HC.out _ Try.underlying26 rfl infoCh ?_)
        refine (HK.out _).mono ?_
        rintro e w2 ⟨rfl, hb2⟩
        have d2 := hb0.trans (hb2.mono hb0.size)
        clear hb2 HC HK HP a1 a2 a3 a4 hb0 h1 h2
        go_wp2
        go_ret
        exact ⟨rfl, d2⟩
      · obtain rfl : r = false := by rw [← Hr.out]; exact decide_eq_false (fun h => by have := h.1; omega)
        clear Hr hpl
        go_enter Try.func36, Try.ntmps36
        go_wp2_with fail
        refine (HP.out _).mono ?_
        rintro e w1 ⟨rfl, rfl⟩
        clear HP
        go_wp2
        go_ret
        exact ⟨rfl, hb0⟩
    · obtain rfl : r = false := by rw [← Hr.out]; exact decide_eq_false (fun h => by have := h.1; omega)
      clear Hr hpl
      go_enter Try.func36, Try.ntmps36
      go_wp2_with fail
      refine (HP.out _).mono ?_
      rintro e w1 ⟨rfl, rfl⟩
      clear HP
      go_wp2
      go_ret
      exact ⟨rfl, hb0⟩
  · have HP := hide (fun w => place_at c.pg c.sl w false (hide (decide_eq_false hpl)))
    obtain rfl : r = false := by rw [← Hr.out]; exact decide_eq_false (fun h => hpl ⟨h.1.1, h.1.2.1, h.1.2.2.1, h.1.2.2.2.1⟩)
    clear Hr hpl
    go_enter Try.func36, Try.ntmps36
    go_wp2_with fail
    refine (HP.out _).mono ?_
    rintro e w1 ⟨rfl, rfl⟩
    clear HP
    go_wp2
    go_ret
    exact ⟨rfl, hb0⟩

/-- THE CONTRACT. -/
theorem cright_any (c : Ch) (w : World) :
    Calls Try.prog 36 #[.agg (chA c)] w fun e w' => e = .returned (.bool (decide c.right)) ∧ Below w.heap.size w w' := cright_at c w _ (hide rfl)
end Go.Proofs.Ytbnlkfcaahgpmaa

/-
  What a record's kind uses: plain facts.
-/
namespace Go.Proofs.Ytbnlkfcaahgpmaa
open Go.RowKit
set_option linter.unusedVariables false

def Rec.uses (r : Rec) : Prop := 1 ≤ r.k ∧ r.k ≤ 8 ∧ (r.k ≤ 6 → 1 ≤ r.t ∧ r.t ≤ 1048575 ∧ r.p < r.l) ∧ (r.k ≤ 2 → r.c.right) ∧ (r.k = 2 → r.n < r.l) ∧ (r.k = 6 → 1 ≤ r.s ∧ r.s ≤ 8) ∧ (r.k = 8 → r.rows)
/-- A record with nothing in it but what its kind uses. -/
def Rec.used (r : Rec) : Rec := ⟨r.k, r.l, if r.k ≤ 6 then r.t else 0, if r.k ≤ 6 then r.p else 0, if r.k ≤ 2 then r.c else Ch.zero, if r.k = 2 then r.n else 0, if r.k = 6 then r.s else 0, if r.k = 8 then r.b else 0, if r.k = 8 then r.ts else [], if r.k = 8 then r.ds else []⟩
theorem right_uses {r : Rec} : r.right ↔ 1 ≤ r.l ∧ r.l ≤ maxP ∧ r.uses ∧ r = r.used := by
  constructor
  · intro h
    refine ⟨h.l1, h.lm, ⟨h.k1, h.k8, h.own, h.ch, h.next, h.save, h.check⟩, ?_⟩
    have h1 := h.none
    have h2 := h.noch
    have h3 := h.nonext
    have h4 := h.nosave
    have h5 := h.nocheck
    obtain ⟨k, l, t, p, c, n, s, b, ts, ds⟩ := r
    simp only at h1 h2 h3 h4 h5
    unfold Rec.used
    simp only [Rec.mk.injEq, true_and]
    refine ⟨?_, ?_, ?_, ?_, ?_, ?_, ?_, ?_⟩
    · by_cases hk : k ≤ 6
      · rw [if_pos hk]
      · rw [if_neg hk]
        exact (h1 (by omega)).1
    · by_cases hk : k ≤ 6
      · rw [if_pos hk]
      · rw [if_neg hk]
        exact (h1 (by omega)).2
    · by_cases hk : k ≤ 2
      · rw [if_pos hk]
      · rw [if_neg hk]
        exact h2 (by omega)
    · by_cases hk : k = 2
      · rw [if_pos hk]
      · rw [if_neg hk]
        exact h3 hk
    · by_cases hk : k = 6
      · rw [if_pos hk]
      · rw [if_neg hk]
        exact h4 hk
    · by_cases hk : k = 8
      · rw [if_pos hk]
      · rw [if_neg hk]
        exact (h5 hk).1
    · by_cases hk : k = 8
      · rw [if_pos hk]
      · rw [if_neg hk]
        exact (h5 hk).2.1
    · by_cases hk : k = 8
      · rw [if_pos hk]
      · rw [if_neg hk]
        exact (h5 hk).2.2
  · rintro ⟨h1, h2, ⟨u1, u2, u3, u4, u5, u6, u7⟩, he⟩
    refine ⟨u1, u2, h1, h2, u3, fun hk => ?_, u4, fun hk => ?_, u5, fun hk => ?_, u6, fun hk => ?_, u7, fun hk => ?_⟩
    · constructor
      · rw [he]
        show (if r.k ≤ 6 then r.t else 0) = 0
        rw [if_neg (by omega)]
      · rw [he]
        show (if r.k ≤ 6 then r.p else 0) = 0
        rw [if_neg (by omega)]
    · rw [he]
      show (if r.k ≤ 2 then r.c else Ch.zero) = Ch.zero
      rw [if_neg (by omega)]
    · rw [he]
      show (if r.k = 2 then r.n else 0) = 0
      rw [if_neg hk]
    · rw [he]
      show (if r.k = 6 then r.s else 0) = 0
      rw [if_neg hk]
    · refine ⟨?_, ?_, ?_⟩
      · rw [he]
        show (if r.k = 8 then r.b else 0) = 0
        rw [if_neg hk]
      · rw [he]
        show (if r.k = 8 then r.ts else []) = []
        rw [if_neg hk]
      · rw [he]
        show (if r.k = 8 then r.ds else []) = []
        rw [if_neg hk]
end Go.Proofs.Ytbnlkfcaahgpmaa
