/-
  Texts that lean on one another, one behind the other: each opens with its own remark.
-/
import Derived.Test.YtfeghhgniahfkaaRows
import Derived.Test.YtfeghhgniahfkaaProg
import Derived.Deep.MidRow
import Derived.Deep.RegionHeld3
import Derived.Test.YtfeghhgniahfkaaK03
import Derived.Test.YtfeghhgniahfkaaK00
import Derived.Test.YtfeghhgniahfkaaK02
import Derived.Test.YtfeghhgniahfkaaK01

/-
  A list of structs that comes in as an argument, opened. Of no program.
-/
namespace Go.Proofs.Ytfeghhgniahfkaa
open Go.ChangeShapes Go.WideShapes Go.ChangeAt Go.RowKit Go.Deep Go.Joins
set_option linter.unusedVariables false

theorem u64_nat {i : Int} (h : (Lit.int .u64 i).wf = true) : ∃ n : Nat, i = (n : Int) := by
  have := (bounds_u64 h).1
  exact ⟨i.toNat, by omega⟩

section
variable {H : Type} {enc : TypeId × Value → H} {W : World}

theorem trod_st3 {P : Program} {t : TypeId} {f0 f1 f2 : Field} {fuel : Nat} {cs : List Value} {x : DataW H × List MemPlace} (ht : P.underlying t = some (.struct #[f0, f1, f2])) (h : DataW.trod enc P W 0 (fun _ => true) true fuel t cs = some x) :
    ∃ y0 y1 y2 n, cs.length = P.cellsOf t ∧ DataW.trod enc P W 0 (fun _ => true) true n f0.type ((cs.drop f0.offset).take (P.cellsOf f0.type)) = some y0 ∧ DataW.trod enc P W 0 (fun _ => true) true n f1.type ((cs.drop f1.offset).take (P.cellsOf f1.type)) = some y1 ∧ DataW.trod enc P W 0 (fun _ => true) true n f2.type ((cs.drop f2.offset).take (P.cellsOf f2.type)) = some y2 := by
  obtain ⟨xs, n, _, rfl, hl, hlen, hf⟩ := DataW.trod_struct ht h
  match xs, hlen with
  | [y0, y1, y2], _ => exact ⟨y0, y1, y2, n, hl, by simpa using hf 0 f0 rfl, by simpa using hf 1 f1 rfl, by simpa using hf 2 f2 rfl⟩

theorem trod_st2 {P : Program} {t : TypeId} {f0 f1 : Field} {fuel : Nat} {cs : List Value} {x : DataW H × List MemPlace} (ht : P.underlying t = some (.struct #[f0, f1])) (h : DataW.trod enc P W 0 (fun _ => true) true fuel t cs = some x) :
    ∃ y0 y1 n, cs.length = P.cellsOf t ∧ DataW.trod enc P W 0 (fun _ => true) true n f0.type ((cs.drop f0.offset).take (P.cellsOf f0.type)) = some y0 ∧ DataW.trod enc P W 0 (fun _ => true) true n f1.type ((cs.drop f1.offset).take (P.cellsOf f1.type)) = some y1 := by
  obtain ⟨xs, n, _, rfl, hl, hlen, hf⟩ := DataW.trod_struct ht h
  match xs, hlen with
  | [y0, y1], _ => exact ⟨y0, y1, n, hl, by simpa using hf 0 f0 rfl, by simpa using hf 1 f1 rfl⟩

theorem trod_st5 {P : Program} {t : TypeId} {f0 f1 f2 f3 f4 : Field} {fuel : Nat} {cs : List Value} {x : DataW H × List MemPlace} (ht : P.underlying t = some (.struct #[f0, f1, f2, f3, f4])) (h : DataW.trod enc P W 0 (fun _ => true) true fuel t cs = some x) :
    ∃ y0 y1 y2 y3 y4 n, cs.length = P.cellsOf t ∧ DataW.trod enc P W 0 (fun _ => true) true n f0.type ((cs.drop f0.offset).take (P.cellsOf f0.type)) = some y0 ∧ DataW.trod enc P W 0 (fun _ => true) true n f1.type ((cs.drop f1.offset).take (P.cellsOf f1.type)) = some y1 ∧ DataW.trod enc P W 0 (fun _ => true) true n f2.type ((cs.drop f2.offset).take (P.cellsOf f2.type)) = some y2 ∧ DataW.trod enc P W 0 (fun _ => true) true n f3.type ((cs.drop f3.offset).take (P.cellsOf f3.type)) = some y3 ∧ DataW.trod enc P W 0 (fun _ => true) true n f4.type ((cs.drop f4.offset).take (P.cellsOf f4.type)) = some y4 := by
  obtain ⟨xs, n, _, rfl, hl, hlen, hf⟩ := DataW.trod_struct ht h
  match xs, hlen with
  | [y0, y1, y2, y3, y4], _ => exact ⟨y0, y1, y2, y3, y4, n, hl, by simpa using hf 0 f0 rfl, by simpa using hf 1 f1 rfl, by simpa using hf 2 f2 rfl, by simpa using hf 3 f3 rfl, by simpa using hf 4 f4 rfl⟩

theorem trod_st10 {P : Program} {t : TypeId} {f0 f1 f2 f3 f4 f5 f6 f7 f8 f9 : Field} {fuel : Nat} {cs : List Value} {x : DataW H × List MemPlace} (ht : P.underlying t = some (.struct #[f0, f1, f2, f3, f4, f5, f6, f7, f8, f9])) (h : DataW.trod enc P W 0 (fun _ => true) true fuel t cs = some x) :
    ∃ y0 y1 y2 y3 y4 y5 y6 y7 y8 y9 n, cs.length = P.cellsOf t ∧ DataW.trod enc P W 0 (fun _ => true) true n f0.type ((cs.drop f0.offset).take (P.cellsOf f0.type)) = some y0 ∧ DataW.trod enc P W 0 (fun _ => true) true n f1.type ((cs.drop f1.offset).take (P.cellsOf f1.type)) = some y1 ∧ DataW.trod enc P W 0 (fun _ => true) true n f2.type ((cs.drop f2.offset).take (P.cellsOf f2.type)) = some y2 ∧ DataW.trod enc P W 0 (fun _ => true) true n f3.type ((cs.drop f3.offset).take (P.cellsOf f3.type)) = some y3 ∧ DataW.trod enc P W 0 (fun _ => true) true n f4.type ((cs.drop f4.offset).take (P.cellsOf f4.type)) = some y4 ∧ DataW.trod enc P W 0 (fun _ => true) true n f5.type ((cs.drop f5.offset).take (P.cellsOf f5.type)) = some y5 ∧ DataW.trod enc P W 0 (fun _ => true) true n f6.type ((cs.drop f6.offset).take (P.cellsOf f6.type)) = some y6 ∧ DataW.trod enc P W 0 (fun _ => true) true n f7.type ((cs.drop f7.offset).take (P.cellsOf f7.type)) = some y7 ∧ DataW.trod enc P W 0 (fun _ => true) true n f8.type ((cs.drop f8.offset).take (P.cellsOf f8.type)) = some y8 ∧ DataW.trod enc P W 0 (fun _ => true) true n f9.type ((cs.drop f9.offset).take (P.cellsOf f9.type)) = some y9 := by
  obtain ⟨xs, n, _, rfl, hl, hlen, hf⟩ := DataW.trod_struct ht h
  match xs, hlen with
  | [y0, y1, y2, y3, y4, y5, y6, y7, y8, y9], _ => exact ⟨y0, y1, y2, y3, y4, y5, y6, y7, y8, y9, n, hl, by simpa using hf 0 f0 rfl, by simpa using hf 1 f1 rfl, by simpa using hf 2 f2 rfl, by simpa using hf 3 f3 rfl, by simpa using hf 4 f4 rfl, by simpa using hf 5 f5 rfl, by simpa using hf 6 f6 rfl, by simpa using hf 7 f7 rfl, by simpa using hf 8 f8 rfl, by simpa using hf 9 f9 rfl⟩

theorem op_rows {α : Type} (f : α → Array Value) (z : α) (G : α → Prop) {P : Program} {t e : TypeId} {sz fuel : Nat} {c : Value} {x : DataW H × List MemPlace} (hel : ∀ n cs y, DataW.trod enc P W 0 (fun _ => true) true n e cs = some y → ∃ x, cs = (f x).toList ∧ G x)
    (ht : P.underlying t = some (.slice e)) (hsz : P.cellsOf e = sz) (hfz : ∀ x, (f x).size = sz) (hpos : 0 < sz) (h : DataW.trod enc P W 0 (fun _ => true) true fuel t [c] = some x) : ∃ xs, RowsIn f z sz W c xs ∧ xs.length ≤ maxLen ∧ ∀ x ∈ xs, G x := by
  rcases open_slice ht h with ⟨hcs, _⟩ | ⟨a, len, cap, m, n, D, Pl, hcs, _, hl, hm, hmm, _, hall⟩
  · simp only [List.cons.injEq, and_true] at hcs
    exact ⟨[], ⟨none, 0, hcs, fun h => absurd h (by simp)⟩, Nat.zero_le _, fun x hx => nomatch hx⟩
  · simp only [List.cons.injEq, and_true] at hcs
    subst hcs
    simp only [if_true] at hmm
    subst hmm
    have : Nonempty α := ⟨z⟩
    obtain ⟨g, hg⟩ := @choose_lt α ⟨z⟩ m (fun i y => G y ∧ ∀ k, k < sz → W.cell? (a.add (i * sz + k)) = (f y).toList[k]?) (fun i hi => by
      obtain ⟨cs', h1, h2⟩ := hall i hi
      obtain ⟨y, rfl, hG⟩ := hel _ _ _ h2
      rw [hsz] at h1
      obtain ⟨_, _, h3⟩ := World.cells?_some h1
      refine ⟨y, hG, fun k hk => ?_⟩
      rw [← h3 k hk, Addr.add_add])
    have hL : ((List.range len).map g).length = len := by simp
    refine ⟨(List.range len).map g, ⟨some a, m, by rw [hL], fun hp => ?_⟩, by rw [hL]; omega, fun x hx => by
      obtain ⟨i, hi, rfl⟩ := List.mem_map.1 hx
      exact (hg i (by have := List.mem_range.1 hi; omega)).1⟩
    rw [hL] at hp
    have hf0 : ∀ y k, k < sz → ∃ v, (f y).toList[k]? = some v := fun y k hk => ⟨_, List.getElem?_eq_getElem (by rw [Array.length_toList, hfz]; exact hk)⟩
    have hc0 := (hg 0 (by omega)).2 0 hpos
    obtain ⟨v0, hv0⟩ := hf0 (g 0) 0 hpos
    rw [hv0] at hc0
    obtain ⟨b, off, spot⟩ := a
    have hspot : spot = none := by simpa [Addr.add] using World.cell?_spot hc0
    subst hspot
    refine ⟨b, off, rfl, ?_, fun i hi j v hv => ?_⟩
    · have := World.block_lt_of_cell? W _ hc0
      simpa [Addr.add] using this
    · rw [hL] at hi
      have hget : ((List.range len).map g).getD i z = g i := by
        rw [List.getD_eq_getElem?_getD, List.getElem?_map, List.getElem?_range hi]
        rfl
      rw [hget] at hv
      have hj : j < sz := by
        have := (List.getElem?_eq_some_iff.1 hv).1
        rw [Array.length_toList, hfz] at this
        exact this
      have := (hg i (by omega)).2 j hj
      rw [Addr.add_lit, hv] at this
      rw [← this, Nat.add_assoc]

/-- A slice's length is within its capacity. -/
theorem op_cap {P : Program} {t e : TypeId} {c : Value} {fuel : Nat} {x : DataW H × List MemPlace} (ht : P.underlying t = some (.slice e)) (h : DataW.trod enc P W 0 (fun _ => true) true fuel t [c] = some x) {a : Option Addr} {len cap : Nat} (hc : c = .slice a len cap) : len ≤ cap ∧ (a = none → cap = 0) := by
  rcases open_slice ht h with ⟨hcs, _⟩ | ⟨a', len', cap', m, n, D, Pl, hcs, _, hl, hm, hmm, _, hall⟩
  · simp only [List.cons.injEq, and_true] at hcs
    rw [hc] at hcs
    injection hcs with h1 h2 h3
    subst h1 h2 h3
    exact ⟨Nat.le_refl _, fun _ => rfl⟩
  · simp only [List.cons.injEq, and_true] at hcs
    rw [hc] at hcs
    injection hcs with h1 h2 h3
    subst h1 h2 h3
    simp only [if_true] at hmm
    exact ⟨by omega, fun h => (nomatch h)⟩
end
end Go.Proofs.Ytfeghhgniahfkaa

/-
  The strokes that come in, opened.
-/
namespace Go.Proofs.Ytfeghhgniahfkaa
open Go.ChangeShapes Go.WideShapes Go.ChangeAt Go.RowKit Go.Deep Go.Joins
set_option linter.unusedVariables false

set_option maxRecDepth 40000 in
/-- A stroke. -/
structure Sk where
  pg : Int
  sl : Int
  ma : Int
  de : Bool
  v : ByteArray
  me : Bool
set_option maxRecDepth 40000 in
def skA (c : Sk) : Array Value := #[.int .i64 c.pg, .int .i64 c.sl, .int .i64 c.ma, .bool c.de, .string c.v, .bool c.me]
set_option maxRecDepth 40000 in
def Sk.zero : Sk := ⟨0, 0, 0, false, ⟨#[]⟩, false⟩
set_option maxRecDepth 40000 in
def Sk.fits (c : Sk) : Prop := (Lit.int .i64 c.pg).wf = true ∧ (Lit.int .i64 c.sl).wf = true ∧ (Lit.int .i64 c.ma).wf = true ∧ c.v.size ≤ maxLen
section
variable {H : Type} {enc : TypeId × Value → H} {W : World}

set_option maxRecDepth 40000 in
theorem trod_st6 {P : Program} {t : TypeId} {f0 f1 f2 f3 f4 f5 : Field} {fuel : Nat} {cs : List Value} {x : DataW H × List MemPlace} (ht : P.underlying t = some (.struct #[f0, f1, f2, f3, f4, f5])) (h : DataW.trod enc P W 0 (fun _ => true) true fuel t cs = some x) :
    ∃ y0 y1 y2 y3 y4 y5 n, cs.length = P.cellsOf t ∧ DataW.trod enc P W 0 (fun _ => true) true n f0.type ((cs.drop f0.offset).take (P.cellsOf f0.type)) = some y0 ∧ DataW.trod enc P W 0 (fun _ => true) true n f1.type ((cs.drop f1.offset).take (P.cellsOf f1.type)) = some y1 ∧ DataW.trod enc P W 0 (fun _ => true) true n f2.type ((cs.drop f2.offset).take (P.cellsOf f2.type)) = some y2 ∧ DataW.trod enc P W 0 (fun _ => true) true n f3.type ((cs.drop f3.offset).take (P.cellsOf f3.type)) = some y3 ∧ DataW.trod enc P W 0 (fun _ => true) true n f4.type ((cs.drop f4.offset).take (P.cellsOf f4.type)) = some y4 ∧ DataW.trod enc P W 0 (fun _ => true) true n f5.type ((cs.drop f5.offset).take (P.cellsOf f5.type)) = some y5 := by
  obtain ⟨xs, n, _, rfl, hl, hlen, hf⟩ := DataW.trod_struct ht h
  match xs, hlen with
  | [y0, y1, y2, y3, y4, y5], _ => exact ⟨y0, y1, y2, y3, y4, y5, n, hl, by simpa using hf 0 f0 rfl, by simpa using hf 1 f1 rfl, by simpa using hf 2 f2 rfl, by simpa using hf 3 f3 rfl, by simpa using hf 4 f4 rfl, by simpa using hf 5 f5 rfl⟩
set_option maxRecDepth 40000 in
theorem elem_sk (n : Nat) (cs : List Value) (y : DataW H × List MemPlace) (h : DataW.trod enc Try.prog W 0 (fun _ => true) true n 55 cs = some y) : ∃ c : Sk, cs = (skA c).toList ∧ c.fits := by
  obtain ⟨y0, y1, y2, y3, y4, y5, m, hl, h0, h1, h2, h3, h4, h5⟩ := trod_st6 Try.underlying55 h
  have hC : Try.prog.cellsOf 55 = 6 := by kernel_rfl
  rw [hC] at hl
  match cs, hl with
  | [c0, c1, c2, c3, c4, c5], _ =>
    have e0 : Try.prog.cellsOf 3 = 1 := by kernel_rfl
    have e1 : Try.prog.cellsOf 9 = 1 := by kernel_rfl
    have e2 : Try.prog.cellsOf 4 = 1 := by kernel_rfl
    simp only [e0, e1, e2, List.drop_zero, List.drop_succ_cons, List.take_succ_cons, List.take_zero] at h0 h1 h2 h3 h4 h5
    obtain ⟨i0, g0, _, w0⟩ := DataW.trod_int Try.underlying3 h0
    obtain ⟨i1, g1, _, w1⟩ := DataW.trod_int Try.underlying3 h1
    obtain ⟨i2, g2, _, w2⟩ := DataW.trod_int Try.underlying3 h2
    obtain ⟨i3, g3, _⟩ := DataW.trod_bool Try.underlying4 h3
    obtain ⟨i4, g4, _, w4⟩ := DataW.trod_string Try.underlying9 h4
    obtain ⟨i5, g5, _⟩ := DataW.trod_bool Try.underlying4 h5
    simp only [List.cons.injEq, and_true] at g0 g1 g2 g3 g4 g5
    subst g0 g1 g2 g3 g4 g5
    exact ⟨⟨i0, i1, i2, i3, i4, i5⟩, rfl, w0, w1, w2, w4⟩
set_option maxRecDepth 40000 in
theorem op_capT {t e : TypeId} {fuel : Nat} {a : Option Addr} {len cap : Nat} {x : DataW H × List MemPlace} (ht : Try.prog.underlying t = some (.slice e)) (h : DataW.trod enc Try.prog W 0 (fun _ => true) true fuel t [.slice a len cap] = some x) : ∀ a' l' c', Value.slice a len cap = .slice a' l' c' → l' ≤ c' := by
  intro a' l' c' e'
  injection e' with e1 e2 e3
  subst e1 e2 e3
  rcases open_slice ht h with ⟨hcs, _⟩ | ⟨a, l, c, m, n, D, Pl, hcs, _, hl, hm, _⟩
  · simp only [List.cons.injEq, and_true, Value.slice.injEq] at hcs
    omega
  · simp only [List.cons.injEq, and_true, Value.slice.injEq] at hcs
    omega
set_option maxRecDepth 40000 in
theorem op_sks {v : Value} {d : DataW H} {p : List MemPlace} {r : Reach} {b0 : Nat} (hv : Value.okWide Try.prog W r b0 53 v) (h : DataW.Trod enc Try.prog W 0 (fun _ => true) true 53 v d p) :
    ∃ cs : List Sk, RowsIn skA Sk.zero 6 W v cs ∧ cs.length ≤ maxLen ∧ (∀ c ∈ cs, c.fits) ∧ ∀ a len cap, v = .slice a len cap → len ≤ cap := by
  obtain ⟨fuel, hf⟩ := h
  obtain ⟨a, len, cap, rfl⟩ := okWide_slice Try.underlying53 hv
  have hf2 : DataW.trod enc Try.prog W 0 (fun _ => true) true fuel 53 [.slice a len cap] = some (d, p) := hf
  obtain ⟨cs, h1, h2, h3⟩ := op_rows (sz := 6) skA Sk.zero Sk.fits elem_sk Try.underlying53 (by kernel_rfl) (fun _ => rfl) (by decide) hf2
  exact ⟨cs, h1, h2, h3, op_capT Try.underlying53 hf2⟩
end
set_option maxRecDepth 40000 in
theorem infoSk : (Try.prog.info? 55).map (·.size) = some 6 := by kernel_rfl
set_option maxRecDepth 40000 in
theorem load_sk (y : World) (b k : Nat) (c : Sk) (h : y.rangeAt b k (skA c).toList) : (Instr.loadAt 55 (.pointer (some ⟨b, k, none⟩))).run Try.prog y = .ok (.agg (skA c)) y := by
  have h1 := run_loadAt_mid (P := Try.prog) y b k 55 (skA c).toList _ h Try.underlying55 rfl (by rw [infoSk]; rfl)
  rwa [Array.toArray_toList] at h1
set_option maxRecDepth 40000 in
structure ScrT (w0 : World) (v : Value) (cs : List Sk) : Prop where
  rows : RowsIn skA Sk.zero 6 w0 v cs
  fits : ∀ c ∈ cs, c.fits
  cap : ∀ a len cap, v = .slice a len cap → len ≤ cap
set_option maxRecDepth 40000 in
theorem ScrT.at {w0 x : World} {a : Option Addr} {len cap : Nat} {cs : List Sk} (h : ScrT w0 (.slice a len cap) cs) (p : Below w0.heap.size w0 x) {j : Nat} (hj : j < cs.length) : ∃ b off, a = some ⟨b, off, none⟩ ∧ ∃ c : Sk, c.fits ∧ (Instr.loadAt 55 (.pointer (some ⟨b, off + j * 6, none⟩))).run Try.prog x = .ok (.agg (skA c)) x := by
  obtain ⟨a', cap', e, h2⟩ := h.rows
  injection e with e1 e2 e3
  subst e1
  obtain ⟨b, off, h3, h4, h5⟩ := h2 (by omega)
  have hm : cs.getD j Sk.zero ∈ cs := by
    rw [List.getD_eq_getElem?_getD, List.getElem?_eq_getElem hj]
    exact List.getElem_mem hj
  exact ⟨b, off, h3, cs.getD j Sk.zero, h.fits _ hm, load_sk x b _ _ (rangeAt_below (h5 j hj) p h4)⟩
end Go.Proofs.Ytfeghhgniahfkaa

/-
  A page that comes in by value, opened.
-/
namespace Go.Proofs.Ytfeghhgniahfkaa
open Go.ChangeShapes Go.WideShapes Go.ChangeAt Go.RowKit Go.Deep Go.Joins
set_option linter.unusedVariables false

section
variable {H : Type} {enc : TypeId × Value → H} {W : World}

set_option maxRecDepth 40000 in
theorem cell_open (n : Nat) (c0 c1 : Value) (y : Option (DataW H × List MemPlace)) (hy : y.isSome = true) (h : DataW.trod enc Try.prog W 0 (fun _ => true) true n 32 [c0, c1] = y) : ∃ (u : Bool) (s : ByteArray), c0 = .bool u ∧ c1 = .string s ∧ s.size ≤ maxLen := by
  obtain ⟨y, rfl⟩ := Option.isSome_iff_exists.1 hy
  obtain ⟨y0, y1, m, _, _, h0, h1⟩ := trod_struct2 Try.underlying32 h
  have e0 : Try.prog.cellsOf 4 = 1 := by kernel_rfl
  have e1 : Try.prog.cellsOf 9 = 1 := by kernel_rfl
  simp only [e0, e1, List.drop_zero, List.drop_succ_cons, List.take_succ_cons, List.take_zero] at h0 h1
  obtain ⟨b, hb, _⟩ := DataW.trod_bool Try.underlying4 h0
  obtain ⟨s, hs, _, hz⟩ := DataW.trod_string Try.underlying9 h1
  simp only [List.cons.injEq, and_true] at hb hs
  exact ⟨b, s, hb, hs, hz⟩

set_option maxRecDepth 40000 in
/-- The page of given cells. -/
def mkPg (l : Nat) (u0 u1 u2 u3 u4 u5 u6 u7 : Bool) (s0 s1 s2 s3 s4 s5 s6 s7 : ByteArray) : Pg :=
  ⟨l, fun i => match i with | 0 => u0 | 1 => u1 | 2 => u2 | 3 => u3 | 4 => u4 | 5 => u5 | 6 => u6 | _ => u7, fun i => match i with | 0 => s0 | 1 => s1 | 2 => s2 | 3 => s3 | 4 => s4 | 5 => s5 | 6 => s6 | _ => s7⟩

set_option maxRecDepth 40000 in
theorem op_page {v : Value} {d : DataW H} {p : List MemPlace} {r : Reach} {b0 : Nat} (hv : Value.okWide Try.prog W r b0 35 v) (h : DataW.Trod enc Try.prog W 0 (fun _ => true) true 35 v d p) :
    ∃ q : Pg, v = .agg (pgA q) ∧ q.fits := by
  obtain ⟨cs, rfl, hsz⟩ := okWide_struct Try.underlying35 hv
  have hC : Try.prog.cellsOf 35 = 17 := by kernel_rfl
  rw [hC] at hsz
  obtain ⟨fuel, hf⟩ := h
  obtain ⟨l⟩ := cs
  have hl : l.length = 17 := hsz
  match l, hl with
  | [c0, c1, c2, c3, c4, c5, c6, c7, c8, c9, c10, c11, c12, c13, c14, c15, c16], _ =>
    have ec : (Value.agg ⟨[c0, c1, c2, c3, c4, c5, c6, c7, c8, c9, c10, c11, c12, c13, c14, c15, c16]⟩).cells.toList = [c0, c1, c2, c3, c4, c5, c6, c7, c8, c9, c10, c11, c12, c13, c14, c15, c16] := rfl
    obtain ⟨y0, y1, m, _, _, h0, h1⟩ := trod_struct2 Try.underlying35 hf
    have e0 : Try.prog.cellsOf 30 = 1 := by kernel_rfl
    have e1 : Try.prog.cellsOf 33 = 16 := by kernel_rfl
    have e2 : Try.prog.cellsOf 32 = 2 := by kernel_rfl
    simp only [ec, e0, e1, List.drop_zero, List.drop_succ_cons, List.take_succ_cons, List.take_zero] at h0 h1
    obtain ⟨j, hj, _, hw⟩ := DataW.trod_int Try.underlying30 h0
    obtain ⟨xs, m2, _, _, _, hx, hall⟩ := DataW.trod_array Try.underlying33 h1
    simp only [e2] at hall
    have ho : ∀ i, i < 8 → (xs[i]?).isSome = true := fun i hi => by rw [List.getElem?_eq_getElem (by omega)]; rfl
    have a0 := hall 0 (by omega)
    have a1 := hall 1 (by omega)
    have a2 := hall 2 (by omega)
    have a3 := hall 3 (by omega)
    have a4 := hall 4 (by omega)
    have a5 := hall 5 (by omega)
    have a6 := hall 6 (by omega)
    have a7 := hall 7 (by omega)
    simp only [List.drop_zero, List.drop_succ_cons, List.take_succ_cons, List.take_zero, Nat.zero_mul, Nat.one_mul, Nat.reduceMul] at a0 a1 a2 a3 a4 a5 a6 a7
    obtain ⟨u0, s0, rfl, rfl, z0⟩ := cell_open _ _ _ _ (ho 0 (by omega)) a0
    obtain ⟨u1, s1, rfl, rfl, z1⟩ := cell_open _ _ _ _ (ho 1 (by omega)) a1
    obtain ⟨u2, s2, rfl, rfl, z2⟩ := cell_open _ _ _ _ (ho 2 (by omega)) a2
    obtain ⟨u3, s3, rfl, rfl, z3⟩ := cell_open _ _ _ _ (ho 3 (by omega)) a3
    obtain ⟨u4, s4, rfl, rfl, z4⟩ := cell_open _ _ _ _ (ho 4 (by omega)) a4
    obtain ⟨u5, s5, rfl, rfl, z5⟩ := cell_open _ _ _ _ (ho 5 (by omega)) a5
    obtain ⟨u6, s6, rfl, rfl, z6⟩ := cell_open _ _ _ _ (ho 6 (by omega)) a6
    obtain ⟨u7, s7, rfl, rfl, z7⟩ := cell_open _ _ _ _ (ho 7 (by omega)) a7
    simp only [List.cons.injEq, and_true] at hj
    subst hj
    have hb := bounds_u64 hw
    have hn : ((j.toNat : Nat) : Int) = j := Int.toNat_of_nonneg hb.1
    refine ⟨mkPg j.toNat u0 u1 u2 u3 u4 u5 u6 u7 s0 s1 s2 s3 s4 s5 s6 s7, ?_, ?_, fun i hi => ?_⟩
    · unfold pgA mkPg
      simp only [hn]
    · show j.toNat < _
      omega
    · rcases lt8 hi with rfl | rfl | rfl | rfl | rfl | rfl | rfl | rfl <;> assumption
end
end Go.Proofs.Ytfeghhgniahfkaa

/-
  The calls of a script of a store, in lists that come in, opened.
-/
namespace Go.Proofs.Ytfeghhgniahfkaa
open Go.ChangeShapes Go.WideShapes Go.ChangeAt Go.RowKit Go.Deep Go.Joins
set_option linter.unusedVariables false

set_option maxRecDepth 40000 in
/-- A call of a script. -/
structure Oc where
  k : Int
  n : Int
  i : Int
  m : Int
  p : Pg
set_option maxRecDepth 40000 in
def ocA (c : Oc) : Array Value := #[.int .i64 c.k, .int .i64 c.n, .int .i64 c.i, .int .i64 c.m, .int .u64 c.p.l, .bool (c.p.u 0), .string (c.p.s 0), .bool (c.p.u 1), .string (c.p.s 1), .bool (c.p.u 2), .string (c.p.s 2), .bool (c.p.u 3), .string (c.p.s 3), .bool (c.p.u 4), .string (c.p.s 4), .bool (c.p.u 5), .string (c.p.s 5), .bool (c.p.u 6), .string (c.p.s 6), .bool (c.p.u 7), .string (c.p.s 7)]
set_option maxRecDepth 40000 in
def Oc.zero : Oc := ⟨0, 0, 0, 0, Pg.zero⟩
set_option maxRecDepth 40000 in
def Oc.fits (c : Oc) : Prop := (Lit.int .i64 c.k).wf = true ∧ (Lit.int .i64 c.n).wf = true ∧ (Lit.int .i64 c.i).wf = true ∧ (Lit.int .i64 c.m).wf = true ∧ c.p.fits
section
variable {H : Type} {enc : TypeId × Value → H} {W : World}

set_option maxRecDepth 40000 in
theorem elem_page (n : Nat) (l : List Value) (y : DataW H × List MemPlace) (hl : l.length = 17) (hf : DataW.trod enc Try.prog W 0 (fun _ => true) true n 35 l = some y) : ∃ q : Pg, l = (pgA q).toList ∧ q.fits := by
  match l, hl with
  | [c0, c1, c2, c3, c4, c5, c6, c7, c8, c9, c10, c11, c12, c13, c14, c15, c16], _ =>
    obtain ⟨y0, y1, m, _, _, h0, h1⟩ := trod_struct2 Try.underlying35 hf
    have e0 : Try.prog.cellsOf 30 = 1 := by kernel_rfl
    have e1 : Try.prog.cellsOf 33 = 16 := by kernel_rfl
    have e2 : Try.prog.cellsOf 32 = 2 := by kernel_rfl
    simp only [e0, e1, List.drop_zero, List.drop_succ_cons, List.take_succ_cons, List.take_zero] at h0 h1
    obtain ⟨j, hj, _, hw⟩ := DataW.trod_int Try.underlying30 h0
    obtain ⟨xs, m2, _, _, _, hx, hall⟩ := DataW.trod_array Try.underlying33 h1
    simp only [e2] at hall
    have ho : ∀ i, i < 8 → (xs[i]?).isSome = true := fun i hi => by rw [List.getElem?_eq_getElem (by omega)]; rfl
    have a0 := hall 0 (by omega)
    have a1 := hall 1 (by omega)
    have a2 := hall 2 (by omega)
    have a3 := hall 3 (by omega)
    have a4 := hall 4 (by omega)
    have a5 := hall 5 (by omega)
    have a6 := hall 6 (by omega)
    have a7 := hall 7 (by omega)
    simp only [List.drop_zero, List.drop_succ_cons, List.take_succ_cons, List.take_zero, Nat.zero_mul, Nat.one_mul, Nat.reduceMul] at a0 a1 a2 a3 a4 a5 a6 a7
    obtain ⟨u0, s0, rfl, rfl, z0⟩ := cell_open _ _ _ _ (ho 0 (by omega)) a0
    obtain ⟨u1, s1, rfl, rfl, z1⟩ := cell_open _ _ _ _ (ho 1 (by omega)) a1
    obtain ⟨u2, s2, rfl, rfl, z2⟩ := cell_open _ _ _ _ (ho 2 (by omega)) a2
    obtain ⟨u3, s3, rfl, rfl, z3⟩ := cell_open _ _ _ _ (ho 3 (by omega)) a3
    obtain ⟨u4, s4, rfl, rfl, z4⟩ := cell_open _ _ _ _ (ho 4 (by omega)) a4
    obtain ⟨u5, s5, rfl, rfl, z5⟩ := cell_open _ _ _ _ (ho 5 (by omega)) a5
    obtain ⟨u6, s6, rfl, rfl, z6⟩ := cell_open _ _ _ _ (ho 6 (by omega)) a6
    obtain ⟨u7, s7, rfl, rfl, z7⟩ := cell_open _ _ _ _ (ho 7 (by omega)) a7
    simp only [List.cons.injEq, and_true] at hj
    subst hj
    have hb := bounds_u64 hw
    have hn : ((j.toNat : Nat) : Int) = j := Int.toNat_of_nonneg hb.1
    refine ⟨mkPg j.toNat u0 u1 u2 u3 u4 u5 u6 u7 s0 s1 s2 s3 s4 s5 s6 s7, ?_, ?_, fun i hi => ?_⟩
    · unfold pgA mkPg
      simp only [hn]
    · show j.toNat < _
      omega
    · rcases lt8 hi with rfl | rfl | rfl | rfl | rfl | rfl | rfl | rfl <;> assumption
set_option maxRecDepth 40000 in
theorem elem_oc (n : Nat) (cs : List Value) (y : DataW H × List MemPlace) (h : DataW.trod enc Try.prog W 0 (fun _ => true) true n 37 cs = some y) : ∃ c : Oc, cs = (ocA c).toList ∧ c.fits := by
  obtain ⟨y0, y1, y2, y3, y4, m, hl, h0, h1, h2, h3, h4⟩ := trod_st5 Try.underlying37 h
  have hC : Try.prog.cellsOf 37 = 21 := by kernel_rfl
  rw [hC] at hl
  match cs, hl with
  | [b0, b1, b2, b3, c0, c1, c2, c3, c4, c5, c6, c7, c8, c9, c10, c11, c12, c13, c14, c15, c16], _ =>
    have e0 : Try.prog.cellsOf 3 = 1 := by kernel_rfl
    have e2 : Try.prog.cellsOf 35 = 17 := by kernel_rfl
    simp only [e0, e2, List.drop_zero, List.drop_succ_cons, List.take_succ_cons, List.take_zero] at h0 h1 h2 h3 h4
    obtain ⟨i0, g0, _, w0⟩ := DataW.trod_int Try.underlying3 h0
    obtain ⟨i1, g1, _, w1⟩ := DataW.trod_int Try.underlying3 h1
    obtain ⟨i2, g2, _, w2⟩ := DataW.trod_int Try.underlying3 h2
    obtain ⟨i3, g3, _, w3⟩ := DataW.trod_int Try.underlying3 h3
    obtain ⟨q, g4, w4⟩ := elem_page _ _ _ rfl h4
    simp only [pgA, List.cons.injEq, and_true] at g0 g1 g2 g3 g4
    obtain ⟨a0, a1, a2, a3, a4, a5, a6, a7, a8, a9, a10, a11, a12, a13, a14, a15, a16⟩ := g4
    subst g0 g1 g2 g3 a0 a1 a2 a3 a4 a5 a6 a7 a8 a9 a10 a11 a12 a13 a14 a15 a16
    exact ⟨⟨i0, i1, i2, i3, q⟩, rfl, w0, w1, w2, w3, w4⟩
set_option maxRecDepth 40000 in
/-- A script. -/
theorem op_ocs {v : Value} {d : DataW H} {p : List MemPlace} {r : Reach} {b0 : Nat} (hv : Value.okWide Try.prog W r b0 22 v) (h : DataW.Trod enc Try.prog W 0 (fun _ => true) true 22 v d p) :
    ∃ cs : List Oc, RowsIn ocA Oc.zero 21 W v cs ∧ cs.length ≤ maxLen ∧ (∀ c ∈ cs, c.fits) ∧ ∀ a len cap, v = .slice a len cap → len ≤ cap := by
  obtain ⟨fuel, hf⟩ := h
  obtain ⟨a, len, cap, rfl⟩ := okWide_slice Try.underlying22 hv
  have hf2 : DataW.trod enc Try.prog W 0 (fun _ => true) true fuel 22 [.slice a len cap] = some (d, p) := hf
  obtain ⟨cs, h1, h2, h3⟩ := op_rows (sz := 21) ocA Oc.zero (fun c => c.fits) elem_oc Try.underlying22 (by kernel_rfl) (fun _ => rfl) (by decide) hf2
  exact ⟨cs, h1, h2, h3, fun a' l' c' e => (op_cap Try.underlying22 hf2 e).1⟩
set_option maxRecDepth 40000 in
/-- One call by value. -/
theorem op_oc {v : Value} {d : DataW H} {p : List MemPlace} {r : Reach} {b0 : Nat} (hv : Value.okWide Try.prog W r b0 37 v) (h : DataW.Trod enc Try.prog W 0 (fun _ => true) true 37 v d p) :
    ∃ c : Oc, v = .agg (ocA c) ∧ c.fits := by
  obtain ⟨cs, rfl, hsz⟩ := okWide_struct Try.underlying37 hv
  obtain ⟨fuel, hf⟩ := h
  obtain ⟨l⟩ := cs
  obtain ⟨c, hc, hft⟩ := elem_oc _ _ _ hf
  have hc2 : l = (ocA c).toList := hc
  subst hc2
  exact ⟨c, rfl, hft⟩
set_option maxRecDepth 40000 in
def i64A (x : Int) : Array Value := #[.int .i64 x]
set_option maxRecDepth 40000 in
theorem elem_i64 (n : Nat) (cs : List Value) (y : DataW H × List MemPlace) (h : DataW.trod enc Try.prog W 0 (fun _ => true) true n 3 cs = some y) : ∃ c : Int, cs = (i64A c).toList ∧ (Lit.int .i64 c).wf = true := by
  obtain ⟨i0, g0, _, w0⟩ := DataW.trod_int Try.underlying3 h
  exact ⟨i0, g0, w0⟩
set_option maxRecDepth 40000 in
/-- A list of numbers. -/
theorem op_ints {v : Value} {d : DataW H} {p : List MemPlace} {r : Reach} {b0 : Nat} (hv : Value.okWide Try.prog W r b0 48 v) (h : DataW.Trod enc Try.prog W 0 (fun _ => true) true 48 v d p) :
    ∃ cs : List Int, RowsIn i64A 0 1 W v cs ∧ cs.length ≤ maxLen ∧ (∀ c ∈ cs, (Lit.int .i64 c).wf = true) ∧ ∀ a len cap, v = .slice a len cap → len ≤ cap := by
  obtain ⟨fuel, hf⟩ := h
  obtain ⟨a, len, cap, rfl⟩ := okWide_slice Try.underlying48 hv
  have hf2 : DataW.trod enc Try.prog W 0 (fun _ => true) true fuel 48 [.slice a len cap] = some (d, p) := hf
  obtain ⟨cs, h1, h2, h3⟩ := op_rows (sz := 1) i64A 0 (fun c => (Lit.int .i64 c).wf = true) elem_i64 Try.underlying48 (by kernel_rfl) (fun _ => rfl) (by decide) hf2
  exact ⟨cs, h1, h2, h3, fun a' l' c' e => (op_cap Try.underlying48 hf2 e).1⟩
end
end Go.Proofs.Ytfeghhgniahfkaa

/-
  A region in the order of its text, walked by hand, operation by operation: for guarded operations that load structs. Of no program.
-/
namespace Go.Proofs.Ytfeghhgniahfkaa
open Go.RowKit
set_option linter.unusedVariables false

/-- A place at which a walk stands still. -/
def Stop10 (p : Prop) : Prop := p
theorem unstop10 {p : Prop} (h : p) : Stop10 p := h
theorem stop10 {p : Prop} (h : Stop10 p) : p := h
section
variable {P : Program} {ops : Array Oper} {rest : List Oper} {o : Oper} {a : Act} {w : World} {Q : Exit → Act → World → Prop}
/-- .. at the operation that writes this slot. -/
theorem stop_at (d : Tmp) (hd : o.dst = some d) (h : Stop10 (wpList P ops Q (o :: rest) a w)) : wpList P ops Q (o :: rest) a w := h
theorem lst_val (d : Option Tmp) (v : Value) (hd : o.dst = d) (hw : Region.wanted o (yielded ops a.tmps) = true) (hv : (execOp a.eval o).run P w = .ok (.value v) w) (h : wpList P ops Q rest (a.put d v) w) : wpList P ops Q (o :: rest) a w := by
  subst hd
  exact wpList_val hw v hv h
theorem lst_skip (d : Option Tmp) (hd : o.dst = d) (hw : Region.wanted o (yielded ops a.tmps) = false) (h : wpList P ops Q rest (a.put d undef) w) : wpList P ops Q (o :: rest) a w := by
  subst hd
  refine wpList_step fun K hK => ?_
  rw [if_neg (by rw [hw]; simp)]
  exact hK _ _ h
theorem lst_call (d : Option Tmp) (hd : o.dst = d) (hw : Region.wanted o (yielded ops a.tmps) = true) (f : FuncId) (args : Array Value) (he : (execOp a.eval o).run P w = .ok (.enter f args) w)
    (hc : Calls P f args w fun e w' => ∃ v, e = .returned v ∧ wpList P ops Q rest (a.put d v) w') : wpList P ops Q (o :: rest) a w := by
  subst hd
  refine wpList_step fun K hK => ?_
  rw [if_pos hw]
  unfold Oper.wp
  rw [he, Oper.upon_enter]
  refine hc.mono ?_
  rintro e w' ⟨v, rfl, h⟩
  exact hK _ _ h
theorem lst_load (d : Option Tmp) (v : Value) (hd : o.dst = d) (hw : Region.wanted o (yielded ops a.tmps) = true) (t : TypeId) (x : Operand) (ho : o.op = .load t x) (u : Value) (hu : a.eval x = u) (hv : (Instr.loadAt t u).run P w = .ok v w) (h : wpList P ops Q rest (a.put d v) w) : wpList P ops Q (o :: rest) a w :=
  lst_val d v hd hw (by unfold execOp; simp only [ho, hu, Sem.run_bind, hv, Result.andThen_ok, Sem.run_pure]) h
theorem lst_bin (d : Option Tmp) (v : Value) (hd : o.dst = d) (hw : Region.wanted o (yielded ops a.tmps) = true) (op : BinOp) (t r : TypeId) (x y : Operand) (ho : o.op = .binOp op t x y r) (u z : Value) (hu : a.eval x = u) (hz : a.eval y = z) (hg : (eqGuard op t x y u z).run P w = .ok () w) (hv : (binOp op t u z).run P w = .ok v w) (h : wpList P ops Q rest (a.put d v) w) : wpList P ops Q (o :: rest) a w := by
  subst hd
  exact wpList_binop hw op t r x y ho u z v hu hz hg hv h
/-- An operation that turns the world, by what it answers. -/
theorem lst_run (d : Option Tmp) (hd : o.dst = d) (hw : Region.wanted o (yielded ops a.tmps) = true) (v : Value) (w' : World) (he : (execOp a.eval o).run P w = .ok (.value v) w') (h : wpList P ops Q rest (a.put d v) w') : wpList P ops Q (o :: rest) a w := by
  subst hd
  refine wpList_step fun K hK => ?_
  rw [if_pos hw]
  unfold Oper.wp
  rw [he]
  exact hK _ _ h
theorem lst_nil (h : Q .normal a w) : wpList P ops Q [] a w := h
end
end Go.Proofs.Ytfeghhgniahfkaa

/-
  A script of calls of a store, that came in: how a call is loaded.
-/
namespace Go.Proofs.Ytfeghhgniahfkaa
open Go.RowKit
set_option linter.unusedVariables false

theorem infoOc : (Try.prog.info? 37).map (·.size) = some 21 := by kernel_rfl
theorem infoPg10 : (Try.prog.info? 35).map (·.size) = some 17 := by kernel_rfl
def ocZ : Array Value := ocA Oc.zero
theorem ocA_all (c : Oc) : (ocA c).all (·.oneCell') = true := by simp [ocA, Value.oneCell']
theorem ocA_page (c : Oc) : (ocA c).extract 4 (4 + 17) = pgA c.p := by
  apply Array.ext'
  simp [ocA, pgA]
theorem load_oc (y : World) (b k : Nat) (c : Oc) (h : y.rangeAt b k (ocA c).toList) : (Instr.loadAt 37 (.pointer (some ⟨b, k, none⟩))).run Try.prog y = .ok (.agg (ocA c)) y := by
  have h1 := run_loadAt_mid (P := Try.prog) y b k 37 (ocA c).toList _ h Try.underlying37 rfl (by rw [infoOc]; rfl)
  rwa [Array.toArray_toList] at h1
/-- A value that is loaded, by what the load answers. -/
theorem wpList_load_run {P : Program} {ops : Array Oper} {rest : List Oper} {o : Oper} {a : Act} {w : World} {Q : Exit → Act → World → Prop} (hw : Region.wanted o (yielded ops a.tmps) = true) (t : TypeId) (x : Operand) (ho : o.op = .load t x) (u v : Value) (hu : a.eval x = u) (hv : (Instr.loadAt t u).run P w = .ok v w) (h : wpList P ops Q rest (a.put o.dst v) w) : wpList P ops Q (o :: rest) a w :=
  wpList_val hw v (by unfold execOp; simp only [ho, hu, Sem.run_bind, hv, Result.andThen_ok, Sem.run_pure]) h
structure Scr10 (w0 : World) (v : Value) (cs : List Oc) : Prop where
  rows : RowsIn ocA Oc.zero 21 w0 v cs
  fits : ∀ c ∈ cs, c.fits
  cap : ∀ a len cap, v = .slice a len cap → len ≤ cap
theorem Scr10.at {w0 x : World} {a : Option Addr} {len cap : Nat} {cs : List Oc} (h : Scr10 w0 (.slice a len cap) cs) (p : Below w0.heap.size w0 x) {j : Nat} (hj : j < cs.length) : ∃ b off, a = some ⟨b, off, none⟩ ∧ (Instr.loadAt 37 (.pointer (some ⟨b, off + j * 21, none⟩))).run Try.prog x = .ok (.agg (ocA (cs.getD j Oc.zero))) x ∧ (cs.getD j Oc.zero).fits := by
  obtain ⟨a', cap', e, h2⟩ := h.rows
  injection e with e1 e2 e3
  subst e1
  obtain ⟨b, off, h3, h4, h5⟩ := h2 (by omega)
  have hm : cs.getD j Oc.zero ∈ cs := by
    rw [List.getD_eq_getElem?_getD, List.getElem?_eq_getElem hj]
    exact List.getElem_mem hj
  exact ⟨b, off, h3, load_oc x b _ _ (rangeAt_below (h5 j hj) p h4), h.fits _ hm⟩
theorem Scr10.len {w0 : World} {a : Option Addr} {len cap : Nat} {cs : List Oc} (h : Scr10 w0 (.slice a len cap) cs) : len = cs.length := by
  obtain ⟨a', cap', e, h2⟩ := h.rows
  injection e
end Go.Proofs.Ytfeghhgniahfkaa

/-
  Changes in memory.
-/
namespace Go.Proofs.Ytfeghhgniahfkaa
open Go.RowKit
set_option linter.unusedVariables false

/-- A change in memory. -/
def ChAt (w : World) (b : Nat) (c : Ch) : Prop := w.heap[b]? = some (.cells (chA c) 57 (0, 0))
theorem ChAt.all {w : World} {b : Nat} {c : Ch} (h : ChAt w b c) : w.cell? ⟨b, 0, none⟩ = some (.int .i64 c.k) ∧ w.cell? ⟨b, 1, none⟩ = some (.int .i64 c.pg) ∧ w.cell? ⟨b, 2, none⟩ = some (.int .i64 c.sl) ∧ w.cell? ⟨b, 3, none⟩ = some (.string c.o) ∧ w.cell? ⟨b, 4, none⟩ = some (.string c.n) := by
  refine ⟨?_, ?_, ?_, ?_, ?_⟩ <;> (rw [cell_of_row w b _ _ _ (0, 0) h]; rfl)
theorem ChAt.below {w w' : World} {b B : Nat} {c : Ch} (h : ChAt w b c) (hb : Below B w w') (hB : b < B) : ChAt w' b c := (hb.block b hB).trans h
theorem ChAt.lt {w : World} {b : Nat} {c : Ch} (h : ChAt w b c) : b < w.heap.size := (Array.getElem?_eq_some_iff.1 h).1

theorem infoCh : (Try.prog.info? 57).map (·.size) = some 5 := by kernel_rfl
theorem chA_one (c : Ch) : (chA c).all (·.oneCell') = true := by simp [chA, Value.oneCell']
end Go.Proofs.Ytfeghhgniahfkaa

/-
  Changes and pages in memory.
-/

/-
  What 'Apply' finds and leaves in memory, and what it answers: of no program's function.
-/
namespace Go.Proofs.Ytfeghhgniahfkaa
open Go.RowKit
set_option linter.unusedVariables false

/-- What stands at the entry: the page, the change, the result. -/
def AppIn (w : World) (gc gr : Nat) (p : Pg) (c : Ch) (x : World) : Prop :=
  PgAt x w.heap.size p ∧ ChAt x gc c ∧ PgAt x gr Pg.zero ∧ Below w.heap.size w x ∧ w.heap.size < gc ∧ gc < gr
theorem AppIn.later {w x y : World} {gc gr : Nat} {p : Pg} {c : Ch} (h : AppIn w gc gr p c x) (hb : Below x.heap.size x y) : AppIn w gc gr p c y := by
  have l0 : w.heap.size < x.heap.size := (Array.getElem?_eq_some_iff.1 h.1).1
  have l1 := h.2.1.lt
  have l2 : gr < x.heap.size := (Array.getElem?_eq_some_iff.1 h.2.2.1).1
  exact ⟨h.1.below hb l0, h.2.1.below hb l1, h.2.2.1.below hb l2, h.2.2.2.1.trans (hb.mono (Nat.le_of_lt l0)), h.2.2.2.2⟩

theorem app_in (w : World) (p : Pg) (c : Ch) : AppIn w (w.heap.size + 1) (w.heap.size + 1 + 1) p c (((w.alloc (.cells (pgA p) 35)).alloc (.cells (chA c) 57)).alloc (.cells (pgA Pg.zero) 35)) := by
  have e1 : (w.alloc (.cells (pgA p) 35)).heap.size = w.heap.size + 1 := by simp
  have e2 : ((w.alloc (.cells (pgA p) 35)).alloc (.cells (chA c) 57)).heap.size = w.heap.size + 1 + 1 := by simp
  have b1 := (Below.refl w.heap.size w).alloc (Nat.le_refl _) (.cells (pgA p) 35)
  have b2 := (Below.refl _ (w.alloc (.cells (pgA p) 35))).alloc (Nat.le_refl _) (.cells (chA c) 57)
  have b3 := (Below.refl _ ((w.alloc (.cells (pgA p) 35)).alloc (.cells (chA c) 57))).alloc (Nat.le_refl _) (.cells (pgA Pg.zero) 35)
  have r0 : RowAt (w.alloc (.cells (pgA p) 35)) w.heap.size 35 (pgA p) := RowAt.new _ _ _
  have r1 : RowAt ((w.alloc (.cells (pgA p) 35)).alloc (.cells (chA c) 57)) (w.heap.size + 1) 57 (chA c) := by
    have h := RowAt.new (w.alloc (.cells (pgA p) 35)) 57 (chA c)
    rw [e1] at h
    exact h
  have r2 : RowAt (((w.alloc (.cells (pgA p) 35)).alloc (.cells (chA c) 57)).alloc (.cells (pgA Pg.zero) 35)) (w.heap.size + 1 + 1) 35 (pgA Pg.zero) := by
    have h := RowAt.new ((w.alloc (.cells (pgA p) 35)).alloc (.cells (chA c) 57)) 35 (pgA Pg.zero)
    rw [e2] at h
    exact h
  exact ⟨(r0.later b2).later b3, r1.later b3, r2, b1.trans ((b2.mono b1.size).trans (b3.mono (by omega))), by omega, by omega⟩

/-- The page behind the change, in memory. -/
theorem put_mem {w x : World} {gc gr i : Nat} {p : Pg} {c : Ch} (h : AppIn w gc gr p c x) (hi : i < 8) (l : Nat) (u : Bool) (s : ByteArray) :
    PgAt (((x.setCell ⟨w.heap.size, 1 + i * 2, none⟩ (.bool u)).setCell ⟨w.heap.size, 1 + i * 2 + 1, none⟩ (.string s)).setCell ⟨w.heap.size, 0, none⟩ (.int .u64 (l : Int))) w.heap.size (p.put l i u s) ∧
    PgAt (((x.setCell ⟨w.heap.size, 1 + i * 2, none⟩ (.bool u)).setCell ⟨w.heap.size, 1 + i * 2 + 1, none⟩ (.string s)).setCell ⟨w.heap.size, 0, none⟩ (.int .u64 (l : Int))) gr Pg.zero ∧
    Below w.heap.size w (((x.setCell ⟨w.heap.size, 1 + i * 2, none⟩ (.bool u)).setCell ⟨w.heap.size, 1 + i * 2 + 1, none⟩ (.string s)).setCell ⟨w.heap.size, 0, none⟩ (.int .u64 (l : Int))) ∧ w.heap.size < gr := by
  have hg : w.heap.size < gr := by have := h.2.2.2.2; omega
  have h1 := heap_setCell_same x w.heap.size (1 + i * 2) _ _ (.bool u) h.1
  have h2 := heap_setCell_same _ w.heap.size (1 + i * 2 + 1) _ _ (.string s) h1
  rw [pgA_set _ i hi] at h2
  have h3 := heap_setCell_same _ w.heap.size 0 _ _ (.int .u64 (l : Int)) h2
  refine ⟨h3, ((h.2.2.1.other _ _ (by simp; omega)).other _ _ (by simp; omega)).other _ _ (by simp; omega), ?_, hg⟩
  exact ((h.2.2.2.1.setCell (by show w.heap.size ≤ w.heap.size; omega) _).setCell (by show w.heap.size ≤ w.heap.size; omega) _).setCell (by show w.heap.size ≤ w.heap.size; omega) _

/-- What 'Apply' answers, once its arguments are right. -/
theorem app_at (p : Pg) (c : Ch) (l : Nat) (hp : p.right) (hc : c.right) (hl : l ≤ maxP) (hl2 : p.l < l) (i : Nat) (hi : c.at = i) :
    (p.u i = true ∧ c.wantU = false → appE p c l = 6 ∧ appP p c l = Pg.zero) ∧ (p.u i = false ∧ c.wantU = true → appE p c l = 5 ∧ appP p c l = Pg.zero) ∧
    (p.u i = c.wantU → p.s i ≠ c.wantV → appE p c l = 2 ∧ appP p c l = Pg.zero) ∧ (p.u i = c.wantU → p.s i = c.wantV → appE p c l = 0 ∧ appP p c l = p.put l i c.makeU c.makeV) := by
  subst hi
  have hbase : appE p c l = if p.u c.at = true ∧ c.wantU = false then 6 else if p.u c.at = false ∧ c.wantU = true then 5 else if p.s c.at ≠ c.wantV then 2 else 0 := by
    unfold appE
    rw [if_neg (fun h => h ⟨hp, hc, hl⟩), if_neg (by omega)]
  refine ⟨fun h => ?_, fun h => ?_, fun h1 h2 => ?_, fun h1 h2 => ?_⟩
  · have e : appE p c l = 6 := by rw [hbase, if_pos h]
    exact ⟨e, app_no _ _ _ (by rw [e]; decide)⟩
  · have e : appE p c l = 5 := by rw [hbase, if_neg (by rw [h.1]; simp), if_pos h]
    exact ⟨e, app_no _ _ _ (by rw [e]; decide)⟩
  · have e : appE p c l = 2 := by rw [hbase, if_neg (by rw [h1]; intro h; rw [h.1] at h; cases h.2), if_neg (by rw [h1]; intro h; rw [h.1] at h; cases h.2), if_pos h2]
    exact ⟨e, app_no _ _ _ (by rw [e]; decide)⟩
  · have e : appE p c l = 0 := (app_yes p c l).2 ⟨hp, hc, hl, hl2, h1, h2⟩
    exact ⟨e, by unfold appP; rw [if_pos e]⟩
end Go.Proofs.Ytfeghhgniahfkaa

/-
  The contracts of package change's Right and of what it calls.
-/
namespace Go.Proofs.Ytfeghhgniahfkaa
open Go.RowKit
set_option linter.unusedVariables false

/-- A page and a slot that can be. -/
abbrev placeOk (pg sl : Int) : Prop := 0 ≤ pg ∧ pg ≤ 31 ∧ 0 ≤ sl ∧ sl ≤ 7

set_option maxRecDepth 4000 in
set_option maxHeartbeats 400000 in
theorem place_at (pg sl : Int) (w : World) (r : Bool) (Hr : Hid (decide (placeOk pg sl) = r)) :
    Calls Try.prog 39 #[.int .i64 pg, .int .i64 sl] w fun e w' => e = .returned (.bool r) ∧ w = w' := by
  by_cases h1 : 0 ≤ pg
  · by_cases h2 : pg < 32
    · by_cases h3 : 0 ≤ sl
      · by_cases h4 : sl < 8
        · obtain rfl : r = true := by rw [← Hr.out]; exact decide_eq_true ⟨h1, by omega, h3, by omega⟩
          clear Hr
          go_enter Try.func39, Try.ntmps39
          go_wp2
          go_ret
          exact ⟨rfl, rfl⟩
        · obtain rfl : r = false := by rw [← Hr.out]; exact decide_eq_false (fun h => by omega)
          clear Hr
          go_enter Try.func39, Try.ntmps39
          go_wp2
          go_ret
          exact ⟨rfl, rfl⟩
      · obtain rfl : r = false := by rw [← Hr.out]; exact decide_eq_false (fun h => by omega)
        clear Hr
        go_enter Try.func39, Try.ntmps39
        go_wp2
        go_ret
        exact ⟨rfl, rfl⟩
    · obtain rfl : r = false := by rw [← Hr.out]; exact decide_eq_false (fun h => by omega)
      clear Hr
      go_enter Try.func39, Try.ntmps39
      go_wp2
      go_ret
      exact ⟨rfl, rfl⟩
  · obtain rfl : r = false := by rw [← Hr.out]; exact decide_eq_false (fun h => by omega)
    clear Hr
    go_enter Try.func39, Try.ntmps39
    go_wp2
    go_ret
    exact ⟨rfl, rfl⟩
theorem place_any (pg sl : Int) (w : World) :
    Calls Try.prog 39 #[.int .i64 pg, .int .i64 sl] w fun e w' => e = .returned (.bool (decide (placeOk pg sl))) ∧ w = w' := place_at pg sl w _ (hide rfl)

set_option maxRecDepth 4000 in
set_option maxHeartbeats 400000 in
theorem kind_at (c : Ch) (w : World) (r : Bool) (Hr : Hid (decide c.kindOk = r)) :
    Calls Try.prog 64 #[.agg (chA c)] w fun e w' => e = .returned (.bool r) ∧ Below w.heap.size w w' := by
  have hb0 : Below w.heap.size w (w.alloc (.cells (chA c) 57)) := (Below.refl _ _).alloc (Nat.le_refl _) _
  obtain ⟨a0, a1, a2, a3, a4⟩ := ChAt.all (show ChAt (w.alloc (.cells (chA c) 57)) w.heap.size c from heap_alloc_new w _)
  clear a1 a2
  by_cases k1 : c.k = 1
  · obtain rfl : c.o.toList.isEmpty = r := by
      rw [← Hr.out, Bool.eq_iff_iff, empty_iff, decide_eq_true_eq]
      exact ⟨fun h => .inl ⟨k1, h⟩, fun h => by rcases h with h | h | h <;> omega⟩
    rw [k1] at a0
    clear Hr k1
    go_enter Try.func64, Try.ntmps64
    generalize c.o = o at *
    go_wp2
    go_ret
    exact ⟨rfl, hb0⟩
  · by_cases k3 : c.k = 3
    · obtain rfl : c.n.toList.isEmpty = r := by
        rw [← Hr.out, Bool.eq_iff_iff, empty_iff, decide_eq_true_eq]
        exact ⟨fun h => .inr (.inr ⟨k3, h⟩), fun h => by rcases h with h | h | h <;> omega⟩
      rw [k3] at a0
      clear Hr k1 k3
      go_enter Try.func64, Try.ntmps64
      generalize c.n = n at *
      go_wp2
      go_ret
      exact ⟨rfl, hb0⟩
    · by_cases k2 : c.k = 2
      · obtain rfl : r = true := by rw [← Hr.out]; exact decide_eq_true (.inr (.inl k2))
        rw [k2] at a0
        clear Hr k1 k2 k3
        go_enter Try.func64, Try.ntmps64
        go_wp2
        go_ret
        exact ⟨rfl, hb0⟩
      · obtain rfl : r = false := by
          rw [← Hr.out]
          exact decide_eq_false (fun h => by rcases h with h | h | h <;> omega)
        have j1 : (c.k == 1) = false := by simpa using k1
        have j2 : (c.k == 2) = false := by simpa using k2
        have j3 : (c.k == 3) = false := by simpa using k3
        clear Hr k1 k2 k3
        go_enter Try.func64, Try.ntmps64
        generalize c.k = k at *
        go_wp2
        go_ret
        exact ⟨rfl, hb0⟩
theorem kind_any (c : Ch) (w : World) :
    Calls Try.prog 64 #[.agg (chA c)] w fun e w' => e = .returned (.bool (decide c.kindOk)) ∧ Below w.heap.size w w' := kind_at c w _ (hide rfl)

set_option maxRecDepth 4000 in
set_option maxHeartbeats 400000 in
theorem cright_at (c : Ch) (w : World) (r : Bool) (Hr : Hid (decide c.right = r)) :
    Calls Try.prog 42 #[.agg (chA c)] w fun e w' => e = .returned (.bool r) ∧ Below w.heap.size w w' := by
  have hb0 : Below w.heap.size w (w.alloc (.cells (chA c) 57)) := (Below.refl _ _).alloc (Nat.le_refl _) _
  have hc0 : ChAt (w.alloc (.cells (chA c) 57)) w.heap.size c := heap_alloc_new w _
  obtain ⟨a0, a1, a2, a3, a4⟩ := hc0.all
  have HC := hide hc0
  clear a0 hc0
  by_cases hpl : placeOk c.pg c.sl
  · have HP := hide (fun w => place_at c.pg c.sl w true (hide (decide_eq_true hpl)))
    by_cases h1 : (c.o.size : Int) ≤ 20
    · by_cases h2 : (c.n.size : Int) ≤ 20
      · have HK := hide (fun w => kind_at c w r (hide (by
          rw [← Hr.out]
          exact decide_eq_decide.2 ⟨fun h => ⟨⟨hpl.1, hpl.2.1, hpl.2.2.1, hpl.2.2.2, by omega, by omega⟩, h⟩, fun h => h.2⟩)))
        clear Hr hpl
        go_enter Try.func42, Try.ntmps42
        go_wp2_with fail
        refine (HP.out _).mono ?_
        rintro e w1 ⟨rfl, rfl⟩
        go_wp2_with (refine wpList_load_at rfl 57 (.tmp 1) rfl w.heap.size rfl (chA c) HC.out _ Try.underlying57 rfl infoCh ?_)
        refine (HK.out _).mono ?_
        rintro e w2 ⟨rfl, hb2⟩
        have d2 := hb0.trans (hb2.mono hb0.size)
        clear hb2 HC HK HP a1 a2 a3 a4 hb0 h1 h2
        go_wp2
        go_ret
        exact ⟨rfl, d2⟩
      · obtain rfl : r = false := by rw [← Hr.out]; exact decide_eq_false (fun h => by have := h.1; omega)
        clear Hr hpl
        go_enter Try.func42, Try.ntmps42
        go_wp2_with fail
        refine (HP.out _).mono ?_
        rintro e w1 ⟨rfl, rfl⟩
        clear HP
        go_wp2
        go_ret
        exact ⟨rfl, hb0⟩
    · obtain rfl : r = false := by rw [← Hr.out]; exact decide_eq_false (fun h => by have := h.1; omega)
      clear Hr hpl
      go_enter Try.func42, Try.ntmps42
      go_wp2_with fail
      refine (HP.out _).mono ?_
      rintro e w1 ⟨rfl, rfl⟩
      clear HP
      go_wp2
      go_ret
      exact ⟨rfl, hb0⟩
  · have HP := hide (fun w => place_at c.pg c.sl w false (hide (decide_eq_false hpl)))
    obtain rfl : r = false := by rw [← Hr.out]; exact decide_eq_false (fun h => hpl ⟨h.1.1, h.1.2.1, h.1.2.2.1, h.1.2.2.2.1⟩)
    clear Hr hpl
    go_enter Try.func42, Try.ntmps42
    go_wp2_with fail
    refine (HP.out _).mono ?_
    rintro e w1 ⟨rfl, rfl⟩
    clear HP
    go_wp2
    go_ret
    exact ⟨rfl, hb0⟩

/-- THE CONTRACT. -/
theorem cright_any (c : Ch) (w : World) :
    Calls Try.prog 42 #[.agg (chA c)] w fun e w' => e = .returned (.bool (decide c.right)) ∧ Below w.heap.size w w' := cright_at c w _ (hide rfl)
end Go.Proofs.Ytfeghhgniahfkaa

/-
  The contracts of package change's refusal, made, inverseKind, kindOf and rightCells.
-/
namespace Go.Proofs.Ytfeghhgniahfkaa
open Go.RowKit
set_option linter.unusedVariables false

/-- Why a cell can't be changed so. -/
def refE (u : Bool) (s : ByteArray) (c : Ch) : Int := if c.k = 1 then (if u = true then 6 else if s ≠ c.o then 2 else 0) else if u = false then 5 else if s ≠ c.o then 2 else 0

theorem ne_text {s t : ByteArray} (h : s ≠ t) : (s.toList == t.toList) = false := by
  rw [beq_eq_false_iff_ne]
  intro h2
  apply h
  rw [ByteArray.toList_eq, ByteArray.toList_eq] at h2
  rw [← mk_data s, h2, mk_data]

theorem two_new (w : World) (A B : Array Value) (t t2 : TypeId) : RowAt ((w.alloc (.cells A t)).alloc (.cells B t2)) w.heap.size t A ∧ RowAt ((w.alloc (.cells A t)).alloc (.cells B t2)) (w.heap.size + 1) t2 B ∧ Below w.heap.size w ((w.alloc (.cells A t)).alloc (.cells B t2)) := by
  have e1 : (w.alloc (.cells A t)).heap.size = w.heap.size + 1 := by simp
  have b1 := (Below.refl w.heap.size w).alloc (Nat.le_refl _) (.cells A t)
  have b2 := (Below.refl _ (w.alloc (.cells A t))).alloc (Nat.le_refl _) (.cells B t2)
  refine ⟨(RowAt.new w _ _).later b2, ?_, b1.trans (b2.mono (by omega))⟩
  have h := RowAt.new (w.alloc (.cells A t)) t2 B
  rw [e1] at h
  exact h

set_option maxRecDepth 4000 in
set_option maxHeartbeats 400000 in
theorem refuse_at (u : Bool) (s : ByteArray) (c : Ch) (w : World) (r : Int) (Hr : Hid (refE u s c = r)) :
    Calls Try.prog 43 #[.agg (ceA u s), .agg (chA c)] w fun e w' => e = .returned (.int .i64 r) ∧ Below w.heap.size w w' := by
  obtain ⟨r0, r1, hb0⟩ := two_new w (ceA u s) (chA c) 32 57
  have c0 := r0.cell 0 (.bool u) rfl
  have c1 := r0.cell 1 (.string s) rfl
  obtain ⟨a0, a1, a2, a3, a4⟩ := ChAt.all r1
  clear r0 r1 a1 a2 a4
  by_cases k1 : c.k = 1
  · have e : refE u s c = if u = true then 6 else if s ≠ c.o then 2 else 0 := by unfold refE; rw [if_pos k1]
    rw [k1] at a0
    clear k1
    cases u
    · by_cases hs : s = c.o
      · obtain rfl : r = 0 := by rw [← Hr.out, e, if_neg (by simp), if_neg (by simp [hs])]
        clear Hr e
        subst hs
        go_enter Try.func43, Try.ntmps43
        generalize c.o = o at *
        go_wp2
        go_ret
        exact ⟨rfl, hb0⟩
      · obtain rfl : r = 2 := by rw [← Hr.out, e, if_neg (by simp), if_pos hs]
        have hn := ne_text hs
        clear Hr e hs
        go_enter Try.func43, Try.ntmps43
        generalize c.o = o at *
        go_wp2
        go_ret
        exact ⟨rfl, hb0⟩
    · obtain rfl : r = 6 := by rw [← Hr.out, e, if_pos rfl]
      clear Hr e
      go_enter Try.func43, Try.ntmps43
      generalize c.o = o at *
      go_wp2
      go_ret
      exact ⟨rfl, hb0⟩
  · have e : refE u s c = if u = false then 5 else if s ≠ c.o then 2 else 0 := by unfold refE; rw [if_neg k1]
    have j1 : (c.k == 1) = false := by simpa using k1
    clear k1
    cases u
    · obtain rfl : r = 5 := by rw [← Hr.out, e, if_pos rfl]
      clear Hr e
      go_enter Try.func43, Try.ntmps43
      generalize c.o = o at *
      generalize c.k = k at *
      go_wp2
      go_ret
      exact ⟨rfl, hb0⟩
    · by_cases hs : s = c.o
      · obtain rfl : r = 0 := by rw [← Hr.out, e, if_neg (by simp), if_neg (by simp [hs])]
        clear Hr e
        subst hs
        go_enter Try.func43, Try.ntmps43
        generalize c.o = o at *
        generalize c.k = k at *
        go_wp2
        go_ret
        exact ⟨rfl, hb0⟩
      · obtain rfl : r = 2 := by rw [← Hr.out, e, if_neg (by simp), if_pos hs]
        have hn := ne_text hs
        clear Hr e hs
        go_enter Try.func43, Try.ntmps43
        generalize c.o = o at *
        generalize c.k = k at *
        go_wp2
        go_ret
        exact ⟨rfl, hb0⟩
theorem refuse_any (u : Bool) (s : ByteArray) (c : Ch) (w : World) :
    Calls Try.prog 43 #[.agg (ceA u s), .agg (chA c)] w fun e w' => e = .returned (.int .i64 (refE u s c)) ∧ Below w.heap.size w w' := refuse_at u s c w _ (hide rfl)

set_option maxRecDepth 4000 in
set_option maxHeartbeats 400000 in
theorem made_at (c : Ch) (w : World) (u : Bool) (s : ByteArray) (Hr : Hid (c.makeU = u ∧ c.makeV = s)) :
    Calls Try.prog 44 #[.agg (chA c)] w fun e w' => e = .returned (.agg (ceA u s)) ∧ Below w.heap.size w w' := by
  obtain ⟨r0, r1, hb0⟩ := two_new w (chA c) #[.bool false, .string ⟨#[]⟩] 57 32
  obtain ⟨a0, a1, a2, a3, a4⟩ := ChAt.all r0
  have H1 := hide (And.intro r1 hb0)
  clear r0 r1 hb0 a1 a2 a3
  by_cases k3 : c.k = 3
  · obtain ⟨rfl, rfl⟩ : u = false ∧ s = ⟨#[]⟩ := by
      rw [← Hr.out.1, ← Hr.out.2]
      unfold Ch.makeU Ch.makeV
      rw [if_pos k3]
      exact ⟨decide_eq_false (fun h => h k3), rfl⟩
    rw [k3] at a0
    clear Hr k3
    go_enter Try.func44, Try.ntmps44
    generalize c.n = n at *
    go_wp2_with (refine wpList_store_at rfl 32 (.tmp 2) (.tmp 10) rfl (w.heap.size + 1) (ceA false ⟨#[]⟩) (ceA false ⟨#[]⟩) rfl rfl H1.out.1 infoCe rfl (ceA_one _ _) ?_)
    intro w2 hr2 hk2 _
    have d2 := hk2 _ _ H1.out.2 (by omega)
    have HR2 := hide hr2
    clear hr2 hk2 H1
    go_wp2
    exact bodyPost_ret (res_one rfl _ _ (w.heap.size + 1) _ _ rfl HR2.out Try.underlying32 rfl infoCe) rfl ⟨rfl, d2⟩
  · obtain ⟨rfl, rfl⟩ : u = true ∧ s = c.n := by
      rw [← Hr.out.1, ← Hr.out.2]
      unfold Ch.makeU Ch.makeV
      rw [if_neg k3]
      exact ⟨decide_eq_true k3, rfl⟩
    have j3 : (c.k == 3) = false := by simpa using k3
    clear Hr k3
    go_enter Try.func44, Try.ntmps44
    generalize c.n = n at *
    generalize c.k = k at *
    go_wp2_with (refine wpList_store_at rfl 32 (.tmp 2) (.tmp 7) rfl (w.heap.size + 1) (ceA false ⟨#[]⟩) (ceA true n) rfl rfl H1.out.1 infoCe rfl (ceA_one _ _) ?_)
    intro w2 hr2 hk2 _
    have d2 := hk2 _ _ H1.out.2 (by omega)
    have HR2 := hide hr2
    clear hr2 hk2 H1
    go_wp2
    exact bodyPost_ret (res_one rfl _ _ (w.heap.size + 1) _ _ rfl HR2.out Try.underlying32 rfl infoCe) rfl ⟨rfl, d2⟩
theorem made_any (c : Ch) (w : World) :
    Calls Try.prog 44 #[.agg (chA c)] w fun e w' => e = .returned (.agg (ceA c.makeU c.makeV)) ∧ Below w.heap.size w w' := made_at c w _ _ (hide ⟨rfl, rfl⟩)
end Go.Proofs.Ytfeghhgniahfkaa

/-
  A region that draws its order, with loads of structs taken first. Of no program.
-/
namespace Go.Proofs.Ytfeghhgniahfkaa
set_option linter.unusedVariables false

section
variable {P : Program} {ops : Array Oper} {S : World → Prop} {a : Act} {o : Oper}

theorem yields_load (hw : Region.wanted o (yielded ops a.tmps) = true) (t : TypeId) (x : Operand) (ho : o.op = .load t x) (u v : Value) (hu : a.eval x = u) (hv : ∀ y, S y → (Instr.loadAt t u).run P y = .ok v y) : YieldsIf P ops S o v a :=
  Or.inl ⟨hw, fun y hy => by unfold execOp; simp only [ho, hu, Sem.run_bind, hv y hy, Result.andThen_ok, Sem.run_pure]⟩
end
end Go.Proofs.Ytfeghhgniahfkaa

/-
  The contract of package change's Apply.
-/
namespace Go.Proofs.Ytfeghhgniahfkaa
open Go.RowKit
set_option linter.unusedVariables false

theorem load_ch {b : Nat} {c : Ch} (x : World) (h : ChAt x b c) : (Instr.loadAt 57 (.pointer (some ⟨b, 0, none⟩))).run Try.prog x = .ok (.agg (chA c)) x := by
  have h1 := run_loadVar_row (P := Try.prog) x b 57 57 (chA c) (0, 0) _ h Try.underlying57 rfl infoCh
  simp only [Instr.loadAt, Instr.sureAddr, Sem.run_bind, Sem.run_pure, Result.andThen_ok, h1]
theorem pg_ext (p : Pg) (i : Nat) (hi : i < 8) : ((pgA p).extract (1 + i * 2) (1 + i * 2 + 2)).toList = (ceA (p.u i) (p.s i)).toList := by
  rcases lt8 hi with rfl | rfl | rfl | rfl | rfl | rfl | rfl | rfl <;> simp [pgA, ceA]
theorem load_ce {b : Nat} {p : Pg} (x : World) (i : Nat) (hi : i < 8) (h : PgAt x b p) : (Instr.loadAt 32 (.pointer (some ⟨b, 1 + i * 2, none⟩))).run Try.prog x = .ok (.agg (ceA (p.u i) (p.s i))) x := by
  have hr := World.rangeAt_of_block h (1 + i * 2) 2
  rw [pg_ext p i hi] at hr
  have h1 := run_loadAt_mid (P := Try.prog) x b (1 + i * 2) 32 _ _ hr Try.underlying32 rfl infoCe
  rwa [Array.toArray_toList] at h1
theorem load_slot {b : Nat} {c : Ch} (x : World) (i : Nat) (hi : c.sl = (i : Int)) (h : ChAt x b c) : (Instr.loadAt 3 (.pointer (some ⟨b, 2, none⟩))).run Try.prog x = .ok (.int .i64 (i : Int)) x := by
  have h1 := h.all.2.2.1
  rw [hi] at h1
  go_simp

/-- What 'Apply' answers, once its arguments are right: by 'refusal'. -/
theorem app_ref (p : Pg) (c : Ch) (l : Nat) (hp : p.right) (hc : c.right) (hl : l ≤ maxP) (hl2 : p.l < l) : appE p c l = refE (p.u c.at) (p.s c.at) c := by
  have hv : c.k = 1 → c.o = ⟨#[]⟩ := fun h => by
    rcases hc.2 with h1 | h1 | h1
    · exact size0 _ h1.2
    · omega
    · omega
  unfold appE refE Ch.wantU Ch.wantV
  rw [if_neg (fun h => h ⟨hp, hc, hl⟩), if_neg (by omega)]
  by_cases k : c.k = 1
  · rw [if_pos k, if_pos k, hv k]
    cases p.u c.at <;> simp [k]
  · rw [if_neg k, if_neg k]
    cases p.u c.at <;> simp [k]

theorem AppIn.drew {w x : World} {gc gr : Nat} {p : Pg} {c : Ch} (h : AppIn w gc gr p c x) : AppIn w gc gr p c x.drew := ⟨h.1, h.2.1, h.2.2.1, below_dn h.2.2.2.1 1, h.2.2.2.2⟩

set_option maxRecDepth 4000 in
set_option maxHeartbeats 1600000 in
theorem app_go (p : Pg) (c : Ch) (l : Nat) (w : World) (hp : p.right) (hc : c.right) (hl : l ≤ maxP) (hl2 : p.l < l) :
    Calls Try.prog 21 #[.agg (pgA p), .agg (chA c), .int .u64 l] w fun e w' => e = .returned (.tuple #[.agg (pgA (appP p c l)), .int .i64 (appE p c l)]) ∧ Below w.heap.size w w' := by
  have H0 := hide (app_in w p c)
  have HR1 := hide (fun w => right_any p w)
  have HR2 := hide (fun w => cright_at c w true (hide (decide_eq_true hc)))
  rw [decide_eq_true hp] at HR1
  have i1 : ((4611686018427387904 : Int) < (l : Int)) = False := eq_false (by unfold maxP at hl; omega)
  have i2 : ¬ (l : Int) ≤ (p.l : Int) := by omega
  obtain ⟨i, hi⟩ := Int.eq_ofNat_of_zero_le hc.1.2.2.1
  have hi8 : i < 8 := by have := hc.1.2.2.2.1; omega
  have hat : c.at = i := by unfold Ch.at; rw [hi]; rfl
  have HF := hide (fun w => refuse_at (p.u i) (p.s i) c w (appE p c l) (hide (by rw [app_ref p c l hp hc hl hl2, hat])))
  have HE0 := hide (fun h : appE p c l = 0 => show appP p c l = p.put l i c.makeU c.makeV by unfold appP; rw [if_pos h, hat])
  have HE1 := hide (app_no p c l)
  clear hp hc hl hl2 hat
  generalize appE p c l = er at *
  generalize appP p c l = rp at *
  go_enter Try.func21, Try.ntmps21
  obtain ⟨gc, h1⟩ : ∃ g, g = w.heap.size + 1 := ⟨_, rfl⟩
  obtain ⟨gr, h2⟩ : ∃ g, g = w.heap.size + 1 + 1 := ⟨_, rfl⟩
  rw [← h2, ← h1] at H0
  go_wp2_with (refine wpList_load_page rfl _ rfl w.heap.size rfl p H0.out.1 ?_)
  rw [← h2, ← h1]
  refine gen_calls (fun x => Hid (AppIn w gc gr p c x)) H0 ?_
  clear H0 h1 h2
  intro w0 H0
  refine (HR1.out _).mono ?_
  rintro e w1 ⟨rfl, hb1⟩
  have H1 := hide (H0.out.later hb1)
  clear H0 hb1 HR1
  go_wp2_with (refine wpList_load_at rfl 57 _ rfl gc rfl (chA c) H1.out.2.1 _ Try.underlying57 rfl infoCh ?_)
  refine (HR2.out _).mono ?_
  rintro e w2 ⟨rfl, hb2⟩
  have H2 := hide (H1.out.later hb2)
  clear H1 hb2 HR2
  have a0 := H2.out.1.lsn
  go_wp2_with fail
  clear a0 i1 i2
  refine wp_region_in (fun x => AppIn w gc gr p c x) (by kernel_rfl) (by kernel_rfl) H2.out.drew ?_
  clear H2
  have j1 : (i : Int) < 8 := by omega
  repeat (first
    | go_big_quiet_skip
    | (refine wpQuiet_load rfl 3 (.tmp 27) rfl _ (.int .i64 (i : Int)) rfl (fun y hy => load_slot y i hi hy.2.1) ?_; simp only [Act.put, Array.setIfInBounds, List.size_toArray, List.length_cons, List.length_nil, Nat.reduceAdd, Nat.reduceLT, ↓reduceDIte, List.set_toArray, List.set_cons_succ, List.set_cons_zero])
    | (refine wpQuiet_load rfl 32 (.tmp 30) rfl _ (.agg (ceA (p.u i) (p.s i))) rfl (fun y hy => load_ce y i hi8 hy.1) ?_; simp only [Act.put, Array.setIfInBounds, List.size_toArray, List.length_cons, List.length_nil, Nat.reduceAdd, Nat.reduceLT, ↓reduceDIte, List.set_toArray, List.set_cons_succ, List.set_cons_zero])
    | (refine wpQuiet_load rfl 57 (.tmp 4) rfl _ (.agg (chA c)) rfl (fun y hy => load_ch y hy.2.1) ?_; simp only [Act.put, Array.setIfInBounds, List.size_toArray, List.length_cons, List.length_nil, Nat.reduceAdd, Nat.reduceLT, ↓reduceDIte, List.set_toArray, List.set_cons_succ, List.set_cons_zero])
    | (refine wpQuiet_call rfl 43 #[.agg (ceA (p.u i) (p.s i)), .agg (chA c)] (.int .i64 er) ?_ (fun x hC => (HF.out x).mono fun e x' h => ⟨h.1, hC.later h.2⟩) ?_; (intro x; go_simp); simp only [Act.put, Array.setIfInBounds, List.size_toArray, List.length_cons, List.length_nil, Nat.reduceAdd, Nat.reduceLT, ↓reduceDIte, List.set_toArray, List.set_cons_succ, List.set_cons_zero])
    | (refine wpQuiet_plain rfl (fun K hK => ?_); go_simp; refine hK _ ?_; clear hK K))
  refine wpQuiet_nil ?_
  intro w3 h3
  have H3 := hide h3
  clear h3 HF
  by_cases h0 : er = 0
  · obtain rfl := HE0.out h0
    subst h0
    clear HE0 HE1
    go_wp2_with fail
    refine wp_region_noPanic ?_
    refine wp_region_held_drew (S := fun x => ChAt x gc c) (by kernel_rfl) H3.out.drew.2.1 (fun hHeld => ?_)
    refine wpAnyH_take (i := 0) (v := .pointer (some ⟨gc, 2, none⟩)) rfl (by kernel_rfl) (by kernel_rfl) (by kernel_rfl) (fun _ _ _ h => h) (Or.inl ⟨by kernel_rfl, fun w hSw => by go_simp⟩) hHeld ?_
    try simp only [Act.put]
    refine wpAnyH_take (i := 1) (v := .int .i64 (i : Int)) rfl (by kernel_rfl) (by kernel_rfl) (by kernel_rfl) (fun _ _ _ h => h) (yields_load (by kernel_rfl) 3 (.tmp 38) rfl _ _ rfl (fun y hy => load_slot y i hi hy)) hHeld ?_
    try simp only [Act.put]
    refine wpAnyH_take (i := 2) (v := .agg (chA c)) rfl (by kernel_rfl) (by kernel_rfl) (by kernel_rfl) (fun _ _ _ h => h) (yields_load (by kernel_rfl) 57 (.tmp 4) rfl _ _ rfl (fun y hy => load_ch y hy)) hHeld ?_
    try simp only [Act.put]
    refine wpAnyH_take (i := 4) (v := .pointer (some ⟨w.heap.size, 1, none⟩)) rfl (by kernel_rfl) (by kernel_rfl) (by kernel_rfl) (fun _ _ _ h => h) (Or.inl ⟨by kernel_rfl, fun w hSw => by go_simp⟩) hHeld ?_
    try simp only [Act.put]
    refine wpAnyH_ready (rs := [3]) (by kernel_rfl) (by simp) ?_
    refine AllReadyH.cons rfl (fun K hK => ?_) AllReadyH.nil
    go_simp
    refine (made_any c _).mono ?_
    rintro e w5 ⟨rfl, hb5⟩
    have H5 := hide (H3.out.drew.later hb5)
    clear hb5 H3
    go_wp2_with fail
    refine hK.out _ _ H5.out.2.1 (fun hHeld5 => ?_)
    clear hK K
    try simp only [Act.put]
    refine wpAnyH_take (i := 5) (v := .pointer (some ⟨w.heap.size, 1 + i * 2, none⟩)) rfl (by kernel_rfl) (by kernel_rfl) (by kernel_rfl) (fun _ _ _ h => h) (Or.inl ⟨by kernel_rfl, fun w hSw => by go_simp⟩) hHeld5 ?_
    try simp only [Act.put]
    have q1 := H5.out.1.used i hi8
    have q2 := H5.out.1.val i hi8
    have s1 := H5.out.1.free (1 + i * 2)
    have s2 := H5.out.1.free (1 + i * 2 + 1)
    have HN := hide (put_mem H5.out hi8 l c.makeU c.makeV)
    have hHeld6 := hide (show ChAt ((w5.setCell ⟨w.heap.size, 1 + i * 2, none⟩ (.bool c.makeU)).setCell ⟨w.heap.size, 1 + i * 2 + 1, none⟩ (.string c.makeV)) gc c from (RowAt.other (RowAt.other (show RowAt _ gc 57 (chA c) from H5.out.2.1) _ _ (by have := H5.out.2.2.2.2; simp; omega)) _ _ (by have := H5.out.2.2.2.2; simp; omega)))
    simp only [ceA]
    refine wpAnyH_ready (rs := [6]) (by kernel_rfl) (by simp) ?_
    refine AllReadyH.cons rfl (fun K hK => ?_) AllReadyH.nil
    go_simp
    refine hK.out _ _ hHeld6.out (fun _ => ?_)
    clear hK K
    try simp only [Act.put]
    refine wpAnyH_done (by kernel_rfl) ?_ _
    refine NoPanic.normal ?_
    have t3 := H5.out.1.free 0
    have t4 := H5.out.1.lsn
    clear hHeld hHeld5 hHeld6 H5
    go_wp2_with (first | (refine wpList_load_page ?hw (.tmp 3) ?ho w.heap.size ?hx (p.put l i c.makeU c.makeV) ?hg ?_; (case ho => rfl); (case hw => rfl); (case hx => rfl); (case hg => exact HN.out.1)) | (refine wpList_store_page ?hw (.tmp 6) (.tmp 46) ?ho gr Pg.zero (p.put l i c.makeU c.makeV) ?hx ?hy ?hg ?_; (case ho => rfl); (case hw => rfl); (case hx => rfl); (case hy => rfl); (case hg => exact HN.out.2.1)))
    intro w7 hP7 hk
    have HP7 := hide hP7
    have d7 := hk _ _ HN.out.2.2.1 (by have := HN.out.2.2.2; omega)
    clear hP7 hk HN q1 q2 s1 s2 t3 t4
    go_wp2
    exact bodyPost_ret (res_page rfl _ _ gr _ rfl HP7.out) rfl ⟨rfl, d7⟩
  · have hz := HE1.out h0
    subst hz
    have k0 : (er == 0) = false := by simpa using h0
    clear HE0 HE1 h0
    go_wp2_with (refine wpList_store_page rfl _ _ rfl gr Pg.zero Pg.zero rfl rfl H3.out.2.2.1 ?_)
    intro w7 hP7 hk
    have HP7 := hide hP7
    have d7 := hk _ _ H3.out.2.2.2.1 (by have := H3.out.2.2.2.2; omega)
    clear hP7 hk H3
    go_wp2
    exact bodyPost_ret (res_page rfl _ _ gr Pg.zero rfl HP7.out) rfl ⟨rfl, d7⟩
end Go.Proofs.Ytfeghhgniahfkaa
