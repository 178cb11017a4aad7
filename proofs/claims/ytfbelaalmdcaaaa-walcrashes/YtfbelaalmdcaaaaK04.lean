/-
  Texts that lean on one another, one behind the other: each opens with its own remark.
-/
import Derived.WalkKit
import Derived.OpenShut
import Derived.ShutString
import Derived.SizedLaws
import Derived.ChangeOld
import Derived.Deep.Slices
import Derived.Lib.SmallJoins
import Derived.Test.YtfbelaalmdcaaaaRows
import Derived.Test.YtfbelaalmdcaaaaProg
import Derived.WalkSpells
import Derived.Test.YtfbelaalmdcaaaaK00

/-
  A slice that came in, by its cells: what a walk is told of it. Of no program.
-/
namespace Go.Proofs.Ytfbelaalmdcaaaa
open Go.RowKit
set_option linter.unusedVariables false

/-- A slice value of so many elements, each of 'sz' cells: element i's cell k holds 'f i k'. -/
def IsRow (w : World) (a : Option Addr) (len sz : Nat) (f : Nat → Nat → Value) : Prop :=
  0 < len → ∃ b off, a = some ⟨b, off, none⟩ ∧ b < w.heap.size ∧ ∀ i k, i < len → k < sz → w.cell? ⟨b, off + (i * sz + k), none⟩ = some (f i k)

theorem IsRow.below {w w' : World} {a : Option Addr} {len sz B : Nat} {f : Nat → Nat → Value} (h : IsRow w a len sz f) (hB : w.heap.size ≤ B) (hb : Below B w w') : IsRow w' a len sz f := by
  intro hp
  obtain ⟨b, off, ha, hlt, hc⟩ := h hp
  exact ⟨b, off, ha, Nat.lt_of_lt_of_le hlt hb.size, fun i k hi hk => (hb.cell (p := ⟨b, off + (i * sz + k), none⟩) (Nat.lt_of_lt_of_le hlt hB)).trans (hc i k hi hk)⟩
end Go.Proofs.Ytfbelaalmdcaaaa

/-
  How an argument that is a slice of plain things, or a struct by value, is opened: of no program.
-/
namespace Go.Proofs.Ytfbelaalmdcaaaa
open Go.ChangeShapes Go.WideShapes Go.ChangeAt Go.RowKit Go.Deep Go.Joins
set_option linter.unusedVariables false

section
variable {H : Type} {enc : TypeId × Value → H} {P : Program} {W : World}

theorem trod_places {t : TypeId} {v : Value} {d : DataW H} {p : List MemPlace} (h : DataW.Trod enc P W 0 (fun _ => true) true t v d p) : ∀ x ∈ p, x.block < W.heap.size := by
  obtain ⟨m, hm⟩ := h
  exact DataW.trod_lt m _ _ _ hm

theorem sized_each {ts : List TypeId} {ds : List (DataW H)} {j : Nat} {t : TypeId} {d : DataW H} (h : (DataW.weightsEach P ts ds).all (· ≤ reachBytes) = true) (ht : ts[j]? = some t) (hd : ds[j]? = some d) : ∀ n ∈ d.weights P t, n ≤ reachBytes := by
  intro n hn
  have := List.all_eq_true.1 h _ (DataW.weights_mem_each ht hd n hn)
  simpa using this

/-- A slice's outer form as data. -/
def SlForm (d : DataW H) (len cap : Nat) : Prop := (d = .nil ∧ len = 0 ∧ cap = 0) ∨ ∃ es sp, d = .slice es sp ∧ es.length = len ∧ es.length + sp.length = cap

theorem SlForm.sized {d : DataW H} {len cap : Nat} {t e : TypeId} (h : SlForm d len cap) (ht : P.underlying t = some (.slice e)) (hb : 1 ≤ P.bytesOf e) (hs : ∀ n ∈ d.weights P t, n ≤ reachBytes) : len ≤ 140737488351232 := by
  rcases h with ⟨_, rfl, _⟩ | ⟨es, sp, rfl, h1, h2⟩
  · omega
  · have h3 := hs ((es.length + sp.length) * P.bytesOf e) (by simp [DataW.weights, ht])
    have h4 : (es.length + sp.length) * 1 ≤ (es.length + sp.length) * P.bytesOf e := Nat.mul_le_mul_left _ hb
    have h5 : reachBytes = 140737488351232 := rfl
    omega

/-- A slice opened: each element's cells by a way to read an element. -/
theorem open_rows {α : Type} [Inhabited α] {t e : TypeId} {sz : Nat} {v : Value} {d : DataW H} {p : List MemPlace} {r : Reach} {b0 : Nat} (F : α → Nat → Value) (G : α → Prop)
    (hel : ∀ n cs y, DataW.trod enc P W 0 (fun _ => true) true n e cs = some y → ∃ x, G x ∧ ∀ k, k < sz → cs[k]? = some (F x k))
    (ht : P.underlying t = some (.slice e)) (hsz : P.cellsOf e = sz) (hpos : 0 < sz) (hv : Value.okWide P W r b0 t v) (h : DataW.Trod enc P W 0 (fun _ => true) true t v d p) :
    ∃ (a : Option Addr) (len cap : Nat) (f : Nat → α), v = .slice a len cap ∧ SlForm d len cap ∧ len ≤ cap ∧ (a = none → cap = 0) ∧ (∀ i, i < cap → G (f i)) ∧ IsRow W a len sz (fun i k => F (f i) k) := by
  obtain ⟨a, len, cap, rfl⟩ := okWide_slice ht hv
  obtain ⟨fuel, hf⟩ := h
  rcases open_slice ht hf with ⟨hcs, hx⟩ | ⟨x, l, c, m, n, D, Pl, hcs, _, hl, hm, hmm, hx, hall⟩
  · simp [Value.cells] at hcs
    obtain ⟨rfl, rfl, rfl⟩ := hcs
    simp only [Prod.mk.injEq] at hx
    exact ⟨none, 0, 0, fun _ => default, rfl, .inl ⟨hx.1, rfl, rfl⟩, Nat.le_refl _, fun _ => rfl, fun i hi => absurd hi (by omega), fun h => absurd h (by omega)⟩
  · simp [Value.cells] at hcs
    obtain ⟨rfl, rfl, rfl⟩ := hcs
    simp only [if_true] at hmm
    subst hmm
    simp only [Prod.mk.injEq] at hx
    obtain ⟨f, hf2⟩ := choose_lt (α := α) (p := fun i y => G y ∧ ∀ k, k < sz → W.cell? (x.add (i * sz + k)) = some (F y k)) (fun i hi => by
      obtain ⟨cs', h1, h2⟩ := hall i hi
      obtain ⟨y, hG, hF⟩ := hel _ _ _ h2
      rw [hsz] at h1
      obtain ⟨_, _, h3⟩ := World.cells?_some h1
      refine ⟨y, hG, fun k hk => ?_⟩
      have h4 := h3 k hk
      rw [hF k hk] at h4
      rw [← h4, Addr.add_add])
    refine ⟨some x, len, m, f, rfl, .inr ⟨_, _, hx.1, by simp, by simp; omega⟩, hl, (fun h => nomatch h), fun i hi => (hf2 i hi).1, fun hp => ?_⟩
    have hc0 := (hf2 0 (by omega)).2 0 hpos
    obtain ⟨b, off, spot⟩ := x
    have hspot : spot = none := by simpa [Addr.add] using World.cell?_spot hc0
    subst hspot
    refine ⟨b, off, rfl, ?_, fun i k hi hk => ?_⟩
    · have := World.block_lt_of_cell? W _ hc0
      simpa [Addr.add] using this
    · have := (hf2 i (by omega)).2 k hk
      rw [Addr.add_lit] at this
      exact this

/-- .. with a property of all places, also of those behind its end. -/
theorem open_rows_all {α : Type} [Inhabited α] {t e : TypeId} {sz : Nat} {v : Value} {d : DataW H} {p : List MemPlace} {r : Reach} {b0 : Nat} (F : α → Nat → Value) (G : α → Prop) (hd : G default)
    (hel : ∀ n cs y, DataW.trod enc P W 0 (fun _ => true) true n e cs = some y → ∃ x, G x ∧ ∀ k, k < sz → cs[k]? = some (F x k))
    (ht : P.underlying t = some (.slice e)) (hsz : P.cellsOf e = sz) (hpos : 0 < sz) (hv : Value.okWide P W r b0 t v) (h : DataW.Trod enc P W 0 (fun _ => true) true t v d p) :
    ∃ (a : Option Addr) (len cap : Nat) (f : Nat → α), v = .slice a len cap ∧ SlForm d len cap ∧ len ≤ cap ∧ (a = none → cap = 0) ∧ (∀ i, G (f i)) ∧ IsRow W a len sz (fun i k => F (f i) k) := by
  obtain ⟨a, len, cap, f, h1, h2, h3, h4, h5, h6⟩ := open_rows F G hel ht hsz hpos hv h
  refine ⟨a, len, cap, fun i => if i < cap then f i else default, h1, h2, h3, h4, fun i => ?_, fun hp => ?_⟩
  · by_cases hi : i < cap
    · simp only [if_pos hi]
      exact h5 i hi
    · simp only [if_neg hi]
      exact hd
  · obtain ⟨b, off, ha, hb, hc⟩ := h6 hp
    refine ⟨b, off, ha, hb, fun i k hi hk => ?_⟩
    have hi2 : i < cap := by omega
    rw [hc i k hi hk]
    simp only [if_pos hi2]

theorem elem_bool {e : TypeId} (he : P.underlying e = some .bool) (n : Nat) (cs : List Value) (y : DataW H × List MemPlace) (h : DataW.trod enc P W 0 (fun _ => true) true n e cs = some y) : ∃ x : Bool, True ∧ ∀ k, k < 1 → cs[k]? = some (Value.bool x) := by
  obtain ⟨b, rfl, _⟩ := DataW.trod_bool he h
  refine ⟨b, trivial, fun k hk => ?_⟩
  obtain rfl : k = 0 := by omega
  rfl

theorem elem_int {e : TypeId} {q : IntKind} (he : P.underlying e = some (.int q)) (n : Nat) (cs : List Value) (y : DataW H × List MemPlace) (h : DataW.trod enc P W 0 (fun _ => true) true n e cs = some y) : ∃ x : Int, (Lit.int q x).wf = true ∧ ∀ k, k < 1 → cs[k]? = some (Value.int q x) := by
  obtain ⟨b, rfl, _, hw⟩ := DataW.trod_int he h
  refine ⟨b, hw, fun k hk => ?_⟩
  obtain rfl : k = 0 := by omega
  rfl
end
end Go.Proofs.Ytfbelaalmdcaaaa

/-
  A list of structs that comes in as an argument, opened. Of no program.
-/
namespace Go.Proofs.Ytfbelaalmdcaaaa
open Go.ChangeShapes Go.WideShapes Go.ChangeAt Go.RowKit Go.Deep Go.Joins
set_option linter.unusedVariables false

theorem u64_nat {i : Int} (h : (Lit.int .u64 i).wf = true) : ∃ n : Nat, i = (n : Int) := by
  have := (bounds_u64 h).1
  exact ⟨i.toNat, by omega⟩

section
variable {H : Type} {enc : TypeId × Value → H} {W : World}

theorem trod_st3 {P : Program} {t : TypeId} {f0 f1 f2 : Field} {fuel : Nat} {cs : List Value} {x : DataW H × List MemPlace} (ht : P.underlying t = some (.struct #[f0, f1, f2])) (h : DataW.trod enc P W 0 (fun _ => true) true fuel t cs = some x) :
    ∃ y0 y1 y2 n, cs.length = P.cellsOf t ∧ DataW.trod enc P W 0 (fun _ => true) true n f0.type ((cs.drop f0.offset).take (P.cellsOf f0.type)) = some y0 ∧ DataW.trod enc P W 0 (fun _ => true) true n f1.type ((cs.drop f1.offset).take (P.cellsOf f1.type)) = some y1 ∧ DataW.trod enc P W 0 (fun _ => true) true n f2.type ((cs.drop f2.offset).take (P.cellsOf f2.type)) = some y2 := by
  obtain ⟨xs, n, _, rfl, hl, hlen, hf⟩ := DataW.trod_struct ht h
  match xs, hlen with
  | [y0, y1, y2], _ => exact ⟨y0, y1, y2, n, hl, by simpa using hf 0 f0 rfl, by simpa using hf 1 f1 rfl, by simpa using hf 2 f2 rfl⟩

theorem trod_st2 {P : Program} {t : TypeId} {f0 f1 : Field} {fuel : Nat} {cs : List Value} {x : DataW H × List MemPlace} (ht : P.underlying t = some (.struct #[f0, f1])) (h : DataW.trod enc P W 0 (fun _ => true) true fuel t cs = some x) :
    ∃ y0 y1 n, cs.length = P.cellsOf t ∧ DataW.trod enc P W 0 (fun _ => true) true n f0.type ((cs.drop f0.offset).take (P.cellsOf f0.type)) = some y0 ∧ DataW.trod enc P W 0 (fun _ => true) true n f1.type ((cs.drop f1.offset).take (P.cellsOf f1.type)) = some y1 := by
  obtain ⟨xs, n, _, rfl, hl, hlen, hf⟩ := DataW.trod_struct ht h
  match xs, hlen with
  | [y0, y1], _ => exact ⟨y0, y1, n, hl, by simpa using hf 0 f0 rfl, by simpa using hf 1 f1 rfl⟩

theorem trod_st5 {P : Program} {t : TypeId} {f0 f1 f2 f3 f4 : Field} {fuel : Nat} {cs : List Value} {x : DataW H × List MemPlace} (ht : P.underlying t = some (.struct #[f0, f1, f2, f3, f4])) (h : DataW.trod enc P W 0 (fun _ => true) true fuel t cs = some x) :
    ∃ y0 y1 y2 y3 y4 n, cs.length = P.cellsOf t ∧ DataW.trod enc P W 0 (fun _ => true) true n f0.type ((cs.drop f0.offset).take (P.cellsOf f0.type)) = some y0 ∧ DataW.trod enc P W 0 (fun _ => true) true n f1.type ((cs.drop f1.offset).take (P.cellsOf f1.type)) = some y1 ∧ DataW.trod enc P W 0 (fun _ => true) true n f2.type ((cs.drop f2.offset).take (P.cellsOf f2.type)) = some y2 ∧ DataW.trod enc P W 0 (fun _ => true) true n f3.type ((cs.drop f3.offset).take (P.cellsOf f3.type)) = some y3 ∧ DataW.trod enc P W 0 (fun _ => true) true n f4.type ((cs.drop f4.offset).take (P.cellsOf f4.type)) = some y4 := by
  obtain ⟨xs, n, _, rfl, hl, hlen, hf⟩ := DataW.trod_struct ht h
  match xs, hlen with
  | [y0, y1, y2, y3, y4], _ => exact ⟨y0, y1, y2, y3, y4, n, hl, by simpa using hf 0 f0 rfl, by simpa using hf 1 f1 rfl, by simpa using hf 2 f2 rfl, by simpa using hf 3 f3 rfl, by simpa using hf 4 f4 rfl⟩

theorem trod_st10 {P : Program} {t : TypeId} {f0 f1 f2 f3 f4 f5 f6 f7 f8 f9 : Field} {fuel : Nat} {cs : List Value} {x : DataW H × List MemPlace} (ht : P.underlying t = some (.struct #[f0, f1, f2, f3, f4, f5, f6, f7, f8, f9])) (h : DataW.trod enc P W 0 (fun _ => true) true fuel t cs = some x) :
    ∃ y0 y1 y2 y3 y4 y5 y6 y7 y8 y9 n, cs.length = P.cellsOf t ∧ DataW.trod enc P W 0 (fun _ => true) true n f0.type ((cs.drop f0.offset).take (P.cellsOf f0.type)) = some y0 ∧ DataW.trod enc P W 0 (fun _ => true) true n f1.type ((cs.drop f1.offset).take (P.cellsOf f1.type)) = some y1 ∧ DataW.trod enc P W 0 (fun _ => true) true n f2.type ((cs.drop f2.offset).take (P.cellsOf f2.type)) = some y2 ∧ DataW.trod enc P W 0 (fun _ => true) true n f3.type ((cs.drop f3.offset).take (P.cellsOf f3.type)) = some y3 ∧ DataW.trod enc P W 0 (fun _ => true) true n f4.type ((cs.drop f4.offset).take (P.cellsOf f4.type)) = some y4 ∧ DataW.trod enc P W 0 (fun _ => true) true n f5.type ((cs.drop f5.offset).take (P.cellsOf f5.type)) = some y5 ∧ DataW.trod enc P W 0 (fun _ => true) true n f6.type ((cs.drop f6.offset).take (P.cellsOf f6.type)) = some y6 ∧ DataW.trod enc P W 0 (fun _ => true) true n f7.type ((cs.drop f7.offset).take (P.cellsOf f7.type)) = some y7 ∧ DataW.trod enc P W 0 (fun _ => true) true n f8.type ((cs.drop f8.offset).take (P.cellsOf f8.type)) = some y8 ∧ DataW.trod enc P W 0 (fun _ => true) true n f9.type ((cs.drop f9.offset).take (P.cellsOf f9.type)) = some y9 := by
  obtain ⟨xs, n, _, rfl, hl, hlen, hf⟩ := DataW.trod_struct ht h
  match xs, hlen with
  | [y0, y1, y2, y3, y4, y5, y6, y7, y8, y9], _ => exact ⟨y0, y1, y2, y3, y4, y5, y6, y7, y8, y9, n, hl, by simpa using hf 0 f0 rfl, by simpa using hf 1 f1 rfl, by simpa using hf 2 f2 rfl, by simpa using hf 3 f3 rfl, by simpa using hf 4 f4 rfl, by simpa using hf 5 f5 rfl, by simpa using hf 6 f6 rfl, by simpa using hf 7 f7 rfl, by simpa using hf 8 f8 rfl, by simpa using hf 9 f9 rfl⟩

theorem op_rows {α : Type} (f : α → Array Value) (z : α) (G : α → Prop) {P : Program} {t e : TypeId} {sz fuel : Nat} {c : Value} {x : DataW H × List MemPlace} (hel : ∀ n cs y, DataW.trod enc P W 0 (fun _ => true) true n e cs = some y → ∃ x, cs = (f x).toList ∧ G x)
    (ht : P.underlying t = some (.slice e)) (hsz : P.cellsOf e = sz) (hfz : ∀ x, (f x).size = sz) (hpos : 0 < sz) (h : DataW.trod enc P W 0 (fun _ => true) true fuel t [c] = some x) : ∃ xs, RowsIn f z sz W c xs ∧ xs.length ≤ maxLen ∧ ∀ x ∈ xs, G x := by
  rcases open_slice ht h with ⟨hcs, _⟩ | ⟨a, len, cap, m, n, D, Pl, hcs, _, hl, hm, hmm, _, hall⟩
  · simp only [List.cons.injEq, and_true] at hcs
    exact ⟨[], ⟨none, 0, hcs, fun h => absurd h (by simp)⟩, Nat.zero_le _, fun x hx => nomatch hx⟩
  · simp only [List.cons.injEq, and_true] at hcs
    subst hcs
    simp only [if_true] at hmm
    subst hmm
    have : Nonempty α := ⟨z⟩
    obtain ⟨g, hg⟩ := @choose_lt α ⟨z⟩ m (fun i y => G y ∧ ∀ k, k < sz → W.cell? (a.add (i * sz + k)) = (f y).toList[k]?) (fun i hi => by
      obtain ⟨cs', h1, h2⟩ := hall i hi
      obtain ⟨y, rfl, hG⟩ := hel _ _ _ h2
      rw [hsz] at h1
      obtain ⟨_, _, h3⟩ := World.cells?_some h1
      refine ⟨y, hG, fun k hk => ?_⟩
      rw [← h3 k hk, Addr.add_add])
    have hL : ((List.range len).map g).length = len := by simp
    refine ⟨(List.range len).map g, ⟨some a, m, by rw [hL], fun hp => ?_⟩, by rw [hL]; omega, fun x hx => by
      obtain ⟨i, hi, rfl⟩ := List.mem_map.1 hx
      exact (hg i (by have := List.mem_range.1 hi; omega)).1⟩
    rw [hL] at hp
    have hf0 : ∀ y k, k < sz → ∃ v, (f y).toList[k]? = some v := fun y k hk => ⟨_, List.getElem?_eq_getElem (by rw [Array.length_toList, hfz]; exact hk)⟩
    have hc0 := (hg 0 (by omega)).2 0 hpos
    obtain ⟨v0, hv0⟩ := hf0 (g 0) 0 hpos
    rw [hv0] at hc0
    obtain ⟨b, off, spot⟩ := a
    have hspot : spot = none := by simpa [Addr.add] using World.cell?_spot hc0
    subst hspot
    refine ⟨b, off, rfl, ?_, fun i hi j v hv => ?_⟩
    · have := World.block_lt_of_cell? W _ hc0
      simpa [Addr.add] using this
    · rw [hL] at hi
      have hget : ((List.range len).map g).getD i z = g i := by
        rw [List.getD_eq_getElem?_getD, List.getElem?_map, List.getElem?_range hi]
        rfl
      rw [hget] at hv
      have hj : j < sz := by
        have := (List.getElem?_eq_some_iff.1 hv).1
        rw [Array.length_toList, hfz] at this
        exact this
      have := (hg i (by omega)).2 j hj
      rw [Addr.add_lit, hv] at this
      rw [← this, Nat.add_assoc]

/-- A slice's length is within its capacity. -/
theorem op_cap {P : Program} {t e : TypeId} {c : Value} {fuel : Nat} {x : DataW H × List MemPlace} (ht : P.underlying t = some (.slice e)) (h : DataW.trod enc P W 0 (fun _ => true) true fuel t [c] = some x) {a : Option Addr} {len cap : Nat} (hc : c = .slice a len cap) : len ≤ cap ∧ (a = none → cap = 0) := by
  rcases open_slice ht h with ⟨hcs, _⟩ | ⟨a', len', cap', m, n, D, Pl, hcs, _, hl, hm, hmm, _, hall⟩
  · simp only [List.cons.injEq, and_true] at hcs
    rw [hc] at hcs
    injection hcs with h1 h2 h3
    subst h1 h2 h3
    exact ⟨Nat.le_refl _, fun _ => rfl⟩
  · simp only [List.cons.injEq, and_true] at hcs
    rw [hc] at hcs
    injection hcs with h1 h2 h3
    subst h1 h2 h3
    simp only [if_true] at hmm
    exact ⟨by omega, fun h => (nomatch h)⟩
end
end Go.Proofs.Ytfbelaalmdcaaaa

/-
  A record that comes in by value, opened.
-/
namespace Go.Proofs.Ytfbelaalmdcaaaa
open Go.ChangeShapes Go.WideShapes Go.ChangeAt Go.RowKit Go.Deep Go.Joins
set_option linter.unusedVariables false

section
variable {H : Type} {enc : TypeId × Value → H} {W : World}

set_option maxRecDepth 40000 in
theorem elem_ch (n : Nat) (cs : List Value) (y : DataW H × List MemPlace) (h : DataW.trod enc Try.prog W 0 (fun _ => true) true n 39 cs = some y) : ∃ c : Ch, cs = (chA c).toList ∧ c.fits := by
  obtain ⟨y0, y1, y2, y3, y4, m, hl, h0, h1, h2, h3, h4⟩ := trod_st5 Try.underlying39 h
  have hC : Try.prog.cellsOf 39 = 5 := by kernel_rfl
  rw [hC] at hl
  match cs, hl with
  | [c0, c1, c2, c3, c4], _ =>
    have e0 : Try.prog.cellsOf 3 = 1 := by kernel_rfl
    have e1 : Try.prog.cellsOf 9 = 1 := by kernel_rfl
    simp only [e0, e1, List.drop_zero, List.drop_succ_cons, List.take_succ_cons, List.take_zero] at h0 h1 h2 h3 h4
    obtain ⟨i0, g0, _, w0⟩ := DataW.trod_int Try.underlying3 h0
    obtain ⟨i1, g1, _, w1⟩ := DataW.trod_int Try.underlying3 h1
    obtain ⟨i2, g2, _, w2⟩ := DataW.trod_int Try.underlying3 h2
    obtain ⟨i3, g3, _, w3⟩ := DataW.trod_string Try.underlying9 h3
    obtain ⟨i4, g4, _, w4⟩ := DataW.trod_string Try.underlying9 h4
    simp only [List.cons.injEq, and_true] at g0 g1 g2 g3 g4
    subst g0 g1 g2 g3 g4
    exact ⟨⟨i0, i1, i2, i3, i4⟩, rfl, w0, w1, w2, w3, w4⟩

set_option maxRecDepth 40000 in
theorem elem_tx (n : Nat) (cs : List Value) (y : DataW H × List MemPlace) (h : DataW.trod enc Try.prog W 0 (fun _ => true) true n 81 cs = some y) : ∃ c : Tx, cs = (txA c).toList ∧ c.fits := by
  obtain ⟨y0, y1, y2, y3, y4, m, hl, h0, h1, h2, h3, h4⟩ := trod_st5 Try.underlying81 h
  have hC : Try.prog.cellsOf 81 = 5 := by kernel_rfl
  rw [hC] at hl
  match cs, hl with
  | [c0, c1, c2, c3, c4], _ =>
    have e0 : Try.prog.cellsOf 3 = 1 := by kernel_rfl
    have e1 : Try.prog.cellsOf 31 = 1 := by kernel_rfl
    simp only [e0, e1, List.drop_zero, List.drop_succ_cons, List.take_succ_cons, List.take_zero] at h0 h1 h2 h3 h4
    obtain ⟨i0, g0, _, w0⟩ := DataW.trod_int Try.underlying3 h0
    obtain ⟨i1, g1, _, w1⟩ := DataW.trod_int Try.underlying3 h1
    obtain ⟨i2, g2, _, w2⟩ := DataW.trod_int Try.underlying31 h2
    obtain ⟨i3, g3, _, w3⟩ := DataW.trod_int Try.underlying31 h3
    obtain ⟨i4, g4, _, w4⟩ := DataW.trod_int Try.underlying31 h4
    simp only [List.cons.injEq, and_true] at g0 g1 g2 g3 g4
    subst g0 g1 g2 g3 g4
    obtain ⟨j2, rfl⟩ := u64_nat w2
    obtain ⟨j3, rfl⟩ := u64_nat w3
    obtain ⟨j4, rfl⟩ := u64_nat w4
    exact ⟨⟨i0, i1, j2, j3, j4⟩, rfl, w0, w1, w2, w3, w4⟩

set_option maxRecDepth 40000 in
theorem elem_di (n : Nat) (cs : List Value) (y : DataW H × List MemPlace) (h : DataW.trod enc Try.prog W 0 (fun _ => true) true n 83 cs = some y) : ∃ c : Di, cs = (diA c).toList ∧ c.fits := by
  obtain ⟨y0, y1, m, hl, h0, h1⟩ := trod_st2 Try.underlying83 h
  have hC : Try.prog.cellsOf 83 = 2 := by kernel_rfl
  rw [hC] at hl
  match cs, hl with
  | [c0, c1], _ =>
    have e0 : Try.prog.cellsOf 3 = 1 := by kernel_rfl
    have e1 : Try.prog.cellsOf 31 = 1 := by kernel_rfl
    simp only [e0, e1, List.drop_zero, List.drop_succ_cons, List.take_succ_cons, List.take_zero] at h0 h1
    obtain ⟨i0, g0, _, w0⟩ := DataW.trod_int Try.underlying3 h0
    obtain ⟨i1, g1, _, w1⟩ := DataW.trod_int Try.underlying31 h1
    simp only [List.cons.injEq, and_true] at g0 g1
    subst g0 g1
    obtain ⟨j1, rfl⟩ := u64_nat w1
    exact ⟨⟨i0, j1⟩, rfl, w0, w1⟩

set_option maxRecDepth 40000 in
theorem op_record {v : Value} {d : DataW H} {p : List MemPlace} {r : Reach} {b0 : Nat} (hv : Value.okWide Try.prog W r b0 43 v) (h : DataW.Trod enc Try.prog W 0 (fun _ => true) true 43 v d p) :
    ∃ m : Rec × Value × Value, v = .agg (rcA m.1 m.2.1 m.2.2) ∧ m.1.fits ∧ RcIn W m.1 m.2.1 m.2.2 := by
  obtain ⟨cs, rfl, hsz⟩ := okWide_struct Try.underlying43 hv
  have hC : Try.prog.cellsOf 43 = 14 := by kernel_rfl
  rw [hC] at hsz
  obtain ⟨fuel, hf⟩ := h
  obtain ⟨l⟩ := cs
  have hl : l.length = 14 := hsz
  match l, hl with
  | [c0, c1, c2, c3, c4, c5, c6, c7, c8, c9, c10, c11, c12, c13], _ =>
    have ec : (Value.agg ⟨[c0, c1, c2, c3, c4, c5, c6, c7, c8, c9, c10, c11, c12, c13]⟩).cells.toList = [c0, c1, c2, c3, c4, c5, c6, c7, c8, c9, c10, c11, c12, c13] := rfl
    obtain ⟨y0, y1, y2, y3, y4, y5, y6, y7, y8, y9, m, _, h0, h1, h2, h3, h4, h5, h6, h7, h8, h9⟩ := trod_st10 Try.underlying43 hf
    have e0 : Try.prog.cellsOf 3 = 1 := by kernel_rfl
    have e1 : Try.prog.cellsOf 31 = 1 := by kernel_rfl
    have e2 : Try.prog.cellsOf 39 = 5 := by kernel_rfl
    have e3 : Try.prog.cellsOf 40 = 1 := by kernel_rfl
    have e4 : Try.prog.cellsOf 41 = 1 := by kernel_rfl
    simp only [ec, e0, e1, e2, e3, e4, List.drop_zero, List.drop_succ_cons, List.take_succ_cons, List.take_zero] at h0 h1 h2 h3 h4 h5 h6 h7 h8 h9
    obtain ⟨i0, g0, _, w0⟩ := DataW.trod_int Try.underlying3 h0
    obtain ⟨i1, g1, _, w1⟩ := DataW.trod_int Try.underlying31 h1
    obtain ⟨i2, g2, _, w2⟩ := DataW.trod_int Try.underlying3 h2
    obtain ⟨i3, g3, _, w3⟩ := DataW.trod_int Try.underlying31 h3
    obtain ⟨ch, g4, w4⟩ := elem_ch _ _ _ h4
    obtain ⟨i5, g5, _, w5⟩ := DataW.trod_int Try.underlying31 h5
    obtain ⟨i6, g6, _, w6⟩ := DataW.trod_int Try.underlying3 h6
    obtain ⟨i7, g7, _, w7⟩ := DataW.trod_int Try.underlying31 h7
    obtain ⟨ts, g8, w8, u8⟩ := op_rows (sz := 5) txA Tx.zero Tx.fits elem_tx Try.underlying40 (by kernel_rfl) (fun _ => rfl) (by decide) h8
    obtain ⟨ds, g9, w9, u9⟩ := op_rows (sz := 2) diA Di.zero Di.fits elem_di Try.underlying41 (by kernel_rfl) (fun _ => rfl) (by decide) h9
    simp only [chA, List.cons.injEq, and_true] at g0 g1 g2 g3 g4 g5 g6 g7
    obtain ⟨g40, g41, g42, g43, g44⟩ := g4
    subst g0 g1 g2 g3 g40 g41 g42 g43 g44 g5 g6 g7
    obtain ⟨j1, rfl⟩ := u64_nat w1
    obtain ⟨j3, rfl⟩ := u64_nat w3
    obtain ⟨j5, rfl⟩ := u64_nat w5
    obtain ⟨j7, rfl⟩ := u64_nat w7
    exact ⟨(⟨i0, j1, i2, j3, ch, j5, i6, j7, ts, ds⟩, c12, c13), rfl, ⟨w4, w8, w9, u8, u9⟩, g8, g9⟩
end
end Go.Proofs.Ytfbelaalmdcaaaa

/-
  Records in a list that comes in, opened.
-/
namespace Go.Proofs.Ytfbelaalmdcaaaa
open Go.ChangeShapes Go.WideShapes Go.ChangeAt Go.RowKit Go.Deep Go.Joins
set_option linter.unusedVariables false

set_option maxRecDepth 40000 in
/-- A record with the values of its lists, and its cells. -/
def rcF (m : Rec × Value × Value) : Array Value := rcA m.1 m.2.1 m.2.2
set_option maxRecDepth 40000 in
def rcZ : Rec × Value × Value := (Rec.zero, .slice none 0 0, .slice none 0 0)
section
variable {H : Type} {enc : TypeId × Value → H} {W : World}

set_option maxRecDepth 40000 in
theorem elem_rec (n : Nat) (cs : List Value) (y : DataW H × List MemPlace) (h : DataW.trod enc Try.prog W 0 (fun _ => true) true n 43 cs = some y) : ∃ m : Rec × Value × Value, cs = (rcF m).toList ∧ (m.1.fits ∧ RcIn W m.1 m.2.1 m.2.2) := by
  obtain ⟨z0, z1, z2, z3, z4, z5, z6, z7, z8, z9, m', hl, -⟩ := trod_st10 Try.underlying43 h
  have hC : Try.prog.cellsOf 43 = 14 := by kernel_rfl
  rw [hC] at hl
  match cs, hl with
  | [c0, c1, c2, c3, c4, c5, c6, c7, c8, c9, c10, c11, c12, c13], _ =>
    obtain ⟨y0, y1, y2, y3, y4, y5, y6, y7, y8, y9, m, _, h0, h1, h2, h3, h4, h5, h6, h7, h8, h9⟩ := trod_st10 Try.underlying43 h
    have e0 : Try.prog.cellsOf 3 = 1 := by kernel_rfl
    have e1 : Try.prog.cellsOf 31 = 1 := by kernel_rfl
    have e2 : Try.prog.cellsOf 39 = 5 := by kernel_rfl
    have e3 : Try.prog.cellsOf 40 = 1 := by kernel_rfl
    have e4 : Try.prog.cellsOf 41 = 1 := by kernel_rfl
    simp only [e0, e1, e2, e3, e4, List.drop_zero, List.drop_succ_cons, List.take_succ_cons, List.take_zero] at h0 h1 h2 h3 h4 h5 h6 h7 h8 h9
    obtain ⟨i0, g0, _, w0⟩ := DataW.trod_int Try.underlying3 h0
    obtain ⟨i1, g1, _, w1⟩ := DataW.trod_int Try.underlying31 h1
    obtain ⟨i2, g2, _, w2⟩ := DataW.trod_int Try.underlying3 h2
    obtain ⟨i3, g3, _, w3⟩ := DataW.trod_int Try.underlying31 h3
    obtain ⟨ch, g4, w4⟩ := elem_ch _ _ _ h4
    obtain ⟨i5, g5, _, w5⟩ := DataW.trod_int Try.underlying31 h5
    obtain ⟨i6, g6, _, w6⟩ := DataW.trod_int Try.underlying3 h6
    obtain ⟨i7, g7, _, w7⟩ := DataW.trod_int Try.underlying31 h7
    obtain ⟨ts, g8, w8, u8⟩ := op_rows (sz := 5) txA Tx.zero Tx.fits elem_tx Try.underlying40 (by kernel_rfl) (fun _ => rfl) (by decide) h8
    obtain ⟨ds, g9, w9, u9⟩ := op_rows (sz := 2) diA Di.zero Di.fits elem_di Try.underlying41 (by kernel_rfl) (fun _ => rfl) (by decide) h9
    simp only [chA, List.cons.injEq, and_true] at g0 g1 g2 g3 g4 g5 g6 g7
    obtain ⟨g40, g41, g42, g43, g44⟩ := g4
    subst g0 g1 g2 g3 g40 g41 g42 g43 g44 g5 g6 g7
    obtain ⟨j1, rfl⟩ := u64_nat w1
    obtain ⟨j3, rfl⟩ := u64_nat w3
    obtain ⟨j5, rfl⟩ := u64_nat w5
    obtain ⟨j7, rfl⟩ := u64_nat w7
    exact ⟨(⟨i0, j1, i2, j3, ch, j5, i6, j7, ts, ds⟩, c12, c13), rfl, ⟨w4, w8, w9, u8, u9⟩, g8, g9⟩
set_option maxRecDepth 40000 in
/-- A list of records. The mark of its type is wanted: see NOTES, "Stage 7". -/
theorem op_recs {t : TypeId} {c : Value} {fuel : Nat} {x : DataW H × List MemPlace} (ht : Try.prog.underlying t = some (.slice 43)) (h : DataW.trod enc Try.prog W 0 (fun _ => true) true fuel t [c] = some x) :
    ∃ ms : List (Rec × Value × Value), RowsIn rcF rcZ 14 W c ms ∧ ms.length ≤ maxLen ∧ ∀ m ∈ ms, m.1.fits ∧ RcIn W m.1 m.2.1 m.2.2 :=
  op_rows (sz := 14) rcF rcZ (fun m => m.1.fits ∧ RcIn W m.1 m.2.1 m.2.2) elem_rec ht (by kernel_rfl) (fun _ => rfl) (by decide) h
end
end Go.Proofs.Ytfbelaalmdcaaaa

/-
  The contract of quaysideref01.Take: it answers 'takeS' too, over the string's bytes.
-/
namespace Go.Proofs.Ytfbelaalmdcaaaa
open Go.RowKit
set_option linter.unusedVariables false

end Go.Proofs.Ytfbelaalmdcaaaa

/-
  The contract of quaysideref01.TakeText: it answers 'textS' too, over the string's bytes.
-/
namespace Go.Proofs.Ytfbelaalmdcaaaa
open Go.RowKit
set_option linter.unusedVariables false

end Go.Proofs.Ytfbelaalmdcaaaa

/-
  The contracts of quaysideref06's reader.
-/
namespace Go.Proofs.Ytfbelaalmdcaaaa
open Go.RowKit
set_option linter.unusedVariables false

def rdA (b : ByteArray) (k : Nat) (e : Int) : Array Value := #[.string b, .int .i64 (k : Int), .int .i64 e]
theorem grown_refl (w : World) (o : Option Nat) : w.grownBy w o := ⟨rfl, rfl, rfl, Nat.le_refl _, fun _ _ _ => rfl⟩
theorem grown_drew {w x : World} {o : Option Nat} (h : w.grownBy x o) : w.grownBy x.drew o := ⟨h.os, h.tape, h.output, h.size, h.block⟩
theorem grown_set {w x : World} {g j : Nat} (v : Value) (h : w.grownBy x (some g)) : w.grownBy (x.setCell ⟨g, j, none⟩ v) (some g) := by
  have hb : Below 0 x (x.setCell ⟨g, j, none⟩ v) := (Below.refl 0 x).setCell (Nat.zero_le _) _
  refine ⟨hb.os.trans h.os, hb.tape.trans h.tape, hb.output.trans h.output, Nat.le_trans h.size hb.size, fun k hk hn => ?_⟩
  rw [heap_setCell_other x ⟨g, j, none⟩ k v (fun e => hn (by rw [e]))]
  exact h.block k hk hn
theorem grown_any {w x : World} {o : Option Nat} (h : w.grownBy x none) : w.grownBy x o := ⟨h.os, h.tape, h.output, h.size, fun k hk _ => h.block k hk (by simp)⟩
theorem load_s {b j : Nat} (x : World) (s : ByteArray) (h : x.cell? ⟨b, j, none⟩ = some (.string s)) : (Instr.loadAt 9 (.pointer (some ⟨b, j, none⟩))).run Try.prog x = .ok (.string s) x := by go_simp

/-- What 'num' answers, by what 'Take' answers. -/
theorem num_take (b : ByteArray) (s : St) (k w : Nat) (hw : 1 ≤ w ∧ w ≤ 8) (he : s.e = 0) (hk : k ≤ b.size) (hl : b.data.toList.drop k = s.l) :
    (takeS b.data.toList (k : Int) (w : Int)).1 = ((pNum w s).1 : Int) ∧ (takeS b.data.toList (k : Int) (w : Int)).2 = (pNum w s).2.e ∧ ((pNum w s).2.e = 0 → k + w ≤ b.size ∧ b.data.toList.drop (k + w) = (pNum w s).2.l) := by
  have hz := data_length b
  have hll : s.l.length = b.size - k := by rw [← hl, List.length_drop, hz]
  unfold pNum
  rw [if_neg (by simpa using he)]
  by_cases h : w ≤ s.l.length
  · rw [if_pos h, takeS_ok _ _ _ (by omega) (by rw [hz]; omega)]
    refine ⟨?_, rfl, fun _ => ⟨by omega, ?_⟩⟩
    · show ((beAt b.data.toList (k : Int).toNat (w : Int).toNat : Nat) : Int) = ((be (s.l.take w) : Nat) : Int)
      rw [Int.toNat_natCast, Int.toNat_natCast, ← hl]
      rfl
    · show _ = s.l.drop w
      rw [← hl, List.drop_drop]
  · rw [if_neg h, takeS_short _ _ _ (by omega) (by rw [hz]; omega)]
    exact ⟨rfl, rfl, fun h => by cases h⟩

/-- What 'text' answers, by what 'TakeText' answers. -/
theorem text_take (b : ByteArray) (s : St) (k : Nat) (he : s.e = 0) (hk : k ≤ b.size) (hl : b.data.toList.drop k = s.l) :
    ∃ k2 : Nat, (textS b.data.toList (k : Int)).2.1 = (k2 : Int) ∧ k2 ≤ b.size ∧ (⟨(textS b.data.toList (k : Int)).1.toArray⟩ : ByteArray) = (pText s).1 ∧ (textS b.data.toList (k : Int)).2.2 = (pText s).2.e ∧ ((pText s).2.e = 0 → b.data.toList.drop k2 = (pText s).2.l) := by
  have hz := data_length b
  unfold pText
  rw [if_neg (by simpa using he)]
  cases hs : s.l with
  | nil =>
    have hkk : b.size ≤ k := by
      have h := congrArg List.length hl
      rw [hs, List.length_drop, hz] at h
      simp only [List.length_nil] at h
      omega
    rw [textS_short _ _ (by omega) (by rw [hz]; omega)]
    exact ⟨0, rfl, by omega, rfl, rfl, fun h => by cases h⟩
  | cons x l =>
    have hlen : k < b.size := by
      have h := congrArg List.length hl
      rw [hs, List.length_drop, hz, List.length_cons] at h
      omega
    have hll : l.length = b.size - k - 1 := by
      have h := congrArg List.length hl
      rw [hs, List.length_drop, hz, List.length_cons] at h
      omega
    have hx : b.data.toList.getD k 0 = x := by
      have h : (b.data.toList.drop k)[0]? = some x := by rw [hl, hs]; rfl
      rw [List.getElem?_drop, Nat.add_zero] at h
      rw [List.getD, h]
      rfl
    have hd : b.data.toList.drop (k + 1) = l := by
      have h : (b.data.toList.drop k).drop 1 = l := by rw [hl, hs]; rfl
      rwa [List.drop_drop] at h
    simp only
    by_cases hb : x.toNat ≤ l.length
    · rw [if_pos hb, textS_ok _ k x.toNat (by rw [hz]; omega) (by rw [hx]) (by rw [hz]; omega)]
      refine ⟨k + 1 + x.toNat, by show (k : Int) + 1 + (x.toNat : Int) = _; omega, by omega, by rw [hd], rfl, fun _ => ?_⟩
      show _ = l.drop x.toNat
      rw [← hd, List.drop_drop]
    · rw [if_neg hb, textS_few _ k x.toNat (by rw [hz]; omega) (by rw [hx]) (by rw [hz]; omega)]
      exact ⟨0, rfl, by omega, rfl, rfl, fun h => by cases h⟩

theorem grown_trans {w x y : World} {o : Option Nat} (h : w.grownBy x o) (g : x.grownBy y o) : w.grownBy y o :=
  ⟨g.os.trans h.os, g.tape.trans h.tape, g.output.trans h.output, Nat.le_trans h.size g.size, fun k hk hn => (g.block k (Nat.lt_of_lt_of_le hk h.size) hn).trans (h.block k hk hn)⟩

end Go.Proofs.Ytfbelaalmdcaaaa

/-
  The contracts of isTxn, within, rightTxn and rightTxnRow of package record.
-/
namespace Go.Proofs.Ytfbelaalmdcaaaa
open Go.RowKit
set_option linter.unusedVariables false

set_option maxRecDepth 4000 in
set_option maxHeartbeats 800000 in
theorem istxn_at (t : Int) (w : World) (q : Bool) (Hq : Hid (decide (1 ≤ t ∧ t ≤ 1048575) = q)) :
    Calls Try.prog 103 #[.int .i64 t] w fun e w' => e = .returned (.bool q) ∧ w = w' := by
  by_cases h1 : 1 ≤ t
  case neg =>
    obtain rfl : q = false := by rw [← Hq.out]; exact decide_eq_false (fun h => by omega)
    clear Hq
    go_enter Try.func103, Try.ntmps103
    go_wp2
    go_ret
    exact ⟨by (first | rfl | (apply congrArg Ending.returned; apply congrArg Value.bool; first | (apply decide_eq_false; omega) | (apply decide_eq_true; omega))), rfl⟩
  by_cases h2 : t ≤ 1048575
  case neg =>
    obtain rfl : q = false := by rw [← Hq.out]; exact decide_eq_false (fun h => by omega)
    clear Hq
    go_enter Try.func103, Try.ntmps103
    go_wp2
    go_ret
    exact ⟨by (first | rfl | (apply congrArg Ending.returned; apply congrArg Value.bool; first | (apply decide_eq_false; omega) | (apply decide_eq_true; omega))), rfl⟩
  obtain rfl : q = true := by rw [← Hq.out]; exact decide_eq_true (by omega)
  clear Hq
  go_enter Try.func103, Try.ntmps103
  go_wp2
  go_ret
  exact ⟨by (first | rfl | (apply congrArg Ending.returned; apply congrArg Value.bool; first | (apply decide_eq_false; omega) | (apply decide_eq_true; omega))), rfl⟩

set_option maxRecDepth 4000 in
set_option maxHeartbeats 800000 in
theorem within_at (n l : Nat) (w : World) (q : Bool) (Hq : Hid (decide (1 ≤ n ∧ n < l) = q)) :
    Calls Try.prog 91 #[.int .u64 (n : Int), .int .u64 (l : Int)] w fun e w' => e = .returned (.bool q) ∧ w = w' := by
  by_cases h1 : (1 : Int) ≤ (n : Int)
  case neg =>
    obtain rfl : q = false := by rw [← Hq.out]; exact decide_eq_false (fun h => by omega)
    clear Hq
    go_enter Try.func91, Try.ntmps91
    go_wp2
    go_ret
    exact ⟨by (first | rfl | (apply congrArg Ending.returned; apply congrArg Value.bool; first | (apply decide_eq_false; omega) | (apply decide_eq_true; omega))), rfl⟩
  by_cases h2 : (n : Int) < (l : Int)
  case neg =>
    obtain rfl : q = false := by rw [← Hq.out]; exact decide_eq_false (fun h => by omega)
    clear Hq
    go_enter Try.func91, Try.ntmps91
    go_wp2
    go_ret
    exact ⟨by (first | rfl | (apply congrArg Ending.returned; apply congrArg Value.bool; first | (apply decide_eq_false; omega) | (apply decide_eq_true; omega))), rfl⟩
  obtain rfl : q = true := by rw [← Hq.out]; exact decide_eq_true (by omega)
  clear Hq
  go_enter Try.func91, Try.ntmps91
  go_wp2
  go_ret
  exact ⟨by (first | rfl | (apply congrArg Ending.returned; apply congrArg Value.bool; first | (apply decide_eq_false; omega) | (apply decide_eq_true; omega))), rfl⟩

set_option maxRecDepth 4000 in
set_option maxHeartbeats 800000 in
theorem rtxn_at (r : Rec) (va vb : Value) (w : World) (q : Bool) (Hq : Hid (decide (1 ≤ r.t ∧ r.t ≤ 1048575 ∧ r.p < r.l) = q)) :
    Calls Try.prog 89 #[.agg (rcA r va vb)] w fun e w' => e = .returned (.bool q) ∧ Below w.heap.size w w' := by
  have K0 := Keeps.one w 43 (rcA r va vb)
  obtain ⟨-, c1, c2, c3, -⟩ := rc_cells K0.1.1
  have hb0 := K0.2
  clear K0
  by_cases ht : 1 ≤ r.t ∧ r.t ≤ 1048575
  case neg =>
    have H := hide (fun w => istxn_at r.t w false (hide (decide_eq_false ht)))
    obtain rfl : q = false := by rw [← Hq.out]; exact decide_eq_false (fun h => ht ⟨h.1, h.2.1⟩)
    clear Hq ht
    go_enter Try.func89, Try.ntmps89
    go_wp2_with fail
    refine (H.out _).mono ?_
    rintro e w1 ⟨rfl, rfl⟩
    clear H
    go_wp2
    go_ret
    exact ⟨by (first | rfl | (apply congrArg Ending.returned; apply congrArg Value.bool; first | (apply decide_eq_false; omega) | (apply decide_eq_true; omega))), hb0⟩
  have H := hide (fun w => istxn_at r.t w true (hide (decide_eq_true ht)))
  by_cases h3 : (r.p : Int) < (r.l : Int)
  case neg =>
    obtain rfl : q = false := by rw [← Hq.out]; exact decide_eq_false (fun h => by omega)
    clear Hq ht
    go_enter Try.func89, Try.ntmps89
    go_wp2_with fail
    refine (H.out _).mono ?_
    rintro e w1 ⟨rfl, rfl⟩
    clear H
    go_wp2
    go_ret
    exact ⟨by (first | rfl | (apply congrArg Ending.returned; apply congrArg Value.bool; first | (apply decide_eq_false; omega) | (apply decide_eq_true; omega))), hb0⟩
  obtain rfl : q = true := by rw [← Hq.out]; exact decide_eq_true ⟨ht.1, ht.2, by omega⟩
  clear Hq ht
  go_enter Try.func89, Try.ntmps89
  go_wp2_with fail
  refine (H.out _).mono ?_
  rintro e w1 ⟨rfl, rfl⟩
  clear H
  go_wp2
  go_ret
  exact ⟨by (first | rfl | (apply congrArg Ending.returned; apply congrArg Value.bool; first | (apply decide_eq_false; omega) | (apply decide_eq_true; omega))), hb0⟩

def txOkB (l : Nat) (x : Tx) : Bool := @decide (txOk l x) (txOkD l x)
theorem txOkB_iff {l : Nat} {x : Tx} : txOkB l x = true ↔ txOk l x := by
  unfold txOkB
  exact @decide_eq_true_iff _ (txOkD l x)
set_option maxRecDepth 4000 in
set_option maxHeartbeats 1600000 in
theorem rtxrow_at (x : Tx) (l : Nat) (w : World) (q : Bool) (Hq : Hid (q = true ↔ txOk l x)) :
    Calls Try.prog 106 #[.agg (txA x), .int .u64 (l : Int)] w fun e w' => e = .returned (.bool q) ∧ Below w.heap.size w w' := by
  have K0 := Keeps.one w 81 (txA x)
  have c0 := K0.1.1.cell 0 (.int .i64 x.t) rfl
  have c1 := K0.1.1.cell 1 (.int .i64 x.s) rfl
  have c2 := K0.1.1.cell 2 (.int .u64 (x.f : Int)) rfl
  have c3 := K0.1.1.cell 3 (.int .u64 (x.l : Int)) rfl
  have c4 := K0.1.1.cell 4 (.int .u64 (x.n : Int)) rfl
  have hb0 := K0.2
  clear K0
  have HF : Hid (¬ txOk l x → q = false) := fun h => by
    cases q
    · rfl
    · exact absurd (Hq.out.1 rfl) h
  have HT : Hid (txOk l x → q = true) := fun h => Hq.out.2 h
  clear Hq
  by_cases ht : 1 ≤ x.t ∧ x.t ≤ 1048575
  case neg =>
    have H := hide (fun w => istxn_at x.t w false (hide (decide_eq_false ht)))
    obtain rfl := HF.out (fun h => ht ⟨h.1, h.2.1⟩)
    clear HF HT ht
    generalize x.t = xt at *
    generalize x.s = xs at *
    generalize x.f = xf at *
    generalize x.l = xl at *
    generalize x.n = xn at *
    go_enter Try.func106, Try.ntmps106
    go_wp2_with fail
    refine (H.out _).mono ?_
    rintro e w1 ⟨rfl, rfl⟩
    clear H
    go_wp2
    go_ret
    exact ⟨by (first | rfl | (apply congrArg Ending.returned; apply congrArg Value.bool; first | (apply decide_eq_false; omega) | (apply decide_eq_true; omega))), hb0⟩
  have H := hide (fun w => istxn_at x.t w true (hide (decide_eq_true ht)))
  by_cases s1 : 1 ≤ x.s
  case neg =>
    obtain rfl := HF.out (fun h => by obtain ⟨h1, h2, h3, h4, h5, h6, h7, h8⟩ := h; omega)
    clear HF HT ht
    generalize x.t = xt at *
    generalize x.s = xs at *
    generalize x.f = xf at *
    generalize x.l = xl at *
    generalize x.n = xn at *
    go_enter Try.func106, Try.ntmps106
    go_wp2_with fail
    refine (H.out _).mono ?_
    rintro e w1 ⟨rfl, rfl⟩
    clear H
    go_wp2
    go_ret
    exact ⟨by (first | rfl | (apply congrArg Ending.returned; apply congrArg Value.bool; first | (apply decide_eq_false; omega) | (apply decide_eq_true; omega))), hb0⟩
  by_cases s2 : x.s ≤ 3
  case neg =>
    obtain rfl := HF.out (fun h => by obtain ⟨h1, h2, h3, h4, h5, h6, h7, h8⟩ := h; omega)
    clear HF HT ht
    generalize x.t = xt at *
    generalize x.s = xs at *
    generalize x.f = xf at *
    generalize x.l = xl at *
    generalize x.n = xn at *
    go_enter Try.func106, Try.ntmps106
    go_wp2_with fail
    refine (H.out _).mono ?_
    rintro e w1 ⟨rfl, rfl⟩
    clear H
    go_wp2
    go_ret
    exact ⟨by (first | rfl | (apply congrArg Ending.returned; apply congrArg Value.bool; first | (apply decide_eq_false; omega) | (apply decide_eq_true; omega))), hb0⟩
  by_cases f1 : (1 : Int) ≤ (x.f : Int)
  case neg =>
    obtain rfl := HF.out (fun h => by obtain ⟨h1, h2, h3, h4, h5, h6, h7, h8⟩ := h; omega)
    clear HF HT ht
    generalize x.t = xt at *
    generalize x.s = xs at *
    generalize x.f = xf at *
    generalize x.l = xl at *
    generalize x.n = xn at *
    go_enter Try.func106, Try.ntmps106
    go_wp2_with fail
    refine (H.out _).mono ?_
    rintro e w1 ⟨rfl, rfl⟩
    clear H
    go_wp2
    go_ret
    exact ⟨by (first | rfl | (apply congrArg Ending.returned; apply congrArg Value.bool; first | (apply decide_eq_false; omega) | (apply decide_eq_true; omega))), hb0⟩
  by_cases f2 : (x.f : Int) ≤ (x.l : Int)
  case neg =>
    obtain rfl := HF.out (fun h => by obtain ⟨h1, h2, h3, h4, h5, h6, h7, h8⟩ := h; omega)
    clear HF HT ht
    generalize x.t = xt at *
    generalize x.s = xs at *
    generalize x.f = xf at *
    generalize x.l = xl at *
    generalize x.n = xn at *
    go_enter Try.func106, Try.ntmps106
    go_wp2_with fail
    refine (H.out _).mono ?_
    rintro e w1 ⟨rfl, rfl⟩
    clear H
    go_wp2
    go_ret
    exact ⟨by (first | rfl | (apply congrArg Ending.returned; apply congrArg Value.bool; first | (apply decide_eq_false; omega) | (apply decide_eq_true; omega))), hb0⟩
  by_cases l1 : (x.l : Int) < (l : Int)
  case neg =>
    obtain rfl := HF.out (fun h => by obtain ⟨h1, h2, h3, h4, h5, h6, h7, h8⟩ := h; omega)
    clear HF HT ht
    generalize x.t = xt at *
    generalize x.s = xs at *
    generalize x.f = xf at *
    generalize x.l = xl at *
    generalize x.n = xn at *
    go_enter Try.func106, Try.ntmps106
    go_wp2_with fail
    refine (H.out _).mono ?_
    rintro e w1 ⟨rfl, rfl⟩
    clear H
    go_wp2
    go_ret
    exact ⟨by (first | rfl | (apply congrArg Ending.returned; apply congrArg Value.bool; first | (apply decide_eq_false; omega) | (apply decide_eq_true; omega))), hb0⟩
  by_cases n1 : (x.n : Int) ≤ (x.l : Int)
  case neg =>
    obtain rfl := HF.out (fun h => by obtain ⟨h1, h2, h3, h4, h5, h6, h7, h8⟩ := h; omega)
    clear HF HT ht
    generalize x.t = xt at *
    generalize x.s = xs at *
    generalize x.f = xf at *
    generalize x.l = xl at *
    generalize x.n = xn at *
    go_enter Try.func106, Try.ntmps106
    go_wp2_with fail
    refine (H.out _).mono ?_
    rintro e w1 ⟨rfl, rfl⟩
    clear H
    go_wp2
    go_ret
    exact ⟨by (first | rfl | (apply congrArg Ending.returned; apply congrArg Value.bool; first | (apply decide_eq_false; omega) | (apply decide_eq_true; omega))), hb0⟩
  obtain rfl := HT.out ⟨ht.1, ht.2, s1, s2, by omega, by omega, by omega, by omega⟩
  clear HF HT ht
  generalize x.t = xt at *
  generalize x.s = xs at *
  generalize x.f = xf at *
  generalize x.l = xl at *
  generalize x.n = xn at *
  go_enter Try.func106, Try.ntmps106
  go_wp2_with fail
  refine (H.out _).mono ?_
  rintro e w1 ⟨rfl, rfl⟩
  clear H
  go_wp2
  go_ret
  exact ⟨by (first | rfl | (apply congrArg Ending.returned; apply congrArg Value.bool; first | (apply decide_eq_false; omega) | (apply decide_eq_true; omega))), hb0⟩
end Go.Proofs.Ytfbelaalmdcaaaa

/-
  The contract of record.rightTxns.
-/
namespace Go.Proofs.Ytfbelaalmdcaaaa
open Go.RowKit
set_option linter.unusedVariables false

set_option maxRecDepth 4000 in
set_option maxHeartbeats 3200000 in
theorem rtxns_at (va : Value) (xs : List Tx) (l : Nat) (w : World) (q : Bool) (Hq : Hid (q = true ↔ xs.length ≤ 16 ∧ ∀ i, i < xs.length → txAt l xs i)) (hin : TxIn w va xs) :
    Calls Try.prog 92 #[va, .int .u64 (l : Int)] w fun e w' => e = .returned (.bool q) ∧ Below w.heap.size w w' := by
  have HIN := hide hin
  obtain ⟨a1, cap1, rfl, -⟩ := hin
  have hb0 := Below.refl w.heap.size w
  have HF : Hid (¬ (xs.length ≤ 16 ∧ ∀ i, i < xs.length → txAt l xs i) → q = false) := fun h => by
    cases q
    · rfl
    · exact absurd (Hq.out.1 rfl) h
  have HT : Hid (xs.length ≤ 16 ∧ (∀ i, i < xs.length → txAt l xs i) → q = true) := fun h => Hq.out.2 h
  clear Hq
  by_cases hm : 16 < xs.length
  case pos =>
    obtain rfl := HF.out (fun h => by have := h.1; omega)
    have i1 : (16 : Int) < (xs.length : Int) := by omega
    clear HF HT HIN
    generalize xs.length = n1 at *
    go_enter Try.func92, Try.ntmps92
    go_wp2
    go_ret
    exact ⟨rfl, hb0⟩
  have i1 : ¬ (16 : Int) < (xs.length : Int) := by omega
  go_enter Try.func92, Try.ntmps92
  go_wp2
  go_loopw [13, 5] (fun v u wr => ∃ j : Nat, j ≤ xs.length ∧ v = .int .i64 j ∧ (∃ p : Int, u = .int .i64 p ∧ (j = 0 → p = 0) ∧ (0 < j → p = (xs.getD (j - 1) Tx.zero).t)) ∧ Below w.heap.size w wr ∧ ∀ i, i < j → txAt l xs i) (fun v _ _ => xs.length - (intOf v).toNat)
  case atStart => exact ⟨0, Nat.zero_le _, rfl, ⟨0, rfl, fun _ => rfl, fun h => absurd h (by omega)⟩, Below.refl _ _, fun i hi => absurd hi (by omega)⟩
  case round =>
    obtain ⟨j, hj, rfl, ⟨p, rfl, hp0, hp1⟩, hb, hat⟩ := hrel
    have HAT := hide hat
    have HB := hide hb
    have HP0 := hide hp0
    have HP1 := hide hp1
    clear hat hb hb0 hp0 hp1
    by_cases hlt : j < xs.length
    case neg =>
      obtain rfl : j = xs.length := by omega
      obtain rfl := HT.out ⟨by omega, HAT.out⟩
      have d3 := HB.out
      clear HF HT HAT HIN HB HP0 HP1
      go_wp2
      go_ret
      exact ⟨rfl, d3⟩
    have jlt : (j : Int) < (xs.length : Int) := by omega
    obtain ⟨u1, k1, e1, hrow1⟩ := HIN.out.below HB.out
    cases e1
    obtain ⟨b, off, rfl, -, hc⟩ := hrow1 (by omega)
    have HRG := hide (hc j hlt)
    clear hrow1 hc
    obtain ⟨x, hx⟩ : ∃ x, x = xs.getD j Tx.zero := ⟨_, rfl⟩
    have HX := hide hx
    rw [← hx] at HRG
    clear hx
    go_wp2_with (first | (refine wpList_load_mid rfl 81 (.tmp 15) rfl b (off + j * 5) (txA x) rfl HRG.out _ Try.underlying81 rfl infoTx ?_) | (refine wpList_store_at rfl 81 (.tmp 7) (.tmp 16) rfl wr.heap.size (txA Tx.zero) (txA x) rfl rfl (RowAt.new wr 81 (txA Tx.zero)) infoTx rfl (txA_one _) ?_))
    intro w2 hr2 hk2 _
    have HB2 := hide (HB.out.trans ((hk2 _ _ ((Below.refl wr.heap.size wr).alloc (Nat.le_refl _) _) (Nat.le_refl _)).mono HB.out.size))
    have HR2 := hide hr2
    clear hr2 hk2 HB HRG
    generalize wr.heap.size = g at *
    have c0 := HR2.out.cell 0 (.int .i64 x.t) rfl
    by_cases t1 : x.t ≤ p
    case pos =>
      obtain rfl := HF.out (fun h => by
        have h2 := h.2 j hlt
        unfold txAt at h2
        rw [← HX.out] at h2
        by_cases h0 : j = 0
        · have := HP0.out h0
          have := h2.1.1
          omega
        · have := HP1.out (by omega)
          have := h2.2 (by omega)
          omega)
      have d3 := HB2.out
      clear HF HT HAT HIN HB2 HP0 HP1 HX HR2
      generalize x.t = xt at *
      go_wp2
      go_ret
      exact ⟨rfl, d3⟩
    have c1 := HR2.out.cell 1 (.int .i64 x.s) rfl
    have c2 := HR2.out.cell 2 (.int .u64 (x.f : Int)) rfl
    have c3 := HR2.out.cell 3 (.int .u64 (x.l : Int)) rfl
    have c4 := HR2.out.cell 4 (.int .u64 (x.n : Int)) rfl
    by_cases ok : txOk l x
    case neg =>
      obtain rfl := HF.out (fun h => ok (by have h2 := (h.2 j hlt).1; rwa [← HX.out] at h2))
      have H := hide (fun w => rtxrow_at x l w false (hide ⟨fun h => (nomatch h), fun h => absurd h ok⟩))
      have d3 := HB2.out
      clear HF HT HAT HIN HB2 HP0 HP1 HX HR2 ok
      go_wp2_with fail
      refine (H.out _).mono ?_
      rintro e w3 ⟨rfl, hb3⟩
      have d4 := d3.trans (hb3.mono d3.size)
      clear hb3 d3 H c0 c1 c2 c3 c4
      go_wp2
      go_ret
      exact ⟨rfl, d4⟩
    have H := hide (fun w => rtxrow_at x l w true (hide ⟨fun _ => ok, fun _ => rfl⟩))
    have HOK := hide ok
    clear ok
    go_wp2_with fail
    refine (H.out _).mono ?_
    rintro e w3 ⟨rfl, hb3⟩
    have HB3 := hide (HB2.out.trans (hb3.mono HB2.out.size))
    have d0 := (HR2.out.later hb3).cell 0 (.int .i64 x.t) rfl
    clear hb3 H c0 c1 c2 c3 c4 HR2 HB2
    go_wp2
    go_roundw
    case rel =>
      refine ⟨j + 1, by omega, by go_num, ⟨x.t, rfl, fun h => absurd h (by omega), fun _ => by rw [HX.out]; rfl⟩, HB3.out, at_more HAT.out ⟨by rw [← HX.out]; exact HOK.out, fun h => ?_⟩⟩
      rw [← HX.out, ← HP1.out h]
      omega
    case measure => simp [intOf]; omega
end Go.Proofs.Ytfbelaalmdcaaaa

/-
  The contract of record.rightDirty.
-/
namespace Go.Proofs.Ytfbelaalmdcaaaa
open Go.RowKit
set_option linter.unusedVariables false

set_option maxRecDepth 4000 in
set_option maxHeartbeats 3200000 in
theorem rdirty_at (va : Value) (xs : List Di) (l : Nat) (w : World) (q : Bool) (Hq : Hid (q = true ↔ xs.length ≤ 32 ∧ ∀ i, i < xs.length → diAt l xs i)) (hin : DiIn w va xs) :
    Calls Try.prog 93 #[va, .int .u64 (l : Int)] w fun e w' => e = .returned (.bool q) ∧ Below w.heap.size w w' := by
  have HIN := hide hin
  obtain ⟨a1, cap1, rfl, -⟩ := hin
  have hb0 := Below.refl w.heap.size w
  have HF : Hid (¬ (xs.length ≤ 32 ∧ ∀ i, i < xs.length → diAt l xs i) → q = false) := fun h => by
    cases q
    · rfl
    · exact absurd (Hq.out.1 rfl) h
  have HT : Hid (xs.length ≤ 32 ∧ (∀ i, i < xs.length → diAt l xs i) → q = true) := fun h => Hq.out.2 h
  clear Hq
  by_cases hm : 32 < xs.length
  case pos =>
    obtain rfl := HF.out (fun h => by have := h.1; omega)
    have i1 : (32 : Int) < (xs.length : Int) := by omega
    clear HF HT HIN
    generalize xs.length = n1 at *
    go_enter Try.func93, Try.ntmps93
    go_wp2
    go_ret
    exact ⟨rfl, hb0⟩
  have i1 : ¬ (32 : Int) < (xs.length : Int) := by omega
  go_enter Try.func93, Try.ntmps93
  go_wp2
  go_loopw [13, 5] (fun v u wr => ∃ j : Nat, j ≤ xs.length ∧ v = .int .i64 j ∧ (∃ p : Int, u = .int .i64 p ∧ (j = 0 → p = -1) ∧ (0 < j → p = (xs.getD (j - 1) Di.zero).p)) ∧ Below w.heap.size w wr ∧ ∀ i, i < j → diAt l xs i) (fun v _ _ => xs.length - (intOf v).toNat)
  case atStart => exact ⟨0, Nat.zero_le _, rfl, ⟨-1, rfl, fun _ => rfl, fun h => absurd h (by omega)⟩, Below.refl _ _, fun i hi => absurd hi (by omega)⟩
  case round =>
    obtain ⟨j, hj, rfl, ⟨p, rfl, hp0, hp1⟩, hb, hat⟩ := hrel
    have HAT := hide hat
    have HB := hide hb
    have HP0 := hide hp0
    have HP1 := hide hp1
    clear hat hb hb0 hp0 hp1
    by_cases hlt : j < xs.length
    case neg =>
      obtain rfl : j = xs.length := by omega
      obtain rfl := HT.out ⟨by omega, HAT.out⟩
      have d3 := HB.out
      clear HF HT HAT HIN HB HP0 HP1
      go_wp2
      go_ret
      exact ⟨rfl, d3⟩
    have jlt : (j : Int) < (xs.length : Int) := by omega
    obtain ⟨u1, k1, e1, hrow1⟩ := HIN.out.below HB.out
    cases e1
    obtain ⟨b, off, rfl, -, hc⟩ := hrow1 (by omega)
    have HRG := hide (hc j hlt)
    clear hrow1 hc
    obtain ⟨x, hx⟩ : ∃ x, x = xs.getD j Di.zero := ⟨_, rfl⟩
    have HX := hide hx
    rw [← hx] at HRG
    clear hx
    go_wp2_with (first | (refine wpList_load_mid rfl 83 (.tmp 15) rfl b (off + j * 2) (diA x) rfl HRG.out _ Try.underlying83 rfl infoDi ?_) | (refine wpList_store_at rfl 83 (.tmp 7) (.tmp 16) rfl wr.heap.size (diA Di.zero) (diA x) rfl rfl (RowAt.new wr 83 (diA Di.zero)) infoDi rfl (diA_one _) ?_))
    intro w2 hr2 hk2 _
    have HB2 := hide (HB.out.trans ((hk2 _ _ ((Below.refl wr.heap.size wr).alloc (Nat.le_refl _) _) (Nat.le_refl _)).mono HB.out.size))
    have HR2 := hide hr2
    clear hr2 hk2 HB HRG
    generalize wr.heap.size = g at *
    have c0 := HR2.out.cell 0 (.int .i64 x.p) rfl
    have c1 := HR2.out.cell 1 (.int .u64 (x.r : Int)) rfl
    by_cases t1 : x.p ≤ p
    case pos =>
      obtain rfl := HF.out (fun h => by
        have h2 := h.2 j hlt
        unfold diAt at h2
        rw [← HX.out] at h2
        by_cases h0 : j = 0
        · have := HP0.out h0
          have := h2.1.1
          omega
        · have := HP1.out (by omega)
          have := h2.2 (by omega)
          omega)
      have d3 := HB2.out
      clear HF HT HAT HIN HB2 HP0 HP1 HX HR2
      generalize x.p = xp at *
      generalize x.r = xr at *
      go_wp2
      go_ret
      exact ⟨rfl, d3⟩
    by_cases t2 : 32 ≤ x.p
    case pos =>
      obtain rfl := HF.out (fun h => by
        have h2 := (h.2 j hlt).1.2.1
        rw [← HX.out] at h2
        omega)
      have d3 := HB2.out
      clear HF HT HAT HIN HB2 HP0 HP1 HX HR2
      generalize x.p = xp at *
      generalize x.r = xr at *
      go_wp2
      go_ret
      exact ⟨rfl, d3⟩
    by_cases ok : 1 ≤ x.r ∧ x.r < l
    case neg =>
      obtain rfl := HF.out (fun h => ok (by have h2 := (h.2 j hlt).1.2.2; rwa [← HX.out] at h2))
      have H := hide (fun w => within_at x.r l w false (hide (decide_eq_false ok)))
      have d3 := HB2.out
      clear HF HT HAT HIN HB2 HP0 HP1 HX HR2 ok
      go_wp2_with fail
      refine (H.out _).mono ?_
      rintro e w3 ⟨rfl, rfl⟩
      clear H c0 c1
      go_wp2
      go_ret
      exact ⟨rfl, d3⟩
    have H := hide (fun w => within_at x.r l w true (hide (decide_eq_true ok)))
    have HOK := hide ok
    clear ok
    go_wp2_with fail
    refine (H.out _).mono ?_
    rintro e w3 ⟨rfl, rfl⟩
    clear H HR2 c1
    go_wp2
    go_roundw
    case rel =>
      have hp : 0 ≤ x.p := by
        by_cases h0 : j = 0
        · have := HP0.out h0
          omega
        · have h1 := (HAT.out (j - 1) (by omega)).1.1
          rw [← HP1.out (by omega)] at h1
          omega
      refine ⟨j + 1, by omega, by go_num, ⟨x.p, rfl, fun h => absurd h (by omega), fun _ => by rw [HX.out]; rfl⟩, HB2.out, at_more HAT.out ⟨by rw [← HX.out]; exact ⟨hp, by omega, HOK.out⟩, fun h => ?_⟩⟩
      rw [← HX.out, ← HP1.out h]
      omega
    case measure => simp [intOf]; omega
end Go.Proofs.Ytfbelaalmdcaaaa

/-
  The contracts of package change's Right and of what it calls.
-/
namespace Go.Proofs.Ytfbelaalmdcaaaa
open Go.RowKit
set_option linter.unusedVariables false

/-- A page and a slot that can be. -/
abbrev placeOk (pg sl : Int) : Prop := 0 ≤ pg ∧ pg ≤ 31 ∧ 0 ≤ sl ∧ sl ≤ 7

set_option maxRecDepth 4000 in
set_option maxHeartbeats 400000 in
theorem place_at (pg sl : Int) (w : World) (r : Bool) (Hr : Hid (decide (placeOk pg sl) = r)) :
    Calls Try.prog 104 #[.int .i64 pg, .int .i64 sl] w fun e w' => e = .returned (.bool r) ∧ w = w' := by
  by_cases h1 : 0 ≤ pg
  · by_cases h2 : pg < 32
    · by_cases h3 : 0 ≤ sl
      · by_cases h4 : sl < 8
        · obtain rfl : r = true := by rw [← Hr.out]; exact decide_eq_true ⟨h1, by omega, h3, by omega⟩
          clear Hr
          go_enter Try.func104, Try.ntmps104
          go_wp2
          go_ret
          exact ⟨rfl, rfl⟩
        · obtain rfl : r = false := by rw [← Hr.out]; exact decide_eq_false (fun h => by omega)
          clear Hr
          go_enter Try.func104, Try.ntmps104
          go_wp2
          go_ret
          exact ⟨rfl, rfl⟩
      · obtain rfl : r = false := by rw [← Hr.out]; exact decide_eq_false (fun h => by omega)
        clear Hr
        go_enter Try.func104, Try.ntmps104
        go_wp2
        go_ret
        exact ⟨rfl, rfl⟩
    · obtain rfl : r = false := by rw [← Hr.out]; exact decide_eq_false (fun h => by omega)
      clear Hr
      go_enter Try.func104, Try.ntmps104
      go_wp2
      go_ret
      exact ⟨rfl, rfl⟩
  · obtain rfl : r = false := by rw [← Hr.out]; exact decide_eq_false (fun h => by omega)
    clear Hr
    go_enter Try.func104, Try.ntmps104
    go_wp2
    go_ret
    exact ⟨rfl, rfl⟩
theorem place_any (pg sl : Int) (w : World) :
    Calls Try.prog 104 #[.int .i64 pg, .int .i64 sl] w fun e w' => e = .returned (.bool (decide (placeOk pg sl))) ∧ w = w' := place_at pg sl w _ (hide rfl)

set_option maxRecDepth 4000 in
set_option maxHeartbeats 400000 in
theorem kind_at (c : Ch) (w : World) (r : Bool) (Hr : Hid (decide c.kindOk = r)) :
    Calls Try.prog 105 #[.agg (chA c)] w fun e w' => e = .returned (.bool r) ∧ Below w.heap.size w w' := by
  have hb0 : Below w.heap.size w (w.alloc (.cells (chA c) 39)) := (Below.refl _ _).alloc (Nat.le_refl _) _
  obtain ⟨a0, a1, a2, a3, a4⟩ := ChAt.all (show ChAt (w.alloc (.cells (chA c) 39)) w.heap.size c from heap_alloc_new w _)
  clear a1 a2
  by_cases k1 : c.k = 1
  · obtain rfl : c.o.toList.isEmpty = r := by
      rw [← Hr.out, Bool.eq_iff_iff, empty_iff, decide_eq_true_eq]
      exact ⟨fun h => .inl ⟨k1, h⟩, fun h => by rcases h with h | h | h <;> omega⟩
    rw [k1] at a0
    clear Hr k1
    go_enter Try.func105, Try.ntmps105
    generalize c.o = o at *
    go_wp2
    go_ret
    exact ⟨rfl, hb0⟩
  · by_cases k3 : c.k = 3
    · obtain rfl : c.n.toList.isEmpty = r := by
        rw [← Hr.out, Bool.eq_iff_iff, empty_iff, decide_eq_true_eq]
        exact ⟨fun h => .inr (.inr ⟨k3, h⟩), fun h => by rcases h with h | h | h <;> omega⟩
      rw [k3] at a0
      clear Hr k1 k3
      go_enter Try.func105, Try.ntmps105
      generalize c.n = n at *
      go_wp2
      go_ret
      exact ⟨rfl, hb0⟩
    · by_cases k2 : c.k = 2
      · obtain rfl : r = true := by rw [← Hr.out]; exact decide_eq_true (.inr (.inl k2))
        rw [k2] at a0
        clear Hr k1 k2 k3
        go_enter Try.func105, Try.ntmps105
        go_wp2
        go_ret
        exact ⟨rfl, hb0⟩
      · obtain rfl : r = false := by
          rw [← Hr.out]
          exact decide_eq_false (fun h => by rcases h with h | h | h <;> omega)
        have j1 : (c.k == 1) = false := by simpa using k1
        have j2 : (c.k == 2) = false := by simpa using k2
        have j3 : (c.k == 3) = false := by simpa using k3
        clear Hr k1 k2 k3
        go_enter Try.func105, Try.ntmps105
        generalize c.k = k at *
        go_wp2
        go_ret
        exact ⟨rfl, hb0⟩
theorem kind_any (c : Ch) (w : World) :
    Calls Try.prog 105 #[.agg (chA c)] w fun e w' => e = .returned (.bool (decide c.kindOk)) ∧ Below w.heap.size w w' := kind_at c w _ (hide rfl)

set_option maxRecDepth 4000 in
set_option maxHeartbeats 400000 in
theorem cright_at (c : Ch) (w : World) (r : Bool) (Hr : Hid (decide c.right = r)) :
    Calls Try.prog 90 #[.agg (chA c)] w fun e w' => e = .returned (.bool r) ∧ Below w.heap.size w w' := by
  have hb0 : Below w.heap.size w (w.alloc (.cells (chA c) 39)) := (Below.refl _ _).alloc (Nat.le_refl _) _
  have hc0 : ChAt (w.alloc (.cells (chA c) 39)) w.heap.size c := heap_alloc_new w _
  obtain ⟨a0, a1, a2, a3, a4⟩ := hc0.all
  have HC := hide hc0
  clear a0 hc0
  by_cases hpl : placeOk c.pg c.sl
  · have HP := hide (fun w => place_at c.pg c.sl w true (hide (decide_eq_true hpl)))
    by_cases h1 : (c.o.size : Int) ≤ 20
    · by_cases h2 : (c.n.size : Int) ≤ 20
      · have HK := hide (fun w => kind_at c w r (hide (by
          rw [← Hr.out]
          exact decide_eq_decide.2 ⟨fun h => ⟨⟨hpl.1, hpl.2.1, hpl.2.2.1, hpl.2.2.2, by omega, by omega⟩, h⟩, fun h => h.2⟩)))
        clear Hr hpl
        go_enter Try.func90, Try.ntmps90
        go_wp2_with fail
        refine (HP.out _).mono ?_
        rintro e w1 ⟨rfl, rfl⟩
        go_wp2_with (refine wpList_load_at rfl 39 (.tmp 1) rfl w.heap.size rfl (chA c) HC.out _ Try.underlying39 rfl infoCh ?_)
        refine (HK.out _).mono ?_
        rintro e w2 ⟨rfl, hb2⟩
        have d2 := hb0.trans (hb2.mono hb0.size)
        clear hb2 HC HK HP a1 a2 a3 a4 hb0 h1 h2
        go_wp2
        go_ret
        exact ⟨rfl, d2⟩
      · obtain rfl : r = false := by rw [← Hr.out]; exact decide_eq_false (fun h => by have := h.1; omega)
        clear Hr hpl
        go_enter Try.func90, Try.ntmps90
        go_wp2_with fail
        refine (HP.out _).mono ?_
        rintro e w1 ⟨rfl, rfl⟩
        clear HP
        go_wp2
        go_ret
        exact ⟨rfl, hb0⟩
    · obtain rfl : r = false := by rw [← Hr.out]; exact decide_eq_false (fun h => by have := h.1; omega)
      clear Hr hpl
      go_enter Try.func90, Try.ntmps90
      go_wp2_with fail
      refine (HP.out _).mono ?_
      rintro e w1 ⟨rfl, rfl⟩
      clear HP
      go_wp2
      go_ret
      exact ⟨rfl, hb0⟩
  · have HP := hide (fun w => place_at c.pg c.sl w false (hide (decide_eq_false hpl)))
    obtain rfl : r = false := by rw [← Hr.out]; exact decide_eq_false (fun h => hpl ⟨h.1.1, h.1.2.1, h.1.2.2.1, h.1.2.2.2.1⟩)
    clear Hr hpl
    go_enter Try.func90, Try.ntmps90
    go_wp2_with fail
    refine (HP.out _).mono ?_
    rintro e w1 ⟨rfl, rfl⟩
    clear HP
    go_wp2
    go_ret
    exact ⟨rfl, hb0⟩

/-- THE CONTRACT. -/
theorem cright_any (c : Ch) (w : World) :
    Calls Try.prog 90 #[.agg (chA c)] w fun e w' => e = .returned (.bool (decide c.right)) ∧ Below w.heap.size w w' := cright_at c w _ (hide rfl)
end Go.Proofs.Ytfbelaalmdcaaaa

/-
  What a record's kind uses: plain facts.
-/
namespace Go.Proofs.Ytfbelaalmdcaaaa
open Go.RowKit
set_option linter.unusedVariables false

def Rec.uses (r : Rec) : Prop := 1 ≤ r.k ∧ r.k ≤ 8 ∧ (r.k ≤ 6 → 1 ≤ r.t ∧ r.t ≤ 1048575 ∧ r.p < r.l) ∧ (r.k ≤ 2 → r.c.right) ∧ (r.k = 2 → r.n < r.l) ∧ (r.k = 6 → 1 ≤ r.s ∧ r.s ≤ 8) ∧ (r.k = 8 → r.rows)
/-- A record with nothing in it but what its kind uses. -/
def Rec.used (r : Rec) : Rec := ⟨r.k, r.l, if r.k ≤ 6 then r.t else 0, if r.k ≤ 6 then r.p else 0, if r.k ≤ 2 then r.c else Ch.zero, if r.k = 2 then r.n else 0, if r.k = 6 then r.s else 0, if r.k = 8 then r.b else 0, if r.k = 8 then r.ts else [], if r.k = 8 then r.ds else []⟩
theorem right_uses {r : Rec} : r.right ↔ 1 ≤ r.l ∧ r.l ≤ maxP ∧ r.uses ∧ r = r.used := by
  constructor
  · intro h
    refine ⟨h.l1, h.lm, ⟨h.k1, h.k8, h.own, h.ch, h.next, h.save, h.check⟩, ?_⟩
    have h1 := h.none
    have h2 := h.noch
    have h3 := h.nonext
    have h4 := h.nosave
    have h5 := h.nocheck
    obtain ⟨k, l, t, p, c, n, s, b, ts, ds⟩ := r
    simp only at h1 h2 h3 h4 h5
    unfold Rec.used
    simp only [Rec.mk.injEq, true_and]
    refine ⟨?_, ?_, ?_, ?_, ?_, ?_, ?_, ?_⟩
    · by_cases hk : k ≤ 6
      · rw [if_pos hk]
      · rw [if_neg hk]
        exact (h1 (by omega)).1
    · by_cases hk : k ≤ 6
      · rw [if_pos hk]
      · rw [if_neg hk]
        exact (h1 (by omega)).2
    · by_cases hk : k ≤ 2
      · rw [if_pos hk]
      · rw [if_neg hk]
        exact h2 (by omega)
    · by_cases hk : k = 2
      · rw [if_pos hk]
      · rw [if_neg hk]
        exact h3 hk
    · by_cases hk : k = 6
      · rw [if_pos hk]
      · rw [if_neg hk]
        exact h4 hk
    · by_cases hk : k = 8
      · rw [if_pos hk]
      · rw [if_neg hk]
        exact (h5 hk).1
    · by_cases hk : k = 8
      · rw [if_pos hk]
      · rw [if_neg hk]
        exact (h5 hk).2.1
    · by_cases hk : k = 8
      · rw [if_pos hk]
      · rw [if_neg hk]
        exact (h5 hk).2.2
  · rintro ⟨h1, h2, ⟨u1, u2, u3, u4, u5, u6, u7⟩, he⟩
    refine ⟨u1, u2, h1, h2, u3, fun hk => ?_, u4, fun hk => ?_, u5, fun hk => ?_, u6, fun hk => ?_, u7, fun hk => ?_⟩
    · constructor
      · rw [he]
        show (if r.k ≤ 6 then r.t else 0) = 0
        rw [if_neg (by omega)]
      · rw [he]
        show (if r.k ≤ 6 then r.p else 0) = 0
        rw [if_neg (by omega)]
    · rw [he]
      show (if r.k ≤ 2 then r.c else Ch.zero) = Ch.zero
      rw [if_neg (by omega)]
    · rw [he]
      show (if r.k = 2 then r.n else 0) = 0
      rw [if_neg hk]
    · rw [he]
      show (if r.k = 6 then r.s else 0) = 0
      rw [if_neg hk]
    · refine ⟨?_, ?_, ?_⟩
      · rw [he]
        show (if r.k = 8 then r.b else 0) = 0
        rw [if_neg hk]
      · rw [he]
        show (if r.k = 8 then r.ts else []) = []
        rw [if_neg hk]
      · rw [he]
        show (if r.k = 8 then r.ds else []) = []
        rw [if_neg hk]
end Go.Proofs.Ytfbelaalmdcaaaa

/-
  The contract of record.rightUses.
-/
namespace Go.Proofs.Ytfbelaalmdcaaaa
open Go.RowKit
set_option linter.unusedVariables false

theorem beq_no' {a b : Int} (h : ¬ a = b) : (a == b) = false := by rw [beq_eq_false_iff_ne]; exact h
set_option maxRecDepth 4000 in
set_option maxHeartbeats 1600000 in
theorem uses_1 (r : Rec) (va vb : Value) (w : World) (q : Bool) (Hq : Hid (q = true ↔ r.uses)) (hin : RcIn w r va vb) (hk : r.k = 1) :
    Calls Try.prog 79 #[.agg (rcA r va vb)] w fun e w' => e = .returned (.bool q) ∧ Below w.heap.size w w' := by
  have HIN := hide hin
  obtain ⟨⟨e1, cap1, rfl, -⟩, ⟨e2, cap2, rfl, -⟩⟩ := hin
  have HK0 := hide (Keeps.one w 43 (rcA r (.slice e1 r.ts.length cap1) (.slice e2 r.ds.length cap2)))
  have HF : Hid (¬ r.uses → q = false) := fun h => by
    cases q
    · rfl
    · exact absurd (Hq.out.1 rfl) h
  have HT : Hid (r.uses → q = true) := fun h => Hq.out.2 h
  clear Hq
  have c0 := HK0.out.1.1.cell 0 (.int .i64 r.k) rfl
  rw [hk] at c0
  by_cases ho : 1 ≤ r.t ∧ r.t ≤ 1048575 ∧ r.p < r.l
  case neg =>
    have HO := hide (fun w => rtxn_at r (.slice e1 r.ts.length cap1) (.slice e2 r.ds.length cap2) w false (hide (decide_eq_false ho)))
    obtain rfl := HF.out (fun h => ho (h.2.2.1 (by omega)))
    clear ho
    go_enter Try.func79, Try.ntmps79
    go_wp2_with (refine wpList_load_at rfl 43 (.tmp 1) rfl w.heap.size rfl (rcA r (.slice e1 r.ts.length cap1) (.slice e2 r.ds.length cap2)) HK0.out.1.1 _ Try.underlying43 rfl infoRc ?_)
    refine (HO.out _).mono ?_
    rintro e w1 ⟨rfl, hb1⟩
    have HK1 := hide (HK0.out.later hb1)
    clear HO HK0 hb1 c0
    have d := HK1.out.2
    clear HK1 HF HT HIN
    go_wp2
    go_ret
    exact ⟨by first | rfl | (apply congrArg Ending.returned; apply congrArg Value.bool; first | (apply decide_eq_false; omega) | (apply decide_eq_true; omega)), d⟩
  have HO := hide (fun w => rtxn_at r (.slice e1 r.ts.length cap1) (.slice e2 r.ds.length cap2) w true (hide (decide_eq_true ho)))
  have HOW := hide ho
  clear ho
  go_enter Try.func79, Try.ntmps79
  go_wp2_with (refine wpList_load_at rfl 43 (.tmp 1) rfl w.heap.size rfl (rcA r (.slice e1 r.ts.length cap1) (.slice e2 r.ds.length cap2)) HK0.out.1.1 _ Try.underlying43 rfl infoRc ?_)
  refine (HO.out _).mono ?_
  rintro e w1 ⟨rfl, hb1⟩
  have HK1 := hide (HK0.out.later hb1)
  clear HO HK0 hb1 c0
  obtain ⟨d4, d5, d6, d7, d8⟩ := rc_chg HK1.out.1.1
  have HR := hide (fun w => cright_at r.c w q (hide (by
    by_cases hc : r.c.right
    · rw [HT.out ⟨by omega, by omega, fun _ => HOW.out, fun _ => hc, fun h => absurd h (by omega), fun h => absurd h (by omega), fun h => absurd h (by omega)⟩]
      exact decide_eq_true hc
    · rw [HF.out (fun h => hc (h.2.2.2.1 (by omega)))]
      exact decide_eq_false hc)))
  go_wp2_with fail
  refine (HR.out _).mono ?_
  rintro e w2 ⟨rfl, hb2⟩
  have d := (HK1.out.later hb2).2
  clear HR HK1 HF HT HIN hb2 HOW d4 d5 d6 d7 d8
  go_wp2
  go_ret
  exact ⟨rfl, d⟩

set_option maxRecDepth 4000 in
set_option maxHeartbeats 1600000 in
theorem uses_2 (r : Rec) (va vb : Value) (w : World) (q : Bool) (Hq : Hid (q = true ↔ r.uses)) (hin : RcIn w r va vb) (hk : r.k = 2) :
    Calls Try.prog 79 #[.agg (rcA r va vb)] w fun e w' => e = .returned (.bool q) ∧ Below w.heap.size w w' := by
  have HIN := hide hin
  obtain ⟨⟨e1, cap1, rfl, -⟩, ⟨e2, cap2, rfl, -⟩⟩ := hin
  have HK0 := hide (Keeps.one w 43 (rcA r (.slice e1 r.ts.length cap1) (.slice e2 r.ds.length cap2)))
  have HF : Hid (¬ r.uses → q = false) := fun h => by
    cases q
    · rfl
    · exact absurd (Hq.out.1 rfl) h
  have HT : Hid (r.uses → q = true) := fun h => Hq.out.2 h
  clear Hq
  have c0 := HK0.out.1.1.cell 0 (.int .i64 r.k) rfl
  rw [hk] at c0
  by_cases ho : 1 ≤ r.t ∧ r.t ≤ 1048575 ∧ r.p < r.l
  case neg =>
    have HO := hide (fun w => rtxn_at r (.slice e1 r.ts.length cap1) (.slice e2 r.ds.length cap2) w false (hide (decide_eq_false ho)))
    obtain rfl := HF.out (fun h => ho (h.2.2.1 (by omega)))
    clear ho
    go_enter Try.func79, Try.ntmps79
    go_wp2_with (refine wpList_load_at rfl 43 (.tmp 1) rfl w.heap.size rfl (rcA r (.slice e1 r.ts.length cap1) (.slice e2 r.ds.length cap2)) HK0.out.1.1 _ Try.underlying43 rfl infoRc ?_)
    refine (HO.out _).mono ?_
    rintro e w1 ⟨rfl, hb1⟩
    have HK1 := hide (HK0.out.later hb1)
    clear HO HK0 hb1 c0
    have d := HK1.out.2
    clear HK1 HF HT HIN
    go_wp2
    go_ret
    exact ⟨by first | rfl | (apply congrArg Ending.returned; apply congrArg Value.bool; first | (apply decide_eq_false; omega) | (apply decide_eq_true; omega)), d⟩
  have HO := hide (fun w => rtxn_at r (.slice e1 r.ts.length cap1) (.slice e2 r.ds.length cap2) w true (hide (decide_eq_true ho)))
  have HOW := hide ho
  clear ho
  go_enter Try.func79, Try.ntmps79
  go_wp2_with (refine wpList_load_at rfl 43 (.tmp 1) rfl w.heap.size rfl (rcA r (.slice e1 r.ts.length cap1) (.slice e2 r.ds.length cap2)) HK0.out.1.1 _ Try.underlying43 rfl infoRc ?_)
  refine (HO.out _).mono ?_
  rintro e w1 ⟨rfl, hb1⟩
  have HK1 := hide (HK0.out.later hb1)
  clear HO HK0 hb1 c0
  obtain ⟨d4, d5, d6, d7, d8⟩ := rc_chg HK1.out.1.1
  by_cases hc : r.c.right
  case neg =>
    have HR := hide (fun w => cright_at r.c w false (hide (decide_eq_false hc)))
    obtain rfl := HF.out (fun h => hc (h.2.2.2.1 (by omega)))
    clear hc
    go_wp2_with fail
    refine (HR.out _).mono ?_
    rintro e w2 ⟨rfl, hb2⟩
    have d := (HK1.out.later hb2).2
    clear HR HK1 HF HT HIN hb2 HOW d4 d5 d6 d7 d8
    go_wp2
    go_ret
    exact ⟨rfl, d⟩
  have HR := hide (fun w => cright_at r.c w true (hide (decide_eq_true hc)))
  have HC := hide hc
  clear hc
  go_wp2_with fail
  refine (HR.out _).mono ?_
  rintro e w2 ⟨rfl, hb2⟩
  have HK2 := hide (HK1.out.later hb2)
  clear HR HK1 hb2 d4 d5 d6 d7 d8
  have c1 := HK2.out.1.1.cell 1 (.int .u64 (r.l : Int)) rfl
  have c9 := HK2.out.1.1.cell 9 (.int .u64 (r.n : Int)) rfl
  have d := HK2.out.2
  by_cases hn : (r.n : Int) < (r.l : Int)
  case neg =>
    obtain rfl := HF.out (fun h => by have := h.2.2.2.2.1 hk; omega)
    clear HK2 HF HT HIN HOW HC
    go_wp2
    go_ret
    exact ⟨by first | rfl | (apply congrArg Ending.returned; apply congrArg Value.bool; apply decide_eq_false; omega), d⟩
  obtain rfl := HT.out ⟨by omega, by omega, fun _ => HOW.out, fun _ => HC.out, fun _ => by omega, fun h => absurd h (by omega), fun h => absurd h (by omega)⟩
  clear HK2 HF HT HIN HOW HC
  go_wp2
  go_ret
  exact ⟨by first | rfl | (apply congrArg Ending.returned; apply congrArg Value.bool; apply decide_eq_true; omega), d⟩

set_option maxRecDepth 4000 in
set_option maxHeartbeats 1600000 in
theorem uses_3 (r : Rec) (va vb : Value) (w : World) (q : Bool) (Hq : Hid (q = true ↔ r.uses)) (hin : RcIn w r va vb) (hk : r.k = 3) :
    Calls Try.prog 79 #[.agg (rcA r va vb)] w fun e w' => e = .returned (.bool q) ∧ Below w.heap.size w w' := by
  have HIN := hide hin
  obtain ⟨⟨e1, cap1, rfl, -⟩, ⟨e2, cap2, rfl, -⟩⟩ := hin
  have HK0 := hide (Keeps.one w 43 (rcA r (.slice e1 r.ts.length cap1) (.slice e2 r.ds.length cap2)))
  have HF : Hid (¬ r.uses → q = false) := fun h => by
    cases q
    · rfl
    · exact absurd (Hq.out.1 rfl) h
  have HT : Hid (r.uses → q = true) := fun h => Hq.out.2 h
  clear Hq
  have c0 := HK0.out.1.1.cell 0 (.int .i64 r.k) rfl
  rw [hk] at c0
  by_cases ho : 1 ≤ r.t ∧ r.t ≤ 1048575 ∧ r.p < r.l
  case neg =>
    have HO := hide (fun w => rtxn_at r (.slice e1 r.ts.length cap1) (.slice e2 r.ds.length cap2) w false (hide (decide_eq_false ho)))
    obtain rfl := HF.out (fun h => ho (h.2.2.1 (by omega)))
    clear ho
    go_enter Try.func79, Try.ntmps79
    go_wp2_with (refine wpList_load_at rfl 43 (.tmp 1) rfl w.heap.size rfl (rcA r (.slice e1 r.ts.length cap1) (.slice e2 r.ds.length cap2)) HK0.out.1.1 _ Try.underlying43 rfl infoRc ?_)
    refine (HO.out _).mono ?_
    rintro e w1 ⟨rfl, hb1⟩
    have HK1 := hide (HK0.out.later hb1)
    clear HO HK0 hb1 c0
    have d := HK1.out.2
    clear HK1 HF HT HIN
    go_wp2
    go_ret
    exact ⟨by first | rfl | (apply congrArg Ending.returned; apply congrArg Value.bool; first | (apply decide_eq_false; omega) | (apply decide_eq_true; omega)), d⟩
  have HO := hide (fun w => rtxn_at r (.slice e1 r.ts.length cap1) (.slice e2 r.ds.length cap2) w true (hide (decide_eq_true ho)))
  have HOW := hide ho
  clear ho
  obtain rfl := HT.out ⟨by omega, by omega, fun _ => HOW.out, fun h => absurd h (by omega), fun h => absurd h (by omega), fun h => absurd h (by omega), fun h => absurd h (by omega)⟩
  go_enter Try.func79, Try.ntmps79
  go_wp2_with (refine wpList_load_at rfl 43 (.tmp 1) rfl w.heap.size rfl (rcA r (.slice e1 r.ts.length cap1) (.slice e2 r.ds.length cap2)) HK0.out.1.1 _ Try.underlying43 rfl infoRc ?_)
  refine (HO.out _).mono ?_
  rintro e w1 ⟨rfl, hb1⟩
  have HK1 := hide (HK0.out.later hb1)
  clear HO HK0 hb1 c0
  have d := HK1.out.2
  clear HK1 HF HT HIN
  go_wp2
  go_ret
  exact ⟨by first | rfl | (apply congrArg Ending.returned; apply congrArg Value.bool; first | (apply decide_eq_false; omega) | (apply decide_eq_true; omega)), d⟩

set_option maxRecDepth 4000 in
set_option maxHeartbeats 1600000 in
theorem uses_4 (r : Rec) (va vb : Value) (w : World) (q : Bool) (Hq : Hid (q = true ↔ r.uses)) (hin : RcIn w r va vb) (hk : r.k = 4) :
    Calls Try.prog 79 #[.agg (rcA r va vb)] w fun e w' => e = .returned (.bool q) ∧ Below w.heap.size w w' := by
  have HIN := hide hin
  obtain ⟨⟨e1, cap1, rfl, -⟩, ⟨e2, cap2, rfl, -⟩⟩ := hin
  have HK0 := hide (Keeps.one w 43 (rcA r (.slice e1 r.ts.length cap1) (.slice e2 r.ds.length cap2)))
  have HF : Hid (¬ r.uses → q = false) := fun h => by
    cases q
    · rfl
    · exact absurd (Hq.out.1 rfl) h
  have HT : Hid (r.uses → q = true) := fun h => Hq.out.2 h
  clear Hq
  have c0 := HK0.out.1.1.cell 0 (.int .i64 r.k) rfl
  rw [hk] at c0
  by_cases ho : 1 ≤ r.t ∧ r.t ≤ 1048575 ∧ r.p < r.l
  case neg =>
    have HO := hide (fun w => rtxn_at r (.slice e1 r.ts.length cap1) (.slice e2 r.ds.length cap2) w false (hide (decide_eq_false ho)))
    obtain rfl := HF.out (fun h => ho (h.2.2.1 (by omega)))
    clear ho
    go_enter Try.func79, Try.ntmps79
    go_wp2_with (refine wpList_load_at rfl 43 (.tmp 1) rfl w.heap.size rfl (rcA r (.slice e1 r.ts.length cap1) (.slice e2 r.ds.length cap2)) HK0.out.1.1 _ Try.underlying43 rfl infoRc ?_)
    refine (HO.out _).mono ?_
    rintro e w1 ⟨rfl, hb1⟩
    have HK1 := hide (HK0.out.later hb1)
    clear HO HK0 hb1 c0
    have d := HK1.out.2
    clear HK1 HF HT HIN
    go_wp2
    go_ret
    exact ⟨by first | rfl | (apply congrArg Ending.returned; apply congrArg Value.bool; first | (apply decide_eq_false; omega) | (apply decide_eq_true; omega)), d⟩
  have HO := hide (fun w => rtxn_at r (.slice e1 r.ts.length cap1) (.slice e2 r.ds.length cap2) w true (hide (decide_eq_true ho)))
  have HOW := hide ho
  clear ho
  obtain rfl := HT.out ⟨by omega, by omega, fun _ => HOW.out, fun h => absurd h (by omega), fun h => absurd h (by omega), fun h => absurd h (by omega), fun h => absurd h (by omega)⟩
  go_enter Try.func79, Try.ntmps79
  go_wp2_with (refine wpList_load_at rfl 43 (.tmp 1) rfl w.heap.size rfl (rcA r (.slice e1 r.ts.length cap1) (.slice e2 r.ds.length cap2)) HK0.out.1.1 _ Try.underlying43 rfl infoRc ?_)
  refine (HO.out _).mono ?_
  rintro e w1 ⟨rfl, hb1⟩
  have HK1 := hide (HK0.out.later hb1)
  clear HO HK0 hb1 c0
  have d := HK1.out.2
  clear HK1 HF HT HIN
  go_wp2
  go_ret
  exact ⟨by first | rfl | (apply congrArg Ending.returned; apply congrArg Value.bool; first | (apply decide_eq_false; omega) | (apply decide_eq_true; omega)), d⟩

set_option maxRecDepth 4000 in
set_option maxHeartbeats 1600000 in
theorem uses_5 (r : Rec) (va vb : Value) (w : World) (q : Bool) (Hq : Hid (q = true ↔ r.uses)) (hin : RcIn w r va vb) (hk : r.k = 5) :
    Calls Try.prog 79 #[.agg (rcA r va vb)] w fun e w' => e = .returned (.bool q) ∧ Below w.heap.size w w' := by
  have HIN := hide hin
  obtain ⟨⟨e1, cap1, rfl, -⟩, ⟨e2, cap2, rfl, -⟩⟩ := hin
  have HK0 := hide (Keeps.one w 43 (rcA r (.slice e1 r.ts.length cap1) (.slice e2 r.ds.length cap2)))
  have HF : Hid (¬ r.uses → q = false) := fun h => by
    cases q
    · rfl
    · exact absurd (Hq.out.1 rfl) h
  have HT : Hid (r.uses → q = true) := fun h => Hq.out.2 h
  clear Hq
  have c0 := HK0.out.1.1.cell 0 (.int .i64 r.k) rfl
  rw [hk] at c0
  by_cases ho : 1 ≤ r.t ∧ r.t ≤ 1048575 ∧ r.p < r.l
  case neg =>
    have HO := hide (fun w => rtxn_at r (.slice e1 r.ts.length cap1) (.slice e2 r.ds.length cap2) w false (hide (decide_eq_false ho)))
    obtain rfl := HF.out (fun h => ho (h.2.2.1 (by omega)))
    clear ho
    go_enter Try.func79, Try.ntmps79
    go_wp2_with (refine wpList_load_at rfl 43 (.tmp 1) rfl w.heap.size rfl (rcA r (.slice e1 r.ts.length cap1) (.slice e2 r.ds.length cap2)) HK0.out.1.1 _ Try.underlying43 rfl infoRc ?_)
    refine (HO.out _).mono ?_
    rintro e w1 ⟨rfl, hb1⟩
    have HK1 := hide (HK0.out.later hb1)
    clear HO HK0 hb1 c0
    have d := HK1.out.2
    clear HK1 HF HT HIN
    go_wp2
    go_ret
    exact ⟨by first | rfl | (apply congrArg Ending.returned; apply congrArg Value.bool; first | (apply decide_eq_false; omega) | (apply decide_eq_true; omega)), d⟩
  have HO := hide (fun w => rtxn_at r (.slice e1 r.ts.length cap1) (.slice e2 r.ds.length cap2) w true (hide (decide_eq_true ho)))
  have HOW := hide ho
  clear ho
  obtain rfl := HT.out ⟨by omega, by omega, fun _ => HOW.out, fun h => absurd h (by omega), fun h => absurd h (by omega), fun h => absurd h (by omega), fun h => absurd h (by omega)⟩
  go_enter Try.func79, Try.ntmps79
  go_wp2_with (refine wpList_load_at rfl 43 (.tmp 1) rfl w.heap.size rfl (rcA r (.slice e1 r.ts.length cap1) (.slice e2 r.ds.length cap2)) HK0.out.1.1 _ Try.underlying43 rfl infoRc ?_)
  refine (HO.out _).mono ?_
  rintro e w1 ⟨rfl, hb1⟩
  have HK1 := hide (HK0.out.later hb1)
  clear HO HK0 hb1 c0
  have d := HK1.out.2
  clear HK1 HF HT HIN
  go_wp2
  go_ret
  exact ⟨by first | rfl | (apply congrArg Ending.returned; apply congrArg Value.bool; first | (apply decide_eq_false; omega) | (apply decide_eq_true; omega)), d⟩

set_option maxRecDepth 4000 in
set_option maxHeartbeats 1600000 in
theorem uses_6 (r : Rec) (va vb : Value) (w : World) (q : Bool) (Hq : Hid (q = true ↔ r.uses)) (hin : RcIn w r va vb) (hk : r.k = 6) :
    Calls Try.prog 79 #[.agg (rcA r va vb)] w fun e w' => e = .returned (.bool q) ∧ Below w.heap.size w w' := by
  have HIN := hide hin
  obtain ⟨⟨e1, cap1, rfl, -⟩, ⟨e2, cap2, rfl, -⟩⟩ := hin
  have HK0 := hide (Keeps.one w 43 (rcA r (.slice e1 r.ts.length cap1) (.slice e2 r.ds.length cap2)))
  have HF : Hid (¬ r.uses → q = false) := fun h => by
    cases q
    · rfl
    · exact absurd (Hq.out.1 rfl) h
  have HT : Hid (r.uses → q = true) := fun h => Hq.out.2 h
  clear Hq
  have c0 := HK0.out.1.1.cell 0 (.int .i64 r.k) rfl
  rw [hk] at c0
  by_cases ho : 1 ≤ r.t ∧ r.t ≤ 1048575 ∧ r.p < r.l
  case neg =>
    have HO := hide (fun w => rtxn_at r (.slice e1 r.ts.length cap1) (.slice e2 r.ds.length cap2) w false (hide (decide_eq_false ho)))
    obtain rfl := HF.out (fun h => ho (h.2.2.1 (by omega)))
    clear ho
    go_enter Try.func79, Try.ntmps79
    go_wp2_with (refine wpList_load_at rfl 43 (.tmp 1) rfl w.heap.size rfl (rcA r (.slice e1 r.ts.length cap1) (.slice e2 r.ds.length cap2)) HK0.out.1.1 _ Try.underlying43 rfl infoRc ?_)
    refine (HO.out _).mono ?_
    rintro e w1 ⟨rfl, hb1⟩
    have HK1 := hide (HK0.out.later hb1)
    clear HO HK0 hb1 c0
    have d := HK1.out.2
    clear HK1 HF HT HIN
    go_wp2
    go_ret
    exact ⟨by first | rfl | (apply congrArg Ending.returned; apply congrArg Value.bool; first | (apply decide_eq_false; omega) | (apply decide_eq_true; omega)), d⟩
  have HO := hide (fun w => rtxn_at r (.slice e1 r.ts.length cap1) (.slice e2 r.ds.length cap2) w true (hide (decide_eq_true ho)))
  have HOW := hide ho
  clear ho
  go_enter Try.func79, Try.ntmps79
  go_wp2_with (refine wpList_load_at rfl 43 (.tmp 1) rfl w.heap.size rfl (rcA r (.slice e1 r.ts.length cap1) (.slice e2 r.ds.length cap2)) HK0.out.1.1 _ Try.underlying43 rfl infoRc ?_)
  refine (HO.out _).mono ?_
  rintro e w1 ⟨rfl, hb1⟩
  have HK1 := hide (HK0.out.later hb1)
  clear HO HK0 hb1 c0
  have c10 := HK1.out.1.1.cell 10 (.int .i64 r.s) rfl
  by_cases s1 : 1 ≤ r.s
  case neg =>
    obtain rfl := HF.out (fun h => by have := h.2.2.2.2.2.1 hk; omega)
    have d := HK1.out.2
    clear HK1 HF HT HIN
    go_wp2
    go_ret
    exact ⟨by first | rfl | (apply congrArg Ending.returned; apply congrArg Value.bool; first | (apply decide_eq_false; omega) | (apply decide_eq_true; omega)), d⟩
  by_cases s2 : r.s ≤ 8
  case neg =>
    obtain rfl := HF.out (fun h => by have := h.2.2.2.2.2.1 hk; omega)
    have d := HK1.out.2
    clear HK1 HF HT HIN
    go_wp2
    go_ret
    exact ⟨by first | rfl | (apply congrArg Ending.returned; apply congrArg Value.bool; first | (apply decide_eq_false; omega) | (apply decide_eq_true; omega)), d⟩
  obtain rfl := HT.out ⟨by omega, by omega, fun _ => HOW.out, fun h => absurd h (by omega), fun h => absurd h (by omega), fun _ => ⟨s1, s2⟩, fun h => absurd h (by omega)⟩
  have d := HK1.out.2
  clear HK1 HF HT HIN
  go_wp2
  go_ret
  exact ⟨by first | rfl | (apply congrArg Ending.returned; apply congrArg Value.bool; first | (apply decide_eq_false; omega) | (apply decide_eq_true; omega)), d⟩

set_option maxRecDepth 4000 in
set_option maxHeartbeats 1600000 in
theorem uses_7 (r : Rec) (va vb : Value) (w : World) (q : Bool) (Hq : Hid (q = true ↔ r.uses)) (hin : RcIn w r va vb) (hk : r.k = 7) :
    Calls Try.prog 79 #[.agg (rcA r va vb)] w fun e w' => e = .returned (.bool q) ∧ Below w.heap.size w w' := by
  have HIN := hide hin
  obtain ⟨⟨e1, cap1, rfl, -⟩, ⟨e2, cap2, rfl, -⟩⟩ := hin
  have HK0 := hide (Keeps.one w 43 (rcA r (.slice e1 r.ts.length cap1) (.slice e2 r.ds.length cap2)))
  have HF : Hid (¬ r.uses → q = false) := fun h => by
    cases q
    · rfl
    · exact absurd (Hq.out.1 rfl) h
  have HT : Hid (r.uses → q = true) := fun h => Hq.out.2 h
  clear Hq
  have c0 := HK0.out.1.1.cell 0 (.int .i64 r.k) rfl
  rw [hk] at c0
  obtain rfl := HT.out ⟨by omega, by omega, fun h => absurd h (by omega), fun h => absurd h (by omega), fun h => absurd h (by omega), fun h => absurd h (by omega), fun h => absurd h (by omega)⟩
  have d := HK0.out.2
  clear HK0 HF HT HIN
  go_enter Try.func79, Try.ntmps79
  go_wp2
  go_ret
  exact ⟨rfl, d⟩

set_option maxRecDepth 4000 in
set_option maxHeartbeats 1600000 in
theorem uses_8 (r : Rec) (va vb : Value) (w : World) (q : Bool) (Hq : Hid (q = true ↔ r.uses)) (hin : RcIn w r va vb) (hk : r.k = 8) :
    Calls Try.prog 79 #[.agg (rcA r va vb)] w fun e w' => e = .returned (.bool q) ∧ Below w.heap.size w w' := by
  have HIN := hide hin
  obtain ⟨⟨e1, cap1, rfl, -⟩, ⟨e2, cap2, rfl, -⟩⟩ := hin
  have HK0 := hide (Keeps.one w 43 (rcA r (.slice e1 r.ts.length cap1) (.slice e2 r.ds.length cap2)))
  have HF : Hid (¬ r.uses → q = false) := fun h => by
    cases q
    · rfl
    · exact absurd (Hq.out.1 rfl) h
  have HT : Hid (r.uses → q = true) := fun h => Hq.out.2 h
  clear Hq
  have c0 := HK0.out.1.1.cell 0 (.int .i64 r.k) rfl
  rw [hk] at c0
  have c1 := HK0.out.1.1.cell 1 (.int .u64 (r.l : Int)) rfl
  have c11 := HK0.out.1.1.cell 11 (.int .u64 (r.b : Int)) rfl
  by_cases hb : 1 ≤ r.b ∧ r.b < r.l
  case neg =>
    have HW := hide (fun w => within_at r.b r.l w false (hide (decide_eq_false hb)))
    obtain rfl := HF.out (fun h => hb ((h.2.2.2.2.2.2 hk).2.2.2.2))
    clear hb
    go_enter Try.func79, Try.ntmps79
    go_wp2_with fail
    refine (HW.out _).mono ?_
    rintro e w1 ⟨rfl, rfl⟩
    have d := HK0.out.2
    clear HK0 HF HT HIN HW
    go_wp2
    go_ret
    exact ⟨rfl, d⟩
  have HW := hide (fun w => within_at r.b r.l w true (hide (decide_eq_true hb)))
  have HBG := hide hb
  clear hb
  have c12 := HK0.out.1.1.cell 12 (.slice e1 r.ts.length cap1) rfl
  go_enter Try.func79, Try.ntmps79
  go_wp2_with fail
  refine (HW.out _).mono ?_
  rintro e w1 ⟨rfl, rfl⟩
  clear HW
  go_wp2_with fail
  refine gen_calls (fun x => Hid (Keeps w x [(w.heap.size, 43, rcA r (.slice e1 r.ts.length cap1) (.slice e2 r.ds.length cap2))])) HK0 ?_
  clear HK0 c0 c1 c11 c12
  intro x0 HK0
  by_cases ht : r.ts.length ≤ 16 ∧ ∀ i, i < r.ts.length → txAt r.l r.ts i
  case neg =>
    obtain rfl := HF.out (fun h => ht ⟨(h.2.2.2.2.2.2 hk).1, (h.2.2.2.2.2.2 hk).2.2.1⟩)
    refine (rtxns_at _ r.ts r.l x0 false (hide ⟨fun h => (nomatch h), fun h => absurd h ht⟩) (HIN.out.below HK0.out.2).1).mono ?_
    rintro e w2 ⟨rfl, hb2⟩
    have d := (HK0.out.later hb2).2
    clear HK0 HF HT HIN hb2 ht HBG
    go_wp2
    go_ret
    exact ⟨rfl, d⟩
  refine (rtxns_at _ r.ts r.l x0 true (hide ⟨fun _ => ht, fun _ => rfl⟩) (HIN.out.below HK0.out.2).1).mono ?_
  rintro e w2 ⟨rfl, hb2⟩
  have HK2 := hide (HK0.out.later hb2)
  have HTX := hide ht
  clear HK0 hb2 ht
  have c1 := HK2.out.1.1.cell 1 (.int .u64 (r.l : Int)) rfl
  have c13 := HK2.out.1.1.cell 13 (.slice e2 r.ds.length cap2) rfl
  have HQ2 : Hid (q = true ↔ r.ds.length ≤ 32 ∧ ∀ i, i < r.ds.length → diAt r.l r.ds i) := by
    constructor
    · intro h
      by_cases hd : r.ds.length ≤ 32 ∧ ∀ i, i < r.ds.length → diAt r.l r.ds i
      · exact hd
      · rw [HF.out (fun h => hd ⟨(h.2.2.2.2.2.2 hk).2.1, (h.2.2.2.2.2.2 hk).2.2.2.1⟩)] at h
        cases h
    · intro hd
      exact HT.out ⟨by omega, by omega, fun h => absurd h (by omega), fun h => absurd h (by omega), fun h => absurd h (by omega), fun h => absurd h (by omega), fun _ => ⟨HTX.out.1, hd.1, HTX.out.2, hd.2, HBG.out.1, HBG.out.2⟩⟩
  go_wp2_with fail
  refine (rdirty_at _ r.ds r.l w2 q HQ2 (HIN.out.below HK2.out.2).2).mono ?_
  rintro e w3 ⟨rfl, hb3⟩
  have d := (HK2.out.later hb3).2
  clear HK2 HF HT HIN hb3 HTX HBG HQ2 c1 c13
  go_wp2
  go_ret
  exact ⟨rfl, d⟩

set_option maxRecDepth 4000 in
set_option maxHeartbeats 1600000 in
theorem uses_no (r : Rec) (va vb : Value) (w : World) (q : Bool) (Hq : Hid (q = true ↔ r.uses)) (hin : RcIn w r va vb) (hk : r.k < 1 ∨ 8 < r.k) :
    Calls Try.prog 79 #[.agg (rcA r va vb)] w fun e w' => e = .returned (.bool q) ∧ Below w.heap.size w w' := by
  have HIN := hide hin
  obtain ⟨⟨e1, cap1, rfl, -⟩, ⟨e2, cap2, rfl, -⟩⟩ := hin
  have HK0 := hide (Keeps.one w 43 (rcA r (.slice e1 r.ts.length cap1) (.slice e2 r.ds.length cap2)))
  have HF : Hid (¬ r.uses → q = false) := fun h => by
    cases q
    · rfl
    · exact absurd (Hq.out.1 rfl) h
  have HT : Hid (r.uses → q = true) := fun h => Hq.out.2 h
  clear Hq
  have c0 := HK0.out.1.1.cell 0 (.int .i64 r.k) rfl
  have n1 := beq_no' (a := r.k) (b := 1) (by omega)
  have n2 := beq_no' (a := r.k) (b := 2) (by omega)
  have n3 := beq_no' (a := r.k) (b := 3) (by omega)
  have n4 := beq_no' (a := r.k) (b := 4) (by omega)
  have n5 := beq_no' (a := r.k) (b := 5) (by omega)
  have n6 := beq_no' (a := r.k) (b := 6) (by omega)
  have n7 := beq_no' (a := r.k) (b := 7) (by omega)
  have n8 := beq_no' (a := r.k) (b := 8) (by omega)
  obtain rfl := HF.out (fun h => by have := h.1; have := h.2.1; omega)
  have d := HK0.out.2
  clear HK0 HF HT HIN hk
  go_enter Try.func79, Try.ntmps79
  go_wp2
  go_ret
  exact ⟨rfl, d⟩

/-- THE CONTRACT. -/
theorem uses_any (r : Rec) (va vb : Value) (w : World) (q : Bool) (Hq : Hid (q = true ↔ r.uses)) (hin : RcIn w r va vb) :
    Calls Try.prog 79 #[.agg (rcA r va vb)] w fun e w' => e = .returned (.bool q) ∧ Below w.heap.size w w' := by
  by_cases hk : r.k < 1 ∨ 8 < r.k
  · exact uses_no r va vb w q Hq hin hk
  by_cases h1 : r.k = 1
  · exact uses_1 r va vb w q Hq hin h1
  by_cases h2 : r.k = 2
  · exact uses_2 r va vb w q Hq hin h2
  by_cases h3 : r.k = 3
  · exact uses_3 r va vb w q Hq hin h3
  by_cases h4 : r.k = 4
  · exact uses_4 r va vb w q Hq hin h4
  by_cases h5 : r.k = 5
  · exact uses_5 r va vb w q Hq hin h5
  by_cases h6 : r.k = 6
  · exact uses_6 r va vb w q Hq hin h6
  by_cases h7 : r.k = 7
  · exact uses_7 r va vb w q Hq hin h7
  exact uses_8 r va vb w q Hq hin (by omega)
end Go.Proofs.Ytfbelaalmdcaaaa

/-
  A struct as a call's one result. Of no program.
-/
namespace Go.Proofs.Ytfbelaalmdcaaaa
open Go.RowKit
set_option linter.unusedVariables false

section
variable {P : Program}
theorem results_one {fn : Func} {p : Tmp} {t : TypeId} (h : fn.results = #[.cell p t]) (tmps : Array Value) (P : Program) (w : World) :
    (results fn tmps).run P w = ((asAddr (tmps.getD p undef)).run P w).andThen fun a w₁ => (loadVar t a).run P w₁ := by
  simp only [results, h]
  simp [Sem.run_bind, Result.andThen]
theorem res_one {fn : Func} {p : Tmp} {t : TypeId} (h : fn.results = #[.cell p t]) (tmps : Array Value) (w : World) (g : Nat) (cs : Array Value) (d : TypeDesc) (hp : tmps.getD p undef = .pointer (some ⟨g, 0, none⟩)) (hg : RowAt w g t cs)
    (hu : P.underlying t = some d) (hd : (match d with | .struct _ | .array _ _ => true | _ => false) = true) (hi : (P.info? t).map (·.size) = some cs.size) :
    (results fn tmps).run P w = .ok (.agg cs) w := by
  have h1 := run_loadVar_row (P := P) w g t t cs (0, 0) d hg hu hd hi
  rw [results_one h, hp]
  simp only [asAddr, Sem.run_pure, Result.andThen_ok, h1]
end
end Go.Proofs.Ytfbelaalmdcaaaa

/-
  The contract of record.used: what all kinds share.
-/
namespace Go.Proofs.Ytfbelaalmdcaaaa
open Go.RowKit
set_option linter.unusedVariables false
theorem Keeps.setTop {w x : World} {g : Nat} {t : TypeId} {cs : Array Value} {l : List (Nat × TypeId × Array Value)} (h : Keeps w x ((g, t, cs) :: l)) (hg : w.heap.size ≤ g) (hl : ∀ e ∈ l, e.1 ≠ g) (j : Nat) (v : Value) : Keeps w (x.setCell ⟨g, j, none⟩ v) ((g, t, cs.setIfInBounds j v) :: l) := by
  refine ⟨⟨h.1.1.set j v, ?_⟩, h.2.setCell hg v⟩
  have : ∀ l : List (Nat × TypeId × Array Value), (∀ e ∈ l, e.1 ≠ g) → Has x l → Has (x.setCell ⟨g, j, none⟩ v) l := by
    intro l
    induction l with
    | nil => exact fun _ _ => trivial
    | cons e l ih => exact fun hl hh => ⟨hh.1.other _ _ (hl e (by simp)), ih (fun e he => hl e (by simp [he])) hh.2⟩
  exact this l hl h.1.2
theorem row_there {w : World} {g : Nat} {t : TypeId} {cs : Array Value} (h : RowAt w g t cs) (o n : Nat) (hn : o + n ≤ cs.size) : w.there g o n := fun j hj => ⟨by rw [h.cell (o + j) _ (Array.getElem?_eq_getElem (by omega))]; rfl, h.free _⟩
/-- A list's value in a record that holds what its kind uses. -/
def uV (r : Rec) (v : Value) : Value := if r.k = 8 then v else .slice none 0 0
theorem _root_.Go.RowKit.Below.set1 {B : Nat} {w w' : World} (h : Below B w w') {g : Nat} (hg : B ≤ g) (j : Nat) (v : Value) : Below B w (w'.setCell ⟨g, j, none⟩ v) := h.setCell hg v
end Go.Proofs.Ytfbelaalmdcaaaa

/-
  The contract of record.used, kinds 1.
-/
namespace Go.Proofs.Ytfbelaalmdcaaaa
open Go.RowKit
set_option linter.unusedVariables false

set_option maxRecDepth 4000 in
set_option maxHeartbeats 1600000 in
theorem used_1 (r : Rec) (va vb : Value) (w : World) (hk : r.k = 1) (hin : RcIn w r va vb) :
    Calls Try.prog 81 #[.agg (rcA r va vb)] w fun e w' => e = .returned (.agg (rcA r.used (uV r va) (uV r vb))) ∧ Below w.heap.size w w' := by
  have HIN := hide hin
  obtain ⟨⟨e1, cap1, rfl, -⟩, ⟨e2, cap2, rfl, -⟩⟩ := hin
  have HK0 := hide (Keeps.two w 43 43 (rcA r (.slice e1 r.ts.length cap1) (.slice e2 r.ds.length cap2)) #[.int .i64 0, .int .u64 0, .int .i64 0, .int .u64 0, .int .i64 0, .int .i64 0, .int .i64 0, .string ⟨#[]⟩, .string ⟨#[]⟩, .int .u64 0, .int .i64 0, .int .u64 0, .slice none 0 0, .slice none 0 0])
  have c0 := HK0.out.1.2.1.cell 0 (.int .i64 r.k) rfl
  have c1 := HK0.out.1.2.1.cell 1 (.int .u64 (r.l : Int)) rfl
  rw [hk] at c0
  obtain ⟨A, hA⟩ : ∃ A, A = rcA r (.slice e1 r.ts.length cap1) (.slice e2 r.ds.length cap2) := ⟨_, rfl⟩
  rw [← hA] at HK0 c0 c1 ⊢
  have HA := hide hA
  clear hA
  have HK3 := hide (Keeps.three w 43 43 43 A #[.int .i64 0, .int .u64 0, .int .i64 0, .int .u64 0, .int .i64 0, .int .i64 0, .int .i64 0, .string ⟨#[]⟩, .string ⟨#[]⟩, .int .u64 0, .int .i64 0, .int .u64 0, .slice none 0 0, .slice none 0 0] #[.int .i64 1, .int .u64 (r.l : Int), .int .i64 0, .int .u64 0, .int .i64 0, .int .i64 0, .int .i64 0, .string ⟨#[]⟩, .string ⟨#[]⟩, .int .u64 0, .int .i64 0, .int .u64 0, .slice none 0 0, .slice none 0 0])
  have c03 := HK3.out.1.2.2.1.cell 0 (.int .i64 1) (by rw [HA.out, ← hk]; rfl)
  go_enter Try.func81, Try.ntmps81
  go_wp2_with fail
  refine gen_wp (fun x => Hid (Keeps w x [(w.heap.size + 1 + 1, 43, #[.int .i64 1, .int .u64 (r.l : Int), .int .i64 0, .int .u64 0, .int .i64 0, .int .i64 0, .int .i64 0, .string ⟨#[]⟩, .string ⟨#[]⟩, .int .u64 0, .int .i64 0, .int .u64 0, .slice none 0 0, .slice none 0 0]), (w.heap.size + 1, 43, #[.int .i64 0, .int .u64 0, .int .i64 0, .int .u64 0, .int .i64 0, .int .i64 0, .int .i64 0, .string ⟨#[]⟩, .string ⟨#[]⟩, .int .u64 0, .int .i64 0, .int .u64 0, .slice none 0 0, .slice none 0 0]), (w.heap.size, 43, A)])) HK3 ?_
  clear HK3 HK0 c0 c1 c03
  intro x0 HK
  have HGE : Hid (w.heap.size ≤ w.heap.size + 1 + 1 ∧ w.heap.size + 1 ≠ w.heap.size + 1 + 1 ∧ w.heap.size ≠ w.heap.size + 1 + 1 ∧ w.heap.size ≤ w.heap.size + 1) := ⟨by omega, by omega, by omega, by omega⟩
  revert HK HGE
  generalize w.heap.size + 1 + 1 = g2
  generalize w.heap.size + 1 = g1
  intro HK HGE
  have c2 := HK.out.1.2.2.1.cell 2 (.int .i64 r.t) (by rw [HA.out]; rfl)
  have c3 := HK.out.1.2.2.1.cell 3 (.int .u64 (r.p : Int)) (by rw [HA.out]; rfl)
  have f2 := HK.out.1.1.free 2
  have d2 := HK.out.1.1.cell 2 (.int .i64 0) rfl
  have f3 := HK.out.1.1.free 3
  have d3 := HK.out.1.1.cell 3 (.int .u64 0) rfl
  have n2 := HGE.out.2.2.1
  go_region
  have hl : ∀ e ∈ [(g1, 43, #[.int .i64 0, .int .u64 0, .int .i64 0, .int .u64 0, .int .i64 0, .int .i64 0, .int .i64 0, .string ⟨#[]⟩, .string ⟨#[]⟩, .int .u64 0, .int .i64 0, .int .u64 0, .slice none 0 0, .slice none 0 0]), (w.heap.size, 43, A)], e.1 ≠ g2 := by
    intro e he
    simp only [List.mem_cons, List.not_mem_nil, or_false] at he
    rcases he with rfl | rfl
    · exact HGE.out.2.1
    · exact HGE.out.2.2.1
  have HK2 : Hid (Keeps w ((x0.setCell ⟨g2, 2, none⟩ (.int .i64 r.t)).setCell ⟨g2, 3, none⟩ (.int .u64 (r.p : Int))).drew [(g2, 43, #[.int .i64 1, .int .u64 (r.l : Int), .int .i64 r.t, .int .u64 (r.p : Int), .int .i64 0, .int .i64 0, .int .i64 0, .string ⟨#[]⟩, .string ⟨#[]⟩, .int .u64 0, .int .i64 0, .int .u64 0, .slice none 0 0, .slice none 0 0]), (g1, 43, #[.int .i64 0, .int .u64 0, .int .i64 0, .int .u64 0, .int .i64 0, .int .i64 0, .int .i64 0, .string ⟨#[]⟩, .string ⟨#[]⟩, .int .u64 0, .int .i64 0, .int .u64 0, .slice none 0 0, .slice none 0 0]), (w.heap.size, 43, A)]) := ((HK.out.setTop HGE.out.1 hl 2 (.int .i64 r.t)).setTop HGE.out.1 hl 3 (.int .u64 (r.p : Int))).drew
  refine gen_w (fun x => Hid (Keeps w x [(g2, 43, #[.int .i64 1, .int .u64 (r.l : Int), .int .i64 r.t, .int .u64 (r.p : Int), .int .i64 0, .int .i64 0, .int .i64 0, .string ⟨#[]⟩, .string ⟨#[]⟩, .int .u64 0, .int .i64 0, .int .u64 0, .slice none 0 0, .slice none 0 0]), (g1, 43, #[.int .i64 0, .int .u64 0, .int .i64 0, .int .u64 0, .int .i64 0, .int .i64 0, .int .i64 0, .string ⟨#[]⟩, .string ⟨#[]⟩, .int .u64 0, .int .i64 0, .int .u64 0, .slice none 0 0, .slice none 0 0]), (w.heap.size, 43, A)])) HK2 ?_
  clear HK2 HK hl n2 c2 f2 d2 c3 f3 d3
  intro x1 HK
  have c0 := HK.out.1.2.2.1.cell 0 (.int .i64 1) (by rw [HA.out, ← hk]; rfl)
  have hl : ∀ e ∈ [(g1, 43, #[.int .i64 0, .int .u64 0, .int .i64 0, .int .u64 0, .int .i64 0, .int .i64 0, .int .i64 0, .string ⟨#[]⟩, .string ⟨#[]⟩, .int .u64 0, .int .i64 0, .int .u64 0, .slice none 0 0, .slice none 0 0]), (w.heap.size, 43, A)], e.1 ≠ g2 := by
    intro e he
    simp only [List.mem_cons, List.not_mem_nil, or_false] at he
    rcases he with rfl | rfl
    · exact HGE.out.2.1
    · exact HGE.out.2.2.1
  have HKC : Hid (Keeps w (x1.setCells g2 4 (chA r.c).toList) [(g2, 43, #[.int .i64 1, .int .u64 (r.l : Int), .int .i64 r.t, .int .u64 (r.p : Int), .int .i64 r.c.k, .int .i64 r.c.pg, .int .i64 r.c.sl, .string r.c.o, .string r.c.n, .int .u64 0, .int .i64 0, .int .u64 0, .slice none 0 0, .slice none 0 0]), (g1, 43, #[.int .i64 0, .int .u64 0, .int .i64 0, .int .u64 0, .int .i64 0, .int .i64 0, .int .i64 0, .string ⟨#[]⟩, .string ⟨#[]⟩, .int .u64 0, .int .i64 0, .int .u64 0, .slice none 0 0, .slice none 0 0]), (w.heap.size, 43, A)]) := (((((HK.out.setTop HGE.out.1 hl 4 (.int .i64 r.c.k)).setTop HGE.out.1 hl 5 (.int .i64 r.c.pg)).setTop HGE.out.1 hl 6 (.int .i64 r.c.sl)).setTop HGE.out.1 hl 7 (.string r.c.o)).setTop HGE.out.1 hl 8 (.string r.c.n))
  have HCH : Hid (x1.rangeAt w.heap.size 4 (chA r.c).toList) := rc_change (show RowAt x1 w.heap.size 43 (rcA r (.slice e1 r.ts.length cap1) (.slice e2 r.ds.length cap2)) from by rw [← HA.out]; exact HK.out.1.2.2.1)
  have HTH : Hid (x1.there g2 4 5) := row_there HK.out.1.1 4 5 (by show 4 + 5 ≤ 14; omega)
  clear hl
  go_wp2_with (first | (refine wpList_load_mid rfl 39 (.tmp 27) rfl w.heap.size 4 (chA r.c) rfl HCH.out _ Try.underlying39 rfl infoCh ?_) | (refine wpList_store_mid rfl 39 (.tmp 29) (.tmp 28) rfl g2 4 (chA r.c) rfl rfl HTH.out infoCh (chA_one _) ?_; refine gen_w (fun x => Hid (Keeps w x [(g2, 43, #[.int .i64 1, .int .u64 (r.l : Int), .int .i64 r.t, .int .u64 (r.p : Int), .int .i64 r.c.k, .int .i64 r.c.pg, .int .i64 r.c.sl, .string r.c.o, .string r.c.n, .int .u64 0, .int .i64 0, .int .u64 0, .slice none 0 0, .slice none 0 0]), (g1, 43, #[.int .i64 0, .int .u64 0, .int .i64 0, .int .u64 0, .int .i64 0, .int .i64 0, .int .i64 0, .string ⟨#[]⟩, .string ⟨#[]⟩, .int .u64 0, .int .i64 0, .int .u64 0, .slice none 0 0, .slice none 0 0]), (w.heap.size, 43, A)])) HKC ?_; clear HKC HTH HCH HK c0; intro x9 HK) | (refine wpList_load_at rfl 43 (.tmp 3) rfl g2 rfl #[.int .i64 1, .int .u64 (r.l : Int), .int .i64 r.t, .int .u64 (r.p : Int), .int .i64 r.c.k, .int .i64 r.c.pg, .int .i64 r.c.sl, .string r.c.o, .string r.c.n, .int .u64 0, .int .i64 0, .int .u64 0, .slice none 0 0, .slice none 0 0] HK.out.1.1 _ Try.underlying43 rfl infoRc ?_) | (refine wpList_store_at rfl 43 (.tmp 2) (.tmp 54) rfl g1 #[.int .i64 0, .int .u64 0, .int .i64 0, .int .u64 0, .int .i64 0, .int .i64 0, .int .i64 0, .string ⟨#[]⟩, .string ⟨#[]⟩, .int .u64 0, .int .i64 0, .int .u64 0, .slice none 0 0, .slice none 0 0] #[.int .i64 1, .int .u64 (r.l : Int), .int .i64 r.t, .int .u64 (r.p : Int), .int .i64 r.c.k, .int .i64 r.c.pg, .int .i64 r.c.sl, .string r.c.o, .string r.c.n, .int .u64 0, .int .i64 0, .int .u64 0, .slice none 0 0, .slice none 0 0] rfl rfl HK.out.1.2.1 infoRc rfl (by simp [Value.oneCell']) ?_))
  intro w9 hr9 hk9 _
  have HB := hide (hk9 _ _ HK.out.2 HGE.out.2.2.2)
  have HROW := hide hr9
  clear hr9 hk9 HK
  go_wp2
  (try simp only [Exit.inBlock, Exit.then])
  refine bodyPost_ret (res_one rfl _ _ g1 #[.int .i64 1, .int .u64 (r.l : Int), .int .i64 r.t, .int .u64 (r.p : Int), .int .i64 r.c.k, .int .i64 r.c.pg, .int .i64 r.c.sl, .string r.c.o, .string r.c.n, .int .u64 0, .int .i64 0, .int .u64 0, .slice none 0 0, .slice none 0 0] _ rfl HROW.out Try.underlying43 rfl infoRc) rfl ?_
  refine ⟨?_, HB.out⟩
  apply congrArg Ending.returned
  apply congrArg Value.agg
  unfold rcA Rec.used uV
  simp [hk]

end Go.Proofs.Ytfbelaalmdcaaaa

/-
  The contract of record.used, kinds 3, 4, 5.
-/
namespace Go.Proofs.Ytfbelaalmdcaaaa
open Go.RowKit
set_option linter.unusedVariables false

set_option maxRecDepth 4000 in
set_option maxHeartbeats 1600000 in
theorem used_3 (r : Rec) (va vb : Value) (w : World) (hk : r.k = 3) (hin : RcIn w r va vb) :
    Calls Try.prog 81 #[.agg (rcA r va vb)] w fun e w' => e = .returned (.agg (rcA r.used (uV r va) (uV r vb))) ∧ Below w.heap.size w w' := by
  have HIN := hide hin
  obtain ⟨⟨e1, cap1, rfl, -⟩, ⟨e2, cap2, rfl, -⟩⟩ := hin
  have HK0 := hide (Keeps.two w 43 43 (rcA r (.slice e1 r.ts.length cap1) (.slice e2 r.ds.length cap2)) #[.int .i64 0, .int .u64 0, .int .i64 0, .int .u64 0, .int .i64 0, .int .i64 0, .int .i64 0, .string ⟨#[]⟩, .string ⟨#[]⟩, .int .u64 0, .int .i64 0, .int .u64 0, .slice none 0 0, .slice none 0 0])
  have c0 := HK0.out.1.2.1.cell 0 (.int .i64 r.k) rfl
  have c1 := HK0.out.1.2.1.cell 1 (.int .u64 (r.l : Int)) rfl
  rw [hk] at c0
  obtain ⟨A, hA⟩ : ∃ A, A = rcA r (.slice e1 r.ts.length cap1) (.slice e2 r.ds.length cap2) := ⟨_, rfl⟩
  rw [← hA] at HK0 c0 c1 ⊢
  have HA := hide hA
  clear hA
  have HK3 := hide (Keeps.three w 43 43 43 A #[.int .i64 0, .int .u64 0, .int .i64 0, .int .u64 0, .int .i64 0, .int .i64 0, .int .i64 0, .string ⟨#[]⟩, .string ⟨#[]⟩, .int .u64 0, .int .i64 0, .int .u64 0, .slice none 0 0, .slice none 0 0] #[.int .i64 3, .int .u64 (r.l : Int), .int .i64 0, .int .u64 0, .int .i64 0, .int .i64 0, .int .i64 0, .string ⟨#[]⟩, .string ⟨#[]⟩, .int .u64 0, .int .i64 0, .int .u64 0, .slice none 0 0, .slice none 0 0])
  have c03 := HK3.out.1.2.2.1.cell 0 (.int .i64 3) (by rw [HA.out, ← hk]; rfl)
  go_enter Try.func81, Try.ntmps81
  go_wp2_with fail
  refine gen_wp (fun x => Hid (Keeps w x [(w.heap.size + 1 + 1, 43, #[.int .i64 3, .int .u64 (r.l : Int), .int .i64 0, .int .u64 0, .int .i64 0, .int .i64 0, .int .i64 0, .string ⟨#[]⟩, .string ⟨#[]⟩, .int .u64 0, .int .i64 0, .int .u64 0, .slice none 0 0, .slice none 0 0]), (w.heap.size + 1, 43, #[.int .i64 0, .int .u64 0, .int .i64 0, .int .u64 0, .int .i64 0, .int .i64 0, .int .i64 0, .string ⟨#[]⟩, .string ⟨#[]⟩, .int .u64 0, .int .i64 0, .int .u64 0, .slice none 0 0, .slice none 0 0]), (w.heap.size, 43, A)])) HK3 ?_
  clear HK3 HK0 c0 c1 c03
  intro x0 HK
  have HGE : Hid (w.heap.size ≤ w.heap.size + 1 + 1 ∧ w.heap.size + 1 ≠ w.heap.size + 1 + 1 ∧ w.heap.size ≠ w.heap.size + 1 + 1 ∧ w.heap.size ≤ w.heap.size + 1) := ⟨by omega, by omega, by omega, by omega⟩
  revert HK HGE
  generalize w.heap.size + 1 + 1 = g2
  generalize w.heap.size + 1 = g1
  intro HK HGE
  have c2 := HK.out.1.2.2.1.cell 2 (.int .i64 r.t) (by rw [HA.out]; rfl)
  have c3 := HK.out.1.2.2.1.cell 3 (.int .u64 (r.p : Int)) (by rw [HA.out]; rfl)
  have f2 := HK.out.1.1.free 2
  have d2 := HK.out.1.1.cell 2 (.int .i64 0) rfl
  have f3 := HK.out.1.1.free 3
  have d3 := HK.out.1.1.cell 3 (.int .u64 0) rfl
  have n2 := HGE.out.2.2.1
  go_region
  have hl : ∀ e ∈ [(g1, 43, #[.int .i64 0, .int .u64 0, .int .i64 0, .int .u64 0, .int .i64 0, .int .i64 0, .int .i64 0, .string ⟨#[]⟩, .string ⟨#[]⟩, .int .u64 0, .int .i64 0, .int .u64 0, .slice none 0 0, .slice none 0 0]), (w.heap.size, 43, A)], e.1 ≠ g2 := by
    intro e he
    simp only [List.mem_cons, List.not_mem_nil, or_false] at he
    rcases he with rfl | rfl
    · exact HGE.out.2.1
    · exact HGE.out.2.2.1
  have HK2 : Hid (Keeps w ((x0.setCell ⟨g2, 2, none⟩ (.int .i64 r.t)).setCell ⟨g2, 3, none⟩ (.int .u64 (r.p : Int))).drew [(g2, 43, #[.int .i64 3, .int .u64 (r.l : Int), .int .i64 r.t, .int .u64 (r.p : Int), .int .i64 0, .int .i64 0, .int .i64 0, .string ⟨#[]⟩, .string ⟨#[]⟩, .int .u64 0, .int .i64 0, .int .u64 0, .slice none 0 0, .slice none 0 0]), (g1, 43, #[.int .i64 0, .int .u64 0, .int .i64 0, .int .u64 0, .int .i64 0, .int .i64 0, .int .i64 0, .string ⟨#[]⟩, .string ⟨#[]⟩, .int .u64 0, .int .i64 0, .int .u64 0, .slice none 0 0, .slice none 0 0]), (w.heap.size, 43, A)]) := ((HK.out.setTop HGE.out.1 hl 2 (.int .i64 r.t)).setTop HGE.out.1 hl 3 (.int .u64 (r.p : Int))).drew
  refine gen_w (fun x => Hid (Keeps w x [(g2, 43, #[.int .i64 3, .int .u64 (r.l : Int), .int .i64 r.t, .int .u64 (r.p : Int), .int .i64 0, .int .i64 0, .int .i64 0, .string ⟨#[]⟩, .string ⟨#[]⟩, .int .u64 0, .int .i64 0, .int .u64 0, .slice none 0 0, .slice none 0 0]), (g1, 43, #[.int .i64 0, .int .u64 0, .int .i64 0, .int .u64 0, .int .i64 0, .int .i64 0, .int .i64 0, .string ⟨#[]⟩, .string ⟨#[]⟩, .int .u64 0, .int .i64 0, .int .u64 0, .slice none 0 0, .slice none 0 0]), (w.heap.size, 43, A)])) HK2 ?_
  clear HK2 HK hl n2 c2 f2 d2 c3 f3 d3
  intro x1 HK
  have c0 := HK.out.1.2.2.1.cell 0 (.int .i64 3) (by rw [HA.out, ← hk]; rfl)
  have d0 := HK.out.1.1.cell 0 (.int .i64 3) rfl
  have d1 := HK.out.1.1.cell 1 (.int .u64 (r.l : Int)) rfl
  have d2 := HK.out.1.1.cell 2 (.int .i64 r.t) rfl
  have d3 := HK.out.1.1.cell 3 (.int .u64 (r.p : Int)) rfl
  have d4 := HK.out.1.1.cell 4 (.int .i64 0) rfl
  have d5 := HK.out.1.1.cell 5 (.int .i64 0) rfl
  have d6 := HK.out.1.1.cell 6 (.int .i64 0) rfl
  have d7 := HK.out.1.1.cell 7 (.string ⟨#[]⟩) rfl
  have d8 := HK.out.1.1.cell 8 (.string ⟨#[]⟩) rfl
  have d9 := HK.out.1.1.cell 9 (.int .u64 0) rfl
  have d10 := HK.out.1.1.cell 10 (.int .i64 0) rfl
  have d11 := HK.out.1.1.cell 11 (.int .u64 0) rfl
  have d12 := HK.out.1.1.cell 12 (.slice none 0 0) rfl
  have d13 := HK.out.1.1.cell 13 (.slice none 0 0) rfl
  have n1 := HGE.out.2.1
  have n2 := HGE.out.2.2.1
  have HZ := hide HK.out.1.2.1
  have HBB := hide HK.out.2
  go_wp2_with (refine wpList_store_at rfl 43 (.tmp 2) (.tmp 54) rfl g1 #[.int .i64 0, .int .u64 0, .int .i64 0, .int .u64 0, .int .i64 0, .int .i64 0, .int .i64 0, .string ⟨#[]⟩, .string ⟨#[]⟩, .int .u64 0, .int .i64 0, .int .u64 0, .slice none 0 0, .slice none 0 0] #[.int .i64 3, .int .u64 (r.l : Int), .int .i64 r.t, .int .u64 (r.p : Int), .int .i64 0, .int .i64 0, .int .i64 0, .string ⟨#[]⟩, .string ⟨#[]⟩, .int .u64 0, .int .i64 0, .int .u64 0, .slice none 0 0, .slice none 0 0] rfl rfl HZ.out infoRc rfl (by simp [Value.oneCell']) ?_)
  intro w9 hr9 hk9 _
  have HB := hide (hk9 _ _ HBB.out HGE.out.2.2.2)
  have HROW := hide hr9
  clear hr9 hk9 HZ HBB HK d0 d1 d2 d3 d4 d5 d6 d7 d8 d9 d10 d11 d12 d13 c0 
  go_wp2
  (try simp only [Exit.inBlock, Exit.then])
  refine bodyPost_ret (res_one rfl _ _ g1 #[.int .i64 3, .int .u64 (r.l : Int), .int .i64 r.t, .int .u64 (r.p : Int), .int .i64 0, .int .i64 0, .int .i64 0, .string ⟨#[]⟩, .string ⟨#[]⟩, .int .u64 0, .int .i64 0, .int .u64 0, .slice none 0 0, .slice none 0 0] _ rfl HROW.out Try.underlying43 rfl infoRc) rfl ?_
  refine ⟨?_, HB.out⟩
  apply congrArg Ending.returned
  apply congrArg Value.agg
  unfold rcA Rec.used uV
  simp [hk, Ch.zero]

set_option maxRecDepth 4000 in
set_option maxHeartbeats 1600000 in
theorem used_4 (r : Rec) (va vb : Value) (w : World) (hk : r.k = 4) (hin : RcIn w r va vb) :
    Calls Try.prog 81 #[.agg (rcA r va vb)] w fun e w' => e = .returned (.agg (rcA r.used (uV r va) (uV r vb))) ∧ Below w.heap.size w w' := by
  have HIN := hide hin
  obtain ⟨⟨e1, cap1, rfl, -⟩, ⟨e2, cap2, rfl, -⟩⟩ := hin
  have HK0 := hide (Keeps.two w 43 43 (rcA r (.slice e1 r.ts.length cap1) (.slice e2 r.ds.length cap2)) #[.int .i64 0, .int .u64 0, .int .i64 0, .int .u64 0, .int .i64 0, .int .i64 0, .int .i64 0, .string ⟨#[]⟩, .string ⟨#[]⟩, .int .u64 0, .int .i64 0, .int .u64 0, .slice none 0 0, .slice none 0 0])
  have c0 := HK0.out.1.2.1.cell 0 (.int .i64 r.k) rfl
  have c1 := HK0.out.1.2.1.cell 1 (.int .u64 (r.l : Int)) rfl
  rw [hk] at c0
  obtain ⟨A, hA⟩ : ∃ A, A = rcA r (.slice e1 r.ts.length cap1) (.slice e2 r.ds.length cap2) := ⟨_, rfl⟩
  rw [← hA] at HK0 c0 c1 ⊢
  have HA := hide hA
  clear hA
  have HK3 := hide (Keeps.three w 43 43 43 A #[.int .i64 0, .int .u64 0, .int .i64 0, .int .u64 0, .int .i64 0, .int .i64 0, .int .i64 0, .string ⟨#[]⟩, .string ⟨#[]⟩, .int .u64 0, .int .i64 0, .int .u64 0, .slice none 0 0, .slice none 0 0] #[.int .i64 4, .int .u64 (r.l : Int), .int .i64 0, .int .u64 0, .int .i64 0, .int .i64 0, .int .i64 0, .string ⟨#[]⟩, .string ⟨#[]⟩, .int .u64 0, .int .i64 0, .int .u64 0, .slice none 0 0, .slice none 0 0])
  have c03 := HK3.out.1.2.2.1.cell 0 (.int .i64 4) (by rw [HA.out, ← hk]; rfl)
  go_enter Try.func81, Try.ntmps81
  go_wp2_with fail
  refine gen_wp (fun x => Hid (Keeps w x [(w.heap.size + 1 + 1, 43, #[.int .i64 4, .int .u64 (r.l : Int), .int .i64 0, .int .u64 0, .int .i64 0, .int .i64 0, .int .i64 0, .string ⟨#[]⟩, .string ⟨#[]⟩, .int .u64 0, .int .i64 0, .int .u64 0, .slice none 0 0, .slice none 0 0]), (w.heap.size + 1, 43, #[.int .i64 0, .int .u64 0, .int .i64 0, .int .u64 0, .int .i64 0, .int .i64 0, .int .i64 0, .string ⟨#[]⟩, .string ⟨#[]⟩, .int .u64 0, .int .i64 0, .int .u64 0, .slice none 0 0, .slice none 0 0]), (w.heap.size, 43, A)])) HK3 ?_
  clear HK3 HK0 c0 c1 c03
  intro x0 HK
  have HGE : Hid (w.heap.size ≤ w.heap.size + 1 + 1 ∧ w.heap.size + 1 ≠ w.heap.size + 1 + 1 ∧ w.heap.size ≠ w.heap.size + 1 + 1 ∧ w.heap.size ≤ w.heap.size + 1) := ⟨by omega, by omega, by omega, by omega⟩
  revert HK HGE
  generalize w.heap.size + 1 + 1 = g2
  generalize w.heap.size + 1 = g1
  intro HK HGE
  have c2 := HK.out.1.2.2.1.cell 2 (.int .i64 r.t) (by rw [HA.out]; rfl)
  have c3 := HK.out.1.2.2.1.cell 3 (.int .u64 (r.p : Int)) (by rw [HA.out]; rfl)
  have f2 := HK.out.1.1.free 2
  have d2 := HK.out.1.1.cell 2 (.int .i64 0) rfl
  have f3 := HK.out.1.1.free 3
  have d3 := HK.out.1.1.cell 3 (.int .u64 0) rfl
  have n2 := HGE.out.2.2.1
  go_region
  have hl : ∀ e ∈ [(g1, 43, #[.int .i64 0, .int .u64 0, .int .i64 0, .int .u64 0, .int .i64 0, .int .i64 0, .int .i64 0, .string ⟨#[]⟩, .string ⟨#[]⟩, .int .u64 0, .int .i64 0, .int .u64 0, .slice none 0 0, .slice none 0 0]), (w.heap.size, 43, A)], e.1 ≠ g2 := by
    intro e he
    simp only [List.mem_cons, List.not_mem_nil, or_false] at he
    rcases he with rfl | rfl
    · exact HGE.out.2.1
    · exact HGE.out.2.2.1
  have HK2 : Hid (Keeps w ((x0.setCell ⟨g2, 2, none⟩ (.int .i64 r.t)).setCell ⟨g2, 3, none⟩ (.int .u64 (r.p : Int))).drew [(g2, 43, #[.int .i64 4, .int .u64 (r.l : Int), .int .i64 r.t, .int .u64 (r.p : Int), .int .i64 0, .int .i64 0, .int .i64 0, .string ⟨#[]⟩, .string ⟨#[]⟩, .int .u64 0, .int .i64 0, .int .u64 0, .slice none 0 0, .slice none 0 0]), (g1, 43, #[.int .i64 0, .int .u64 0, .int .i64 0, .int .u64 0, .int .i64 0, .int .i64 0, .int .i64 0, .string ⟨#[]⟩, .string ⟨#[]⟩, .int .u64 0, .int .i64 0, .int .u64 0, .slice none 0 0, .slice none 0 0]), (w.heap.size, 43, A)]) := ((HK.out.setTop HGE.out.1 hl 2 (.int .i64 r.t)).setTop HGE.out.1 hl 3 (.int .u64 (r.p : Int))).drew
  refine gen_w (fun x => Hid (Keeps w x [(g2, 43, #[.int .i64 4, .int .u64 (r.l : Int), .int .i64 r.t, .int .u64 (r.p : Int), .int .i64 0, .int .i64 0, .int .i64 0, .string ⟨#[]⟩, .string ⟨#[]⟩, .int .u64 0, .int .i64 0, .int .u64 0, .slice none 0 0, .slice none 0 0]), (g1, 43, #[.int .i64 0, .int .u64 0, .int .i64 0, .int .u64 0, .int .i64 0, .int .i64 0, .int .i64 0, .string ⟨#[]⟩, .string ⟨#[]⟩, .int .u64 0, .int .i64 0, .int .u64 0, .slice none 0 0, .slice none 0 0]), (w.heap.size, 43, A)])) HK2 ?_
  clear HK2 HK hl n2 c2 f2 d2 c3 f3 d3
  intro x1 HK
  have c0 := HK.out.1.2.2.1.cell 0 (.int .i64 4) (by rw [HA.out, ← hk]; rfl)
  have d0 := HK.out.1.1.cell 0 (.int .i64 4) rfl
  have d1 := HK.out.1.1.cell 1 (.int .u64 (r.l : Int)) rfl
  have d2 := HK.out.1.1.cell 2 (.int .i64 r.t) rfl
  have d3 := HK.out.1.1.cell 3 (.int .u64 (r.p : Int)) rfl
  have d4 := HK.out.1.1.cell 4 (.int .i64 0) rfl
  have d5 := HK.out.1.1.cell 5 (.int .i64 0) rfl
  have d6 := HK.out.1.1.cell 6 (.int .i64 0) rfl
  have d7 := HK.out.1.1.cell 7 (.string ⟨#[]⟩) rfl
  have d8 := HK.out.1.1.cell 8 (.string ⟨#[]⟩) rfl
  have d9 := HK.out.1.1.cell 9 (.int .u64 0) rfl
  have d10 := HK.out.1.1.cell 10 (.int .i64 0) rfl
  have d11 := HK.out.1.1.cell 11 (.int .u64 0) rfl
  have d12 := HK.out.1.1.cell 12 (.slice none 0 0) rfl
  have d13 := HK.out.1.1.cell 13 (.slice none 0 0) rfl
  have n1 := HGE.out.2.1
  have n2 := HGE.out.2.2.1
  have HZ := hide HK.out.1.2.1
  have HBB := hide HK.out.2
  go_wp2_with (refine wpList_store_at rfl 43 (.tmp 2) (.tmp 54) rfl g1 #[.int .i64 0, .int .u64 0, .int .i64 0, .int .u64 0, .int .i64 0, .int .i64 0, .int .i64 0, .string ⟨#[]⟩, .string ⟨#[]⟩, .int .u64 0, .int .i64 0, .int .u64 0, .slice none 0 0, .slice none 0 0] #[.int .i64 4, .int .u64 (r.l : Int), .int .i64 r.t, .int .u64 (r.p : Int), .int .i64 0, .int .i64 0, .int .i64 0, .string ⟨#[]⟩, .string ⟨#[]⟩, .int .u64 0, .int .i64 0, .int .u64 0, .slice none 0 0, .slice none 0 0] rfl rfl HZ.out infoRc rfl (by simp [Value.oneCell']) ?_)
  intro w9 hr9 hk9 _
  have HB := hide (hk9 _ _ HBB.out HGE.out.2.2.2)
  have HROW := hide hr9
  clear hr9 hk9 HZ HBB HK d0 d1 d2 d3 d4 d5 d6 d7 d8 d9 d10 d11 d12 d13 c0 
  go_wp2
  (try simp only [Exit.inBlock, Exit.then])
  refine bodyPost_ret (res_one rfl _ _ g1 #[.int .i64 4, .int .u64 (r.l : Int), .int .i64 r.t, .int .u64 (r.p : Int), .int .i64 0, .int .i64 0, .int .i64 0, .string ⟨#[]⟩, .string ⟨#[]⟩, .int .u64 0, .int .i64 0, .int .u64 0, .slice none 0 0, .slice none 0 0] _ rfl HROW.out Try.underlying43 rfl infoRc) rfl ?_
  refine ⟨?_, HB.out⟩
  apply congrArg Ending.returned
  apply congrArg Value.agg
  unfold rcA Rec.used uV
  simp [hk, Ch.zero]

set_option maxRecDepth 4000 in
set_option maxHeartbeats 1600000 in
theorem used_5 (r : Rec) (va vb : Value) (w : World) (hk : r.k = 5) (hin : RcIn w r va vb) :
    Calls Try.prog 81 #[.agg (rcA r va vb)] w fun e w' => e = .returned (.agg (rcA r.used (uV r va) (uV r vb))) ∧ Below w.heap.size w w' := by
  have HIN := hide hin
  obtain ⟨⟨e1, cap1, rfl, -⟩, ⟨e2, cap2, rfl, -⟩⟩ := hin
  have HK0 := hide (Keeps.two w 43 43 (rcA r (.slice e1 r.ts.length cap1) (.slice e2 r.ds.length cap2)) #[.int .i64 0, .int .u64 0, .int .i64 0, .int .u64 0, .int .i64 0, .int .i64 0, .int .i64 0, .string ⟨#[]⟩, .string ⟨#[]⟩, .int .u64 0, .int .i64 0, .int .u64 0, .slice none 0 0, .slice none 0 0])
  have c0 := HK0.out.1.2.1.cell 0 (.int .i64 r.k) rfl
  have c1 := HK0.out.1.2.1.cell 1 (.int .u64 (r.l : Int)) rfl
  rw [hk] at c0
  obtain ⟨A, hA⟩ : ∃ A, A = rcA r (.slice e1 r.ts.length cap1) (.slice e2 r.ds.length cap2) := ⟨_, rfl⟩
  rw [← hA] at HK0 c0 c1 ⊢
  have HA := hide hA
  clear hA
  have HK3 := hide (Keeps.three w 43 43 43 A #[.int .i64 0, .int .u64 0, .int .i64 0, .int .u64 0, .int .i64 0, .int .i64 0, .int .i64 0, .string ⟨#[]⟩, .string ⟨#[]⟩, .int .u64 0, .int .i64 0, .int .u64 0, .slice none 0 0, .slice none 0 0] #[.int .i64 5, .int .u64 (r.l : Int), .int .i64 0, .int .u64 0, .int .i64 0, .int .i64 0, .int .i64 0, .string ⟨#[]⟩, .string ⟨#[]⟩, .int .u64 0, .int .i64 0, .int .u64 0, .slice none 0 0, .slice none 0 0])
  have c03 := HK3.out.1.2.2.1.cell 0 (.int .i64 5) (by rw [HA.out, ← hk]; rfl)
  go_enter Try.func81, Try.ntmps81
  go_wp2_with fail
  refine gen_wp (fun x => Hid (Keeps w x [(w.heap.size + 1 + 1, 43, #[.int .i64 5, .int .u64 (r.l : Int), .int .i64 0, .int .u64 0, .int .i64 0, .int .i64 0, .int .i64 0, .string ⟨#[]⟩, .string ⟨#[]⟩, .int .u64 0, .int .i64 0, .int .u64 0, .slice none 0 0, .slice none 0 0]), (w.heap.size + 1, 43, #[.int .i64 0, .int .u64 0, .int .i64 0, .int .u64 0, .int .i64 0, .int .i64 0, .int .i64 0, .string ⟨#[]⟩, .string ⟨#[]⟩, .int .u64 0, .int .i64 0, .int .u64 0, .slice none 0 0, .slice none 0 0]), (w.heap.size, 43, A)])) HK3 ?_
  clear HK3 HK0 c0 c1 c03
  intro x0 HK
  have HGE : Hid (w.heap.size ≤ w.heap.size + 1 + 1 ∧ w.heap.size + 1 ≠ w.heap.size + 1 + 1 ∧ w.heap.size ≠ w.heap.size + 1 + 1 ∧ w.heap.size ≤ w.heap.size + 1) := ⟨by omega, by omega, by omega, by omega⟩
  revert HK HGE
  generalize w.heap.size + 1 + 1 = g2
  generalize w.heap.size + 1 = g1
  intro HK HGE
  have c2 := HK.out.1.2.2.1.cell 2 (.int .i64 r.t) (by rw [HA.out]; rfl)
  have c3 := HK.out.1.2.2.1.cell 3 (.int .u64 (r.p : Int)) (by rw [HA.out]; rfl)
  have f2 := HK.out.1.1.free 2
  have d2 := HK.out.1.1.cell 2 (.int .i64 0) rfl
  have f3 := HK.out.1.1.free 3
  have d3 := HK.out.1.1.cell 3 (.int .u64 0) rfl
  have n2 := HGE.out.2.2.1
  go_region
  have hl : ∀ e ∈ [(g1, 43, #[.int .i64 0, .int .u64 0, .int .i64 0, .int .u64 0, .int .i64 0, .int .i64 0, .int .i64 0, .string ⟨#[]⟩, .string ⟨#[]⟩, .int .u64 0, .int .i64 0, .int .u64 0, .slice none 0 0, .slice none 0 0]), (w.heap.size, 43, A)], e.1 ≠ g2 := by
    intro e he
    simp only [List.mem_cons, List.not_mem_nil, or_false] at he
    rcases he with rfl | rfl
    · exact HGE.out.2.1
    · exact HGE.out.2.2.1
  have HK2 : Hid (Keeps w ((x0.setCell ⟨g2, 2, none⟩ (.int .i64 r.t)).setCell ⟨g2, 3, none⟩ (.int .u64 (r.p : Int))).drew [(g2, 43, #[.int .i64 5, .int .u64 (r.l : Int), .int .i64 r.t, .int .u64 (r.p : Int), .int .i64 0, .int .i64 0, .int .i64 0, .string ⟨#[]⟩, .string ⟨#[]⟩, .int .u64 0, .int .i64 0, .int .u64 0, .slice none 0 0, .slice none 0 0]), (g1, 43, #[.int .i64 0, .int .u64 0, .int .i64 0, .int .u64 0, .int .i64 0, .int .i64 0, .int .i64 0, .string ⟨#[]⟩, .string ⟨#[]⟩, .int .u64 0, .int .i64 0, .int .u64 0, .slice none 0 0, .slice none 0 0]), (w.heap.size, 43, A)]) := ((HK.out.setTop HGE.out.1 hl 2 (.int .i64 r.t)).setTop HGE.out.1 hl 3 (.int .u64 (r.p : Int))).drew
  refine gen_w (fun x => Hid (Keeps w x [(g2, 43, #[.int .i64 5, .int .u64 (r.l : Int), .int .i64 r.t, .int .u64 (r.p : Int), .int .i64 0, .int .i64 0, .int .i64 0, .string ⟨#[]⟩, .string ⟨#[]⟩, .int .u64 0, .int .i64 0, .int .u64 0, .slice none 0 0, .slice none 0 0]), (g1, 43, #[.int .i64 0, .int .u64 0, .int .i64 0, .int .u64 0, .int .i64 0, .int .i64 0, .int .i64 0, .string ⟨#[]⟩, .string ⟨#[]⟩, .int .u64 0, .int .i64 0, .int .u64 0, .slice none 0 0, .slice none 0 0]), (w.heap.size, 43, A)])) HK2 ?_
  clear HK2 HK hl n2 c2 f2 d2 c3 f3 d3
  intro x1 HK
  have c0 := HK.out.1.2.2.1.cell 0 (.int .i64 5) (by rw [HA.out, ← hk]; rfl)
  have d0 := HK.out.1.1.cell 0 (.int .i64 5) rfl
  have d1 := HK.out.1.1.cell 1 (.int .u64 (r.l : Int)) rfl
  have d2 := HK.out.1.1.cell 2 (.int .i64 r.t) rfl
  have d3 := HK.out.1.1.cell 3 (.int .u64 (r.p : Int)) rfl
  have d4 := HK.out.1.1.cell 4 (.int .i64 0) rfl
  have d5 := HK.out.1.1.cell 5 (.int .i64 0) rfl
  have d6 := HK.out.1.1.cell 6 (.int .i64 0) rfl
  have d7 := HK.out.1.1.cell 7 (.string ⟨#[]⟩) rfl
  have d8 := HK.out.1.1.cell 8 (.string ⟨#[]⟩) rfl
  have d9 := HK.out.1.1.cell 9 (.int .u64 0) rfl
  have d10 := HK.out.1.1.cell 10 (.int .i64 0) rfl
  have d11 := HK.out.1.1.cell 11 (.int .u64 0) rfl
  have d12 := HK.out.1.1.cell 12 (.slice none 0 0) rfl
  have d13 := HK.out.1.1.cell 13 (.slice none 0 0) rfl
  have n1 := HGE.out.2.1
  have n2 := HGE.out.2.2.1
  have HZ := hide HK.out.1.2.1
  have HBB := hide HK.out.2
  go_wp2_with (refine wpList_store_at rfl 43 (.tmp 2) (.tmp 54) rfl g1 #[.int .i64 0, .int .u64 0, .int .i64 0, .int .u64 0, .int .i64 0, .int .i64 0, .int .i64 0, .string ⟨#[]⟩, .string ⟨#[]⟩, .int .u64 0, .int .i64 0, .int .u64 0, .slice none 0 0, .slice none 0 0] #[.int .i64 5, .int .u64 (r.l : Int), .int .i64 r.t, .int .u64 (r.p : Int), .int .i64 0, .int .i64 0, .int .i64 0, .string ⟨#[]⟩, .string ⟨#[]⟩, .int .u64 0, .int .i64 0, .int .u64 0, .slice none 0 0, .slice none 0 0] rfl rfl HZ.out infoRc rfl (by simp [Value.oneCell']) ?_)
  intro w9 hr9 hk9 _
  have HB := hide (hk9 _ _ HBB.out HGE.out.2.2.2)
  have HROW := hide hr9
  clear hr9 hk9 HZ HBB HK d0 d1 d2 d3 d4 d5 d6 d7 d8 d9 d10 d11 d12 d13 c0 
  go_wp2
  (try simp only [Exit.inBlock, Exit.then])
  refine bodyPost_ret (res_one rfl _ _ g1 #[.int .i64 5, .int .u64 (r.l : Int), .int .i64 r.t, .int .u64 (r.p : Int), .int .i64 0, .int .i64 0, .int .i64 0, .string ⟨#[]⟩, .string ⟨#[]⟩, .int .u64 0, .int .i64 0, .int .u64 0, .slice none 0 0, .slice none 0 0] _ rfl HROW.out Try.underlying43 rfl infoRc) rfl ?_
  refine ⟨?_, HB.out⟩
  apply congrArg Ending.returned
  apply congrArg Value.agg
  unfold rcA Rec.used uV
  simp [hk, Ch.zero]

end Go.Proofs.Ytfbelaalmdcaaaa
