/-
  The writer of package record: change, txns, dirty.
-/
import Derived.Test.YtmapgfakfeddmaaRecWriter
import Derived.Test.YtmapgfakfeddmaaRecRoom
namespace Go.Proofs.Ytmapgfakfeddmaa
open Go.RowKit
set_option linter.unusedVariables false

theorem conv_nat (i : Int) (h0 : 0 ≤ i) (h1 : i < 18446744073709551616) : IntKind.u64.wrap i = (i.toNat : Int) := by
  rw [IntKind.wrap_u64]
  omega

theorem ch_bounds {c : Ch} (h : c.right) : 0 ≤ c.k ∧ c.k ≤ 255 ∧ 0 ≤ c.pg ∧ c.pg ≤ 31 ∧ (0 ≤ c.sl ∧ c.sl ≤ 7) ∧ c.o.size ≤ 20 ∧ c.n.size ≤ 20 := by
  obtain ⟨⟨h1, h2, h3, h4, h5, h6⟩, h7⟩ := h
  have hk : 1 ≤ c.k ∧ c.k ≤ 3 := by
    unfold Ch.kindOk at h7
    omega
  exact ⟨by omega, by omega, by omega, by omega, by omega, by omega, by omega⟩
/-- Rows whose numbers fit their widths. -/
def txFit (x : Tx) : Prop := 0 ≤ x.t ∧ x.t ≤ 1048575 ∧ 0 ≤ x.s ∧ x.s ≤ 3 ∧ x.f < 18446744073709551616 ∧ x.l < 18446744073709551616 ∧ x.n < 18446744073709551616
def diFit (d : Di) : Prop := 0 ≤ d.p ∧ d.p ≤ 31 ∧ d.r < 18446744073709551616
theorem txsB_len (ts : List Tx) : (txsB ts).length = 29 * ts.length := by
  induction ts with
  | nil => rfl
  | cons x ts ih =>
    have e : (txB x).length = 29 := by simp only [txB, List.length_append, beB_length]
    rw [txsB, List.flatMap_cons, List.length_append, e, List.length_cons]
    rw [txsB] at ih
    omega
theorem disB_len (ts : List Di) : (disB ts).length = 10 * ts.length := by
  induction ts with
  | nil => rfl
  | cons x ts ih =>
    have e : (diB x).length = 10 := by simp only [diB, List.length_append, beB_length]
    rw [disB, List.flatMap_cons, List.length_append, e, List.length_cons]
    rw [disB] at ih
    omega
theorem take_more {α : Type} (xs : List α) (j : Nat) (z : α) (h : j < xs.length) : xs.take (j + 1) = xs.take j ++ [xs.getD j z] := by
  rw [List.take_add_one, List.getElem?_eq_getElem h, List.getD_eq_getElem?_getD, List.getElem?_eq_getElem h]
  rfl
theorem txsB_more (xs : List Tx) (j : Nat) (h : j < xs.length) : txsB (xs.take (j + 1)) = txsB (xs.take j) ++ txB (xs.getD j Tx.zero) := by
  rw [take_more xs j Tx.zero h, txsB, List.flatMap_append]
  simp [txsB]
theorem disB_more (xs : List Di) (j : Nat) (h : j < xs.length) : disB (xs.take (j + 1)) = disB (xs.take j) ++ diB (xs.getD j Di.zero) := by
  rw [take_more xs j Di.zero h, disB, List.flatMap_append]
  simp [disB]

set_option maxRecDepth 4000 in
set_option maxHeartbeats 1600000 in
theorem wchange_any (g : Nat) (c : Ch) (bs : List UInt8) (w : World) (h : Wr w g bs) (hc : c.right) (hl : bs.length ≤ 100000) :
    Calls Try.prog 20 #[.pointer (some ⟨g, 0, none⟩), .agg (chA c)] w fun e w' => e = .returned (.tuple #[]) ∧ Wr w' g (bs ++ chB c) ∧ Mv g w w' := by
  obtain ⟨r1, r2, r3, r4, r5, r6, r7⟩ := ch_bounds hc
  have e1 := conv_nat c.k (by omega) (by omega)
  have e2 := conv_nat c.pg (by omega) (by omega)
  have e3 := conv_nat c.sl (by omega) (by omega)
  have HG := hide h.lt
  have hA : Hid (Aside g [(w.heap.size, 24, chA c)]) := fun e he => by
    simp only [List.mem_cons, List.not_mem_nil, or_false] at he
    subst he
    exact ⟨by show w.heap.size ≠ g; have := HG.out; omega, by show (24 : TypeId) ≠ 5; decide⟩
  have hb0 := (Below.refl w.heap.size w).alloc (Nat.le_refl _) (.cells (chA c) 24)
  have HK : Hid (WK g w (w.alloc (.cells (chA c) 24)) bs [(w.heap.size, 24, chA c)]) := ⟨h.later hb0, Mv.later (Nat.le_of_lt HG.out) hb0, RowAt.new _ _ _, trivial⟩
  clear hb0 h
  have W1 := hide (fun bs w h hl => wnum_any g 1 c.k.toNat bs w h (by omega) (by omega) hl)
  have W2 := hide (fun bs w h hl => wnum_any g 2 c.pg.toNat bs w h (by omega) (by omega) hl)
  have W3 := hide (fun bs w h hl => wnum_any g 1 c.sl.toNat bs w h (by omega) (by omega) hl)
  have W4 := hide (fun bs w h hl => wtext_any g c.o bs w h (by omega) hl)
  have W5 := hide (fun bs w h hl => wtext_any g c.n bs w h (by omega) hl)
  rw [← e1] at W1
  rw [← e2] at W2
  rw [← e3] at W3
  have HL := hide hl
  have HSZ : Hid (c.o.size ≤ 255 ∧ c.n.size ≤ 255) := ⟨by omega, by omega⟩
  clear r1 r2 r3 r4 r5 r6 r7 e1 e2 e3 hc hl
  have d0 := HK.out.2.2.1.cell 0 (.int .i64 c.k) rfl
  go_enter Try.func20, Try.ntmps20
  go_wp2_with fail
  refine (W1.out bs _ HK.out.1 (by have := HL.out; omega)).mono ?_
  rintro e w1 ⟨rfl, hw, hm⟩
  have HK1 := hide (HK.out.step hw hm hA.out)
  clear hw hm d0 HK W1
  have d1 := HK1.out.2.2.1.cell 1 (.int .i64 c.pg) rfl
  go_wp2_with fail
  refine (W2.out (bs ++ beB 1 c.k.toNat) _ HK1.out.1 (by have := HL.out; have := HSZ.out; simp only [List.length_append, beB_length]; omega)).mono ?_
  rintro e w2 ⟨rfl, hw, hm⟩
  have HK2 := hide (HK1.out.step hw hm hA.out)
  clear hw hm d1 HK1 W2
  have d2 := HK2.out.2.2.1.cell 2 (.int .i64 c.sl) rfl
  go_wp2_with fail
  refine (W3.out ((bs ++ beB 1 c.k.toNat) ++ beB 2 c.pg.toNat) _ HK2.out.1 (by have := HL.out; have := HSZ.out; simp only [List.length_append, beB_length]; omega)).mono ?_
  rintro e w3 ⟨rfl, hw, hm⟩
  have HK3 := hide (HK2.out.step hw hm hA.out)
  clear hw hm d2 HK2 W3
  have d3 := HK3.out.2.2.1.cell 3 (.string c.o) rfl
  go_wp2_with fail
  refine (W4.out (((bs ++ beB 1 c.k.toNat) ++ beB 2 c.pg.toNat) ++ beB 1 c.sl.toNat) _ HK3.out.1 (by have := HL.out; have := HSZ.out; simp only [List.length_append, beB_length]; omega)).mono ?_
  rintro e w4 ⟨rfl, hw, hm⟩
  have HK4 := hide (HK3.out.step hw hm hA.out)
  clear hw hm d3 HK3 W4
  have d4 := HK4.out.2.2.1.cell 4 (.string c.n) rfl
  go_wp2_with fail
  refine (W5.out ((((bs ++ beB 1 c.k.toNat) ++ beB 2 c.pg.toNat) ++ beB 1 c.sl.toNat) ++ textB c.o.data.toList) _ HK4.out.1 (by have := HL.out; have := HSZ.out; simp only [List.length_append, beB_length, textB_len]; omega)).mono ?_
  rintro e w5 ⟨rfl, hw, hm⟩
  have HK5 := hide (HK4.out.step hw hm hA.out)
  clear hw hm d4 HK4 W5
  go_wp2
  go_end0
  refine ⟨rfl, ?_, HK5.out.2.1⟩
  have h := HK5.out.1
  simp only [List.append_assoc] at h
  exact h
end Go.Proofs.Ytmapgfakfeddmaa
