/-
  The contract of record.Encode, of a record that is right, by kinds.
-/
import Derived.Test.YtmapgfakfeddmaaRecRight
import Derived.Test.YtmapgfakfeddmaaRecWriterTx
import Derived.Test.YtmapgfakfeddmaaRecWriterDi
namespace Go.Proofs.Ytmapgfakfeddmaa
open Go.RowKit
set_option linter.unusedVariables false

/-- What Encode answers: the bytes in a row of the call's own, or none. -/
def EncIn (w : World) (v : Value) (bs : List UInt8) : Prop := ∃ a c, v = .slice a bs.length c ∧ (a = none → c = 0) ∧ bs.length ≤ c ∧ IsB w a bs.length bs
theorem enc_in {w : World} {base : Nat} {v : Value} {bs : List UInt8} (h : w.ownsRow base 5 1 v bs.length (toV bs)) : EncIn w v bs := by
  rcases h.2 with ⟨h1, h2⟩ | ⟨g, cap, cur, h2, h3, h4, h5, h6, h7, h8⟩
  · have hn : bs = [] := List.eq_nil_of_length_eq_zero h2
    subst hn
    exact ⟨none, 0, h1, fun _ => rfl, Nat.le_refl _, isB_nil w⟩
  · subst h2
    exact ⟨_, cap, rfl, fun h => (nomatch h), h5, h.isB rfl⟩
theorem chB_len2 (c : Ch) : (chB c).length = 6 + c.o.size + c.n.size := by
  unfold chB
  simp only [List.length_append, beB_length, textB_len]
  omega
theorem enc_bounds {r : Rec} (h : r.right) : (r.p < 18446744073709551616 ∧ r.n < 18446744073709551616 ∧ r.b < 18446744073709551616) ∧ (0 ≤ r.t ∧ r.t ≤ 1048575) ∧ (0 ≤ r.s ∧ r.s ≤ 8) ∧ r.ts.length ≤ 16 ∧ r.ds.length ≤ 32 ∧ (r.c.o.size ≤ 20 ∧ r.c.n.size ≤ 20) := by
  have hl : r.l ≤ 4611686018427387904 := h.lm
  have ht : (0 ≤ r.t ∧ r.t ≤ 1048575) ∧ r.p < 18446744073709551616 := by
    by_cases hk : r.k ≤ 6
    · have := h.own hk
      omega
    · have := h.none (by omega)
      omega
  have hn : r.n < 18446744073709551616 := by
    by_cases hk : r.k = 2
    · have := h.next hk
      omega
    · have := h.nonext hk
      omega
  have hs : 0 ≤ r.s ∧ r.s ≤ 8 := by
    by_cases hk : r.k = 6
    · have := h.save hk
      omega
    · have := h.nosave hk
      omega
  have hc : r.c.o.size ≤ 20 ∧ r.c.n.size ≤ 20 := by
    by_cases hk : r.k ≤ 2
    · have := ch_bounds (h.ch hk)
      omega
    · rw [h.noch (by omega)]
      exact ⟨Nat.zero_le _, Nat.zero_le _⟩
  by_cases hk : r.k = 8
  · obtain ⟨h1, h2, _, _, h5, h6⟩ := h.check hk
    exact ⟨⟨ht.2, hn, by omega⟩, ht.1, hs, h1, h2, hc⟩
  · obtain ⟨h1, h2, h3⟩ := h.nocheck hk
    rw [h1, h2, h3]
    exact ⟨⟨ht.2, hn, by omega⟩, ht.1, hs, Nat.zero_le _, Nat.zero_le _, hc⟩
theorem enc_txs {r : Rec} (h : r.right) (hk : r.k = 8) : ∀ i, i < r.ts.length → txFit (r.ts.getD i Tx.zero) := fun i hi => by
  have hl : r.l ≤ 4611686018427387904 := h.lm
  obtain ⟨h1, h2, h3, h4, h5, h6, h7, h8⟩ := ((h.check hk).2.2.1 i hi).1
  exact ⟨by omega, by omega, by omega, by omega, by omega, by omega, by omega⟩
theorem enc_dis {r : Rec} (h : r.right) (hk : r.k = 8) : ∀ i, i < r.ds.length → diFit (r.ds.getD i Di.zero) := fun i hi => by
  have hl : r.l ≤ 4611686018427387904 := h.lm
  obtain ⟨h1, h2, h3, h4⟩ := ((h.check hk).2.2.2.1 i hi).1
  exact ⟨by omega, by omega, by omega⟩
end Go.Proofs.Ytmapgfakfeddmaa
