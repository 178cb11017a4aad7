/-
  Plain facts of a reader.
-/
import Derived.Test.YtmapgfakfeddmabRecLoad
import Derived.Test.YtmapgfakfeddmabPackTakeText
import Derived.Test.YtmapgfakfeddmabRecRound
namespace Go.Proofs.Ytmapgfakfeddmab
open Go.RowKit
set_option linter.unusedVariables false

theorem grown_refl (w : World) (o : Option Nat) : w.grownBy w o := ⟨rfl, rfl, rfl, Nat.le_refl _, fun _ _ _ => rfl⟩
theorem grown_drew {w x : World} {o : Option Nat} (h : w.grownBy x o) : w.grownBy x.drew o := ⟨h.os, h.tape, h.output, h.size, h.block⟩
theorem grown_set {w x : World} {g j : Nat} (v : Value) (h : w.grownBy x (some g)) : w.grownBy (x.setCell ⟨g, j, none⟩ v) (some g) := by
  have hb : Below 0 x (x.setCell ⟨g, j, none⟩ v) := (Below.refl 0 x).setCell (Nat.zero_le _) _
  refine ⟨hb.os.trans h.os, hb.tape.trans h.tape, hb.output.trans h.output, Nat.le_trans h.size hb.size, fun k hk hn => ?_⟩
  rw [heap_setCell_other x ⟨g, j, none⟩ k v (fun e => hn (by rw [e]))]
  exact h.block k hk hn
theorem grown_any {w x : World} {o : Option Nat} (h : w.grownBy x none) : w.grownBy x o := ⟨h.os, h.tape, h.output, h.size, fun k hk _ => h.block k hk (by simp)⟩
theorem num_take (b : ByteArray) (s : St) (k w : Nat) (hw : 1 ≤ w ∧ w ≤ 8) (he : s.e = 0) (hk : k ≤ b.size) (hl : b.data.toList.drop k = s.l) :
    (takeS b.data.toList (k : Int) (w : Int)).1 = ((pNum w s).1 : Int) ∧ (takeS b.data.toList (k : Int) (w : Int)).2 = (pNum w s).2.e ∧ ((pNum w s).2.e = 0 → k + w ≤ b.size ∧ b.data.toList.drop (k + w) = (pNum w s).2.l) := by
  have hz := data_length b
  have hll : s.l.length = b.size - k := by rw [← hl, List.length_drop, hz]
  unfold pNum
  rw [if_neg (by simpa using he)]
  by_cases h : w ≤ s.l.length
  · rw [if_pos h, takeS_ok _ _ _ (by omega) (by rw [hz]; omega)]
    refine ⟨?_, rfl, fun _ => ⟨by omega, ?_⟩⟩
    · show ((beAt b.data.toList (k : Int).toNat (w : Int).toNat : Nat) : Int) = ((be (s.l.take w) : Nat) : Int)
      rw [Int.toNat_natCast, Int.toNat_natCast, ← hl]
      rfl
    · show _ = s.l.drop w
      rw [← hl, List.drop_drop]
  · rw [if_neg h, takeS_short _ _ _ (by omega) (by rw [hz]; omega)]
    exact ⟨rfl, rfl, fun h => by cases h⟩

theorem text_take (b : ByteArray) (s : St) (k : Nat) (he : s.e = 0) (hk : k ≤ b.size) (hl : b.data.toList.drop k = s.l) :
    ∃ k2 : Nat, (textS b.data.toList (k : Int)).2.1 = (k2 : Int) ∧ k2 ≤ b.size ∧ (⟨(textS b.data.toList (k : Int)).1.toArray⟩ : ByteArray) = (pText s).1 ∧ (textS b.data.toList (k : Int)).2.2 = (pText s).2.e ∧ ((pText s).2.e = 0 → b.data.toList.drop k2 = (pText s).2.l) := by
  have hz := data_length b
  unfold pText
  rw [if_neg (by simpa using he)]
  cases hs : s.l with
  | nil =>
    have hkk : b.size ≤ k := by
      have h := congrArg List.length hl
      rw [hs, List.length_drop, hz] at h
      simp only [List.length_nil] at h
      omega
    rw [textS_short _ _ (by omega) (by rw [hz]; omega)]
    exact ⟨0, rfl, by omega, rfl, rfl, fun h => by cases h⟩
  | cons x l =>
    have hlen : k < b.size := by
      have h := congrArg List.length hl
      rw [hs, List.length_drop, hz, List.length_cons] at h
      omega
    have hll : l.length = b.size - k - 1 := by
      have h := congrArg List.length hl
      rw [hs, List.length_drop, hz, List.length_cons] at h
      omega
    have hx : b.data.toList.getD k 0 = x := by
      have h : (b.data.toList.drop k)[0]? = some x := by rw [hl, hs]; rfl
      rw [List.getElem?_drop, Nat.add_zero] at h
      rw [List.getD, h]
      rfl
    have hd : b.data.toList.drop (k + 1) = l := by
      have h : (b.data.toList.drop k).drop 1 = l := by rw [hl, hs]; rfl
      rwa [List.drop_drop] at h
    simp only
    by_cases hb : x.toNat ≤ l.length
    · rw [if_pos hb, textS_ok _ k x.toNat (by rw [hz]; omega) (by rw [hx]) (by rw [hz]; omega)]
      refine ⟨k + 1 + x.toNat, by show (k : Int) + 1 + (x.toNat : Int) = _; omega, by omega, by rw [hd], rfl, fun _ => ?_⟩
      show _ = l.drop x.toNat
      rw [← hd, List.drop_drop]
    · rw [if_neg hb, textS_few _ k x.toNat (by rw [hz]; omega) (by rw [hx]) (by rw [hz]; omega)]
      exact ⟨0, rfl, by omega, rfl, rfl, fun h => by cases h⟩

theorem grown_trans {w x y : World} {o : Option Nat} (h : w.grownBy x o) (g : x.grownBy y o) : w.grownBy y o :=
  ⟨g.os.trans h.os, g.tape.trans h.tape, g.output.trans h.output, Nat.le_trans h.size g.size, fun k hk hn => (g.block k (Nat.lt_of_lt_of_le hk h.size) hn).trans (h.block k hk hn)⟩

end Go.Proofs.Ytmapgfakfeddmab
