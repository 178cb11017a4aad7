/-
  The contract of the code's Cut.
-/
import Derived.Test.YtkdlmblkckmhaabTapeBytes
import Derived.Test.YtkdlmblkckmhaabTapeChop
namespace Go.Proofs.Ytkdlmblkckmhaab
open Go.RowKit
set_option linter.unusedVariables false

/-- The rest moves to the front. -/
theorem TpV.move {w : World} {gt gb cap : Nat} {a : Option Addr} {t : Tp} (h : TpV w gt gb cap a t) (n : Nat) (hn : n ≤ t.b.size) (a2 : Option Addr) (c2 m : Nat) (hm : t.b.size - n = m) (hs : m = 0 ∨ a = some ⟨gb, 0, none⟩ ∧ a2 = some ⟨gb, n, none⟩) :
    ∃ w2, (Builtin.copy_ #[28, 28] 3 #[.slice a t.b.size cap, .slice a2 m c2]).run Try.prog w = .ok (.int .i64 (m : Int)) w2 ∧ RowAt w2 gt 35 #[.slice a t.b.size cap, .int .i64 (t.f : Int), .int .u64 (t.s : Int), .int .i64 (t.m : Int)] ∧ Turn gt gb w w2 ∧ TpV (w2.setCell ⟨gt, 0, none⟩ (.slice a m cap)) gt gb cap a { t with b := t.b.extract n t.b.size } := by
  subst hm
  have hz : (t.b.extract n t.b.size).size = t.b.size - n := by rw [ByteArray.size_extract]; omega
  have hd : (t.b.extract n t.b.size).data.toList = t.b.data.toList.drop n := by
    have e := extract_eq t.b n (t.b.size - n) (by omega)
    rw [show n + (t.b.size - n) = t.b.size by omega] at e
    rw [e]
    exact List.take_of_length_le (by rw [List.length_drop, data_length]; omega)
  have fin : ∀ w2, RowAt w2 gt 35 #[.slice a t.b.size cap, .int .i64 (t.f : Int), .int .u64 (t.s : Int), .int .i64 (t.m : Int)] → (w2.setCell ⟨gt, 0, none⟩ (.slice a (t.b.size - n) cap)).ownsRow 0 5 1 (.slice a (t.b.size - n) cap) (t.b.size - n) (toV (t.b.data.toList.drop n)) → TpV (w2.setCell ⟨gt, 0, none⟩ (.slice a (t.b.size - n) cap)) gt gb cap a { t with b := t.b.extract n t.b.size } := by
    intro w2 h1 h2
    refine ⟨?_, ?_, h.2.2⟩
    · show RowAt _ gt _ #[.slice a (t.b.extract n t.b.size).size cap, _, _, _]
      rw [hz]
      exact RowAt.set h1 0 _
    · show World.ownsRow _ 0 _ 1 (.slice a (t.b.extract n t.b.size).size cap) (t.b.extract n t.b.size).size (toV (t.b.extract n t.b.size).data.toList)
      rw [hz, hd]
      exact h2
  have hdl : (t.b.data.toList.drop n).length = t.b.size - n := by rw [List.length_drop, data_length]
  rcases Nat.eq_zero_or_pos (t.b.size - n) with h0 | hp
  · refine ⟨w, ?_, h.1, Turn.refl _ _ _, fin w h.1 ?_⟩
    · rw [h0]
      exact run_copy_none (P := Try.prog) w 28 28 3 5 a a2 t.b.size cap 0 c2 Try.underlying28 info8s (Nat.zero_min _)
    · have hnil : t.b.data.toList.drop n = [] := List.eq_nil_of_length_eq_zero (by omega)
      rw [h0, hnil]
      rcases h.own with ⟨rfl, _, _, rfl⟩ | ⟨rfl, h2, h3, h4, h5, cur, h6, h7, h8⟩
      · exact World.ownsRow_nil _ _ _ _
      · exact ⟨rfl, .inr ⟨gb, cap, cur, rfl, Nat.zero_le _, (heap_setCell_other w ⟨gt, 0, none⟩ gb _ (fun e => h2 e.symm)).trans h6, Nat.zero_le _, h5, by simpa using h7, by simp [toV]⟩⟩
  · obtain ⟨ha, rfl⟩ : a = some ⟨gb, 0, none⟩ ∧ a2 = some ⟨gb, n, none⟩ := by
      rcases hs with h1 | h1
      · omega
      · exact h1
    rcases h.own with ⟨e, _⟩ | ⟨_, h2, h3, h4, h5, cur, h6, h7, h8⟩
    · rw [ha] at e
      cases e
    subst ha
    have hB := h.isB
    have r1 := run_copy_row Try.prog w 28 28 3 5 gb 0 t.b.size cap ⟨gb, n, none⟩ (t.b.size - n) c2 cur 5 (toV (t.b.data.toList.drop n)) Try.underlying28 info8s h6 (by rw [toV_length, hdl]; exact (Nat.min_eq_left (Nat.sub_le _ _)).symm) (fun j v hv => by
      obtain ⟨g1, rfl⟩ := toV_some _ j v hv
      rw [Addr.add_lit]
      obtain ⟨b', off', hb', _, hc⟩ := hB.2 (by omega)
      cases hb'
      have := hc (n + j) (by omega)
      rw [Nat.zero_add] at this
      rw [this]
      simp only [List.getD_eq_getElem?_getD, List.getElem?_drop]) (by rw [toV_length, hdl, h7]; omega) (toV_one _)
    rw [toV_length, hdl] at r1
    refine ⟨_, r1, (setRow_other w gb gt _ h2).trans h.1, ⟨rfl, rfl, rfl, by simp, fun k _ _ hk => setRow_other w gb k _ hk⟩, fin _ ((setRow_other w gb gt _ h2).trans h.1) ⟨by rw [toV_length, hdl, Nat.mul_one], .inr ⟨gb, cap, _, rfl, Nat.zero_le _, (heap_setCell_other _ ⟨gt, 0, none⟩ gb _ (fun e => h2 e.symm)).trans (setRow_heap w gb cur _ 5 _ h6), by omega, h5, ?_, ?_⟩⟩⟩
    · simp only [List.size_toArray, List.length_append, List.length_take, List.length_drop, Array.length_toList, toV_length, h7]
      have := data_length t.b
      rw [Array.length_toList] at this
      omega
    · rw [Nat.mul_one]
      simp only [List.take_zero, List.nil_append]
      have e2 : t.b.size - n = (toV (t.b.data.toList.drop n)).length := by rw [toV_length, hdl]
      rw [e2]
      exact List.take_left

theorem TpV.sets {w : World} {gt gb cap : Nat} {a : Option Addr} {t : Tp} (h : TpV w gt gb cap a t) (s : Int) (n : Nat) (hf : s = (n : Int)) : TpV (w.setCell ⟨gt, 2, none⟩ (.int .u64 s)) gt gb cap a { t with s := n } := by
  subst hf
  refine ⟨RowAt.set h.1 2 _, ?_, h.2.2⟩
  rcases h.own with ⟨rfl, _, h2, rfl⟩ | ⟨rfl, h2, h3, h4, h5, cur, h6, h7, h8⟩
  · show World.ownsRow _ 0 5 1 (.slice none t.b.size 0) t.b.size (toV t.b.data.toList)
    have hd : t.b.data.toList = [] := List.eq_nil_of_length_eq_zero (by rw [data_length, h2])
    rw [h2, hd]
    exact World.ownsRow_nil _ _ _ _
  · exact ⟨h.2.1.1, .inr ⟨gb, cap, cur, rfl, Nat.zero_le _, (heap_setCell_other w ⟨gt, 2, none⟩ gb _ (fun e => h2 e.symm)).trans h6, h4, h5, by simpa using h7, by simpa using h8⟩⟩

/-- What Cut leaves of a tape. -/
theorem TpV.cut {w2 : World} {gt gb cap m : Nat} {a : Option Addr} {t : Tp} {n : Nat} (h : TpV (w2.setCell ⟨gt, 0, none⟩ (.slice a m cap)) gt gb cap a { t with b := t.b.extract n t.b.size }) (f s : Int) (hf : f = ((t.f - n : Nat) : Int)) (hs : s = (((t.s + n) % 18446744073709551616 : Nat) : Int)) :
    TpV (((w2.setCell ⟨gt, 0, none⟩ (.slice a m cap)).setCell ⟨gt, 1, none⟩ (.int .i64 f)).setCell ⟨gt, 2, none⟩ (.int .u64 s)) gt gb cap a ⟨t.b.extract n t.b.size, t.f - n, t.m, (t.s + n) % 18446744073709551616⟩ := (h.setf f _ hf).sets s _ hs

end Go.Proofs.Ytkdlmblkckmhaab
