/-
  The contract of quaysideref05.Of, whole.
-/
import Derived.Test.YtcehppekcbbaaaaChangeRefOf
namespace Go.Proofs.Ytcehppekcbbaaaa
open Go.RowKit
set_option linter.unusedVariables false

set_option maxRecDepth 4000 in
set_option maxHeartbeats 1600000 in
theorem rof_bad1 (pg sl : Int) (fv tv : ByteArray) (w : World) (tu : Bool) (e1 : fv.toList.isEmpty = false) :
    Calls Try.prog 17 #[.int .i64 pg, .int .i64 sl, .agg (ceA false fv), .agg (ceA tu tv)] w fun e w' => e = .returned (.tuple #[.agg (chA Ch.zero), .int .i64 1]) ∧ Below w.heap.size w w' := by
  have H0 := hide (of_in w false fv tu tv)
  go_enter Try.func17, Try.ntmps17
  obtain ⟨gt, h1⟩ : ∃ g, g = w.heap.size + 1 := ⟨_, rfl⟩
  obtain ⟨gr, h2⟩ : ∃ g, g = w.heap.size + 1 + 1 := ⟨_, rfl⟩
  obtain ⟨gd, h3⟩ : ∃ g, g = w.heap.size + 1 + 1 + 1 := ⟨_, rfl⟩
  rw [← h2, ← h1] at H0
  have a1 := H0.out.1.cell 0 (.bool false) rfl
  have a2 := H0.out.1.cell 1 (.string fv) rfl
  have a3 := H0.out.2.1.cell 0 (.bool tu) rfl
  have a4 := H0.out.2.1.cell 1 (.string tv) rfl
  rw [h1] at a3 a4
  have ez : chA Ch.zero = #[.int .i64 0, .int .i64 0, .int .i64 0, .string ⟨#[]⟩, .string ⟨#[]⟩] := rfl
  rw [ez] at a1 a2 a3 a4
  have HX := hide (of_mid H0.out ⟨2, pg, sl, fv, tv⟩)
  have es : (((w.alloc (.cells (ceA false fv) 24)).alloc (.cells (ceA tu tv) 24)).alloc (.cells (chA Ch.zero) 29)).heap.size = gd := by simp [h3]
  rw [es] at HX
  clear ez es
  have K := HX.out.1.2.2.1
  rw [h2] at K
  have HK := hide (And.intro K HX.out.1.2.2.2.1)
  clear K HX H0 h1 h2 h3
  go_wp2
  exact bodyPost_ret (res_at rfl _ _ (w.heap.size + 1 + 1) (chA Ch.zero) _ rfl HK.out.1 Try.underlying29 rfl infoCh) rfl ⟨rfl, HK.out.2⟩

set_option maxRecDepth 4000 in
set_option maxHeartbeats 1600000 in
theorem rof_bad2 (pg sl : Int) (fv tv : ByteArray) (w : World) (e2 : tv.toList.isEmpty = false) :
    Calls Try.prog 17 #[.int .i64 pg, .int .i64 sl, .agg (ceA true fv), .agg (ceA false tv)] w fun e w' => e = .returned (.tuple #[.agg (chA Ch.zero), .int .i64 1]) ∧ Below w.heap.size w w' := by
  have H0 := hide (of_in w true fv false tv)
  go_enter Try.func17, Try.ntmps17
  obtain ⟨gt, h1⟩ : ∃ g, g = w.heap.size + 1 := ⟨_, rfl⟩
  obtain ⟨gr, h2⟩ : ∃ g, g = w.heap.size + 1 + 1 := ⟨_, rfl⟩
  obtain ⟨gd, h3⟩ : ∃ g, g = w.heap.size + 1 + 1 + 1 := ⟨_, rfl⟩
  rw [← h2, ← h1] at H0
  have a1 := H0.out.1.cell 0 (.bool true) rfl
  have a2 := H0.out.1.cell 1 (.string fv) rfl
  have a3 := H0.out.2.1.cell 0 (.bool false) rfl
  have a4 := H0.out.2.1.cell 1 (.string tv) rfl
  rw [h1] at a3 a4
  have ez : chA Ch.zero = #[.int .i64 0, .int .i64 0, .int .i64 0, .string ⟨#[]⟩, .string ⟨#[]⟩] := rfl
  rw [ez] at a1 a2 a3 a4
  have HX := hide (of_mid H0.out ⟨2, pg, sl, fv, tv⟩)
  have es : (((w.alloc (.cells (ceA true fv) 24)).alloc (.cells (ceA false tv) 24)).alloc (.cells (chA Ch.zero) 29)).heap.size = gd := by simp [h3]
  rw [es] at HX
  clear ez es
  have K := HX.out.1.2.2.1
  rw [h2] at K
  have HK := hide (And.intro K HX.out.1.2.2.2.1)
  clear K HX H0 h1 h2 h3
  go_wp2
  exact bodyPost_ret (res_at rfl _ _ (w.heap.size + 1 + 1) (chA Ch.zero) _ rfl HK.out.1 Try.underlying29 rfl infoCh) rfl ⟨rfl, HK.out.2⟩

set_option maxRecDepth 4000 in
set_option maxHeartbeats 1600000 in
theorem rof_bad3 (pg sl : Int) (fv tv : ByteArray) (w : World) (e1 : fv.toList.isEmpty = true) (e2 : tv.toList.isEmpty = false) :
    Calls Try.prog 17 #[.int .i64 pg, .int .i64 sl, .agg (ceA false fv), .agg (ceA false tv)] w fun e w' => e = .returned (.tuple #[.agg (chA Ch.zero), .int .i64 1]) ∧ Below w.heap.size w w' := by
  have H0 := hide (of_in w false fv false tv)
  go_enter Try.func17, Try.ntmps17
  obtain ⟨gt, h1⟩ : ∃ g, g = w.heap.size + 1 := ⟨_, rfl⟩
  obtain ⟨gr, h2⟩ : ∃ g, g = w.heap.size + 1 + 1 := ⟨_, rfl⟩
  obtain ⟨gd, h3⟩ : ∃ g, g = w.heap.size + 1 + 1 + 1 := ⟨_, rfl⟩
  rw [← h2, ← h1] at H0
  have a1 := H0.out.1.cell 0 (.bool false) rfl
  have a2 := H0.out.1.cell 1 (.string fv) rfl
  have a3 := H0.out.2.1.cell 0 (.bool false) rfl
  have a4 := H0.out.2.1.cell 1 (.string tv) rfl
  rw [h1] at a3 a4
  have ez : chA Ch.zero = #[.int .i64 0, .int .i64 0, .int .i64 0, .string ⟨#[]⟩, .string ⟨#[]⟩] := rfl
  rw [ez] at a1 a2 a3 a4
  have HX := hide (of_mid H0.out ⟨2, pg, sl, fv, tv⟩)
  have es : (((w.alloc (.cells (ceA false fv) 24)).alloc (.cells (ceA false tv) 24)).alloc (.cells (chA Ch.zero) 29)).heap.size = gd := by simp [h3]
  rw [es] at HX
  clear ez es
  have K := HX.out.1.2.2.1
  rw [h2] at K
  have HK := hide (And.intro K HX.out.1.2.2.2.1)
  clear K HX H0 h1 h2 h3
  go_wp2
  exact bodyPost_ret (res_at rfl _ _ (w.heap.size + 1 + 1) (chA Ch.zero) _ rfl HK.out.1 Try.underlying29 rfl infoCh) rfl ⟨rfl, HK.out.2⟩

/-- THE CONTRACT. -/
theorem rof_any (pg sl : Int) (fu : Bool) (fv : ByteArray) (tu : Bool) (tv : ByteArray) (w : World) :
    Calls Try.prog 17 #[.int .i64 pg, .int .i64 sl, .agg (ceA fu fv), .agg (ceA tu tv)] w fun e w' => e = .returned (.tuple #[.agg (chA (ofC pg sl fu fv tu tv)), .int .i64 (ofE pg sl fu fv tu tv)]) ∧ Below w.heap.size w w' := by
  have hno : ofE pg sl fu fv tu tv ≠ 0 → ofC pg sl fu fv tu tv = Ch.zero := fun h => by unfold ofC; rw [if_neg h]
  have hem : ∀ b : ByteArray, b.toList.isEmpty = false ↔ b.size ≠ 0 := fun b => by
    rw [← Bool.not_eq_true, empty_iff]
  by_cases h1 : fu = false ∧ fv.size ≠ 0
  · have e : ofE pg sl fu fv tu tv = 1 := by unfold ofE; rw [if_pos (.inl h1)]
    rw [hno (by rw [e]; decide), e]
    obtain ⟨rfl, hz⟩ := h1
    exact rof_bad1 pg sl fv tv w tu ((hem _).2 hz)
  by_cases h2 : tu = false ∧ tv.size ≠ 0
  · have e : ofE pg sl fu fv tu tv = 1 := by unfold ofE; rw [if_pos (.inr h2)]
    rw [hno (by rw [e]; decide), e]
    obtain ⟨rfl, hz⟩ := h2
    cases fu
    · exact rof_bad3 pg sl fv tv w ((empty_iff _).2 (Decidable.of_not_not fun h => h1 ⟨rfl, h⟩)) ((hem _).2 hz)
    · exact rof_bad2 pg sl fv tv w ((hem _).2 hz)
  have h12 : ¬ ((fu = false ∧ fv.size ≠ 0) ∨ (tu = false ∧ tv.size ≠ 0)) := fun h => h.elim h1 h2
  by_cases hr : (rawC pg sl fu fv tu tv).right
  · by_cases hb : fu = false ∧ tu = false
    · have e : ofE pg sl fu fv tu tv = 5 := by unfold ofE; rw [if_neg h12, if_neg (fun h => h hr), if_pos hb]
      rw [hno (by rw [e]; decide), e]
      obtain ⟨rfl, rfl⟩ := hb
      exact rof_ffy pg sl fv tv w ((empty_iff _).2 (Decidable.of_not_not fun h => h1 ⟨rfl, h⟩)) ((empty_iff _).2 (Decidable.of_not_not fun h => h2 ⟨rfl, h⟩)) hr
    · have e : ofE pg sl fu fv tu tv = 0 := by unfold ofE; rw [if_neg h12, if_neg (fun h => h hr), if_neg hb]
      have e2 : ofC pg sl fu fv tu tv = rawC pg sl fu fv tu tv := by unfold ofC; rw [if_pos e]
      rw [e, e2]
      cases fu <;> cases tu
      · exact absurd ⟨rfl, rfl⟩ hb
      · exact rof_fty pg sl fv tv w ((empty_iff _).2 (Decidable.of_not_not fun h => h1 ⟨rfl, h⟩)) hr
      · exact rof_tfy pg sl fv tv w ((empty_iff _).2 (Decidable.of_not_not fun h => h2 ⟨rfl, h⟩)) hr
      · exact rof_tty pg sl fv tv w hr
  · have e : ofE pg sl fu fv tu tv = 1 := by unfold ofE; rw [if_neg h12, if_pos hr]
    rw [hno (by rw [e]; decide), e]
    cases fu <;> cases tu
    · exact rof_ffn pg sl fv tv w ((empty_iff _).2 (Decidable.of_not_not fun h => h1 ⟨rfl, h⟩)) ((empty_iff _).2 (Decidable.of_not_not fun h => h2 ⟨rfl, h⟩)) hr
    · exact rof_ftn pg sl fv tv w ((empty_iff _).2 (Decidable.of_not_not fun h => h1 ⟨rfl, h⟩)) hr
    · exact rof_tfn pg sl fv tv w ((empty_iff _).2 (Decidable.of_not_not fun h => h2 ⟨rfl, h⟩)) hr
    · exact rof_ttn pg sl fv tv w hr
end Go.Proofs.Ytcehppekcbbaaaa
