/-
  The contract of quaysideref05.Of.
-/
import Derived.Test.YtcehppekcbbaaaaChangeRefCells
namespace Go.Proofs.Ytcehppekcbbaaaa
open Go.RowKit
set_option linter.unusedVariables false

/-- What stands at the entry: both cells, and the result. -/
def OfIn (w : World) (gt gr : Nat) (fu : Bool) (fv : ByteArray) (tu : Bool) (tv : ByteArray) (x : World) : Prop :=
  RowAt x w.heap.size 24 (ceA fu fv) ∧ RowAt x gt 24 (ceA tu tv) ∧ RowAt x gr 29 (chA Ch.zero) ∧ Below w.heap.size w x ∧ w.heap.size < gt ∧ gt < gr
theorem OfIn.later {w x y : World} {gt gr : Nat} {fu tu : Bool} {fv tv : ByteArray} (h : OfIn w gt gr fu fv tu tv x) (hb : Below x.heap.size x y) : OfIn w gt gr fu fv tu tv y :=
  ⟨h.1.later hb, h.2.1.later hb, h.2.2.1.later hb, h.2.2.2.1.trans (hb.mono (Nat.le_of_lt h.1.lt)), h.2.2.2.2⟩
theorem of_in (w : World) (fu : Bool) (fv : ByteArray) (tu : Bool) (tv : ByteArray) : OfIn w (w.heap.size + 1) (w.heap.size + 1 + 1) fu fv tu tv (((w.alloc (.cells (ceA fu fv) 24)).alloc (.cells (ceA tu tv) 24)).alloc (.cells (chA Ch.zero) 29)) := by
  have e1 : (w.alloc (.cells (ceA fu fv) 24)).heap.size = w.heap.size + 1 := by simp
  have e2 : ((w.alloc (.cells (ceA fu fv) 24)).alloc (.cells (ceA tu tv) 24)).heap.size = w.heap.size + 1 + 1 := by simp
  have b1 := (Below.refl w.heap.size w).alloc (Nat.le_refl _) (.cells (ceA fu fv) 24)
  have b2 := (Below.refl _ (w.alloc (.cells (ceA fu fv) 24))).alloc (Nat.le_refl _) (.cells (ceA tu tv) 24)
  have b3 := (Below.refl _ ((w.alloc (.cells (ceA fu fv) 24)).alloc (.cells (ceA tu tv) 24))).alloc (Nat.le_refl _) (.cells (chA Ch.zero) 29)
  have r0 : RowAt (w.alloc (.cells (ceA fu fv) 24)) w.heap.size 24 (ceA fu fv) := RowAt.new _ _ _
  have r1 : RowAt ((w.alloc (.cells (ceA fu fv) 24)).alloc (.cells (ceA tu tv) 24)) (w.heap.size + 1) 24 (ceA tu tv) := by
    have h := RowAt.new (w.alloc (.cells (ceA fu fv) 24)) 24 (ceA tu tv)
    rw [e1] at h
    exact h
  have r2 : RowAt (((w.alloc (.cells (ceA fu fv) 24)).alloc (.cells (ceA tu tv) 24)).alloc (.cells (chA Ch.zero) 29)) (w.heap.size + 1 + 1) 29 (chA Ch.zero) := by
    have h := RowAt.new ((w.alloc (.cells (ceA fu fv) 24)).alloc (.cells (ceA tu tv) 24)) 29 (chA Ch.zero)
    rw [e2] at h
    exact h
  exact ⟨(r0.later b2).later b3, r1.later b3, r2, b1.trans ((b2.mono b1.size).trans (b3.mono (by omega))), by omega, by omega⟩

theorem of_mid {w x : World} {gt gr : Nat} {fu tu : Bool} {fv tv : ByteArray} (h : OfIn w gt gr fu fv tu tv x) (d : Ch) : OfIn w gt gr fu fv tu tv (x.alloc (.cells (chA d) 29)) ∧ RowAt (x.alloc (.cells (chA d) 29)) x.heap.size 29 (chA d) ∧ gr < x.heap.size :=
  ⟨h.later ((Below.refl _ _).alloc (Nat.le_refl _) _), RowAt.new _ _ _, h.2.2.1.lt⟩

set_option maxRecDepth 4000 in
set_option maxHeartbeats 1600000 in
theorem rof_tty (pg sl : Int) (fv tv : ByteArray) (w : World) (hr : (Ch.mk 2 pg sl fv tv).right) :
    Calls Try.prog 17 #[.int .i64 pg, .int .i64 sl, .agg (ceA true fv), .agg (ceA true tv)] w fun e w' => e = .returned (.tuple #[.agg (chA ⟨2, pg, sl, fv, tv⟩), .int .i64 0]) ∧ Below w.heap.size w w' := by
  have H0 := hide (of_in w true fv true tv)
  have R := fun w => rcright_any ⟨2, pg, sl, fv, tv⟩ w
  rw [decide_eq_true hr] at R
  have HR := hide R
  clear R hr
  go_enter Try.func17, Try.ntmps17
  obtain ⟨gt, h1⟩ : ∃ g, g = w.heap.size + 1 := ⟨_, rfl⟩
  obtain ⟨gr, h2⟩ : ∃ g, g = w.heap.size + 1 + 1 := ⟨_, rfl⟩
  obtain ⟨gd, h3⟩ : ∃ g, g = w.heap.size + 1 + 1 + 1 := ⟨_, rfl⟩
  rw [← h2, ← h1] at H0
  have a1 := H0.out.1.cell 0 (.bool true) rfl
  have a2 := H0.out.1.cell 1 (.string fv) rfl
  have a3 := H0.out.2.1.cell 0 (.bool true) rfl
  have a4 := H0.out.2.1.cell 1 (.string tv) rfl
  rw [h1] at a3 a4
  have ez : chA Ch.zero = #[.int .i64 0, .int .i64 0, .int .i64 0, .string ⟨#[]⟩, .string ⟨#[]⟩] := rfl
  rw [ez] at a1 a2 a3 a4
  have HX := hide (of_mid H0.out ⟨2, pg, sl, fv, tv⟩)
  have es : (((w.alloc (.cells (ceA true fv) 24)).alloc (.cells (ceA true tv) 24)).alloc (.cells (chA Ch.zero) 29)).heap.size = gd := by simp [h3]
  rw [es] at HX
  clear ez es
  go_wp2_with fail
  rw [← h3, ← h2, ← h1]
  refine gen_calls (fun x => Hid (OfIn w gt gr true fv true tv x ∧ RowAt x gd 29 (chA ⟨2, pg, sl, fv, tv⟩) ∧ gr < gd)) HX ?_
  clear HX H0 h1 h2 h3 a1 a2 a3 a4
  intro w1 H1
  refine (HR.out _).mono ?_
  rintro e w2 ⟨rfl, hb2⟩
  have H2 : Hid (OfIn w gt gr true fv true tv w2 ∧ RowAt w2 gd 29 (chA ⟨2, pg, sl, fv, tv⟩) ∧ gr < gd) := ⟨H1.out.1.later hb2, H1.out.2.1.later hb2, H1.out.2.2⟩
  have a1 := H2.out.1.1.cell 0 (.bool true) rfl
  have a3 := H2.out.1.2.1.cell 0 (.bool true) rfl
  clear H1 hb2 HR
  go_wp2_with (first | (refine wpList_load_at rfl 29 _ rfl gd rfl (chA ⟨2, pg, sl, fv, tv⟩) H2.out.2.1 _ Try.underlying29 rfl infoCh ?_) | (refine wpList_store_at rfl 29 _ _ rfl gr (chA Ch.zero) (chA ⟨2, pg, sl, fv, tv⟩) rfl rfl H2.out.1.2.2.1 infoCh rfl (chA_one _) ?_))
  intro w7 hR hk _
  have HR7 := hide hR
  have d7 := hk _ _ H2.out.1.2.2.2.1 (by have := H2.out.1.2.2.2.2; omega)
  clear hR hk H2
  go_wp2
  exact bodyPost_ret (res_at rfl _ _ gr _ _ rfl HR7.out Try.underlying29 rfl infoCh) rfl ⟨rfl, d7⟩

set_option maxRecDepth 4000 in
set_option maxHeartbeats 1600000 in
theorem rof_ttn (pg sl : Int) (fv tv : ByteArray) (w : World) (hr : ¬ (Ch.mk 2 pg sl fv tv).right) :
    Calls Try.prog 17 #[.int .i64 pg, .int .i64 sl, .agg (ceA true fv), .agg (ceA true tv)] w fun e w' => e = .returned (.tuple #[.agg (chA Ch.zero), .int .i64 1]) ∧ Below w.heap.size w w' := by
  have H0 := hide (of_in w true fv true tv)
  have R := fun w => rcright_any ⟨2, pg, sl, fv, tv⟩ w
  rw [decide_eq_false hr] at R
  have HR := hide R
  clear R hr
  go_enter Try.func17, Try.ntmps17
  obtain ⟨gt, h1⟩ : ∃ g, g = w.heap.size + 1 := ⟨_, rfl⟩
  obtain ⟨gr, h2⟩ : ∃ g, g = w.heap.size + 1 + 1 := ⟨_, rfl⟩
  obtain ⟨gd, h3⟩ : ∃ g, g = w.heap.size + 1 + 1 + 1 := ⟨_, rfl⟩
  rw [← h2, ← h1] at H0
  have a1 := H0.out.1.cell 0 (.bool true) rfl
  have a2 := H0.out.1.cell 1 (.string fv) rfl
  have a3 := H0.out.2.1.cell 0 (.bool true) rfl
  have a4 := H0.out.2.1.cell 1 (.string tv) rfl
  rw [h1] at a3 a4
  have ez : chA Ch.zero = #[.int .i64 0, .int .i64 0, .int .i64 0, .string ⟨#[]⟩, .string ⟨#[]⟩] := rfl
  rw [ez] at a1 a2 a3 a4
  have HX := hide (of_mid H0.out ⟨2, pg, sl, fv, tv⟩)
  have es : (((w.alloc (.cells (ceA true fv) 24)).alloc (.cells (ceA true tv) 24)).alloc (.cells (chA Ch.zero) 29)).heap.size = gd := by simp [h3]
  rw [es] at HX
  clear ez es
  go_wp2_with fail
  rw [← h3, ← h2, ← h1]
  refine gen_calls (fun x => Hid (OfIn w gt gr true fv true tv x ∧ RowAt x gd 29 (chA ⟨2, pg, sl, fv, tv⟩) ∧ gr < gd)) HX ?_
  clear HX H0 h1 h2 h3 a1 a2 a3 a4
  intro w1 H1
  refine (HR.out _).mono ?_
  rintro e w2 ⟨rfl, hb2⟩
  have H2 : Hid (OfIn w gt gr true fv true tv w2 ∧ RowAt w2 gd 29 (chA ⟨2, pg, sl, fv, tv⟩) ∧ gr < gd) := ⟨H1.out.1.later hb2, H1.out.2.1.later hb2, H1.out.2.2⟩
  have a1 := H2.out.1.1.cell 0 (.bool true) rfl
  have a3 := H2.out.1.2.1.cell 0 (.bool true) rfl
  clear H1 hb2 HR
  go_wp2_with (refine wpList_store_at rfl 29 _ _ rfl gr (chA Ch.zero) (chA Ch.zero) rfl rfl H2.out.1.2.2.1 infoCh rfl (chA_one _) ?_)
  intro w7 hR hk _
  have HR7 := hide hR
  have d7 := hk _ _ H2.out.1.2.2.2.1 (by have := H2.out.1.2.2.2.2; omega)
  clear hR hk H2
  go_wp2
  exact bodyPost_ret (res_at rfl _ _ gr _ _ rfl HR7.out Try.underlying29 rfl infoCh) rfl ⟨rfl, d7⟩

set_option maxRecDepth 4000 in
set_option maxHeartbeats 1600000 in
theorem rof_tfy (pg sl : Int) (fv tv : ByteArray) (w : World) (e2 : tv.toList.isEmpty = true) (hr : (Ch.mk 3 pg sl fv tv).right) :
    Calls Try.prog 17 #[.int .i64 pg, .int .i64 sl, .agg (ceA true fv), .agg (ceA false tv)] w fun e w' => e = .returned (.tuple #[.agg (chA ⟨3, pg, sl, fv, tv⟩), .int .i64 0]) ∧ Below w.heap.size w w' := by
  have H0 := hide (of_in w true fv false tv)
  have R := fun w => rcright_any ⟨3, pg, sl, fv, tv⟩ w
  rw [decide_eq_true hr] at R
  have HR := hide R
  clear R hr
  go_enter Try.func17, Try.ntmps17
  obtain ⟨gt, h1⟩ : ∃ g, g = w.heap.size + 1 := ⟨_, rfl⟩
  obtain ⟨gr, h2⟩ : ∃ g, g = w.heap.size + 1 + 1 := ⟨_, rfl⟩
  obtain ⟨gd, h3⟩ : ∃ g, g = w.heap.size + 1 + 1 + 1 := ⟨_, rfl⟩
  rw [← h2, ← h1] at H0
  have a1 := H0.out.1.cell 0 (.bool true) rfl
  have a2 := H0.out.1.cell 1 (.string fv) rfl
  have a3 := H0.out.2.1.cell 0 (.bool false) rfl
  have a4 := H0.out.2.1.cell 1 (.string tv) rfl
  rw [h1] at a3 a4
  have ez : chA Ch.zero = #[.int .i64 0, .int .i64 0, .int .i64 0, .string ⟨#[]⟩, .string ⟨#[]⟩] := rfl
  rw [ez] at a1 a2 a3 a4
  have HX := hide (of_mid H0.out ⟨3, pg, sl, fv, tv⟩)
  have es : (((w.alloc (.cells (ceA true fv) 24)).alloc (.cells (ceA false tv) 24)).alloc (.cells (chA Ch.zero) 29)).heap.size = gd := by simp [h3]
  rw [es] at HX
  clear ez es
  go_wp2_with fail
  rw [← h3, ← h2, ← h1]
  refine gen_calls (fun x => Hid (OfIn w gt gr true fv false tv x ∧ RowAt x gd 29 (chA ⟨3, pg, sl, fv, tv⟩) ∧ gr < gd)) HX ?_
  clear HX H0 h1 h2 h3 a1 a2 a3 a4
  intro w1 H1
  refine (HR.out _).mono ?_
  rintro e w2 ⟨rfl, hb2⟩
  have H2 : Hid (OfIn w gt gr true fv false tv w2 ∧ RowAt w2 gd 29 (chA ⟨3, pg, sl, fv, tv⟩) ∧ gr < gd) := ⟨H1.out.1.later hb2, H1.out.2.1.later hb2, H1.out.2.2⟩
  have a1 := H2.out.1.1.cell 0 (.bool true) rfl
  have a3 := H2.out.1.2.1.cell 0 (.bool false) rfl
  clear H1 hb2 HR
  go_wp2_with (first | (refine wpList_load_at rfl 29 _ rfl gd rfl (chA ⟨3, pg, sl, fv, tv⟩) H2.out.2.1 _ Try.underlying29 rfl infoCh ?_) | (refine wpList_store_at rfl 29 _ _ rfl gr (chA Ch.zero) (chA ⟨3, pg, sl, fv, tv⟩) rfl rfl H2.out.1.2.2.1 infoCh rfl (chA_one _) ?_))
  intro w7 hR hk _
  have HR7 := hide hR
  have d7 := hk _ _ H2.out.1.2.2.2.1 (by have := H2.out.1.2.2.2.2; omega)
  clear hR hk H2
  go_wp2
  exact bodyPost_ret (res_at rfl _ _ gr _ _ rfl HR7.out Try.underlying29 rfl infoCh) rfl ⟨rfl, d7⟩

set_option maxRecDepth 4000 in
set_option maxHeartbeats 1600000 in
theorem rof_tfn (pg sl : Int) (fv tv : ByteArray) (w : World) (e2 : tv.toList.isEmpty = true) (hr : ¬ (Ch.mk 3 pg sl fv tv).right) :
    Calls Try.prog 17 #[.int .i64 pg, .int .i64 sl, .agg (ceA true fv), .agg (ceA false tv)] w fun e w' => e = .returned (.tuple #[.agg (chA Ch.zero), .int .i64 1]) ∧ Below w.heap.size w w' := by
  have H0 := hide (of_in w true fv false tv)
  have R := fun w => rcright_any ⟨3, pg, sl, fv, tv⟩ w
  rw [decide_eq_false hr] at R
  have HR := hide R
  clear R hr
  go_enter Try.func17, Try.ntmps17
  obtain ⟨gt, h1⟩ : ∃ g, g = w.heap.size + 1 := ⟨_, rfl⟩
  obtain ⟨gr, h2⟩ : ∃ g, g = w.heap.size + 1 + 1 := ⟨_, rfl⟩
  obtain ⟨gd, h3⟩ : ∃ g, g = w.heap.size + 1 + 1 + 1 := ⟨_, rfl⟩
  rw [← h2, ← h1] at H0
  have a1 := H0.out.1.cell 0 (.bool true) rfl
  have a2 := H0.out.1.cell 1 (.string fv) rfl
  have a3 := H0.out.2.1.cell 0 (.bool false) rfl
  have a4 := H0.out.2.1.cell 1 (.string tv) rfl
  rw [h1] at a3 a4
  have ez : chA Ch.zero = #[.int .i64 0, .int .i64 0, .int .i64 0, .string ⟨#[]⟩, .string ⟨#[]⟩] := rfl
  rw [ez] at a1 a2 a3 a4
  have HX := hide (of_mid H0.out ⟨3, pg, sl, fv, tv⟩)
  have es : (((w.alloc (.cells (ceA true fv) 24)).alloc (.cells (ceA false tv) 24)).alloc (.cells (chA Ch.zero) 29)).heap.size = gd := by simp [h3]
  rw [es] at HX
  clear ez es
  go_wp2_with fail
  rw [← h3, ← h2, ← h1]
  refine gen_calls (fun x => Hid (OfIn w gt gr true fv false tv x ∧ RowAt x gd 29 (chA ⟨3, pg, sl, fv, tv⟩) ∧ gr < gd)) HX ?_
  clear HX H0 h1 h2 h3 a1 a2 a3 a4
  intro w1 H1
  refine (HR.out _).mono ?_
  rintro e w2 ⟨rfl, hb2⟩
  have H2 : Hid (OfIn w gt gr true fv false tv w2 ∧ RowAt w2 gd 29 (chA ⟨3, pg, sl, fv, tv⟩) ∧ gr < gd) := ⟨H1.out.1.later hb2, H1.out.2.1.later hb2, H1.out.2.2⟩
  have a1 := H2.out.1.1.cell 0 (.bool true) rfl
  have a3 := H2.out.1.2.1.cell 0 (.bool false) rfl
  clear H1 hb2 HR
  go_wp2_with (refine wpList_store_at rfl 29 _ _ rfl gr (chA Ch.zero) (chA Ch.zero) rfl rfl H2.out.1.2.2.1 infoCh rfl (chA_one _) ?_)
  intro w7 hR hk _
  have HR7 := hide hR
  have d7 := hk _ _ H2.out.1.2.2.2.1 (by have := H2.out.1.2.2.2.2; omega)
  clear hR hk H2
  go_wp2
  exact bodyPost_ret (res_at rfl _ _ gr _ _ rfl HR7.out Try.underlying29 rfl infoCh) rfl ⟨rfl, d7⟩

set_option maxRecDepth 4000 in
set_option maxHeartbeats 1600000 in
theorem rof_fty (pg sl : Int) (fv tv : ByteArray) (w : World) (e1 : fv.toList.isEmpty = true) (hr : (Ch.mk 1 pg sl fv tv).right) :
    Calls Try.prog 17 #[.int .i64 pg, .int .i64 sl, .agg (ceA false fv), .agg (ceA true tv)] w fun e w' => e = .returned (.tuple #[.agg (chA ⟨1, pg, sl, fv, tv⟩), .int .i64 0]) ∧ Below w.heap.size w w' := by
  have H0 := hide (of_in w false fv true tv)
  have R := fun w => rcright_any ⟨1, pg, sl, fv, tv⟩ w
  rw [decide_eq_true hr] at R
  have HR := hide R
  clear R hr
  go_enter Try.func17, Try.ntmps17
  obtain ⟨gt, h1⟩ : ∃ g, g = w.heap.size + 1 := ⟨_, rfl⟩
  obtain ⟨gr, h2⟩ : ∃ g, g = w.heap.size + 1 + 1 := ⟨_, rfl⟩
  obtain ⟨gd, h3⟩ : ∃ g, g = w.heap.size + 1 + 1 + 1 := ⟨_, rfl⟩
  rw [← h2, ← h1] at H0
  have a1 := H0.out.1.cell 0 (.bool false) rfl
  have a2 := H0.out.1.cell 1 (.string fv) rfl
  have a3 := H0.out.2.1.cell 0 (.bool true) rfl
  have a4 := H0.out.2.1.cell 1 (.string tv) rfl
  rw [h1] at a3 a4
  have ez : chA Ch.zero = #[.int .i64 0, .int .i64 0, .int .i64 0, .string ⟨#[]⟩, .string ⟨#[]⟩] := rfl
  rw [ez] at a1 a2 a3 a4
  have HX := hide (of_mid H0.out ⟨1, pg, sl, fv, tv⟩)
  have es : (((w.alloc (.cells (ceA false fv) 24)).alloc (.cells (ceA true tv) 24)).alloc (.cells (chA Ch.zero) 29)).heap.size = gd := by simp [h3]
  rw [es] at HX
  clear ez es
  go_wp2_with fail
  rw [← h3, ← h2, ← h1]
  refine gen_calls (fun x => Hid (OfIn w gt gr false fv true tv x ∧ RowAt x gd 29 (chA ⟨1, pg, sl, fv, tv⟩) ∧ gr < gd)) HX ?_
  clear HX H0 h1 h2 h3 a1 a2 a3 a4
  intro w1 H1
  refine (HR.out _).mono ?_
  rintro e w2 ⟨rfl, hb2⟩
  have H2 : Hid (OfIn w gt gr false fv true tv w2 ∧ RowAt w2 gd 29 (chA ⟨1, pg, sl, fv, tv⟩) ∧ gr < gd) := ⟨H1.out.1.later hb2, H1.out.2.1.later hb2, H1.out.2.2⟩
  have a1 := H2.out.1.1.cell 0 (.bool false) rfl
  have a3 := H2.out.1.2.1.cell 0 (.bool true) rfl
  clear H1 hb2 HR
  go_wp2_with (first | (refine wpList_load_at rfl 29 _ rfl gd rfl (chA ⟨1, pg, sl, fv, tv⟩) H2.out.2.1 _ Try.underlying29 rfl infoCh ?_) | (refine wpList_store_at rfl 29 _ _ rfl gr (chA Ch.zero) (chA ⟨1, pg, sl, fv, tv⟩) rfl rfl H2.out.1.2.2.1 infoCh rfl (chA_one _) ?_))
  intro w7 hR hk _
  have HR7 := hide hR
  have d7 := hk _ _ H2.out.1.2.2.2.1 (by have := H2.out.1.2.2.2.2; omega)
  clear hR hk H2
  go_wp2
  exact bodyPost_ret (res_at rfl _ _ gr _ _ rfl HR7.out Try.underlying29 rfl infoCh) rfl ⟨rfl, d7⟩

set_option maxRecDepth 4000 in
set_option maxHeartbeats 1600000 in
theorem rof_ftn (pg sl : Int) (fv tv : ByteArray) (w : World) (e1 : fv.toList.isEmpty = true) (hr : ¬ (Ch.mk 1 pg sl fv tv).right) :
    Calls Try.prog 17 #[.int .i64 pg, .int .i64 sl, .agg (ceA false fv), .agg (ceA true tv)] w fun e w' => e = .returned (.tuple #[.agg (chA Ch.zero), .int .i64 1]) ∧ Below w.heap.size w w' := by
  have H0 := hide (of_in w false fv true tv)
  have R := fun w => rcright_any ⟨1, pg, sl, fv, tv⟩ w
  rw [decide_eq_false hr] at R
  have HR := hide R
  clear R hr
  go_enter Try.func17, Try.ntmps17
  obtain ⟨gt, h1⟩ : ∃ g, g = w.heap.size + 1 := ⟨_, rfl⟩
  obtain ⟨gr, h2⟩ : ∃ g, g = w.heap.size + 1 + 1 := ⟨_, rfl⟩
  obtain ⟨gd, h3⟩ : ∃ g, g = w.heap.size + 1 + 1 + 1 := ⟨_, rfl⟩
  rw [← h2, ← h1] at H0
  have a1 := H0.out.1.cell 0 (.bool false) rfl
  have a2 := H0.out.1.cell 1 (.string fv) rfl
  have a3 := H0.out.2.1.cell 0 (.bool true) rfl
  have a4 := H0.out.2.1.cell 1 (.string tv) rfl
  rw [h1] at a3 a4
  have ez : chA Ch.zero = #[.int .i64 0, .int .i64 0, .int .i64 0, .string ⟨#[]⟩, .string ⟨#[]⟩] := rfl
  rw [ez] at a1 a2 a3 a4
  have HX := hide (of_mid H0.out ⟨1, pg, sl, fv, tv⟩)
  have es : (((w.alloc (.cells (ceA false fv) 24)).alloc (.cells (ceA true tv) 24)).alloc (.cells (chA Ch.zero) 29)).heap.size = gd := by simp [h3]
  rw [es] at HX
  clear ez es
  go_wp2_with fail
  rw [← h3, ← h2, ← h1]
  refine gen_calls (fun x => Hid (OfIn w gt gr false fv true tv x ∧ RowAt x gd 29 (chA ⟨1, pg, sl, fv, tv⟩) ∧ gr < gd)) HX ?_
  clear HX H0 h1 h2 h3 a1 a2 a3 a4
  intro w1 H1
  refine (HR.out _).mono ?_
  rintro e w2 ⟨rfl, hb2⟩
  have H2 : Hid (OfIn w gt gr false fv true tv w2 ∧ RowAt w2 gd 29 (chA ⟨1, pg, sl, fv, tv⟩) ∧ gr < gd) := ⟨H1.out.1.later hb2, H1.out.2.1.later hb2, H1.out.2.2⟩
  have a1 := H2.out.1.1.cell 0 (.bool false) rfl
  have a3 := H2.out.1.2.1.cell 0 (.bool true) rfl
  clear H1 hb2 HR
  go_wp2_with (refine wpList_store_at rfl 29 _ _ rfl gr (chA Ch.zero) (chA Ch.zero) rfl rfl H2.out.1.2.2.1 infoCh rfl (chA_one _) ?_)
  intro w7 hR hk _
  have HR7 := hide hR
  have d7 := hk _ _ H2.out.1.2.2.2.1 (by have := H2.out.1.2.2.2.2; omega)
  clear hR hk H2
  go_wp2
  exact bodyPost_ret (res_at rfl _ _ gr _ _ rfl HR7.out Try.underlying29 rfl infoCh) rfl ⟨rfl, d7⟩

set_option maxRecDepth 4000 in
set_option maxHeartbeats 1600000 in
theorem rof_ffy (pg sl : Int) (fv tv : ByteArray) (w : World) (e1 : fv.toList.isEmpty = true) (e2 : tv.toList.isEmpty = true) (hr : (Ch.mk 3 pg sl fv tv).right) :
    Calls Try.prog 17 #[.int .i64 pg, .int .i64 sl, .agg (ceA false fv), .agg (ceA false tv)] w fun e w' => e = .returned (.tuple #[.agg (chA Ch.zero), .int .i64 5]) ∧ Below w.heap.size w w' := by
  have H0 := hide (of_in w false fv false tv)
  have R := fun w => rcright_any ⟨3, pg, sl, fv, tv⟩ w
  rw [decide_eq_true hr] at R
  have HR := hide R
  clear R hr
  go_enter Try.func17, Try.ntmps17
  obtain ⟨gt, h1⟩ : ∃ g, g = w.heap.size + 1 := ⟨_, rfl⟩
  obtain ⟨gr, h2⟩ : ∃ g, g = w.heap.size + 1 + 1 := ⟨_, rfl⟩
  obtain ⟨gd, h3⟩ : ∃ g, g = w.heap.size + 1 + 1 + 1 := ⟨_, rfl⟩
  rw [← h2, ← h1] at H0
  have a1 := H0.out.1.cell 0 (.bool false) rfl
  have a2 := H0.out.1.cell 1 (.string fv) rfl
  have a3 := H0.out.2.1.cell 0 (.bool false) rfl
  have a4 := H0.out.2.1.cell 1 (.string tv) rfl
  rw [h1] at a3 a4
  have ez : chA Ch.zero = #[.int .i64 0, .int .i64 0, .int .i64 0, .string ⟨#[]⟩, .string ⟨#[]⟩] := rfl
  rw [ez] at a1 a2 a3 a4
  have HX := hide (of_mid H0.out ⟨3, pg, sl, fv, tv⟩)
  have es : (((w.alloc (.cells (ceA false fv) 24)).alloc (.cells (ceA false tv) 24)).alloc (.cells (chA Ch.zero) 29)).heap.size = gd := by simp [h3]
  rw [es] at HX
  clear ez es
  go_wp2_with fail
  rw [← h3, ← h2, ← h1]
  refine gen_calls (fun x => Hid (OfIn w gt gr false fv false tv x ∧ RowAt x gd 29 (chA ⟨3, pg, sl, fv, tv⟩) ∧ gr < gd)) HX ?_
  clear HX H0 h1 h2 h3 a1 a2 a3 a4
  intro w1 H1
  refine (HR.out _).mono ?_
  rintro e w2 ⟨rfl, hb2⟩
  have H2 : Hid (OfIn w gt gr false fv false tv w2 ∧ RowAt w2 gd 29 (chA ⟨3, pg, sl, fv, tv⟩) ∧ gr < gd) := ⟨H1.out.1.later hb2, H1.out.2.1.later hb2, H1.out.2.2⟩
  have a1 := H2.out.1.1.cell 0 (.bool false) rfl
  have a3 := H2.out.1.2.1.cell 0 (.bool false) rfl
  clear H1 hb2 HR
  go_wp2_with (refine wpList_store_at rfl 29 _ _ rfl gr (chA Ch.zero) (chA Ch.zero) rfl rfl H2.out.1.2.2.1 infoCh rfl (chA_one _) ?_)
  intro w7 hR hk _
  have HR7 := hide hR
  have d7 := hk _ _ H2.out.1.2.2.2.1 (by have := H2.out.1.2.2.2.2; omega)
  clear hR hk H2
  go_wp2
  exact bodyPost_ret (res_at rfl _ _ gr _ _ rfl HR7.out Try.underlying29 rfl infoCh) rfl ⟨rfl, d7⟩

set_option maxRecDepth 4000 in
set_option maxHeartbeats 1600000 in
theorem rof_ffn (pg sl : Int) (fv tv : ByteArray) (w : World) (e1 : fv.toList.isEmpty = true) (e2 : tv.toList.isEmpty = true) (hr : ¬ (Ch.mk 3 pg sl fv tv).right) :
    Calls Try.prog 17 #[.int .i64 pg, .int .i64 sl, .agg (ceA false fv), .agg (ceA false tv)] w fun e w' => e = .returned (.tuple #[.agg (chA Ch.zero), .int .i64 1]) ∧ Below w.heap.size w w' := by
  have H0 := hide (of_in w false fv false tv)
  have R := fun w => rcright_any ⟨3, pg, sl, fv, tv⟩ w
  rw [decide_eq_false hr] at R
  have HR := hide R
  clear R hr
  go_enter Try.func17, Try.ntmps17
  obtain ⟨gt, h1⟩ : ∃ g, g = w.heap.size + 1 := ⟨_, rfl⟩
  obtain ⟨gr, h2⟩ : ∃ g, g = w.heap.size + 1 + 1 := ⟨_, rfl⟩
  obtain ⟨gd, h3⟩ : ∃ g, g = w.heap.size + 1 + 1 + 1 := ⟨_, rfl⟩
  rw [← h2, ← h1] at H0
  have a1 := H0.out.1.cell 0 (.bool false) rfl
  have a2 := H0.out.1.cell 1 (.string fv) rfl
  have a3 := H0.out.2.1.cell 0 (.bool false) rfl
  have a4 := H0.out.2.1.cell 1 (.string tv) rfl
  rw [h1] at a3 a4
  have ez : chA Ch.zero = #[.int .i64 0, .int .i64 0, .int .i64 0, .string ⟨#[]⟩, .string ⟨#[]⟩] := rfl
  rw [ez] at a1 a2 a3 a4
  have HX := hide (of_mid H0.out ⟨3, pg, sl, fv, tv⟩)
  have es : (((w.alloc (.cells (ceA false fv) 24)).alloc (.cells (ceA false tv) 24)).alloc (.cells (chA Ch.zero) 29)).heap.size = gd := by simp [h3]
  rw [es] at HX
  clear ez es
  go_wp2_with fail
  rw [← h3, ← h2, ← h1]
  refine gen_calls (fun x => Hid (OfIn w gt gr false fv false tv x ∧ RowAt x gd 29 (chA ⟨3, pg, sl, fv, tv⟩) ∧ gr < gd)) HX ?_
  clear HX H0 h1 h2 h3 a1 a2 a3 a4
  intro w1 H1
  refine (HR.out _).mono ?_
  rintro e w2 ⟨rfl, hb2⟩
  have H2 : Hid (OfIn w gt gr false fv false tv w2 ∧ RowAt w2 gd 29 (chA ⟨3, pg, sl, fv, tv⟩) ∧ gr < gd) := ⟨H1.out.1.later hb2, H1.out.2.1.later hb2, H1.out.2.2⟩
  have a1 := H2.out.1.1.cell 0 (.bool false) rfl
  have a3 := H2.out.1.2.1.cell 0 (.bool false) rfl
  clear H1 hb2 HR
  go_wp2_with (refine wpList_store_at rfl 29 _ _ rfl gr (chA Ch.zero) (chA Ch.zero) rfl rfl H2.out.1.2.2.1 infoCh rfl (chA_one _) ?_)
  intro w7 hR hk _
  have HR7 := hide hR
  have d7 := hk _ _ H2.out.1.2.2.2.1 (by have := H2.out.1.2.2.2.2; omega)
  clear hR hk H2
  go_wp2
  exact bodyPost_ret (res_at rfl _ _ gr _ _ rfl HR7.out Try.underlying29 rfl infoCh) rfl ⟨rfl, d7⟩

end Go.Proofs.Ytcehppekcbbaaaa
