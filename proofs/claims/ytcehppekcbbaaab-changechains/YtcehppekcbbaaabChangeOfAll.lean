/-
  The contract of package change's Of, whole.
-/
import Derived.Test.YtcehppekcbbaaabChangeOf
namespace Go.Proofs.Ytcehppekcbbaaab
open Go.RowKit
set_option linter.unusedVariables false

theorem raw_right (pg sl : Int) (fu : Bool) (fv : ByteArray) (tu : Bool) (tv : ByteArray) (h1 : ¬ ((fu = false ∧ fv.size ≠ 0) ∨ (tu = false ∧ tv.size ≠ 0))) : (rawC pg sl fu fv tu tv).right ↔ placeOk pg sl ∧ cellOk fu fv ∧ cellOk tu tv := by
  have g1 : fu = false → fv.size = 0 := fun h => Decidable.of_not_not fun h2 => h1 (.inl ⟨h, h2⟩)
  have g2 : tu = false → tv.size = 0 := fun h => Decidable.of_not_not fun h2 => h1 (.inr ⟨h, h2⟩)
  constructor
  · intro h
    have a := h.1
    exact ⟨⟨a.1, a.2.1, a.2.2.1, a.2.2.2.1⟩, ⟨a.2.2.2.2.1, g1⟩, ⟨a.2.2.2.2.2, g2⟩⟩
  · rintro ⟨h2, h3, h4⟩
    refine ⟨⟨h2.1, h2.2.1, h2.2.2.1, h2.2.2.2, h3.1, h4.1⟩, ?_⟩
    cases fu <;> cases tu
    · exact .inr (.inr ⟨rfl, g2 rfl⟩)
    · exact .inl ⟨rfl, g1 rfl⟩
    · exact .inr (.inr ⟨rfl, g2 rfl⟩)
    · exact .inr (.inl rfl)
theorem of_no (pg sl : Int) (fu : Bool) (fv : ByteArray) (tu : Bool) (tv : ByteArray) (h : ¬ (placeOk pg sl ∧ cellOk fu fv ∧ cellOk tu tv)) : ofE pg sl fu fv tu tv = 1 ∧ ofC pg sl fu fv tu tv = Ch.zero := by
  have e : ofE pg sl fu fv tu tv = 1 := by
    unfold ofE
    by_cases h1 : (fu = false ∧ fv.size ≠ 0) ∨ (tu = false ∧ tv.size ≠ 0)
    · rw [if_pos h1]
    · rw [if_neg h1, if_pos (fun h2 => h ((raw_right pg sl fu fv tu tv h1).1 h2))]
  exact ⟨e, by unfold ofC; rw [if_neg (by rw [e]; decide)]⟩
theorem of_yes (pg sl : Int) (fu : Bool) (fv : ByteArray) (tu : Bool) (tv : ByteArray) (h : placeOk pg sl ∧ cellOk fu fv ∧ cellOk tu tv) :
    (fu = false ∧ tu = false → ofE pg sl fu fv tu tv = 5 ∧ ofC pg sl fu fv tu tv = Ch.zero) ∧ (¬ (fu = false ∧ tu = false) → ofE pg sl fu fv tu tv = 0 ∧ ofC pg sl fu fv tu tv = ⟨kindI fu tu, pg, sl, fv, tv⟩) := by
  have h1 : ¬ ((fu = false ∧ fv.size ≠ 0) ∨ (tu = false ∧ tv.size ≠ 0)) := by
    rintro (h1 | h1)
    · exact h1.2 (h.2.1.2 h1.1)
    · exact h1.2 (h.2.2.2 h1.1)
  have h2 := (raw_right pg sl fu fv tu tv h1).2 h
  refine ⟨fun h3 => ?_, fun h3 => ?_⟩
  · have e : ofE pg sl fu fv tu tv = 5 := by unfold ofE; rw [if_neg h1, if_neg (fun h => h h2), if_pos h3]
    exact ⟨e, by unfold ofC; rw [if_neg (by rw [e]; decide)]⟩
  · have e : ofE pg sl fu fv tu tv = 0 := by unfold ofE; rw [if_neg h1, if_neg (fun h => h h2), if_neg h3]
    refine ⟨e, ?_⟩
    unfold ofC
    rw [if_pos e]
    cases fu <;> cases tu
    · exact absurd ⟨rfl, rfl⟩ h3
    · rfl
    · rfl
    · rfl

/-- What stands at the entry. -/
def OfcIn (w : World) (gt gr : Nat) (fu : Bool) (fv : ByteArray) (tu : Bool) (tv : ByteArray) (x : World) : Prop :=
  RowAt x w.heap.size 26 (ceA fu fv) ∧ RowAt x gt 26 (ceA tu tv) ∧ RowAt x gr 34 (chA Ch.zero) ∧ Below w.heap.size w x ∧ w.heap.size < gt ∧ gt < gr
theorem OfcIn.later {w x y : World} {gt gr : Nat} {fu tu : Bool} {fv tv : ByteArray} (h : OfcIn w gt gr fu fv tu tv x) (hb : Below x.heap.size x y) : OfcIn w gt gr fu fv tu tv y :=
  ⟨h.1.later hb, h.2.1.later hb, h.2.2.1.later hb, h.2.2.2.1.trans (hb.mono (Nat.le_of_lt h.1.lt)), h.2.2.2.2⟩
theorem OfcIn.drew {w x : World} {gt gr : Nat} {fu tu : Bool} {fv tv : ByteArray} (h : OfcIn w gt gr fu fv tu tv x) : OfcIn w gt gr fu fv tu tv x.drew := ⟨h.1, h.2.1, h.2.2.1, below_dn h.2.2.2.1 1, h.2.2.2.2⟩
theorem ofc_in (w : World) (fu : Bool) (fv : ByteArray) (tu : Bool) (tv : ByteArray) : OfcIn w (w.heap.size + 1) (w.heap.size + 1 + 1) fu fv tu tv (((w.alloc (.cells (ceA fu fv) 26)).alloc (.cells (ceA tu tv) 26)).alloc (.cells #[.int .i64 0, .int .i64 0, .int .i64 0, .string ⟨#[]⟩, .string ⟨#[]⟩] 34)) := by
  obtain ⟨r0, r1, hb0⟩ := two_new w (ceA fu fv) (ceA tu tv) 26 26
  have e2 : ((w.alloc (.cells (ceA fu fv) 26)).alloc (.cells (ceA tu tv) 26)).heap.size = w.heap.size + 1 + 1 := by simp
  have b3 := (Below.refl _ ((w.alloc (.cells (ceA fu fv) 26)).alloc (.cells (ceA tu tv) 26))).alloc (Nat.le_refl _) (.cells (chA Ch.zero) 34)
  have r2 := RowAt.new ((w.alloc (.cells (ceA fu fv) 26)).alloc (.cells (ceA tu tv) 26)) 34 (chA Ch.zero)
  rw [e2] at r2
  exact ⟨r0.later b3, r1.later b3, r2, hb0.trans (b3.mono (by omega)), by omega, by omega⟩

/-- What stands behind the change that was laid. -/
def OfOut (w : World) (gr b : Nat) (c : Ch) (x : World) : Prop := RowAt x b 34 (chA c) ∧ RowAt x gr 34 (chA Ch.zero) ∧ Below w.heap.size w x ∧ w.heap.size < gr
theorem out_a {w x : World} {gt gr : Nat} {fu tu : Bool} {fv tv : ByteArray} (h : OfcIn w gt gr fu fv tu tv x) (c : Ch) : OfOut w gr x.heap.size c (x.alloc (.cells (chA c) 34)) := by
  have h2 := h.later ((Below.refl x.heap.size x).alloc (Nat.le_refl _) (.cells (chA c) 34))
  exact ⟨RowAt.new x _ _, h2.2.2.1, h2.2.2.2.1, by have := h.2.2.2.2; omega⟩
theorem out_b {w x : World} {gt gr b : Nat} {fu tu : Bool} {fv tv : ByteArray} (h : OfcIn w gt gr fu fv tu tv x) (hr : RowAt x b 34 (chA Ch.zero)) (hb : gr < b) (c : Ch) :
    OfOut w gr b c (((((x.setCell ⟨b, 0, none⟩ (.int .i64 c.k)).setCell ⟨b, 1, none⟩ (.int .i64 c.pg)).setCell ⟨b, 2, none⟩ (.int .i64 c.sl)).setCell ⟨b, 3, none⟩ (.string c.o)).setCell ⟨b, 4, none⟩ (.string c.n)) := by
  have hg := h.2.2.2.2
  have hn : gr ≠ b := by omega
  refine ⟨((((hr.set 0 (.int .i64 c.k)).set 1 (.int .i64 c.pg)).set 2 (.int .i64 c.sl)).set 3 (.string c.o)).set 4 (.string c.n), ((((h.2.2.1.other _ _ hn).other _ _ hn).other _ _ hn).other _ _ hn).other _ _ hn, ?_, by omega⟩
  have hk : w.heap.size ≤ b := by omega
  exact ((((h.2.2.2.1.setCell hk _).setCell hk _).setCell hk _).setCell hk _).setCell hk _

set_option maxRecDepth 4000 in
set_option maxHeartbeats 1600000 in
theorem of_go (pg sl : Int) (fu : Bool) (fv : ByteArray) (tu : Bool) (tv : ByteArray) (w : World) (er : Int) (cr : Ch) (HE : Hid (ofE pg sl fu fv tu tv = er ∧ ofC pg sl fu fv tu tv = cr)) :
    Calls Try.prog 5 #[.int .i64 pg, .int .i64 sl, .agg (ceA fu fv), .agg (ceA tu tv)] w fun e w' => e = .returned (.tuple #[.agg (chA cr), .int .i64 er]) ∧ Below w.heap.size w w' := by
  have H0 := hide (ofc_in w fu fv tu tv)
  go_enter Try.func5, Try.ntmps5
  obtain ⟨gt, h1⟩ : ∃ g, g = w.heap.size + 1 := ⟨_, rfl⟩
  obtain ⟨gr, h2⟩ : ∃ g, g = w.heap.size + 1 + 1 := ⟨_, rfl⟩
  rw [← h2, ← h1] at H0
  go_wp2_with fail
  rw [← h2, ← h1]
  refine gen_calls (fun x => Hid (OfcIn w gt gr fu fv tu tv x)) H0 ?_
  clear H0 h1 h2
  intro w0 H0
  by_cases hp : placeOk pg sl
  · refine (place_at pg sl _ true (hide (decide_eq_true hp))).mono ?_
    rintro e w1 ⟨rfl, rfl⟩
    by_cases hc : cellOk fu fv ∧ cellOk tu tv
    · have HR := hide (fun w => rightTwo_at fu fv tu tv w true (hide (decide_eq_true hc)))
      have HY := hide (of_yes pg sl fu fv tu tv ⟨hp, hc⟩)
      clear hp hc
      go_wp2_with (first | (refine wpList_load_at rfl 26 (.tmp 6) rfl w.heap.size rfl (ceA fu fv) H0.out.1 _ Try.underlying26 rfl infoCe ?_) | (refine wpList_load_at rfl 26 (.tmp 7) rfl gt rfl (ceA tu tv) H0.out.2.1 _ Try.underlying26 rfl infoCe ?_))
      refine (HR.out _).mono ?_
      rintro e w1 ⟨rfl, hb1⟩
      have H1 := hide (H0.out.later hb1)
      clear H0 hb1 HR
      have c0 := H1.out.1.cell 0 (.bool fu) rfl
      have c1 := H1.out.2.1.cell 0 (.bool tu) rfl
      by_cases hn : fu = false ∧ tu = false
      · have hz := HY.out.1 hn
        rw [HE.out.1, HE.out.2] at hz
        obtain ⟨rfl, rfl⟩ := hz
        obtain ⟨rfl, rfl⟩ := hn
        clear HY HE
        go_wp2_with (refine wpList_store_at rfl 34 (.tmp 8) (.tmp 30) rfl gr (chA Ch.zero) (chA Ch.zero) rfl rfl H1.out.2.2.1 infoCh rfl (chA_one _) ?_)
        intro w2 hr2 hk2 _
        have d2 := hk2 _ _ H1.out.2.2.2.1 (by have := H1.out.2.2.2.2; omega)
        have HR2 := hide hr2
        clear hr2 hk2 H1 c0 c1
        go_wp2
        exact bodyPost_ret (res_at rfl _ _ gr (chA Ch.zero) _ rfl HR2.out Try.underlying34 rfl infoCh) rfl ⟨rfl, d2⟩
      · have hz := HY.out.2 hn
        rw [HE.out.1, HE.out.2] at hz
        obtain ⟨rfl, rfl⟩ := hz
        have hb : fu = true ∨ (fu = false ∧ tu = true) := by cases fu <;> cases tu <;> simp_all
        clear HY HE hn
        have c2 := H1.out.1.cell 1 (.string fv) rfl
        have c3 := H1.out.2.1.cell 1 (.string tv) rfl
        have lw : w.heap.size < w1.heap.size := H1.out.1.lt
        have lg : gt < w1.heap.size := H1.out.2.1.lt
        have n1 : ¬ w1.heap.size = w.heap.size := by omega
        have n2 : ¬ w.heap.size = w1.heap.size := by omega
        have n3 : ¬ w1.heap.size = gt := by omega
        have n4 : ¬ gt = w1.heap.size := by omega
        rcases hb with rfl | ⟨rfl, rfl⟩
        all_goals
          have HKO := hide (kindOf_any)
          go_wp2_with fail
        · have lr : gr < w1.heap.size := H1.out.2.2.1.lt
          go_region_held3 (fun x => x.cell? ⟨w.heap.size, 0, none⟩ = some (.bool true) ∧ x.cell? ⟨w.heap.size, 1, none⟩ = some (.string fv) ∧ x.cell? ⟨gt, 0, none⟩ = some (.bool tu) ∧ x.cell? ⟨gt, 1, none⟩ = some (.string tv)) (go_keep)
            (first | (go_at_call 10; refine (HKO.out true fv tu tv _).mono ?_; rintro e w5 ⟨rfl, hb5⟩; first
              | (have HA : Hid (OfcIn w gt gr true fv tu tv w5) := H1.out.drew.later hb5; have k0 := HA.out.1.cell 0 (.bool true) rfl; have k1 := HA.out.1.cell 1 (.string fv) rfl; have k2 := HA.out.2.1.cell 0 (.bool tu) rfl; have k3 := HA.out.2.1.cell 1 (.string tv) rfl)
              | (have HB : Hid (OfcIn w gt gr true fv tu tv w5 ∧ RowAt w5 w1.heap.size 34 (chA Ch.zero)) := ⟨(H1.out.later ((Below.refl w1.heap.size w1).alloc (Nat.le_refl _) _)).drew.later hb5, RowAt.later (show RowAt (w1.alloc (.cells (chA Ch.zero) 34)).drew w1.heap.size 34 (chA Ch.zero) from RowAt.new w1 34 (chA Ch.zero)) hb5⟩; have k0 := HB.out.1.1.cell 0 (.bool true) rfl; have k1 := HB.out.1.1.cell 1 (.string fv) rfl; have k2 := HB.out.1.2.1.cell 0 (.bool tu) rfl; have k3 := HB.out.1.2.1.cell 1 (.string tv) rfl; have z0 := HB.out.2.cell 0 (.int .i64 0) rfl; have z1 := HB.out.2.cell 1 (.int .i64 0) rfl; have z2 := HB.out.2.cell 2 (.int .i64 0) rfl; have z3 := HB.out.2.cell 3 (.string ⟨#[]⟩) rfl; have z4 := HB.out.2.cell 4 (.string ⟨#[]⟩) rfl; have y0 := HB.out.2.free 0; have y1 := HB.out.2.free 1; have y2 := HB.out.2.free 2; have y3 := HB.out.2.free 3; have y4 := HB.out.2.free 4)))
          · have HN := hide (out_a HA.out ⟨kindI true tu, pg, sl, fv, tv⟩)
            clear H1 HA hb5 k0 k1 k2 k3 c0 c1 c2 c3
            go_wp2_with (first | (refine wpList_load_at rfl 34 (.tmp 10) rfl w5.heap.size rfl (chA ⟨kindI true tu, pg, sl, fv, tv⟩) HN.out.1 _ Try.underlying34 rfl infoCh ?_) | (refine wpList_store_at rfl 34 (.tmp 8) (.tmp 41) rfl gr (chA Ch.zero) (chA ⟨kindI true tu, pg, sl, fv, tv⟩) rfl rfl HN.out.2.1 infoCh rfl (chA_one _) ?_))
            intro w2 hr2 hk2 _
            have d2 := hk2 _ _ HN.out.2.2.1 (by have := HN.out.2.2.2; omega)
            have HR2 := hide hr2
            clear hr2 hk2 HN
            go_wp2
            exact bodyPost_ret (res_at rfl _ _ gr (chA ⟨kindI true tu, pg, sl, fv, tv⟩) _ rfl HR2.out Try.underlying34 rfl infoCh) rfl ⟨rfl, d2⟩
          · have HN := hide (out_b HB.out.1 HB.out.2 lr ⟨kindI true tu, pg, sl, fv, tv⟩)
            clear H1 HB hb5 k0 k1 k2 k3 c0 c1 c2 c3 z0 z1 z2 z3 z4 y0 y1 y2 y3 y4
            go_wp2_with (first | (refine wpList_load_at rfl 34 (.tmp 10) rfl w1.heap.size rfl (chA ⟨kindI true tu, pg, sl, fv, tv⟩) HN.out.1 _ Try.underlying34 rfl infoCh ?_) | (refine wpList_store_at rfl 34 (.tmp 8) (.tmp 41) rfl gr (chA Ch.zero) (chA ⟨kindI true tu, pg, sl, fv, tv⟩) rfl rfl HN.out.2.1 infoCh rfl (chA_one _) ?_))
            intro w2 hr2 hk2 _
            have d2 := hk2 _ _ HN.out.2.2.1 (by have := HN.out.2.2.2; omega)
            have HR2 := hide hr2
            clear hr2 hk2 HN
            go_wp2
            exact bodyPost_ret (res_at rfl _ _ gr (chA ⟨kindI true tu, pg, sl, fv, tv⟩) _ rfl HR2.out Try.underlying34 rfl infoCh) rfl ⟨rfl, d2⟩
        · have lr : gr < w1.heap.size := H1.out.2.2.1.lt
          go_region_held3 (fun x => x.cell? ⟨w.heap.size, 0, none⟩ = some (.bool false) ∧ x.cell? ⟨w.heap.size, 1, none⟩ = some (.string fv) ∧ x.cell? ⟨gt, 0, none⟩ = some (.bool true) ∧ x.cell? ⟨gt, 1, none⟩ = some (.string tv)) (go_keep)
            (first | (go_at_call 10; refine (HKO.out false fv true tv _).mono ?_; rintro e w5 ⟨rfl, hb5⟩; first
              | (have HA : Hid (OfcIn w gt gr false fv true tv w5) := H1.out.drew.later hb5; have k0 := HA.out.1.cell 0 (.bool false) rfl; have k1 := HA.out.1.cell 1 (.string fv) rfl; have k2 := HA.out.2.1.cell 0 (.bool true) rfl; have k3 := HA.out.2.1.cell 1 (.string tv) rfl)
              | (have HB : Hid (OfcIn w gt gr false fv true tv w5 ∧ RowAt w5 w1.heap.size 34 (chA Ch.zero)) := ⟨(H1.out.later ((Below.refl w1.heap.size w1).alloc (Nat.le_refl _) _)).drew.later hb5, RowAt.later (show RowAt (w1.alloc (.cells (chA Ch.zero) 34)).drew w1.heap.size 34 (chA Ch.zero) from RowAt.new w1 34 (chA Ch.zero)) hb5⟩; have k0 := HB.out.1.1.cell 0 (.bool false) rfl; have k1 := HB.out.1.1.cell 1 (.string fv) rfl; have k2 := HB.out.1.2.1.cell 0 (.bool true) rfl; have k3 := HB.out.1.2.1.cell 1 (.string tv) rfl; have z0 := HB.out.2.cell 0 (.int .i64 0) rfl; have z1 := HB.out.2.cell 1 (.int .i64 0) rfl; have z2 := HB.out.2.cell 2 (.int .i64 0) rfl; have z3 := HB.out.2.cell 3 (.string ⟨#[]⟩) rfl; have z4 := HB.out.2.cell 4 (.string ⟨#[]⟩) rfl; have y0 := HB.out.2.free 0; have y1 := HB.out.2.free 1; have y2 := HB.out.2.free 2; have y3 := HB.out.2.free 3; have y4 := HB.out.2.free 4)))
          · have HN := hide (out_a HA.out ⟨kindI false true, pg, sl, fv, tv⟩)
            clear H1 HA hb5 k0 k1 k2 k3 c0 c1 c2 c3
            go_wp2_with (first | (refine wpList_load_at rfl 34 (.tmp 10) rfl w5.heap.size rfl (chA ⟨kindI false true, pg, sl, fv, tv⟩) HN.out.1 _ Try.underlying34 rfl infoCh ?_) | (refine wpList_store_at rfl 34 (.tmp 8) (.tmp 41) rfl gr (chA Ch.zero) (chA ⟨kindI false true, pg, sl, fv, tv⟩) rfl rfl HN.out.2.1 infoCh rfl (chA_one _) ?_))
            intro w2 hr2 hk2 _
            have d2 := hk2 _ _ HN.out.2.2.1 (by have := HN.out.2.2.2; omega)
            have HR2 := hide hr2
            clear hr2 hk2 HN
            go_wp2
            exact bodyPost_ret (res_at rfl _ _ gr (chA ⟨kindI false true, pg, sl, fv, tv⟩) _ rfl HR2.out Try.underlying34 rfl infoCh) rfl ⟨rfl, d2⟩
          · have HN := hide (out_b HB.out.1 HB.out.2 lr ⟨kindI false true, pg, sl, fv, tv⟩)
            clear H1 HB hb5 k0 k1 k2 k3 c0 c1 c2 c3 z0 z1 z2 z3 z4 y0 y1 y2 y3 y4
            go_wp2_with (first | (refine wpList_load_at rfl 34 (.tmp 10) rfl w1.heap.size rfl (chA ⟨kindI false true, pg, sl, fv, tv⟩) HN.out.1 _ Try.underlying34 rfl infoCh ?_) | (refine wpList_store_at rfl 34 (.tmp 8) (.tmp 41) rfl gr (chA Ch.zero) (chA ⟨kindI false true, pg, sl, fv, tv⟩) rfl rfl HN.out.2.1 infoCh rfl (chA_one _) ?_))
            intro w2 hr2 hk2 _
            have d2 := hk2 _ _ HN.out.2.2.1 (by have := HN.out.2.2.2; omega)
            have HR2 := hide hr2
            clear hr2 hk2 HN
            go_wp2
            exact bodyPost_ret (res_at rfl _ _ gr (chA ⟨kindI false true, pg, sl, fv, tv⟩) _ rfl HR2.out Try.underlying34 rfl infoCh) rfl ⟨rfl, d2⟩
    · have HR := hide (fun w => rightTwo_at fu fv tu tv w false (hide (decide_eq_false hc)))
      have hz := of_no pg sl fu fv tu tv (fun h => hc h.2)
      rw [HE.out.1, HE.out.2] at hz
      obtain ⟨rfl, rfl⟩ := hz
      clear hp hc HE
      go_wp2_with (first | (refine wpList_load_at rfl 26 (.tmp 6) rfl w.heap.size rfl (ceA fu fv) H0.out.1 _ Try.underlying26 rfl infoCe ?_) | (refine wpList_load_at rfl 26 (.tmp 7) rfl gt rfl (ceA tu tv) H0.out.2.1 _ Try.underlying26 rfl infoCe ?_))
      refine (HR.out _).mono ?_
      rintro e w1 ⟨rfl, hb1⟩
      have H1 := hide (H0.out.later hb1)
      clear H0 hb1 HR
      go_wp2_with (refine wpList_store_at rfl 34 (.tmp 8) (.tmp 21) rfl gr (chA Ch.zero) (chA Ch.zero) rfl rfl H1.out.2.2.1 infoCh rfl (chA_one _) ?_)
      intro w2 hr2 hk2 _
      have d2 := hk2 _ _ H1.out.2.2.2.1 (by have := H1.out.2.2.2.2; omega)
      have HR2 := hide hr2
      clear hr2 hk2 H1
      go_wp2
      exact bodyPost_ret (res_at rfl _ _ gr (chA Ch.zero) _ rfl HR2.out Try.underlying34 rfl infoCh) rfl ⟨rfl, d2⟩
  · refine (place_at pg sl _ false (hide (decide_eq_false hp))).mono ?_
    rintro e w1 ⟨rfl, rfl⟩
    have hz := of_no pg sl fu fv tu tv (fun h => hp h.1)
    rw [HE.out.1, HE.out.2] at hz
    obtain ⟨rfl, rfl⟩ := hz
    clear hp HE
    go_wp2_with (refine wpList_store_at rfl 34 (.tmp 8) (.tmp 21) rfl gr (chA Ch.zero) (chA Ch.zero) rfl rfl H0.out.2.2.1 infoCh rfl (chA_one _) ?_)
    intro w2 hr2 hk2 _
    have d2 := hk2 _ _ H0.out.2.2.2.1 (by have := H0.out.2.2.2.2; omega)
    have HR2 := hide hr2
    clear hr2 hk2 H0
    go_wp2
    exact bodyPost_ret (res_at rfl _ _ gr (chA Ch.zero) _ rfl HR2.out Try.underlying34 rfl infoCh) rfl ⟨rfl, d2⟩

/-- THE CONTRACT. -/
theorem of_any (pg sl : Int) (fu : Bool) (fv : ByteArray) (tu : Bool) (tv : ByteArray) (w : World) :
    Calls Try.prog 5 #[.int .i64 pg, .int .i64 sl, .agg (ceA fu fv), .agg (ceA tu tv)] w fun e w' => e = .returned (.tuple #[.agg (chA (ofC pg sl fu fv tu tv)), .int .i64 (ofE pg sl fu fv tu tv)]) ∧ Below w.heap.size w w' := of_go pg sl fu fv tu tv w _ _ (hide ⟨rfl, rfl⟩)
end Go.Proofs.Ytcehppekcbbaaab
