/-
  Texts that lean on one another, one behind the other: each opens with its own remark.
-/
import Derived.DeepKeys
import Derived.Laws.StructEq
import Derived.Test.YtfeghhgniahfkaaK04
import Derived.Test.YtfeghhgniahfkaaK00

/-
  The contract of package change's Apply, whole.
-/
namespace Go.Proofs.Ytfeghhgniahfkaa
open Go.RowKit
set_option linter.unusedVariables false

set_option maxRecDepth 4000 in
set_option maxHeartbeats 1600000 in
theorem appl_p (p : Pg) (c : Ch) (l : Nat) (w : World) (hp : ¬ p.right) :
    Calls Try.prog 21 #[.agg (pgA p), .agg (chA c), .int .u64 l] w fun e w' => e = .returned (.tuple #[.agg (pgA Pg.zero), .int .i64 1]) ∧ Below w.heap.size w w' := by
  have H0 := hide (app_in w p c)
  have HR1 := hide (fun w => right_any p w)
  have HR2 := hide (fun w => cright_any c w)
  rw [decide_eq_false hp] at HR1
  go_enter Try.func21, Try.ntmps21
  obtain ⟨gc, h1⟩ : ∃ g, g = w.heap.size + 1 := ⟨_, rfl⟩
  obtain ⟨gr, h2⟩ : ∃ g, g = w.heap.size + 1 + 1 := ⟨_, rfl⟩
  rw [← h2, ← h1] at H0
  go_wp2_with (refine wpList_load_page rfl _ rfl w.heap.size rfl p H0.out.1 ?_)
  rw [← h2, ← h1]
  refine gen_calls (fun x => Hid (AppIn w gc gr p c x)) H0 ?_
  clear H0 h1 h2
  intro w0 H0
  refine (HR1.out _).mono ?_
  rintro e w1 ⟨rfl, hb1⟩
  have H1 := hide (H0.out.later hb1)
  clear H0 hb1 HR1
  clear HR2
  go_wp2_with (refine wpList_store_page rfl _ _ rfl gr Pg.zero Pg.zero rfl rfl H1.out.2.2.1 ?_)
  intro w7 hP7 hk
  have HP7 := hide hP7
  have d7 := hk _ _ H1.out.2.2.2.1 (by have := H1.out.2.2.2.2; omega)
  clear hP7 hk H1
  go_wp2
  exact bodyPost_ret (res_page rfl _ _ gr Pg.zero rfl HP7.out) rfl ⟨rfl, d7⟩

set_option maxRecDepth 4000 in
set_option maxHeartbeats 1600000 in
theorem app_c (p : Pg) (c : Ch) (l : Nat) (w : World) (hp : p.right) (hc : ¬ c.right) :
    Calls Try.prog 21 #[.agg (pgA p), .agg (chA c), .int .u64 l] w fun e w' => e = .returned (.tuple #[.agg (pgA Pg.zero), .int .i64 1]) ∧ Below w.heap.size w w' := by
  have H0 := hide (app_in w p c)
  have HR1 := hide (fun w => right_any p w)
  have HR2 := hide (fun w => cright_any c w)
  rw [decide_eq_true hp] at HR1
  rw [decide_eq_false hc] at HR2
  go_enter Try.func21, Try.ntmps21
  obtain ⟨gc, h1⟩ : ∃ g, g = w.heap.size + 1 := ⟨_, rfl⟩
  obtain ⟨gr, h2⟩ : ∃ g, g = w.heap.size + 1 + 1 := ⟨_, rfl⟩
  rw [← h2, ← h1] at H0
  go_wp2_with (refine wpList_load_page rfl _ rfl w.heap.size rfl p H0.out.1 ?_)
  rw [← h2, ← h1]
  refine gen_calls (fun x => Hid (AppIn w gc gr p c x)) H0 ?_
  clear H0 h1 h2
  intro w0 H0
  refine (HR1.out _).mono ?_
  rintro e w1 ⟨rfl, hb1⟩
  have H1 := hide (H0.out.later hb1)
  clear H0 hb1 HR1
  go_wp2_with (refine wpList_load_at rfl 57 _ rfl gc rfl (chA c) H1.out.2.1 _ Try.underlying57 rfl infoCh ?_)
  refine (HR2.out _).mono ?_
  rintro e w2 ⟨rfl, hb2⟩
  have H2 := hide (H1.out.later hb2)
  clear H1 hb2 HR2
  go_wp2_with (refine wpList_store_page rfl _ _ rfl gr Pg.zero Pg.zero rfl rfl H2.out.2.2.1 ?_)
  intro w7 hP7 hk
  have HP7 := hide hP7
  have d7 := hk _ _ H2.out.2.2.2.1 (by have := H2.out.2.2.2.2; omega)
  clear hP7 hk H2
  go_wp2
  exact bodyPost_ret (res_page rfl _ _ gr Pg.zero rfl HP7.out) rfl ⟨rfl, d7⟩

set_option maxRecDepth 4000 in
set_option maxHeartbeats 1600000 in
theorem app_l (p : Pg) (c : Ch) (l : Nat) (w : World) (hp : p.right) (hc : c.right) (hl : ¬ l ≤ maxP) :
    Calls Try.prog 21 #[.agg (pgA p), .agg (chA c), .int .u64 l] w fun e w' => e = .returned (.tuple #[.agg (pgA Pg.zero), .int .i64 1]) ∧ Below w.heap.size w w' := by
  have H0 := hide (app_in w p c)
  have HR1 := hide (fun w => right_any p w)
  have HR2 := hide (fun w => cright_any c w)
  rw [decide_eq_true hp] at HR1
  rw [decide_eq_true hc] at HR2
  have i1 : (4611686018427387904 : Int) < (l : Int) := by unfold maxP at hl; omega
  clear hl
  go_enter Try.func21, Try.ntmps21
  obtain ⟨gc, h1⟩ : ∃ g, g = w.heap.size + 1 := ⟨_, rfl⟩
  obtain ⟨gr, h2⟩ : ∃ g, g = w.heap.size + 1 + 1 := ⟨_, rfl⟩
  rw [← h2, ← h1] at H0
  go_wp2_with (refine wpList_load_page rfl _ rfl w.heap.size rfl p H0.out.1 ?_)
  rw [← h2, ← h1]
  refine gen_calls (fun x => Hid (AppIn w gc gr p c x)) H0 ?_
  clear H0 h1 h2
  intro w0 H0
  refine (HR1.out _).mono ?_
  rintro e w1 ⟨rfl, hb1⟩
  have H1 := hide (H0.out.later hb1)
  clear H0 hb1 HR1
  go_wp2_with (refine wpList_load_at rfl 57 _ rfl gc rfl (chA c) H1.out.2.1 _ Try.underlying57 rfl infoCh ?_)
  refine (HR2.out _).mono ?_
  rintro e w2 ⟨rfl, hb2⟩
  have H2 := hide (H1.out.later hb2)
  clear H1 hb2 HR2
  go_wp2_with (refine wpList_store_page rfl _ _ rfl gr Pg.zero Pg.zero rfl rfl H2.out.2.2.1 ?_)
  intro w7 hP7 hk
  have HP7 := hide hP7
  have d7 := hk _ _ H2.out.2.2.2.1 (by have := H2.out.2.2.2.2; omega)
  clear hP7 hk H2
  go_wp2
  exact bodyPost_ret (res_page rfl _ _ gr Pg.zero rfl HP7.out) rfl ⟨rfl, d7⟩

set_option maxRecDepth 4000 in
set_option maxHeartbeats 1600000 in
theorem app_s (p : Pg) (c : Ch) (l : Nat) (w : World) (hp : p.right) (hc : c.right) (hl : l ≤ maxP) (hs : l ≤ p.l) :
    Calls Try.prog 21 #[.agg (pgA p), .agg (chA c), .int .u64 l] w fun e w' => e = .returned (.tuple #[.agg (pgA Pg.zero), .int .i64 13]) ∧ Below w.heap.size w w' := by
  have H0 := hide (app_in w p c)
  have HR1 := hide (fun w => right_any p w)
  have HR2 := hide (fun w => cright_any c w)
  rw [decide_eq_true hp] at HR1
  rw [decide_eq_true hc] at HR2
  have i1 : ((4611686018427387904 : Int) < (l : Int)) = False := eq_false (by unfold maxP at hl; omega)
  have i2 : (l : Int) ≤ (p.l : Int) := by omega
  clear hl hs
  go_enter Try.func21, Try.ntmps21
  obtain ⟨gc, h1⟩ : ∃ g, g = w.heap.size + 1 := ⟨_, rfl⟩
  obtain ⟨gr, h2⟩ : ∃ g, g = w.heap.size + 1 + 1 := ⟨_, rfl⟩
  rw [← h2, ← h1] at H0
  go_wp2_with (refine wpList_load_page rfl _ rfl w.heap.size rfl p H0.out.1 ?_)
  rw [← h2, ← h1]
  refine gen_calls (fun x => Hid (AppIn w gc gr p c x)) H0 ?_
  clear H0 h1 h2
  intro w0 H0
  refine (HR1.out _).mono ?_
  rintro e w1 ⟨rfl, hb1⟩
  have H1 := hide (H0.out.later hb1)
  clear H0 hb1 HR1
  go_wp2_with (refine wpList_load_at rfl 57 _ rfl gc rfl (chA c) H1.out.2.1 _ Try.underlying57 rfl infoCh ?_)
  refine (HR2.out _).mono ?_
  rintro e w2 ⟨rfl, hb2⟩
  have H2 := hide (H1.out.later hb2)
  clear H1 hb2 HR2
  have a0 := H2.out.1.lsn
  go_wp2_with (refine wpList_store_page rfl _ _ rfl gr Pg.zero Pg.zero rfl rfl H2.out.2.2.1 ?_)
  intro w7 hP7 hk
  have HP7 := hide hP7
  have d7 := hk _ _ H2.out.2.2.2.1 (by have := H2.out.2.2.2.2; omega)
  clear hP7 hk H2
  go_wp2
  exact bodyPost_ret (res_page rfl _ _ gr Pg.zero rfl HP7.out) rfl ⟨rfl, d7⟩

/-- THE CONTRACT. -/
theorem apply_any (p : Pg) (c : Ch) (l : Nat) (w : World) (hl : l < 18446744073709551616) :
    Calls Try.prog 21 #[.agg (pgA p), .agg (chA c), .int .u64 l] w fun e w' => e = .returned (.tuple #[.agg (pgA (appP p c l)), .int .i64 (appE p c l)]) ∧ Below w.heap.size w w' := by
  by_cases hp : p.right
  · by_cases hc : c.right
    · by_cases hl : l ≤ maxP
      · by_cases hs : l ≤ p.l
        · have e : appE p c l = 13 := by unfold appE; rw [if_neg (fun h => h ⟨hp, hc, hl⟩), if_pos hs]
          rw [app_no p c l (by rw [e]; decide), e]
          exact app_s p c l w hp hc hl hs
        · exact app_go p c l w hp hc hl (by omega)
      · have e : appE p c l = 1 := by unfold appE; rw [if_pos (fun h => hl h.2.2)]
        rw [app_no p c l (by rw [e]; decide), e]
        exact app_l p c l w hp hc hl
    · have e : appE p c l = 1 := by unfold appE; rw [if_pos (fun h => hc h.2.1)]
      rw [app_no p c l (by rw [e]; decide), e]
      exact app_c p c l w hp hc
  · have e : appE p c l = 1 := by unfold appE; rw [if_pos (fun h => hp h.1)]
    rw [app_no p c l (by rw [e]; decide), e]
    exact appl_p p c l w hp
end Go.Proofs.Ytfeghhgniahfkaa

/-
  The contract of package change's Inverse.
-/
namespace Go.Proofs.Ytfeghhgniahfkaa
open Go.RowKit
set_option linter.unusedVariables false

/-- A change's fields. -/
theorem load_int {b : Nat} (x : World) (j : Nat) (v : Int) (h : x.cell? ⟨b, j, none⟩ = some (.int .i64 v)) : (Instr.loadAt 3 (.pointer (some ⟨b, j, none⟩))).run Try.prog x = .ok (.int .i64 v) x := by go_simp
theorem load_str {b : Nat} (x : World) (j : Nat) (s : ByteArray) (h : x.cell? ⟨b, j, none⟩ = some (.string s)) : (Instr.loadAt 9 (.pointer (some ⟨b, j, none⟩))).run Try.prog x = .ok (.string s) x := by go_simp

def InvIn (w : World) (gr : Nat) (c : Ch) (x : World) : Prop := RowAt x w.heap.size 57 (chA c) ∧ RowAt x gr 57 (chA Ch.zero) ∧ Below w.heap.size w x ∧ w.heap.size < gr
theorem InvIn.later {w x y : World} {gr : Nat} {c : Ch} (h : InvIn w gr c x) (hb : Below x.heap.size x y) : InvIn w gr c y :=
  ⟨h.1.later hb, h.2.1.later hb, h.2.2.1.trans (hb.mono (Nat.le_of_lt h.1.lt)), h.2.2.2⟩
theorem InvIn.drew {w x : World} {gr : Nat} {c : Ch} (h : InvIn w gr c x) : InvIn w gr c x.drew := ⟨h.1, h.2.1, below_dn h.2.2.1 1, h.2.2.2⟩

end Go.Proofs.Ytfeghhgniahfkaa

/-
  The contract of package change's Of.
-/
namespace Go.Proofs.Ytfeghhgniahfkaa
open Go.RowKit
set_option linter.unusedVariables false

def kindI (fu tu : Bool) : Int := match fu, tu with | false, _ => 1 | true, false => 3 | true, true => 2
set_option maxRecDepth 4000 in
set_option maxHeartbeats 400000 in
theorem kindOf_any (fu : Bool) (fv : ByteArray) (tu : Bool) (tv : ByteArray) (w : World) :
    Calls Try.prog 41 #[.agg (ceA fu fv), .agg (ceA tu tv)] w fun e w' => e = .returned (.int .i64 (kindI fu tu)) ∧ Below w.heap.size w w' := by
  obtain ⟨r0, r1, hb0⟩ := two_new w (ceA fu fv) (ceA tu tv) 32 32
  have c0 := r0.cell 0 (.bool fu) rfl
  have c1 := r1.cell 0 (.bool tu) rfl
  clear r0 r1
  cases fu <;> cases tu
  all_goals
    go_enter Try.func41, Try.ntmps41
    go_wp2
    go_ret
    exact ⟨rfl, hb0⟩

/-- A page of two cells. -/
def twoPg (fu : Bool) (fv : ByteArray) (tu : Bool) (tv : ByteArray) : Pg := ⟨0, fun i => match i with | 0 => fu | 1 => tu | _ => false, fun i => match i with | 0 => fv | 1 => tv | _ => ⟨#[]⟩⟩
theorem twoPg_right (fu : Bool) (fv : ByteArray) (tu : Bool) (tv : ByteArray) : (twoPg fu fv tu tv).right ↔ cellOk fu fv ∧ cellOk tu tv := by
  constructor
  · intro h
    exact ⟨h.2 0 (by omega), h.2 1 (by omega)⟩
  · rintro ⟨h1, h2⟩
    refine ⟨Nat.zero_le _, fun i hi => ?_⟩
    match i with
    | 0 => exact h1
    | 1 => exact h2
    | i + 2 => exact ⟨Nat.zero_le _, fun _ => rfl⟩

set_option maxRecDepth 4000 in
set_option maxHeartbeats 400000 in
theorem rightTwo_at (fu : Bool) (fv : ByteArray) (tu : Bool) (tv : ByteArray) (w : World) (r : Bool) (Hr : Hid (decide (cellOk fu fv ∧ cellOk tu tv) = r)) :
    Calls Try.prog 40 #[.agg (ceA fu fv), .agg (ceA tu tv)] w fun e w' => e = .returned (.bool r) ∧ Below w.heap.size w w' := by
  obtain ⟨r0, r1, hb0⟩ := two_new w (ceA fu fv) (ceA tu tv) 32 32
  have H0 := hide (And.intro r0 (And.intro r1 hb0))
  clear r0 r1 hb0
  have R := fun w => right_any (twoPg fu fv tu tv) w
  have er : decide (twoPg fu fv tu tv).right = r := by rw [← Hr.out]; exact decide_eq_decide.2 (twoPg_right fu fv tu tv)
  have ep : pgA (twoPg fu fv tu tv) = #[.int .u64 0, .bool fu, .string fv, .bool tu, .string tv, .bool false, .string ⟨#[]⟩, .bool false, .string ⟨#[]⟩, .bool false, .string ⟨#[]⟩, .bool false, .string ⟨#[]⟩, .bool false, .string ⟨#[]⟩, .bool false, .string ⟨#[]⟩] := rfl
  rw [er, ep] at R
  have HR := hide R
  clear R er ep Hr
  go_enter Try.func40, Try.ntmps40
  go_wp2_with (first | (refine wpList_load_at rfl 32 (.tmp 2) rfl w.heap.size rfl (ceA fu fv) H0.out.1 _ Try.underlying32 rfl infoCe ?_) | (refine wpList_load_at rfl 32 (.tmp 3) rfl (w.heap.size + 1) rfl (ceA tu tv) H0.out.2.1 _ Try.underlying32 rfl infoCe ?_; simp only [ceA]))
  refine (HR.out _).mono ?_
  rintro e w1 ⟨rfl, hb1⟩
  have d1 := H0.out.2.2.trans (hb1.mono H0.out.2.2.size)
  clear hb1 H0 HR
  go_wp2
  go_ret
  exact ⟨rfl, d1⟩
end Go.Proofs.Ytfeghhgniahfkaa

/-
  The contract of package change's Of, whole.
-/
namespace Go.Proofs.Ytfeghhgniahfkaa
open Go.RowKit
set_option linter.unusedVariables false

theorem raw_right (pg sl : Int) (fu : Bool) (fv : ByteArray) (tu : Bool) (tv : ByteArray) (h1 : ¬ ((fu = false ∧ fv.size ≠ 0) ∨ (tu = false ∧ tv.size ≠ 0))) : (rawC pg sl fu fv tu tv).right ↔ placeOk pg sl ∧ cellOk fu fv ∧ cellOk tu tv := by
  have g1 : fu = false → fv.size = 0 := fun h => Decidable.of_not_not fun h2 => h1 (.inl ⟨h, h2⟩)
  have g2 : tu = false → tv.size = 0 := fun h => Decidable.of_not_not fun h2 => h1 (.inr ⟨h, h2⟩)
  constructor
  · intro h
    have a := h.1
    exact ⟨⟨a.1, a.2.1, a.2.2.1, a.2.2.2.1⟩, ⟨a.2.2.2.2.1, g1⟩, ⟨a.2.2.2.2.2, g2⟩⟩
  · rintro ⟨h2, h3, h4⟩
    refine ⟨⟨h2.1, h2.2.1, h2.2.2.1, h2.2.2.2, h3.1, h4.1⟩, ?_⟩
    cases fu <;> cases tu
    · exact .inr (.inr ⟨rfl, g2 rfl⟩)
    · exact .inl ⟨rfl, g1 rfl⟩
    · exact .inr (.inr ⟨rfl, g2 rfl⟩)
    · exact .inr (.inl rfl)
theorem of_no (pg sl : Int) (fu : Bool) (fv : ByteArray) (tu : Bool) (tv : ByteArray) (h : ¬ (placeOk pg sl ∧ cellOk fu fv ∧ cellOk tu tv)) : ofE pg sl fu fv tu tv = 1 ∧ ofC pg sl fu fv tu tv = Ch.zero := by
  have e : ofE pg sl fu fv tu tv = 1 := by
    unfold ofE
    by_cases h1 : (fu = false ∧ fv.size ≠ 0) ∨ (tu = false ∧ tv.size ≠ 0)
    · rw [if_pos h1]
    · rw [if_neg h1, if_pos (fun h2 => h ((raw_right pg sl fu fv tu tv h1).1 h2))]
  exact ⟨e, by unfold ofC; rw [if_neg (by rw [e]; decide)]⟩
theorem of_yes (pg sl : Int) (fu : Bool) (fv : ByteArray) (tu : Bool) (tv : ByteArray) (h : placeOk pg sl ∧ cellOk fu fv ∧ cellOk tu tv) :
    (fu = false ∧ tu = false → ofE pg sl fu fv tu tv = 5 ∧ ofC pg sl fu fv tu tv = Ch.zero) ∧ (¬ (fu = false ∧ tu = false) → ofE pg sl fu fv tu tv = 0 ∧ ofC pg sl fu fv tu tv = ⟨kindI fu tu, pg, sl, fv, tv⟩) := by
  have h1 : ¬ ((fu = false ∧ fv.size ≠ 0) ∨ (tu = false ∧ tv.size ≠ 0)) := by
    rintro (h1 | h1)
    · exact h1.2 (h.2.1.2 h1.1)
    · exact h1.2 (h.2.2.2 h1.1)
  have h2 := (raw_right pg sl fu fv tu tv h1).2 h
  refine ⟨fun h3 => ?_, fun h3 => ?_⟩
  · have e : ofE pg sl fu fv tu tv = 5 := by unfold ofE; rw [if_neg h1, if_neg (fun h => h h2), if_pos h3]
    exact ⟨e, by unfold ofC; rw [if_neg (by rw [e]; decide)]⟩
  · have e : ofE pg sl fu fv tu tv = 0 := by unfold ofE; rw [if_neg h1, if_neg (fun h => h h2), if_neg h3]
    refine ⟨e, ?_⟩
    unfold ofC
    rw [if_pos e]
    cases fu <;> cases tu
    · exact absurd ⟨rfl, rfl⟩ h3
    · rfl
    · rfl
    · rfl

/-- What stands at the entry. -/
def OfcIn (w : World) (gt gr : Nat) (fu : Bool) (fv : ByteArray) (tu : Bool) (tv : ByteArray) (x : World) : Prop :=
  RowAt x w.heap.size 32 (ceA fu fv) ∧ RowAt x gt 32 (ceA tu tv) ∧ RowAt x gr 57 (chA Ch.zero) ∧ Below w.heap.size w x ∧ w.heap.size < gt ∧ gt < gr
theorem OfcIn.later {w x y : World} {gt gr : Nat} {fu tu : Bool} {fv tv : ByteArray} (h : OfcIn w gt gr fu fv tu tv x) (hb : Below x.heap.size x y) : OfcIn w gt gr fu fv tu tv y :=
  ⟨h.1.later hb, h.2.1.later hb, h.2.2.1.later hb, h.2.2.2.1.trans (hb.mono (Nat.le_of_lt h.1.lt)), h.2.2.2.2⟩
theorem OfcIn.drew {w x : World} {gt gr : Nat} {fu tu : Bool} {fv tv : ByteArray} (h : OfcIn w gt gr fu fv tu tv x) : OfcIn w gt gr fu fv tu tv x.drew := ⟨h.1, h.2.1, h.2.2.1, below_dn h.2.2.2.1 1, h.2.2.2.2⟩
theorem ofc_in (w : World) (fu : Bool) (fv : ByteArray) (tu : Bool) (tv : ByteArray) : OfcIn w (w.heap.size + 1) (w.heap.size + 1 + 1) fu fv tu tv (((w.alloc (.cells (ceA fu fv) 32)).alloc (.cells (ceA tu tv) 32)).alloc (.cells #[.int .i64 0, .int .i64 0, .int .i64 0, .string ⟨#[]⟩, .string ⟨#[]⟩] 57)) := by
  obtain ⟨r0, r1, hb0⟩ := two_new w (ceA fu fv) (ceA tu tv) 32 32
  have e2 : ((w.alloc (.cells (ceA fu fv) 32)).alloc (.cells (ceA tu tv) 32)).heap.size = w.heap.size + 1 + 1 := by simp
  have b3 := (Below.refl _ ((w.alloc (.cells (ceA fu fv) 32)).alloc (.cells (ceA tu tv) 32))).alloc (Nat.le_refl _) (.cells (chA Ch.zero) 57)
  have r2 := RowAt.new ((w.alloc (.cells (ceA fu fv) 32)).alloc (.cells (ceA tu tv) 32)) 57 (chA Ch.zero)
  rw [e2] at r2
  exact ⟨r0.later b3, r1.later b3, r2, hb0.trans (b3.mono (by omega)), by omega, by omega⟩

/-- What stands behind the change that was laid. -/
def OfOut (w : World) (gr b : Nat) (c : Ch) (x : World) : Prop := RowAt x b 57 (chA c) ∧ RowAt x gr 57 (chA Ch.zero) ∧ Below w.heap.size w x ∧ w.heap.size < gr
theorem out_a {w x : World} {gt gr : Nat} {fu tu : Bool} {fv tv : ByteArray} (h : OfcIn w gt gr fu fv tu tv x) (c : Ch) : OfOut w gr x.heap.size c (x.alloc (.cells (chA c) 57)) := by
  have h2 := h.later ((Below.refl x.heap.size x).alloc (Nat.le_refl _) (.cells (chA c) 57))
  exact ⟨RowAt.new x _ _, h2.2.2.1, h2.2.2.2.1, by have := h.2.2.2.2; omega⟩
theorem out_b {w x : World} {gt gr b : Nat} {fu tu : Bool} {fv tv : ByteArray} (h : OfcIn w gt gr fu fv tu tv x) (hr : RowAt x b 57 (chA Ch.zero)) (hb : gr < b) (c : Ch) :
    OfOut w gr b c (((((x.setCell ⟨b, 0, none⟩ (.int .i64 c.k)).setCell ⟨b, 1, none⟩ (.int .i64 c.pg)).setCell ⟨b, 2, none⟩ (.int .i64 c.sl)).setCell ⟨b, 3, none⟩ (.string c.o)).setCell ⟨b, 4, none⟩ (.string c.n)) := by
  have hg := h.2.2.2.2
  have hn : gr ≠ b := by omega
  refine ⟨((((hr.set 0 (.int .i64 c.k)).set 1 (.int .i64 c.pg)).set 2 (.int .i64 c.sl)).set 3 (.string c.o)).set 4 (.string c.n), ((((h.2.2.1.other _ _ hn).other _ _ hn).other _ _ hn).other _ _ hn).other _ _ hn, ?_, by omega⟩
  have hk : w.heap.size ≤ b := by omega
  exact ((((h.2.2.2.1.setCell hk _).setCell hk _).setCell hk _).setCell hk _).setCell hk _

set_option maxRecDepth 4000 in
set_option maxHeartbeats 1600000 in
theorem of_go (pg sl : Int) (fu : Bool) (fv : ByteArray) (tu : Bool) (tv : ByteArray) (w : World) (er : Int) (cr : Ch) (HE : Hid (ofE pg sl fu fv tu tv = er ∧ ofC pg sl fu fv tu tv = cr)) :
    Calls Try.prog 20 #[.int .i64 pg, .int .i64 sl, .agg (ceA fu fv), .agg (ceA tu tv)] w fun e w' => e = .returned (.tuple #[.agg (chA cr), .int .i64 er]) ∧ Below w.heap.size w w' := by
  have H0 := hide (ofc_in w fu fv tu tv)
  go_enter Try.func20, Try.ntmps20
  obtain ⟨gt, h1⟩ : ∃ g, g = w.heap.size + 1 := ⟨_, rfl⟩
  obtain ⟨gr, h2⟩ : ∃ g, g = w.heap.size + 1 + 1 := ⟨_, rfl⟩
  rw [← h2, ← h1] at H0
  go_wp2_with fail
  rw [← h2, ← h1]
  refine gen_calls (fun x => Hid (OfcIn w gt gr fu fv tu tv x)) H0 ?_
  clear H0 h1 h2
  intro w0 H0
  by_cases hp : placeOk pg sl
  · refine (place_at pg sl _ true (hide (decide_eq_true hp))).mono ?_
    rintro e w1 ⟨rfl, rfl⟩
    by_cases hc : cellOk fu fv ∧ cellOk tu tv
    · have HR := hide (fun w => rightTwo_at fu fv tu tv w true (hide (decide_eq_true hc)))
      have HY := hide (of_yes pg sl fu fv tu tv ⟨hp, hc⟩)
      clear hp hc
      go_wp2_with (first | (refine wpList_load_at rfl 32 (.tmp 6) rfl w.heap.size rfl (ceA fu fv) H0.out.1 _ Try.underlying32 rfl infoCe ?_) | (refine wpList_load_at rfl 32 (.tmp 7) rfl gt rfl (ceA tu tv) H0.out.2.1 _ Try.underlying32 rfl infoCe ?_))
      refine (HR.out _).mono ?_
      rintro e w1 ⟨rfl, hb1⟩
      have H1 := hide (H0.out.later hb1)
      clear H0 hb1 HR
      have c0 := H1.out.1.cell 0 (.bool fu) rfl
      have c1 := H1.out.2.1.cell 0 (.bool tu) rfl
      by_cases hn : fu = false ∧ tu = false
      · have hz := HY.out.1 hn
        rw [HE.out.1, HE.out.2] at hz
        obtain ⟨rfl, rfl⟩ := hz
        obtain ⟨rfl, rfl⟩ := hn
        clear HY HE
        go_wp2_with (refine wpList_store_at rfl 57 (.tmp 8) (.tmp 30) rfl gr (chA Ch.zero) (chA Ch.zero) rfl rfl H1.out.2.2.1 infoCh rfl (chA_one _) ?_)
        intro w2 hr2 hk2 _
        have d2 := hk2 _ _ H1.out.2.2.2.1 (by have := H1.out.2.2.2.2; omega)
        have HR2 := hide hr2
        clear hr2 hk2 H1 c0 c1
        go_wp2
        exact bodyPost_ret (res_at rfl _ _ gr (chA Ch.zero) _ rfl HR2.out Try.underlying57 rfl infoCh) rfl ⟨rfl, d2⟩
      · have hz := HY.out.2 hn
        rw [HE.out.1, HE.out.2] at hz
        obtain ⟨rfl, rfl⟩ := hz
        have hb : fu = true ∨ (fu = false ∧ tu = true) := by cases fu <;> cases tu <;> simp_all
        clear HY HE hn
        have c2 := H1.out.1.cell 1 (.string fv) rfl
        have c3 := H1.out.2.1.cell 1 (.string tv) rfl
        have lw : w.heap.size < w1.heap.size := H1.out.1.lt
        have lg : gt < w1.heap.size := H1.out.2.1.lt
        have n1 : ¬ w1.heap.size = w.heap.size := by omega
        have n2 : ¬ w.heap.size = w1.heap.size := by omega
        have n3 : ¬ w1.heap.size = gt := by omega
        have n4 : ¬ gt = w1.heap.size := by omega
        rcases hb with rfl | ⟨rfl, rfl⟩
        all_goals
          have HKO := hide (kindOf_any)
          go_wp2_with fail
        · have lr : gr < w1.heap.size := H1.out.2.2.1.lt
          go_region_held3 (fun x => x.cell? ⟨w.heap.size, 0, none⟩ = some (.bool true) ∧ x.cell? ⟨w.heap.size, 1, none⟩ = some (.string fv) ∧ x.cell? ⟨gt, 0, none⟩ = some (.bool tu) ∧ x.cell? ⟨gt, 1, none⟩ = some (.string tv)) (go_keep)
            (first | (go_at_call 41; refine (HKO.out true fv tu tv _).mono ?_; rintro e w5 ⟨rfl, hb5⟩; first
              | (have HA : Hid (OfcIn w gt gr true fv tu tv w5) := H1.out.drew.later hb5; have k0 := HA.out.1.cell 0 (.bool true) rfl; have k1 := HA.out.1.cell 1 (.string fv) rfl; have k2 := HA.out.2.1.cell 0 (.bool tu) rfl; have k3 := HA.out.2.1.cell 1 (.string tv) rfl)
              | (have HB : Hid (OfcIn w gt gr true fv tu tv w5 ∧ RowAt w5 w1.heap.size 57 (chA Ch.zero)) := ⟨(H1.out.later ((Below.refl w1.heap.size w1).alloc (Nat.le_refl _) _)).drew.later hb5, RowAt.later (show RowAt (w1.alloc (.cells (chA Ch.zero) 57)).drew w1.heap.size 57 (chA Ch.zero) from RowAt.new w1 57 (chA Ch.zero)) hb5⟩; have k0 := HB.out.1.1.cell 0 (.bool true) rfl; have k1 := HB.out.1.1.cell 1 (.string fv) rfl; have k2 := HB.out.1.2.1.cell 0 (.bool tu) rfl; have k3 := HB.out.1.2.1.cell 1 (.string tv) rfl; have z0 := HB.out.2.cell 0 (.int .i64 0) rfl; have z1 := HB.out.2.cell 1 (.int .i64 0) rfl; have z2 := HB.out.2.cell 2 (.int .i64 0) rfl; have z3 := HB.out.2.cell 3 (.string ⟨#[]⟩) rfl; have z4 := HB.out.2.cell 4 (.string ⟨#[]⟩) rfl; have y0 := HB.out.2.free 0; have y1 := HB.out.2.free 1; have y2 := HB.out.2.free 2; have y3 := HB.out.2.free 3; have y4 := HB.out.2.free 4)))
          · have HN := hide (out_a HA.out ⟨kindI true tu, pg, sl, fv, tv⟩)
            clear H1 HA hb5 k0 k1 k2 k3 c0 c1 c2 c3
            go_wp2_with (first | (refine wpList_load_at rfl 57 (.tmp 10) rfl w5.heap.size rfl (chA ⟨kindI true tu, pg, sl, fv, tv⟩) HN.out.1 _ Try.underlying57 rfl infoCh ?_) | (refine wpList_store_at rfl 57 (.tmp 8) (.tmp 41) rfl gr (chA Ch.zero) (chA ⟨kindI true tu, pg, sl, fv, tv⟩) rfl rfl HN.out.2.1 infoCh rfl (chA_one _) ?_))
            intro w2 hr2 hk2 _
            have d2 := hk2 _ _ HN.out.2.2.1 (by have := HN.out.2.2.2; omega)
            have HR2 := hide hr2
            clear hr2 hk2 HN
            go_wp2
            exact bodyPost_ret (res_at rfl _ _ gr (chA ⟨kindI true tu, pg, sl, fv, tv⟩) _ rfl HR2.out Try.underlying57 rfl infoCh) rfl ⟨rfl, d2⟩
          · have HN := hide (out_b HB.out.1 HB.out.2 lr ⟨kindI true tu, pg, sl, fv, tv⟩)
            clear H1 HB hb5 k0 k1 k2 k3 c0 c1 c2 c3 z0 z1 z2 z3 z4 y0 y1 y2 y3 y4
            go_wp2_with (first | (refine wpList_load_at rfl 57 (.tmp 10) rfl w1.heap.size rfl (chA ⟨kindI true tu, pg, sl, fv, tv⟩) HN.out.1 _ Try.underlying57 rfl infoCh ?_) | (refine wpList_store_at rfl 57 (.tmp 8) (.tmp 41) rfl gr (chA Ch.zero) (chA ⟨kindI true tu, pg, sl, fv, tv⟩) rfl rfl HN.out.2.1 infoCh rfl (chA_one _) ?_))
            intro w2 hr2 hk2 _
            have d2 := hk2 _ _ HN.out.2.2.1 (by have := HN.out.2.2.2; omega)
            have HR2 := hide hr2
            clear hr2 hk2 HN
            go_wp2
            exact bodyPost_ret (res_at rfl _ _ gr (chA ⟨kindI true tu, pg, sl, fv, tv⟩) _ rfl HR2.out Try.underlying57 rfl infoCh) rfl ⟨rfl, d2⟩
        · have lr : gr < w1.heap.size := H1.out.2.2.1.lt
          go_region_held3 (fun x => x.cell? ⟨w.heap.size, 0, none⟩ = some (.bool false) ∧ x.cell? ⟨w.heap.size, 1, none⟩ = some (.string fv) ∧ x.cell? ⟨gt, 0, none⟩ = some (.bool true) ∧ x.cell? ⟨gt, 1, none⟩ = some (.string tv)) (go_keep)
            (first | (go_at_call 41; refine (HKO.out false fv true tv _).mono ?_; rintro e w5 ⟨rfl, hb5⟩; first
              | (have HA : Hid (OfcIn w gt gr false fv true tv w5) := H1.out.drew.later hb5; have k0 := HA.out.1.cell 0 (.bool false) rfl; have k1 := HA.out.1.cell 1 (.string fv) rfl; have k2 := HA.out.2.1.cell 0 (.bool true) rfl; have k3 := HA.out.2.1.cell 1 (.string tv) rfl)
              | (have HB : Hid (OfcIn w gt gr false fv true tv w5 ∧ RowAt w5 w1.heap.size 57 (chA Ch.zero)) := ⟨(H1.out.later ((Below.refl w1.heap.size w1).alloc (Nat.le_refl _) _)).drew.later hb5, RowAt.later (show RowAt (w1.alloc (.cells (chA Ch.zero) 57)).drew w1.heap.size 57 (chA Ch.zero) from RowAt.new w1 57 (chA Ch.zero)) hb5⟩; have k0 := HB.out.1.1.cell 0 (.bool false) rfl; have k1 := HB.out.1.1.cell 1 (.string fv) rfl; have k2 := HB.out.1.2.1.cell 0 (.bool true) rfl; have k3 := HB.out.1.2.1.cell 1 (.string tv) rfl; have z0 := HB.out.2.cell 0 (.int .i64 0) rfl; have z1 := HB.out.2.cell 1 (.int .i64 0) rfl; have z2 := HB.out.2.cell 2 (.int .i64 0) rfl; have z3 := HB.out.2.cell 3 (.string ⟨#[]⟩) rfl; have z4 := HB.out.2.cell 4 (.string ⟨#[]⟩) rfl; have y0 := HB.out.2.free 0; have y1 := HB.out.2.free 1; have y2 := HB.out.2.free 2; have y3 := HB.out.2.free 3; have y4 := HB.out.2.free 4)))
          · have HN := hide (out_a HA.out ⟨kindI false true, pg, sl, fv, tv⟩)
            clear H1 HA hb5 k0 k1 k2 k3 c0 c1 c2 c3
            go_wp2_with (first | (refine wpList_load_at rfl 57 (.tmp 10) rfl w5.heap.size rfl (chA ⟨kindI false true, pg, sl, fv, tv⟩) HN.out.1 _ Try.underlying57 rfl infoCh ?_) | (refine wpList_store_at rfl 57 (.tmp 8) (.tmp 41) rfl gr (chA Ch.zero) (chA ⟨kindI false true, pg, sl, fv, tv⟩) rfl rfl HN.out.2.1 infoCh rfl (chA_one _) ?_))
            intro w2 hr2 hk2 _
            have d2 := hk2 _ _ HN.out.2.2.1 (by have := HN.out.2.2.2; omega)
            have HR2 := hide hr2
            clear hr2 hk2 HN
            go_wp2
            exact bodyPost_ret (res_at rfl _ _ gr (chA ⟨kindI false true, pg, sl, fv, tv⟩) _ rfl HR2.out Try.underlying57 rfl infoCh) rfl ⟨rfl, d2⟩
          · have HN := hide (out_b HB.out.1 HB.out.2 lr ⟨kindI false true, pg, sl, fv, tv⟩)
            clear H1 HB hb5 k0 k1 k2 k3 c0 c1 c2 c3 z0 z1 z2 z3 z4 y0 y1 y2 y3 y4
            go_wp2_with (first | (refine wpList_load_at rfl 57 (.tmp 10) rfl w1.heap.size rfl (chA ⟨kindI false true, pg, sl, fv, tv⟩) HN.out.1 _ Try.underlying57 rfl infoCh ?_) | (refine wpList_store_at rfl 57 (.tmp 8) (.tmp 41) rfl gr (chA Ch.zero) (chA ⟨kindI false true, pg, sl, fv, tv⟩) rfl rfl HN.out.2.1 infoCh rfl (chA_one _) ?_))
            intro w2 hr2 hk2 _
            have d2 := hk2 _ _ HN.out.2.2.1 (by have := HN.out.2.2.2; omega)
            have HR2 := hide hr2
            clear hr2 hk2 HN
            go_wp2
            exact bodyPost_ret (res_at rfl _ _ gr (chA ⟨kindI false true, pg, sl, fv, tv⟩) _ rfl HR2.out Try.underlying57 rfl infoCh) rfl ⟨rfl, d2⟩
    · have HR := hide (fun w => rightTwo_at fu fv tu tv w false (hide (decide_eq_false hc)))
      have hz := of_no pg sl fu fv tu tv (fun h => hc h.2)
      rw [HE.out.1, HE.out.2] at hz
      obtain ⟨rfl, rfl⟩ := hz
      clear hp hc HE
      go_wp2_with (first | (refine wpList_load_at rfl 32 (.tmp 6) rfl w.heap.size rfl (ceA fu fv) H0.out.1 _ Try.underlying32 rfl infoCe ?_) | (refine wpList_load_at rfl 32 (.tmp 7) rfl gt rfl (ceA tu tv) H0.out.2.1 _ Try.underlying32 rfl infoCe ?_))
      refine (HR.out _).mono ?_
      rintro e w1 ⟨rfl, hb1⟩
      have H1 := hide (H0.out.later hb1)
      clear H0 hb1 HR
      go_wp2_with (refine wpList_store_at rfl 57 (.tmp 8) (.tmp 21) rfl gr (chA Ch.zero) (chA Ch.zero) rfl rfl H1.out.2.2.1 infoCh rfl (chA_one _) ?_)
      intro w2 hr2 hk2 _
      have d2 := hk2 _ _ H1.out.2.2.2.1 (by have := H1.out.2.2.2.2; omega)
      have HR2 := hide hr2
      clear hr2 hk2 H1
      go_wp2
      exact bodyPost_ret (res_at rfl _ _ gr (chA Ch.zero) _ rfl HR2.out Try.underlying57 rfl infoCh) rfl ⟨rfl, d2⟩
  · refine (place_at pg sl _ false (hide (decide_eq_false hp))).mono ?_
    rintro e w1 ⟨rfl, rfl⟩
    have hz := of_no pg sl fu fv tu tv (fun h => hp h.1)
    rw [HE.out.1, HE.out.2] at hz
    obtain ⟨rfl, rfl⟩ := hz
    clear hp HE
    go_wp2_with (refine wpList_store_at rfl 57 (.tmp 8) (.tmp 21) rfl gr (chA Ch.zero) (chA Ch.zero) rfl rfl H0.out.2.2.1 infoCh rfl (chA_one _) ?_)
    intro w2 hr2 hk2 _
    have d2 := hk2 _ _ H0.out.2.2.2.1 (by have := H0.out.2.2.2.2; omega)
    have HR2 := hide hr2
    clear hr2 hk2 H0
    go_wp2
    exact bodyPost_ret (res_at rfl _ _ gr (chA Ch.zero) _ rfl HR2.out Try.underlying57 rfl infoCh) rfl ⟨rfl, d2⟩

/-- THE CONTRACT. -/
theorem cof_any (pg sl : Int) (fu : Bool) (fv : ByteArray) (tu : Bool) (tv : ByteArray) (w : World) :
    Calls Try.prog 20 #[.int .i64 pg, .int .i64 sl, .agg (ceA fu fv), .agg (ceA tu tv)] w fun e w' => e = .returned (.tuple #[.agg (chA (ofC pg sl fu fv tu tv)), .int .i64 (ofE pg sl fu fv tu tv)]) ∧ Below w.heap.size w w' := of_go pg sl fu fv tu tv w _ _ (hide ⟨rfl, rfl⟩)
end Go.Proofs.Ytfeghhgniahfkaa

/-
  Two pages held against each other by == or !=.
-/
namespace Go.Proofs.Ytfeghhgniahfkaa
open Go.RowKit
set_option linter.unusedVariables false


/-- A page's cells as plain data. -/
def litsP (p : Pg) : List Lit := [.int .u64 p.l, .bool (p.u 0), .string (p.s 0).data.toList, .bool (p.u 1), .string (p.s 1).data.toList, .bool (p.u 2), .string (p.s 2).data.toList, .bool (p.u 3), .string (p.s 3).data.toList, .bool (p.u 4), .string (p.s 4).data.toList, .bool (p.u 5), .string (p.s 5).data.toList, .bool (p.u 6), .string (p.s 6).data.toList, .bool (p.u 7), .string (p.s 7).data.toList]

theorem litsP_iff (p q : Pg) : litsP p = litsP q ↔ p.same q := by
  unfold litsP
  simp only [List.cons.injEq, and_true, Lit.int.injEq, Lit.bool.injEq, Lit.string.injEq, data_inj, true_and]
  constructor
  · rintro ⟨h, a0, b0, a1, b1, a2, b2, a3, b3, a4, b4, a5, b5, a6, b6, a7, b7⟩
    refine ⟨by omega, fun i hi => ?_⟩
    rcases lt8 hi with rfl | rfl | rfl | rfl | rfl | rfl | rfl | rfl
    · exact ⟨a0, b0⟩
    · exact ⟨a1, b1⟩
    · exact ⟨a2, b2⟩
    · exact ⟨a3, b3⟩
    · exact ⟨a4, b4⟩
    · exact ⟨a5, b5⟩
    · exact ⟨a6, b6⟩
    · exact ⟨a7, b7⟩
  · rintro ⟨h, g⟩
    exact ⟨by omega, (g 0 (by omega)).1, (g 0 (by omega)).2, (g 1 (by omega)).1, (g 1 (by omega)).2, (g 2 (by omega)).1, (g 2 (by omega)).2, (g 3 (by omega)).1, (g 3 (by omega)).2, (g 4 (by omega)).1, (g 4 (by omega)).2, (g 5 (by omega)).1, (g 5 (by omega)).2, (g 6 (by omega)).1, (g 6 (by omega)).2, (g 7 (by omega)).1, (g 7 (by omega)).2⟩

theorem cell_lits (u : Bool) (s : ByteArray) (hs : s.size ≤ maxLen) : Try.prog.keyLits 2 32 [.bool u, .string s] = some [.bool u, .string s.data.toList] := by
  have e0 : Try.prog.cellsOf 4 = 1 := by kernel_rfl
  have e1 : Try.prog.cellsOf 9 = 1 := by kernel_rfl
  have e2 : Try.prog.cellsOf 32 = 2 := by kernel_rfl
  simp [Program.keyLits, Try.underlying32, Try.underlying4, Try.underlying9, e0, e1, e2, hs]

theorem lits_page (p : Pg) (h : p.fits) : Try.prog.keyLits 4 35 (pgA p).toList = some (litsP p) := by
  have e0 : Try.prog.cellsOf 30 = 1 := by kernel_rfl
  have e1 : Try.prog.cellsOf 33 = 16 := by kernel_rfl
  have e2 : Try.prog.cellsOf 32 = 2 := by kernel_rfl
  have e3 : Try.prog.cellsOf 35 = 17 := by kernel_rfl
  have hw : (Lit.int .u64 (p.l : Int)).wf = true := by
    have h1 := h.1
    have m1 : IntKind.u64.min = 0 := rfl
    have m2 : IntKind.u64.max = 18446744073709551615 := by decide
    simp only [Lit.wf, m1, m2, Bool.and_eq_true, decide_eq_true_eq]
    omega
  have r8 : List.range 8 = [0, 1, 2, 3, 4, 5, 6, 7] := rfl
  have c0 := cell_lits (p.u 0) (p.s 0) (h.2 0 (by omega))
  have c1 := cell_lits (p.u 1) (p.s 1) (h.2 1 (by omega))
  have c2 := cell_lits (p.u 2) (p.s 2) (h.2 2 (by omega))
  have c3 := cell_lits (p.u 3) (p.s 3) (h.2 3 (by omega))
  have c4 := cell_lits (p.u 4) (p.s 4) (h.2 4 (by omega))
  have c5 := cell_lits (p.u 5) (p.s 5) (h.2 5 (by omega))
  have c6 := cell_lits (p.u 6) (p.s 6) (h.2 6 (by omega))
  have c7 := cell_lits (p.u 7) (p.s 7) (h.2 7 (by omega))
  have hu : Try.prog.keyLits 3 30 [.int .u64 (p.l : Int)] = some [.int .u64 (p.l : Int)] := by
    simp [Program.keyLits, Try.underlying30, hw]
  have ha : Try.prog.keyLits 3 33 [.bool (p.u 0), .string (p.s 0), .bool (p.u 1), .string (p.s 1), .bool (p.u 2), .string (p.s 2), .bool (p.u 3), .string (p.s 3), .bool (p.u 4), .string (p.s 4), .bool (p.u 5), .string (p.s 5), .bool (p.u 6), .string (p.s 6), .bool (p.u 7), .string (p.s 7)] = some (litsP p).tail := by
    unfold Program.keyLits
    simp [Try.underlying33, e1, e2, r8, c0, c1, c2, c3, c4, c5, c6, c7, litsP]
  unfold Program.keyLits
  simp [Try.underlying35, e0, e1, e3, pgA, hu, ha]
  simp [litsP]

theorem run_page_eql (p q : Pg) (hp : p.fits) (hq : q.fits) (w : World) : (binOp .eql 35 (.agg (pgA p)) (.agg (pgA q))).run Try.prog w = .ok (.bool (decide (p.same q))) w := by
  obtain ⟨r, hr, hiff⟩ := run_equalIn_deep (P := Try.prog) 9996 4 35 (by kernel_rfl) w 4 4 (.agg (pgA p)) (.agg (pgA q)) (litsP p) (litsP q) (by kernel_rfl) (by kernel_rfl) (lits_page p hp) (lits_page q hq)
  have e : r = decide (p.same q) := by
    rw [Bool.eq_iff_iff, hiff, litsP_iff, decide_eq_true_iff]
  rw [e] at hr
  have hr2 : (Op.equal 35 (.agg (pgA p)) (.agg (pgA q))).run Try.prog w = .ok (decide (p.same q)) w := hr
  simp [binOp, hr2]
theorem run_page_neq (p q : Pg) (hp : p.fits) (hq : q.fits) (w : World) : (binOp .neq 35 (.agg (pgA p)) (.agg (pgA q))).run Try.prog w = .ok (.bool (!decide (p.same q))) w := by
  obtain ⟨r, hr, hiff⟩ := run_equalIn_deep (P := Try.prog) 9996 4 35 (by kernel_rfl) w 4 4 (.agg (pgA p)) (.agg (pgA q)) (litsP p) (litsP q) (by kernel_rfl) (by kernel_rfl) (lits_page p hp) (lits_page q hq)
  have e : r = decide (p.same q) := by
    rw [Bool.eq_iff_iff, hiff, litsP_iff, decide_eq_true_iff]
  rw [e] at hr
  have hr2 : (Op.equal 35 (.agg (pgA p)) (.agg (pgA q))).run Try.prog w = .ok (decide (p.same q)) w := hr
  simp [binOp, hr2]
theorem page_guard (op : BinOp) (x y : Operand) (p q : Pg) (w : World) : (eqGuard op 35 x y (.agg (pgA p)) (.agg (pgA q))).run Try.prog w = .ok () w := run_eqGuard_agg (P := Try.prog) w op 35 x y (pgA p) (pgA q) (by kernel_rfl)
end Go.Proofs.Ytfeghhgniahfkaa

/-
  Pages that are kept in memory while a statement goes on.
-/
namespace Go.Proofs.Ytfeghhgniahfkaa
open Go.RowKit
set_option linter.unusedVariables false

theorem kept_later {w x y : World} {g : Nat} {p : Pg} (h : PgAt x g p ∧ Below g w x ∧ g < x.heap.size) (hb : Below x.heap.size x y) : PgAt y g p ∧ Below g w y ∧ g < y.heap.size :=
  ⟨h.1.below hb h.2.2, h.2.1.trans (hb.mono (Nat.le_of_lt h.2.2)), Nat.lt_of_lt_of_le h.2.2 hb.size⟩

/-- Two pages that came in, and lie side by side. -/
def Pair (w : World) (g k : Nat) (p q : Pg) (x : World) : Prop := PgAt x g p ∧ PgAt x k q ∧ Below g w x ∧ g < k ∧ k < x.heap.size
theorem Pair.later {w x y : World} {g k : Nat} {p q : Pg} (h : Pair w g k p q x) (hb : Below x.heap.size x y) : Pair w g k p q y :=
  ⟨h.1.below hb (Nat.lt_trans h.2.2.2.1 h.2.2.2.2), h.2.1.below hb h.2.2.2.2, h.2.2.1.trans (hb.mono (Nat.le_of_lt (Nat.lt_trans h.2.2.2.1 h.2.2.2.2))), h.2.2.2.1, Nat.lt_of_lt_of_le h.2.2.2.2 hb.size⟩
theorem Pair.drew {w x : World} {g k : Nat} {p q : Pg} (h : Pair w g k p q x) : Pair w g k p q x.drew := ⟨h.1, h.2.1, below_dn h.2.2.1 1, h.2.2.2⟩
theorem Pair.new (w : World) (p q : Pg) : Pair w w.heap.size (w.heap.size + 1) p q ((w.alloc (.cells (pgA p) 35)).alloc (.cells (pgA q) 35)) := by
  have hz : w.heap.size < (w.alloc (.cells (pgA p) 35)).heap.size := by simp
  have e : (w.alloc (.cells (pgA p) 35)).heap.size = w.heap.size + 1 := by simp
  refine ⟨PgAt.alloc (show PgAt (w.alloc (.cells (pgA p) 35)) w.heap.size p from heap_alloc_new w _) hz _, ?_, ?_, by omega, by simp⟩
  · have h := heap_alloc_new (w.alloc (.cells (pgA p) 35)) (.cells (pgA q) 35)
    rw [e] at h
    exact h
  · exact ((Below.refl _ _).alloc (Nat.le_refl _) _).alloc (by simp) _

theorem PgAt.lt {w : World} {b : Nat} {p : Pg} (h : PgAt w b p) : b < w.heap.size := (Array.getElem?_eq_some_iff.1 h).1

/-- A page that a call keeps in memory of its own. -/
def Kept (B : Nat) (w : World) (g : Nat) (p : Pg) (x : World) : Prop := PgAt x g p ∧ Below B w x ∧ B ≤ g
theorem Kept.later {B g : Nat} {w x y : World} {p : Pg} (h : Kept B w g p x) (hb : Below x.heap.size x y) : Kept B w g p y :=
  ⟨h.1.below hb h.1.lt, h.2.1.trans (hb.mono (Nat.le_trans h.2.2 (Nat.le_of_lt h.1.lt))), h.2.2⟩
theorem Kept.drew {B g : Nat} {w x : World} {p : Pg} (h : Kept B w g p x) : Kept B w g p x.drew := ⟨h.1, below_dn h.2.1 1, h.2.2⟩

end Go.Proofs.Ytfeghhgniahfkaa

/-
  A struct's block that is loaded; a page's cell that is stored.
-/
namespace Go.Proofs.Ytfeghhgniahfkaa
open Go.RowKit
set_option linter.unusedVariables false

theorem load_row {P : Program} {b : Nat} {t : TypeId} {cs : Array Value} {d : TypeDesc} (x : World) (h : RowAt x b t cs) (hu : P.underlying t = some d) (hd : (match d with | .struct _ | .array _ _ => true | _ => false) = true) (hi : (P.info? t).map (·.size) = some cs.size) :
    (Instr.loadAt t (.pointer (some ⟨b, 0, none⟩))).run P x = .ok (.agg cs) x := by
  have h1 := run_loadVar_row (P := P) x b t t cs (0, 0) d h hu hd hi
  simp only [Instr.loadAt, Instr.sureAddr, Sem.run_bind, Sem.run_pure, Result.andThen_ok, h1]

theorem put_cell {x : World} {g i : Nat} {p : Pg} (h : PgAt x g p) (hi : i < 8) (u : Bool) (s : ByteArray) : PgAt ((x.setCell ⟨g, 1 + i * 2, none⟩ (.bool u)).setCell ⟨g, 1 + i * 2 + 1, none⟩ (.string s)) g (p.put p.l i u s) := by
  have h1 := heap_setCell_same x g (1 + i * 2) _ _ (.bool u) h
  have h2 := heap_setCell_same _ g (1 + i * 2 + 1) _ _ (.string s) h1
  rw [pgA_set _ i hi] at h2
  exact h2

/-- A cell stored into a page. -/
theorem wpList_store_ce {ops : Array Oper} {rest : List Oper} {o : Oper} {a : Act} {w : World} {Q : Exit → Act → World → Prop} (hgd : o.guard = none) (x y : Operand) (ho : o.op = .store 32 x y)
    (g i : Nat) (hi : i < 8) (p : Pg) (u : Bool) (s : ByteArray) (hx : a.eval x = .pointer (some ⟨g, 1 + i * 2, none⟩)) (hy : a.eval y = .agg (ceA u s)) (hg : PgAt w g p)
    (h : ∀ w2, PgAt w2 g (p.put p.l i u s) → (∀ B w0, Below B w0 w → B ≤ g → Below B w0 w2) → (∀ k t' c', k ≠ g → RowAt w k t' c' → RowAt w2 k t' c') → wpList Try.prog ops Q rest (a.put o.dst undef) w2) : wpList Try.prog ops Q (o :: rest) a w := by
  have q1 := hg.used i hi
  have q2 := hg.val i hi
  have s1 := hg.free (1 + i * 2)
  have s2 := hg.free (1 + i * 2 + 1)
  have h2 := h _ (put_cell hg hi u s) (fun B w0 hb hB => ((hb.setCell (by exact hB) _).setCell (by exact hB) _)) (fun k t' c' hk hr => (hr.other _ _ hk).other _ _ hk)
  refine wpList_step fun K hK => ?_
  have hw : Region.wanted o (yielded ops a.tmps) = true := by unfold Region.wanted; rw [hgd]
  simp only [hw, if_true]
  have hK2 := hK _ _ h2
  clear h h2 hK hg
  unfold Oper.wp execOp
  simp only [ho, hx, hy, ceA]
  go_simp
  exact hK2
end Go.Proofs.Ytfeghhgniahfkaa
