/-
  Chains of changes, made from nothing and taken back: plain facts, of no program.
-/
import Derived.Test.YtcehppekcbbaaabChangeFacts
import Derived.Test.YtcehppekcbbaaabChangeOfAll
namespace Go.Proofs.Ytcehppekcbbaaab
open Go.RowKit
set_option linter.unusedVariables false

/-- What a change that was told wants and makes. -/
theorem of_wants (pg sl : Int) (fu : Bool) (fv : ByteArray) (tu : Bool) (tv : ByteArray) (h : ofE pg sl fu fv tu tv = 0) :
    (ofC pg sl fu fv tu tv).right ∧ (ofC pg sl fu fv tu tv).sl = sl ∧ (ofC pg sl fu fv tu tv).wantU = fu ∧ (ofC pg sl fu fv tu tv).wantV = fv ∧ (ofC pg sl fu fv tu tv).makeU = tu ∧ (ofC pg sl fu fv tu tv).makeV = tv := by
  by_cases hy : placeOk pg sl ∧ cellOk fu fv ∧ cellOk tu tv
  · have hb : ¬ (fu = false ∧ tu = false) := fun hb => by rw [((of_yes pg sl fu fv tu tv hy).1 hb).1] at h; cases h
    have ec := ((of_yes pg sl fu fv tu tv hy).2 hb).2
    have h1 : ¬ ((fu = false ∧ fv.size ≠ 0) ∨ (tu = false ∧ tv.size ≠ 0)) := by
      rintro (h1 | h1)
      · exact h1.2 (hy.2.1.2 h1.1)
      · exact h1.2 (hy.2.2.2 h1.1)
    have er : ofC pg sl fu fv tu tv = rawC pg sl fu fv tu tv := by unfold ofC; rw [if_pos h]
    refine ⟨by rw [er]; exact (raw_right pg sl fu fv tu tv h1).2 hy, by rw [ec], ?_⟩
    rw [ec]
    cases fu <;> cases tu
    · exact absurd ⟨rfl, rfl⟩ hb
    · exact ⟨rfl, (size0 fv (hy.2.1.2 rfl)).symm, rfl, rfl⟩
    · exact ⟨rfl, rfl, rfl, (size0 tv (hy.2.2.2 rfl)).symm⟩
    · exact ⟨rfl, rfl, rfl, rfl⟩
  · rw [(of_no pg sl fu fv tu tv hy).1] at h
    cases h

/-- The page behind changes, the last one first. -/
def chP : List Ch → Pg
  | [] => Pg.zero
  | c :: r => appP (chP r) c ((chP r).l + 1)
/-- Each of them was made. -/
def ChOk : List Ch → Prop
  | [] => True
  | c :: r => appE (chP r) c ((chP r).l + 1) = 0 ∧ ChOk r

theorem ch_facts : ∀ (rs : List Ch), ChOk rs → (chP rs).l = rs.length ∧ (chP rs).right
  | [], _ => ⟨rfl, Nat.zero_le _, fun i _ => ⟨Nat.zero_le _, fun _ => rfl⟩⟩
  | c :: r, h => by
    obtain ⟨h1, h2⟩ := ch_facts r h.2
    obtain ⟨hp, hc, hl, _, _, _⟩ := (app_yes _ _ _).1 h.1
    have e : chP (c :: r) = (chP r).put ((chP r).l + 1) c.at c.makeU c.makeV := by
      show appP (chP r) c ((chP r).l + 1) = _
      unfold appP
      rw [if_pos h.1]
    rw [e]
    exact ⟨by show (chP r).l + 1 = r.length + 1; rw [h1], put_right _ _ _ hp hc hl⟩

/-- One more. -/
theorem ch_more (rs : List Ch) (h : ChOk rs) (hn : rs.length < 1000) (i : Nat) (hi : i < 8) (tu : Bool) (tv : ByteArray) (h0 : ofE 0 (i : Int) ((chP rs).u i) ((chP rs).s i) tu tv = 0) :
    appE (chP rs) (ofC 0 (i : Int) ((chP rs).u i) ((chP rs).s i) tu tv) ((chP rs).l + 1) = 0 := by
  obtain ⟨h1, h2, h3, h4, _, _⟩ := of_wants _ _ _ _ _ _ h0
  obtain ⟨g1, g2⟩ := ch_facts rs h
  have hat : (ofC 0 (i : Int) ((chP rs).u i) ((chP rs).s i) tu tv).at = i := by unfold Ch.at; rw [h2]; rfl
  rw [app_yes, hat, h3, h4]
  exact ⟨g2, h1, by unfold maxP; omega, by omega, rfl, rfl⟩

/-- The cells of two pages are alike. -/
def CellsAs (p q : Pg) : Prop := ∀ i, i < 8 → p.u i = q.u i ∧ p.s i = q.s i

/-- One taken back. -/
theorem ch_back (p q : Pg) (c : Ch) (l : Nat) (h : appE p c l = 0) (hq : q.right) (hs : CellsAs q (appP p c l)) (hm : q.l + 1 ≤ maxP) :
    invE c = 0 ∧ appE q (invC c) (q.l + 1) = 0 ∧ CellsAs (appP q (invC c) (q.l + 1)) p ∧ (appP q (invC c) (q.l + 1)).l = q.l + 1 ∧ (appP q (invC c) (q.l + 1)).right := by
  obtain ⟨hp, hc, hl, hlt, hu, hv⟩ := (app_yes p c l).1 h
  obtain ⟨ir, iat, iwu, iwv, imu, imv, _⟩ := inv_right c hc
  have eq : appP p c l = p.put l c.at c.makeU c.makeV := by unfold appP; rw [if_pos h]
  rw [eq] at hs
  have hat := hc.at_lt
  have h0 : appE q (invC c) (q.l + 1) = 0 := by
    rw [app_yes]
    have h1 := hs c.at hat
    have h2 := put_at p l c.at c.makeU c.makeV
    exact ⟨hq, ir, hm, by omega, by rw [iat, iwu]; exact h1.1.trans h2.1, by rw [iat, iwv]; exact h1.2.trans h2.2⟩
  have e2 : appP q (invC c) (q.l + 1) = q.put (q.l + 1) (invC c).at (invC c).makeU (invC c).makeV := by
    unfold appP
    rw [if_pos h0]
  refine ⟨by unfold invE; rw [if_pos hc], h0, ?_, by rw [e2]; rfl, by rw [e2]; exact put_right q _ _ hq ir hm⟩
  rw [e2, iat, imu, imv]
  intro i hi
  by_cases hia : i = c.at
  · subst hia
    have h1 := put_at q (q.l + 1) c.at c.wantU c.wantV
    exact ⟨h1.1.trans hu.symm, h1.2.trans hv.symm⟩
  · have h1 := put_other q (q.l + 1) c.at i c.wantU c.wantV hia
    have h2 := put_other p l c.at i c.makeU c.makeV hia
    have h3 := hs i hi
    exact ⟨h1.1.trans (h3.1.trans h2.1), h1.2.trans (h3.2.trans h2.2)⟩

/-- The changes' cells, one behind the other. -/
def flatC (cs : List Ch) : List Value := cs.flatMap fun c => (chA c).toList
theorem flatC_len : ∀ cs : List Ch, (flatC cs).length = cs.length * 5
  | [] => rfl
  | c :: r => by
    have h := flatC_len r
    have e : flatC (c :: r) = (chA c).toList ++ flatC r := rfl
    rw [e, List.length_append, h]
    show 5 + r.length * 5 = (r.length + 1) * 5
    omega
theorem flatC_snoc (cs : List Ch) (c : Ch) : flatC (cs ++ [c]) = flatC cs ++ (chA c).toList := by
  unfold flatC
  rw [List.flatMap_append]
  simp
theorem flatC_at (xs bs : List Ch) (c : Ch) (k : Nat) (hk : k < 5) : (flatC (xs ++ c :: bs))[xs.length * 5 + k]? = (chA c)[k]? := by
  have e : flatC (xs ++ c :: bs) = flatC xs ++ ((chA c).toList ++ flatC bs) := by
    unfold flatC
    rw [List.flatMap_append]
    rfl
  have hz : (chA c).toList.length = 5 := rfl
  rw [e, List.getElem?_append_right (by rw [flatC_len]; omega), flatC_len, Nat.add_sub_cancel_left, List.getElem?_append_left (by omega), Array.getElem?_toList]
theorem flatC_one (cs : List Ch) : ∀ u ∈ flatC cs, u.oneCell' = true := by
  intro u hu
  unfold flatC at hu
  obtain ⟨c, _, hc⟩ := List.mem_flatMap.1 hu
  simp only [chA, List.mem_cons, List.not_mem_nil, or_false] at hc
  rcases hc with rfl | rfl | rfl | rfl | rfl <;> rfl
end Go.Proofs.Ytcehppekcbbaaab
