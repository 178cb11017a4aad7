/-
  What stands in a table of locks always, of no program: nobody who could be let in waits; nobody has to go behind itself; who waits has to go behind somebody.
-/
import Derived.Test.YtmlbghloddiflaaLockMath
namespace Go.Proofs.Ytmlbghloddiflaa

/-! ### The first of each row doesn't fit -/
def Tb.idleAt (t : Tb) (x : Int) : Prop := ∀ h l, t.que x = h :: l → t.fits h.w x h.m = false
def Tb.idle (t : Tb) : Prop := ∀ x, t.idleAt x
theorem que_away (l : List Hd) (w x : Int) : queL (awayL l w) x = awayL (queL l x) w := by
  unfold queL awayL
  rw [List.filter_filter, List.filter_filter]
  congr 1
  funext h
  exact Bool.and_comm _ _
theorem away_self {l : List Hd} {w : Int} (h : ∀ k ∈ l, k.w ≠ w) : awayL l w = l := by
  unfold awayL
  exact List.filter_eq_self.2 (fun k hk => by simpa using h k hk)
theorem away_head {h : Hd} {l : List Hd} (hp : (h :: l).Pairwise fun a b => a.w ≠ b.w) : awayL (h :: l) h.w = l := by
  have hp2 := List.pairwise_cons.1 hp
  have e : awayL (h :: l) h.w = awayL l h.w := by simp [awayL]
  rw [e]
  exact away_self (fun k hk e => hp2.1 k hk e.symm)
theorem fits_give_other {l : List Hd} {h : Hd} {w x m : Int} (h1 : OneL l) (hx : h.x ≠ x) : fitsL (giveL l h) w x m = fitsL l w x m := by
  have key : ∀ l1 l2 : List Hd, (∀ k ∈ l2, k.x = x → k ∈ l1) → fitsL l1 w x m = true → fitsL l2 w x m = true := fun l1 l2 hk h => by
    rw [fitsL_iff] at h ⊢
    exact fun k hk2 hkx hkw => h k (hk k hk2 hkx) hkx hkw
  have give_mem : ∀ (l : List Hd) (k : Hd), k ∈ l → k.x = x → k ∈ giveL l h := by
    intro l
    induction l with
    | nil => exact fun k hk => absurd hk (by simp)
    | cons q l ih =>
      intro k hk hkx
      unfold giveL
      rcases List.mem_cons.1 hk with rfl | hk
      · rw [if_neg (fun e => hx (e.2.symm.trans hkx))]
        exact List.mem_cons_self ..
      · by_cases hq : q.w = h.w ∧ q.x = h.x
        · rw [if_pos hq]
          exact List.mem_cons_of_mem _ hk
        · rw [if_neg hq]
          exact List.mem_cons_of_mem _ (ih k hk hkx)
  rw [Bool.eq_iff_iff]
  constructor
  · exact key _ _ (fun k hk hkx => give_mem l k hk hkx)
  · refine key _ _ (fun k hk hkx => ?_)
    rcases mem_give_other h1 hk with rfl | hk
    · exact absurd hkx hx
    · exact hk.1
theorem let_idle (x : Int) : ∀ (l : List Hd) (t : Tb), t.ok → t.que x = l → (letL x l t).1.idleAt x
  | [], t, h, hq => fun k l' e => absurd (hq.symm.trans e) (by simp)
  | k :: l, t, h, hq => by
    have hk := mem_que.1 (show k ∈ queL t.row x by have : t.que x = queL t.row x := rfl; rw [← this, hq]; exact List.mem_cons_self ..)
    have hr := h.rk k hk.1
    unfold letL
    by_cases hf : t.fits k.w x k.m = true
    · rw [if_pos hf]
      have hf2 : t.fits k.w k.x k.m = true := by rw [hk.2]; exact hf
      refine let_idle x l _ ((h.give hr hf2).away _) ?_
      show queL (awayL t.row k.w) x = l
      rw [que_away]
      have e : queL t.row x = k :: l := hq
      rw [e]
      refine away_head ?_
      rw [← e]
      exact h.rone.filter _
    · rw [if_neg hf]
      intro k' l' e
      rw [hq] at e
      injection e with e1 e2
      subst e1
      simpa using hf
theorem let_keeps (x x' : Int) (hx : x ≠ x') : ∀ (l : List Hd) (t : Tb), t.ok → (∀ h ∈ l, h ∈ t.row ∧ h.x = x) → l.Pairwise (fun a b => a.w ≠ b.w) → t.idleAt x' → (letL x l t).1.idleAt x'
  | [], t, _, _, _, hi => hi
  | k :: l, t, h, hl, hp, hi => by
    have hk := hl k (List.mem_cons_self ..)
    have hr := h.rk k hk.1
    have hp2 := List.pairwise_cons.1 hp
    unfold letL
    by_cases hf : t.fits k.w x k.m = true
    · rw [if_pos hf]
      have hf2 : t.fits k.w k.x k.m = true := by rw [hk.2]; exact hf
      refine let_keeps x x' hx l _ ((h.give hr hf2).away _) (fun q hq => ⟨mem_away.2 ⟨(hl q (List.mem_cons_of_mem _ hq)).1, fun e => hp2.1 q hq e.symm⟩, (hl q (List.mem_cons_of_mem _ hq)).2⟩) hp2.2 ?_
      intro q l' e
      have eq : queL (awayL t.row k.w) x' = t.que x' := by
        rw [que_away]
        refine away_self (fun q hq e => ?_)
        have hm := mem_que.1 hq
        have h1 := wt_of h.rone hk.1
        have h2 := wt_of h.rone hm.1
        rw [e, h1] at h2
        injection h2 with h2
        rw [h2] at hk
        exact hx (hk.2.symm.trans hm.2)
      have e2 : t.que x' = q :: l' := eq.symm.trans e
      have := hi q l' e2
      show fitsL (giveL t.has k) q.w x' q.m = false
      rw [fits_give_other h.one (by rw [hk.2]; exact hx)]
      exact this
    · rw [if_neg hf]
      exact hi
theorem look_idle : ∀ (n : Nat) (x : Int) (t : Tb), t.ok → ∀ x', (t.idleAt x' ∨ (x ≤ x' ∧ x' < x + n)) → (lookL n x t).1.idleAt x'
  | 0, x, t, h, x', hh => by
    rcases hh with hh | hh
    · exact hh
    · omega
  | n + 1, x, t, h, x', hh => by
    have hl : ∀ q ∈ t.que x, q ∈ t.row ∧ q.x = x := fun q hq => mem_que.1 hq
    have ho : (letL x (t.que x) t).1.ok := let_ok x _ t h (fun q hq => by
      have := h.rk q (hl q hq).1
      exact ⟨this.1, this.2.1, this.2.2, (hl q hq).2⟩)
    refine look_idle n (x + 1) _ ho x' ?_
    by_cases hx : x = x'
    · subst hx
      exact .inl (let_idle x _ t h rfl)
    · rcases hh with hh | hh
      · exact .inl (let_keeps x x' hx _ t h hl (h.rone.filter _) hh)
      · exact .inr (by omega)
theorem idle_out {t : Tb} (h : t.ok) {x : Int} (hx : ¬ (0 ≤ x ∧ x < 288)) : t.idleAt x := fun k l e => by
  have hk := mem_que.1 (show k ∈ queL t.row x by have e' : queL t.row x = k :: l := e; rw [e']; exact List.mem_cons_self ..)
  have := (h.rk k hk.1).2.1
  unfold thingOk at this
  rw [Bool.and_eq_true, decide_eq_true_iff, decide_eq_true_iff, hk.2] at this
  exact absurd this hx
theorem Tb.ok.look_idle {t : Tb} (h : t.ok) : t.look.1.idle := fun x => by
  by_cases hx : 0 ≤ x ∧ x < 288
  · exact Go.Proofs.Ytmlbghloddiflaa.look_idle 288 0 t h x (.inr ⟨hx.1, by have := hx.2; omega⟩)
  · exact idle_out (look_ok _ _ _ h) hx
theorem Tb.ok.stop_idle {t : Tb} (h : t.ok) (w : Int) : (t.stop w).1.idle := (h.away w).look_idle
theorem Tb.ok.free_idle {t : Tb} (h : t.ok) (w : Int) : (t.free w).1.idle := ((h.drop w).away w).look_idle
/-- A lock that is raised, or a new one. -/
theorem idle_give {t : Tb} (h : t.ok) (hi : t.idle) (k : Hd) (hc : t.at k.w k.x ≠ 0 → cov k.m (t.at k.w k.x) = true) : (t.give k).idle := by
  intro x q l e
  have h0 := hi x q l e
  by_cases hn : (t.give k).fits q.w x q.m = true
  · exfalso
    have hn2 := (fitsL_iff _ _ _ _).1 (show fitsL (giveL t.has k) q.w x q.m = true from hn)
    have : t.fits q.w x q.m = true := (fitsL_iff _ _ _ _).2 (fun p hp hpx hpw => by
      have give_or : ∀ (l : List Hd), p ∈ l → p ∈ giveL l k ∨ (p.w = k.w ∧ p.x = k.x ∧ k ∈ giveL l k) := by
        intro l
        induction l with
        | nil => exact fun hp => absurd hp (by simp)
        | cons r l ih =>
          intro hp
          unfold giveL
          by_cases hr : r.w = k.w ∧ r.x = k.x
          · rw [if_pos hr]
            rcases List.mem_cons.1 hp with rfl | hp
            · exact .inr ⟨hr.1, hr.2, List.mem_cons_self ..⟩
            · exact .inl (List.mem_cons_of_mem _ hp)
          · rw [if_neg hr]
            rcases List.mem_cons.1 hp with rfl | hp
            · exact .inl (List.mem_cons_self ..)
            · rcases ih hp with h | h
              · exact .inl (List.mem_cons_of_mem _ h)
              · exact .inr ⟨h.1, h.2.1, List.mem_cons_of_mem _ h.2.2⟩
      rcases give_or t.has hp with hg | ⟨g1, g2, g3⟩
      · exact hn2 p hg hpx hpw
      · have hk := hn2 k g3 (g2.symm.trans hpx) (fun e => hpw (g1.trans e))
        have ha : t.at k.w k.x = p.m := by
          have := at_of h.one hp
          rw [g1, g2] at this
          exact this
        have hne : p.m ≠ 0 := fun e => by
          have := (h.hk p hp).2.2
          rw [e] at this
          exact absurd this (by decide)
        have hcv := hc (by rw [ha]; exact hne)
        rw [ha] at hcv
        exact fit_cov hcv hk)
    rw [this] at h0
    cases h0
  · simpa using hn
/-- One more waits. -/
theorem idle_queue {t : Tb} (hi : t.idle) (k : Hd) (hq : t.fits k.w k.x k.m = false ∨ (t.at k.w k.x = 0 ∧ t.que k.x ≠ [])) : (t.queue k).idle := by
  intro x q l e
  have e1 : queL (t.row.take (t.place k) ++ k :: t.row.drop (t.place k)) x = q :: l := e
  have e0 : t.que x = queL (t.row.take (t.place k)) x ++ queL (t.row.drop (t.place k)) x := by
    show queL t.row x = _
    conv => lhs; rw [← List.take_append_drop (t.place k) t.row]
    unfold queL
    rw [List.filter_append]
  have e2 : queL (t.row.take (t.place k) ++ k :: t.row.drop (t.place k)) x = queL (t.row.take (t.place k)) x ++ queL (k :: t.row.drop (t.place k)) x := by
    unfold queL
    rw [List.filter_append]
  rw [e2] at e1
  show t.fits q.w x q.m = false
  cases hA : queL (t.row.take (t.place k)) x with
  | cons p A =>
    rw [hA] at e1 e0
    rw [List.cons_append] at e1
    injection e1 with e1 _
    subst e1
    exact hi x p _ e0
  | nil =>
    rw [hA, List.nil_append] at e1 e0
    by_cases hx : k.x = x
    · have e3 : queL (k :: t.row.drop (t.place k)) x = k :: queL (t.row.drop (t.place k)) x := by simp [queL, hx]
      rw [e3] at e1
      injection e1 with e1 _
      subst e1
      subst hx
      rcases hq with hq | ⟨h0, h1⟩
      · exact hq
      · exfalso
        apply h1
        have hpl : t.place k = t.row.length := by unfold Tb.place; rw [if_neg (by rw [h0]; simp)]
        rw [hpl, List.take_length] at hA
        exact hA
    · have e3 : queL (k :: t.row.drop (t.place k)) x = queL (t.row.drop (t.place k)) x := by simp [queL, hx]
      rw [e3] at e1
      exact hi x q l (e0.trans e1)
end Go.Proofs.Ytmlbghloddiflaa
