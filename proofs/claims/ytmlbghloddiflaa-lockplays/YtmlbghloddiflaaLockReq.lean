/-
  A request for a lock, of no program: what comes out, what the table is behind it, what it keeps; and what stands in every table that calls lead to.
-/
import Derived.Test.YtmlbghloddiflaaLockCalm
namespace Go.Proofs.Ytmlbghloddiflaa

def Tb.asks (t : Tb) (w x m : Int) : Hd := ⟨w, x, t.want w x m⟩
/-- d: who would have to go behind itself. -/
def Tb.req (t : Tb) (w x m : Int) (d : Bool) : Tb × Int :=
  if (whoOk w && thingOk x && rgt m) = true then
    match t.wt w with
    | some h => (t, if h.x = x ∧ h.m = t.want w x m then 12 else 13)
    | none =>
      if t.at w x ≠ 0 ∧ cov (t.at w x) m = true then (t, 0)
      else if t.fits w x (t.want w x m) = true ∧ (t.at w x ≠ 0 ∨ t.que x = []) then (t.give (t.asks w x m), 0)
      else if d = true then (t, 11) else (t.queue (t.asks w x m), 12)
  else (t, 1)
/-- Is d right? -/
def Tb.dead (t : Tb) (w x m : Int) (d : Bool) : Prop := d = true ↔ (t.queue (t.asks w x m)).far w w

theorem want_rgt {t : Tb} (ho : t.ok) {w x m : Int} (hm : rgt m = true) : rgt (t.want w x m) = true := by
  unfold Tb.want
  by_cases h : t.at w x ≠ 0
  · rw [if_pos h]
    obtain ⟨k, k1, _, _, k4⟩ := at_mem h
    have hk := (ho.hk k k1).2.2
    have e : k.m = t.at w x := k4
    rw [e] at hk
    have := (bth_covers hk hm).1
    unfold cov at this
    rw [Bool.and_eq_true, Bool.and_eq_true] at this
    exact this.1.1
  · rw [if_neg h]
    exact hm
theorem at_rgt {t : Tb} (ho : t.ok) {w x : Int} (h : t.at w x ≠ 0) : rgt (t.at w x) = true := by
  obtain ⟨k, k1, _, _, k4⟩ := at_mem h
  have hk := (ho.hk k k1).2.2
  have e : k.m = t.at w x := k4
  rw [e] at hk
  exact hk
theorem want_cov {t : Tb} (ho : t.ok) {w x m : Int} (hm : rgt m = true) : cov (t.want w x m) m = true ∧ (t.at w x ≠ 0 → cov (t.want w x m) (t.at w x) = true) := by
  unfold Tb.want
  by_cases h : t.at w x ≠ 0
  · rw [if_pos h]
    have := bth_covers (at_rgt ho h) hm
    exact ⟨this.2, fun _ => this.1⟩
  · rw [if_neg h]
    refine ⟨?_, fun e => absurd e h⟩
    unfold cov
    rw [hm]
    simp

/-- What stands always. -/
structure Tb.good (t : Tb) : Prop where
  ok : t.ok
  idle : t.idle
  calm : t.calm
theorem good_nil : (⟨[], []⟩ : Tb).good :=
  ⟨⟨fun h hh => absurd hh (by simp), List.Pairwise.nil, fun a ha => absurd ha (by simp), fun h hh => absurd hh (by simp), List.Pairwise.nil⟩,
    fun x h l e => absurd e (by simp [Tb.que, queL]), calm_nil⟩
theorem Tb.good.stop {t : Tb} (h : t.good) (w : Int) : (t.stop w).1.good := ⟨h.ok.stop w, h.ok.stop_idle w, h.calm.stop w⟩
theorem Tb.good.free {t : Tb} (h : t.good) (w : Int) : (t.free w).1.good := ⟨h.ok.free w, h.ok.free_idle w, h.calm.free w⟩
theorem Tb.good.req {t : Tb} (h : t.good) {w x m : Int} {d : Bool} (hd : t.dead w x m d) : (t.req w x m d).1.good := by
  unfold Tb.req
  by_cases ha : (whoOk w && thingOk x && rgt m) = true
  · rw [if_pos ha]
    rw [Bool.and_eq_true, Bool.and_eq_true] at ha
    have hk : whoOk (t.asks w x m).w = true ∧ thingOk (t.asks w x m).x = true ∧ rgt (t.asks w x m).m = true := ⟨ha.1.1, ha.1.2, want_rgt h.ok ha.2⟩
    cases hw : t.wt w with
    | some k => exact h
    | none =>
      show (if t.at w x ≠ 0 ∧ cov (t.at w x) m = true then (t, 0) else _ : Tb × Int).1.good
      by_cases hc : t.at w x ≠ 0 ∧ cov (t.at w x) m = true
      · rw [if_pos hc]
        exact h
      · rw [if_neg hc]
        by_cases hf : t.fits w x (t.want w x m) = true ∧ (t.at w x ≠ 0 ∨ t.que x = [])
        · rw [if_pos hf]
          exact ⟨h.ok.give hk hf.1, idle_give h.ok h.idle _ (want_cov h.ok ha.2).2, h.calm.give _ hw⟩
        · rw [if_neg hf]
          by_cases hdd : d = true
          · rw [if_pos hdd]
            exact h
          · rw [if_neg hdd]
            refine ⟨h.ok.queue hk hw, idle_queue h.idle _ ?_, h.calm.queue _ (fun hr => hdd (hd.2 hr))⟩
            show t.fits w x (t.want w x m) = false ∨ (t.at w x = 0 ∧ t.que x ≠ [])
            cases hfc : t.fits w x (t.want w x m) with
            | false => exact .inl rfl
            | true =>
              refine .inr ?_
              by_cases h0 : t.at w x = 0
              · exact ⟨h0, fun e => hf ⟨hfc, .inr e⟩⟩
              · exact absurd ⟨hfc, .inl h0⟩ hf
  · rw [if_neg ha]
    exact h
/-- Whose names stand there. -/
theorem req_names {t : Tb} {w x m k : Int} {d : Bool} (h : (t.req w x m d).1.names k) : t.names k ∨ k = w := by
  unfold Tb.req at h
  by_cases ha : (whoOk w && thingOk x && rgt m) = true
  · rw [if_pos ha] at h
    cases hw : t.wt w with
    | some q =>
      rw [hw] at h
      exact .inl h
    | none =>
      rw [hw] at h
      have h : (if t.at w x ≠ 0 ∧ cov (t.at w x) m = true then (t, 0) else if t.fits w x (t.want w x m) = true ∧ (t.at w x ≠ 0 ∨ t.que x = []) then (t.give (t.asks w x m), 0) else if d = true then (t, 11) else (t.queue (t.asks w x m), 12) : Tb × Int).1.names k := h
      by_cases hc : t.at w x ≠ 0 ∧ cov (t.at w x) m = true
      · rw [if_pos hc] at h
        exact .inl h
      · rw [if_neg hc] at h
        by_cases hf : t.fits w x (t.want w x m) = true ∧ (t.at w x ≠ 0 ∨ t.que x = [])
        · rw [if_pos hf] at h
          exact names_give h
        · rw [if_neg hf] at h
          by_cases hdd : d = true
          · rw [if_pos hdd] at h
            exact .inl h
          · rw [if_neg hdd] at h
            exact queue_names h
  · rw [if_neg ha] at h
    exact .inl h
/-- What isn't granted changes no lock; what is, its own alone. -/
theorem req_has {t : Tb} {w x m : Int} {d : Bool} : ((t.req w x m d).1.has = t.has ∧ ((t.req w x m d).2 = 0 → t.at w x ≠ 0 ∧ cov (t.at w x) m = true)) ∨ ((t.req w x m d).1 = t.give (t.asks w x m) ∧ (t.req w x m d).2 = 0 ∧ rgt m = true) := by
  unfold Tb.req
  by_cases ha : (whoOk w && thingOk x && rgt m) = true
  · rw [if_pos ha]
    rw [Bool.and_eq_true, Bool.and_eq_true] at ha
    cases hw : t.wt w with
    | some k =>
      refine .inl ⟨rfl, fun e => ?_⟩
      have e : (if k.x = x ∧ k.m = t.want w x m then 12 else 13 : Int) = 0 := e
      split at e <;> omega
    | none =>
      show ((if t.at w x ≠ 0 ∧ cov (t.at w x) m = true then (t, 0) else _ : Tb × Int).1.has = t.has ∧ ((if t.at w x ≠ 0 ∧ cov (t.at w x) m = true then (t, 0) else _ : Tb × Int).2 = 0 → _)) ∨ ((if t.at w x ≠ 0 ∧ cov (t.at w x) m = true then (t, 0) else _ : Tb × Int).1 = _ ∧ (if t.at w x ≠ 0 ∧ cov (t.at w x) m = true then (t, 0) else _ : Tb × Int).2 = 0 ∧ _)
      by_cases hc : t.at w x ≠ 0 ∧ cov (t.at w x) m = true
      · rw [if_pos hc]
        exact .inl ⟨rfl, fun _ => hc⟩
      · rw [if_neg hc]
        by_cases hf : t.fits w x (t.want w x m) = true ∧ (t.at w x ≠ 0 ∨ t.que x = [])
        · rw [if_pos hf]
          exact .inr ⟨rfl, rfl, ha.2⟩
        · rw [if_neg hf]
          by_cases hdd : d = true
          · rw [if_pos hdd]
            exact .inl ⟨rfl, fun e => absurd e (show (11 : Int) ≠ 0 by decide)⟩
          · rw [if_neg hdd]
            exact .inl ⟨rfl, fun e => absurd e (show (12 : Int) ≠ 0 by decide)⟩
  · rw [if_neg ha]
    exact .inl ⟨rfl, fun e => absurd e (show (1 : Int) ≠ 0 by decide)⟩

/-! ### Nobody is let in, where nobody could be -/
theorem let_none {t : Tb} {x : Int} (h : t.idleAt x) : letL x (t.que x) t = (t, []) := by
  cases hq : t.que x with
  | nil => rfl
  | cons k l =>
    have := h k l hq
    unfold letL
    rw [if_neg (by rw [this]; decide)]
theorem look_none : ∀ (n : Nat) (x : Int) {t : Tb}, t.idle → lookL n x t = (t, [])
  | 0, _, _, _ => rfl
  | n + 1, x, t, h => by
    unfold lookL
    rw [let_none (h x)]
    show ((lookL n (x + 1) t).1, [] ++ (lookL n (x + 1) t).2) = _
    rw [look_none n (x + 1) h]
    rfl
theorem away_none {t : Tb} {w : Int} (h : t.wt w = none) : t.away w = t := by
  have : awayL t.row w = t.row := away_self (wt_none h)
  unfold Tb.away
  rw [this]
theorem stop_none {t : Tb} (h : t.idle) {w : Int} (hw : t.wt w = none) : t.stop w = (t, []) := by
  unfold Tb.stop
  rw [away_none hw]
  exact look_none _ _ h
theorem free_none {t : Tb} (h : t.idle) {w : Int} (hw : t.wt w = none) (hh : ∀ k ∈ t.has, k.w ≠ w) : t.free w = (t, []) := by
  unfold Tb.free
  rw [away_self hh]
  show t.stop w = _
  exact stop_none h hw
end Go.Proofs.Ytmlbghloddiflaa
