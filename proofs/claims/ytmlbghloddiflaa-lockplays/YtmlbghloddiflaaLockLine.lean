/-
  One thing alone, of no program: who has nothing there stands at the end of the row and makes no ring; who is freed lets in those ahead, in the order of the row; when nobody has the thing nobody waits.
-/
import Derived.Test.YtmlbghloddiflaaLockHeld
namespace Go.Proofs.Ytmlbghloddiflaa

/-! ### At the end of the row -/
theorem ahead_last {a : Int} {k h : Hd} {x : Int} : ∀ {l : List Hd}, h ∈ l → h.w = a → (∀ q ∈ l, q.w ≠ k.w) → aheadL (l ++ [k]) a k.w x = false
  | [], hm, _, _ => absurd hm (by simp)
  | q :: l, hm, hw, hk => by
    rw [List.cons_append]
    unfold aheadL
    by_cases hq : q.w = a
    · rw [if_pos hq]
    · rw [if_neg hq, if_neg (fun e => hk q (List.mem_cons_self ..) e.1)]
      rcases List.mem_cons.1 hm with rfl | hm
      · exact absurd hw hq
      · exact ahead_last hm hw (fun r hr => hk r (List.mem_cons_of_mem _ hr))
theorem place_last {t : Tb} {k : Hd} (h : t.at k.w k.x = 0) : t.queue k = ⟨t.has, t.row ++ [k]⟩ := by
  have hpl : t.place k = t.row.length := by unfold Tb.place; rw [if_neg (by rw [h]; simp)]
  unfold Tb.queue
  rw [hpl, List.take_length, List.drop_length]
/-- Who has nothing makes no ring. -/
theorem far_last {t : Tb} {k : Hd} (hh : ∀ h ∈ t.has, h.w ≠ k.w) (hw : t.wt k.w = none) : ¬ (t.queue k).far k.w k.w := by
  have h0 : ∀ x, t.at k.w x = 0 := fun x => by
    by_cases h : t.at k.w x = 0
    · exact h
    · obtain ⟨q, q1, q2, _⟩ := at_mem h
      exact absurd q2 (hh q q1)
  have hn : ∀ a, (t.queue k).beh a k.w = false := fun a => by
    rw [place_last (h0 k.x)]
    cases he : (⟨t.has, t.row ++ [k]⟩ : Tb).beh a k.w with
    | false => rfl
    | true =>
      exfalso
      obtain ⟨h, h1, h2, h3⟩ := (beh_iff _ _ _).1 he
      obtain ⟨m1, m2⟩ := wt_some h1
      rcases h3 with ⟨h3, _⟩ | h3
      · exact h3 (h0 h.x)
      · rcases List.mem_append.1 (show h ∈ t.row ++ [k] from m1) with m1 | m1
        · have := ahead_last (x := h.x) m1 m2 (wt_none hw)
          rw [show aheadL (t.row ++ [k]) a k.w h.x = true from h3] at this
          cases this
        · rw [List.mem_singleton] at m1
          subst m1
          exact h2 m2.symm
  intro hf
  have last : ∀ {a b : Int}, (t.queue k).far a b → ∃ c, (t.queue k).beh c b = true := fun hf => by
    cases hf with
    | single e => exact ⟨_, e⟩
    | tail _ e => exact ⟨_, e⟩
  obtain ⟨c, e⟩ := last hf
  rw [hn c] at e
  cases e
/-- It waits, where another one has the thing alone. -/
theorem request_last {t : Tb} {w x m : Int} (hw : whoOk w = true) (hx : thingOk x = true) (hm : rgt m = true) (hh : ∀ h ∈ t.has, h.w ≠ w) (hr : t.wt w = none) (hf : t.fits w x m = false) :
    t.request w x m = (⟨t.has, t.row ++ [⟨w, x, m⟩]⟩, 12) := by
  have h0 : t.at w x = 0 := by
    by_cases h : t.at w x = 0
    · exact h
    · obtain ⟨q, q1, q2, _⟩ := at_mem h
      exact absurd q2 (hh q q1)
  have hwant : t.want w x m = m := by
    unfold Tb.want
    rw [if_neg (by rw [h0]; simp)]
  have hring : (t.queue (t.asks w x m)).ring w = false := by
    cases he : (t.queue (t.asks w x m)).ring w with
    | false => rfl
    | true => exact absurd ((Tb.ring_iff _ _).1 he) (far_last (k := t.asks w x m) hh hr)
  have hq : t.queue (t.asks w x m) = ⟨t.has, t.row ++ [⟨w, x, m⟩]⟩ := by
    rw [place_last (k := t.asks w x m) h0]
    unfold Tb.asks
    rw [hwant]
  unfold Tb.request Tb.req
  rw [hring, if_pos (by rw [hw, hx, hm]; rfl), hr]
  show (if t.at w x ≠ 0 ∧ cov (t.at w x) m = true then (t, 0) else if t.fits w x (t.want w x m) = true ∧ (t.at w x ≠ 0 ∨ t.que x = []) then (t.give (t.asks w x m), 0) else if false = true then (t, 11) else (t.queue (t.asks w x m), 12) : Tb × Int) = _
  rw [if_neg (fun e => e.1 h0), hwant, if_neg (fun e => by rw [hf] at e; exact absurd e.1 (by simp)), if_neg (by simp), hq]

/-! ### One thing alone -/
/-- All is for one thing, and each owner stands there once. -/
structure Alone (x : Int) (H R : List Hd) : Prop where
  xs : ∀ h ∈ H ++ R, h.x = x
  one : (H ++ R).Pairwise fun a b => a.w ≠ b.w
theorem give_new {h : Hd} : ∀ {l : List Hd}, (∀ k ∈ l, k.w ≠ h.w) → giveL l h = l ++ [h]
  | [], _ => rfl
  | k :: l, hk => by
    unfold giveL
    rw [if_neg (fun e => hk k (List.mem_cons_self ..) e.1), give_new (fun q hq => hk q (List.mem_cons_of_mem _ hq))]
    rfl
theorem let_line (x : Int) : ∀ (R H : List Hd), Alone x H R → ∃ L1 L2, R = L1 ++ L2 ∧ letL x R ⟨H, R⟩ = (⟨H ++ L1, L2⟩, L1.map Hd.w)
  | [], H, _ => ⟨[], [], rfl, by simp [letL]⟩
  | k :: R, H, ha => by
    unfold letL
    by_cases hf : (⟨H, k :: R⟩ : Tb).fits k.w x k.m = true
    · rw [if_pos hf]
      have hp := List.pairwise_append.1 ha.one
      have hg : giveL H k = H ++ [k] := give_new (fun q hq => hp.2.2 q hq k (List.mem_cons_self ..))
      have hw : awayL (k :: R) k.w = R := away_head hp.2.1
      have e : ((⟨H, k :: R⟩ : Tb).give k).away k.w = ⟨H ++ [k], R⟩ := by
        show (⟨giveL H k, awayL (k :: R) k.w⟩ : Tb) = _
        rw [hg, hw]
      have ha2 : Alone x (H ++ [k]) R := by
        have e2 : H ++ [k] ++ R = H ++ (k :: R) := by rw [List.append_assoc]; rfl
        exact ⟨by rw [e2]; exact ha.xs, by rw [e2]; exact ha.one⟩
      obtain ⟨L1, L2, h1, h2⟩ := let_line x R (H ++ [k]) ha2
      refine ⟨k :: L1, L2, by rw [h1]; rfl, ?_⟩
      rw [e, h2]
      show ((⟨H ++ [k] ++ L1, L2⟩ : Tb), k.w :: L1.map Hd.w) = _
      rw [List.append_assoc]
      rfl
    · rw [if_neg hf]
      exact ⟨[], k :: R, rfl, by simp⟩
theorem que_other {x x' : Int} {H R : List Hd} (hx : x' ≠ x) (hr : ∀ h ∈ R, h.x = x) : (⟨H, R⟩ : Tb).que x' = [] := by
  show queL R x' = []
  unfold queL
  rw [List.filter_eq_nil_iff]
  intro h hh
  rw [hr h hh]
  simpa using fun e => hx e.symm
theorem que_all {x : Int} {H R : List Hd} (hr : ∀ h ∈ R, h.x = x) : (⟨H, R⟩ : Tb).que x = R := by
  show queL R x = R
  unfold queL
  exact List.filter_eq_self.2 (fun h hh => by simpa using hr h hh)
theorem look_out {x : Int} : ∀ (n : Nat) (x0 : Int) {H R : List Hd}, (∀ h ∈ R, h.x = x) → (x < x0 ∨ x0 + n ≤ x) → lookL n x0 ⟨H, R⟩ = (⟨H, R⟩, [])
  | 0, _, _, _, _, _ => rfl
  | n + 1, x0, H, R, hr, hx => by
    unfold lookL
    rw [que_other (show x0 ≠ x by omega) hr]
    show ((lookL n (x0 + 1) ⟨H, R⟩).1, [] ++ (lookL n (x0 + 1) ⟨H, R⟩).2) = _
    rw [look_out n (x0 + 1) hr (by omega)]
    rfl
theorem look_line {x : Int} : ∀ (n : Nat) (x0 : Int) {H R : List Hd}, Alone x H R → x0 ≤ x → x < x0 + n → lookL n x0 ⟨H, R⟩ = letL x R ⟨H, R⟩
  | 0, x0, _, _, _, h1, h2 => absurd h2 (by omega)
  | n + 1, x0, H, R, ha, h1, h2 => by
    have hr : ∀ h ∈ R, h.x = x := fun h hh => ha.xs h (List.mem_append.2 (.inr hh))
    unfold lookL
    by_cases e : x0 = x
    · subst e
      rw [que_all hr]
      obtain ⟨L1, L2, g1, g2⟩ := let_line x0 R H ha
      rw [g2]
      show ((lookL n (x0 + 1) ⟨H ++ L1, L2⟩).1, L1.map Hd.w ++ (lookL n (x0 + 1) ⟨H ++ L1, L2⟩).2) = _
      rw [look_out (x := x0) n (x0 + 1) (fun h hh => hr h (by rw [g1]; exact List.mem_append.2 (.inr hh))) (by omega)]
      simp
    · rw [que_other e hr]
      show ((lookL n (x0 + 1) ⟨H, R⟩).1, [] ++ (lookL n (x0 + 1) ⟨H, R⟩).2) = _
      rw [look_line n (x0 + 1) ha (by omega) (by omega)]
      rfl
/-- The first of those who have it is freed: those ahead in the row come behind the others. -/
theorem free_line {x : Int} (hx : thingOk x = true) {g : Hd} {H R : List Hd} (ha : Alone x (g :: H) R) :
    ∃ L1 L2, R = L1 ++ L2 ∧ (⟨g :: H, R⟩ : Tb).free g.w = (⟨H ++ L1, L2⟩, L1.map Hd.w) ∧ Alone x (H ++ L1) L2 := by
  have hp := List.pairwise_cons.1 (show (g :: (H ++ R)).Pairwise (fun a b => a.w ≠ b.w) from ha.one)
  have h1 : awayL (g :: H) g.w = H := by
    refine away_head (List.pairwise_cons.2 ⟨fun q hq => hp.1 q (List.mem_append.2 (.inl hq)), (List.pairwise_append.1 hp.2).1⟩)
  have h2 : awayL R g.w = R := away_self (fun q hq e => hp.1 q (List.mem_append.2 (.inr hq)) e.symm)
  have ha2 : Alone x H R := ⟨fun h hh => ha.xs h (List.mem_cons_of_mem _ hh), hp.2⟩
  obtain ⟨L1, L2, g1, g2⟩ := let_line x R H ha2
  refine ⟨L1, L2, g1, ?_, ?_⟩
  · unfold Tb.free
    show lookL 288 0 ⟨awayL (g :: H) g.w, awayL R g.w⟩ = _
    unfold thingOk at hx
    rw [Bool.and_eq_true, decide_eq_true_iff, decide_eq_true_iff] at hx
    rw [h1, h2, look_line 288 0 ha2 hx.1 (by have := hx.2; omega), g2]
  · have e : H ++ L1 ++ L2 = H ++ R := by rw [g1, List.append_assoc]
    exact ⟨by rw [e]; exact ha2.xs, by rw [e]; exact ha2.one⟩
/-- All of a list are freed, one by one: who is let in, in the order of the row. -/
def freeAll : List Int → Tb → Tb × List Int
  | [], t => (t, [])
  | w :: l, t => ((freeAll l (t.free w).1).1, (t.free w).2 ++ (freeAll l (t.free w).1).2)
theorem freeAll_line {x : Int} (hx : thingOk x = true) : ∀ (G N R : List Hd), Alone x (G ++ N) R →
    ∃ L1 L2, R = L1 ++ L2 ∧ freeAll (G.map Hd.w) ⟨G ++ N, R⟩ = (⟨N ++ L1, L2⟩, L1.map Hd.w) ∧ Alone x (N ++ L1) L2
  | [], N, R, ha => ⟨[], R, rfl, by simp [freeAll], by simpa using ha⟩
  | g :: G, N, R, ha => by
    obtain ⟨L1, L2, h1, h2, h3⟩ := free_line hx (show Alone x (g :: (G ++ N)) R from ha)
    rw [List.append_assoc] at h2 h3
    obtain ⟨M1, M2, k1, k2, k3⟩ := freeAll_line hx G (N ++ L1) L2 h3
    refine ⟨L1 ++ M1, M2, by rw [h1, k1, List.append_assoc], ?_, by rw [← List.append_assoc]; exact k3⟩
    show ((freeAll (G.map Hd.w) ((⟨g :: (G ++ N), R⟩ : Tb).free g.w).1).1, ((⟨g :: (G ++ N), R⟩ : Tb).free g.w).2 ++ (freeAll (G.map Hd.w) ((⟨g :: (G ++ N), R⟩ : Tb).free g.w).1).2) = _
    rw [h2]
    show ((freeAll (G.map Hd.w) ⟨G ++ (N ++ L1), L2⟩).1, L1.map Hd.w ++ (freeAll (G.map Hd.w) ⟨G ++ (N ++ L1), L2⟩).2) = _
    rw [k2]
    simp [List.append_assoc]
theorem freeAll_good : ∀ (l : List Int) {t : Tb}, t.good → (freeAll l t).1.good
  | [], _, h => h
  | w :: l, _, h => freeAll_good l (h.free w)
theorem freeAll_names : ∀ (l : List Int) {t : Tb} {k : Int}, (freeAll l t).1.names k → t.names k ∧ k ∉ l
  | [], _, _, h => ⟨h, by simp⟩
  | w :: l, t, k, h => by
    have h1 := freeAll_names l (show (freeAll l (t.free w).1).1.names k from h)
    have h2 := free_names h1.1
    refine ⟨h2.1, fun e => ?_⟩
    rcases List.mem_cons.1 e with e | e
    · exact h2.2 e
    · exact h1.2 e
/-- When nobody has anything nobody waits. -/
theorem Tb.good.none_waits {R : List Hd} (h : (⟨[], R⟩ : Tb).good) : R = [] := by
  cases R with
  | nil => rfl
  | cons k R =>
    exfalso
    cases hq : (⟨[], k :: R⟩ : Tb).que k.x with
    | nil =>
      have : k ∈ (⟨[], k :: R⟩ : Tb).que k.x := mem_que.2 ⟨List.mem_cons_self .., rfl⟩
      rw [hq] at this
      exact absurd this (by simp)
    | cons q l =>
      have := h.idle k.x q l hq
      exact absurd this (by simp [Tb.fits, fitsL])
end Go.Proofs.Ytmlbghloddiflaa
