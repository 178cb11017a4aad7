/-
  The search for a ring that goes from one who waits to those who keep it out and to the one just ahead of it, of no program: it comes to a ring where there is one.
-/
import Derived.Test.YtmlbghloddiflaaLockPl
namespace Go.Proofs.Ytmlbghloddiflaa

/-- Those ahead of one who waits. -/
def aheadS (l : List Hd) (h : Hd) : List Hd := l.takeWhile fun k => decide (k ≠ h)
def lastW (l : List Hd) : List Int := match l.getLast? with
  | none => []
  | some h => [h.w]
def nextS (p : Pt) (h : Hd) : List Int := barL (p.had h.x.toNat) h ++ lastW (aheadS (p.row h.x.toNat) h)
/-- One step: to those who keep it out, or to the one just ahead. -/
def stepS (t : Tb) (p : Pt) (a b : Int) : Prop := ∃ h, t.wt a = some h ∧ b ∈ nextS p h
theorem take_split {h : Hd} : ∀ {l : List Hd}, h ∈ l → ∃ r, l = aheadS l h ++ h :: r
  | [], hh => absurd hh (by simp)
  | k :: l, hh => by
    unfold aheadS
    by_cases e : k = h
    · subst e
      exact ⟨l, by simp⟩
    · have hl : h ∈ l := by
        rcases List.mem_cons.1 hh with rfl | hh
        · exact absurd rfl e
        · exact hh
      obtain ⟨r, hr⟩ := take_split hl
      refine ⟨r, ?_⟩
      rw [List.takeWhile_cons, if_pos (by simpa using e), List.cons_append]
      congr 1
/-- Who stands ahead in the thing's row stands ahead in the whole row. -/
theorem ahead_iff {x : Int} {h : Hd} {b : Int} : ∀ {l : List Hd}, (l.Pairwise fun a b => a.w ≠ b.w) → h ∈ l → h.x = x → (aheadL l h.w b x = true ↔ ∃ k ∈ aheadS (queL l x) h, k.w = b)
  | [], _, hh, _ => absurd hh (by simp)
  | k :: l, hp, hh, hx => by
    have hp2 := List.pairwise_cons.1 hp
    unfold aheadL
    by_cases e : k = h
    · subst e
      rw [if_pos rfl]
      have : queL (k :: l) x = k :: queL l x := by simp [queL, hx]
      rw [this]
      simp [aheadS]
    · have hl : h ∈ l := by
        rcases List.mem_cons.1 hh with rfl | hh
        · exact absurd rfl e
        · exact hh
      have hkw : k.w ≠ h.w := hp2.1 h hl
      rw [if_neg hkw]
      have ih := ahead_iff (b := b) hp2.2 hl hx
      by_cases ex : k.x = x
      · have e2 : queL (k :: l) x = k :: queL l x := by simp [queL, ex]
        have e3 : aheadS (k :: queL l x) h = k :: aheadS (queL l x) h := by simp [aheadS, e]
        rw [e2, e3]
        by_cases eb : k.w = b
        · rw [if_pos ⟨eb, ex⟩]
          exact ⟨fun _ => ⟨k, List.mem_cons_self .., eb⟩, fun _ => rfl⟩
        · rw [if_neg (fun q => eb q.1), ih]
          constructor
          · rintro ⟨q, hq, hb⟩
            exact ⟨q, List.mem_cons_of_mem _ hq, hb⟩
          · rintro ⟨q, hq, hb⟩
            rcases List.mem_cons.1 hq with rfl | hq
            · exact absurd hb eb
            · exact ⟨q, hq, hb⟩
      · have e2 : queL (k :: l) x = queL l x := by simp [queL, ex]
        rw [e2, if_neg (fun q => ex q.2)]
        exact ih
theorem mem_bar {l : List Hd} {h : Hd} {b : Int} : b ∈ barL l h ↔ ∃ k ∈ l, k.w = b ∧ b ≠ h.w ∧ fit k.m h.m = false := by
  unfold barL
  rw [List.mem_map]
  constructor
  · rintro ⟨k, hk, rfl⟩
    have := List.mem_filter.1 hk
    unfold bars at this
    simp only [Bool.and_eq_true, decide_eq_true_eq, Bool.not_eq_true'] at this
    exact ⟨k, this.1, rfl, this.2.1, this.2.2⟩
  · rintro ⟨k, hk, rfl, h1, h2⟩
    refine ⟨k, List.mem_filter.2 ⟨hk, ?_⟩, rfl⟩
    unfold bars
    simp [h1, h2]
/-- What 'behind' is, place by place. -/
theorem Rep.beh {t : Tb} {p : Pt} (hr : Rep t p) (ho : t.ok) {h : Hd} (hh : h ∈ t.row) {x : Nat} (hx : x < 288) (hxx : h.x = (x : Int)) (b : Int) :
    t.beh h.w b = true ↔ b ∈ barL (p.had x) h ∨ ∃ k ∈ aheadS (p.row x) h, k.w = b := by
  have hwt : t.wt h.w = some h := wt_of ho.rone hh
  rw [beh_iff]
  have ha := ahead_iff (b := b) ho.rone hh hxx
  rw [hr.row x hx]
  change _ ↔ _ ∨ ∃ k ∈ aheadS (queL t.row x) h, k.w = b
  rw [← ha, mem_bar]
  constructor
  · rintro ⟨q, hq, hne, hc⟩
    rw [hwt] at hq
    injection hq with hq
    subst hq
    rcases hc with ⟨h1, h2⟩ | h1
    · obtain ⟨k, hk, e1, e2, e3⟩ := at_mem h1
      refine .inl ⟨k, (hr.had x hx k).2 ⟨hk, e2.trans hxx⟩, e1, fun e => hne e.symm, ?_⟩
      rw [e3]; exact h2
    · rw [hxx] at h1
      exact .inr h1
  · rintro (⟨k, hk, e1, e2, e3⟩ | h1)
    · have hm := (hr.had x hx k).1 hk
      have hat : t.at b h.x = k.m := by
        have := at_of ho.one hm.1
        rw [← e1, hxx, ← hm.2]
        exact this
      have hk0 : k.m ≠ 0 := fun e => by
        have := (ho.hk k hm.1).2.2
        rw [e] at this
        exact absurd this (by decide)
      exact ⟨h, hwt, fun e => e2 e.symm, .inl ⟨by rw [hat]; exact hk0, by rw [hat]; exact e3⟩⟩
    · refine ⟨h, hwt, fun e => ?_, .inr (by rw [hxx]; exact h1)⟩
      obtain ⟨k, hk, e2⟩ := ha.1 h1
      obtain ⟨r, hrr⟩ := take_split (mem_que.2 ⟨hh, hxx⟩)
      have hpq : (queL t.row x).Pairwise fun a b => a.w ≠ b.w := ho.rone.filter _
      rw [hrr] at hpq
      exact (List.pairwise_append.1 hpq).2.2 k hk h (List.mem_cons_self ..) (e2.trans e.symm)
theorem lastW_mem {l : List Hd} {b : Int} (h : b ∈ lastW l) : ∃ k ∈ l, k.w = b := by
  unfold lastW at h
  cases e : l.getLast? with
  | none => rw [e] at h; exact absurd h (by simp)
  | some k =>
    rw [e] at h
    exact ⟨k, List.mem_of_getLast? e, (List.mem_singleton.1 h).symm⟩
theorem thing_nat {h : Hd} (hx : thingOk h.x = true) : h.x.toNat < 288 ∧ h.x = (h.x.toNat : Int) := by
  unfold thingOk at hx
  rw [Bool.and_eq_true, decide_eq_true_iff, decide_eq_true_iff] at hx
  omega
theorem step_beh {t : Tb} {p : Pt} (hr : Rep t p) (ho : t.ok) {a b : Int} (h : stepS t p a b) : t.edge a b := by
  obtain ⟨k, hk, hb⟩ := h
  obtain ⟨hm, rfl⟩ := wt_some hk
  obtain ⟨h1, h2⟩ := thing_nat (ho.rk k hm).2.1
  refine (hr.beh ho hm h1 h2 b).2 ?_
  rcases List.mem_append.1 hb with hb | hb
  · exact .inl hb
  · exact .inr (lastW_mem hb)
/-- Along the row. -/
theorem row_reach {t : Tb} {p : Pt} (hr : Rep t p) (ho : t.ok) {x : Nat} (hx : x < 288) : ∀ (n : Nat) {h k : Hd} (A r : List Hd), A.length = n → p.row x = A ++ h :: r → k ∈ A → Relation.TransGen (stepS t p) h.w k.w
  | n, h, k, A, r, hn, e, hk => by
    have hq := hr.row x hx
    have hh : h ∈ queL t.row x := by
      have : queL t.row x = p.row x := hq.symm
      rw [this, e]
      exact List.mem_append_right _ (List.mem_cons_self ..)
    have hm := mem_que.1 hh
    have hpq : (p.row x).Pairwise fun a b => a.w ≠ b.w := by rw [hq]; exact ho.rone.filter _
    have hA : aheadS (p.row x) h = A := by
      rw [e]
      unfold aheadS
      rw [e] at hpq
      have h3 := (List.pairwise_append.1 hpq).2.2
      rw [List.takeWhile_append_of_pos (fun q hq => by
        have := h3 q hq h (List.mem_cons_self ..)
        have hne : q ≠ h := fun e => this (by rw [e])
        simpa using hne)]
      simp
    obtain ⟨B, c, rfl⟩ : ∃ B c, A = B ++ [c] := by
      rcases List.eq_nil_or_concat A with rfl | ⟨B, c, h⟩
      · exact absurd hk (by simp)
      · exact ⟨B, c, by simpa using h⟩
    have hs : stepS t p h.w c.w := by
      refine ⟨h, wt_of ho.rone hm.1, List.mem_append_right _ ?_⟩
      rw [show h.x.toNat = x by have := hm.2; omega, hA]
      simp [lastW]
    by_cases ekc : k = c
    · subst ekc
      exact .single hs
    · have hkB : k ∈ B := by
        rcases List.mem_append.1 hk with hk | hk
        · exact hk
        · exact absurd (List.mem_singleton.1 hk) ekc
      exact (Relation.TransGen.single hs).trans (row_reach hr ho hx (n - 1) B (h :: r) (by simp at hn; omega) (by rw [e]; simp) hkB)
  termination_by n => n
  decreasing_by
    simp at hn
    omega
theorem beh_step {t : Tb} {p : Pt} (hr : Rep t p) (ho : t.ok) {a b : Int} (h : t.beh a b = true) : Relation.TransGen (stepS t p) a b := by
  obtain ⟨k, hk, _⟩ := (beh_iff t a b).1 h
  obtain ⟨hm, rfl⟩ := wt_some hk
  obtain ⟨h1, h2⟩ := thing_nat (ho.rk k hm).2.1
  rcases (hr.beh ho hm h1 h2 b).1 h with hb | ⟨q, hq, rfl⟩
  · exact .single ⟨k, hk, List.mem_append_left _ hb⟩
  · have hq2 := hr.row _ h1
    obtain ⟨r, hrr⟩ := take_split (l := p.row k.x.toNat) (h := k) (by rw [hq2]; exact mem_que.2 ⟨hm, h2⟩)
    exact row_reach hr ho h1 _ _ r rfl hrr hq
theorem reach_iff {t : Tb} {p : Pt} (hr : Rep t p) (ho : t.ok) (a b : Int) : Relation.TransGen (stepS t p) a b ↔ t.far a b := by
  constructor
  · intro h
    induction h with
    | single h => exact .single (step_beh hr ho h)
    | tail _ h ih => exact .tail ih (step_beh hr ho h)
  · intro h
    induction h with
    | single h => exact beh_step hr ho h
    | tail _ h ih => exact ih.trans (beh_step hr ho h)

/-! ### The search -/
/-- What a search has come to: those still to be gone on from, and what the others wait for. -/
def dropM (M : Int → Option Hd) (a : Int) : Int → Option Hd := fun b => if b = a then none else M b
/-- One row of numbers gone through: none: the ring is found. -/
def goS (f : Int) : List Int → List Hd → (Int → Option Hd) → Option (List Hd × (Int → Option Hd))
  | [], T, M => some (T, M)
  | a :: l, T, M => if a = f then none else match M a with
    | none => goS f l T M
    | some h => goS f l (T ++ [h]) (dropM M a)
structure Srch (t : Tb) (p : Pt) (f : Int) (T : List Hd) (M : Int → Option Hd) : Prop where
  todo : ∀ h ∈ T, t.wt h.w = some h ∧ (h.w = f ∨ Relation.TransGen (stepS t p) f h.w)
  left : ∀ a h, M a = some h → t.wt a = some h
  done : ∀ a h, t.wt a = some h → (a = f ∨ M a = none) → h ∈ T ∨ ∀ b ∈ nextS p h, b ≠ f ∧ (t.wt b = none ∨ M b = none)
/-- .. in the middle of one's row: those of it that are still to come. -/
structure SrchIn (t : Tb) (p : Pt) (f : Int) (q : Hd) (l : List Int) (T : List Hd) (M : Int → Option Hd) : Prop where
  todo : ∀ h ∈ T, t.wt h.w = some h ∧ (h.w = f ∨ Relation.TransGen (stepS t p) f h.w)
  left : ∀ a h, M a = some h → t.wt a = some h
  this : t.wt q.w = some q ∧ (q.w = f ∨ Relation.TransGen (stepS t p) f q.w)
  comes : ∀ b ∈ l, b ∈ nextS p q
  been : ∀ b ∈ nextS p q, b ∈ l ∨ (b ≠ f ∧ (t.wt b = none ∨ M b = none))
  done : ∀ a h, t.wt a = some h → (a = f ∨ M a = none) → h = q ∨ h ∈ T ∨ ∀ b ∈ nextS p h, b ≠ f ∧ (t.wt b = none ∨ M b = none)
theorem Srch.start {t : Tb} {p : Pt} {h : Hd} (hh : t.wt h.w = some h) {M : Int → Option Hd} (hM : ∀ a, M a = t.wt a) : Srch t p h.w [h] M :=
  ⟨fun k hk => by rw [List.mem_singleton.1 hk]; exact ⟨hh, .inl rfl⟩, fun a k e => (hM a).symm.trans e, fun a k e h2 => .inl (by
    rcases h2 with rfl | h2
    · rw [hh] at e
      injection e with e
      rw [e]; exact List.mem_singleton.2 rfl
    · rw [hM, e] at h2
      cases h2)⟩
theorem Srch.pop {t : Tb} {p : Pt} {f : Int} {T : List Hd} {q : Hd} {M : Int → Option Hd} (h : Srch t p f (T ++ [q]) M) : SrchIn t p f q (nextS p q) T M :=
  ⟨fun k hk => h.todo k (List.mem_append_left _ hk), h.left, h.todo q (List.mem_append_right _ (List.mem_singleton.2 rfl)), fun b hb => hb, fun b hb => .inl hb, fun a k e h2 => by
    rcases h.done a k e h2 with h3 | h3
    · rcases List.mem_append.1 h3 with h3 | h3
      · exact .inr (.inl h3)
      · exact .inl (List.mem_singleton.1 h3)
    · exact .inr (.inr h3)⟩
theorem SrchIn.found {t : Tb} {p : Pt} {f : Int} {T : List Hd} {q : Hd} {l : List Int} {M : Int → Option Hd} (h : SrchIn t p f q (f :: l) T M) : Relation.TransGen (stepS t p) f f := by
  have hs : stepS t p q.w f := ⟨q, h.this.1, h.comes f (List.mem_cons_self ..)⟩
  rcases h.this.2 with e | e
  · rw [e] at hs
    exact .single hs
  · exact e.tail hs
theorem SrchIn.pass {t : Tb} {p : Pt} {f : Int} {T : List Hd} {q : Hd} {l : List Int} {a : Int} {M : Int → Option Hd} (h : SrchIn t p f q (a :: l) T M) (ha : a ≠ f) (hM : M a = none) : SrchIn t p f q l T M :=
  ⟨h.todo, h.left, h.this, fun b hb => h.comes b (List.mem_cons_of_mem _ hb), fun b hb => by
    rcases h.been b hb with h1 | h1
    · rcases List.mem_cons.1 h1 with rfl | h1
      · exact .inr ⟨ha, .inr hM⟩
      · exact .inl h1
    · exact .inr h1, h.done⟩
theorem SrchIn.more {t : Tb} {p : Pt} {f : Int} {T : List Hd} {q : Hd} {l : List Int} {a : Int} {k : Hd} {M : Int → Option Hd} (h : SrchIn t p f q (a :: l) T M) (ha : a ≠ f) (hM : M a = some k) : SrchIn t p f q l (T ++ [k]) (dropM M a) := by
  have hk := h.left a k hM
  obtain ⟨_, rfl⟩ := wt_some hk
  have hs : stepS t p q.w k.w := ⟨q, h.this.1, h.comes _ (List.mem_cons_self ..)⟩
  have hdrop : ∀ b, M b = none → dropM M k.w b = none := fun b hb => by
    unfold dropM
    split
    · rfl
    · exact hb
  have hold : ∀ {r : Hd}, (∀ b ∈ nextS p r, b ≠ f ∧ (t.wt b = none ∨ M b = none)) → ∀ b ∈ nextS p r, b ≠ f ∧ (t.wt b = none ∨ dropM M k.w b = none) := fun h2 b hb => ⟨(h2 b hb).1, (h2 b hb).2.imp id (hdrop b)⟩
  refine ⟨fun r hr => ?_, fun b r e => ?_, h.this, fun b hb => h.comes b (List.mem_cons_of_mem _ hb), fun b hb => ?_, fun b r e h2 => ?_⟩
  · rcases List.mem_append.1 hr with hr | hr
    · exact h.todo r hr
    · rw [List.mem_singleton.1 hr]
      refine ⟨hk, .inr ?_⟩
      rcases h.this.2 with e | e
      · rw [e] at hs
        exact .single hs
      · exact e.tail hs
  · unfold dropM at e
    split at e
    · cases e
    · exact h.left b r e
  · rcases h.been b hb with h1 | h1
    · rcases List.mem_cons.1 h1 with rfl | h1
      · exact .inr ⟨ha, .inr (by unfold dropM; rw [if_pos rfl])⟩
      · exact .inl h1
    · exact .inr ⟨h1.1, h1.2.imp id (hdrop b)⟩
  · by_cases eb : b = k.w
    · subst eb
      rw [hk] at e
      injection e with e
      subst e
      exact .inr (.inl (List.mem_append_right _ (List.mem_singleton.2 rfl)))
    · have h3 : b = f ∨ M b = none := h2.imp id (fun h4 => by unfold dropM at h4; rwa [if_neg eb] at h4)
      rcases h.done b r e h3 with h4 | h4 | h4
      · exact .inl h4
      · exact .inr (.inl (List.mem_append_left _ h4))
      · exact .inr (.inr (hold h4))
theorem SrchIn.out {t : Tb} {p : Pt} {f : Int} {T : List Hd} {q : Hd} {M : Int → Option Hd} (h : SrchIn t p f q [] T M) : Srch t p f T M :=
  ⟨h.todo, h.left, fun a k e h2 => by
    rcases h.done a k e h2 with rfl | h3 | h3
    · refine .inr (fun b hb => ?_)
      rcases h.been b hb with h4 | h4
      · exact absurd h4 (by simp)
      · exact h4
    · exact .inl h3
    · exact .inr h3⟩
theorem Srch.none {t : Tb} {p : Pt} {f : Int} {M : Int → Option Hd} (h : Srch t p f [] M) : ¬ Relation.TransGen (stepS t p) f f := by
  have key : ∀ b, Relation.TransGen (stepS t p) f b → b ≠ f ∧ (t.wt b = Option.none ∨ M b = Option.none) := by
    intro b hb
    have one : ∀ a c, (a = f ∨ M a = Option.none) → stepS t p a c → c ≠ f ∧ (t.wt c = Option.none ∨ M c = Option.none) := by
      rintro a c ha ⟨k, hk, hc⟩
      rcases h.done a k hk ha with h1 | h1
      · exact absurd h1 (by simp)
      · exact h1 c hc
    induction hb with
    | single hs => exact one f _ (.inl rfl) hs
    | @tail c d _ hs ih =>
      rcases ih.2 with h1 | h1
      · obtain ⟨k, hk, _⟩ := hs
        rw [h1] at hk
        cases hk
      · exact one c d (.inr h1) hs
  exact fun hf => (key f hf).1 rfl
end Go.Proofs.Ytmlbghloddiflaa
