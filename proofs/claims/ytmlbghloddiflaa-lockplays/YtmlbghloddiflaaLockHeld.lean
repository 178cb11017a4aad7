/-
  All locks that are had, by things, then by owners, of no program: they are those of the table, each once; what a request makes of them.
-/
import Derived.Test.YtmlbghloddiflaaLockRing
namespace Go.Proofs.Ytmlbghloddiflaa

/-! ### Lists of locks in order -/
def hdLt (a b : Hd) : Prop := a.x < b.x ∨ (a.x = b.x ∧ a.w < b.w)
def OrdL (l : List Hd) : Prop := l.Pairwise hdLt
theorem ord_same : ∀ {l m : List Hd}, OrdL l → OrdL m → (∀ a, a ∈ l ↔ a ∈ m) → l = m
  | [], [], _, _, _ => rfl
  | [], b :: m, _, _, h => absurd ((h b).2 (List.mem_cons_self ..)) (by simp)
  | a :: l, [], _, _, h => absurd ((h a).1 (List.mem_cons_self ..)) (by simp)
  | a :: l, b :: m, h1, h2, h => by
    have p1 := List.pairwise_cons.1 h1
    have p2 := List.pairwise_cons.1 h2
    have e : a = b := by
      rcases List.mem_cons.1 ((h a).1 (List.mem_cons_self ..)) with e | e
      · exact e
      · rcases List.mem_cons.1 ((h b).2 (List.mem_cons_self ..)) with e2 | e2
        · exact e2.symm
        · have q1 := p1.1 b e2
          have q2 := p2.1 a e
          unfold hdLt at q1 q2
          omega
    subst e
    congr 1
    refine ord_same p1.2 p2.2 (fun c => ?_)
    constructor
    · intro hc
      rcases List.mem_cons.1 ((h c).1 (List.mem_cons_of_mem _ hc)) with e | e
      · subst e
        have := p1.1 c hc
        unfold hdLt at this
        omega
      · exact e
    · intro hc
      rcases List.mem_cons.1 ((h c).2 (List.mem_cons_of_mem _ hc)) with e | e
      · subst e
        have := p2.1 c hc
        unfold hdLt at this
        omega
      · exact e
theorem one_len : ∀ {l m : List Hd}, (l.Pairwise fun a b => a ≠ b) → (∀ a ∈ l, a ∈ m) → l.length ≤ m.length
  | [], m, _, _ => Nat.zero_le _
  | a :: l, m, h, hm => by
    have hp := List.pairwise_cons.1 h
    have ha := hm a (List.mem_cons_self ..)
    have h1 : l.length ≤ (m.erase a).length := one_len hp.2 (fun b hb => (List.mem_erase_of_ne (fun e => hp.1 b hb e.symm)).2 (hm b (List.mem_cons_of_mem _ hb)))
    have h2 : (m.erase a).length = m.length - 1 := List.length_erase_of_mem ha
    have h3 : 0 < m.length := List.length_pos_of_mem ha
    rw [List.length_cons]
    omega

/-! ### All locks -/
def Tb.rowAt (t : Tb) (x : Int) : List Int → List Hd
  | [] => []
  | w :: l => if t.at w x ≠ 0 then ⟨w, x, t.at w x⟩ :: t.rowAt x l else t.rowAt x l
def Tb.heldFrom (t : Tb) : Nat → Int → List Hd
  | 0, _ => []
  | n + 1, x => t.rowAt x t.owners ++ t.heldFrom n (x + 1)
def Tb.held (t : Tb) : List Hd := t.heldFrom 288 0
theorem mem_rowAt {t : Tb} {x : Int} {h : Hd} : ∀ {l : List Int}, h ∈ t.rowAt x l ↔ h.w ∈ l ∧ h.x = x ∧ t.at h.w x ≠ 0 ∧ h.m = t.at h.w x
  | [] => by simp [Tb.rowAt]
  | w :: l => by
    unfold Tb.rowAt
    by_cases hw : t.at w x ≠ 0
    · rw [if_pos hw, List.mem_cons, mem_rowAt, List.mem_cons]
      constructor
      · rintro (h1 | h1)
        · subst h1
          exact ⟨.inl rfl, rfl, hw, rfl⟩
        · exact ⟨.inr h1.1, h1.2⟩
      · rintro ⟨h1 | h1, h2, h3, h4⟩
        · refine .inl ?_
          cases h
          simp only at h1 h2 h4
          subst h1 h2
          rw [h4]
        · exact .inr ⟨h1, h2, h3, h4⟩
    · rw [if_neg hw, mem_rowAt, List.mem_cons]
      constructor
      · rintro ⟨h1, h2⟩
        exact ⟨.inr h1, h2⟩
      · rintro ⟨h1 | h1, h2, h3, h4⟩
        · rw [h1] at h3
          exact absurd h3 hw
        · exact ⟨h1, h2, h3, h4⟩
theorem ord_rowAt {t : Tb} {x : Int} : ∀ {l : List Int}, Rises l → OrdL (t.rowAt x l)
  | [], _ => List.Pairwise.nil
  | w :: l, h => by
    have hp := List.pairwise_cons.1 h
    unfold Tb.rowAt
    by_cases hw : t.at w x ≠ 0
    · rw [if_pos hw]
      refine List.pairwise_cons.2 ⟨fun b hb => ?_, ord_rowAt hp.2⟩
      have hm := mem_rowAt.1 hb
      exact .inr ⟨hm.2.1.symm, hp.1 _ hm.1⟩
    · rw [if_neg hw]
      exact ord_rowAt hp.2
theorem mem_heldFrom {t : Tb} {h : Hd} : ∀ {n : Nat} {x : Int}, h ∈ t.heldFrom n x ↔ h.w ∈ t.owners ∧ (x ≤ h.x ∧ h.x < x + n) ∧ t.at h.w h.x ≠ 0 ∧ h.m = t.at h.w h.x
  | 0, x => by
    unfold Tb.heldFrom
    constructor
    · exact fun h => absurd h (by simp)
    · rintro ⟨_, h, _⟩
      omega
  | n + 1, x => by
    unfold Tb.heldFrom
    rw [List.mem_append, mem_rowAt, mem_heldFrom]
    constructor
    · rintro (⟨h1, h2, h3, h4⟩ | ⟨h1, h2, h3⟩)
      · subst h2
        exact ⟨h1, by omega, h3, h4⟩
      · exact ⟨h1, by omega, h3⟩
    · rintro ⟨h1, h2, h3, h4⟩
      by_cases e : h.x = x
      · subst e
        exact .inl ⟨h1, rfl, h3, h4⟩
      · exact .inr ⟨h1, by omega, h3, h4⟩
theorem ord_heldFrom (t : Tb) : ∀ (n : Nat) (x : Int), OrdL (t.heldFrom n x)
  | 0, _ => List.Pairwise.nil
  | n + 1, x => by
    unfold Tb.heldFrom
    refine List.pairwise_append.2 ⟨ord_rowAt (rises_owners t), ord_heldFrom t n (x + 1), fun a ha b hb => ?_⟩
    have h1 := (mem_rowAt.1 ha).2.1
    have h2 := (mem_heldFrom.1 hb).2.1
    exact .inl (by omega)
theorem ord_held (t : Tb) : OrdL t.held := ord_heldFrom t _ _
theorem Tb.ok.mem_held {t : Tb} (ho : t.ok) {h : Hd} : h ∈ t.held ↔ h ∈ t.has := by
  unfold Tb.held
  rw [mem_heldFrom]
  constructor
  · rintro ⟨_, _, h3, h4⟩
    obtain ⟨k, k1, k2, k3, k4⟩ := at_mem h3
    have e : k = h := by
      cases h
      cases k
      simp only at k2 k3 k4 h4
      subst k2 k3
      rw [k4, h4]
      rfl
    rw [← e]
    exact k1
  · intro hm
    have e : t.at h.w h.x = h.m := at_of ho.one hm
    have hk := ho.hk h hm
    refine ⟨mem_owners.2 (.inl ⟨h, hm, rfl⟩), ?_, ?_, e.symm⟩
    · have := hk.2.1
      unfold thingOk at this
      rw [Bool.and_eq_true, decide_eq_true_iff, decide_eq_true_iff] at this
      omega
    · rw [e]
      intro e0
      have := hk.2.2
      rw [e0] at this
      exact absurd this (by decide)
theorem Tb.ok.held_same {t t' : Tb} (ho : t.ok) (ho' : t'.ok) (h : ∀ k, k ∈ t.has ↔ k ∈ t'.has) : t.held = t'.held :=
  ord_same (ord_held t) (ord_held t') (fun a => by rw [ho.mem_held, ho'.mem_held, h])
theorem Tb.ok.held_len {t : Tb} (ho : t.ok) : t.held.length = t.has.length := by
  refine Nat.le_antisymm (one_len ((ord_held t).imp (fun {a b} h e => ?_)) (fun a ha => ho.mem_held.1 ha)) (one_len (ho.one.imp (fun {a b} h e => h (by rw [e]; exact ⟨rfl, rfl⟩))) (fun a ha => ho.mem_held.2 ha))
  subst e
  unfold hdLt at h
  omega
/-- All locks on one thing fit together, and each owner has one on it. -/
theorem Tb.ok.held_fits {t : Tb} (ho : t.ok) {a b : Hd} (ha : a ∈ t.held) (hb : b ∈ t.held) (hx : a.x = b.x) (hw : a.w ≠ b.w) : fit a.m b.m = true :=
  ho.fits a (ho.mem_held.1 ha) b (ho.mem_held.1 hb) hx hw
theorem Tb.ok.held_at {t : Tb} (ho : t.ok) {a : Hd} (ha : a ∈ t.held) : t.at a.w a.x = a.m ∧ rgt a.m = true :=
  ⟨at_of ho.one (ho.mem_held.1 ha), (ho.hk a (ho.mem_held.1 ha)).2.2⟩
theorem give_len (h : Hd) : ∀ l : List Hd, l.length ≤ (giveL l h).length ∧ (giveL l h).length ≤ l.length + 1
  | [] => by simp [giveL]
  | k :: l => by
    unfold giveL
    have := give_len h l
    by_cases hk : k.w = h.w ∧ k.x = h.x
    · rw [if_pos hk]
      simp
    · rw [if_neg hk, List.length_cons, List.length_cons]
      omega
/-- A request that isn't granted changes no lock; one that is, its own alone; and a lock once had is never less. -/
theorem Tb.good.stays {t : Tb} (h : t.good) (w x m : Int) :
    ((t.request w x m).2 ≠ 0 → (t.request w x m).1.held = t.held) ∧
    ((t.request w x m).2 = 0 → (∀ k ∈ t.held, (k.w ≠ w ∨ k.x ≠ x) → (t.request w x m).1.at k.w k.x = k.m) ∧ cov ((t.request w x m).1.at w x) m = true ∧ (t.at w x = 0 ∨ cov ((t.request w x m).1.at w x) (t.at w x) = true)
      ∧ t.held.length ≤ (t.request w x m).1.held.length ∧ (t.request w x m).1.held.length ≤ t.held.length + 1) := by
  have hg := h.request w x m
  rcases req_has (t := t) (w := w) (x := x) (m := m) (d := (t.queue (t.asks w x m)).ring w) with ⟨h1, h2⟩ | ⟨h1, h2, h3⟩
  · have e1 : (t.request w x m).1.has = t.has := h1
    have e : (t.request w x m).1.held = t.held := hg.ok.held_same h.ok (fun k => by rw [e1])
    have ea : ∀ a b, (t.request w x m).1.at a b = t.at a b := fun a b => by
      unfold Tb.at
      rw [e1]
    refine ⟨fun _ => e, fun e0 => ⟨fun k hk _ => ?_, ?_, .inr ?_, ?_, ?_⟩⟩
    · rw [ea]
      exact (h.ok.held_at hk).1
    · rw [ea]
      exact (h2 e0).2
    · rw [ea]
      have := at_rgt h.ok (h2 e0).1
      unfold cov
      rw [this]
      simp
    · rw [e]
      exact Nat.le_refl _
    · rw [e]
      omega
  · have e1 : (t.request w x m).1 = t.give (t.asks w x m) := h1
    have e2 : (t.request w x m).2 = 0 := h2
    have ea : ∀ a b, (t.request w x m).1.at a b = if w = a ∧ x = b then t.want w x m else t.at a b := fun a b => by
      rw [e1]
      exact at_give t.has (t.asks w x m) a b
    refine ⟨fun h => absurd e2 h, fun _ => ⟨fun k hk hne => ?_, ?_, ?_, ?_⟩⟩
    · rw [ea, if_neg (fun e => by rcases hne with hne | hne; exact hne e.1.symm; exact hne e.2.symm)]
      exact (h.ok.held_at hk).1
    · rw [ea, if_pos ⟨rfl, rfl⟩]
      exact (want_cov h.ok h3).1
    · by_cases h0 : t.at w x = 0
      · exact .inl h0
      · rw [ea, if_pos ⟨rfl, rfl⟩]
        exact .inr ((want_cov h.ok h3).2 h0)
    · rw [hg.ok.held_len, h.ok.held_len, e1]
      exact give_len _ _
end Go.Proofs.Ytmlbghloddiflaa
