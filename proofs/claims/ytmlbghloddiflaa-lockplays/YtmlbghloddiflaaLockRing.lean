/-
  The search for a ring, of no program: from one on, all whom one has to go behind, by however many, each once; and all owners, rising, each once.
-/
import Derived.Test.YtmlbghloddiflaaLockReq
namespace Go.Proofs.Ytmlbghloddiflaa

/-! ### Lists without doubles -/
def Once (l : List Int) : Prop := l.Pairwise fun a b => a ≠ b
theorem once_le : ∀ {l m : List Int}, Once l → (∀ a ∈ l, a ∈ m) → l.length ≤ m.length
  | [], m, _, _ => Nat.zero_le _
  | a :: l, m, h, hm => by
    have hp := List.pairwise_cons.1 h
    have ha := hm a (List.mem_cons_self ..)
    have h1 : l.length ≤ (m.erase a).length := once_le hp.2 (fun b hb => (List.mem_erase_of_ne (fun e => hp.1 b hb e.symm)).2 (hm b (List.mem_cons_of_mem _ hb)))
    have h2 : (m.erase a).length = m.length - 1 := List.length_erase_of_mem ha
    have h3 : 0 < m.length := List.length_pos_of_mem ha
    rw [List.length_cons]
    omega
def unionL (s : List Int) : List Int → List Int
  | [] => s
  | b :: l => unionL (if b ∈ s then s else s ++ [b]) l
theorem mem_union {b : Int} : ∀ {l s : List Int}, b ∈ unionL s l ↔ b ∈ s ∨ b ∈ l
  | [], s => by simp [unionL]
  | a :: l, s => by
    unfold unionL
    rw [mem_union]
    by_cases ha : a ∈ s
    · rw [if_pos ha, List.mem_cons]
      constructor
      · rintro (h | h)
        · exact .inl h
        · exact .inr (.inr h)
      · rintro (h | rfl | h)
        · exact .inl h
        · exact .inl ha
        · exact .inr h
    · rw [if_neg ha, List.mem_append, List.mem_singleton, List.mem_cons]
      constructor
      · rintro ((h | h) | h)
        · exact .inl h
        · exact .inr (.inl h)
        · exact .inr (.inr h)
      · rintro (h | h | h)
        · exact .inl (.inl h)
        · exact .inl (.inr h)
        · exact .inr h
theorem once_union : ∀ {l s : List Int}, Once s → Once (unionL s l)
  | [], _, h => h
  | a :: l, s, h => by
    unfold unionL
    apply once_union
    by_cases ha : a ∈ s
    · rw [if_pos ha]
      exact h
    · rw [if_neg ha]
      refine List.pairwise_append.2 ⟨h, List.pairwise_singleton _ _, fun x hx y hy e => ?_⟩
      rw [List.mem_singleton] at hy
      subst hy
      subst e
      exact ha hx
/-- What was there stays where it was. -/
theorem union_pre : ∀ (l s : List Int), ∃ r, unionL s l = s ++ r
  | [], s => ⟨[], by simp [unionL]⟩
  | a :: l, s => by
    unfold unionL
    by_cases ha : a ∈ s
    · rw [if_pos ha]
      exact union_pre l s
    · rw [if_neg ha]
      obtain ⟨r, e⟩ := union_pre l (s ++ [a])
      exact ⟨a :: r, by rw [e, List.append_assoc]; rfl⟩

/-! ### The search -/
def ringL (nb : Int → List Int) (w : Int) : Nat → List Int → Nat → Bool
  | 0, _, _ => false
  | n + 1, seen, k => if k < seen.length then (if w ∈ nb (seen.getD k 0) then true else ringL nb w n (unionL seen (nb (seen.getD k 0))) (k + 1)) else false
def Reach (nb : Int → List Int) (a b : Int) : Prop := Relation.TransGen (fun a b => b ∈ nb a) a b
theorem ring_true {nb : Int → List Int} {w : Int} : ∀ (n : Nat) (seen : List Int) (k : Nat), (∀ s ∈ seen, Reach nb w s) → ringL nb w n seen k = true → Reach nb w w
  | 0, _, _, _, h => absurd h (by simp [ringL])
  | n + 1, seen, k, hs, h => by
    unfold ringL at h
    by_cases hk : k < seen.length
    · rw [if_pos hk] at h
      have hm : seen.getD k 0 ∈ seen := by
        rw [List.getD_eq_getElem?_getD, List.getElem?_eq_getElem hk]
        exact List.getElem_mem hk
      by_cases hw : w ∈ nb (seen.getD k 0)
      · exact .tail (hs _ hm) hw
      · rw [if_neg hw] at h
        refine ring_true n _ _ (fun s hss => ?_) h
        rcases mem_union.1 hss with h1 | h1
        · exact hs s h1
        · exact .tail (hs _ hm) h1
    · rw [if_neg hk] at h
      cases h
theorem ring_false {nb : Int → List Int} {w : Int} {own : List Int} (ho : ∀ a, ∀ b ∈ nb a, b ∈ own) : ∀ (n : Nat) (seen : List Int) (k : Nat), own.length ≤ n + k → Once seen → (∀ s ∈ seen, s ∈ own) → k ≤ seen.length → (∀ i, i < k → ∀ b ∈ nb (seen.getD i 0), b ∈ seen ∧ b ≠ w) → ringL nb w n seen k = false →
      ∃ all : List Int, (∀ s ∈ seen, s ∈ all) ∧ ∀ s ∈ all, ∀ b ∈ nb s, b ∈ all ∧ b ≠ w
  | 0, seen, k, hn, hs, hm, hk, hc, _ => by
    have h1 := once_le hs hm
    have e : k = seen.length := by omega
    refine ⟨seen, fun s h => h, fun s hss b hb => ?_⟩
    obtain ⟨i, hi, e2⟩ := List.getElem_of_mem hss
    have e3 : seen.getD i 0 = s := by
      rw [List.getD_eq_getElem?_getD, List.getElem?_eq_getElem hi]
      exact e2
    exact hc i (by omega) b (by rw [e3]; exact hb)
  | n + 1, seen, k, hn, hs, hm, hk, hc, h => by
    unfold ringL at h
    by_cases hkl : k < seen.length
    · rw [if_pos hkl] at h
      by_cases hw : w ∈ nb (seen.getD k 0)
      · rw [if_pos hw] at h
        cases h
      · rw [if_neg hw] at h
        obtain ⟨r, er⟩ := union_pre (nb (seen.getD k 0)) seen
        have hlen : seen.length ≤ (unionL seen (nb (seen.getD k 0))).length := by
          rw [er, List.length_append]
          omega
        have hget : ∀ i, i < seen.length → (unionL seen (nb (seen.getD k 0))).getD i 0 = seen.getD i 0 := fun i hi => by
          rw [er, List.getD_eq_getElem?_getD, List.getD_eq_getElem?_getD, List.getElem?_append_left hi]
        obtain ⟨all, a1, a2⟩ := ring_false ho n (unionL seen (nb (seen.getD k 0))) (k + 1) (by omega) (once_union hs) (fun s hss => by
          rcases mem_union.1 hss with h1 | h1
          · exact hm s h1
          · exact ho _ s h1) (by omega) (fun i hi b hb => by
          rw [hget i (by omega)] at hb
          by_cases hik : i < k
          · exact ⟨mem_union.2 (.inl (hc i hik b hb).1), (hc i hik b hb).2⟩
          · have e : i = k := by omega
            subst e
            exact ⟨mem_union.2 (.inr hb), fun e => hw (by rw [← e]; exact hb)⟩) h
        exact ⟨all, fun s hss => a1 s (mem_union.2 (.inl hss)), a2⟩
    · have e : k = seen.length := by omega
      refine ⟨seen, fun s h => h, fun s hss b hb => ?_⟩
      obtain ⟨i, hi, e2⟩ := List.getElem_of_mem hss
      have e3 : seen.getD i 0 = s := by
        rw [List.getD_eq_getElem?_getD, List.getElem?_eq_getElem hi]
        exact e2
      exact hc i (by omega) b (by rw [e3]; exact hb)
theorem ring_iff {nb : Int → List Int} {own : List Int} (ho : ∀ a, ∀ b ∈ nb a, b ∈ own) (h1 : ∀ a, Once (nb a)) (hself : ∀ a, a ∉ nb a) (w : Int) (n : Nat) (hn : own.length ≤ n) : ringL nb w n (nb w) 0 = true ↔ Reach nb w w := by
  constructor
  · exact ring_true n _ _ (fun s hs => .single hs)
  · intro hr
    cases hb : ringL nb w n (nb w) 0 with
    | true => rfl
    | false =>
      exfalso
      obtain ⟨all, a1, a2⟩ := ring_false ho n (nb w) 0 (by omega) (h1 w) (ho w) (Nat.zero_le _) (fun i hi => by omega) hb
      have key : ∀ {b : Int}, Reach nb w b → b ∈ all ∧ b ≠ w := fun hf => by
        induction hf with
        | single e => exact ⟨a1 _ e, fun e2 => hself w (by rw [e2] at e; exact e)⟩
        | tail _ e ih => exact a2 _ ih.1 _ e
      exact (key hr).2 rfl

/-! ### All owners, rising -/
def Rises (l : List Int) : Prop := l.Pairwise fun a b => a < b
def intoL (l : List Int) (n : Int) : List Int :=
  match l with
  | [] => [n]
  | a :: l => if a < n then a :: intoL l n else if a = n then a :: l else n :: a :: l
theorem mem_into {b n : Int} : ∀ {l : List Int}, b ∈ intoL l n ↔ b ∈ l ∨ b = n
  | [] => by simp [intoL]
  | a :: l => by
    unfold intoL
    by_cases h : a < n
    · rw [if_pos h, List.mem_cons, mem_into, List.mem_cons]
      constructor
      · rintro (h | h | h)
        · exact .inl (.inl h)
        · exact .inl (.inr h)
        · exact .inr h
      · rintro ((h | h) | h)
        · exact .inl h
        · exact .inr (.inl h)
        · exact .inr (.inr h)
    · rw [if_neg h]
      by_cases e : a = n
      · rw [if_pos e]
        constructor
        · exact .inl
        · rintro (h | h)
          · exact h
          · rw [h, ← e]
            exact List.mem_cons_self ..
      · rw [if_neg e, List.mem_cons]
        constructor
        · rintro (h | h)
          · exact .inr h
          · exact .inl h
        · rintro (h | h)
          · exact .inr h
          · exact .inl h
theorem rises_into {n : Int} : ∀ {l : List Int}, Rises l → Rises (intoL l n)
  | [], _ => List.pairwise_singleton _ _
  | a :: l, h => by
    have hp := List.pairwise_cons.1 h
    unfold intoL
    by_cases h1 : a < n
    · rw [if_pos h1]
      refine List.pairwise_cons.2 ⟨fun b hb => ?_, rises_into hp.2⟩
      rcases mem_into.1 hb with hb | rfl
      · exact hp.1 b hb
      · exact h1
    · rw [if_neg h1]
      by_cases e : a = n
      · rw [if_pos e]
        exact h
      · rw [if_neg e]
        refine List.pairwise_cons.2 ⟨fun b hb => ?_, h⟩
        rcases List.mem_cons.1 hb with rfl | hb
        · omega
        · have := hp.1 b hb
          omega
def ownL (l : List Hd) (s : List Int) : List Int :=
  match l with
  | [] => s
  | h :: l => ownL l (intoL s h.w)
theorem mem_own {b : Int} : ∀ {l : List Hd} {s : List Int}, b ∈ ownL l s ↔ b ∈ s ∨ ∃ h ∈ l, h.w = b
  | [], s => by simp [ownL]
  | k :: l, s => by
    unfold ownL
    rw [mem_own, mem_into]
    constructor
    · rintro ((h | h) | ⟨q, q1, q2⟩)
      · exact .inl h
      · exact .inr ⟨k, List.mem_cons_self .., h.symm⟩
      · exact .inr ⟨q, List.mem_cons_of_mem _ q1, q2⟩
    · rintro (h | ⟨q, q1, q2⟩)
      · exact .inl (.inl h)
      · rcases List.mem_cons.1 q1 with rfl | q1
        · exact .inl (.inr q2.symm)
        · exact .inr ⟨q, q1, q2⟩
theorem rises_own : ∀ {l : List Hd} {s : List Int}, Rises s → Rises (ownL l s)
  | [], _, h => h
  | k :: l, s, h => by
    unfold ownL
    exact rises_own (rises_into h)
def Tb.owners (t : Tb) : List Int := ownL t.row (ownL t.has [])
theorem mem_owners {t : Tb} {w : Int} : w ∈ t.owners ↔ t.names w := by
  unfold Tb.owners Tb.names
  rw [mem_own, mem_own]
  constructor
  · rintro ((h | h) | h)
    · exact absurd h (by simp)
    · exact .inl h
    · exact .inr h
  · rintro (h | h)
    · exact .inl (.inr h)
    · exact .inr h
theorem rises_owners (t : Tb) : Rises t.owners := rises_own (rises_own List.Pairwise.nil)
/-- Rising lists with the same members are the same. -/
theorem rises_same : ∀ {l m : List Int}, Rises l → Rises m → (∀ a, a ∈ l ↔ a ∈ m) → l = m
  | [], [], _, _, _ => rfl
  | [], b :: m, _, _, h => absurd ((h b).2 (List.mem_cons_self ..)) (by simp)
  | a :: l, [], _, _, h => absurd ((h a).1 (List.mem_cons_self ..)) (by simp)
  | a :: l, b :: m, h1, h2, h => by
    have p1 := List.pairwise_cons.1 h1
    have p2 := List.pairwise_cons.1 h2
    have e : a = b := by
      rcases List.mem_cons.1 ((h a).1 (List.mem_cons_self ..)) with e | e
      · exact e
      · rcases List.mem_cons.1 ((h b).2 (List.mem_cons_self ..)) with e2 | e2
        · exact e2.symm
        · have := p1.1 b e2
          have := p2.1 a e
          omega
    subst e
    congr 1
    refine rises_same p1.2 p2.2 (fun c => ?_)
    constructor
    · intro hc
      rcases List.mem_cons.1 ((h c).1 (List.mem_cons_of_mem _ hc)) with e | e
      · have := p1.1 c hc
        omega
      · exact e
    · intro hc
      rcases List.mem_cons.1 ((h c).2 (List.mem_cons_of_mem _ hc)) with e | e
      · have := p2.1 c hc
        omega
      · exact e

/-! ### Whom one has to go behind, and the ring -/
def Tb.behL (t : Tb) (w : Int) : List Int := t.owners.filter fun b => t.beh w b
theorem ahead_mem {a b x : Int} : ∀ {l : List Hd}, aheadL l a b x = true → ∃ h ∈ l, h.w = b
  | [], h => absurd h (by simp [aheadL])
  | k :: l, h => by
    unfold aheadL at h
    by_cases h1 : k.w = a
    · rw [if_pos h1] at h
      cases h
    · rw [if_neg h1] at h
      by_cases h2 : k.w = b ∧ k.x = x
      · exact ⟨k, List.mem_cons_self .., h2.1⟩
      · rw [if_neg h2] at h
        obtain ⟨q, q1, q2⟩ := ahead_mem h
        exact ⟨q, List.mem_cons_of_mem _ q1, q2⟩
theorem beh_names {t : Tb} {a b : Int} (h : t.beh a b = true) : t.names b := by
  obtain ⟨k, _, _, h3⟩ := (beh_iff _ _ _).1 h
  rcases h3 with ⟨h3, _⟩ | h3
  · obtain ⟨q, q1, q2, _⟩ := at_mem h3
    exact .inl ⟨q, q1, q2⟩
  · exact .inr (ahead_mem h3)
theorem mem_behL {t : Tb} {w b : Int} : b ∈ t.behL w ↔ t.beh w b = true := by
  unfold Tb.behL
  rw [List.mem_filter, mem_owners]
  exact ⟨fun h => h.2, fun h => ⟨beh_names h, h⟩⟩
theorem rises_behL (t : Tb) (w : Int) : Rises (t.behL w) := (rises_owners t).filter _
theorem once_behL (t : Tb) (w : Int) : Once (t.behL w) := (rises_behL t w).imp (fun h e => by omega)
theorem self_behL (t : Tb) (w : Int) : w ∉ t.behL w := fun h => by
  obtain ⟨_, _, h2, _⟩ := (beh_iff _ _ _).1 (mem_behL.1 h)
  exact h2 rfl
def Tb.ring (t : Tb) (w : Int) : Bool := ringL t.behL w t.owners.length (t.behL w) 0
theorem reach_far {t : Tb} {a b : Int} : Reach t.behL a b ↔ t.far a b := by
  constructor
  · intro h
    induction h with
    | single e => exact .single (mem_behL.1 e)
    | tail _ e ih => exact .tail ih (mem_behL.1 e)
  · intro h
    induction h with
    | single e => exact .single (mem_behL.2 e)
    | tail _ e ih => exact .tail ih (mem_behL.2 e)
theorem Tb.ring_iff (t : Tb) (w : Int) : t.ring w = true ↔ t.far w w := by
  unfold Tb.ring
  rw [Go.Proofs.Ytmlbghloddiflaa.ring_iff (nb := t.behL) (own := t.owners) (fun a b hb => (List.mem_filter.1 hb).1) (once_behL t) (self_behL t) w _ (Nat.le_refl _)]
  exact reach_far
/-- The request, by the search. -/
def Tb.request (t : Tb) (w x m : Int) : Tb × Int := t.req w x m ((t.queue (t.asks w x m)).ring w)
theorem Tb.good.request {t : Tb} (h : t.good) (w x m : Int) : (t.request w x m).1.good := h.req ((t.queue (t.asks w x m)).ring_iff w)
end Go.Proofs.Ytmlbghloddiflaa
