/-
  Nobody has to go behind itself, by however many, and who waits has to go behind somebody, of no program: what the calls make of that; and whose names stand in a table.
-/
import Derived.Test.YtmlbghloddiflaaLockFacts
namespace Go.Proofs.Ytmlbghloddiflaa

/-! ### By however many -/
def Tb.edge (t : Tb) (a b : Int) : Prop := t.beh a b = true
def Tb.far (t : Tb) (a b : Int) : Prop := Relation.TransGen t.edge a b
def Tb.calm (t : Tb) : Prop := ∀ a, ¬ t.far a a
theorem far_trans {t : Tb} {a b c : Int} (h1 : t.far a b) (h2 : t.far b c) : t.far a c := by
  induction h2 with
  | single h => exact .tail h1 h
  | tail _ h ih => exact .tail ih h
/-- Fewer have to go behind others. -/
theorem far_sub {t t' : Tb} (h : ∀ a b, t'.beh a b = true → t.beh a b = true) {a b : Int} (hf : t'.far a b) : t.far a b := by
  induction hf with
  | single e => exact .single (h _ _ e)
  | tail _ e ih => exact .tail ih (h _ _ e)
theorem calm_sub {t t' : Tb} (h : ∀ a b, t'.beh a b = true → t.beh a b = true) (hc : t.calm) : t'.calm := fun a hf => hc a (far_sub h hf)
/-- More have to go behind one who goes behind nobody. -/
theorem calm_sink {t t' : Tb} {w : Int} (h : ∀ a b, t'.beh a b = true → t.beh a b = true ∨ b = w) (hs : ∀ b, t'.beh w b = false) (hc : t.calm) : t'.calm := by
  have key : ∀ {a b : Int}, t'.far a b → t.far a b ∨ b = w := fun hf => by
    induction hf with
    | single e =>
      rcases h _ _ e with h | h
      · exact .inl (.single h)
      · exact .inr h
    | tail _ e ih =>
      rcases h _ _ e with h | h
      · rcases ih with ih | ih
        · exact .inl (.tail ih h)
        · subst ih
          exact absurd (e.symm.trans (hs _)) (by simp)
      · exact .inr h
  have from' : ∀ {a b : Int}, t'.far a b → ∃ c, t'.beh a c = true := fun hf => by
    induction hf with
    | single e => exact ⟨_, e⟩
    | tail _ _ ih => exact ih
  intro a hf
  rcases key hf with h1 | h1
  · exact hc a h1
  · subst h1
    obtain ⟨c, e⟩ := from' hf
    exact absurd (e.symm.trans (hs c)) (by simp)
/-- One more waits, and doesn't have to go behind itself. -/
theorem calm_node {t t' : Tb} {w : Int} (h : ∀ a b, t'.beh a b = true → t.beh a b = true ∨ a = w ∨ b = w) (hw : ¬ t'.far w w) (hc : t.calm) : t'.calm := by
  have key : ∀ {a b : Int}, t'.far a b → t.far a b ∨ ((a = w ∨ t'.far a w) ∧ (b = w ∨ t'.far w b)) := fun {a b} hf => by
    induction hf with
    | single e =>
      rcases h _ _ e with h | h | h
      · exact .inl (.single h)
      · subst h
        exact .inr ⟨.inl rfl, .inr (.single e)⟩
      · subst h
        exact .inr ⟨.inr (.single e), .inl rfl⟩
    | tail h0 e ih =>
      rcases h _ _ e with h | h | h
      · rcases ih with ih | ⟨i1, i2⟩
        · exact .inl (.tail ih h)
        · refine .inr ⟨i1, .inr ?_⟩
          rcases i2 with i2 | i2
          · subst i2
            exact .single e
          · exact .tail i2 e
      · subst h
        exact .inr ⟨.inr h0, .inr (.single e)⟩
      · subst h
        exact .inr ⟨.inr (.tail h0 e), .inl rfl⟩
  intro a hf
  rcases key hf with h1 | ⟨h1, h2⟩
  · exact hc a h1
  · rcases h1 with h1 | h1
    · subst h1
      exact hw hf
    · rcases h2 with h2 | h2
      · subst h2
        exact hw hf
      · exact hw (far_trans h2 h1)

/-! ### Who goes behind whom, call by call -/
theorem wt_away (l : List Hd) (w a : Int) : wtL (awayL l w) a = if a = w then none else wtL l a := by
  induction l with
  | nil => simp [awayL, wtL]
  | cons h l ih =>
    by_cases hw : h.w = w
    · have e : awayL (h :: l) w = awayL l w := by simp [awayL, hw]
      rw [e, ih]
      by_cases ha : a = w
      · rw [if_pos ha, if_pos ha]
      · rw [if_neg ha, if_neg ha]
        conv => rhs; unfold wtL
        rw [if_neg (fun e => ha (e.symm.trans hw))]
    · have e : awayL (h :: l) w = h :: awayL l w := by simp [awayL, hw]
      rw [e]
      unfold wtL
      rw [ih]
      by_cases ha : a = w
      · rw [if_pos ha, if_pos ha, if_neg (fun e => hw (e.trans ha))]
      · rw [if_neg ha, if_neg ha]
theorem ahead_away {l : List Hd} {w a b x : Int} (ha : a ≠ w) (h : aheadL (awayL l w) a b x = true) : aheadL l a b x = true := by
  induction l with
  | nil => exact h
  | cons k l ih =>
    by_cases hw : k.w = w
    · have e : awayL (k :: l) w = awayL l w := by simp [awayL, hw]
      rw [e] at h
      unfold aheadL
      rw [if_neg (fun e => ha (e.symm.trans hw))]
      by_cases hb : k.w = b ∧ k.x = x
      · rw [if_pos hb]
      · rw [if_neg hb]
        exact ih h
    · have e : awayL (k :: l) w = k :: awayL l w := by simp [awayL, hw]
      rw [e] at h
      unfold aheadL at h ⊢
      by_cases h1 : k.w = a
      · rw [if_pos h1] at h
        cases h
      · rw [if_neg h1] at h ⊢
        by_cases hb : k.w = b ∧ k.x = x
        · rw [if_pos hb]
        · rw [if_neg hb] at h ⊢
          exact ih h
theorem beh_iff (t : Tb) (a b : Int) : t.beh a b = true ↔ ∃ h, t.wt a = some h ∧ a ≠ b ∧ ((t.at b h.x ≠ 0 ∧ fit (t.at b h.x) h.m = false) ∨ aheadL t.row a b h.x = true) := by
  unfold Tb.beh
  cases t.wt a with
  | none => simp
  | some h => simp
theorem beh_away {t : Tb} {w a b : Int} (h : (t.away w).beh a b = true) : t.beh a b = true := by
  obtain ⟨k, h1, h2, h3⟩ := (beh_iff _ _ _).1 h
  have h1 : wtL (awayL t.row w) a = some k := h1
  rw [wt_away] at h1
  by_cases ha : a = w
  · rw [if_pos ha] at h1
    cases h1
  · rw [if_neg ha] at h1
    refine (beh_iff _ _ _).2 ⟨k, h1, h2, ?_⟩
    rcases h3 with h3 | h3
    · exact .inl h3
    · exact .inr (ahead_away ha h3)
theorem at_away (l : List Hd) (w b x : Int) : atL (awayL l w) b x = if b = w then 0 else atL l b x := by
  induction l with
  | nil => simp [awayL, atL]
  | cons h l ih =>
    by_cases hw : h.w = w
    · have e : awayL (h :: l) w = awayL l w := by simp [awayL, hw]
      rw [e, ih]
      by_cases hb : b = w
      · rw [if_pos hb, if_pos hb]
      · rw [if_neg hb, if_neg hb]
        conv => rhs; unfold atL
        rw [if_neg (fun e => hb (e.1.symm.trans hw))]
    · have e : awayL (h :: l) w = h :: awayL l w := by simp [awayL, hw]
      rw [e]
      unfold atL
      rw [ih]
      by_cases hb : b = w
      · rw [if_pos hb, if_pos hb, if_neg (fun e => hw (e.1.trans hb))]
      · rw [if_neg hb, if_neg hb]
def Tb.drop (t : Tb) (w : Int) : Tb := { t with has := awayL t.has w }
theorem beh_drop {t : Tb} {w a b : Int} (h : (t.drop w).beh a b = true) : t.beh a b = true := by
  obtain ⟨k, h1, h2, h3⟩ := (beh_iff _ _ _).1 h
  refine (beh_iff _ _ _).2 ⟨k, h1, h2, ?_⟩
  rcases h3 with ⟨h3, h4⟩ | h3
  · have e : (t.drop w).at b k.x = if b = w then 0 else t.at b k.x := at_away t.has w b k.x
    rw [e] at h3 h4
    by_cases hb : b = w
    · rw [if_pos hb] at h3
      exact absurd rfl h3
    · rw [if_neg hb] at h3 h4
      exact .inl ⟨h3, h4⟩
  · exact .inr h3
theorem Tb.calm.away {t : Tb} (h : t.calm) (w : Int) : (t.away w).calm := calm_sub (fun _ _ => beh_away) h
theorem Tb.calm.drop {t : Tb} (h : t.calm) (w : Int) : (t.drop w).calm := calm_sub (fun _ _ => beh_drop) h
theorem Tb.calm.give {t : Tb} (h : t.calm) (k : Hd) (hw : t.wt k.w = none) : (t.give k).calm := by
  refine calm_sink (w := k.w) (fun a b e => ?_) (fun b => ?_) h
  · obtain ⟨q, h1, h2, h3⟩ := (beh_iff _ _ _).1 e
    by_cases hb : b = k.w
    · exact .inr hb
    · refine .inl ((beh_iff _ _ _).2 ⟨q, h1, h2, ?_⟩)
      have e : (t.give k).at b q.x = t.at b q.x := (at_give t.has k b q.x).trans (if_neg (fun e => hb e.1.symm))
      rw [e] at h3
      exact h3
  · cases he : (t.give k).beh k.w b with
    | false => rfl
    | true =>
      obtain ⟨q, h1, _⟩ := (beh_iff _ _ _).1 he
      have h1 : t.wt k.w = some q := h1
      rw [hw] at h1
      cases h1
theorem let_calm (x : Int) : ∀ (l : List Hd) (t : Tb), t.calm → (letL x l t).1.calm
  | [], t, h => h
  | k :: l, t, h => by
    unfold letL
    by_cases hf : t.fits k.w x k.m = true
    · rw [if_pos hf]
      refine let_calm x l _ ?_
      show ((t.away k.w).give k).calm
      refine (h.away k.w).give k ?_
      show wtL (awayL t.row k.w) k.w = none
      rw [wt_away, if_pos rfl]
    · rw [if_neg hf]
      exact h
theorem look_calm : ∀ (n : Nat) (x : Int) (t : Tb), t.calm → (lookL n x t).1.calm
  | 0, _, _, h => h
  | n + 1, x, t, h => look_calm n (x + 1) _ (let_calm x _ t h)
theorem Tb.calm.stop {t : Tb} (h : t.calm) (w : Int) : (t.stop w).1.calm := look_calm _ _ _ (h.away w)
theorem Tb.calm.free {t : Tb} (h : t.calm) (w : Int) : (t.free w).1.calm := look_calm _ _ _ ((h.drop w).away w)
theorem wt_insert {k : Hd} {a : Int} (ha : k.w ≠ a) : ∀ l1 l2 : List Hd, wtL (l1 ++ k :: l2) a = wtL (l1 ++ l2) a
  | [], l2 => by
    rw [List.nil_append, List.nil_append]
    conv => lhs; unfold wtL
    rw [if_neg ha]
  | h :: l1, l2 => by
    rw [List.cons_append, List.cons_append]
    unfold wtL
    rw [wt_insert ha l1 l2]
theorem ahead_insert {k : Hd} {a b x : Int} (ha : k.w ≠ a) (hb : k.w ≠ b) : ∀ l1 l2 : List Hd, aheadL (l1 ++ k :: l2) a b x = aheadL (l1 ++ l2) a b x
  | [], l2 => by
    rw [List.nil_append, List.nil_append]
    conv => lhs; unfold aheadL
    rw [if_neg ha, if_neg (fun e => hb e.1)]
  | h :: l1, l2 => by
    rw [List.cons_append, List.cons_append]
    unfold aheadL
    rw [ahead_insert ha hb l1 l2]
theorem Tb.calm.queue {t : Tb} (h : t.calm) (k : Hd) (hr : ¬ (t.queue k).far k.w k.w) : (t.queue k).calm := by
  refine calm_node (w := k.w) (fun a b e => ?_) hr h
  by_cases ha : a = k.w
  · exact .inr (.inl ha)
  by_cases hb : b = k.w
  · exact .inr (.inr hb)
  obtain ⟨q, h1, h2, h3⟩ := (beh_iff _ _ _).1 e
  have h1 : wtL (t.row.take (t.place k) ++ k :: t.row.drop (t.place k)) a = some q := h1
  rw [wt_insert (fun e => ha e.symm), List.take_append_drop] at h1
  refine .inl ((beh_iff _ _ _).2 ⟨q, h1, h2, ?_⟩)
  rcases h3 with h3 | h3
  · exact .inl h3
  · have h3 : aheadL (t.row.take (t.place k) ++ k :: t.row.drop (t.place k)) a b q.x = true := h3
    rw [ahead_insert (fun e => ha e.symm) (fun e => hb e.symm), List.take_append_drop] at h3
    exact .inr h3
theorem calm_nil : (⟨[], []⟩ : Tb).calm := fun a hf => by
  have : ∀ {a b : Int}, (⟨[], []⟩ : Tb).far a b → False := fun hf => by
    induction hf with
    | single e => exact absurd e (by simp [Tb.edge, Tb.beh, Tb.wt, wtL])
    | tail _ _ ih => exact ih
  exact this hf

/-! ### Who waits has to go behind somebody -/
theorem ahead_first : ∀ (l : List Hd) {h q : Hd} {l' : List Hd}, l.Pairwise (fun a b => a.w ≠ b.w) → h ∈ l → queL l h.x = q :: l' → q.w ≠ h.w → aheadL l h.w q.w h.x = true
  | [], h, q, l', _, hm, _, _ => absurd hm (by simp)
  | k :: l, h, q, l', hp, hm, hq, hw => by
    have hp2 := List.pairwise_cons.1 hp
    unfold aheadL
    by_cases hx : k.x = h.x
    · have e : queL (k :: l) h.x = k :: queL l h.x := by simp [queL, hx]
      rw [e] at hq
      injection hq with hq _
      subst hq
      rw [if_neg hw, if_pos ⟨rfl, hx⟩]
    · have e : queL (k :: l) h.x = queL l h.x := by simp [queL, hx]
      rw [e] at hq
      have hm2 : h ∈ l := by
        rcases List.mem_cons.1 hm with hm | hm
        · subst hm
          exact absurd rfl hx
        · exact hm
      rw [if_neg (hp2.1 h hm2), if_neg (fun e => hx e.2)]
      exact ahead_first l hp2.2 hm2 hq hw
theorem Tb.idle.behind {t : Tb} (hi : t.idle) (ho : t.ok) {w : Int} {h : Hd} (hw : t.wt w = some h) : ∃ b, t.beh w b = true := by
  obtain ⟨h1, h2⟩ := wt_some hw
  subst h2
  cases hq : t.que h.x with
  | nil =>
    have : h ∈ t.que h.x := mem_que.2 ⟨h1, rfl⟩
    rw [hq] at this
    exact absurd this (by simp)
  | cons q l =>
    by_cases hqw : q.w = h.w
    · have hqm := mem_que.1 (show q ∈ queL t.row h.x by have e : queL t.row h.x = q :: l := hq; rw [e]; exact List.mem_cons_self ..)
      have e1 := wt_of ho.rone h1
      have e2 := wt_of ho.rone hqm.1
      rw [hqw, e1] at e2
      injection e2 with e2
      subst e2
      have hf := hi h.x h l hq
      by_cases hn : ∃ b ∈ t.has, b.x = h.x ∧ b.w ≠ h.w ∧ fit b.m h.m = false
      · obtain ⟨b, b1, b2, b3, b4⟩ := hn
        have ha : t.at b.w h.x = b.m := by
          have := at_of ho.one b1
          rw [b2] at this
          exact this
        refine ⟨b.w, (beh_iff _ _ _).2 ⟨h, hw, fun e => b3 e.symm, .inl ⟨?_, ?_⟩⟩⟩
        · rw [ha]
          intro e
          have := (ho.hk b b1).2.2
          rw [e] at this
          exact absurd this (by decide)
        · rw [ha]
          exact b4
      · exfalso
        have : t.fits h.w h.x h.m = true := (fitsL_iff _ _ _ _).2 (fun b b1 b2 b3 => by
          cases hc : fit b.m h.m with
          | true => rfl
          | false => exact absurd ⟨b, b1, b2, b3, hc⟩ hn)
        rw [this] at hf
        cases hf
    · exact ⟨q.w, (beh_iff _ _ _).2 ⟨h, hw, fun e => hqw e.symm, .inr (ahead_first t.row ho.rone h1 hq hqw)⟩⟩

/-! ### Whose names stand in a table -/
def Tb.names (t : Tb) (w : Int) : Prop := (∃ h ∈ t.has, h.w = w) ∨ ∃ h ∈ t.row, h.w = w
theorem names_give {t : Tb} {k : Hd} {w : Int} (h : (t.give k).names w) : t.names w ∨ w = k.w := by
  rcases h with ⟨q, h1, h2⟩ | h
  · rcases mem_give (show q ∈ giveL t.has k from h1) with rfl | h3 | h3
    · exact .inr h2.symm
    · exact .inl (.inl ⟨q, h3.1, h2⟩)
    · exact .inl (.inl ⟨q, h3, h2⟩)
  · exact .inl (.inr h)
theorem names_away {t : Tb} {k w : Int} (h : (t.away k).names w) : t.names w := by
  rcases h with h | ⟨q, h1, h2⟩
  · exact .inl h
  · exact .inr ⟨q, (mem_away.1 h1).1, h2⟩
theorem let_names (x : Int) : ∀ (l : List Hd) (t : Tb) {w : Int}, (∀ h ∈ l, t.names h.w) → (letL x l t).1.names w → t.names w
  | [], t, w, _, h => h
  | k :: l, t, w, hl, h => by
    unfold letL at h
    by_cases hf : t.fits k.w x k.m = true
    · rw [if_pos hf] at h
      have back : ∀ {a : Int}, ((t.give k).away k.w).names a → t.names a := fun ha => by
        rcases names_give (names_away ha) with ha | rfl
        · exact ha
        · exact hl k (List.mem_cons_self ..)
      have keep : ∀ {a : Int}, t.names a → ((t.give k).away k.w).names a := fun {a} ha => by
        have hk : k ∈ giveL t.has k := by
          have : ∀ l : List Hd, k ∈ giveL l k := by
            intro l
            induction l with
            | nil => simp [giveL]
            | cons q l ih =>
              unfold giveL
              by_cases hq : q.w = k.w ∧ q.x = k.x
              · rw [if_pos hq]
                exact List.mem_cons_self ..
              · rw [if_neg hq]
                exact List.mem_cons_of_mem _ ih
          exact this _
        by_cases e : a = k.w
        · exact .inl ⟨k, hk, e.symm⟩
        · rcases ha with ⟨q, h1, h2⟩ | ⟨q, h1, h2⟩
          · refine .inl ⟨q, ?_, h2⟩
            have : ∀ l : List Hd, q ∈ l → q ∈ giveL l k := by
              intro l
              induction l with
              | nil => exact fun h => absurd h (by simp)
              | cons r l ih =>
                intro hq
                unfold giveL
                by_cases hr : r.w = k.w ∧ r.x = k.x
                · rw [if_pos hr]
                  rcases List.mem_cons.1 hq with rfl | hq
                  · exact absurd (h2.symm.trans hr.1) e
                  · exact List.mem_cons_of_mem _ hq
                · rw [if_neg hr]
                  rcases List.mem_cons.1 hq with rfl | hq
                  · exact List.mem_cons_self ..
                  · exact List.mem_cons_of_mem _ (ih hq)
            exact this _ h1
          · exact .inr ⟨q, mem_away.2 ⟨h1, fun e2 => e (h2.symm.trans e2)⟩, h2⟩
      exact back (let_names x l _ (fun q hq => keep (hl q (List.mem_cons_of_mem _ hq))) h)
    · rw [if_neg hf] at h
      exact h
theorem look_names : ∀ (n : Nat) (x : Int) (t : Tb) {w : Int}, (lookL n x t).1.names w → t.names w
  | 0, _, _, _, h => h
  | n + 1, x, t, _, h => let_names x _ t (fun q hq => .inr ⟨q, (mem_que.1 hq).1, rfl⟩) (look_names n (x + 1) _ h)
theorem stop_names {t : Tb} {k w : Int} (h : (t.stop k).1.names w) : t.names w := names_away (look_names _ _ _ h)
/-- Who has been freed stands there no more. -/
theorem free_names {t : Tb} {k w : Int} (h : (t.free k).1.names w) : t.names w ∧ w ≠ k := by
  have := look_names _ _ _ h
  rcases this with ⟨q, h1, h2⟩ | ⟨q, h1, h2⟩
  · have hq := mem_away.1 (show q ∈ awayL t.has k from h1)
    exact ⟨.inl ⟨q, hq.1, h2⟩, fun e => hq.2 (h2.trans e)⟩
  · have hq := mem_away.1 (show q ∈ awayL t.row k from h1)
    exact ⟨.inr ⟨q, hq.1, h2⟩, fun e => hq.2 (h2.trans e)⟩
theorem queue_names {t : Tb} {k : Hd} {w : Int} (h : (t.queue k).names w) : t.names w ∨ w = k.w := by
  rcases h with h | ⟨q, h1, h2⟩
  · exact .inl (.inl h)
  · have h1 : q ∈ t.row.take (t.place k) ++ k :: t.row.drop (t.place k) := h1
    rcases List.mem_append.1 h1 with h1 | h1
    · exact .inl (.inr ⟨q, List.mem_of_mem_take h1, h2⟩)
    · rcases List.mem_cons.1 h1 with rfl | h1
      · exact .inr h2.symm
      · exact .inl (.inr ⟨q, List.mem_of_mem_drop h1, h2⟩)
theorem names_nil {t : Tb} (h : ∀ w, ¬ t.names w) : t = ⟨[], []⟩ := by
  have h1 : t.has = [] := by
    cases hl : t.has with
    | nil => rfl
    | cons q l => exact absurd (.inl ⟨q, by rw [hl]; exact List.mem_cons_self .., rfl⟩) (h q.w)
  have h2 : t.row = [] := by
    cases hl : t.row with
    | nil => rfl
    | cons q l => exact absurd (.inr ⟨q, by rw [hl]; exact List.mem_cons_self .., rfl⟩) (h q.w)
  cases t
  simp only at h1 h2
  subst h1 h2
  rfl
end Go.Proofs.Ytmlbghloddiflaa
