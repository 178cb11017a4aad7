/-
  The table of all locks, of no program: who has what, who waits in which row, who has to go behind whom; what a request, an end and a stop make of it.
-/
import Derived.Test.YtmlbghloddiflaaModeMath
namespace Go.Proofs.Ytmlbghloddiflaa

/-- Somebody's lock, or what it waits for: owner, thing, mode. -/
structure Hd where
  w : Int
  x : Int
  m : Int
  deriving DecidableEq
/-- All locks that are had, and all who wait. -/
structure Tb where
  has : List Hd
  row : List Hd
def whoOk (w : Int) : Bool := decide (1 ≤ w) && decide (w ≤ 8388607)
def thingOk (x : Int) : Bool := decide (0 ≤ x) && decide (x < 288)
def atL (l : List Hd) (w x : Int) : Int :=
  match l with
  | [] => 0
  | h :: l => if h.w = w ∧ h.x = x then h.m else atL l w x
def Tb.at (t : Tb) (w x : Int) : Int := atL t.has w x
def wtL (l : List Hd) (w : Int) : Option Hd :=
  match l with
  | [] => none
  | h :: l => if h.w = w then some h else wtL l w
def Tb.wt (t : Tb) (w : Int) : Option Hd := wtL t.row w
/-- Does a mode fit with what others have? -/
def fitsL (l : List Hd) (w x m : Int) : Bool :=
  match l with
  | [] => true
  | h :: l => (decide (h.x ≠ x) || decide (h.w = w) || fit h.m m) && fitsL l w x m
def Tb.fits (t : Tb) (w x m : Int) : Bool := fitsL t.has w x m
def giveL (l : List Hd) (h : Hd) : List Hd :=
  match l with
  | [] => [h]
  | k :: l => if k.w = h.w ∧ k.x = h.x then h :: l else k :: giveL l h
def Tb.give (t : Tb) (h : Hd) : Tb := { t with has := giveL t.has h }
def awayL (l : List Hd) (w : Int) : List Hd := l.filter fun h => decide (h.w ≠ w)
def Tb.away (t : Tb) (w : Int) : Tb := { t with row := awayL t.row w }
/-- Who waits for a thing. -/
def queL (l : List Hd) (x : Int) : List Hd := l.filter fun h => decide (h.x = x)
def Tb.que (t : Tb) (x : Int) : List Hd := queL t.row x
/-- Does b stand ahead of a, waiting for x? -/
def aheadL (l : List Hd) (a b x : Int) : Bool :=
  match l with
  | [] => false
  | h :: l => if h.w = a then false else if h.w = b ∧ h.x = x then true else aheadL l a b x
/-- a has to go behind b. -/
def Tb.beh (t : Tb) (a b : Int) : Bool :=
  match t.wt a with
  | none => false
  | some h => decide (a ≠ b) && ((decide (t.at b h.x ≠ 0) && !fit (t.at b h.x) h.m) || aheadL t.row a b h.x)
/-- Where one who has the thing comes to stand: right behind the last who has it. -/
def placeL (t : Tb) (x : Int) : List Hd → Nat → Nat → Nat
  | [], _, at' => at'
  | h :: l, i, at' => placeL t x l (i + 1) (if h.x = x ∧ t.at h.w x ≠ 0 then i + 1 else at')
def Tb.place (t : Tb) (h : Hd) : Nat := if t.at h.w h.x ≠ 0 then placeL t h.x t.row 0 0 else t.row.length
def Tb.queue (t : Tb) (h : Hd) : Tb := { t with row := t.row.take (t.place h) ++ h :: t.row.drop (t.place h) }
/-- By however many: a has to go behind b. -/
def Tb.path (t : Tb) (a b : Int) : Prop := ∃ l : List Int, l ≠ [] ∧ l.getLast? = some b ∧ ∀ i, i < l.length → t.beh (if i = 0 then a else l.getD (i - 1) 0) (l.getD i 0) = true

/-! ### Plain facts -/
theorem at_give (l : List Hd) (h : Hd) (w x : Int) : atL (giveL l h) w x = if h.w = w ∧ h.x = x then h.m else atL l w x := by
  induction l with
  | nil => rfl
  | cons k l ih =>
    unfold giveL
    by_cases hk : k.w = h.w ∧ k.x = h.x
    · rw [if_pos hk]
      unfold atL
      by_cases hw : h.w = w ∧ h.x = x
      · rw [if_pos hw, if_pos hw]
      · rw [if_neg hw, if_neg hw, if_neg (by rw [hk.1, hk.2]; exact hw)]
    · rw [if_neg hk]
      unfold atL
      rw [ih]
      by_cases hw : h.w = w ∧ h.x = x
      · rw [if_pos hw, if_neg (fun e => hk ⟨e.1.trans hw.1.symm, e.2.trans hw.2.symm⟩), if_pos hw]
      · rw [if_neg hw, if_neg hw]
theorem at_mem {l : List Hd} {w x : Int} (h : atL l w x ≠ 0) : ∃ k ∈ l, k.w = w ∧ k.x = x ∧ k.m = atL l w x := by
  induction l with
  | nil => exact absurd rfl h
  | cons k l ih =>
    unfold atL at h ⊢
    by_cases hk : k.w = w ∧ k.x = x
    · rw [if_pos hk]
      exact ⟨k, List.mem_cons_self .., hk.1, hk.2, rfl⟩
    · rw [if_neg hk] at h ⊢
      obtain ⟨q, q1, q2⟩ := ih h
      exact ⟨q, List.mem_cons_of_mem _ q1, q2⟩
/-- Each owner has one lock on a thing. -/
def OneL (l : List Hd) : Prop := l.Pairwise fun a b => ¬ (a.w = b.w ∧ a.x = b.x)
theorem at_of {l : List Hd} (h1 : OneL l) {k : Hd} (hk : k ∈ l) : atL l k.w k.x = k.m := by
  induction l with
  | nil => exact absurd hk (by simp)
  | cons q l ih =>
    have hp := List.pairwise_cons.1 h1
    unfold atL
    rcases List.mem_cons.1 hk with rfl | hk
    · rw [if_pos ⟨rfl, rfl⟩]
    · rw [if_neg (fun e => hp.1 k hk ⟨e.1, e.2⟩)]
      exact ih hp.2 hk
theorem fitsL_iff (l : List Hd) (w x m : Int) : fitsL l w x m = true ↔ ∀ h ∈ l, h.x = x → h.w ≠ w → fit h.m m = true := by
  induction l with
  | nil => exact ⟨fun _ h hh => absurd hh (by simp), fun _ => rfl⟩
  | cons k l ih =>
    unfold fitsL
    rw [Bool.and_eq_true, ih]
    constructor
    · rintro ⟨h1, h2⟩ h hh hx hw
      rcases List.mem_cons.1 hh with rfl | hh
      · simpa [hx, hw] using h1
      · exact h2 h hh hx hw
    · intro h
      refine ⟨?_, fun q hq => h q (List.mem_cons_of_mem _ hq)⟩
      by_cases hx : k.x = x
      · by_cases hw : k.w = w
        · simp [hw]
        · simp [h k (List.mem_cons_self ..) hx hw]
      · simp [hx]
theorem mem_give {l : List Hd} {h k : Hd} (hk : k ∈ giveL l h) : k = h ∨ (k ∈ l ∧ ¬ (k.w = h.w ∧ k.x = h.x)) ∨ k ∈ l := by
  induction l with
  | nil =>
    unfold giveL at hk
    exact .inl (by simpa using hk)
  | cons q l ih =>
    unfold giveL at hk
    by_cases hq : q.w = h.w ∧ q.x = h.x
    · rw [if_pos hq] at hk
      rcases List.mem_cons.1 hk with hk | hk
      · exact .inl hk
      · exact .inr (.inr (List.mem_cons_of_mem _ hk))
    · rw [if_neg hq] at hk
      rcases List.mem_cons.1 hk with rfl | hk
      · exact .inr (.inr (List.mem_cons_self ..))
      · rcases ih hk with e | e | e
        · exact .inl e
        · exact .inr (.inr (List.mem_cons_of_mem _ e.1))
        · exact .inr (.inr (List.mem_cons_of_mem _ e))
theorem one_give {l : List Hd} (h1 : OneL l) (h : Hd) : OneL (giveL l h) := by
  induction l with
  | nil => exact List.pairwise_singleton _ _
  | cons q l ih =>
    have hp := List.pairwise_cons.1 h1
    unfold giveL
    by_cases hq : q.w = h.w ∧ q.x = h.x
    · rw [if_pos hq]
      exact List.pairwise_cons.2 ⟨fun k hk e => hp.1 k hk ⟨hq.1.trans e.1, hq.2.trans e.2⟩, hp.2⟩
    · rw [if_neg hq]
      refine List.pairwise_cons.2 ⟨fun k hk e => ?_, ih hp.2⟩
      rcases mem_give hk with rfl | ⟨hk, _⟩ | hk
      · exact hq e
      · exact hp.1 k hk e
      · exact hp.1 k hk e
/-- Another one's lock stays. -/
theorem mem_give_other {l : List Hd} {h k : Hd} (h1 : OneL l) (hk : k ∈ giveL l h) : k = h ∨ (k ∈ l ∧ ¬ (k.w = h.w ∧ k.x = h.x)) := by
  induction l with
  | nil =>
    unfold giveL at hk
    exact .inl (by simpa using hk)
  | cons q l ih =>
    have hp := List.pairwise_cons.1 h1
    unfold giveL at hk
    by_cases hq : q.w = h.w ∧ q.x = h.x
    · rw [if_pos hq] at hk
      rcases List.mem_cons.1 hk with hk | hk
      · exact .inl hk
      · exact .inr ⟨List.mem_cons_of_mem _ hk, fun e => hp.1 k hk ⟨hq.1.trans e.1.symm, hq.2.trans e.2.symm⟩⟩
    · rw [if_neg hq] at hk
      rcases List.mem_cons.1 hk with rfl | hk
      · exact .inr ⟨List.mem_cons_self .., hq⟩
      · rcases ih hp.2 hk with e | e
        · exact .inl e
        · exact .inr ⟨List.mem_cons_of_mem _ e.1, e.2⟩
/-- All locks on one thing fit together. -/
def FitL (l : List Hd) : Prop := ∀ a ∈ l, ∀ b ∈ l, a.x = b.x → a.w ≠ b.w → fit a.m b.m = true
theorem fit_give {l : List Hd} (h1 : OneL l) (hf : FitL l) {h : Hd} (hh : fitsL l h.w h.x h.m = true) : FitL (giveL l h) := by
  have hi := (fitsL_iff l h.w h.x h.m).1 hh
  intro a ha b hb hx hw
  rcases mem_give_other h1 ha with rfl | ha
  · rcases mem_give_other h1 hb with rfl | hb
    · exact absurd rfl hw
    · rw [fit_comm]
      exact hi b hb.1 hx.symm (fun e => hw e.symm)
  · rcases mem_give_other h1 hb with rfl | hb
    · exact hi a ha.1 hx hw
    · exact hf a ha.1 b hb.1 hx hw

/-! ### The calls -/
/-- From the first one on, as long as it fits, each has what it waits for. -/
def letL (x : Int) : List Hd → Tb → Tb × List Int
  | [], t => (t, [])
  | h :: l, t => if t.fits h.w x h.m = true then ((letL x l ((t.give h).away h.w)).1, h.w :: (letL x l ((t.give h).away h.w)).2) else (t, [])
/-- .. thing by thing, n of them from x on. -/
def lookL : Nat → Int → Tb → Tb × List Int
  | 0, _, t => (t, [])
  | n + 1, x, t => ((lookL n (x + 1) (letL x (t.que x) t).1).1, (letL x (t.que x) t).2 ++ (lookL n (x + 1) (letL x (t.que x) t).1).2)
def Tb.look (t : Tb) : Tb × List Int := lookL 288 0 t
def Tb.stop (t : Tb) (w : Int) : Tb × List Int := (t.away w).look
def Tb.free (t : Tb) (w : Int) : Tb × List Int := (({ t with has := awayL t.has w } : Tb).away w).look
def Tb.want (t : Tb) (w x m : Int) : Int := if t.at w x ≠ 0 then bth (t.at w x) m else m
/-- What stands in a table always. -/
structure Tb.ok (t : Tb) : Prop where
  hk : ∀ h ∈ t.has, whoOk h.w = true ∧ thingOk h.x = true ∧ rgt h.m = true
  one : OneL t.has
  fits : FitL t.has
  rk : ∀ h ∈ t.row, whoOk h.w = true ∧ thingOk h.x = true ∧ rgt h.m = true
  rone : t.row.Pairwise fun a b => a.w ≠ b.w
theorem wt_some {l : List Hd} {w : Int} {h : Hd} (e : wtL l w = some h) : h ∈ l ∧ h.w = w := by
  induction l with
  | nil => exact absurd e (by simp [wtL])
  | cons k l ih =>
    unfold wtL at e
    by_cases hk : k.w = w
    · rw [if_pos hk] at e
      injection e with e
      subst e
      exact ⟨List.mem_cons_self .., hk⟩
    · rw [if_neg hk] at e
      exact ⟨List.mem_cons_of_mem _ (ih e).1, (ih e).2⟩
theorem wt_none {l : List Hd} {w : Int} (e : wtL l w = none) : ∀ h ∈ l, h.w ≠ w := by
  induction l with
  | nil => exact fun h hh => absurd hh (by simp)
  | cons k l ih =>
    unfold wtL at e
    by_cases hk : k.w = w
    · rw [if_pos hk] at e
      cases e
    · rw [if_neg hk] at e
      intro h hh
      rcases List.mem_cons.1 hh with rfl | hh
      · exact hk
      · exact ih e h hh
theorem wt_of {l : List Hd} (h1 : l.Pairwise fun a b => a.w ≠ b.w) {h : Hd} (hh : h ∈ l) : wtL l h.w = some h := by
  induction l with
  | nil => exact absurd hh (by simp)
  | cons k l ih =>
    have hp := List.pairwise_cons.1 h1
    unfold wtL
    rcases List.mem_cons.1 hh with rfl | hh
    · rw [if_pos rfl]
    · rw [if_neg (hp.1 h hh)]
      exact ih hp.2 hh
theorem mem_away {l : List Hd} {w : Int} {h : Hd} : h ∈ awayL l w ↔ h ∈ l ∧ h.w ≠ w := by
  unfold awayL
  rw [List.mem_filter]
  simp
theorem mem_que {l : List Hd} {x : Int} {h : Hd} : h ∈ queL l x ↔ h ∈ l ∧ h.x = x := by
  unfold queL
  rw [List.mem_filter]
  simp
theorem Tb.ok.away {t : Tb} (h : t.ok) (w : Int) : (t.away w).ok :=
  ⟨h.hk, h.one, h.fits, fun k hk => h.rk k (mem_away.1 hk).1, h.rone.filter _⟩
theorem Tb.ok.give {t : Tb} (h : t.ok) {k : Hd} (hk : whoOk k.w = true ∧ thingOk k.x = true ∧ rgt k.m = true) (hf : t.fits k.w k.x k.m = true) : (t.give k).ok :=
  ⟨fun q hq => by
    rcases mem_give_other h.one hq with rfl | hq
    · exact hk
    · exact h.hk q hq.1, one_give h.one k, fit_give h.one h.fits hf, h.rk, h.rone⟩
theorem Tb.ok.drop {t : Tb} (h : t.ok) (w : Int) : ({ t with has := awayL t.has w } : Tb).ok :=
  ⟨fun k hk => h.hk k (mem_away.1 hk).1, h.one.filter _, fun a ha b hb => h.fits a (mem_away.1 ha).1 b (mem_away.1 hb).1, h.rk, h.rone⟩
theorem let_ok (x : Int) : ∀ (l : List Hd) (t : Tb), t.ok → (∀ h ∈ l, whoOk h.w = true ∧ thingOk h.x = true ∧ rgt h.m = true ∧ h.x = x) → (letL x l t).1.ok
  | [], t, h, _ => h
  | k :: l, t, h, hl => by
    unfold letL
    by_cases hf : t.fits k.w x k.m = true
    · rw [if_pos hf]
      have hk := hl k (List.mem_cons_self ..)
      refine let_ok x l _ ((h.give ⟨hk.1, hk.2.1, hk.2.2.1⟩ (by rw [hk.2.2.2]; exact hf)).away _) (fun q hq => hl q (List.mem_cons_of_mem _ hq))
    · rw [if_neg hf]
      exact h
theorem look_ok : ∀ (n : Nat) (x : Int) (t : Tb), t.ok → (lookL n x t).1.ok
  | 0, _, t, h => h
  | n + 1, x, t, h => look_ok n (x + 1) _ (let_ok x _ t h (fun q hq => by
      have hm := mem_que.1 hq
      have := h.rk q hm.1
      exact ⟨this.1, this.2.1, this.2.2, hm.2⟩))
theorem Tb.ok.stop {t : Tb} (h : t.ok) (w : Int) : (t.stop w).1.ok := look_ok _ _ _ (h.away w)
theorem Tb.ok.free {t : Tb} (h : t.ok) (w : Int) : (t.free w).1.ok := look_ok _ _ _ ((h.drop w).away w)
theorem Tb.ok.queue {t : Tb} (h : t.ok) {k : Hd} (hk : whoOk k.w = true ∧ thingOk k.x = true ∧ rgt k.m = true) (hw : t.wt k.w = none) : (t.queue k).ok := by
  have hn := wt_none hw
  have hmem : ∀ q, q ∈ (t.queue k).row → q = k ∨ q ∈ t.row := fun q hq => by
    have hq : q ∈ t.row.take (t.place k) ++ k :: t.row.drop (t.place k) := hq
    rcases List.mem_append.1 hq with hq | hq
    · exact .inr (List.mem_of_mem_take hq)
    · rcases List.mem_cons.1 hq with hq | hq
      · exact .inl hq
      · exact .inr (List.mem_of_mem_drop hq)
  refine ⟨h.hk, h.one, h.fits, fun q hq => ?_, ?_⟩
  · rcases hmem q hq with rfl | hq
    · exact hk
    · exact h.rk q hq
  · have hp := h.rone
    rw [← List.take_append_drop (t.place k) t.row] at hp
    have hp2 := List.pairwise_append.1 hp
    refine List.pairwise_append.2 ⟨hp2.1, List.pairwise_cons.2 ⟨fun q hq e => hn q (List.mem_of_mem_drop hq) e.symm, hp2.2.1⟩, fun a ha b hb => ?_⟩
    rcases List.mem_cons.1 hb with rfl | hb
    · exact hn a (List.mem_of_mem_take ha)
    · exact hp2.2.2 a ha b hb
end Go.Proofs.Ytmlbghloddiflaa
