/-
  The table of all locks kept place by place, of no program: each thing's locks sorted by owners, each thing's row; that it stands for a table, and what each step makes of both.
-/
import Derived.Test.YtmlbghloddiflaaLockLine
namespace Go.Proofs.Ytmlbghloddiflaa

/-- Locks sorted by owners. -/
def SortW (l : List Hd) : Prop := l.Pairwise fun a b => a.w < b.w
/-- Each thing's locks and its row. -/
structure Pt where
  had : Nat → List Hd
  row : Nat → List Hd
def setF (f : Nat → List Hd) (x : Nat) (l : List Hd) : Nat → List Hd := fun y => if y = x then l else f y
theorem setF_same (f : Nat → List Hd) (x : Nat) (l : List Hd) : setF f x l x = l := if_pos rfl
theorem setF_other (f : Nat → List Hd) {x y : Nat} (l : List Hd) (h : y ≠ x) : setF f x l y = f y := if_neg h
def Pt.setHad (p : Pt) (x : Nat) (l : List Hd) : Pt := { p with had := setF p.had x l }
def Pt.setRow (p : Pt) (x : Nat) (l : List Hd) : Pt := { p with row := setF p.row x l }
/-- How many owners stand ahead of one. -/
def posW (l : List Hd) (w : Int) : Nat :=
  match l with
  | [] => 0
  | k :: l => if k.w < w then posW l w + 1 else 0
/-- An owner's mode. -/
def atW (l : List Hd) (w : Int) : Int :=
  match l with
  | [] => 0
  | k :: l => if k.w = w then k.m else atW l w
def putS (h : Hd) (l : List Hd) : List Hd :=
  match l with
  | [] => [h]
  | k :: l => if k.w < h.w then k :: putS h l else if k.w = h.w then h :: l else h :: k :: l
/-- A lock that is had keeps a wanted one out. -/
def bars (k h : Hd) : Bool := decide (k.w ≠ h.w) && !fit k.m h.m
def fitsS (l : List Hd) (h : Hd) : Bool := !(l.any fun k => bars k h)
def barL (l : List Hd) (h : Hd) : List Int := (l.filter fun k => bars k h).map Hd.w
/-- From the first one on, as long as it fits: what is had then, who got in. -/
def letS : List Hd → List Hd → List Hd × List Int
  | [], H => (H, [])
  | h :: l, H => if fitsS H h = true then ((letS l (putS h H)).1, h.w :: (letS l (putS h H)).2) else (H, [])
/-- Where one who has the thing comes to stand in its row. -/
def entN (H : List Hd) : List Hd → Nat
  | [] => 0
  | h :: l => if entN H l ≠ 0 ∨ atW H h.w ≠ 0 then entN H l + 1 else 0
def entS (H l : List Hd) (h : Hd) : List Hd := if atW H h.w ≠ 0 then l.take (entN H l) ++ h :: l.drop (entN H l) else l ++ [h]

/-! ### Sorted lists -/
theorem posW_le (w : Int) : ∀ l : List Hd, posW l w ≤ l.length
  | [] => Nat.le_refl _
  | k :: l => by
    unfold posW
    split
    · have := posW_le w l
      simp only [List.length_cons]; omega
    · exact Nat.zero_le _
theorem mem_put {h k : Hd} : ∀ {l : List Hd}, SortW l → (k ∈ putS h l ↔ k = h ∨ (k ∈ l ∧ k.w ≠ h.w))
  | [], _ => by simp [putS]
  | q :: l, hs => by
    have hp := List.pairwise_cons.1 hs
    unfold putS
    by_cases h1 : q.w < h.w
    · rw [if_pos h1, List.mem_cons, mem_put hp.2, List.mem_cons]
      constructor
      · rintro (rfl | e | e)
        · exact .inr ⟨.inl rfl, by omega⟩
        · exact .inl e
        · exact .inr ⟨.inr e.1, e.2⟩
      · rintro (e | ⟨rfl | e, e2⟩)
        · exact .inr (.inl e)
        · exact .inl rfl
        · exact .inr (.inr ⟨e, e2⟩)
    · rw [if_neg h1]
      by_cases h2 : q.w = h.w
      · rw [if_pos h2, List.mem_cons, List.mem_cons]
        constructor
        · rintro (e | e)
          · exact .inl e
          · exact .inr ⟨.inr e, by have := hp.1 k e; omega⟩
        · rintro (e | ⟨rfl | e, e2⟩)
          · exact .inl e
          · exact absurd h2 e2
          · exact .inr e
      · rw [if_neg h2, List.mem_cons]
        constructor
        · rintro (e | e)
          · exact .inl e
          · refine .inr ⟨e, ?_⟩
            rcases List.mem_cons.1 e with rfl | e
            · exact h2
            · have := hp.1 k e; omega
        · rintro (e | e)
          · exact .inl e
          · exact .inr e.1
theorem sort_put {h : Hd} : ∀ {l : List Hd}, SortW l → SortW (putS h l)
  | [], _ => List.pairwise_singleton _ _
  | q :: l, hs => by
    have hp := List.pairwise_cons.1 hs
    unfold putS
    by_cases h1 : q.w < h.w
    · rw [if_pos h1]
      refine List.pairwise_cons.2 ⟨fun k hk => ?_, sort_put hp.2⟩
      rcases (mem_put hp.2).1 hk with rfl | hk
      · exact h1
      · exact hp.1 k hk.1
    · rw [if_neg h1]
      by_cases h2 : q.w = h.w
      · rw [if_pos h2]
        exact List.pairwise_cons.2 ⟨fun k hk => by have := hp.1 k hk; omega, hp.2⟩
      · rw [if_neg h2]
        refine List.pairwise_cons.2 ⟨fun k hk => ?_, hs⟩
        rcases List.mem_cons.1 hk with rfl | hk
        · omega
        · have := hp.1 k hk; omega
theorem atW_of {l : List Hd} (hs : SortW l) {k : Hd} (hk : k ∈ l) : atW l k.w = k.m := by
  induction l with
  | nil => exact absurd hk (by simp)
  | cons q l ih =>
    have hp := List.pairwise_cons.1 hs
    unfold atW
    rcases List.mem_cons.1 hk with rfl | hk
    · rw [if_pos rfl]
    · have := hp.1 k hk
      rw [if_neg (by omega)]
      exact ih hp.2 hk
theorem atW_none {l : List Hd} {w : Int} (h : ∀ k ∈ l, k.w ≠ w) : atW l w = 0 := by
  induction l with
  | nil => rfl
  | cons q l ih =>
    unfold atW
    rw [if_neg (h q (List.mem_cons_self ..))]
    exact ih (fun k hk => h k (List.mem_cons_of_mem _ hk))
/-- Found at its place: laid over; not found: put in there. -/
theorem put_set {h : Hd} : ∀ {l : List Hd}, SortW l → ∀ (i : Nat) {k : Hd}, l[i]? = some k → k.w = h.w → putS h l = l.take i ++ h :: l.drop (i + 1)
  | [], _, i, k, e, _ => by simp at e
  | q :: l, hs, 0, k, e, hk => by
    simp at e
    subst e
    unfold putS
    rw [if_neg (by omega), if_pos hk]
    simp
  | q :: l, hs, i + 1, k, e, hk => by
    have hp := List.pairwise_cons.1 hs
    simp at e
    have hq := hp.1 k (List.mem_of_getElem? e)
    unfold putS
    rw [if_pos (by omega), put_set hp.2 i e hk]
    simp
theorem put_in {h : Hd} : ∀ {l : List Hd}, SortW l → ∀ (i : Nat), i ≤ l.length → (∀ j k, j < i → l[j]? = some k → k.w < h.w) → (∀ j k, i ≤ j → l[j]? = some k → h.w < k.w) → putS h l = l.take i ++ h :: l.drop i
  | [], _, i, hi, _, _ => by
    have : i = 0 := by simpa using hi
    subst this
    rfl
  | q :: l, hs, 0, _, _, h2 => by
    have := h2 0 q (Nat.le_refl _) rfl
    unfold putS
    rw [if_neg (by omega), if_neg (by omega)]
    rfl
  | q :: l, hs, i + 1, hi, h1, h2 => by
    have hp := List.pairwise_cons.1 hs
    have := h1 0 q (by omega) rfl
    unfold putS
    rw [if_pos this, put_in hp.2 i (by simpa using hi) (fun j k hj e => h1 (j + 1) k (by omega) (by simpa using e)) (fun j k hj e => h2 (j + 1) k (by omega) (by simpa using e))]
    rfl
theorem sort_away {l : List Hd} (hs : SortW l) (w : Int) : SortW (awayL l w) := hs.filter _
/-- Found at its place: taken out. -/
theorem away_del {w : Int} : ∀ {l : List Hd}, SortW l → ∀ (i : Nat) {k : Hd}, l[i]? = some k → k.w = w → awayL l w = l.take i ++ l.drop (i + 1)
  | [], _, i, k, e, _ => by simp at e
  | q :: l, hs, 0, k, e, hk => by
    have hp := List.pairwise_cons.1 hs
    simp at e
    subst e
    subst hk
    have e2 : awayL (q :: l) q.w = awayL l q.w := by simp [awayL]
    rw [e2, away_self (fun k hk e => by have := hp.1 k hk; omega)]
    simp
  | q :: l, hs, i + 1, k, e, hk => by
    have hp := List.pairwise_cons.1 hs
    simp at e
    have hq := hp.1 k (List.mem_of_getElem? e)
    have e2 : awayL (q :: l) w = q :: awayL l w := by
      have : q.w ≠ w := by omega
      simp [awayL, this]
    rw [e2, away_del hp.2 i e hk]
    simp
/-- In a row: taken out at its place. -/
theorem away_row {w : Int} : ∀ {l : List Hd}, (l.Pairwise fun a b => a.w ≠ b.w) → ∀ (i : Nat) {k : Hd}, l[i]? = some k → k.w = w → awayL l w = l.take i ++ l.drop (i + 1)
  | [], _, i, k, e, _ => by simp at e
  | q :: l, hs, 0, k, e, hk => by
    have hp := List.pairwise_cons.1 hs
    simp at e
    subst e
    subst hk
    have e2 : awayL (q :: l) q.w = awayL l q.w := by simp [awayL]
    rw [e2, away_self (fun k hk e => hp.1 k hk e.symm)]
    simp
  | q :: l, hs, i + 1, k, e, hk => by
    have hp := List.pairwise_cons.1 hs
    simp at e
    have hq := hp.1 k (List.mem_of_getElem? e)
    have e2 : awayL (q :: l) w = q :: awayL l w := by
      have : q.w ≠ w := fun e => hq (e.trans hk.symm)
      simp [awayL, this]
    rw [e2, away_row hp.2 i e hk]
    simp
theorem fitsS_iff (l : List Hd) (h : Hd) : fitsS l h = true ↔ ∀ k ∈ l, k.w ≠ h.w → fit k.m h.m = true := by
  unfold fitsS bars
  simp only [Bool.not_eq_true', List.any_eq_false, Bool.and_eq_true, decide_eq_true_eq, Bool.not_eq_true', not_and, Bool.not_eq_false]

/-! ### A table, place by place -/
structure Rep (t : Tb) (p : Pt) : Prop where
  had : ∀ x : Nat, x < 288 → ∀ h, h ∈ p.had x ↔ h ∈ t.has ∧ h.x = (x : Int)
  srt : ∀ x : Nat, x < 288 → SortW (p.had x)
  row : ∀ x : Nat, x < 288 → p.row x = t.que (x : Int)
def Pt.zero : Pt := ⟨fun _ => [], fun _ => []⟩
theorem rep_nil : Rep ⟨[], []⟩ Pt.zero := ⟨fun x _ h => by simp [Pt.zero], fun x _ => List.Pairwise.nil, fun x _ => rfl⟩
theorem Rep.at {t : Tb} {p : Pt} (hr : Rep t p) (ho : t.ok) {x : Nat} (hx : x < 288) (w : Int) : atW (p.had x) w = t.at w (x : Int) := by
  by_cases h : ∃ k ∈ p.had x, k.w = w
  · obtain ⟨k, hk, rfl⟩ := h
    have h1 := (hr.had x hx k).1 hk
    rw [atW_of (hr.srt x hx) hk, ← h1.2]
    exact (at_of ho.one h1.1).symm
  · rw [atW_none (fun k hk e => h ⟨k, hk, e⟩)]
    by_cases h0 : t.at w (x : Int) = 0
    · exact h0.symm
    · obtain ⟨k, hk, h1, h2, _⟩ := at_mem h0
      exact absurd ⟨k, (hr.had x hx k).2 ⟨hk, h2⟩, h1⟩ h
theorem Rep.fits {t : Tb} {p : Pt} (hr : Rep t p) {x : Nat} (hx : x < 288) (h : Hd) : fitsS (p.had x) h = t.fits h.w (x : Int) h.m := by
  rw [Bool.eq_iff_iff, fitsS_iff]
  show _ ↔ fitsL t.has h.w (x : Int) h.m = true
  rw [fitsL_iff]
  constructor
  · exact fun h1 k hk hkx hkw => h1 k ((hr.had x hx k).2 ⟨hk, hkx⟩) hkw
  · exact fun h1 k hk hkw => h1 k ((hr.had x hx k).1 hk).1 ((hr.had x hx k).1 hk).2 hkw
theorem mem_giveL {l : List Hd} {h k : Hd} (h1 : OneL l) : k ∈ giveL l h ↔ k = h ∨ (k ∈ l ∧ ¬ (k.w = h.w ∧ k.x = h.x)) := by
  constructor
  · exact mem_give_other h1
  · intro hk
    induction l with
    | nil =>
      rcases hk with rfl | hk
      · exact List.mem_singleton.2 rfl
      · exact absurd hk.1 (by simp)
    | cons q l ih =>
      have hp := List.pairwise_cons.1 h1
      unfold giveL
      by_cases hq : q.w = h.w ∧ q.x = h.x
      · rw [if_pos hq]
        rcases hk with rfl | ⟨hk, hn⟩
        · exact List.mem_cons_self ..
        · rcases List.mem_cons.1 hk with rfl | hk
          · exact absurd hq hn
          · exact List.mem_cons_of_mem _ hk
      · rw [if_neg hq]
        rcases hk with rfl | ⟨hk, hn⟩
        · exact List.mem_cons_of_mem _ (ih hp.2 (.inl rfl))
        · rcases List.mem_cons.1 hk with rfl | hk
          · exact List.mem_cons_self ..
          · exact List.mem_cons_of_mem _ (ih hp.2 (.inr ⟨hk, hn⟩))
theorem Rep.give {t : Tb} {p : Pt} (hr : Rep t p) (ho : t.ok) {x : Nat} (hx : x < 288) {h : Hd} (hh : h.x = (x : Int)) : Rep (t.give h) (p.setHad x (putS h (p.had x))) := by
  refine ⟨fun y hy k => ?_, fun y hy => ?_, hr.row⟩
  · show k ∈ setF p.had x _ y ↔ k ∈ giveL t.has h ∧ _
    rw [mem_giveL ho.one]
    by_cases e : y = x
    · subst e
      rw [setF_same, mem_put (hr.srt y hy), hr.had y hy]
      constructor
      · rintro (rfl | ⟨⟨h1, h2⟩, h3⟩)
        · exact ⟨.inl rfl, hh⟩
        · exact ⟨.inr ⟨h1, fun e => h3 e.1⟩, h2⟩
      · rintro ⟨rfl | ⟨h1, h2⟩, h3⟩
        · exact .inl rfl
        · exact .inr ⟨⟨h1, h3⟩, fun e => h2 ⟨e, h3.trans hh.symm⟩⟩
    · rw [setF_other _ _ e, hr.had y hy]
      constructor
      · exact fun h1 => ⟨.inr ⟨h1.1, fun e2 => e (by have := e2.2.symm.trans h1.2; omega)⟩, h1.2⟩
      · rintro ⟨rfl | h1, h2⟩
        · exact absurd (by omega) e
        · exact ⟨h1.1, h2⟩
  · show SortW (setF p.had x _ y)
    by_cases e : y = x
    · subst e
      rw [setF_same]
      exact sort_put (hr.srt y hy)
    · rw [setF_other _ _ e]
      exact hr.srt y hy
/-- One waits no more. -/
theorem Rep.away {t : Tb} {p : Pt} (hr : Rep t p) (ho : t.ok) {h : Hd} (hh : h ∈ t.row) {x : Nat} (hx : x < 288) (hx2 : h.x = (x : Int)) : Rep (t.away h.w) (p.setRow x (awayL (p.row x) h.w)) := by
  refine ⟨hr.had, hr.srt, fun y hy => ?_⟩
  show setF p.row x _ y = queL (awayL t.row h.w) y
  rw [que_away]
  by_cases e : y = x
  · subst e
    rw [setF_same, hr.row y hy]
    rfl
  · rw [setF_other _ _ e, hr.row y hy]
    refine (away_self (fun q hq e2 => e ?_)).symm
    have hm := mem_que.1 hq
    have h1 := wt_of ho.rone hh
    have h2 := wt_of ho.rone hm.1
    rw [e2, h1] at h2
    injection h2 with h2
    rw [h2] at hx2
    have := hm.2.symm.trans hx2
    omega
theorem Rep.idle {t : Tb} {p : Pt} (hr : Rep t p) {w : Int} (hw : t.wt w = none) : Rep (t.away w) p := by
  rw [away_none hw]
  exact hr
/-- All locks of one are taken back. -/
theorem Rep.drop {t : Tb} {p : Pt} (hr : Rep t p) (w : Int) : Rep (t.drop w) { p with had := fun x => awayL (p.had x) w } :=
  ⟨fun x hx h => by
    show h ∈ awayL (p.had x) w ↔ h ∈ awayL t.has w ∧ _
    rw [mem_away, mem_away, hr.had x hx]
    constructor
    · rintro ⟨⟨h1, h2⟩, h3⟩
      exact ⟨⟨h1, h3⟩, h2⟩
    · rintro ⟨⟨h1, h3⟩, h2⟩
      exact ⟨⟨h1, h2⟩, h3⟩, fun x hx => sort_away (hr.srt x hx) w, hr.row⟩
/-- Those who wait for one thing are let in. -/
theorem Rep.lets {x : Nat} (hx : x < 288) : ∀ (l : List Hd) {t : Tb} {p : Pt}, Rep t p → t.ok → p.row x = l →
    Rep (letL x l t).1 ((p.setHad x (letS l (p.had x)).1).setRow x (l.drop (letS l (p.had x)).2.length)) ∧ (letL x l t).2 = (letS l (p.had x)).2
  | [], t, p, hr, ho, hl => by
    refine ⟨?_, rfl⟩
    have e1 : setF p.had x (p.had x) = p.had := by
      funext y
      unfold setF
      split
      · subst_vars; rfl
      · rfl
    have e2 : setF p.row x [] = p.row := by
      funext y
      unfold setF
      split
      · subst_vars; exact hl.symm
      · rfl
    show Rep t ⟨setF p.had x (p.had x), setF p.row x ([].drop 0)⟩
    rw [List.drop_nil, e1, e2]
    exact hr
  | h :: l, t, p, hr, ho, hl => by
    have hq := hr.row x hx
    rw [hl] at hq
    have hm := mem_que.1 (show h ∈ queL t.row x by have e : queL t.row x = h :: l := hq.symm; rw [e]; exact List.mem_cons_self ..)
    have hk := ho.rk h hm.1
    unfold letL letS
    rw [hr.fits hx h]
    by_cases hf : t.fits h.w x h.m = true
    · rw [if_pos hf, if_pos hf]
      have hf2 : t.fits h.w h.x h.m = true := by rw [hm.2]; exact hf
      have ho1 := ho.give hk hf2
      have r1 := (hr.give ho hx hm.2).away ho1 (h := h) hm.1 hx hm.2
      have e1 : awayL ((p.setHad x (putS h (p.had x))).row x) h.w = l := by
        show awayL (p.row x) h.w = l
        rw [hl]
        refine away_head ?_
        have : (queL t.row x).Pairwise fun a b => a.w ≠ b.w := ho.rone.filter _
        rwa [show queL t.row x = h :: l from hq.symm] at this
      rw [e1] at r1
      have r2 := Rep.lets hx l r1 (ho1.away h.w) (setF_same _ _ _)
      have e2 : ((p.setHad x (putS h (p.had x))).setRow x l).had x = putS h (p.had x) := setF_same _ _ _
      rw [e2] at r2
      refine ⟨?_, by rw [r2.2]⟩
      have r3 := r2.1
      have e3 : ∀ (H R : List Hd), (((p.setHad x (putS h (p.had x))).setRow x l).setHad x H).setRow x R = (p.setHad x H).setRow x R := by
        intro H R
        have e4 : setF (setF p.had x (putS h (p.had x))) x H = setF p.had x H := by
          funext y; unfold setF; split <;> rfl
        have e5 : setF (setF p.row x l) x R = setF p.row x R := by
          funext y; unfold setF; split <;> rfl
        show (⟨setF (setF p.had x (putS h (p.had x))) x H, setF (setF p.row x l) x R⟩ : Pt) = ⟨setF p.had x H, setF p.row x R⟩
        rw [e4, e5]
      rw [e3] at r3
      simpa using r3
    · rw [if_neg hf, if_neg hf]
      refine ⟨?_, rfl⟩
      have e1 : setF p.had x (p.had x) = p.had := by
        funext y
        unfold setF
        split
        · subst_vars; rfl
        · rfl
      have e2 : setF p.row x (h :: l) = p.row := by
        funext y
        unfold setF
        split
        · subst_vars; exact hl.symm
        · rfl
      show Rep t ⟨setF p.had x (p.had x), setF p.row x ((h :: l).drop 0)⟩
      rw [List.drop_zero, e1, e2]
      exact hr
/-- What 'look' makes of the places, n of them from x on. -/
def lookS : Nat → Nat → Pt → Pt × List Int
  | 0, _, p => (p, [])
  | n + 1, x, p =>
    let q := (p.setHad x (letS (p.row x) (p.had x)).1).setRow x ((p.row x).drop (letS (p.row x) (p.had x)).2.length)
    ((lookS n (x + 1) q).1, (letS (p.row x) (p.had x)).2 ++ (lookS n (x + 1) q).2)
theorem Rep.looks : ∀ (n x : Nat) {t : Tb} {p : Pt}, Rep t p → t.ok → x + n ≤ 288 → Rep (lookL n x t).1 (lookS n x p).1 ∧ (lookL n x t).2 = (lookS n x p).2
  | 0, _, t, p, hr, _, _ => ⟨hr, rfl⟩
  | n + 1, x, t, p, hr, ho, hx => by
    have hrow := hr.row x (by omega)
    have r1 := Rep.lets (show x < 288 by omega) (p.row x) hr ho rfl
    have hok : (letL x (t.que x) t).1.ok := let_ok x _ t ho (fun q hq => by
      have hm := mem_que.1 hq
      have := ho.rk q hm.1
      exact ⟨this.1, this.2.1, this.2.2, hm.2⟩)
    unfold lookL lookS
    rw [hrow] at r1 ⊢
    have r2 := Rep.looks n (x + 1) r1.1 hok (by omega)
    have e : ((x + 1 : Nat) : Int) = (x : Int) + 1 := by omega
    rw [e] at r2
    exact ⟨r2.1, by rw [r1.2, r2.2]⟩
end Go.Proofs.Ytmlbghloddiflaa
