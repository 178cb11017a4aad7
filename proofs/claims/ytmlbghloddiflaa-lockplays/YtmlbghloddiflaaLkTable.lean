/-
  What each call makes of a table, place by place and as a whole: of no program but for the names.
-/
import Derived.Test.YtmlbghloddiflaaLkRing
namespace Go.Proofs.Ytmlbghloddiflaa
set_option linter.unusedVariables false

theorem place_spec (t : Tb) (x : Int) : ∀ (l : List Hd) (i a : Nat), (placeL t x l i a = a ∧ ∀ h ∈ l, ¬ (h.x = x ∧ t.at h.w x ≠ 0)) ∨ ∃ A h B, l = A ++ h :: B ∧ placeL t x l i a = i + A.length + 1 ∧ h.x = x ∧ t.at h.w x ≠ 0 ∧ ∀ k ∈ B, ¬ (k.x = x ∧ t.at k.w x ≠ 0)
  | [], i, a => .inl ⟨rfl, fun h hh => absurd hh (by simp)⟩
  | k :: l, i, a => by
    unfold placeL
    rcases place_spec t x l (i + 1) (if k.x = x ∧ t.at k.w x ≠ 0 then i + 1 else a) with ⟨h1, h2⟩ | ⟨A, h, B, h1, h2, h3, h4, h5⟩
    · by_cases hk : k.x = x ∧ t.at k.w x ≠ 0
      · rw [if_pos hk] at h1
        exact .inr ⟨[], k, l, rfl, by rw [if_pos hk, h1]; simp, hk.1, hk.2, h2⟩
      · rw [if_neg hk] at h1
        refine .inl ⟨by rw [if_neg hk, h1], fun h hh => ?_⟩
        rcases List.mem_cons.1 hh with rfl | hh
        · exact hk
        · exact h2 h hh
    · exact .inr ⟨k :: A, h, B, by rw [h1]; rfl, by rw [h2, List.length_cons]; omega, h3, h4, h5⟩
theorem que_append (l m : List Hd) (x : Int) : queL (l ++ m) x = queL l x ++ queL m x := List.filter_append ..
theorem que_cons_in {h : Hd} {x : Int} (e : h.x = x) (l : List Hd) : queL (h :: l) x = h :: queL l x := by simp [queL, e]
theorem que_cons_out {h : Hd} {x : Int} (e : h.x ≠ x) (l : List Hd) : queL (h :: l) x = queL l x := by simp [queL, e]
/-- One who has the thing comes behind the last who has it. -/
theorem que_place {t : Tb} {H : List Hd} {x : Int} (hH : ∀ w, atW H w = t.at w x) (l : List Hd) : queL (l.take (placeL t x l 0 0)) x = (queL l x).take (entN H (queL l x)) ∧ queL (l.drop (placeL t x l 0 0)) x = (queL l x).drop (entN H (queL l x)) := by
  have key : ∀ A B : List Hd, l = A ++ B → placeL t x l 0 0 = A.length → entN H (queL l x) = (queL A x).length → queL (l.take (placeL t x l 0 0)) x = (queL l x).take (entN H (queL l x)) ∧ queL (l.drop (placeL t x l 0 0)) x = (queL l x).drop (entN H (queL l x)) := by
    intro A B e h1 h2
    rw [h1, h2, e, List.take_left, List.drop_left, que_append, List.take_left, List.drop_left]
    exact ⟨rfl, rfl⟩
  rcases place_spec t x l 0 0 with ⟨h1, h2⟩ | ⟨A, h, B, h1, h2, h3, h4, h5⟩
  · refine key [] l rfl h1 ?_
    refine entN_zero H (fun k hk => ?_)
    have hm := mem_que.1 hk
    rw [hH]
    by_cases e : t.at k.w x = 0
    · exact e
    · exact absurd ⟨hm.2, e⟩ (h2 k hm.1)
  · refine key (A ++ [h]) B (by rw [h1]; simp) (by rw [h2]; simp) ?_
    have eq : queL (A ++ [h]) x = queL A x ++ [h] := by rw [que_append, que_cons_in h3]; rfl
    have el : queL l x = (queL A x ++ [h]) ++ queL B x := by rw [h1, que_append, que_cons_in h3]; simp
    rw [eq]
    refine entN_eq H _ (by rw [el]; simp) (fun i k hi hk => ?_) (.inr ⟨h, ?_, by rw [hH]; exact h4⟩)
    · rw [el, List.getElem?_append_right hi] at hk
      have hm := mem_que.1 (List.mem_of_getElem? hk)
      rw [hH]
      by_cases e : t.at k.w x = 0
      · exact e
      · exact absurd ⟨hm.2, e⟩ (h5 k hm.1)
    · rw [el, List.getElem?_append_left (by simp)]
      simp
theorem Rep.queue {t : Tb} {p : Pt} (hr : Rep t p) (ho : t.ok) {x : Nat} (hx : x < 288) {h : Hd} (hh : h.x = (x : Int)) : Rep (t.queue h) (p.setRow x (entS (p.had x) (p.row x) h)) := by
  refine ⟨hr.had, hr.srt, fun y hy => ?_⟩
  have hq : (t.queue h).que (y : Int) = queL (t.row.take (t.place h)) y ++ queL (h :: t.row.drop (t.place h)) y := que_append _ _ _
  have hq0 : t.que (y : Int) = queL (t.row.take (t.place h)) y ++ queL (t.row.drop (t.place h)) y := by
    rw [← que_append, List.take_append_drop]
    rfl
  rw [hq]
  show setF p.row x _ y = _
  by_cases e : y = x
  · subst e
    rw [setF_same, que_cons_in hh, hr.row y hy]
    unfold entS
    have hat : atW (p.had y) h.w = t.at h.w h.x := by rw [hr.at ho hx, hh]
    unfold Tb.place
    by_cases h0 : t.at h.w h.x = 0
    · rw [if_neg (by rw [hat]; simpa using h0), if_neg (by simpa using h0), List.take_length, List.drop_length]
      rfl
    · rw [if_pos (by rw [hat]; exact h0), if_pos h0, hh]
      have hp := que_place (fun w => hr.at ho hx w) t.row
      rw [hp.1, hp.2]
      rfl
  · rw [setF_other _ _ e, que_cons_out (by rw [hh]; omega), hr.row y hy]
    exact hq0
theorem PtOk.weak {t : Tb} {p : Pt} {N M : Nat} (h : PtOk t p N) (hM : N ≤ M) : PtOk t p M := ⟨h.rep, h.tok, fun x hx => Nat.le_trans (h.len x hx) hM⟩
theorem PtOk.give {t : Tb} {p : Pt} {N : Nat} (h : PtOk t p N) {x : Nat} (hx : x < 288) {k : Hd} (hk : whoOk k.w = true ∧ thingOk k.x = true ∧ rgt k.m = true) (hkx : k.x = (x : Int)) (hf : t.fits k.w k.x k.m = true) : PtOk (t.give k) (p.setHad x (putS k (p.had x))) (N + 1) :=
  ⟨h.rep.give h.tok hx hkx, h.tok.give hk hf, fun y hy => by
    have h1 := h.len y hy
    show (setF p.had x (putS k (p.had x)) y).length + (p.row y).length ≤ N + 1
    unfold setF
    split
    · rename_i e
      subst e
      have := put_len k (p.had y)
      omega
    · omega⟩
theorem ent_len (H l : List Hd) (h : Hd) : (entS H l h).length = l.length + 1 := by
  unfold entS
  split
  · rw [List.length_append, List.length_cons, List.length_take, List.length_drop]
    have := entN_le H l
    omega
  · simp
theorem PtOk.queue {t : Tb} {p : Pt} {N : Nat} (h : PtOk t p N) {x : Nat} (hx : x < 288) {k : Hd} (hk : whoOk k.w = true ∧ thingOk k.x = true ∧ rgt k.m = true) (hkx : k.x = (x : Int)) (hw : t.wt k.w = none) : PtOk (t.queue k) (p.setRow x (entS (p.had x) (p.row x) k)) (N + 1) :=
  ⟨h.rep.queue h.tok hx hkx, h.tok.queue hk hw, fun y hy => by
    have h1 := h.len y hy
    show (p.had y).length + (setF p.row x (entS (p.had x) (p.row x) k) y).length ≤ N + 1
    unfold setF
    split
    · rename_i e
      subst e
      rw [ent_len]
      omega
    · omega⟩
theorem setRow_setRow (p : Pt) (x : Nat) (l : List Hd) : (p.setRow x l).setRow x (p.row x) = p := by
  obtain ⟨f, r⟩ := p
  show (⟨f, setF (setF r x l) x (r x)⟩ : Pt) = ⟨f, r⟩
  congr 1
  funext y
  unfold setF
  by_cases e : y = x
  · rw [if_pos e, e]
  · rw [if_neg e, if_neg e]
/-- Who came into the row is taken out of it again. -/
theorem ent_away {H l : List Hd} {h : Hd} (hn : ∀ k ∈ l, k.w ≠ h.w) : awayL (entS H l h) h.w = l := by
  have e1 : ∀ a b : List Hd, awayL (a ++ h :: b) h.w = awayL a h.w ++ awayL b h.w := fun a b => by simp [awayL]
  unfold entS
  split
  · rw [e1, away_self (fun k hk => hn k (List.mem_of_mem_take hk)), away_self (fun k hk => hn k (List.mem_of_mem_drop hk)), List.take_append_drop]
  · have : l ++ [h] = l ++ h :: [] := rfl
    rw [this, e1, away_self hn]
    simp [awayL]
theorem ent_mem (H l : List Hd) (h : Hd) : h ∈ entS H l h := by
  unfold entS
  split <;> simp
/-! ### Stop, Free -/
theorem PtOk.stopped {t : Tb} {p p1 : Pt} {N : Nat} (h : PtOk t p N) {who : Int} (hs : Stopped p who p1) : PtOk (t.away who) p1 N := by
  rcases hs with ⟨rfl, hno⟩ | ⟨k, x, hx, hk, rfl, rfl⟩
  · have hw : t.wt who = none := by
      cases e : t.wt who with
      | none => rfl
      | some k =>
        obtain ⟨hk, rfl⟩ := wt_some e
        obtain ⟨h1, h2⟩ := thing_nat (h.tok.rk k hk).2.1
        exact absurd rfl (hno k.x.toNat k h1 (by rw [h.rep.row _ h1]; exact mem_que.2 ⟨hk, h2⟩))
    exact ⟨h.rep.idle hw, h.tok.away who, h.len⟩
  · have hm := h.mem hx hk
    refine ⟨h.rep.away h.tok hm.1 hx hm.2, h.tok.away _, fun y hy => ?_⟩
    have h1 := h.len y hy
    show (p.had y).length + (setF p.row x (awayL (p.row x) k.w) y).length ≤ N
    unfold setF
    split
    · rename_i e
      subst e
      have h2 : (awayL (p.row y) k.w).length ≤ (p.row y).length := List.length_filter_le _ _
      omega
    · exact h1
theorem look_okP : ∀ (n x : Nat) {p : Pt} {N : Nat}, p.ok N → x + n ≤ 288 → (lookS n x p).1.ok N
  | 0, _, p, N, h, _ => h
  | n + 1, x, p, N, h, hx => by
    unfold lookS
    exact look_okP n (x + 1) (h.lets (by omega)) (by omega)
theorem PtOk.look {t : Tb} {p : Pt} {N : Nat} (h : PtOk t p N) : PtOk t.look.1 (lookAll p).1 N ∧ t.look.2 = (lookAll p).2 := by
  have h1 := Rep.looks 288 0 h.rep h.tok (by omega)
  exact ⟨⟨h1.1, look_ok _ _ _ h.tok, (look_okP 288 0 h.ok (by omega)).len⟩, h1.2⟩
theorem PtOk.dropped {t : Tb} {p : Pt} {N : Nat} (h : PtOk t p N) (who : Int) : PtOk (t.drop who) (p.dropped who) N :=
  ⟨h.rep.drop who, h.tok.drop who, (dropped_ok h.ok who).len⟩
theorem PtOk.zero : PtOk ⟨[], []⟩ Pt.zero 0 := ⟨rep_nil, good_nil.ok, fun x hx => Nat.le_refl _⟩
theorem PtOk.fx {t : Tb} {p : Pt} {N : Nat} (h : PtOk t p N) : ∀ x q, x < 288 → q ∈ p.row x → q.fine ∧ q.x = (x : Int) := fun x q hx hq => h.fine hx hq
end Go.Proofs.Ytmlbghloddiflaa
