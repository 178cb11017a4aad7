/-
  What a directory has behind Fail and Heal: facts that OwnerFails asks. Of no program.
-/
import Derived.Test.YtpbdachbefafiaaOwPlay
namespace Go.Proofs.Ytpbdachbefafiaa
open Go.RowKit
set_option linter.unusedVariables false

section
variable (d : Dr)
theorem Dr.mv_n (p m k : Int) (t : Sp) : (d.mv p m k t).n = d.n := by
  unfold Dr.mv
  cases d.ix p with
  | none => rfl
  | some i =>
    show (if isNd m = true then if d.is i k m then d.set i t else d else d).n = d.n
    split
    · split <;> rfl
    · rfl
theorem Dr.step_n (c : Od) : (d.step c).n = d.n := by
  unfold Dr.step
  split
  · unfold Dr.ask
    cases d.ix c.p with
    | none => rfl
    | some i =>
      show (if isNd c.a = true then if (d.sp i).k = 0 then d.set i ⟨1, c.a⟩ else d else d).n = d.n
      split
      · split <;> rfl
      · rfl
  split
  · unfold Dr.sh
    split
    · split
      · rfl
      · exact d.mv_n _ _ _ _
    · rfl
  split
  · exact d.mv_n _ _ _ _
  split
  · exact d.mv_n _ _ _ _
  split
  · rfl
  split
  · unfold Dr.he
    cases d.ix c.p with
    | none => rfl
    | some i =>
      show (if (d.sp i).k = 3 then d.set i Sp.home else d).n = d.n
      split <;> rfl
  · rfl
theorem playD_n (p : Int) (cs : List Od) : (playD p cs).n = (Dr.new p).n := by
  have key : ∀ (cs : List Od) (d : Dr), (cs.foldl Dr.step d).n = d.n := by
    intro cs
    induction cs with
    | nil => exact fun d => rfl
    | cons c cs ih => exact fun d => (ih _).trans (d.step_n c)
  exact key cs _
theorem Dr.wh_at {i : Nat} (hi : i < d.n) : d.wh (i : Int) = d.sp i := by
  unfold Dr.wh
  rw [d.ix_lt hi]
theorem Dr.wh_out {i : Nat} (hi : ¬ i < d.n) : d.wh (i : Int) = Sp.home := by
  unfold Dr.wh Dr.ix
  rw [if_neg (by omega)]
variable (m : Int)
theorem Dr.faTo_mono {p q : Nat} (h : p ≤ q) : (d.faTo m p).length ≤ (d.faTo m q).length := by
  induction q with
  | zero => obtain rfl : p = 0 := by omega
            exact Nat.le_refl _
  | succ q ih =>
    by_cases e : p = q + 1
    · rw [e]; exact Nat.le_refl _
    · refine Nat.le_trans (ih (by omega)) ?_
      rw [Dr.faTo, List.length_append]
      exact Nat.le_add_right _ _
theorem Dr.faTo_lt {p q : Nat} (h : p < q) (hg : d.goes p m) : (d.faTo m p).length < (d.faTo m q).length := by
  have := d.faTo_mono m (show p + 1 ≤ q from h)
  rw [d.faTo_yes m p hg, List.length_append] at this
  exact this
theorem Dr.faTo_at : ∀ (n : Nat) {p : Nat}, p < n → d.goes p m → (d.faTo m n).getD (d.faTo m p).length 0 = (p : Int)
  | 0, p, h, _ => absurd h (Nat.not_lt_zero _)
  | n + 1, p, h, hg => by
    by_cases e : p = n
    · subst e
      rw [d.faTo_yes m p hg, List.getD_eq_getElem?_getD, List.getElem?_append_right (Nat.le_refl _), Nat.sub_self]
      rfl
    · have h1 : p < n := by omega
      rw [Dr.faTo, List.getD_eq_getElem?_getD, List.getElem?_append_left (d.faTo_lt m h1 hg), ← List.getD_eq_getElem?_getD]
      exact Dr.faTo_at n h1 hg
theorem Dr.faTo_get : ∀ (n i : Nat), i < (d.faTo m n).length → ∃ p, p < n ∧ d.goes p m ∧ (d.faTo m p).length = i
  | 0, i, h => absurd h (Nat.not_lt_zero _)
  | n + 1, i, h => by
    by_cases hg : d.goes n m
    · rw [d.faTo_yes m n hg, List.length_append, List.length_singleton] at h
      by_cases e : i = (d.faTo m n).length
      · exact ⟨n, Nat.lt_succ_self n, hg, e.symm⟩
      · obtain ⟨p, h1, h2⟩ := Dr.faTo_get n i (by omega)
        exact ⟨p, by omega, h2⟩
    · rw [d.faTo_no m n hg] at h
      obtain ⟨p, h1, h2⟩ := Dr.faTo_get n i h
      exact ⟨p, by omega, h2⟩
theorem Dr.faTo_nil : ∀ (n : Nat), (∀ j, j < n → ¬ d.goes j m) → d.faTo m n = []
  | 0, _ => rfl
  | n + 1, h => by
    rw [d.faTo_no m n (h n (Nat.lt_succ_self n))]
    exact Dr.faTo_nil n (fun j hj => h j (by omega))
theorem Dr.ofTo_nil (k : Int) : ∀ (n : Nat), (∀ j, j < n → ¬ d.is j k m) → d.ofTo m k n = []
  | 0, _ => rfl
  | n + 1, h => by
    rw [d.ofTo_no m k n (h n (Nat.lt_succ_self n))]
    exact Dr.ofTo_nil k n (fun j hj => h j (by omega))
theorem Dr.fa_yes {i : Nat} (hi : i < d.n) (hg : d.goes i m) : (d.fa m).sp i = ⟨3, m⟩ := by
  show (if i < d.n ∧ d.goes i m then (⟨3, m⟩ : Sp) else d.sp i) = _
  rw [if_pos ⟨hi, hg⟩]
theorem Dr.fa_no {i : Nat} (hg : ¬ d.goes i m) : (d.fa m).sp i = d.sp i := by
  show (if i < d.n ∧ d.goes i m then (⟨3, m⟩ : Sp) else d.sp i) = _
  rw [if_neg (fun x => hg x.2)]
theorem Dr.fa_goes {j : Nat} (hj : j < d.n) : ¬ (d.fa m).goes j m := by
  intro h
  by_cases hg : d.goes j m
  · have h1 : ((d.fa m).sp j).k = 1 ∨ ((d.fa m).sp j).k = 2 := h.2
    rw [d.fa_yes m hj hg] at h1
    rcases h1 with (e : (3 : Int) = 1) | (e : (3 : Int) = 2) <;> omega
  · unfold Dr.goes at h
    rw [d.fa_no m hg] at h
    exact hg h
theorem Dr.fa_none : (d.fa m).faL m = [] := (d.fa m).faTo_nil m _ (fun j hj => d.fa_goes m hj)
theorem Dr.fa_fa : (d.fa m).fa m = d.fa m := by
  refine Dr.ext' rfl (fun i => ?_)
  show (if i < d.n ∧ (d.fa m).goes i m then (⟨3, m⟩ : Sp) else (d.fa m).sp i) = (d.fa m).sp i
  rw [if_neg (fun x => d.fa_goes m x.1 x.2)]
/-- With the first of the lost pages healed. -/
def Dr.hl (i : Nat) : Dr := { d with sp := fun q => if q < d.n ∧ d.goes q m ∧ (d.faTo m q).length < i then Sp.home else (d.fa m).sp q }
theorem Dr.hl_zero : d.hl m 0 = d.fa m := by
  refine Dr.ext' rfl (fun q => ?_)
  show (if q < d.n ∧ d.goes q m ∧ (d.faTo m q).length < 0 then Sp.home else (d.fa m).sp q) = _
  rw [if_neg (fun x => Nat.not_lt_zero _ x.2.2)]
theorem Dr.hl_he {p i : Nat} (hp : p < d.n) (hg : d.goes p m) (hi : (d.faTo m p).length = i) :
    (d.hl m i).heE (p : Int) = 0 ∧ (d.hl m i).he (p : Int) = d.hl m (i + 1) ∧ (d.hl m (i + 1)).heE (p : Int) = 13 ∧ (d.hl m (i + 1)).he (p : Int) = d.hl m (i + 1) := by
  have ix : ∀ k, (d.hl m k).ix (p : Int) = some p := fun k => (d.hl m k).ix_lt (show p < (d.hl m k).n from hp)
  have s1 : (d.hl m i).sp p = ⟨3, m⟩ := by
    show (if p < d.n ∧ d.goes p m ∧ (d.faTo m p).length < i then Sp.home else (d.fa m).sp p) = _
    rw [if_neg (fun x => by have := x.2.2; omega), d.fa_yes m hp hg]
  have s2 : (d.hl m (i + 1)).sp p = Sp.home := by
    show (if p < d.n ∧ d.goes p m ∧ (d.faTo m p).length < i + 1 then Sp.home else (d.fa m).sp p) = _
    rw [if_pos ⟨hp, hg, by omega⟩]
  have k1 : ((d.hl m i).sp p).k = 3 := by rw [s1]
  have k2 : ¬ ((d.hl m (i + 1)).sp p).k = 3 := by
    rw [s2]
    intro (e : (0 : Int) = 3)
    omega
  have hset : (d.hl m i).set p Sp.home = d.hl m (i + 1) := by
    refine Dr.ext' rfl (fun q => ?_)
    by_cases e : q = p
    · rw [e, Dr.set_same, s2]
    · rw [Dr.set_ne _ _ _ _ e]
      show (if q < d.n ∧ d.goes q m ∧ (d.faTo m q).length < i then Sp.home else (d.fa m).sp q) = if q < d.n ∧ d.goes q m ∧ (d.faTo m q).length < i + 1 then Sp.home else (d.fa m).sp q
      by_cases c : q < d.n ∧ d.goes q m ∧ (d.faTo m q).length < i
      · rw [if_pos c, if_pos ⟨c.1, c.2.1, by omega⟩]
      · rw [if_neg c, if_neg (fun x => c ⟨x.1, x.2.1, by
          have hne : (d.faTo m q).length ≠ i := fun e2 => by
            rcases Nat.lt_or_gt_of_ne e with l | l
            · have := d.faTo_lt m l x.2.1
              omega
            · have := d.faTo_lt m l hg
              omega
          have := x.2.2
          omega⟩)]
  unfold Dr.heE Dr.he
  rw [ix i, ix (i + 1)]
  simp only [k1, k2, if_true, if_false, hset]
  exact ⟨trivial, trivial, trivial, trivial⟩
theorem Dr.hl_of (k : Int) (hk : k = 1 ∨ k = 2) : (d.hl m (d.faL m).length).of m k = [] := by
  have hk0 : ¬ k = 0 := by rcases hk with h | h <;> omega
  unfold Dr.of
  rw [if_neg hk0]
  refine Dr.ofTo_nil _ m k _ (fun j hj => ?_)
  have hj' : j < d.n := hj
  intro h
  have h1 : ((d.hl m (d.faL m).length).sp j).k = k ∧ ((d.hl m (d.faL m).length).sp j).m = m := h
  have e : (d.hl m (d.faL m).length).sp j = if j < d.n ∧ d.goes j m ∧ (d.faTo m j).length < (d.faL m).length then Sp.home else (d.fa m).sp j := rfl
  rw [e] at h1
  by_cases hg : d.goes j m
  · rw [if_pos ⟨hj', hg, d.faTo_lt m hj' hg⟩] at h1
    exact hk0 h1.1.symm
  · rw [if_neg (fun x => hg x.2.1), d.fa_no m hg] at h1
    exact hg ⟨h1.2, by rw [h1.1]; exact hk⟩
end
end Go.Proofs.Ytpbdachbefafiaa
