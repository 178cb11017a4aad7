/-
  A directory: where each page is. Of no program.
-/
import Derived.Test.YtpbdachbefafiaaRowMem
namespace Go.Proofs.Ytpbdachbefafiaa
open Go.RowKit
set_option linter.unusedVariables false

/-- Where a page is: its kind, its node. -/
structure Sp where
  k : Int
  m : Int
structure Dr where
  n : Nat
  sp : Nat → Sp
def Sp.home : Sp := ⟨0, 0⟩
def Dr.set (d : Dr) (i : Nat) (s : Sp) : Dr := { d with sp := fun j => if j = i then s else d.sp j }
def Dr.new (p : Int) : Dr := ⟨(min (max p 1) 32).toNat, fun _ => Sp.home⟩
theorem Dr.set_same (d : Dr) (i : Nat) (s : Sp) : (d.set i s).sp i = s := by simp [Dr.set]
theorem Dr.set_ne (d : Dr) (i j : Nat) (s : Sp) (h : j ≠ i) : (d.set i s).sp j = d.sp j := by simp [Dr.set, h]
/-- The page of a number. -/
def Dr.ix (d : Dr) (p : Int) : Option Nat := if 0 ≤ p ∧ p < d.n then some p.toNat else none
theorem Dr.ix_some {d : Dr} {p : Int} {i : Nat} (h : d.ix p = some i) : p = (i : Int) ∧ i < d.n := by
  unfold Dr.ix at h
  split at h
  · injection h with h
    omega
  · cases h
theorem Dr.ix_none {d : Dr} {p : Int} (h : d.ix p = none) : ¬ (0 ≤ p ∧ p < d.n) := by
  unfold Dr.ix at h
  split at h
  · cases h
  · assumption
theorem Dr.ix_lt (d : Dr) {i : Nat} (h : i < d.n) : d.ix (i : Int) = some i := by
  unfold Dr.ix
  rw [if_pos (by omega), Int.toNat_natCast]
def isNd (x : Int) : Bool := decide (0 ≤ x) && decide (x < 8)
theorem isNd_iff {x : Int} : isNd x = true ↔ 0 ≤ x ∧ x < 8 := by simp [isNd]
abbrev Dr.is (d : Dr) (i : Nat) (k m : Int) : Prop := (d.sp i).k = k ∧ (d.sp i).m = m

/-- Where. -/
def Dr.wh (d : Dr) (p : Int) : Sp := match d.ix p with | none => Sp.home | some i => d.sp i
/-- From one spot to another one. -/
def Dr.mvE (d : Dr) (p m k : Int) : Int := match d.ix p with | none => 1 | some i => if isNd m = true then if d.is i k m then 0 else 13 else 1
def Dr.mv (d : Dr) (p m k : Int) (t : Sp) : Dr := match d.ix p with | none => d | some i => if isNd m = true then if d.is i k m then d.set i t else d else d
def Dr.askN (d : Dr) (p m : Int) : Int := match d.ix p with | none => 0 | some i => if isNd m = true then if (d.sp i).k = 0 then -1 else if d.is i 1 m then m else (d.sp i).m else 0
def Dr.askE (d : Dr) (p m : Int) : Int := match d.ix p with | none => 1 | some i => if isNd m = true then if (d.sp i).k = 0 then 0 else if d.is i 1 m then 0 else 12 else 1
def Dr.ask (d : Dr) (p m : Int) : Dr := match d.ix p with | none => d | some i => if isNd m = true then if (d.sp i).k = 0 then d.set i ⟨1, m⟩ else d else d
def Dr.shE (d : Dr) (p a b : Int) : Int := if isNd b = true then if a = b then 1 else d.mvE p a 1 else 1
def Dr.sh (d : Dr) (p a b : Int) : Dr := if isNd b = true then if a = b then d else d.mv p a 1 ⟨2, b⟩ else d
def Dr.laE (d : Dr) (p a : Int) : Int := d.mvE p a 2
def Dr.la (d : Dr) (p a : Int) : Dr := d.mv p a 2 ⟨1, a⟩
def Dr.leE (d : Dr) (p a : Int) : Int := d.mvE p a 1
def Dr.le (d : Dr) (p a : Int) : Dr := d.mv p a 1 Sp.home
def Dr.heE (d : Dr) (p : Int) : Int := match d.ix p with | none => 1 | some i => if (d.sp i).k = 3 then 0 else 13
def Dr.he (d : Dr) (p : Int) : Dr := match d.ix p with | none => d | some i => if (d.sp i).k = 3 then d.set i Sp.home else d
/-- Of. -/
def Dr.ofTo (d : Dr) (m k : Int) : Nat → List Int
  | 0 => []
  | j + 1 => d.ofTo m k j ++ if d.is j k m then [(j : Int)] else []
def Dr.of (d : Dr) (m k : Int) : List Int := if k = 0 then [] else d.ofTo m k d.n
/-- Fail. -/
abbrev Dr.goes (d : Dr) (i : Nat) (m : Int) : Prop := (d.sp i).m = m ∧ ((d.sp i).k = 1 ∨ (d.sp i).k = 2)

def Dr.faTo (d : Dr) (m : Int) : Nat → List Int
  | 0 => []
  | j + 1 => d.faTo m j ++ if d.goes j m then [(j : Int)] else []
def Dr.faD (d : Dr) (m : Int) (j : Nat) : Dr := { d with sp := fun i => if i < j ∧ d.goes i m then ⟨3, m⟩ else d.sp i }
def Dr.fa (d : Dr) (m : Int) : Dr := d.faD m d.n
def Dr.faL (d : Dr) (m : Int) : List Int := d.faTo m d.n
theorem Dr.ofTo_yes (d : Dr) (m k : Int) (j : Nat) (h : d.is j k m) : d.ofTo m k (j + 1) = d.ofTo m k j ++ [(j : Int)] := by rw [Dr.ofTo, if_pos h]
theorem Dr.ofTo_no (d : Dr) (m k : Int) (j : Nat) (h : ¬ d.is j k m) : d.ofTo m k (j + 1) = d.ofTo m k j := by rw [Dr.ofTo, if_neg h, List.append_nil]
theorem Dr.ofTo_len (d : Dr) (m k : Int) : ∀ j, (d.ofTo m k j).length ≤ j
  | 0 => Nat.le_refl _
  | j + 1 => by
    have := d.ofTo_len m k j
    by_cases h : d.is j k m
    · rw [d.ofTo_yes m k j h, List.length_append]; simp; omega
    · rw [d.ofTo_no m k j h]; omega
theorem Dr.faTo_yes (d : Dr) (m : Int) (j : Nat) (h : d.goes j m) : d.faTo m (j + 1) = d.faTo m j ++ [(j : Int)] := by rw [Dr.faTo, if_pos h]
theorem Dr.faTo_no (d : Dr) (m : Int) (j : Nat) (h : ¬ d.goes j m) : d.faTo m (j + 1) = d.faTo m j := by rw [Dr.faTo, if_neg h, List.append_nil]
theorem Dr.faTo_len (d : Dr) (m : Int) : ∀ j, (d.faTo m j).length ≤ j
  | 0 => Nat.le_refl _
  | j + 1 => by
    have := d.faTo_len m j
    by_cases h : d.goes j m
    · rw [d.faTo_yes m j h, List.length_append]; simp; omega
    · rw [d.faTo_no m j h]; omega
theorem Dr.ext' {a b : Dr} (h1 : a.n = b.n) (h2 : ∀ i, a.sp i = b.sp i) : a = b := by
  obtain ⟨n, f⟩ := a
  obtain ⟨m, g⟩ := b
  obtain rfl : n = m := h1
  obtain rfl : f = g := funext h2
  rfl
theorem Dr.faD_zero (d : Dr) (m : Int) : d.faD m 0 = d := Dr.ext' rfl (fun i => by simp [Dr.faD])
theorem Dr.faD_at (d : Dr) (m : Int) (j : Nat) : (d.faD m j).sp j = d.sp j := by simp [Dr.faD]
theorem Dr.faD_yes (d : Dr) (m : Int) (j : Nat) (h : d.goes j m) : d.faD m (j + 1) = (d.faD m j).set j ⟨3, m⟩ := by
  refine Dr.ext' rfl (fun i => ?_)
  by_cases e : i = j
  · rw [e, Dr.set_same]
    show (if j < j + 1 ∧ d.goes j m then _ else _) = _
    rw [if_pos ⟨Nat.lt_succ_self _, h⟩]
  · rw [Dr.set_ne _ _ _ _ e]
    show (if i < j + 1 ∧ d.goes i m then (⟨3, m⟩ : Sp) else d.sp i) = if i < j ∧ d.goes i m then ⟨3, m⟩ else d.sp i
    by_cases g : d.goes i m
    · by_cases l : i < j
      · rw [if_pos ⟨by omega, g⟩, if_pos ⟨l, g⟩]
      · rw [if_neg (fun x => l (by omega)), if_neg (fun x => l x.1)]
    · rw [if_neg (fun x => g x.2), if_neg (fun x => g x.2)]
theorem Dr.faD_no (d : Dr) (m : Int) (j : Nat) (h : ¬ d.goes j m) : d.faD m (j + 1) = d.faD m j := by
  refine Dr.ext' rfl (fun i => ?_)
  show (if i < j + 1 ∧ d.goes i m then (⟨3, m⟩ : Sp) else d.sp i) = if i < j ∧ d.goes i m then ⟨3, m⟩ else d.sp i
  by_cases g : d.goes i m
  · have : i ≠ j := fun e => h (e ▸ g)
    by_cases l : i < j
    · rw [if_pos ⟨by omega, g⟩, if_pos ⟨l, g⟩]
    · rw [if_neg (fun x => l (by omega)), if_neg (fun x => l x.1)]
  · rw [if_neg (fun x => g x.2), if_neg (fun x => g x.2)]
/-- What every directory keeps to. -/
structure Dr.ok (d : Dr) : Prop where
  few : d.n ≤ 32
  some : 1 ≤ d.n
  kind : ∀ i, 0 ≤ (d.sp i).k ∧ (d.sp i).k ≤ 3
  node : ∀ i, 0 ≤ (d.sp i).m ∧ (d.sp i).m < 8
  home : ∀ i, (d.sp i).k = 0 → (d.sp i).m = 0
theorem Dr.new_ok (p : Int) : (Dr.new p).ok := ⟨by unfold Dr.new; simp only; omega, by unfold Dr.new; simp only; omega, fun i => ⟨Int.le_refl 0, by show (0 : Int) ≤ 3; omega⟩, fun i => ⟨Int.le_refl 0, by show (0 : Int) < 8; omega⟩, fun i _ => rfl⟩
theorem Dr.ok.set {d : Dr} (h : d.ok) (i : Nat) (s : Sp) (h1 : 0 ≤ s.k ∧ s.k ≤ 3) (h2 : 0 ≤ s.m ∧ s.m < 8) (h3 : s.k = 0 → s.m = 0) : (d.set i s).ok := by
  refine ⟨h.few, h.some, fun j => ?_, fun j => ?_, fun j => ?_⟩ <;>
  · by_cases e : j = i
    · rw [e, Dr.set_same]; assumption
    · rw [Dr.set_ne _ _ _ _ e]
      first | exact h.kind j | exact h.node j | exact h.home j
theorem Dr.ok.fa {d : Dr} (h : d.ok) (m : Int) : (d.fa m).ok := by
  have key : ∀ i, (d.fa m).sp i = d.sp i ∨ ((d.fa m).sp i = ⟨3, m⟩ ∧ (d.sp i).m = m) := by
    intro i
    show (if i < d.n ∧ d.goes i m then (⟨3, m⟩ : Sp) else d.sp i) = d.sp i ∨ ((if i < d.n ∧ d.goes i m then (⟨3, m⟩ : Sp) else d.sp i) = ⟨3, m⟩ ∧ (d.sp i).m = m)
    by_cases c : i < d.n ∧ d.goes i m
    · rw [if_pos c]
      exact .inr ⟨rfl, c.2.1⟩
    · rw [if_neg c]
      exact .inl rfl
  refine ⟨h.few, h.some, fun i => ?_, fun i => ?_, fun i => ?_⟩
  · rcases key i with e | ⟨e, _⟩ <;> rw [e]
    · exact h.kind i
    · exact ⟨by show (0 : Int) ≤ 3; omega, by show (3 : Int) ≤ 3; omega⟩
  · rcases key i with e | ⟨e, e2⟩ <;> rw [e]
    · exact h.node i
    · have := h.node i
      rw [e2] at this
      exact this
  · rcases key i with e | ⟨e, e2⟩ <;> rw [e]
    · exact h.home i
    · intro (x : (3 : Int) = 0)
      omega
theorem Dr.ok.mv {d : Dr} (h : d.ok) (p m k : Int) (t : Sp) (h1 : 0 ≤ t.k ∧ t.k ≤ 3) (h2 : isNd m = true → 0 ≤ t.m ∧ t.m < 8) (h3 : t.k = 0 → t.m = 0) : (d.mv p m k t).ok := by
  unfold Dr.mv
  cases d.ix p with
  | none => exact h
  | some i =>
    show (if isNd m = true then if d.is i k m then d.set i t else d else d).ok
    by_cases c : isNd m = true
    · rw [if_pos c]
      by_cases c2 : d.is i k m
      · rw [if_pos c2]; exact h.set i t h1 (h2 c) h3
      · rw [if_neg c2]; exact h
    · rw [if_neg c]; exact h
theorem Dr.ok.sh {d : Dr} (h : d.ok) (p a b : Int) : (d.sh p a b).ok := by
  unfold Dr.sh
  by_cases c : isNd b = true
  · rw [if_pos c]
    by_cases c2 : a = b
    · rw [if_pos c2]; exact h
    · rw [if_neg c2]
      exact h.mv p a 1 ⟨2, b⟩ ⟨by show (0 : Int) ≤ 2; omega, by show (2 : Int) ≤ 3; omega⟩ (fun _ => isNd_iff.1 c) (fun (x : (2 : Int) = 0) => by omega)
  · rw [if_neg c]; exact h
theorem Dr.ok.la {d : Dr} (h : d.ok) (p a : Int) : (d.la p a).ok :=
  h.mv p a 2 ⟨1, a⟩ ⟨by show (0 : Int) ≤ 1; omega, by show (1 : Int) ≤ 3; omega⟩ (fun c => isNd_iff.1 c) (fun (x : (1 : Int) = 0) => by omega)
theorem Dr.ok.le {d : Dr} (h : d.ok) (p a : Int) : (d.le p a).ok :=
  h.mv p a 1 Sp.home ⟨by show (0 : Int) ≤ 0; omega, by show (0 : Int) ≤ 3; omega⟩ (fun c => ⟨by show (0 : Int) ≤ 0; omega, by show (0 : Int) < 8; omega⟩) (fun _ => rfl)
theorem Dr.ok.ask {d : Dr} (h : d.ok) (p m : Int) : (d.ask p m).ok := by
  unfold Dr.ask
  cases d.ix p with
  | none => exact h
  | some i =>
    show (if isNd m = true then if (d.sp i).k = 0 then d.set i ⟨1, m⟩ else d else d).ok
    by_cases c : isNd m = true
    · rw [if_pos c]
      by_cases c2 : (d.sp i).k = 0
      · rw [if_pos c2]; exact h.set i ⟨1, m⟩ ⟨by show (0 : Int) ≤ 1; omega, by show (1 : Int) ≤ 3; omega⟩ (isNd_iff.1 c) (fun (x : (1 : Int) = 0) => by omega)
      · rw [if_neg c2]; exact h
    · rw [if_neg c]; exact h
theorem Dr.ok.he {d : Dr} (h : d.ok) (p : Int) : (d.he p).ok := by
  unfold Dr.he
  cases d.ix p with
  | none => exact h
  | some i =>
    show (if (d.sp i).k = 3 then d.set i Sp.home else d).ok
    by_cases c2 : (d.sp i).k = 3
    · rw [if_pos c2]; exact h.set i Sp.home ⟨by show (0 : Int) ≤ 0; omega, by show (0 : Int) ≤ 3; omega⟩ ⟨by show (0 : Int) ≤ 0; omega, by show (0 : Int) < 8; omega⟩ (fun _ => rfl)
    · rw [if_neg c2]; exact h
end Go.Proofs.Ytpbdachbefafiaa
