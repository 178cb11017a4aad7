/-
  A pool: its frames, and the hand that goes round. Of no program.
-/
import Derived.Test.YthigibgokbmehaaRowMem
namespace Go.Proofs.Ythigibgokbmehaa
open Go.RowKit
set_option linter.unusedVariables false

/-- The first place below a number at which something holds. -/
def look (q : Nat → Bool) : Nat → Option Nat
  | 0 => none
  | n + 1 => match look q n with
    | some i => some i
    | none => if q n then some n else none
theorem look_some {q : Nat → Bool} : ∀ {n i : Nat}, look q n = some i ↔ i < n ∧ q i = true ∧ ∀ k, k < i → q k = false
  | 0, i => by simp [look]
  | n + 1, i => by
    have ih := @look_some q n
    unfold look
    cases e : look q n with
    | some j =>
      have hj := ih.1 e
      constructor
      · intro h
        injection h with h
        subst h
        exact ⟨by omega, hj.2.1, hj.2.2⟩
      · rintro ⟨h1, h2, h3⟩
        show some j = some i
        congr 1
        rcases Nat.lt_trichotomy j i with g | g | g
        · rw [h3 j g] at hj
          exact absurd hj.2.1 (by decide)
        · exact g
        · rw [hj.2.2 i g] at h2
          exact absurd h2 (by decide)
    | none =>
      have hn : ∀ k, k < n → q k = false := by
        intro k
        induction k using Nat.strongRecOn with
        | _ k ihk =>
          intro hk
          cases g : q k with
          | false => rfl
          | true => rw [ih.2 ⟨hk, g, fun j hj => ihk j hj (by omega)⟩] at e; cases e
      cases g : q n with
      | true =>
        simp only [if_true]
        constructor
        · intro h
          injection h with h
          subst h
          exact ⟨by omega, g, hn⟩
        · rintro ⟨h1, h2, h3⟩
          congr 1
          rcases Nat.lt_trichotomy n i with g' | g' | g'
          · omega
          · exact g'
          · rw [hn i g'] at h2
            exact absurd h2 (by decide)
      | false =>
        simp only [Bool.false_eq_true, if_false]
        constructor
        · intro h
          cases h
        · rintro ⟨h1, h2, h3⟩
          by_cases g' : i = n
          · rw [g', g] at h2
            exact absurd h2 (by decide)
          · rw [hn i (by omega)] at h2
            exact absurd h2 (by decide)
theorem look_none {q : Nat → Bool} {n : Nat} : look q n = none ↔ ∀ k, k < n → q k = false := by
  constructor
  · intro h k
    induction k using Nat.strongRecOn with
    | _ k ih =>
      intro hk
      cases g : q k with
      | false => rfl
      | true => rw [look_some.2 ⟨hk, g, fun j hj => ih j hj (by omega)⟩] at h; cases h
  · intro h
    cases e : look q n with
    | none => rfl
    | some i =>
      have h1 := look_some.1 e
      rw [h i h1.1] at h1
      exact absurd h1.2.1 (by decide)

/-- A frame: is it used, the page, what is held, the mark, the fixes, since when it is dirty. -/
structure Fr where
  u : Bool
  id : Int
  x : Value
  m : Bool
  f : Nat
  r : Int
/-- A pool: what is nothing of what it holds, how many frames, the hand, the frames. -/
structure Po where
  z : Value
  n : Nat
  h : Nat
  fr : Nat → Fr
def Fr.empty (z : Value) : Fr := ⟨false, 0, z, false, 0, 0⟩
def Po.set (p : Po) (i : Nat) (f : Fr) : Po := { p with fr := fun k => if k = i then f else p.fr k }
def Po.at (p : Po) (id : Int) : Option Nat := look (fun i => (p.fr i).u && decide ((p.fr i).id = id)) p.n
def Po.gap (p : Po) : Option Nat := look (fun i => !(p.fr i).u) p.n
def Po.new (z : Value) (k : Int) : Po := ⟨z, (min (max k 1) 16).toNat, 0, fun _ => Fr.empty z⟩
def Po.has (p : Po) (id : Int) : Bool := (p.at id).isSome
def Po.getX (p : Po) (id : Int) : Value := match p.at id with
  | none => p.z
  | some i => (p.fr i).x
def Po.get (p : Po) (id : Int) : Po := match p.at id with
  | none => p
  | some i => p.set i { p.fr i with m := true }
def Po.putE (p : Po) (id : Int) : Int := if id < 0 ∨ 32 ≤ id then 1 else if p.has id = true then 6 else if p.gap = none then 8 else 0
def Po.put (p : Po) (id : Int) (x : Value) : Po := if id < 0 ∨ 32 ≤ id then p else if p.has id = true then p else match p.gap with
  | none => p
  | some i => p.set i ⟨true, id, x, true, 0, 0⟩
def Po.noE (p : Po) (id : Int) : Int := if p.has id = true then 0 else 5
def Po.setP (p : Po) (id : Int) (x : Value) (r : Int) : Po := match p.at id with
  | none => p
  | some i => p.set i { p.fr i with x := x, r := if (p.fr i).r = 0 then r else (p.fr i).r }
def Po.clean (p : Po) (id : Int) : Po := match p.at id with
  | none => p
  | some i => p.set i { p.fr i with r := 0 }
def Po.fix (p : Po) (id : Int) : Po := match p.at id with
  | none => p
  | some i => p.set i { p.fr i with f := (p.fr i).f + 1 }
def Po.unfixE (p : Po) (id : Int) : Int := match p.at id with
  | none => 5
  | some i => if (p.fr i).f = 0 then 13 else 0
def Po.unfix (p : Po) (id : Int) : Po := match p.at id with
  | none => p
  | some i => if (p.fr i).f = 0 then p else p.set i { p.fr i with f := (p.fr i).f - 1 }
def Po.dropE (p : Po) (id : Int) : Int := match p.at id with
  | none => 5
  | some i => if (p.fr i).f = 0 then 0 else 13
def Po.drop (p : Po) (id : Int) : Po := match p.at id with
  | none => p
  | some i => if (p.fr i).f = 0 then p.set i (Fr.empty p.z) else p
def Po.recN (p : Po) (id : Int) : Int := match p.at id with
  | none => 0
  | some i => (p.fr i).r
/-- Where the hand goes next. -/
def nxt (h n : Nat) : Nat := if h + 1 < n then h + 1 else 0
theorem nxt_mod (h n : Nat) (hn : h < n) : (h + 1) % n = nxt h n := by
  unfold nxt
  by_cases g : h + 1 < n
  · rw [if_pos g, Nat.mod_eq_of_lt g]
  · rw [if_neg g, show h + 1 = n by omega, Nat.mod_self]
theorem nxt_lt (h n : Nat) (hn : h < n) : nxt h n < n := by
  unfold nxt
  by_cases g : h + 1 < n
  · rw [if_pos g]; exact g
  · rw [if_neg g]; omega
def Po.on (p : Po) : Po := { p with h := nxt p.h p.n }
/-- May a frame's page go? -/
def Fr.may (f : Fr) : Prop := f.u = true ∧ f.f = 0
abbrev Fr.stays (f : Fr) : Prop := f.u = false ∨ 0 < f.f
def Fr.wane (f : Fr) : Fr := { f with m := false }
/-- So many frames are passed, until a page may go. -/
def Po.walk : Nat → Po → Po × Option Int
  | 0, p => (p, none)
  | k + 1, p => if (p.fr p.h).stays then Po.walk k p.on else if (p.fr p.h).m = true then Po.walk k (p.on.set p.h (p.fr p.h).wane) else (p.on, some (p.fr p.h).id)
theorem Po.walk_succ (k : Nat) (p : Po) : Po.walk (k + 1) p = if (p.fr p.h).stays then Po.walk k p.on else if (p.fr p.h).m = true then Po.walk k (p.on.set p.h (p.fr p.h).wane) else (p.on, some (p.fr p.h).id) := rfl
def Po.vic (p : Po) : Po × Option Int := Po.walk (2 * p.n) p
def Po.vicI (p : Po) : Int := match p.vic.2 with
  | none => 0
  | some i => i
def Po.vicE (p : Po) : Int := match p.vic.2 with
  | none => 8
  | some _ => 0

/-- What every pool keeps to; no page has more fixes than b. -/
structure Po.ok (p : Po) (b : Nat) : Prop where
  n16 : p.n ≤ 16
  hn : p.h < p.n
  ids : ∀ i, i < p.n → (p.fr i).u = true → 0 ≤ (p.fr i).id ∧ (p.fr i).id < 32
  one : ∀ i k, i < p.n → k < p.n → (p.fr i).u = true → (p.fr k).u = true → (p.fr i).id = (p.fr k).id → i = k
  few : ∀ i, i < p.n → (p.fr i).f ≤ b

theorem Po.at_some {p : Po} {id : Int} {i : Nat} : p.at id = some i ↔ i < p.n ∧ ((p.fr i).u = true ∧ (p.fr i).id = id) ∧ ∀ k, k < i → ¬ ((p.fr k).u = true ∧ (p.fr k).id = id) := by
  unfold Po.at
  rw [look_some]
  constructor
  · rintro ⟨h1, h2, h3⟩
    refine ⟨h1, by simpa using h2, fun k hk g => ?_⟩
    have := h3 k hk
    rw [g.1, decide_eq_true g.2] at this
    exact absurd this (by decide)
  · rintro ⟨h1, h2, h3⟩
    refine ⟨h1, by simpa using h2, fun k hk => ?_⟩
    have := h3 k hk
    cases g : (p.fr k).u with
    | false => rfl
    | true => rw [Bool.true_and]; exact decide_eq_false (fun e => this ⟨g, e⟩)
theorem Po.at_none {p : Po} {id : Int} : p.at id = none ↔ ∀ k, k < p.n → ¬ ((p.fr k).u = true ∧ (p.fr k).id = id) := by
  unfold Po.at
  rw [look_none]
  constructor
  · intro h k hk g
    have := h k hk
    rw [g.1, decide_eq_true g.2] at this
    exact absurd this (by decide)
  · intro h k hk
    have := h k hk
    cases g : (p.fr k).u with
    | false => rfl
    | true => rw [Bool.true_and]; exact decide_eq_false (fun e => this ⟨g, e⟩)
theorem Po.gap_some {p : Po} {i : Nat} : p.gap = some i ↔ i < p.n ∧ (p.fr i).u = false ∧ ∀ k, k < i → (p.fr k).u = true := by
  unfold Po.gap
  rw [look_some]
  simp
theorem Po.gap_none {p : Po} : p.gap = none ↔ ∀ k, k < p.n → (p.fr k).u = true := by
  unfold Po.gap
  rw [look_none]
  simp
theorem Po.at_lt {p : Po} {id : Int} {i : Nat} (h : p.at id = some i) : i < p.n := (Po.at_some.1 h).1
/-- A page that is there is found. -/
theorem Po.ok.at_id {p : Po} {b : Nat} (h : p.ok b) {i : Nat} (hi : i < p.n) (hu : (p.fr i).u = true) : p.at (p.fr i).id = some i := by
  cases e : p.at (p.fr i).id with
  | none => exact absurd ⟨hu, rfl⟩ (Po.at_none.1 e i hi)
  | some j =>
    obtain ⟨h1, h2, _⟩ := Po.at_some.1 e
    rw [h.one j i h1 hi h2.1 hu h2.2]
theorem Po.ok.at_range {p : Po} {b : Nat} (h : p.ok b) {id : Int} (hh : p.has id = true) : 0 ≤ id ∧ id < 32 := by
  unfold Po.has at hh
  cases e : p.at id with
  | none => rw [e] at hh; cases hh
  | some i =>
    obtain ⟨h1, h2, _⟩ := Po.at_some.1 e
    rw [← h2.2]
    exact h.ids i h1 h2.1

theorem Po.set_same (p : Po) (i : Nat) (f : Fr) : (p.set i f).fr i = f := by simp [Po.set]
theorem Po.set_ne (p : Po) (i k : Nat) (f : Fr) (h : k ≠ i) : (p.set i f).fr k = p.fr k := by simp [Po.set, h]
/-- A frame turned that keeps its page. -/
theorem Po.ok.turn {p : Po} {b c : Nat} (h : p.ok b) (i : Nat) (f : Fr) (hu : f.u = true → (p.fr i).u = true ∧ f.id = (p.fr i).id) (hc : b ≤ c) (hf : f.f ≤ c) : (p.set i f).ok c := by
  have key : ∀ k, (p.set i f).fr k = if k = i then f else p.fr k := fun k => rfl
  refine ⟨h.n16, h.hn, fun k hk g => ?_, fun k l hk hl g1 g2 g3 => ?_, fun k hk => ?_⟩
  · rw [key] at g ⊢
    by_cases e : k = i
    · rw [if_pos e] at g ⊢
      rw [(hu g).2]
      exact h.ids i (by rw [← e]; exact hk) (hu g).1
    · rw [if_neg e] at g ⊢
      exact h.ids k hk g
  · have a1 : (p.fr k).u = true ∧ ((p.set i f).fr k).id = (p.fr k).id := by
      rw [key] at g1 ⊢
      by_cases e : k = i
      · rw [if_pos e] at g1 ⊢; rw [e]; exact hu g1
      · rw [if_neg e] at g1 ⊢; exact ⟨g1, rfl⟩
    have a2 : (p.fr l).u = true ∧ ((p.set i f).fr l).id = (p.fr l).id := by
      rw [key] at g2 ⊢
      by_cases e : l = i
      · rw [if_pos e] at g2 ⊢; rw [e]; exact hu g2
      · rw [if_neg e] at g2 ⊢; exact ⟨g2, rfl⟩
    exact h.one k l hk hl a1.1 a2.1 (by rw [← a1.2, ← a2.2]; exact g3)
  · rw [key]
    by_cases e : k = i
    · rw [if_pos e]; exact hf
    · rw [if_neg e]
      have hk' : k < p.n := hk
      have := h.few k hk'
      omega
theorem Po.ok.mono {p : Po} {b c : Nat} (h : p.ok b) (hc : b ≤ c) : p.ok c := ⟨h.n16, h.hn, h.ids, h.one, fun i hi => Nat.le_trans (h.few i hi) hc⟩
theorem Po.new_ok (z : Value) (k : Int) : (Po.new z k).ok 0 := by
  refine ⟨?_, ?_, fun i hi g => ?_, fun i k hi hk g => ?_, fun i hi => Nat.le_refl _⟩
  · show (min (max k 1) 16).toNat ≤ 16
    omega
  · show 0 < (min (max k 1) 16).toNat
    omega
  · cases g
  · cases g
theorem Po.ok.get {p : Po} {b : Nat} (h : p.ok b) (id : Int) : (p.get id).ok b := by
  unfold Po.get
  cases e : p.at id with
  | none => exact h
  | some i => exact h.turn i _ (fun g => ⟨g, rfl⟩) (Nat.le_refl _) (h.few i (Po.at_lt e))
theorem Po.ok.setP {p : Po} {b : Nat} (h : p.ok b) (id : Int) (x : Value) (r : Int) : (p.setP id x r).ok b := by
  unfold Po.setP
  cases e : p.at id with
  | none => exact h
  | some i => exact h.turn i _ (fun g => ⟨g, rfl⟩) (Nat.le_refl _) (h.few i (Po.at_lt e))
theorem Po.ok.clean {p : Po} {b : Nat} (h : p.ok b) (id : Int) : (p.clean id).ok b := by
  unfold Po.clean
  cases e : p.at id with
  | none => exact h
  | some i => exact h.turn i _ (fun g => ⟨g, rfl⟩) (Nat.le_refl _) (h.few i (Po.at_lt e))
theorem Po.ok.fix {p : Po} {b : Nat} (h : p.ok b) (id : Int) : (p.fix id).ok (b + 1) := by
  unfold Po.fix
  cases e : p.at id with
  | none => exact h.mono (by omega)
  | some i => exact h.turn i _ (fun g => ⟨g, rfl⟩) (by omega) (Nat.succ_le_succ (h.few i (Po.at_lt e)))
theorem Po.ok.unfix {p : Po} {b : Nat} (h : p.ok b) (id : Int) : (p.unfix id).ok b := by
  unfold Po.unfix
  cases e : p.at id with
  | none => exact h
  | some i =>
    by_cases g : (p.fr i).f = 0
    · simp only [g, if_true]; exact h
    · simp only [g, if_false]
      exact h.turn i _ (fun g => ⟨g, rfl⟩) (Nat.le_refl _) (Nat.le_trans (Nat.sub_le _ _) (h.few i (Po.at_lt e)))
theorem Po.ok.drop {p : Po} {b : Nat} (h : p.ok b) (id : Int) : (p.drop id).ok b := by
  unfold Po.drop
  cases e : p.at id with
  | none => exact h
  | some i =>
    by_cases g : (p.fr i).f = 0
    · simp only [g, if_true]
      exact h.turn i _ (fun g => by cases g) (Nat.le_refl _) (Nat.zero_le _)
    · simp only [g, if_false]; exact h
theorem Po.ok.put {p : Po} {b : Nat} (h : p.ok b) (id : Int) (x : Value) : (p.put id x).ok b := by
  unfold Po.put
  by_cases g1 : id < 0 ∨ 32 ≤ id
  · rw [if_pos g1]; exact h
  · rw [if_neg g1]
    by_cases g2 : p.has id = true
    · rw [if_pos g2]; exact h
    · rw [if_neg g2]
      have g3 : p.at id = none := by
        unfold Po.has at g2
        cases e : p.at id with
        | none => rfl
        | some i => rw [e] at g2; exact absurd rfl g2
      have g4 := Po.at_none.1 g3
      cases e : p.gap with
      | none => exact h
      | some i =>
        have hi := (Po.gap_some.1 e).1
        have key : ∀ k, (p.set i ⟨true, id, x, true, 0, 0⟩).fr k = if k = i then ⟨true, id, x, true, 0, 0⟩ else p.fr k := fun k => rfl
        refine ⟨h.n16, h.hn, fun k hk g => ?_, fun k l hk hl a1 a2 a3 => ?_, fun k hk => ?_⟩
        · rw [key] at g ⊢
          by_cases e : k = i
          · rw [if_pos e]; exact ⟨by show 0 ≤ id; omega, by show id < 32; omega⟩
          · rw [if_neg e] at g ⊢
            exact h.ids k hk g
        · rw [key, key] at a3
          rw [key] at a1 a2
          by_cases e1 : k = i
          · by_cases e2 : l = i
            · rw [e1, e2]
            · rw [if_pos e1, if_neg e2] at a3
              rw [if_neg e2] at a2
              exact absurd ⟨a2, a3.symm⟩ (g4 l hl)
          · by_cases e2 : l = i
            · rw [if_neg e1, if_pos e2] at a3
              rw [if_neg e1] at a1
              exact absurd ⟨a1, a3⟩ (g4 k hk)
            · rw [if_neg e1, if_neg e2] at a3
              rw [if_neg e1] at a1
              rw [if_neg e2] at a2
              exact h.one k l hk hl a1 a2 a3
        · rw [key]
          by_cases e : k = i
          · rw [if_pos e]; exact Nat.zero_le _
          · rw [if_neg e]; exact h.few k hk

/-- Pools that are alike but for marks that are gone, and the hand. -/
structure Wanes (p q : Po) : Prop where
  z : q.z = p.z
  n : q.n = p.n
  fr : ∀ i, q.fr i = p.fr i ∨ q.fr i = (p.fr i).wane
theorem Wanes.refl (p : Po) : Wanes p p := ⟨rfl, rfl, fun _ => .inl rfl⟩
theorem Fr.wane_wane (f : Fr) : f.wane.wane = f.wane := rfl
theorem Wanes.trans {p q r : Po} (h : Wanes p q) (g : Wanes q r) : Wanes p r := ⟨g.z.trans h.z, g.n.trans h.n, fun i => by
  rcases h.fr i with a | a <;> rcases g.fr i with c | c <;> rw [c, a]
  · exact .inl rfl
  · exact .inr rfl
  · exact .inr rfl
  · exact .inr rfl⟩
theorem Wanes.on (p : Po) : Wanes p p.on := ⟨rfl, rfl, fun _ => .inl rfl⟩
theorem Wanes.off (p : Po) : Wanes p (p.on.set p.h (p.fr p.h).wane) := ⟨rfl, rfl, fun i => by
  by_cases e : i = p.h
  · rw [e, Po.set_same]; exact .inr rfl
  · rw [Po.set_ne _ _ _ _ e]; exact .inl rfl⟩
theorem Wanes.u {p q : Po} (h : Wanes p q) (i : Nat) : (q.fr i).u = (p.fr i).u ∧ (q.fr i).id = (p.fr i).id ∧ (q.fr i).x = (p.fr i).x ∧ (q.fr i).f = (p.fr i).f ∧ (q.fr i).r = (p.fr i).r := by
  rcases h.fr i with e | e <;> rw [e] <;> exact ⟨rfl, rfl, rfl, rfl, rfl⟩
theorem Wanes.dim {p q : Po} (h : Wanes p q) (i : Nat) (hm : (p.fr i).m = false) : (q.fr i).m = false := by
  rcases h.fr i with e | e <;> rw [e]
  · exact hm
  · rfl
theorem Wanes.ok {p q : Po} {b : Nat} (h : Wanes p q) (k : p.ok b) (hh : q.h < q.n) : q.ok b := by
  refine ⟨by rw [h.n]; exact k.n16, hh, fun i hi g => ?_, fun i l hi hl g1 g2 g3 => ?_, fun i hi => ?_⟩
  · rw [(h.u i).2.1]
    rw [(h.u i).1] at g
    exact k.ids i (by rw [← h.n]; exact hi) g
  · rw [(h.u i).1] at g1
    rw [(h.u l).1] at g2
    rw [(h.u i).2.1, (h.u l).2.1] at g3
    exact k.one i l (by rw [← h.n]; exact hi) (by rw [← h.n]; exact hl) g1 g2 g3
  · rw [(h.u i).2.2.2.1]
    exact k.few i (by rw [← h.n]; exact hi)
theorem Wanes.at {p q : Po} (h : Wanes p q) (id : Int) : q.at id = p.at id := by
  unfold Po.at
  rw [h.n]
  congr 1
  funext i
  rw [(h.u i).1, (h.u i).2.1]
theorem Wanes.may {p q : Po} (h : Wanes p q) (i : Nat) : (q.fr i).may ↔ (p.fr i).may := by
  unfold Fr.may
  rw [(h.u i).1, (h.u i).2.2.2.1]
theorem Fr.stays_iff (f : Fr) : f.stays ↔ ¬ f.may := by
  unfold Fr.stays Fr.may
  cases f.u <;> simp <;> omega

/-- One step of the hand, and what it leaves. -/
theorem Po.walk_wanes : ∀ (k : Nat) (p : Po), Wanes p (Po.walk k p).1
  | 0, p => Wanes.refl p
  | k + 1, p => by
    unfold Po.walk
    by_cases g : (p.fr p.h).stays
    · rw [if_pos g]
      exact (Wanes.on p).trans (Po.walk_wanes k _)
    · rw [if_neg g]
      by_cases g2 : (p.fr p.h).m = true
      · rw [if_pos g2]
        exact (Wanes.off p).trans (Po.walk_wanes k _)
      · rw [if_neg g2]
        exact Wanes.on p
theorem Po.walk_hand : ∀ (k : Nat) (p : Po), p.h < p.n → (Po.walk k p).1.h < (Po.walk k p).1.n
  | 0, p, h => h
  | k + 1, p, h => by
    unfold Po.walk
    by_cases g : (p.fr p.h).stays
    · rw [if_pos g]
      exact Po.walk_hand k _ (nxt_lt _ _ h)
    · rw [if_neg g]
      by_cases g2 : (p.fr p.h).m = true
      · rw [if_pos g2]
        exact Po.walk_hand k _ (nxt_lt _ _ h)
      · rw [if_neg g2]
        exact nxt_lt _ _ h
/-- Who is told may go, has no mark, and the hand stands behind it. -/
theorem Po.walk_told : ∀ (k : Nat) (p : Po) (v : Int), p.h < p.n → (Po.walk k p).2 = some v → ∃ i, i < p.n ∧ (p.fr i).may ∧ (p.fr i).id = v ∧ ((Po.walk k p).1.fr i).m = false ∧ (Po.walk k p).1.h = nxt i p.n
  | 0, p, v, h, e => by cases e
  | k + 1, p, v, h, e => by
    have e0 := e
    unfold Po.walk at e ⊢
    by_cases g : (p.fr p.h).stays
    · rw [if_pos g] at e ⊢
      exact Po.walk_told k p.on v (nxt_lt _ _ h) e
    · rw [if_neg g] at e ⊢
      by_cases g2 : (p.fr p.h).m = true
      · rw [if_pos g2] at e ⊢
        obtain ⟨i, h1, h2, h3, h4⟩ := Po.walk_told k _ v (nxt_lt _ _ h) e
        exact ⟨i, h1, ((Wanes.off p).may i).1 h2, (((Wanes.off p).u i).2.1).symm.trans h3, h4⟩
      · rw [if_neg g2] at e ⊢
        injection e with e
        refine ⟨p.h, h, ?_, e, by simpa [Po.on] using g2, rfl⟩
        rw [Fr.stays_iff] at g
        exact Classical.not_not.1 g
/-- Nobody may go: the hand goes round. -/
theorem Po.walk_none : ∀ (k : Nat) (p : Po), (∀ i, i < p.n → ¬ (p.fr i).may) → p.h < p.n → (Po.walk k p).2 = none ∧ ∃ h', (Po.walk k p).1 = { p with h := h' } ∧ h' = (p.h + k) % p.n
  | 0, p, _, hn => ⟨rfl, p.h, rfl, (Nat.mod_eq_of_lt hn).symm⟩
  | k + 1, p, h, hn => by
    unfold Po.walk
    rw [if_pos ((Fr.stays_iff _).2 (h _ hn))]
    obtain ⟨h1, h', h2, h3⟩ := Po.walk_none k p.on h (nxt_lt _ _ hn)
    refine ⟨h1, h', h2, h3.trans ?_⟩
    show (nxt p.h p.n + k) % p.n = _
    rw [← nxt_mod _ _ hn, Nat.mod_add_mod]
    congr 1
    omega
theorem Po.vic_none (p : Po) (hn : p.h < p.n) (h : ∀ i, i < p.n → ¬ (p.fr i).may) : p.vic = (p, none) := by
  obtain ⟨h1, h', h2, h3⟩ := Po.walk_none (2 * p.n) p h hn
  have h4 : h' = p.h := by rw [h3, Nat.mul_comm, Nat.add_mul_mod_self_left, Nat.mod_eq_of_lt hn]
  unfold Po.vic
  refine Prod.ext ?_ h1
  rw [h2, h4]
/-- How far a frame is ahead of the hand. -/
def Po.far (p : Po) (j : Nat) : Nat := if p.h ≤ j then j - p.h else j + p.n - p.h
theorem Po.far_next (p : Po) (j : Nat) (hn : p.h < p.n) (hj : j < p.n) (he : j ≠ p.h) (q : Po) (hq : q.h = nxt p.h p.n) (hqn : q.n = p.n) : q.far j + 1 = p.far j := by
  unfold Po.far
  rw [hq, hqn]
  unfold nxt
  by_cases g : p.h + 1 < p.n
  · rw [if_pos g]
    by_cases g1 : p.h ≤ j
    · rw [if_pos g1, if_pos (by omega)]; omega
    · rw [if_neg g1, if_neg (by omega)]; omega
  · rw [if_neg g, if_pos (by omega)]
    by_cases g1 : p.h ≤ j
    · rw [if_pos g1]; omega
    · rw [if_neg g1]; omega
theorem Po.far_self (p : Po) (hn : p.h < p.n) (q : Po) (hq : q.h = nxt p.h p.n) (hqn : q.n = p.n) : q.far p.h + 1 = p.n := by
  unfold Po.far
  rw [hq, hqn]
  unfold nxt
  by_cases g : p.h + 1 < p.n
  · rw [if_pos g, if_neg (by omega)]; omega
  · rw [if_neg g, if_pos (by omega)]; omega
theorem Po.far_lt (p : Po) (j : Nat) (hn : p.h < p.n) (hj : j < p.n) : p.far j < p.n := by
  unfold Po.far
  by_cases g : p.h ≤ j
  · rw [if_pos g]; omega
  · rw [if_neg g]; omega
theorem Po.far_zero (p : Po) (j : Nat) (hn : p.h < p.n) (hj : j < p.n) (h : p.far j = 0) : j = p.h := by
  unfold Po.far at h
  by_cases g : p.h ≤ j
  · rw [if_pos g] at h; omega
  · rw [if_neg g] at h; omega
/-- One that may go and has no mark is reached. -/
theorem Po.walk_some : ∀ (k : Nat) (p : Po) (j : Nat), p.h < p.n → j < p.n → (p.fr j).may → (p.fr j).m = false → p.far j < k → (Po.walk k p).2 ≠ none
  | 0, p, j, _, _, _, _, h => absurd h (by omega)
  | k + 1, p, j, hn, hj, h1, h2, h3 => by
    unfold Po.walk
    by_cases e : j = p.h
    · rw [if_neg (fun g => (Fr.stays_iff _).1 g (e ▸ h1)), if_neg (by rw [← e, h2]; decide)]
      intro c
      cases c
    · by_cases g : (p.fr p.h).stays
      · rw [if_pos g]
        have := p.far_next j hn hj e p.on rfl rfl
        exact Po.walk_some k p.on j (nxt_lt _ _ hn) hj h1 h2 (by omega)
      · rw [if_neg g]
        by_cases g2 : (p.fr p.h).m = true
        · rw [if_pos g2]
          have := p.far_next j hn hj e (p.on.set p.h (p.fr p.h).wane) rfl rfl
          exact Po.walk_some k _ j (nxt_lt _ _ hn) hj (((Wanes.off p).may j).2 h1) ((Wanes.off p).dim j h2) (by omega)
        · rw [if_neg g2]
          intro c
          cases c
/-- Who is passed, and may go, has no mark behind it. -/
theorem Po.walk_dim : ∀ (k : Nat) (p : Po) (j : Nat), p.h < p.n → j < p.n → (p.fr j).may → p.far j < k → (Po.walk k p).2 = none → ((Po.walk k p).1.fr j).m = false
  | 0, p, j, _, _, _, h, _ => absurd h (by omega)
  | k + 1, p, j, hn, hj, h1, h3, h4 => by
    unfold Po.walk at h4 ⊢
    by_cases e : j = p.h
    · have g : ¬ (p.fr p.h).stays := fun g => (Fr.stays_iff _).1 g (e ▸ h1)
      rw [if_neg g] at h4 ⊢
      by_cases g2 : (p.fr p.h).m = true
      · rw [if_pos g2] at h4 ⊢
        refine (Po.walk_wanes k _).dim j ?_
        rw [e, Po.set_same]
        rfl
      · rw [if_neg g2] at h4
        cases h4
    · by_cases g : (p.fr p.h).stays
      · rw [if_pos g] at h4 ⊢
        have := p.far_next j hn hj e p.on rfl rfl
        exact Po.walk_dim k p.on j (nxt_lt _ _ hn) hj h1 (by omega) h4
      · rw [if_neg g] at h4 ⊢
        by_cases g2 : (p.fr p.h).m = true
        · rw [if_pos g2] at h4 ⊢
          have := p.far_next j hn hj e (p.on.set p.h (p.fr p.h).wane) rfl rfl
          exact Po.walk_dim k _ j (nxt_lt _ _ hn) hj (((Wanes.off p).may j).2 h1) (by omega) h4
        · rw [if_neg g2] at h4
          cases h4
theorem Po.walk_add : ∀ (a b : Nat) (p : Po), Po.walk (a + b) p = if (Po.walk a p).2 = none then Po.walk b (Po.walk a p).1 else Po.walk a p
  | 0, b, p => by simp [Po.walk]
  | a + 1, b, p => by
    rw [show a + 1 + b = (a + b) + 1 by omega, Po.walk_succ, Po.walk_succ]
    by_cases g : (p.fr p.h).stays
    · rw [if_pos g, if_pos g]
      exact Po.walk_add a b _
    · rw [if_neg g, if_neg g]
      by_cases g2 : (p.fr p.h).m = true
      · rw [if_pos g2, if_pos g2]
        exact Po.walk_add a b _
      · rw [if_neg g2, if_neg g2]
        rfl
theorem Po.vic_some (p : Po) (hn : p.h < p.n) (j : Nat) (hj : j < p.n) (h : (p.fr j).may) : p.vic.2 ≠ none := by
  unfold Po.vic
  rw [Nat.two_mul, Po.walk_add]
  by_cases g : (Po.walk p.n p).2 = none
  · rw [if_pos g]
    have w := Po.walk_wanes p.n p
    have hh := Po.walk_hand p.n p hn
    have := Po.walk_dim p.n p j hn hj h (p.far_lt j hn hj) g
    refine Po.walk_some p.n _ j hh (by rw [w.n]; exact hj) ((w.may j).2 h) this ?_
    have := Po.far_lt (Po.walk p.n p).1 j hh (by rw [w.n]; exact hj)
    rw [w.n] at this
    exact this
  · rw [if_neg g]
    exact g
theorem Po.vic_wanes (p : Po) : Wanes p p.vic.1 := Po.walk_wanes _ p
theorem Po.ok.vic {p : Po} {b : Nat} (h : p.ok b) : p.vic.1.ok b := (p.vic_wanes).ok h (Po.walk_hand _ p h.hn)
/-- May anybody go? -/
def Po.any (p : Po) : Prop := ∃ i, i < p.n ∧ (p.fr i).may
theorem Po.vicE_iff (p : Po) (hn : p.h < p.n) : p.vicE = 0 ↔ p.any := by
  unfold Po.vicE
  constructor
  · intro h
    cases e : p.vic.2 with
    | none => rw [e] at h; exact absurd h (by decide)
    | some v =>
      obtain ⟨i, h1, h2, _⟩ := Po.walk_told _ p v hn e
      exact ⟨i, h1, h2⟩
  · rintro ⟨j, hj, h⟩
    have := p.vic_some hn j hj h
    cases e : p.vic.2 with
    | none => exact absurd e this
    | some v => rfl
theorem Po.vicE_two (p : Po) : p.vicE = 0 ∨ p.vicE = 8 := by
  unfold Po.vicE
  cases p.vic.2 <;> simp
/-- Who has a mark isn't told, while one without is ahead of it. -/
theorem Po.walk_second : ∀ (k : Nat) (p : Po) (i j : Nat) (v : Int), p.h < p.n → i < p.n → j < p.n → i ≠ j → (p.fr j).may → (p.fr j).m = false → ((p.fr i).stays ∨ (p.fr i).m = true ∨ p.far j < p.far i) → (Po.walk k p).2 = some v → ∃ c, c < p.n ∧ c ≠ i ∧ (p.fr c).may ∧ (p.fr c).id = v
  | 0, p, i, j, v, _, _, _, _, _, _, _, h => by cases h
  | k + 1, p, i, j, v, hn, hi, hj, hne, h1, h2, h3, h4 => by
    unfold Po.walk at h4
    by_cases e : j = p.h
    · rw [if_neg (fun g => (Fr.stays_iff _).1 g (e ▸ h1)), if_neg (by rw [← e, h2]; decide)] at h4
      injection h4 with h4
      exact ⟨j, hj, fun c => hne c.symm, h1, by rw [e]; exact h4⟩
    · by_cases g : (p.fr p.h).stays
      · rw [if_pos g] at h4
        have a := p.far_next j hn hj e p.on rfl rfl
        refine Po.walk_second k p.on i j v (nxt_lt _ _ hn) hi hj hne h1 h2 ?_ h4
        rcases h3 with h3 | h3 | h3
        · exact .inl h3
        · exact .inr (.inl h3)
        · by_cases ei : i = p.h
          · exact .inl (by rw [ei]; exact g)
          · have := p.far_next i hn hi ei p.on rfl rfl
            exact .inr (.inr (by omega))
      · rw [if_neg g] at h4
        by_cases g2 : (p.fr p.h).m = true
        · rw [if_pos g2] at h4
          have a := p.far_next j hn hj e (p.on.set p.h (p.fr p.h).wane) rfl rfl
          have wf := Wanes.off p
          obtain ⟨c, c1, c2, c3, c4⟩ := Po.walk_second k (p.on.set p.h (p.fr p.h).wane) i j v (nxt_lt _ _ hn) hi hj hne ((wf.may j).2 h1) (wf.dim j h2) (by
            by_cases ei : i = p.h
            · have b1 := p.far_self hn (p.on.set p.h (p.fr p.h).wane) rfl rfl
              have b2 := p.far_lt j hn hj
              rw [ei]
              exact .inr (.inr (by omega))
            · have b1 := p.far_next i hn hi ei (p.on.set p.h (p.fr p.h).wane) rfl rfl
              rcases h3 with h3 | h3 | h3
              · refine .inl ?_
                rw [Fr.stays_iff] at h3 ⊢
                exact fun c => h3 ((wf.may i).1 c)
              · exact .inr (.inl (by rw [Po.set_ne _ _ _ _ ei]; exact h3))
              · exact .inr (.inr (by omega))) h4
          exact ⟨c, c1, c2, (wf.may c).1 c3, ((wf.u c).2.1).symm.trans c4⟩
        · rw [if_neg g2] at h4
          injection h4 with h4
          by_cases ei : i = p.h
          · exfalso
            rcases h3 with h3 | h3 | h3
            · rw [ei] at h3; exact g h3
            · rw [ei] at h3; exact g2 h3
            · rw [ei] at h3
              unfold Po.far at h3
              rw [if_pos (Nat.le_refl _)] at h3
              omega
          · exact ⟨p.h, hn, fun c => ei c.symm, Classical.not_not.1 (fun c => g ((Fr.stays_iff _).2 c)), h4⟩
end Go.Proofs.Ythigibgokbmehaa
