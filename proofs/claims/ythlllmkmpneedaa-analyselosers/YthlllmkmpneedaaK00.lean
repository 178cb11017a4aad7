/-
  Texts that lean on one another, one behind the other: each opens with its own remark.
-/
import Derived.WalkKit
import Derived.Laws.CopyOwn
import Derived.Lib.ConvBytes
import Derived.Laws.IdiomStrings
import Derived.Laws.BytesArg
import Derived.Lib.AppendStr
import Derived.WalkSpells
import Derived.Laws.OwnMore
import Derived.Laws.ResultCell
import Derived.Laws.Tables
import Derived.Deep.Draws
import Derived.Test.YthlllmkmpneedaaProg
import Derived.Deep.MidRow
import Derived.DeepKeys
import Derived.Laws.StructEq
import Derived.Deep.QuietTactic
import Derived.BigQuiet
import Derived.OpenShut

namespace Go.Proofs.Ythlllmkmpneedaa
open Go.RowKit
set_option linter.unusedVariables false
set_option maxRecDepth 8000
set_option maxHeartbeats 25600000
theorem Qc {p : Prop} (h : p) : Hid p := h
set_option linter.unusedVariables false
structure Pg where
  l : Nat
  u : Nat -> Bool
  s : Nat -> ByteArray
def Pg.zero : Pg := ⟨0, fun _ => false, fun _ => ⟨#[]⟩⟩
def pgA (p : Pg) : Array Value := #[.int .u64 p.l, .bool (p.u 0), .string (p.s 0), .bool (p.u 1), .string (p.s 1), .bool (p.u 2), .string (p.s 2), .bool (p.u 3), .string (p.s 3), .bool (p.u 4), .string (p.s 4), .bool (p.u 5), .string (p.s 5), .bool (p.u 6), .string (p.s 6), .bool (p.u 7), .string (p.s 7)]
theorem lt8 {i : Nat} (h : i < 8) : i = 0 ∨ i = 1 ∨ i = 2 ∨ i = 3 ∨ i = 4 ∨ i = 5 ∨ i = 6 ∨ i = 7 := by omega
theorem pgA_used (p : Pg) (i : Nat) (h : i < 8) : (pgA p)[1 + i * 2]? = some (.bool (p.u i)) := by
  rcases lt8 h with rfl | rfl | rfl | rfl | rfl | rfl | rfl | rfl <;> rfl
theorem pgA_val (p : Pg) (i : Nat) (h : i < 8) : (pgA p)[1 + i * 2 + 1]? = some (.string (p.s i)) := by
  rcases lt8 h with rfl | rfl | rfl | rfl | rfl | rfl | rfl | rfl <;> rfl
abbrev cellOk (u : Bool) (s : ByteArray) : Prop := s.size <= 20 /\ (u = false -> s.size = 0)
def Qve : Nat := 4611686018427387904
abbrev Pg.right (p : Pg) : Prop := p.l <= Qve /\ ∀ i, i < 8 -> cellOk (p.u i) (p.s i)
theorem mk_data (s : ByteArray) : (⟨s.data.toList.toArray⟩ : ByteArray) = s := by
  obtain ⟨⟨l⟩⟩ := s; rfl
theorem data_inj {s t : ByteArray} : s.data.toList = t.data.toList ↔ s = t :=
  ⟨fun h => by rw [<- mk_data s, h, mk_data], fun h => by rw [h]⟩
structure Ch where
  k : Int
  pg : Int
  sl : Int
  o : ByteArray
  n : ByteArray
def Ch.zero : Ch := ⟨0, 0, 0, ⟨#[]⟩, ⟨#[]⟩⟩
def chA (c : Ch) : Array Value := #[.int .i64 c.k, .int .i64 c.pg, .int .i64 c.sl, .string c.o, .string c.n]
abbrev Ch.kindOk (c : Ch) : Prop := c.k = 1 /\ c.o.size = 0 ∨ c.k = 2 ∨ c.k = 3 /\ c.n.size = 0
abbrev Ch.right (c : Ch) : Prop := (0 <= c.pg /\ c.pg <= 31 /\ 0 <= c.sl /\ c.sl <= 7 /\ c.o.size <= 20 /\ c.n.size <= 20) /\ c.kindOk
def Ch.wantU (c : Ch) : Bool := decide (c.k ≠ 1)
def Ch.wantV (c : Ch) : ByteArray := if c.k = 1 then ⟨#[]⟩ else c.o
def Ch.makeU (c : Ch) : Bool := decide (c.k ≠ 3)
def Ch.makeV (c : Ch) : ByteArray := if c.k = 3 then ⟨#[]⟩ else c.n
def Ch.at (c : Ch) : Nat := c.sl.toNat
def Pg.put (p : Pg) (l i : Nat) (u : Bool) (s : ByteArray) : Pg := ⟨l, fun j => if j = i then u else p.u j, fun j => if j = i then s else p.s j⟩
def invE (c : Ch) : Int := if c.right then 0 else 1
def Qfh (c : Ch) : Ch := if c.right then ⟨4 - c.k, c.pg, c.sl, c.n, c.o⟩ else Ch.zero
def Qru (pg sl : Int) (fu : Bool) (fv : ByteArray) (tu : Bool) (tv : ByteArray) : Ch := ⟨if tu = false then 3 else if fu = false then 1 else 2, pg, sl, fv, tv⟩
def ofE (pg sl : Int) (fu : Bool) (fv : ByteArray) (tu : Bool) (tv : ByteArray) : Int :=
  if (fu = false /\ fv.size ≠ 0) ∨ (tu = false /\ tv.size ≠ 0) then 1 else if ¬ (Qru pg sl fu fv tu tv).right then 1 else if fu = false /\ tu = false then 5 else 0
def ofC (pg sl : Int) (fu : Bool) (fv : ByteArray) (tu : Bool) (tv : ByteArray) : Ch := if ofE pg sl fu fv tu tv = 0 then Qru pg sl fu fv tu tv else Ch.zero
theorem Ch.right.at_lt {c : Ch} (h : c.right) : c.at < 8 := by
  have h1 := h.1; unfold Ch.at; omega
theorem Qds (p : Pg) (c : Ch) (l : Nat) (hp : p.right) (hc : c.right) (hl : l <= Qve) : (p.put l c.at c.makeU c.makeV).right := by
  refine ⟨hl, fun i hi => ?_⟩; show cellOk (if i = c.at then c.makeU else p.u i) (if i = c.at then c.makeV else p.s i)
  by_cases h : i = c.at
  · rw [if_pos h, if_pos h]; have h1 := hc.1
    refine ⟨?_, ?_⟩
    · unfold Ch.makeV
      split
      · show (0 : Nat) <= 20; omega
      · exact h1.2.2.2.2.2
    · unfold Ch.makeU Ch.makeV; intro hk; have : c.k = 3 := by simpa using hk
      rw [if_pos this]; rfl
  · rw [if_neg h, if_neg h]; exact hp.2 i hi
theorem Qlg (c : Ch) (h : c.right) : (Qfh c).right /\ (Qfh c).at = c.at /\ (Qfh c).wantU = c.makeU /\ (Qfh c).wantV = c.makeV /\ (Qfh c).makeU = c.wantU /\ (Qfh c).makeV = c.wantV /\ (Qfh c).sl = c.sl := by
  have e : Qfh c = ⟨4 - c.k, c.pg, c.sl, c.n, c.o⟩ := by unfold Qfh; rw [if_pos h]
  rw [e]; obtain ⟨h1, h2⟩ := h
  refine ⟨⟨⟨h1.1, h1.2.1, h1.2.2.1, h1.2.2.2.1, h1.2.2.2.2.2, h1.2.2.2.2.1⟩, ?_⟩, rfl, ?_, ?_, ?_, ?_, rfl⟩
  · unfold Ch.kindOk at h2 |-
    rcases h2 with ⟨h3, h4⟩ | h3 | ⟨h3, h4⟩
    · exact .inr (.inr ⟨by show 4 - c.k = 3; omega, h4⟩)
    · exact .inr (.inl (by show 4 - c.k = 2; omega))
    · exact .inl ⟨by show 4 - c.k = 1; omega, h4⟩
  · unfold Ch.wantU Ch.makeU; exact decide_eq_decide.2 (by show 4 - c.k ≠ 1 ↔ c.k ≠ 3; omega)
  · unfold Ch.wantV Ch.makeV
    by_cases hk : c.k = 3
    · rw [if_pos hk, if_pos (by show 4 - c.k = 1; omega)]
    · rw [if_neg hk, if_neg (by show ¬ 4 - c.k = 1; omega)]
  · unfold Ch.wantU Ch.makeU; exact decide_eq_decide.2 (by show 4 - c.k ≠ 3 ↔ c.k ≠ 1; omega)
  · unfold Ch.wantV Ch.makeV
    by_cases hk : c.k = 1
    · rw [if_pos hk, if_pos (by show 4 - c.k = 3; omega)]
    · rw [if_neg hk, if_neg (by show ¬ 4 - c.k = 3; omega)]
structure Tx where
  t : Int
  s : Int
  f : Nat
  l : Nat
  n : Nat
structure Di where
  p : Int
  r : Nat
def Tx.zero : Tx := ⟨0, 0, 0, 0, 0⟩
def Di.zero : Di := ⟨0, 0⟩
structure Rec where
  k : Int
  l : Nat
  t : Int
  p : Nat
  c : Ch
  n : Nat
  s : Int
  b : Nat
  ts : List Tx
  ds : List Di
def Rec.zero : Rec := ⟨0, 0, 0, 0, Ch.zero, 0, 0, 0, [], []⟩
def txOk (l : Nat) (x : Tx) : Prop := 1 <= x.t /\ x.t <= 1048575 /\ 1 <= x.s /\ x.s <= 3 /\ 1 <= x.f /\ x.f <= x.l /\ x.l < l /\ x.n <= x.l
def diOk (l : Nat) (d : Di) : Prop := 0 <= d.p /\ d.p <= 31 /\ 1 <= d.r /\ d.r < l
def txAt (l : Nat) (ts : List Tx) (i : Nat) : Prop := txOk l (ts.getD i Tx.zero) /\ (0 < i -> (ts.getD (i - 1) Tx.zero).t < (ts.getD i Tx.zero).t)
def diAt (l : Nat) (ds : List Di) (i : Nat) : Prop := diOk l (ds.getD i Di.zero) /\ (0 < i -> (ds.getD (i - 1) Di.zero).p < (ds.getD i Di.zero).p)
def Rec.rows (r : Rec) : Prop := r.ts.length <= 16 /\ r.ds.length <= 32 /\ (∀ i, i < r.ts.length -> txAt r.l r.ts i) /\ (∀ i, i < r.ds.length -> diAt r.l r.ds i) /\ 1 <= r.b /\ r.b < r.l
structure Rec.right (r : Rec) : Prop where
  k1 : 1 <= r.k
  k8 : r.k <= 8
  l1 : 1 <= r.l
  lm : r.l <= Qve
  own : r.k <= 6 -> 1 <= r.t /\ r.t <= 1048575 /\ r.p < r.l
  none : 6 < r.k -> r.t = 0 /\ r.p = 0
  ch : r.k <= 2 -> r.c.right
  noch : 2 < r.k -> r.c = Ch.zero
  next : r.k = 2 -> r.n < r.l
  nonext : r.k ≠ 2 -> r.n = 0
  save : r.k = 6 -> 1 <= r.s /\ r.s <= 8
  nosave : r.k ≠ 6 -> r.s = 0
  check : r.k = 8 -> r.rows
  nocheck : r.k ≠ 8 -> r.b = 0 /\ r.ts = [] /\ r.ds = []
def txOkD (l : Nat) (x : Tx) : Decidable (txOk l x) := inferInstanceAs (Decidable (1 <= x.t /\ x.t <= 1048575 /\ 1 <= x.s /\ x.s <= 3 /\ 1 <= x.f /\ x.f <= x.l /\ x.l < l /\ x.n <= x.l))
def diOkD (l : Nat) (d : Di) : Decidable (diOk l d) := inferInstanceAs (Decidable (0 <= d.p /\ d.p <= 31 /\ 1 <= d.r /\ d.r < l))
def txAtD (l : Nat) (ts : List Tx) (i : Nat) : Decidable (txAt l ts i) :=
  have := txOkD l (ts.getD i Tx.zero)
  inferInstanceAs (Decidable (txOk l (ts.getD i Tx.zero) /\ (0 < i -> (ts.getD (i - 1) Tx.zero).t < (ts.getD i Tx.zero).t)))
def diAtD (l : Nat) (ds : List Di) (i : Nat) : Decidable (diAt l ds i) :=
  have := diOkD l (ds.getD i Di.zero)
  inferInstanceAs (Decidable (diOk l (ds.getD i Di.zero) /\ (0 < i -> (ds.getD (i - 1) Di.zero).p < (ds.getD i Di.zero).p)))
def Rec.rowsD (r : Rec) : Decidable r.rows :=
  have : ∀ i, Decidable (txAt r.l r.ts i) := fun i => txAtD r.l r.ts i
  have : ∀ i, Decidable (diAt r.l r.ds i) := fun i => diAtD r.l r.ds i
  inferInstanceAs (Decidable (r.ts.length <= 16 /\ r.ds.length <= 32 /\ (∀ i, i < r.ts.length -> txAt r.l r.ts i) /\ (∀ i, i < r.ds.length -> diAt r.l r.ds i) /\ 1 <= r.b /\ r.b < r.l))
theorem Qtm (c : Ch) : (c.k = 0 /\ c.pg = 0 /\ c.sl = 0 /\ c.o.data.toList = [] /\ c.n.data.toList = []) ↔ c = Ch.zero := by
  constructor
  · rintro ⟨h1, h2, h3, h4, h5⟩; obtain ⟨k, pg, sl, ⟨o⟩, ⟨n⟩⟩ := c; simp only at h1 h2 h3 h4 h5; subst h1 h2 h3; have e4 : o = #[] := by simpa using h4
    have e5 : n = #[] := by simpa using h5
    subst e4 e5; rfl
  · rintro rfl; exact ⟨rfl, rfl, rfl, rfl, rfl⟩
theorem Qor (r : Rec) : ((1 <= r.k /\ r.k <= 8 /\ 1 <= r.l /\ r.l <= Qve) /\ (r.k <= 6 -> 1 <= r.t /\ r.t <= 1048575 /\ r.p < r.l) /\ (6 < r.k -> r.t = 0 /\ r.p = 0) /\ (r.k <= 2 -> r.c.right) /\ (2 < r.k -> (r.c.k = 0 /\ r.c.pg = 0 /\ r.c.sl = 0 /\ r.c.o.data.toList = [] /\ r.c.n.data.toList = [])) /\ (r.k = 2 -> r.n < r.l) /\ (r.k ≠ 2 -> r.n = 0) /\ (r.k = 6 -> 1 <= r.s /\ r.s <= 8) /\ (r.k ≠ 6 -> r.s = 0) /\ (r.k = 8 -> r.rows) /\ (r.k ≠ 8 -> r.b = 0 /\ r.ts.length = 0 /\ r.ds.length = 0)) ↔ r.right := by
  constructor
  · rintro ⟨⟨h1, h2, h3, h4⟩, h5, h6, h7, h8, h9, h10, h11, h12, h13, h14⟩; exact ⟨h1, h2, h3, h4, h5, h6, h7, fun h => (Qtm _).1 (h8 h), h9, h10, h11, h12, h13, fun h => ⟨(h14 h).1, List.eq_nil_of_length_eq_zero (h14 h).2.1, List.eq_nil_of_length_eq_zero (h14 h).2.2⟩⟩
  · intro h; exact ⟨⟨h.k1, h.k8, h.l1, h.lm⟩, h.own, h.none, h.ch, fun q => (Qtm _).2 (h.noch q), h.next, h.nonext, h.save, h.nosave, h.check, fun q => ⟨(h.nocheck q).1, by rw [(h.nocheck q).2.1]; rfl, by rw [(h.nocheck q).2.2]; rfl⟩⟩
def Rec.rightD (r : Rec) : Decidable r.right :=
  have := r.rowsD
  have : Decidable (r.k <= 6 -> 1 <= r.t /\ r.t <= 1048575 /\ r.p < r.l) := inferInstance
  have : Decidable (6 < r.k -> r.t = 0 /\ r.p = 0) := inferInstance
  have : Decidable (r.k <= 2 -> r.c.right) := inferInstance
  have : Decidable (2 < r.k -> (r.c.k = 0 /\ r.c.pg = 0 /\ r.c.sl = 0 /\ r.c.o.data.toList = [] /\ r.c.n.data.toList = [])) := inferInstance
  have : Decidable (r.k = 6 -> 1 <= r.s /\ r.s <= 8) := inferInstance
  have : Decidable (r.k = 8 -> r.rows) := inferInstance
  have : Decidable (r.k ≠ 8 -> r.b = 0 /\ r.ts.length = 0 /\ r.ds.length = 0) := inferInstance
  decidable_of_iff _ (Qor r)
def Rec.rightB (r : Rec) : Bool := @decide r.right r.rightD
theorem Qdi {r : Rec} (h : r.right) : r.rightB = true := by
  unfold Rec.rightB; exact @decide_eq_true _ r.rightD h
theorem Qck {r : Rec} (h : ¬ r.right) : r.rightB = false := by
  unfold Rec.rightB; exact @decide_eq_false _ r.rightD h
theorem Qbi {r : Rec} : r.rightB = true ↔ r.right := by
  constructor
  · intro h
    by_cases hr : r.right
    · exact hr
    · rw [Qck hr] at h; cases h
  · exact Qdi
set_option linter.unusedVariables false
set_option linter.unusedVariables false
set_option linter.unusedVariables false
def Qmb : Nat -> List Rec -> Prop
  | _, [] => True
  | a, r :: rs => r.right /\ a < r.l /\ Qmb r.l rs
def Qwb : Nat -> List Rec -> Nat
  | a, [] => a
  | _, r :: rs => Qwb r.l rs
theorem Qld : ∀ (rs : List Rec) (a : Nat) (r : Rec), Qmb a (rs ++ [r]) ↔ Qmb a rs /\ r.right /\ Qwb a rs < r.l
  | [], a, r => ⟨fun h => ⟨trivial, h.1, h.2.1⟩, fun h => ⟨h.2.1, h.2.2, trivial⟩⟩
  | q :: rs, a, r => by
    have ih := Qld rs q.l r
    constructor
    · rintro ⟨h1, h2, h3⟩; have h4 := ih.1 h3; exact ⟨⟨h1, h2, h4.1⟩, h4.2⟩
    · rintro ⟨⟨h1, h2, h3⟩, h4⟩; exact ⟨h1, h2, ih.2 ⟨h3, h4⟩⟩
theorem Qzj : ∀ (rs : List Rec) (a : Nat) (r : Rec), Qwb a (rs ++ [r]) = r.l
  | [], _, _ => rfl
  | q :: rs, _, r => Qzj rs q.l r
theorem Qka : ∀ (rs : List Rec) (a : Nat), Qmb a rs -> ∀ r ∈ rs, r.right
  | [], _, _, _, h => nomatch h
  | q :: rs, a, h, r, hr => by
    rcases List.mem_cons.1 hr with rfl | hr
    · exact h.1
    · exact Qka rs q.l h.2.2 r hr
def Qjg : Nat -> List Rec -> Bool
  | _, [] => true
  | a, r :: rs => r.rightB && decide (a < r.l) && Qjg r.l rs
theorem Qra : ∀ (l : List Rec) (a : Nat), Qjg a l = true ↔ Qmb a l
  | [], _ => ⟨fun _ => trivial, fun _ => rfl⟩
  | r :: rs, a => by
    unfold Qjg Qmb; rw [Bool.and_eq_true, Bool.and_eq_true, decide_eq_true_iff, Qbi, Qra rs r.l, and_assoc]
theorem Qdt : ∀ (l : List Rec) (a : Nat), Qmb a l -> a <= Qwb a l
  | [], _, _ => Nat.le_refl _
  | q :: rs, a, h => by
    have := Qdt rs q.l h.2.2; have := h.2.1; show a <= Qwb q.l rs; omega
theorem Qle : ∀ (l : List Rec) (a : Nat), Qmb a l -> ∀ r ∈ l, a < r.l /\ r.l <= Qwb a l
  | [], _, _, _, h => nomatch h
  | q :: rs, a, h, r, hr => by
    have h1 := Qdt rs q.l h.2.2
    rcases List.mem_cons.1 hr with rfl | hr
    · exact ⟨h.2.1, h1⟩
    · have := Qle rs q.l h.2.2 r hr; have := h.2.1; show a < r.l /\ r.l <= Qwb q.l rs; omega
theorem Qie {l : List Rec} {s : Rec} (h : Qmb 0 (l ++ [s])) : Qmb 0 l /\ s.right /\ ∀ r ∈ l, r.l < s.l := by
  obtain ⟨h1, h2, h3⟩ := (Qld l 0 s).1 h; exact ⟨h1, h2, fun r hr => by have := (Qle l 0 h1 r hr).2; omega⟩
theorem Qab {α : Type} {C : List α -> Prop} (h0 : C []) (h1 : ∀ l s, C l -> C (l ++ [s])) (l : List α) : C l := by
  have h : ∀ m : List α, C m.reverse := by
    intro m
    induction m with
    | nil => exact h0
    | cons a m ih =>
      rw [List.reverse_cons]; exact h1 _ _ ih
  have := h l.reverse; rwa [List.reverse_reverse] at this
def Qpu (l : List Rec) (n : Nat) : Option Rec := l.find? (fun r => decide (r.l = n))
def Qeg (l : List Rec) (t : Int) : Nat := l.foldl (fun n r => if 1 <= t /\ r.t = t then r.l else n) 0
theorem Qoc (l : List Rec) (r : Rec) (t : Int) : Qeg (l ++ [r]) t = if 1 <= t /\ r.t = t then r.l else Qeg l t := by
  unfold Qeg; rw [List.foldl_append]; rfl
theorem Qgj (l : List Rec) (t : Int) : Qeg l t = 0 ∨ ∃ r ∈ l, r.l = Qeg l t /\ r.t = t /\ 1 <= t := by
  induction l using Qab with
  | h0 => exact .inl rfl
  | h1 l s ih =>
    rw [Qoc]
    by_cases h : 1 <= t /\ s.t = t
    · rw [if_pos h]; exact .inr ⟨s, by simp, rfl, h.2, h.1⟩
    · rw [if_neg h]
      rcases ih with ih | ⟨r, h1, h2⟩
      · exact .inl ih
      · exact .inr ⟨r, List.mem_append.2 (.inl h1), h2⟩
theorem Qzo (l : List Rec) (t : Int) (h : ∀ r ∈ l, ¬ (1 <= t /\ r.t = t)) : Qeg l t = 0 := by
  rcases Qgj l t with h1 | ⟨r, h1, h2, h3, h4⟩
  · exact h1
  · exact absurd ⟨h4, h3⟩ (h r h1)
theorem Qcg {l : List Rec} (hl : Qmb 0 l) {r : Rec} (hr : r ∈ l) : Qpu l r.l = some r := by
  revert hr
  induction l using Qab with
  | h0 => intro hr; cases hr
  | h1 l s ih =>
    intro hr; obtain ⟨h1, h2, h3⟩ := Qie hl; unfold Qpu at ih |-; rw [List.find?_append]
    rcases List.mem_append.1 hr with hr | hr
    · rw [ih h1 hr]; rfl
    · rw [List.mem_singleton.1 hr]
      have h4 : l.find? (fun r => decide (r.l = s.l)) = none := by
        rw [List.find?_eq_none]; intro x hx; have := h3 x hx; simp; omega
      rw [h4]; simp
theorem Qzs {l : List Rec} {n : Nat} (h : ∀ r ∈ l, r.l ≠ n) : Qpu l n = none := by
  unfold Qpu; rw [List.find?_eq_none]; intro x hx; simpa using h x hx
theorem Qup (l : List Rec) (n : Nat) : (Qpu l n = none /\ ∀ r ∈ l, r.l ≠ n) ∨ ∃ r ∈ l, r.l = n /\ Qpu l n = some r := by
  unfold Qpu
  cases h : l.find? (fun r => decide (r.l = n)) with
  | none =>
    refine .inl ⟨rfl, fun r hr => ?_⟩; have := List.find?_eq_none.1 h r hr; simpa using this
  | some r =>
    have := List.find?_some h; exact .inr ⟨r, List.mem_of_find?_eq_some h, by simpa using this, rfl⟩
def nextR : List Rec -> Nat -> Nat
  | [], _ => 0
  | r :: rs, at_ => if r.l = at_ then (if r.k = 1 then at_ else if r.k = 2 then nextR rs r.n else nextR rs r.p) else nextR rs at_
def Qcb (l : List Rec) (at_ : Nat) : Nat := nextR l.reverse at_
def Qdu (l : List Rec) (r : Rec) : Nat := if r.k = 1 then r.l else if r.k = 2 then Qcb l r.n else Qcb l r.p
theorem Qbc (l : List Rec) (r : Rec) (n : Nat) : Qcb (l ++ [r]) n = if r.l = n then (if r.k = 1 then n else if r.k = 2 then Qcb l r.n else Qcb l r.p) else Qcb l n := by
  unfold Qcb; rw [List.reverse_append]; rfl
theorem Qtp {l : List Rec} {n : Nat} (h : ∀ r ∈ l, r.l ≠ n) : Qcb l n = 0 := by
  induction l using Qab with
  | h0 => rfl
  | h1 l s ih =>
    rw [Qbc, if_neg (h s (by simp))]; exact ih (fun r hr => h r (List.mem_append.2 (.inl hr)))
theorem Qgg {l : List Rec} (hl : Qmb 0 l) : Qcb l 0 = 0 := Qtp fun r hr => by
  have := (Qle l 0 hl r hr).1; omega
theorem Qfe {r : Rec} (h : r.right) : r.p < r.l := by
  have h1 := h.l1
  by_cases hk : r.k <= 6
  · exact (h.own hk).2.2
  · have := (h.none (by omega)).2; omega
theorem Qng {r : Rec} (h : r.right) : r.n < r.l := by
  have h1 := h.l1
  by_cases hk : r.k = 2
  · exact h.next hk
  · have := h.nonext hk; omega
theorem Qlk {l : List Rec} (hl : Qmb 0 l) {r : Rec} (hr : r ∈ l) : Qcb l r.l = Qdu l r := by
  revert hr
  induction l using Qab with
  | h0 => intro hr; cases hr
  | h1 l s ih =>
    intro hr; obtain ⟨h1, h2, h3⟩ := Qie hl; have up : ∀ n, n < s.l -> Qcb (l ++ [s]) n = Qcb l n := fun n hn => by rw [Qbc, if_neg (by omega)]
    unfold Qdu
    rcases List.mem_append.1 hr with hr | hr
    · have h4 := h3 r hr; have hR := Qka l 0 h1 r hr; have h5 := Qfe hR; have h6 := Qng hR; rw [up _ h4, up _ (by omega), up _ (by omega)]; exact ih h1 hr
    · rw [List.mem_singleton.1 hr]; have h5 := Qfe h2; have h6 := Qng h2; rw [up _ h5, up _ h6, Qbc, if_pos rfl]
theorem Qrj {l : List Rec} (hl : Qmb 0 l) (n : Nat) : Qcb l n <= n := by
  induction l using Qab generalizing n with
  | h0 => exact Nat.zero_le _
  | h1 l s ih =>
    obtain ⟨h1, h2, h3⟩ := Qie hl; have h5 := Qfe h2; have h6 := Qng h2; rw [Qbc]
    by_cases e : s.l = n
    · rw [if_pos e]
      by_cases k1 : s.k = 1
      · rw [if_pos k1]; exact Nat.le_refl _
      · rw [if_neg k1]
        by_cases k2 : s.k = 2
        · rw [if_pos k2]; have := ih h1 s.n; omega
        · rw [if_neg k2]; have := ih h1 s.p; omega
    · rw [if_neg e]; exact ih h1 n
theorem Qim {l : List Rec} (hl : Qmb 0 l) (n : Nat) : Qcb l n = 0 ∨ ∃ r ∈ l, r.l = Qcb l n /\ r.k = 1 := by
  induction l using Qab generalizing n with
  | h0 => exact .inl rfl
  | h1 l s ih =>
    obtain ⟨h1, h2, h3⟩ := Qie hl; have up : ∀ n, Qcb l n = 0 ∨ ∃ r ∈ l ++ [s], r.l = Qcb l n /\ r.k = 1 := fun n => (ih h1 n).imp id fun ⟨r, h4, h5⟩ => ⟨r, List.mem_append.2 (.inl h4), h5⟩
    rw [Qbc]
    by_cases e : s.l = n
    · rw [if_pos e]
      by_cases k1 : s.k = 1
      · rw [if_pos k1]; exact .inr ⟨s, by simp, e, k1⟩
      · rw [if_neg k1]
        by_cases k2 : s.k = 2
        · rw [if_pos k2]; exact up _
        · rw [if_neg k2]; exact up _
    · rw [if_neg e]; exact up _
theorem Qaj {l : List Rec} (hl : Qmb 0 l) (n : Nat) : Qcb l (Qcb l n) = Qcb l n := by
  rcases Qim hl n with h | ⟨r, h1, h2, h3⟩
  · rw [h]; exact Qgg hl
  · rw [<- h2, Qlk hl h1]; unfold Qdu; rw [if_pos h3]
def Qrb (l : List Rec) (r : Rec) : Rec := ⟨2, 0, r.t, 0, Qfh r.c, Qcb l r.p, 0, 0, [], []⟩
def planR : List Rec -> Nat -> Nat -> List Rec
  | [], _, _ => []
  | r :: rs, n, u => if r.l = n then (if u < n /\ r.k = 1 then Qrb rs.reverse r :: planR rs (nextR rs r.p) u else []) else planR rs n u
def Qif (l : List Rec) (n u : Nat) : List Rec := planR l.reverse n u
theorem Qsd (l : List Rec) (r : Rec) (n u : Nat) : Qif (l ++ [r]) n u = if r.l = n then (if u < n /\ r.k = 1 then Qrb l r :: Qif l (Qcb l r.p) u else []) else Qif l n u := by
  unfold Qif Qcb; rw [List.reverse_append]; show planR (r :: l.reverse) n u = _; rw [planR, List.reverse_reverse]
theorem Qmaa {l : List Rec} {n u : Nat} (h : ∀ r ∈ l, r.l ≠ n) : Qif l n u = [] := by
  induction l using Qab with
  | h0 => rfl
  | h1 l s ih =>
    rw [Qsd, if_neg (h s (by simp))]; exact ih (fun r hr => h r (List.mem_append.2 (.inl hr)))
theorem Qki {l : List Rec} (hl : Qmb 0 l) (u : Nat) : Qif l 0 u = [] := Qmaa fun r hr => by
  have := (Qle l 0 hl r hr).1; omega
theorem Qop {l : List Rec} {s r : Rec} (h : s.l ≠ r.p) : Qrb (l ++ [s]) r = Qrb l r := by
  unfold Qrb; rw [Qbc, if_neg h]
theorem Qyk {l : List Rec} (hl : Qmb 0 l) {r : Rec} (hr : r ∈ l) (hk : r.k = 1) (u : Nat) : Qif l r.l u = if u < r.l then Qrb l r :: Qif l (Qrb l r).n u else [] := by
  revert hr
  induction l using Qab with
  | h0 => intro hr; cases hr
  | h1 l s ih =>
    intro hr; obtain ⟨h1, h2, h3⟩ := Qie hl; have hR := Qka _ 0 hl r hr; have h5 := Qfe hR
    rcases List.mem_append.1 hr with hr | hr
    · have h4 := h3 r hr; have h7 := Qrj h1 r.p; have e : (Qrb l r).n = Qcb l r.p := rfl; rw [Qsd, if_neg (by omega), Qop (by omega), Qsd, if_neg (show ¬ s.l = (Qrb l r).n by rw [e]; omega)]; exact ih h1 hr
    · rw [List.mem_singleton.1 hr] at h5 hk |-; have h7 := Qrj h1 s.p; have e : (Qrb l s).n = Qcb l s.p := rfl; rw [Qsd, if_pos rfl, Qop (by omega), Qsd, e, if_neg (show ¬ s.l = Qcb l s.p by omega)]
      by_cases hu : u < s.l
      · rw [if_pos ⟨hu, hk⟩, if_pos hu]
      · rw [if_neg (fun h => hu h.1), if_neg hu]
theorem Qbp {l : List Rec} (hl : Qmb 0 l) (n u : Nat) (h : Qcb l n = n) : (n <= u /\ Qif l n u = []) ∨ ∃ r ∈ l, r.l = n /\ r.k = 1 /\ u < n /\ Qif l n u = Qrb l r :: Qif l (Qrb l r).n u := by
  by_cases hu : n <= u
  · refine .inl ⟨hu, ?_⟩
    rcases Qim hl n with h1 | ⟨r, h1, h2, h3⟩
    · rw [h] at h1; subst h1; exact Qki hl u
    · rw [h] at h2; subst h2; rw [Qyk hl h1 h3, if_neg (by omega)]
  · rcases Qim hl n with h1 | ⟨r, h1, h2, h3⟩
    · rw [h] at h1; omega
    · rw [h] at h2; subst h2; refine .inr ⟨r, h1, rfl, h3, by omega, ?_⟩; rw [Qyk hl h1 h3, if_pos (by omega)]
theorem Qjo {l : List Rec} (hl : Qmb 0 l) (r : Rec) : Qcb l (Qrb l r).n = (Qrb l r).n := Qaj hl r.p
theorem Qir {l : List Rec} (hl : Qmb 0 l) {r : Rec} (hr : r ∈ l) : (Qrb l r).n < r.l := by
  have h1 := Qrj hl r.p; have h2 := Qfe (Qka _ 0 hl r hr); show Qcb l r.p < r.l; omega
structure Ac where
  k : Int
  n : Int
  t : Int
  pg : Int
  sl : Int
  d : Bool
  v : ByteArray
def Ac.zero : Ac := ⟨0, 0, 0, 0, 0, false, ⟨#[]⟩⟩
def pick15 (n : Int) (m : Nat) : Nat := (if n < 0 then (-(n + 1)) % (m : Int) else n % (m : Int)).toNat
theorem Qdc (n : Int) (m : Nat) (h : 0 < m) : pick15 n m < m := by
  unfold pick15; have h1 := Int.emod_lt_of_pos (-(n + 1)) (show (0 : Int) < (m : Int) by omega); have h2 := Int.emod_nonneg (-(n + 1)) (show (m : Int) ≠ 0 by omega); have h3 := Int.emod_lt_of_pos n (show (0 : Int) < (m : Int) by omega); have h4 := Int.emod_nonneg n (show (m : Int) ≠ 0 by omega); split <;> omega
structure Tu where
  nr : Int
  st : Int
  last : Nat
  next : Nat
def Tu.zero : Tu := ⟨0, 0, 0, 0⟩
structure Lo where
  nd : Int
  nr : Int
  u : Bool
  s : ByteArray
def Lo.zero : Lo := ⟨0, 0, false, ⟨#[]⟩⟩
structure Hs where
  lg : Nat -> List Rec
  pg : Nat -> Pg
  past : Nat -> List Pg
  ck : Nat -> Nat
  ct : Nat -> Int
  tx : Nat -> Tu
  lk : Nat -> Lo
  hi : Nat
def Hs.zero : Hs := ⟨fun _ => [], fun _ => Pg.zero, fun _ => [Pg.zero], fun _ => 0, fun _ => 0, fun _ => Tu.zero, fun _ => Lo.zero, 0⟩
def upd {α : Type} (f : Nat -> α) (i : Nat) (x : α) : Nat -> α := fun j => if j = i then x else f j
theorem Qj {α : Type} (f : Nat -> α) (i : Nat) (x : α) : upd f i x i = x := by unfold upd; rw [if_pos rfl]
theorem Qq {α : Type} (f : Nat -> α) (i j : Nat) (x : α) (h : j ≠ i) : upd f i x j = f j := by unfold upd; rw [if_neg h]
def Hs.lsn (h : Hs) (n floor : Nat) : Nat := max (h.ck n) floor + 1
def Hs.entry (h : Hs) (n i : Nat) (r : Rec) (floor : Nat) : Rec := ⟨r.k, h.lsn n floor, (h.tx i).nr, (h.tx i).last, r.c, r.n, r.s, r.b, r.ts, r.ds⟩
def Hs.setTx (h : Hs) (i : Nat) (t : Tu) : Hs := { h with tx := upd h.tx i t }
def Hs.setLk (h : Hs) (i : Nat) (l : Lo) : Hs := { h with lk := upd h.lk i l }
def Hs.setCk (h : Hs) (n c : Nat) : Hs := { h with ck := upd h.ck n c }
def Hs.setCt (h : Hs) (n : Nat) (c : Int) : Hs := { h with ct := upd h.ct n c }
def Hs.setHi (h : Hs) (c : Nat) : Hs := { h with hi := c }
def Hs.push (h : Hs) (n : Nat) (r : Rec) : Hs := { h with lg := upd h.lg n (h.lg n ++ [r]) }
def Hs.setPg (h : Hs) (p : Nat) (q : Pg) : Hs := { h with pg := upd h.pg p q, past := upd h.past p (h.past p ++ [q]) }
def Tu.setLast (t : Tu) (l : Nat) : Tu := ⟨t.nr, t.st, l, t.next⟩
def Tu.setNext (t : Tu) (l : Nat) : Tu := ⟨t.nr, t.st, t.last, l⟩
def Tu.setSt (t : Tu) (s : Int) : Tu := ⟨t.nr, s, t.last, t.next⟩
def Hs.log (h : Hs) (n i : Nat) (r : Rec) (floor : Nat) : Hs :=
  ((h.setCk n (h.lsn n floor)).setTx i ((h.tx i).setLast (h.lsn n floor))).push n (h.entry n i r floor)
def Rec.page (r : Rec) : Nat := r.c.pg.toNat
def Hs.turn (h : Hs) (n i : Nat) (r : Rec) : Hs :=
  (h.log n i r (h.pg r.page).l).setPg r.page ((h.pg r.page).put (h.lsn n (h.pg r.page).l) r.c.at r.c.makeU r.c.makeV)
def Qaa (k : Int) (c : Ch) (s : Int) : Rec := ⟨k, 0, 0, 0, c, 0, s, 0, [], []⟩
def Hs.begun (h : Hs) (n i : Nat) : Hs := if (h.tx i).nr = 0 then (h.setCt n (h.ct n + 1)).setTx i ⟨h.ct n + 1, 1, (h.tx i).last, (h.tx i).next⟩ else h
def cut20 (v : ByteArray) : ByteArray := v.extract 0 (min 20 v.size)
def Ac.toU (o : Ac) : Bool := !o.d
def Ac.toV (o : Ac) : ByteArray := if o.d = true then ⟨#[]⟩ else cut20 o.v
def Hs.barred (h : Hs) (n i x : Nat) : Bool := decide ((h.tx i).st ≠ 1) || (decide ((h.lk x).nr ≠ 0) && (decide ((h.lk x).nd ≠ (n : Int)) || decide ((h.lk x).nr ≠ (h.tx i).nr)))
def Hs.ofE (h : Hs) (p s : Nat) (o : Ac) : Int := Go.Proofs.Ythlllmkmpneedaa.ofE (p : Int) (s : Int) ((h.pg p).u s) ((h.pg p).s s) o.toU o.toV
def Hs.ofC (h : Hs) (p s : Nat) (o : Ac) : Ch := Go.Proofs.Ythlllmkmpneedaa.ofC (p : Int) (s : Int) ((h.pg p).u s) ((h.pg p).s s) o.toU o.toV
def Hs.locked (h : Hs) (n i p s : Nat) : Hs := if (h.lk (p * 8 + s)).nr = 0 then h.setLk (p * 8 + s) ⟨(n : Int), (h.tx i).nr, (h.pg p).u s, (h.pg p).s s⟩ else h
def Hs.nextIs (h : Hs) (i m : Nat) : Hs := h.setTx i ((h.tx i).setNext m)
def Hs.lockedUp (h : Hs) (n i p s : Nat) : Hs := (h.locked n i p s).setCk n (max (h.ck n) h.hi)
def Hs.turned (h : Hs) (n i p s : Nat) (o : Ac) : Hs := (h.lockedUp n i p s).turn n i (Qaa 1 (h.ofC p s o) 0)
def Hs.made (h : Hs) (n i p s : Nat) (o : Ac) : Hs := (h.turned n i p s o).nextIs i ((h.turned n i p s o).tx i).last
def Hs.change1 (h : Hs) (n i p s : Nat) (o : Ac) : Hs := if h.barred n i (p * 8 + s) = true then h else if h.ofE p s o ≠ 0 then h else Hs.made h n i p s o
def Hs.change (h : Hs) (n i : Nat) (o : Ac) : Hs := (h.begun n i).change1 n i (pick15 o.pg 4) (pick15 o.sl 8) o
def Qrt (l : List Rec) (n : Nat) : Rec := (Qpu l n).getD Rec.zero
def Hs.back (h : Hs) (n i : Nat) : Hs :=
  if (h.tx i).next = 0 ∨ ((h.tx i).st ≠ 1 /\ (h.tx i).st ≠ 2) then h
  else (h.turn n i (Qrb (h.lg n) (Qrt (h.lg n) (h.tx i).next))).nextIs i (Qrb (h.lg n) (Qrt (h.lg n) (h.tx i).next)).n
def Hs.mine (h : Hs) (n i x : Nat) : Bool := decide ((h.lk x).nd = (n : Int)) && decide ((h.lk x).nr = (h.tx i).nr)
def Hs.free (h : Hs) (n i : Nat) : Hs := { h with lk := fun x => if x < 32 /\ h.mine n i x = true then Lo.zero else h.lk x }
def Hs.state (h : Hs) (i : Nat) (s : Int) : Hs := h.setTx i ((h.tx i).setSt s)
def Hs.does2 (h : Hs) (n i kind : Nat) (o : Ac) : Hs :=
  if kind = 6 /\ (h.tx i).st = 1 then (((h.log n i (Qaa 3 Ch.zero 0) 0).setHi (max h.hi (h.lsn n 0))).state i 3).free n i
  else if kind = 7 /\ ((h.tx i).st = 3 ∨ (h.tx i).st = 2 /\ (h.tx i).next = 0) then ((h.log n i (Qaa 5 Ch.zero 0) 0).free n i).setTx i Tu.zero
  else if kind = 8 /\ (h.tx i).st = 1 then (h.log n i (Qaa 4 Ch.zero 0) 0).state i 2
  else if kind = 9 ∨ kind = 10 then h.back n i
  else if kind = 11 /\ (h.tx i).st = 1 then h.log n i (Qaa 6 Ch.zero (1 + (pick15 o.sl 8 : Nat))) 0
  else h
def Hs.does (h : Hs) (o : Ac) : Hs :=
  if pick15 o.k 13 <= 5 then h.change (pick15 o.n 3) (pick15 o.n 3 * 3 + pick15 o.t 3) o
  else if pick15 o.k 13 = 12 then h.setCk (pick15 o.n 3) (max (h.ck (pick15 o.n 3)) (h.ck (pick15 o.t 3)))
  else if (h.tx (pick15 o.n 3 * 3 + pick15 o.t 3)).last = 0 then h
  else h.does2 (pick15 o.n 3) (pick15 o.n 3 * 3 + pick15 o.t 3) (pick15 o.k 13) o
def Hs.play (l : List Ac) : Hs := l.foldl Hs.does Hs.zero
theorem Hs.play_snoc (l : List Ac) (o : Ac) : Hs.play (l ++ [o]) = (Hs.play l).does o := by
  unfold Hs.play; rw [List.foldl_append]; rfl
section
def Qb (w : World) (b : Nat) (t : TypeId) (cs : Array Value) : Prop := w.heap[b]? = some (.cells cs t (0, 0))
theorem Qb.below {w w' : World} {b B : Nat} {t : TypeId} {cs : Array Value} (h : Qb w b t cs) (hb : Below B w w') (hB : b < B) : Qb w' b t cs := (hb.block b hB).trans h
theorem Qb.lt {w : World} {b : Nat} {t : TypeId} {cs : Array Value} (h : Qb w b t cs) : b < w.heap.size := (Array.getElem?_eq_some_iff.1 h).1
theorem Qb.later {w w' : World} {b : Nat} {t : TypeId} {cs : Array Value} (h : Qb w b t cs) (hb : Below w.heap.size w w') : Qb w' b t cs := h.below hb h.lt
theorem Qb.cell {w : World} {b : Nat} {t : TypeId} {cs : Array Value} (h : Qb w b t cs) (j : Nat) (v : Value) (hv : cs[j]? = some v) : w.cell? ⟨b, j, none⟩ = some v := by
  rw [cell_of_row w b j _ _ (0, 0) h]; exact hv
theorem Qb.free {w : World} {b : Nat} {t : TypeId} {cs : Array Value} (h : Qb w b t cs) (j : Nat) : w.frozen? ⟨b, j, none⟩ = false := frozen_of_row w b j _ _ h
theorem Qb.other {w : World} {b : Nat} {t : TypeId} {cs : Array Value} (h : Qb w b t cs) (a : Addr) (v : Value) (hn : b ≠ a.block) : Qb (w.setCell a v) b t cs := (heap_setCell_other w a b v hn).trans h
theorem Qb.set {w : World} {b : Nat} {t : TypeId} {cs : Array Value} (h : Qb w b t cs) (j : Nat) (v : Value) : Qb (w.setCell ⟨b, j, none⟩ v) b t (cs.setIfInBounds j v) := heap_setCell_same w b j _ _ v h
theorem Qb.new (w : World) (t : TypeId) (cs : Array Value) : Qb (w.alloc (.cells cs t)) w.heap.size t cs := heap_alloc_new w _
section
variable {P : Program} {ops : Array Oper} {rest : List Oper} {o : Oper} {a : Act} {w : World} {Q : Exit -> Act -> World -> Prop}
theorem Qd (hw : Region.wanted o (yielded ops a.tmps) = true) (t : TypeId) (x : Operand) (ho : o.op = .load t x) (g : Nat) (hx : a.eval x = .pointer (some ⟨g, 0, none⟩)) (cs : Array Value) (hg : Qb w g t cs) (d : TypeDesc)
    (hu : P.underlying t = some d) (hd : (match d with | .struct _ | .array _ _ => true | _ => false) = true) (hi : (P.info? t).map (·.size) = some cs.size) (h : wpList P ops Q rest (a.put o.dst (.agg cs)) w) : wpList P ops Q (o :: rest) a w :=
  wpList_step fun K hK => by
    simp only [hw, if_true]; exact wp_load_row t x ho g hx t cs (0, 0) d hg hu hd hi (hK _ _ h)
theorem Qe (hgd : o.guard = none) (t : TypeId) (x y : Operand) (ho : o.op = .store t x y) (g : Nat) (c0 cs : Array Value) (hx : a.eval x = .pointer (some ⟨g, 0, none⟩)) (hy : a.eval y = .agg cs) (hg : Qb w g t c0)
    (hi : (P.info? t).map (·.size) = some cs.size) (hz : c0.size = cs.size) (h1 : cs.all (·.oneCell') = true)
    (h : ∀ w2, Qb w2 g t cs -> (∀ B w0, Below B w0 w -> B <= g -> Below B w0 w2) -> (∀ k t' c', k ≠ g -> Qb w k t' c' -> Qb w2 k t' c') -> wpList P ops Q rest (a.put o.dst undef) w2) : wpList P ops Q (o :: rest) a w := by
  refine wpList_store_row hgd t x y ho g cs hx hy t c0 hg hi hz h1 (h _ ?_ (fun B w0 hb hB => ?_) (fun k t' c' hk hr => ?_))
  · exact setRow_heap w g c0 cs t (0, 0) hg
  · exact ⟨hb.1, hb.2, hb.3, by simp [World.setRow]; exact hb.4, fun k hk => (setRow_other w g k _ (by omega)).trans (hb.5 k hk)⟩
  · exact (setRow_other w g k _ hk).trans hr
theorem Qcc {fn : Func} {p u : Tmp} {t : TypeId} (h : fn.results = #[.cell p t, .tmp u]) (tmps : Array Value) (w : World) (g : Nat) (cs : Array Value) (d : TypeDesc) (hp : tmps.getD p undef = .pointer (some ⟨g, 0, none⟩)) (hg : Qb w g t cs)
    (hu : P.underlying t = some d) (hd : (match d with | .struct _ | .array _ _ => true | _ => false) = true) (hi : (P.info? t).map (·.size) = some cs.size) :
    (results fn tmps).run P w = .ok (.tuple #[.agg cs, tmps.getD u undef]) w := by
  have h1 := run_loadVar_row (P := P) w g t t cs (0, 0) d hg hu hd hi; rw [results_cell_tmp h, hp]; simp only [asAddr, Sem.run_pure, Result.andThen_ok, h1]
theorem Qnr {fn : Func} {p q : Tmp} {t : TypeId} (h : fn.results = #[.cell p t, .cell q t]) (tmps : Array Value) (P : Program) (w : World) :
    (results fn tmps).run P w =
      ((asAddr (tmps.getD p undef)).run P w).andThen fun a w₁ => ((loadVar t a).run P w₁).andThen fun v w₂ => ((asAddr (tmps.getD q undef)).run P w₂).andThen fun b w₃ => ((loadVar t b).run P w₃).andThen fun u w₄ => .ok (.tuple #[v, u]) w₄ := by
  simp only [results, h]; simp [Sem.run_bind, Result.andThen]
theorem Quk {fn : Func} {p q : Tmp} {t : TypeId} (h : fn.results = #[.cell p t, .cell q t]) (tmps : Array Value) (w : World) (g k : Nat) (cs ds : Array Value) (d : TypeDesc) (hp : tmps.getD p undef = .pointer (some ⟨g, 0, none⟩)) (hq : tmps.getD q undef = .pointer (some ⟨k, 0, none⟩)) (hg : Qb w g t cs) (hk : Qb w k t ds)
    (hu : P.underlying t = some d) (hd : (match d with | .struct _ | .array _ _ => true | _ => false) = true) (hi : (P.info? t).map (·.size) = some cs.size) (hj : (P.info? t).map (·.size) = some ds.size) :
    (results fn tmps).run P w = .ok (.tuple #[.agg cs, .agg ds]) w := by
  have h1 := run_loadVar_row (P := P) w g t t cs (0, 0) d hg hu hd hi; have h2 := run_loadVar_row (P := P) w k t t ds (0, 0) d hk hu hd hj; rw [Qnr h, hp, hq]; simp only [asAddr, Sem.run_pure, Result.andThen_ok, h1, h2]
end
theorem Qhd {Q : World -> Prop} (H : World -> Prop) {x : World} (h : H x) (k : ∀ y, H y -> Q y) : Q x := k x h
theorem Qfb (s : ByteArray) : s.toList.isEmpty = true ↔ s.size = 0 := by
  rw [ByteArray.toList_eq]; obtain ⟨⟨l⟩⟩ := s; cases l <;> simp [ByteArray.size]
theorem Qt {B : Nat} {w w' : World} (h : Below B w w') (k : Nat) : Below B w (w'.drewN k) := ⟨h.1, h.2, h.3, h.4, h.5⟩
theorem Qwa {P : Program} {f : FuncId} {args : Array Value} {Q : Ending -> World -> Prop} (H : World -> Prop) {x : World} (h : H x) (k : ∀ y, H y -> Calls P f args y Q) : Calls P f args x Q := k x h
theorem Qde {P : Program} {c : Code} {Q : Exit -> Act -> World -> Prop} {a : Act} (H : World -> Prop) {x : World} (h : H x) (k : ∀ y, H y -> Code.wp P c Q a y) : Code.wp P c Q a x := k x h
theorem Qai {P : Program} {ops : Array Oper} {rest : List Oper} {o : Oper} {a : Act} {w : World} {Q : Exit -> Act -> World -> Prop} (hw : Region.wanted o (yielded ops a.tmps) = true) (v : Value) (hv : (execOp a.eval o).run P w = .ok (.value v) w)
    (h : wpList P ops Q rest (a.put o.dst v) w) : wpList P ops Q (o :: rest) a w :=
  wpList_step fun K hK => by
    simp only [hw, if_true]; unfold Oper.wp; rw [hv]; exact hK _ _ h
end
def Qwe (w : World) (b : Nat) (c : Ch) : Prop := w.heap[b]? = some (.cells (chA c) 44 (0, 0))
theorem Qwe.all {w : World} {b : Nat} {c : Ch} (h : Qwe w b c) : w.cell? ⟨b, 0, none⟩ = some (.int .i64 c.k) /\ w.cell? ⟨b, 1, none⟩ = some (.int .i64 c.pg) /\ w.cell? ⟨b, 2, none⟩ = some (.int .i64 c.sl) /\ w.cell? ⟨b, 3, none⟩ = some (.string c.o) /\ w.cell? ⟨b, 4, none⟩ = some (.string c.n) := by
  refine ⟨?_, ?_, ?_, ?_, ?_⟩ <;> (rw [cell_of_row w b _ _ _ (0, 0) h]; rfl)
theorem Qwe.below {w w' : World} {b B : Nat} {c : Ch} (h : Qwe w b c) (hb : Below B w w') (hB : b < B) : Qwe w' b c := (hb.block b hB).trans h
theorem Qwe.lt {w : World} {b : Nat} {c : Ch} (h : Qwe w b c) : b < w.heap.size := (Array.getElem?_eq_some_iff.1 h).1
theorem Qja : (Try.prog.info? 44).map (·.size) = some 5 := by kernel_rfl
theorem Qyb (c : Ch) : (chA c).all (·.oneCell') = true := by simp [chA, Value.oneCell']
def Has (x : World) : List (Nat × TypeId × Array Value) -> Prop
  | [] => True
  | e :: l => Qb x e.1 e.2.1 e.2.2 /\ Has x l
theorem Has.later {x y : World} (hb : Below x.heap.size x y) : ∀ {l : List (Nat × TypeId × Array Value)}, Has x l -> Has y l
  | [], _ => trivial
  | _ :: _, h => ⟨h.1.later hb, h.2.later hb⟩
theorem Has.drew {x : World} : ∀ {l : List (Nat × TypeId × Array Value)}, Has x l -> Has x.drew l
  | [], _ => trivial
  | _ :: _, h => ⟨h.1, h.2.drew⟩
def Qx (w x : World) (l : List (Nat × TypeId × Array Value)) : Prop := Has x l /\ Below w.heap.size w x
theorem Qx.later {w x y : World} {l : List (Nat × TypeId × Array Value)} (h : Qx w x l) (hb : Below x.heap.size x y) : Qx w y l := ⟨h.1.later hb, h.2.trans (hb.mono h.2.size)⟩
theorem Qx.drew {w x : World} {l : List (Nat × TypeId × Array Value)} (h : Qx w x l) : Qx w x.drew l := ⟨h.1.drew, ⟨h.2.1, h.2.2, h.2.3, h.2.4, h.2.5⟩⟩
theorem Qx.more {w x y : World} {l : List (Nat × TypeId × Array Value)} (h : Qx w x l) (hb : Below x.heap.size x y) {b : Nat} {t : TypeId} {cs : Array Value} (hr : Qb y b t cs) : Qx w y ((b, t, cs) :: l) :=
  ⟨⟨hr, h.1.later hb⟩, (h.later hb).2⟩
theorem Qx.one (w : World) (t : TypeId) (cs : Array Value) : Qx w (w.alloc (.cells cs t)) [(w.heap.size, t, cs)] :=
  ⟨⟨Qb.new w t cs, trivial⟩, (Below.refl w.heap.size w).alloc (Nat.le_refl _) _⟩
theorem Qx.two (w : World) (t t2 : TypeId) (cs ds : Array Value) : Qx w ((w.alloc (.cells cs t)).alloc (.cells ds t2)) [(w.heap.size + 1, t2, ds), (w.heap.size, t, cs)] := by
  have e1 : (w.alloc (.cells cs t)).heap.size = w.heap.size + 1 := by simp
  have h := (Qx.one w t cs).more ((Below.refl _ (w.alloc (.cells cs t))).alloc (Nat.le_refl _) (.cells ds t2)) (Qb.new (w.alloc (.cells cs t)) t2 ds); rw [e1] at h; exact h
theorem Qx.three (w : World) (t t2 t3 : TypeId) (cs ds es : Array Value) : Qx w (((w.alloc (.cells cs t)).alloc (.cells ds t2)).alloc (.cells es t3)) [(w.heap.size + 1 + 1, t3, es), (w.heap.size + 1, t2, ds), (w.heap.size, t, cs)] := by
  have e1 : ((w.alloc (.cells cs t)).alloc (.cells ds t2)).heap.size = w.heap.size + 1 + 1 := by simp
  have h := (Qx.two w t t2 cs ds).more ((Below.refl _ ((w.alloc (.cells cs t)).alloc (.cells ds t2))).alloc (Nat.le_refl _) (.cells es t3)) (Qb.new ((w.alloc (.cells cs t)).alloc (.cells ds t2)) t3 es); rw [e1] at h; exact h
def Qte {α : Type} (f : α -> Array Value) (z : α) (n : Nat) (w : World) (v : Value) (xs : List α) : Prop :=
  ∃ a cap, v = .slice a xs.length cap /\ (0 < xs.length -> ∃ b off, a = some ⟨b, off, none⟩ /\ b < w.heap.size /\ ∀ i, i < xs.length -> w.rangeAt b (off + i * n) (f (xs.getD i z)).toList)
theorem Qjc {w w' : World} {b o B : Nat} {cs : List Value} (h : w.rangeAt b o cs) (hb : Below B w w') (hB : b < B) : w'.rangeAt b o cs := fun j v hv => by
  rw [hb.cell (p := ⟨b, o + j, none⟩) hB]; exact h j v hv
theorem Qte.below {α : Type} {f : α -> Array Value} {z : α} {n : Nat} {w w' : World} {v : Value} {xs : List α} (h : Qte f z n w v xs) (hb : Below w.heap.size w w') : Qte f z n w' v xs := by
  obtain ⟨a, cap, h1, h2⟩ := h; refine ⟨a, cap, h1, fun hp => ?_⟩; obtain ⟨b, off, h3, h4, h5⟩ := h2 hp; exact ⟨b, off, h3, Nat.lt_of_lt_of_le h4 hb.size, fun i hi => Qjc (h5 i hi) hb h4⟩
def rcA (r : Rec) (va vb : Value) : Array Value := #[.int .i64 r.k, .int .u64 (r.l : Int), .int .i64 r.t, .int .u64 (r.p : Int), .int .i64 r.c.k, .int .i64 r.c.pg, .int .i64 r.c.sl, .string r.c.o, .string r.c.n, .int .u64 (r.n : Int), .int .i64 r.s, .int .u64 (r.b : Int), va, vb]
def txA (x : Tx) : Array Value := #[.int .i64 x.t, .int .i64 x.s, .int .u64 (x.f : Int), .int .u64 (x.l : Int), .int .u64 (x.n : Int)]
def diA (d : Di) : Array Value := #[.int .i64 d.p, .int .u64 (d.r : Int)]
theorem Qia : (Try.prog.info? 46).map (·.size) = some 14 := by kernel_rfl
theorem infoTx : (Try.prog.info? 42).map (·.size) = some 5 := by kernel_rfl
theorem infoDi : (Try.prog.info? 81).map (·.size) = some 2 := by kernel_rfl
theorem txA_one (x : Tx) : (txA x).all (·.oneCell') = true := by simp [txA, Value.oneCell']
theorem diA_one (d : Di) : (diA d).all (·.oneCell') = true := by simp [diA, Value.oneCell']
abbrev Qqd := Qte txA Tx.zero 5
abbrev Qcf := Qte diA Di.zero 2
def Qcd (w : World) (r : Rec) (va vb : Value) : Prop := Qqd w va r.ts /\ Qcf w vb r.ds
theorem Qcd.below {w w' : World} {r : Rec} {va vb : Value} (h : Qcd w r va vb) (hb : Below w.heap.size w w') : Qcd w' r va vb := ⟨h.1.below hb, h.2.below hb⟩
def Ch.fits (c : Ch) : Prop := (Lit.int .i64 c.k).wf = true /\ (Lit.int .i64 c.pg).wf = true /\ (Lit.int .i64 c.sl).wf = true /\ c.o.size <= maxLen /\ c.n.size <= maxLen
abbrev Ch.like (a b : Ch) : Prop := a.k = b.k /\ a.pg = b.pg /\ a.sl = b.sl /\ a.o = b.o /\ a.n = b.n
theorem like_iff (a b : Ch) : a.like b ↔ a = b := by
  constructor
  · rintro ⟨h1, h2, h3, h4, h5⟩; cases a; cases b; simp_all
  · rintro rfl; exact ⟨rfl, rfl, rfl, rfl, rfl⟩
def Tx.fits (x : Tx) : Prop := (Lit.int .i64 x.t).wf = true /\ (Lit.int .i64 x.s).wf = true /\ (Lit.int .u64 (x.f : Int)).wf = true /\ (Lit.int .u64 (x.l : Int)).wf = true /\ (Lit.int .u64 (x.n : Int)).wf = true
def Di.fits (d : Di) : Prop := (Lit.int .i64 d.p).wf = true /\ (Lit.int .u64 (d.r : Int)).wf = true
structure Rec.fits (r : Rec) : Prop where
  c : r.c.fits
  tl : r.ts.length <= maxLen
  dl : r.ds.length <= maxLen
  ts : ∀ x ∈ r.ts, x.fits
  ds : ∀ d ∈ r.ds, d.fits
def Qcv (x : Tx) : List Lit := [.int .i64 x.t, .int .i64 x.s, .int .u64 (x.f : Int), .int .u64 (x.l : Int), .int .u64 (x.n : Int)]
def Qfv (d : Di) : List Lit := [.int .i64 d.p, .int .u64 (d.r : Int)]
theorem litsT_iff (x y : Tx) : Qcv x = Qcv y ↔ x = y := by
  unfold Qcv; simp only [List.cons.injEq, and_true, Lit.int.injEq, true_and, Int.ofNat_inj]
  constructor
  · rintro ⟨h1, h2, h3, h4, h5⟩; cases x; cases y; simp_all
  · rintro rfl; exact ⟨rfl, rfl, rfl, rfl, rfl⟩
theorem litsD_iff (x y : Di) : Qfv x = Qfv y ↔ x = y := by
  unfold Qfv; simp only [List.cons.injEq, and_true, Lit.int.injEq, true_and, Int.ofNat_inj]
  constructor
  · rintro ⟨h1, h2⟩; cases x; cases y; simp_all
  · rintro rfl; exact ⟨rfl, rfl⟩
theorem lits_tx (x : Tx) (h : x.fits) : Try.prog.keyLits 2 42 (txA x).toList = some (Qcv x) := by
  have e0 : Try.prog.cellsOf 3 = 1 := by kernel_rfl
  have e1 : Try.prog.cellsOf 37 = 1 := by kernel_rfl
  have e2 : Try.prog.cellsOf 42 = 5 := by kernel_rfl
  obtain ⟨h1, h2, h3, h4, h5⟩ := h; simp [Program.keyLits, Try.underlying42, Try.underlying3, Try.underlying37, e0, e1, e2, txA, Qcv, h1, h2, h3, h4, h5]
theorem lits_di (x : Di) (h : x.fits) : Try.prog.keyLits 2 81 (diA x).toList = some (Qfv x) := by
  have e0 : Try.prog.cellsOf 3 = 1 := by kernel_rfl
  have e1 : Try.prog.cellsOf 37 = 1 := by kernel_rfl
  have e2 : Try.prog.cellsOf 81 = 2 := by kernel_rfl
  obtain ⟨h1, h2⟩ := h; simp [Program.keyLits, Try.underlying81, Try.underlying3, Try.underlying37, e0, e1, e2, diA, Qfv, h1, h2]
theorem Qpp (x y : Tx) (hx : x.fits) (hy : y.fits) (q : Bool) (hq : q = false ↔ x = y) (w : World) : (binOp .neq 42 (.agg (txA x)) (.agg (txA y))).run Try.prog w = .ok (.bool q) w := by
  obtain ⟨r, hr, hiff⟩ := run_equalIn_deep (P := Try.prog) 9998 2 42 (by kernel_rfl) w 2 2 (.agg (txA x)) (.agg (txA y)) (Qcv x) (Qcv y) (by kernel_rfl) (by kernel_rfl) (lits_tx x hx) (lits_tx y hy); rw [litsT_iff, <- hq] at hiff; have e : r = !q := by cases r <;> cases q <;> simp_all
  rw [e] at hr; have hr2 : (Op.equal 42 (.agg (txA x)) (.agg (txA y))).run Try.prog w = .ok (!q) w := hr; simp [binOp, hr2]
theorem Qeq (x y : Di) (hx : x.fits) (hy : y.fits) (q : Bool) (hq : q = false ↔ x = y) (w : World) : (binOp .neq 81 (.agg (diA x)) (.agg (diA y))).run Try.prog w = .ok (.bool q) w := by
  obtain ⟨r, hr, hiff⟩ := run_equalIn_deep (P := Try.prog) 9998 2 81 (by kernel_rfl) w 2 2 (.agg (diA x)) (.agg (diA y)) (Qfv x) (Qfv y) (by kernel_rfl) (by kernel_rfl) (lits_di x hx) (lits_di y hy); rw [litsD_iff, <- hq] at hiff; have e : r = !q := by cases r <;> cases q <;> simp_all
  rw [e] at hr; have hr2 : (Op.equal 81 (.agg (diA x)) (.agg (diA y))).run Try.prog w = .ok (!q) w := hr; simp [binOp, hr2]
theorem tx_guard (op : BinOp) (x y : Operand) (c d : Tx) (w : World) : (eqGuard op 42 x y (.agg (txA c)) (.agg (txA d))).run Try.prog w = .ok () w := run_eqGuard_agg (P := Try.prog) w op 42 x y (txA c) (txA d) (by kernel_rfl)
theorem di_guard (op : BinOp) (x y : Operand) (c d : Di) (w : World) : (eqGuard op 81 x y (.agg (diA c)) (.agg (diA d))).run Try.prog w = .ok () w := run_eqGuard_agg (P := Try.prog) w op 81 x y (diA c) (diA d) (by kernel_rfl)
theorem Qua {α : Type} (xs : List α) (i : Nat) (z : α) (h : i < xs.length) : xs.getD i z ∈ xs := by
  rw [List.getD_eq_getElem?_getD, List.getElem?_eq_getElem h]; exact List.getElem_mem h
theorem Qoj {α : Type} {xs ys : List α} {z : α} (hl : xs.length = ys.length) (h : ∀ i, i < xs.length -> xs.getD i z = ys.getD i z) : xs = ys := by
  apply List.ext_getElem hl; intro i h1 h2; have := h i h1; rwa [List.getD_eq_getElem?_getD, List.getD_eq_getElem?_getD, List.getElem?_eq_getElem h1, List.getElem?_eq_getElem h2] at this
theorem Qnf (y : World) (b k : Nat) (x : Tx) (h : y.rangeAt b k (txA x).toList) : (Instr.loadAt 42 (.pointer (some ⟨b, k, none⟩))).run Try.prog y = .ok (.agg (txA x)) y := by
  have h1 := run_loadAt_mid (P := Try.prog) y b k 42 (txA x).toList _ h Try.underlying42 rfl (by rw [infoTx]; rfl); rwa [Array.toArray_toList] at h1
theorem load_di (y : World) (b k : Nat) (x : Di) (h : y.rangeAt b k (diA x).toList) : (Instr.loadAt 81 (.pointer (some ⟨b, k, none⟩))).run Try.prog y = .ok (.agg (diA x)) y := by
  have h1 := run_loadAt_mid (P := Try.prog) y b k 81 (diA x).toList _ h Try.underlying81 rfl (by rw [infoDi]; rfl); rwa [Array.toArray_toList] at h1
section
section
variable {P : Program} {ops : Array Oper} {C : World -> Prop} {Q : Act -> Prop} {a : Act} {o : Oper} {rest : List Oper}
theorem Qqa {id : Nat} {Q : Exit -> Act -> World -> Prop} {a : Act} {w : World} {l : List Oper} (C : World -> Prop) (hm : P.follows .mixedOrders = true) (hB : Region.lexB .any l.toArray = true) (hC : C w.drew)
    (h : wpQuiet P l.toArray C (fun a' => ∀ w', C w' -> Q .normal a' w') l a) : (Code.region id l.toArray true).wp P Q a w :=
  wp_region_quiet (C := C) hm hB hC (by simpa using h)
theorem Qub (hw : Region.wanted o (yielded ops a.tmps) = true) (v : Value) (hv : ∀ x, C x -> (execOp a.eval o).run P x = .ok (.value v) x) (h : wpQuiet P ops C Q rest (a.put o.dst v)) : wpQuiet P ops C Q (o :: rest) a :=
  BigFrame.wpQuiet_want hw fun K hK => ⟨v, fun x hx => by unfold Oper.quietAt; rw [hv x hx]; exact ⟨rfl, rfl⟩, hK _ h⟩
theorem Qn (hw : Region.wanted o (yielded ops a.tmps) = true) (t : TypeId) (x : Operand) (ho : o.op = .load t x) (u v : Value) (hu : a.eval x = u) (hv : ∀ y, C y -> (Instr.loadAt t u).run P y = .ok v y)
    (h : wpQuiet P ops C Q rest (a.put o.dst v)) : wpQuiet P ops C Q (o :: rest) a :=
  Qub hw v (fun y hy => by unfold execOp; simp only [ho, hu, Sem.run_bind, hv y hy, Result.andThen_ok, Sem.run_pure]) h
theorem Qdf (hw : Region.wanted o (yielded ops a.tmps) = true) (op : BinOp) (t r : TypeId) (x y : Operand) (ho : o.op = .binOp op t x y r) (u v z : Value) (hu : a.eval x = u) (hv : a.eval y = v) (hg : ∀ w, (eqGuard op t x y u v).run P w = .ok () w)
    (hz : ∀ w, (binOp op t u v).run P w = .ok z w) (h : wpQuiet P ops C Q rest (a.put o.dst z)) : wpQuiet P ops C Q (o :: rest) a :=
  Qub hw z (fun w hw => by unfold execOp; simp only [ho, hu, hv, Sem.run_bind, hg w, hz w, Result.andThen_ok, Sem.run_pure]) h
theorem Qg (hw : Region.wanted o (yielded ops a.tmps) = true) (h : ∀ K : Act -> Prop, (∀ a, wpQuiet P ops C Q rest a -> K a) -> ∃ v, (∀ x : World, (execOp a.eval o).run P x = .ok (.value v) x) /\ K (a.put o.dst v)) : wpQuiet P ops C Q (o :: rest) a := by
  obtain ⟨v, h1, h2⟩ := h _ (fun _ h => h); exact Qub hw v (fun x _ => h1 x) h2
theorem Qyc (hw : Region.wanted o (yielded ops a.tmps) = true) (f : FuncId) (args : Array Value) (v : Value) (he : ∀ x : World, (execOp a.eval o).run P x = .ok (.enter f args) x) (hc : ∀ x, C x -> Calls P f args x fun e x' => e = .returned v /\ C x')
    (h : wpQuiet P ops C Q rest (a.put o.dst v)) : wpQuiet P ops C Q (o :: rest) a :=
  BigFrame.wpQuiet_want hw fun K hK => ⟨v, fun x hx => by unfold Oper.quietAt; rw [he x]; exact ⟨rfl, hc x hx⟩, hK _ h⟩
end
end
theorem Qec {P : Program} {ops : Array Oper} {rest : List Oper} {o : Oper} {a : Act} {w : World} {Q : Exit -> Act -> World -> Prop} (hw : Region.wanted o (yielded ops a.tmps) = true) (t : TypeId) (x : Operand) (ho : o.op = .load t x) (b k : Nat) (cs : Array Value)
    (hx : a.eval x = .pointer (some ⟨b, k, none⟩)) (hg : w.rangeAt b k cs.toList) (d : TypeDesc) (hu : P.underlying t = some d) (hd : d.isRow = true) (hi : (P.info? t).map (·.size) = some cs.size) (h : wpList P ops Q rest (a.put o.dst (.agg cs)) w) : wpList P ops Q (o :: rest) a w := by
  have h1 := run_loadAt_mid (P := P) w b k t cs.toList d hg hu hd (by rw [hi, Array.length_toList]); rw [Array.toArray_toList] at h1; exact Qai hw (.agg cs) (by unfold execOp; simp only [ho, hx, Sem.run_bind, h1, Result.andThen_ok, Sem.run_pure]) h
theorem Qdg {p : Nat -> Prop} {j : Nat} (h : ∀ i, i < j -> p i) (hj : p j) : ∀ i, i < j + 1 -> p i := by
  intro i hi
  by_cases hij : i = j
  · subst hij; exact hj
  · exact h i (by omega)
theorem eqtx_at (va vb : Value) (xs ys : List Tx) (w : World) (q : Bool) (Hq : Hid (q = true ↔ xs = ys)) (hx : Qqd w va xs) (hy : Qqd w vb ys) (fx : ∀ x ∈ xs, x.fits) (fy : ∀ x ∈ ys, x.fits) (lx : xs.length <= maxLen) :
    Calls Try.prog 82 #[va, vb] w fun e w' => e = .returned (.bool q) /\ Below w.heap.size w w' := by
  have HX := Qc hx; have HY := Qc hy; have HFX := Qc fx; have HFY := Qc fy; have hml : maxLen = 9223372036854775807 := rfl; obtain ⟨a1, cap1, rfl, -⟩ := hx; obtain ⟨a2, cap2, rfl, -⟩ := hy; clear fx fy; have hb0 := Below.refl w.heap.size w; by_cases hl : xs.length = ys.length
  case neg =>
    obtain rfl : q = false := by
      cases q
      · rfl
      · exact absurd (congrArg List.length (Hq.out.1 rfl)) hl
    have i1 : ((xs.length : Int) == (ys.length : Int)) = false := by rw [beq_eq_false_iff_ne]; omega
    have i2 : ((xs.length : Int) != (ys.length : Int)) = true := by rw [bne, i1]; rfl
    clear Hq HX HY HFX HFY lx hml; generalize xs.length = n1 at *; generalize ys.length = n2 at *; go_enter Try.func82, Try.ntmps82; go_wp2; go_ret; exact ⟨rfl, hb0⟩
  have i1 : ((xs.length : Int) != (ys.length : Int)) = false := by rw [bne, hl, beq_self_eq_true]; rfl
  have i2 : ((xs.length : Int) == (ys.length : Int)) = true := by rw [hl]; exact beq_self_eq_true _
  have HL := Qc hl; clear hl; rw [<- HL.out] at i1 i2 |-; go_enter Try.func82, Try.ntmps82; go_wp2; go_loopw [13, 5] (fun v _ wr => ∃ j : Nat, j <= xs.length /\ v = .int .i64 j /\ Below w.heap.size w wr /\ ∀ i, i < j -> xs.getD i Tx.zero = ys.getD i Tx.zero) (fun v _ _ => xs.length - (intOf v).toNat)
  case atStart => exact ⟨0, Nat.zero_le _, rfl, Below.refl _ _, fun i hi => absurd hi (by omega)⟩
  case round =>
    obtain ⟨j, hj, rfl, hb, hat⟩ := hrel; have HAT := Qc hat; have HB := Qc hb; clear hat hb hb0
    by_cases hlt : j < xs.length
    · have jlt : (j : Int) < (xs.length : Int) := by omega
      obtain ⟨u1, k1, e1, hrow1⟩ := HX.out.below HB.out; obtain ⟨u2, k2, e2, hrow2⟩ := HY.out.below HB.out; rw [<- HL.out] at e2; cases e1; cases e2; obtain ⟨b1, off1, rfl, -, hc1⟩ := hrow1 (by omega); obtain ⟨b2, off2, rfl, -, hc2⟩ := hrow2 (by rw [<- HL.out]; omega); have HR1 := Qc (hc1 j hlt); have HR2 := Qc (hc2 j (by rw [<- HL.out]; exact hlt)); clear hrow1 hrow2 hc1 hc2; have HF1 := Qc (HFX.out _ (Qua xs j Tx.zero hlt)); have HF2 := Qc (HFY.out _ (Qua ys j Tx.zero (by rw [<- HL.out]; exact hlt))); obtain ⟨x, hx⟩ : ∃ x, x = xs.getD j Tx.zero := ⟨_, rfl⟩; obtain ⟨y, hy⟩ : ∃ y, y = ys.getD j Tx.zero := ⟨_, rfl⟩; have HXY : Hid (x = xs.getD j Tx.zero /\ y = ys.getD j Tx.zero) := ⟨hx, hy⟩; rw [<- hx] at HR1 HF1; rw [<- hy] at HR2 HF2; clear hx hy; have hc := Qc (Classical.em (x = y)); obtain ⟨p, hp⟩ : ∃ p : Bool, p = false ↔ x = y := ⟨!(@decide (x = y) (Classical.propDecidable _)), by simp⟩; have HP := Qc hp; clear hp; go_wp2_with fail; refine Qqa (fun z => Below w.heap.size w z /\ z.rangeAt b1 (off1 + j * 5) (txA x).toList /\ z.rangeAt b2 (off2 + j * 5) (txA y).toList) (by kernel_rfl) (by kernel_rfl) ⟨⟨HB.out.1, HB.out.2, HB.out.3, HB.out.4, HB.out.5⟩, HR1.out, HR2.out⟩ ?_; clear HB HR1 HR2
      repeat (first
        | go_big_quiet_skip
        | (refine Qn rfl 42 (.tmp 18) rfl _ (.agg (txA x)) rfl (fun z hz => Qnf z b1 _ x hz.2.1) ?_; simp only [Act.put, List.setIfInBounds_toArray, List.set])
        | (refine Qn rfl 42 (.tmp 22) rfl _ (.agg (txA y)) rfl (fun z hz => Qnf z b2 _ y hz.2.2) ?_; simp only [Act.put, List.setIfInBounds_toArray, List.set])
        | (refine Qdf rfl .neq 42 _ (.tmp 19) (.tmp 23) rfl (.agg (txA x)) (.agg (txA y)) (.bool p) rfl rfl (fun z => tx_guard .neq _ _ x y z) (fun z => Qpp x y HF1.out HF2.out p HP.out z) ?_; simp only [Act.put, List.setIfInBounds_toArray, List.set])
        | (refine Qg rfl (fun K hK => ?_); go_simp; refine hK _ ?_; clear hK K))
      refine wpQuiet_nil ?_; intro w3 h3; have H3 := Qc h3.1; clear h3
      cases p
      · have HE := Qc (HP.out.1 rfl); clear HP hc; go_wp2; go_roundw
        case rel => exact ⟨j + 1, by omega, by go_num, H3.out, Qdg HAT.out (by rw [<- HXY.out.1, <- HXY.out.2]; exact HE.out)⟩
        case measure => simp [intOf]; omega
      · obtain rfl : q = false := by
          cases q
          · rfl
          · have h1 := Hq.out.1 rfl; exact absurd (HP.out.2 (by rw [HXY.out.1, HXY.out.2, h1])) (by simp)
        have d3 := H3.out; clear Hq HP hc HXY HAT HX HY HFX HFY HF1 HF2 H3; go_wp2; go_ret; exact ⟨rfl, d3⟩
    · obtain rfl : j = xs.length := by omega
      obtain rfl : q = true := Hq.out.2 (Qoj (z := Tx.zero) HL.out HAT.out); have d3 := HB.out; clear Hq HAT HX HY HFX HFY HB; go_wp2; go_ret; exact ⟨rfl, d3⟩
theorem eqdi_at (va vb : Value) (xs ys : List Di) (w : World) (q : Bool) (Hq : Hid (q = true ↔ xs = ys)) (hx : Qcf w va xs) (hy : Qcf w vb ys) (fx : ∀ x ∈ xs, x.fits) (fy : ∀ x ∈ ys, x.fits) (lx : xs.length <= maxLen) :
    Calls Try.prog 83 #[va, vb] w fun e w' => e = .returned (.bool q) /\ Below w.heap.size w w' := by
  have HX := Qc hx; have HY := Qc hy; have HFX := Qc fx; have HFY := Qc fy; have hml : maxLen = 9223372036854775807 := rfl; obtain ⟨a1, cap1, rfl, -⟩ := hx; obtain ⟨a2, cap2, rfl, -⟩ := hy; clear fx fy; have hb0 := Below.refl w.heap.size w; by_cases hl : xs.length = ys.length
  case neg =>
    obtain rfl : q = false := by
      cases q
      · rfl
      · exact absurd (congrArg List.length (Hq.out.1 rfl)) hl
    have i1 : ((xs.length : Int) == (ys.length : Int)) = false := by rw [beq_eq_false_iff_ne]; omega
    have i2 : ((xs.length : Int) != (ys.length : Int)) = true := by rw [bne, i1]; rfl
    clear Hq HX HY HFX HFY lx hml; generalize xs.length = n1 at *; generalize ys.length = n2 at *; go_enter Try.func83, Try.ntmps83; go_wp2; go_ret; exact ⟨rfl, hb0⟩
  have i1 : ((xs.length : Int) != (ys.length : Int)) = false := by rw [bne, hl, beq_self_eq_true]; rfl
  have i2 : ((xs.length : Int) == (ys.length : Int)) = true := by rw [hl]; exact beq_self_eq_true _
  have HL := Qc hl; clear hl; rw [<- HL.out] at i1 i2 |-; go_enter Try.func83, Try.ntmps83; go_wp2; go_loopw [13, 5] (fun v _ wr => ∃ j : Nat, j <= xs.length /\ v = .int .i64 j /\ Below w.heap.size w wr /\ ∀ i, i < j -> xs.getD i Di.zero = ys.getD i Di.zero) (fun v _ _ => xs.length - (intOf v).toNat)
  case atStart => exact ⟨0, Nat.zero_le _, rfl, Below.refl _ _, fun i hi => absurd hi (by omega)⟩
  case round =>
    obtain ⟨j, hj, rfl, hb, hat⟩ := hrel; have HAT := Qc hat; have HB := Qc hb; clear hat hb hb0
    by_cases hlt : j < xs.length
    · have jlt : (j : Int) < (xs.length : Int) := by omega
      obtain ⟨u1, k1, e1, hrow1⟩ := HX.out.below HB.out; obtain ⟨u2, k2, e2, hrow2⟩ := HY.out.below HB.out; rw [<- HL.out] at e2; cases e1; cases e2; obtain ⟨b1, off1, rfl, -, hc1⟩ := hrow1 (by omega); obtain ⟨b2, off2, rfl, -, hc2⟩ := hrow2 (by rw [<- HL.out]; omega); have HR1 := Qc (hc1 j hlt); have HR2 := Qc (hc2 j (by rw [<- HL.out]; exact hlt)); clear hrow1 hrow2 hc1 hc2; have HF1 := Qc (HFX.out _ (Qua xs j Di.zero hlt)); have HF2 := Qc (HFY.out _ (Qua ys j Di.zero (by rw [<- HL.out]; exact hlt))); obtain ⟨x, hx⟩ : ∃ x, x = xs.getD j Di.zero := ⟨_, rfl⟩; obtain ⟨y, hy⟩ : ∃ y, y = ys.getD j Di.zero := ⟨_, rfl⟩; have HXY : Hid (x = xs.getD j Di.zero /\ y = ys.getD j Di.zero) := ⟨hx, hy⟩; rw [<- hx] at HR1 HF1; rw [<- hy] at HR2 HF2; clear hx hy; have hc := Qc (Classical.em (x = y)); obtain ⟨p, hp⟩ : ∃ p : Bool, p = false ↔ x = y := ⟨!(@decide (x = y) (Classical.propDecidable _)), by simp⟩; have HP := Qc hp; clear hp; go_wp2_with fail; refine Qqa (fun z => Below w.heap.size w z /\ z.rangeAt b1 (off1 + j * 2) (diA x).toList /\ z.rangeAt b2 (off2 + j * 2) (diA y).toList) (by kernel_rfl) (by kernel_rfl) ⟨⟨HB.out.1, HB.out.2, HB.out.3, HB.out.4, HB.out.5⟩, HR1.out, HR2.out⟩ ?_; clear HB HR1 HR2
      repeat (first
        | go_big_quiet_skip
        | (refine Qn rfl 81 (.tmp 18) rfl _ (.agg (diA x)) rfl (fun z hz => load_di z b1 _ x hz.2.1) ?_; simp only [Act.put, List.setIfInBounds_toArray, List.set])
        | (refine Qn rfl 81 (.tmp 22) rfl _ (.agg (diA y)) rfl (fun z hz => load_di z b2 _ y hz.2.2) ?_; simp only [Act.put, List.setIfInBounds_toArray, List.set])
        | (refine Qdf rfl .neq 81 _ (.tmp 19) (.tmp 23) rfl (.agg (diA x)) (.agg (diA y)) (.bool p) rfl rfl (fun z => di_guard .neq _ _ x y z) (fun z => Qeq x y HF1.out HF2.out p HP.out z) ?_; simp only [Act.put, List.setIfInBounds_toArray, List.set])
        | (refine Qg rfl (fun K hK => ?_); go_simp; refine hK _ ?_; clear hK K))
      refine wpQuiet_nil ?_; intro w3 h3; have H3 := Qc h3.1; clear h3
      cases p
      · have HE := Qc (HP.out.1 rfl); clear HP hc; go_wp2; go_roundw
        case rel => exact ⟨j + 1, by omega, by go_num, H3.out, Qdg HAT.out (by rw [<- HXY.out.1, <- HXY.out.2]; exact HE.out)⟩
        case measure => simp [intOf]; omega
      · obtain rfl : q = false := by
          cases q
          · rfl
          · have h1 := Hq.out.1 rfl; exact absurd (HP.out.2 (by rw [HXY.out.1, HXY.out.2, h1])) (by simp)
        have d3 := H3.out; clear Hq HP hc HXY HAT HX HY HFX HFY HF1 HF2 H3; go_wp2; go_ret; exact ⟨rfl, d3⟩
    · obtain rfl : j = xs.length := by omega
      obtain rfl : q = true := Hq.out.2 (Qoj (z := Di.zero) HL.out HAT.out); have d3 := HB.out; clear Hq HAT HX HY HFX HFY HB; go_wp2; go_ret; exact ⟨rfl, d3⟩
theorem Qyaa (c : Ch) (w : World) (h1 : c.pg < 0) :
    Calls Try.prog 54 #[.agg (chA c)] w fun e w' => e = .returned (.bool false) /\ Below w.heap.size w w' := by
  have hb0 : Below w.heap.size w (w.alloc (.cells (chA c) 44)) := (Below.refl _ _).alloc (Nat.le_refl _) _; obtain ⟨a0, a1, a2, a3, a4⟩ := Qwe.all (show Qwe (w.alloc (.cells (chA c) 44)) w.heap.size c from heap_alloc_new w _); go_enter Try.func54, Try.ntmps54; generalize c.k = k at *; generalize c.pg = pg at *; generalize c.sl = sl at *; generalize c.o = o at *; generalize c.n = n at *; go_wp2; go_ret; exact ⟨rfl, hb0⟩
theorem Qbaa (c : Ch) (w : World) (h1 : ¬ c.pg < 0) (h2 : 31 < c.pg) :
    Calls Try.prog 54 #[.agg (chA c)] w fun e w' => e = .returned (.bool false) /\ Below w.heap.size w w' := by
  have hb0 : Below w.heap.size w (w.alloc (.cells (chA c) 44)) := (Below.refl _ _).alloc (Nat.le_refl _) _; obtain ⟨a0, a1, a2, a3, a4⟩ := Qwe.all (show Qwe (w.alloc (.cells (chA c) 44)) w.heap.size c from heap_alloc_new w _); go_enter Try.func54, Try.ntmps54; generalize c.k = k at *; generalize c.pg = pg at *; generalize c.sl = sl at *; generalize c.o = o at *; generalize c.n = n at *; go_wp2; go_ret; exact ⟨rfl, hb0⟩
theorem Qeaa (c : Ch) (w : World) (h1 : ¬ c.pg < 0) (h2 : ¬ 31 < c.pg) (h3 : c.sl < 0) :
    Calls Try.prog 54 #[.agg (chA c)] w fun e w' => e = .returned (.bool false) /\ Below w.heap.size w w' := by
  have hb0 : Below w.heap.size w (w.alloc (.cells (chA c) 44)) := (Below.refl _ _).alloc (Nat.le_refl _) _; obtain ⟨a0, a1, a2, a3, a4⟩ := Qwe.all (show Qwe (w.alloc (.cells (chA c) 44)) w.heap.size c from heap_alloc_new w _); go_enter Try.func54, Try.ntmps54; generalize c.k = k at *; generalize c.pg = pg at *; generalize c.sl = sl at *; generalize c.o = o at *; generalize c.n = n at *; go_wp2; go_ret; exact ⟨rfl, hb0⟩
theorem Qkaa (c : Ch) (w : World) (h1 : ¬ c.pg < 0) (h2 : ¬ 31 < c.pg) (h3 : ¬ c.sl < 0) (h4 : 7 < c.sl) :
    Calls Try.prog 54 #[.agg (chA c)] w fun e w' => e = .returned (.bool false) /\ Below w.heap.size w w' := by
  have hb0 : Below w.heap.size w (w.alloc (.cells (chA c) 44)) := (Below.refl _ _).alloc (Nat.le_refl _) _; obtain ⟨a0, a1, a2, a3, a4⟩ := Qwe.all (show Qwe (w.alloc (.cells (chA c) 44)) w.heap.size c from heap_alloc_new w _); go_enter Try.func54, Try.ntmps54; generalize c.k = k at *; generalize c.pg = pg at *; generalize c.sl = sl at *; generalize c.o = o at *; generalize c.n = n at *; go_wp2; go_ret; exact ⟨rfl, hb0⟩
theorem Qmz (c : Ch) (w : World) (h1 : ¬ c.pg < 0) (h2 : ¬ 31 < c.pg) (h3 : ¬ c.sl < 0) (h4 : ¬ 7 < c.sl) (h5 : 20 < (c.o.size : Int)) :
    Calls Try.prog 54 #[.agg (chA c)] w fun e w' => e = .returned (.bool false) /\ Below w.heap.size w w' := by
  have hb0 : Below w.heap.size w (w.alloc (.cells (chA c) 44)) := (Below.refl _ _).alloc (Nat.le_refl _) _; obtain ⟨a0, a1, a2, a3, a4⟩ := Qwe.all (show Qwe (w.alloc (.cells (chA c) 44)) w.heap.size c from heap_alloc_new w _); go_enter Try.func54, Try.ntmps54; generalize c.k = k at *; generalize c.pg = pg at *; generalize c.sl = sl at *; generalize c.o = o at *; generalize c.n = n at *; go_wp2; go_ret; exact ⟨rfl, hb0⟩
theorem Quz (c : Ch) (w : World) (h1 : ¬ c.pg < 0) (h2 : ¬ 31 < c.pg) (h3 : ¬ c.sl < 0) (h4 : ¬ 7 < c.sl) (h5 : ¬ 20 < (c.o.size : Int)) (h6 : 20 < (c.n.size : Int)) :
    Calls Try.prog 54 #[.agg (chA c)] w fun e w' => e = .returned (.bool false) /\ Below w.heap.size w w' := by
  have hb0 : Below w.heap.size w (w.alloc (.cells (chA c) 44)) := (Below.refl _ _).alloc (Nat.le_refl _) _; obtain ⟨a0, a1, a2, a3, a4⟩ := Qwe.all (show Qwe (w.alloc (.cells (chA c) 44)) w.heap.size c from heap_alloc_new w _); go_enter Try.func54, Try.ntmps54; generalize c.k = k at *; generalize c.pg = pg at *; generalize c.sl = sl at *; generalize c.o = o at *; generalize c.n = n at *; go_wp2; go_ret; exact ⟨rfl, hb0⟩
theorem Qkv (c : Ch) (w : World) (h1 : ¬ c.pg < 0) (h2 : ¬ 31 < c.pg) (h3 : ¬ c.sl < 0) (h4 : ¬ 7 < c.sl) (h5 : ¬ 20 < (c.o.size : Int)) (h6 : ¬ 20 < (c.n.size : Int)) (hk : c.k = 1) (he : c.o.toList.isEmpty = true) :
    Calls Try.prog 54 #[.agg (chA c)] w fun e w' => e = .returned (.bool true) /\ Below w.heap.size w w' := by
  have hb0 : Below w.heap.size w (w.alloc (.cells (chA c) 44)) := (Below.refl _ _).alloc (Nat.le_refl _) _; obtain ⟨a0, a1, a2, a3, a4⟩ := Qwe.all (show Qwe (w.alloc (.cells (chA c) 44)) w.heap.size c from heap_alloc_new w _); rw [hk] at a0; clear hk; go_enter Try.func54, Try.ntmps54; generalize c.k = k at *; generalize c.pg = pg at *; generalize c.sl = sl at *; generalize c.o = o at *; generalize c.n = n at *; go_wp2; go_ret; exact ⟨rfl, hb0⟩
theorem Qsv (c : Ch) (w : World) (h1 : ¬ c.pg < 0) (h2 : ¬ 31 < c.pg) (h3 : ¬ c.sl < 0) (h4 : ¬ 7 < c.sl) (h5 : ¬ 20 < (c.o.size : Int)) (h6 : ¬ 20 < (c.n.size : Int)) (hk : c.k = 1) (he : c.o.toList.isEmpty = false) :
    Calls Try.prog 54 #[.agg (chA c)] w fun e w' => e = .returned (.bool false) /\ Below w.heap.size w w' := by
  have hb0 : Below w.heap.size w (w.alloc (.cells (chA c) 44)) := (Below.refl _ _).alloc (Nat.le_refl _) _; obtain ⟨a0, a1, a2, a3, a4⟩ := Qwe.all (show Qwe (w.alloc (.cells (chA c) 44)) w.heap.size c from heap_alloc_new w _); rw [hk] at a0; clear hk; go_enter Try.func54, Try.ntmps54; generalize c.k = k at *; generalize c.pg = pg at *; generalize c.sl = sl at *; generalize c.o = o at *; generalize c.n = n at *; go_wp2; go_ret; exact ⟨rfl, hb0⟩
theorem Qlaa (c : Ch) (w : World) (h1 : ¬ c.pg < 0) (h2 : ¬ 31 < c.pg) (h3 : ¬ c.sl < 0) (h4 : ¬ 7 < c.sl) (h5 : ¬ 20 < (c.o.size : Int)) (h6 : ¬ 20 < (c.n.size : Int)) (hk : c.k = 2) :
    Calls Try.prog 54 #[.agg (chA c)] w fun e w' => e = .returned (.bool true) /\ Below w.heap.size w w' := by
  have hb0 : Below w.heap.size w (w.alloc (.cells (chA c) 44)) := (Below.refl _ _).alloc (Nat.le_refl _) _; obtain ⟨a0, a1, a2, a3, a4⟩ := Qwe.all (show Qwe (w.alloc (.cells (chA c) 44)) w.heap.size c from heap_alloc_new w _); rw [hk] at a0; clear hk; go_enter Try.func54, Try.ntmps54; generalize c.k = k at *; generalize c.pg = pg at *; generalize c.sl = sl at *; generalize c.o = o at *; generalize c.n = n at *; go_wp2; go_ret; exact ⟨rfl, hb0⟩
theorem Qhv (c : Ch) (w : World) (h1 : ¬ c.pg < 0) (h2 : ¬ 31 < c.pg) (h3 : ¬ c.sl < 0) (h4 : ¬ 7 < c.sl) (h5 : ¬ 20 < (c.o.size : Int)) (h6 : ¬ 20 < (c.n.size : Int)) (hk : c.k = 3) (he : c.n.toList.isEmpty = true) :
    Calls Try.prog 54 #[.agg (chA c)] w fun e w' => e = .returned (.bool true) /\ Below w.heap.size w w' := by
  have hb0 : Below w.heap.size w (w.alloc (.cells (chA c) 44)) := (Below.refl _ _).alloc (Nat.le_refl _) _; obtain ⟨a0, a1, a2, a3, a4⟩ := Qwe.all (show Qwe (w.alloc (.cells (chA c) 44)) w.heap.size c from heap_alloc_new w _); rw [hk] at a0; clear hk; go_enter Try.func54, Try.ntmps54; generalize c.k = k at *; generalize c.pg = pg at *; generalize c.sl = sl at *; generalize c.o = o at *; generalize c.n = n at *; go_wp2; go_ret; exact ⟨rfl, hb0⟩
theorem Qxv (c : Ch) (w : World) (h1 : ¬ c.pg < 0) (h2 : ¬ 31 < c.pg) (h3 : ¬ c.sl < 0) (h4 : ¬ 7 < c.sl) (h5 : ¬ 20 < (c.o.size : Int)) (h6 : ¬ 20 < (c.n.size : Int)) (hk : c.k = 3) (he : c.n.toList.isEmpty = false) :
    Calls Try.prog 54 #[.agg (chA c)] w fun e w' => e = .returned (.bool false) /\ Below w.heap.size w w' := by
  have hb0 : Below w.heap.size w (w.alloc (.cells (chA c) 44)) := (Below.refl _ _).alloc (Nat.le_refl _) _; obtain ⟨a0, a1, a2, a3, a4⟩ := Qwe.all (show Qwe (w.alloc (.cells (chA c) 44)) w.heap.size c from heap_alloc_new w _); rw [hk] at a0; clear hk; go_enter Try.func54, Try.ntmps54; generalize c.k = k at *; generalize c.pg = pg at *; generalize c.sl = sl at *; generalize c.o = o at *; generalize c.n = n at *; go_wp2; go_ret; exact ⟨rfl, hb0⟩
theorem Qwz (c : Ch) (w : World) (h1 : ¬ c.pg < 0) (h2 : ¬ 31 < c.pg) (h3 : ¬ c.sl < 0) (h4 : ¬ 7 < c.sl) (h5 : ¬ 20 < (c.o.size : Int)) (h6 : ¬ 20 < (c.n.size : Int)) (hk1 : (c.k == 1) = false) (hk2 : (c.k == 2) = false) (hk3 : (c.k == 3) = false) :
    Calls Try.prog 54 #[.agg (chA c)] w fun e w' => e = .returned (.bool false) /\ Below w.heap.size w w' := by
  have hb0 : Below w.heap.size w (w.alloc (.cells (chA c) 44)) := (Below.refl _ _).alloc (Nat.le_refl _) _; obtain ⟨a0, a1, a2, a3, a4⟩ := Qwe.all (show Qwe (w.alloc (.cells (chA c) 44)) w.heap.size c from heap_alloc_new w _); go_enter Try.func54, Try.ntmps54; generalize c.k = k at *; generalize c.pg = pg at *; generalize c.sl = sl at *; generalize c.o = o at *; generalize c.n = n at *; go_wp2; go_ret; exact ⟨rfl, hb0⟩
theorem Qxb (c : Ch) (w : World) :
    Calls Try.prog 54 #[.agg (chA c)] w fun e w' => e = .returned (.bool (decide c.right)) /\ Below w.heap.size w w' := by
  by_cases h1 : c.pg < 0
  · rw [decide_eq_false (fun h => by have := h.1; omega)]; exact Qyaa c w h1
  by_cases h2 : 31 < c.pg
  · rw [decide_eq_false (fun h => by have := h.1; omega)]; exact Qbaa c w h1 h2
  by_cases h3 : c.sl < 0
  · rw [decide_eq_false (fun h => by have := h.1; omega)]; exact Qeaa c w h1 h2 h3
  by_cases h4 : 7 < c.sl
  · rw [decide_eq_false (fun h => by have := h.1; omega)]; exact Qkaa c w h1 h2 h3 h4
  by_cases h5 : 20 < (c.o.size : Int)
  · rw [decide_eq_false (fun h => by have := h.1; omega)]; exact Qmz c w h1 h2 h3 h4 h5
  by_cases h6 : 20 < (c.n.size : Int)
  · rw [decide_eq_false (fun h => by have := h.1; omega)]; exact Quz c w h1 h2 h3 h4 h5 h6
  have hr : c.kindOk -> c.right := fun h => ⟨⟨by omega, by omega, by omega, by omega, by omega, by omega⟩, h⟩
  by_cases k1 : c.k = 1
  · by_cases he : c.o.toList.isEmpty = true
    · rw [decide_eq_true (hr (.inl ⟨k1, (Qfb _).1 he⟩))]; exact Qkv c w h1 h2 h3 h4 h5 h6 k1 he
    · rw [decide_eq_false (fun h => by
        rcases h.2 with h | h | h
        · exact he ((Qfb _).2 h.2)
        · omega
        · omega)]
      exact Qsv c w h1 h2 h3 h4 h5 h6 k1 (by simpa using he)
  by_cases k2 : c.k = 2
  · rw [decide_eq_true (hr (.inr (.inl k2)))]; exact Qlaa c w h1 h2 h3 h4 h5 h6 k2
  by_cases k3 : c.k = 3
  · by_cases he : c.n.toList.isEmpty = true
    · rw [decide_eq_true (hr (.inr (.inr ⟨k3, (Qfb _).1 he⟩)))]; exact Qhv c w h1 h2 h3 h4 h5 h6 k3 he
    · rw [decide_eq_false (fun h => by
        rcases h.2 with h | h | h
        · omega
        · omega
        · exact he ((Qfb _).2 h.2))]
      exact Qxv c w h1 h2 h3 h4 h5 h6 k3 (by simpa using he)
  rw [decide_eq_false (fun h => by rcases h.2 with h | h | h <;> omega)]; exact Qwz c w h1 h2 h3 h4 h5 h6 (by simpa using k1) (by simpa using k2) (by simpa using k3)
theorem zero_fits : Ch.zero.fits := ⟨by decide, by decide, by decide, by show (0 : Nat) <= maxLen; omega, by show (0 : Nat) <= maxLen; omega⟩
theorem Qda {x : World} {g : Nat} {r : Rec} {va vb : Value} (h : Qb x g 46 (rcA r va vb)) :
    x.cell? ⟨g, 0, none⟩ = some (.int .i64 r.k) /\ x.cell? ⟨g, 1, none⟩ = some (.int .u64 (r.l : Int)) /\ x.cell? ⟨g, 2, none⟩ = some (.int .i64 r.t) /\ x.cell? ⟨g, 3, none⟩ = some (.int .u64 (r.p : Int)) /\ x.cell? ⟨g, 9, none⟩ = some (.int .u64 (r.n : Int)) /\ x.cell? ⟨g, 10, none⟩ = some (.int .i64 r.s) /\ x.cell? ⟨g, 11, none⟩ = some (.int .u64 (r.b : Int)) /\ x.cell? ⟨g, 12, none⟩ = some va /\ x.cell? ⟨g, 13, none⟩ = some vb :=
  ⟨h.cell 0 _ rfl, h.cell 1 _ rfl, h.cell 2 _ rfl, h.cell 3 _ rfl, h.cell 9 _ rfl, h.cell 10 _ rfl, h.cell 11 _ rfl, h.cell 12 _ rfl, h.cell 13 _ rfl⟩
theorem Qbg {x : World} {g : Nat} {r : Rec} {va vb : Value} (h : Qb x g 46 (rcA r va vb)) :
    x.cell? ⟨g, 4, none⟩ = some (.int .i64 r.c.k) /\ x.cell? ⟨g, 5, none⟩ = some (.int .i64 r.c.pg) /\ x.cell? ⟨g, 6, none⟩ = some (.int .i64 r.c.sl) /\ x.cell? ⟨g, 7, none⟩ = some (.string r.c.o) /\ x.cell? ⟨g, 8, none⟩ = some (.string r.c.n) :=
  ⟨h.cell 4 _ rfl, h.cell 5 _ rfl, h.cell 6 _ rfl, h.cell 7 _ rfl, h.cell 8 _ rfl⟩
theorem rc_change {x : World} {g : Nat} {r : Rec} {va vb : Value} (h : Qb x g 46 (rcA r va vb)) : x.rangeAt g 4 (chA r.c).toList := by
  intro j v hv; have hj : j < 5 := (List.getElem?_eq_some_iff.1 hv).1; refine h.cell (4 + j) v ?_; rw [<- hv, Array.getElem?_toList]
  match j, hj with
  | 0, _ => rfl
  | 1, _ => rfl
  | 2, _ => rfl
  | 3, _ => rfl
  | 4, _ => rfl
end Go.Proofs.Ythlllmkmpneedaa
