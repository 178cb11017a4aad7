/-
  Log records and their bytes: plain facts, of no program.
-/
import Derived.Test.YtmapgfakfeddmaaChangeMath
import Derived.Test.YtmapgfakfeddmaaPackMath
namespace Go.Proofs.Ytmapgfakfeddmaa
open Go.RowKit
set_option linter.unusedVariables false

/-- A row of a checkpoint's table of transactions, and one of its table of pages. -/
structure Tx where
  t : Int
  s : Int
  f : Nat
  l : Nat
  n : Nat
structure Di where
  p : Int
  r : Nat
def Tx.zero : Tx := ⟨0, 0, 0, 0, 0⟩
def Di.zero : Di := ⟨0, 0⟩
/-- A record: kind, LSN, Txn, Prev, change, Next, Save, Begin, Txns, Dirty. -/
structure Rec where
  k : Int
  l : Nat
  t : Int
  p : Nat
  c : Ch
  n : Nat
  s : Int
  b : Nat
  ts : List Tx
  ds : List Di
def Rec.zero : Rec := ⟨0, 0, 0, 0, Ch.zero, 0, 0, 0, [], []⟩

/-- Rows that can be. -/
def txOk (l : Nat) (x : Tx) : Prop := 1 ≤ x.t ∧ x.t ≤ 1048575 ∧ 1 ≤ x.s ∧ x.s ≤ 3 ∧ 1 ≤ x.f ∧ x.f ≤ x.l ∧ x.l < l ∧ x.n ≤ x.l
def diOk (l : Nat) (d : Di) : Prop := 0 ≤ d.p ∧ d.p ≤ 31 ∧ 1 ≤ d.r ∧ d.r < l
def txAt (l : Nat) (ts : List Tx) (i : Nat) : Prop := txOk l (ts.getD i Tx.zero) ∧ (0 < i → (ts.getD (i - 1) Tx.zero).t < (ts.getD i Tx.zero).t)
def diAt (l : Nat) (ds : List Di) (i : Nat) : Prop := diOk l (ds.getD i Di.zero) ∧ (0 < i → (ds.getD (i - 1) Di.zero).p < (ds.getD i Di.zero).p)
def Rec.rows (r : Rec) : Prop := r.ts.length ≤ 16 ∧ r.ds.length ≤ 32 ∧ (∀ i, i < r.ts.length → txAt r.l r.ts i) ∧ (∀ i, i < r.ds.length → diAt r.l r.ds i) ∧ 1 ≤ r.b ∧ r.b < r.l
/-- A record that can be. -/
structure Rec.right (r : Rec) : Prop where
  k1 : 1 ≤ r.k
  k8 : r.k ≤ 8
  l1 : 1 ≤ r.l
  lm : r.l ≤ maxP
  own : r.k ≤ 6 → 1 ≤ r.t ∧ r.t ≤ 1048575 ∧ r.p < r.l
  none : 6 < r.k → r.t = 0 ∧ r.p = 0
  ch : r.k ≤ 2 → r.c.right
  noch : 2 < r.k → r.c = Ch.zero
  next : r.k = 2 → r.n < r.l
  nonext : r.k ≠ 2 → r.n = 0
  save : r.k = 6 → 1 ≤ r.s ∧ r.s ≤ 8
  nosave : r.k ≠ 6 → r.s = 0
  check : r.k = 8 → r.rows
  nocheck : r.k ≠ 8 → r.b = 0 ∧ r.ts = [] ∧ r.ds = []
noncomputable def Rec.rightB (r : Rec) : Bool := @decide r.right (Classical.propDecidable _)
theorem rightB_yes {r : Rec} (h : r.right) : r.rightB = true := by
  unfold Rec.rightB
  exact @decide_eq_true _ (Classical.propDecidable _) h
theorem rightB_no {r : Rec} (h : ¬ r.right) : r.rightB = false := by
  unfold Rec.rightB
  exact @decide_eq_false _ (Classical.propDecidable _) h
theorem rightB_iff {r : Rec} : r.rightB = true ↔ r.right := by
  constructor
  · intro h
    by_cases hr : r.right
    · exact hr
    · rw [rightB_no hr] at h
      cases h
  · exact rightB_yes

/-! ### Their bytes -/
def chB (c : Ch) : List UInt8 := beB 1 c.k.toNat ++ (beB 2 c.pg.toNat ++ (beB 1 c.sl.toNat ++ (textB c.o.data.toList ++ textB c.n.data.toList)))
def txB (x : Tx) : List UInt8 := beB 4 x.t.toNat ++ (beB 1 x.s.toNat ++ (beB 8 x.f ++ (beB 8 x.l ++ beB 8 x.n)))
def diB (d : Di) : List UInt8 := beB 2 d.p.toNat ++ beB 8 d.r
def txsB (ts : List Tx) : List UInt8 := ts.flatMap txB
def disB (ds : List Di) : List UInt8 := ds.flatMap diB
def checkB (b : Nat) (ts : List Tx) (ds : List Di) : List UInt8 := beB 8 b ++ (beB 1 ts.length ++ (txsB ts ++ (beB 1 ds.length ++ disB ds)))
def mayB (q : Prop) [Decidable q] (b : List UInt8) : List UInt8 := if q then b else []
def recB (r : Rec) : List UInt8 :=
  beB 1 r.k.toNat ++ (beB 8 r.l ++ (beB 4 r.t.toNat ++ (beB 8 r.p ++ (mayB (r.k ≤ 2) (chB r.c) ++ (mayB (r.k = 2) (beB 8 r.n) ++ (mayB (r.k = 6) (beB 1 r.s.toNat) ++ mayB (r.k = 8) (checkB r.b r.ts r.ds)))))))

/-! ### Reading -/
/-- What is left to read, and the first error. -/
structure St where
  l : List UInt8
  e : Int
def bindP {α β : Type} (p : St → α × St) (q : α → St → β × St) (s : St) : β × St := q (p s).1 (p s).2
def pureP {α : Type} (a : α) (s : St) : α × St := (a, s)
def pNum (w : Nat) (s : St) : Nat × St := if s.e ≠ 0 then (0, s) else if w ≤ s.l.length then (be (s.l.take w), ⟨s.l.drop w, 0⟩) else (0, ⟨[], 4⟩)
def pText (s : St) : ByteArray × St :=
  if s.e ≠ 0 then (⟨#[]⟩, s) else match s.l with
    | [] => (⟨#[]⟩, ⟨[], 4⟩)
    | b :: l => if b.toNat ≤ l.length then (⟨(l.take b.toNat).toArray⟩, ⟨l.drop b.toNat, 0⟩) else (⟨#[]⟩, ⟨[], 4⟩)
/-- A number in these bounds, or ErrForm. -/
def pIn (lo hi : Nat) (s : St) : Nat × St := if (pNum 1 s).2.e = 0 ∧ ((pNum 1 s).1 < lo ∨ hi < (pNum 1 s).1) then ((pNum 1 s).1, ⟨(pNum 1 s).2.l, 2⟩) else pNum 1 s
def pCh : St → Ch × St := bindP (pNum 1) fun k => bindP (pNum 2) fun pg => bindP (pNum 1) fun sl => bindP pText fun o => bindP pText fun n => pureP ⟨k, pg, sl, o, n⟩
def pTx : St → Tx × St := bindP (pNum 4) fun t => bindP (pNum 1) fun s => bindP (pNum 8) fun f => bindP (pNum 8) fun l => bindP (pNum 8) fun n => pureP ⟨t, s, f, l, n⟩
def pDi : St → Di × St := bindP (pNum 2) fun p => bindP (pNum 8) fun r => pureP ⟨p, r⟩
def pSome {α : Type} (p : St → α × St) : Nat → St → List α × St
  | 0, s => ([], s)
  | n + 1, s => if s.e ≠ 0 then ([], s) else ((p s).1 :: (pSome p n (p s).2).1, (pSome p n (p s).2).2)
def pCheck : St → (Nat × List Tx × List Di) × St := bindP (pNum 8) fun b => bindP (pIn 0 16) fun n => bindP (pSome pTx n) fun ts => bindP (pIn 0 32) fun m => bindP (pSome pDi m) fun ds => pureP (b, ts, ds)
def pMay {α : Type} (q : Prop) [Decidable q] (z : α) (p : St → α × St) : St → α × St := if q then p else pureP z
def pRec : St → Rec × St :=
  bindP (pIn 1 8) fun k => bindP (pNum 8) fun l => bindP (pNum 4) fun t => bindP (pNum 8) fun p => bindP (pMay (k ≤ 2) Ch.zero pCh) fun c => bindP (pMay (k = 2) 0 (pNum 8)) fun n => bindP (pMay (k = 6) 0 (pNum 1)) fun s =>
    bindP (pMay (k = 8) (0, [], []) pCheck) fun x => pureP ⟨k, l, t, p, c, n, s, x.1, x.2.1, x.2.2⟩
noncomputable def decR (b : List UInt8) : Rec × Int :=
  if (pRec ⟨b, 0⟩).2.e ≠ 0 then (Rec.zero, (pRec ⟨b, 0⟩).2.e) else if (pRec ⟨b, 0⟩).2.l ≠ [] ∨ (pRec ⟨b, 0⟩).1.rightB = false then (Rec.zero, 2) else ((pRec ⟨b, 0⟩).1, 0)

/-! ### What was laid is read -/
def Reads {α : Type} (p : St → α × St) (a : α) (bs : List UInt8) : Prop := ∀ l, p ⟨bs ++ l, 0⟩ = (a, ⟨l, 0⟩)
theorem Reads.bind {α β : Type} {p : St → α × St} {q : α → St → β × St} {a : α} {c : β} {bs cs : List UInt8} (h : Reads p a bs) (g : Reads (q a) c cs) : Reads (bindP p q) c (bs ++ cs) := fun l => by
  unfold bindP
  rw [List.append_assoc, h (cs ++ l)]
  exact g l
theorem Reads.pure {α : Type} (a : α) : Reads (pureP a) a [] := fun l => rfl
theorem Reads.last {α β : Type} {p : St → α × St} {q : α → St → β × St} {a : α} {c : β} {bs : List UInt8} (h : Reads p a bs) (g : Reads (q a) c []) : Reads (bindP p q) c bs := by
  have := h.bind g
  rwa [List.append_nil] at this
theorem Reads.num (w n : Nat) (h : n < 256 ^ w) : Reads (pNum w) n (beB w n) := fun l => by
  unfold pNum
  have hl := beB_length w n
  rw [if_neg (by simp), if_pos (by simp only [List.length_append]; omega)]
  simp only
  rw [List.take_left' hl, List.drop_left' hl, be_beB w n h]
theorem Reads.text (s : ByteArray) (h : s.size ≤ 255) : Reads pText s (textB s.data.toList) := fun l => by
  unfold pText textB
  have hz : (UInt8.ofNat s.size).toNat = s.size := by
    rw [toNat_ofNat]
    omega
  rw [if_neg (by simp)]
  simp only [List.cons_append, data_length, hz, List.length_append]
  rw [if_pos (by omega), List.take_left' (data_length s), List.drop_left' (data_length s), mk_self]
theorem Reads.in (lo hi n : Nat) (h : n < 256) (h1 : lo ≤ n) (h2 : n ≤ hi) : Reads (pIn lo hi) n (beB 1 n) := fun l => by
  unfold pIn
  rw [Reads.num 1 n (by omega) l, if_neg (by simp only; omega)]
theorem Reads.some {α : Type} {p : St → α × St} {f : α → List UInt8} : ∀ (xs : List α), (∀ x ∈ xs, Reads p x (f x)) → Reads (pSome p xs.length) xs (xs.flatMap f)
  | [], _ => fun l => rfl
  | x :: xs, h => fun l => by
    have h1 := h x (by simp)
    have h2 := Reads.some xs (fun y hy => h y (by simp [hy]))
    show pSome p (xs.length + 1) ⟨(f x ++ xs.flatMap f) ++ l, 0⟩ = _
    unfold pSome
    rw [if_neg (by simp), List.append_assoc, h1 (xs.flatMap f ++ l), h2 l]
theorem Reads.may {α : Type} {q : Prop} [Decidable q] {z a : α} {p : St → α × St} {bs : List UInt8} (h1 : q → Reads p a bs) (h2 : ¬ q → a = z) : Reads (pMay q z p) a (mayB q bs) := by
  unfold pMay mayB
  by_cases h : q
  · rw [if_pos h, if_pos h]
    exact h1 h
  · rw [if_neg h, if_neg h, h2 h]
    exact Reads.pure z
end Go.Proofs.Ytmapgfakfeddmaa
