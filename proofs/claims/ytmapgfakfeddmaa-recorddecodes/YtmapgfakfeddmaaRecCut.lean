/-
  Bytes that are read whole, and bytes that are cut off.
-/
import Derived.Test.YtmapgfakfeddmaaRecRound
namespace Go.Proofs.Ytmapgfakfeddmaa
open Go.RowKit
set_option linter.unusedVariables false

theorem Tells.check : ∀ s, (pCheck s).2.e = 0 → s.e = 0 ∧ s.l = checkB (pCheck s).1.1 (pCheck s).1.2.1 (pCheck s).1.2.2 ++ (pCheck s).2.l := by
  intro s h
  have h5 := Tells.some Tells.di _ _ h
  have h4 := Tells.in 0 32 _ h5.1
  have h3 := Tells.some Tells.tx _ _ h4.1
  have h2 := Tells.in 0 16 _ h3.1
  have h1 := Tells.num 8 _ h2.1
  refine ⟨h1.1, ?_⟩
  have e : ∀ (b n m : Nat) (ts : List Tx) (ds : List Di), ts.length = n → ds.length = m → checkB b ts ds = beB 8 b ++ (beB 1 n ++ (txsB ts ++ (beB 1 m ++ disB ds))) := by
    rintro b n m ts ds rfl rfl
    rfl
  unfold pCheck bindP pureP
  simp only
  rw [e _ _ _ _ _ h3.2.2 h5.2.2]
  rw [h1.2.1, h2.2.1, h3.2.1, h4.2.1, h5.2.1]
  simp only [List.append_assoc]
  rfl

theorem Tells.may {α : Type} {q : Prop} [Decidable q] {z : α} {p : St → α × St} {f : α → List UInt8} (h : Tells p f) : ∀ s, (pMay q z p s).2.e = 0 → s.e = 0 ∧ s.l = mayB q (f (pMay q z p s).1) ++ (pMay q z p s).2.l := by
  intro s
  unfold pMay mayB
  by_cases hq : q
  · rw [if_pos hq, if_pos hq]
    exact h s
  · rw [if_neg hq, if_neg hq]
    intro he
    exact ⟨he, rfl⟩

theorem mayB_iff {a b : Prop} [Decidable a] [Decidable b] (h : a ↔ b) (l : List UInt8) : mayB a l = mayB b l := by
  unfold mayB
  by_cases hb : b
  · rw [if_pos (h.2 hb), if_pos hb]
  · rw [if_neg (fun g => hb (h.1 g)), if_neg hb]

theorem Tells.rec : ∀ s, (pRec s).2.e = 0 → s.e = 0 ∧ s.l = recB (pRec s).1 ++ (pRec s).2.l := by
  intro s h
  have h8 := Tells.may (f := fun x : Nat × List Tx × List Di => checkB x.1 x.2.1 x.2.2) Tells.check _ h
  have h7 := Tells.may (f := fun x : Nat => beB 1 x) (fun s hs => ⟨(Tells.num 1 s hs).1, (Tells.num 1 s hs).2.1⟩) _ h8.1
  have h6 := Tells.may (f := fun x : Nat => beB 8 x) (fun s hs => ⟨(Tells.num 8 s hs).1, (Tells.num 8 s hs).2.1⟩) _ h7.1
  have h5 := Tells.may Tells.ch _ h6.1
  have h4 := Tells.num 8 _ h5.1
  have h3 := Tells.num 4 _ h4.1
  have h2 := Tells.num 8 _ h3.1
  have h1 := Tells.in 1 8 _ h2.1
  refine ⟨h1.1, ?_⟩
  have e : ∀ (k l t p : Nat) (c : Ch) (n sv b : Nat) (ts : List Tx) (ds : List Di), recB ⟨k, l, t, p, c, n, sv, b, ts, ds⟩ = beB 1 k ++ (beB 8 l ++ (beB 4 t ++ (beB 8 p ++ (mayB (k ≤ 2) (chB c) ++ (mayB (k = 2) (beB 8 n) ++ (mayB (k = 6) (beB 1 sv) ++ mayB (k = 8) (checkB b ts ds))))))) := by
    intro k l t p c n sv b ts ds
    unfold recB
    simp only [Int.toNat_natCast]
    rw [mayB_iff (show ((k : Int) ≤ 2) ↔ k ≤ 2 by omega), mayB_iff (show ((k : Int) = 2) ↔ k = 2 by omega), mayB_iff (show ((k : Int) = 6) ↔ k = 6 by omega), mayB_iff (show ((k : Int) = 8) ↔ k = 8 by omega)]
  show s.l = recB _ ++ _
  unfold pRec bindP pureP
  simp only
  rw [e]
  rw [h1.2.1, h2.2.1, h3.2.1, h4.2.1, h5.2, h6.2, h7.2, h8.2]
  simp only [List.append_assoc]

/-- What is decoded is right, and has just these bytes. -/
theorem dec_ok (b : List UInt8) (h : (decR b).2 = 0) : (decR b).1.right ∧ recB (decR b).1 = b := by
  unfold decR at h ⊢
  by_cases h1 : (pRec ⟨b, 0⟩).2.e ≠ 0
  · rw [if_pos h1] at h
    exact absurd h h1
  · rw [if_neg h1] at h ⊢
    by_cases h2 : (pRec ⟨b, 0⟩).2.l ≠ [] ∨ (pRec ⟨b, 0⟩).1.rightB = false
    · rw [if_pos h2] at h
      cases h
    · rw [if_neg h2]
      have h3 : (pRec ⟨b, 0⟩).2.l = [] := Decidable.of_not_not fun h3 => h2 (.inl h3)
      have h4 : (pRec ⟨b, 0⟩).1.rightB = true := by
        cases hb : (pRec ⟨b, 0⟩).1.rightB
        · exact absurd (.inr hb) h2
        · rfl
      obtain ⟨_, h5⟩ := Tells.rec ⟨b, 0⟩ (Decidable.of_not_not h1)
      refine ⟨rightB_iff.1 h4, ?_⟩
      rw [h3, List.append_nil] at h5
      exact h5.symm
theorem dec_no (b : List UInt8) (h : (decR b).2 ≠ 0) : (decR b).1 = Rec.zero := by
  unfold decR at h ⊢
  split
  · rfl
  · rename_i h1
    rw [if_neg h1] at h
    split
    · rfl
    · rename_i h2
      rw [if_neg h2] at h
      exact absurd rfl h

/-! ### Cut off -/
/-- The one reads what the other reads, whose end the one lacks; or has come to its end. -/
def Rel (t : List UInt8) (s s' : St) : Prop := s.e = 4 ∨ (s.e = 0 ∧ s'.e = 0 ∧ s'.l = s.l ++ t)
structure Good {α : Type} (p : St → α × St) : Prop where
  stick : ∀ s, s.e ≠ 0 → (p s).2 = s
  sim : ∀ t s s', Rel t s s' → (p s').2.e = 0 → Rel t (p s).2 (p s').2 ∧ ((p s).2.e = 0 → (p s).1 = (p s').1)
theorem Good.pure {α : Type} (a : α) : Good (pureP a) := ⟨fun s _ => rfl, fun t s s' h _ => ⟨h, fun _ => rfl⟩⟩
theorem Good.bind {α β : Type} {p : St → α × St} {q : α → St → β × St} (hp : Good p) (hq : ∀ a, Good (q a)) : Good (bindP p q) := by
  refine ⟨fun s hs => ?_, fun t s s' h h' => ?_⟩
  · unfold bindP
    have h1 := hp.stick s hs
    rw [h1]
    exact (hq _).stick s hs
  · unfold bindP at h' ⊢
    have e' : (p s').2.e = 0 := by
      by_cases he : (p s').2.e = 0
      · exact he
      · rw [(hq _).stick _ he] at h'
        exact h'
    obtain ⟨h1, h2⟩ := hp.sim t s s' h e'
    by_cases he : (p s).2.e = 0
    · rw [h2 he]
      exact (hq _).sim t _ _ h1 h'
    · have h4 : (p s).2.e = 4 := by
        rcases h1 with h1 | h1
        · exact h1
        · exact absurd h1.1 he
      rw [(hq (p s).1).stick _ he]
      exact ⟨.inl h4, fun h5 => absurd h5 he⟩
theorem Good.num (w : Nat) : Good (pNum w) := by
  refine ⟨fun s hs => by unfold pNum; rw [if_pos hs], fun t s s' h h' => ?_⟩
  rcases h with h | ⟨h1, h2, h3⟩
  · have hs : s.e ≠ 0 := by omega
    have e : pNum w s = (0, s) := by unfold pNum; rw [if_pos hs]
    rw [e]
    exact ⟨.inl h, fun h5 => absurd h5 hs⟩
  · by_cases hw : w ≤ s.l.length
    · have e : pNum w s = (be (s.l.take w), ⟨s.l.drop w, 0⟩) := by unfold pNum; rw [if_neg (by simpa using h1), if_pos hw]
      have hw' : w ≤ s'.l.length := by rw [h3, List.length_append]; omega
      have e' : pNum w s' = (be (s'.l.take w), ⟨s'.l.drop w, 0⟩) := by unfold pNum; rw [if_neg (by simpa using h2), if_pos hw']
      rw [e, e', h3]
      refine ⟨.inr ⟨rfl, rfl, ?_⟩, fun _ => ?_⟩
      · show (s.l ++ t).drop w = s.l.drop w ++ t
        rw [List.drop_append_of_le_length hw]
      · show be (s.l.take w) = be ((s.l ++ t).take w)
        rw [List.take_append_of_le_length hw]
    · have e : pNum w s = (0, ⟨[], 4⟩) := by unfold pNum; rw [if_neg (by simpa using h1), if_neg hw]
      rw [e]
      exact ⟨.inl rfl, fun h5 => by cases h5⟩
theorem Good.text : Good pText := by
  refine ⟨fun s hs => by unfold pText; rw [if_pos hs], fun t s s' h h' => ?_⟩
  rcases h with h | ⟨h1, h2, h3⟩
  · have hs : s.e ≠ 0 := by omega
    have e : pText s = (⟨#[]⟩, s) := by unfold pText; rw [if_pos hs]
    rw [e]
    exact ⟨.inl h, fun h5 => absurd h5 hs⟩
  · obtain ⟨l, e⟩ := s
    obtain ⟨l', e'⟩ := s'
    simp only at h1 h2 h3
    subst h1 h2 h3
    cases l with
    | nil => exact ⟨.inl rfl, fun h5 => by cases h5⟩
    | cons b l =>
      by_cases hb : b.toNat ≤ l.length
      · have e1 : pText ⟨b :: l, 0⟩ = (⟨(l.take b.toNat).toArray⟩, ⟨l.drop b.toNat, 0⟩) := by
          unfold pText
          rw [if_neg (by simp)]
          simp only
          rw [if_pos hb]
        have e2 : pText ⟨b :: l ++ t, 0⟩ = (⟨((l ++ t).take b.toNat).toArray⟩, ⟨(l ++ t).drop b.toNat, 0⟩) := by
          unfold pText
          rw [if_neg (by simp)]
          simp only [List.cons_append]
          rw [if_pos (by rw [List.length_append]; omega)]
        rw [e1, e2, List.drop_append_of_le_length hb, List.take_append_of_le_length hb]
        exact ⟨.inr ⟨rfl, rfl, rfl⟩, fun _ => rfl⟩
      · have e1 : pText ⟨b :: l, 0⟩ = (⟨#[]⟩, ⟨[], 4⟩) := by
          unfold pText
          rw [if_neg (by simp)]
          simp only
          rw [if_neg hb]
        rw [e1]
        exact ⟨.inl rfl, fun h5 => by cases h5⟩
theorem Good.in (lo hi : Nat) : Good (pIn lo hi) := by
  refine ⟨fun s hs => ?_, fun t s s' h h' => ?_⟩
  · unfold pIn
    have h1 := (Good.num 1).stick s hs
    rw [if_neg (by rw [h1]; exact fun h => hs h.1)]
    exact h1
  · have hc' : ¬ ((pNum 1 s').2.e = 0 ∧ ((pNum 1 s').1 < lo ∨ hi < (pNum 1 s').1)) := by
      intro hc
      unfold pIn at h'
      rw [if_pos hc] at h'
      cases h'
    have e' : pIn lo hi s' = pNum 1 s' := by unfold pIn; rw [if_neg hc']
    rw [e'] at h' ⊢
    obtain ⟨h1, h2⟩ := (Good.num 1).sim t s s' h h'
    have hc : ¬ ((pNum 1 s).2.e = 0 ∧ ((pNum 1 s).1 < lo ∨ hi < (pNum 1 s).1)) := by
      intro hc
      rw [h2 hc.1] at hc
      exact hc' ⟨h', hc.2⟩
    have e : pIn lo hi s = pNum 1 s := by unfold pIn; rw [if_neg hc]
    rw [e]
    exact ⟨h1, h2⟩
theorem Good.some {α : Type} {p : St → α × St} (hp : Good p) : ∀ n, Good (pSome p n)
  | 0 => ⟨fun s _ => rfl, fun t s s' h _ => ⟨h, fun _ => rfl⟩⟩
  | n + 1 => by
    have ih := Good.some hp n
    refine ⟨fun s hs => by unfold pSome; rw [if_pos hs], fun t s s' h h' => ?_⟩
    by_cases hs : s.e = 0
    · have hs' : s'.e = 0 := by
        rcases h with h | h
        · omega
        · exact h.2.1
      have e : pSome p (n + 1) s = ((p s).1 :: (pSome p n (p s).2).1, (pSome p n (p s).2).2) := by
        conv => lhs; unfold pSome
        rw [if_neg (by simpa using hs)]
      have e' : pSome p (n + 1) s' = ((p s').1 :: (pSome p n (p s').2).1, (pSome p n (p s').2).2) := by
        conv => lhs; unfold pSome
        rw [if_neg (by simpa using hs')]
      rw [e'] at h' ⊢
      rw [e]
      have e1 : (p s').2.e = 0 := by
        by_cases he : (p s').2.e = 0
        · exact he
        · have := ih.stick _ he
          simp only at h'
          rw [this] at h'
          exact h'
      obtain ⟨h1, h2⟩ := hp.sim t s s' h e1
      obtain ⟨h3, h4⟩ := ih.sim t _ _ h1 h'
      refine ⟨h3, fun h5 => ?_⟩
      have e2 : (p s).2.e = 0 := by
        by_cases he : (p s).2.e = 0
        · exact he
        · have := ih.stick _ he
          simp only at h5
          rw [this] at h5
          exact h5
      show _ :: _ = _ :: _
      rw [h2 e2, h4 h5]
    · have e : pSome p (n + 1) s = ([], s) := by
        conv => lhs; unfold pSome
        rw [if_pos hs]
      rw [e]
      have h4 : s.e = 4 := by
        rcases h with h | h
        · exact h
        · exact absurd h.1 hs
      exact ⟨.inl h4, fun h5 => absurd h5 hs⟩
theorem Good.may {α : Type} {q : Prop} [Decidable q] {z : α} {p : St → α × St} (hp : Good p) : Good (pMay q z p) := by
  unfold pMay
  split
  · exact hp
  · exact Good.pure z
theorem Good.ch : Good pCh := (Good.num 1).bind fun _ => (Good.num 2).bind fun _ => (Good.num 1).bind fun _ => Good.text.bind fun _ => Good.text.bind fun _ => Good.pure _
theorem Good.tx : Good pTx := (Good.num 4).bind fun _ => (Good.num 1).bind fun _ => (Good.num 8).bind fun _ => (Good.num 8).bind fun _ => (Good.num 8).bind fun _ => Good.pure _
theorem Good.di : Good pDi := (Good.num 2).bind fun _ => (Good.num 8).bind fun _ => Good.pure _
theorem Good.check : Good pCheck := (Good.num 8).bind fun _ => (Good.in 0 16).bind fun n => (Good.some Good.tx n).bind fun _ => (Good.in 0 32).bind fun m => (Good.some Good.di m).bind fun _ => Good.pure _
theorem Good.record : Good pRec := (Good.in 1 8).bind fun _ => (Good.num 8).bind fun _ => (Good.num 4).bind fun _ => (Good.num 8).bind fun _ => (Good.may Good.ch).bind fun _ => (Good.may (Good.num 8)).bind fun _ => (Good.may (Good.num 1)).bind fun _ => (Good.may Good.check).bind fun _ => Good.pure _

/-- A record's bytes that are cut off. -/
theorem dec_cut (r : Rec) (h : r.right) (b t : List UInt8) (hb : recB r = b ++ t) (ht : t ≠ []) : decR b = (Rec.zero, 4) := by
  have h1 := Reads.rec r h []
  rw [List.append_nil, hb] at h1
  have h2 := (Good.record.sim t ⟨b, 0⟩ ⟨b ++ t, 0⟩ (.inr ⟨rfl, rfl, rfl⟩) (by rw [h1])).1
  rw [h1] at h2
  have h3 : (pRec ⟨b, 0⟩).2.e = 4 := by
    rcases h2 with h2 | ⟨_, _, h2⟩
    · exact h2
    · have h4 : ([] : List UInt8) = (pRec ⟨b, 0⟩).2.l ++ t := h2
      have h5 := congrArg List.length h4
      rw [List.length_append] at h5
      have h6 : t.length = 0 := by simp only [List.length_nil] at h5; omega
      exact absurd (List.eq_nil_of_length_eq_zero h6) ht
  unfold decR
  rw [h3, if_pos (by decide)]
end Go.Proofs.Ytmapgfakfeddmaa
