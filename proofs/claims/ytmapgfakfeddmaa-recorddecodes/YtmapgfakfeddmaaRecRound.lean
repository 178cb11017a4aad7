/-
  A record's bytes are read as it; bytes that are read are just the bytes of what they tell; cut off they end too early.
-/
import Derived.Test.YtmapgfakfeddmaaRecMath
namespace Go.Proofs.Ytmapgfakfeddmaa
open Go.RowKit
set_option linter.unusedVariables false

theorem Reads.same {α : Type} {a b : α} (h : b = a) : Reads (pureP a) b [] := by
  subst h
  exact Reads.pure _
theorem cast_nat (k : Int) (h : 0 ≤ k) : ((k.toNat : Nat) : Int) = k := Int.toNat_of_nonneg h

theorem Reads.ch (c : Ch) (h : c.right) : Reads pCh c (chB c) := by
  obtain ⟨h1, h2⟩ := h
  have hk : 1 ≤ c.k ∧ c.k ≤ 3 := by rcases h2 with h | h | h <;> omega
  have e : c = ⟨(c.k.toNat : Nat), (c.pg.toNat : Nat), (c.sl.toNat : Nat), c.o, c.n⟩ := by
    rw [cast_nat _ (by omega), cast_nat _ (by omega), cast_nat _ (by omega)]
  unfold pCh chB
  refine (Reads.num 1 _ (by omega)).bind ((Reads.num 2 _ (by omega)).bind ((Reads.num 1 _ (by omega)).bind ((Reads.text c.o (by omega)).bind ((Reads.text c.n (by omega)).last ?_))))
  exact Reads.same e
theorem Reads.tx (l : Nat) (x : Tx) (hl : l ≤ maxP) (h : txOk l x) : Reads pTx x (txB x) := by
  obtain ⟨h1, h2, h3, h4, h5, h6, h7, h8⟩ := h
  have e : x = ⟨(x.t.toNat : Nat), (x.s.toNat : Nat), x.f, x.l, x.n⟩ := by
    rw [cast_nat _ (by omega), cast_nat _ (by omega)]
  unfold maxP at hl
  unfold pTx txB
  refine (Reads.num 4 _ (by omega)).bind ((Reads.num 1 _ (by omega)).bind ((Reads.num 8 _ (by omega)).bind ((Reads.num 8 _ (by omega)).bind ((Reads.num 8 _ (by omega)).last ?_))))
  exact Reads.same e
theorem Reads.di (l : Nat) (d : Di) (hl : l ≤ maxP) (h : diOk l d) : Reads pDi d (diB d) := by
  obtain ⟨h1, h2, h3, h4⟩ := h
  have e : d = ⟨(d.p.toNat : Nat), d.r⟩ := by rw [cast_nat _ (by omega)]
  unfold maxP at hl
  unfold pDi diB
  refine (Reads.num 2 _ (by omega)).bind ((Reads.num 8 _ (by omega)).last ?_)
  exact Reads.same e
theorem mem_getD {α : Type} (xs : List α) (z x : α) (h : x ∈ xs) : ∃ i, i < xs.length ∧ xs.getD i z = x := by
  obtain ⟨i, hi, he⟩ := List.mem_iff_getElem.1 h
  exact ⟨i, hi, by simp [List.getD, hi, he]⟩
theorem Reads.check (r : Rec) (hl : r.l ≤ maxP) (h : r.rows) : Reads pCheck (r.b, r.ts, r.ds) (checkB r.b r.ts r.ds) := by
  obtain ⟨h1, h2, h3, h4, h5, h6⟩ := h
  have g1 : ∀ x ∈ r.ts, Reads pTx x (txB x) := fun x hx => by
    obtain ⟨i, hi, rfl⟩ := mem_getD r.ts Tx.zero x hx
    exact Reads.tx r.l _ hl (h3 i hi).1
  have g2 : ∀ x ∈ r.ds, Reads pDi x (diB x) := fun x hx => by
    obtain ⟨i, hi, rfl⟩ := mem_getD r.ds Di.zero x hx
    exact Reads.di r.l _ hl (h4 i hi).1
  unfold maxP at hl
  unfold pCheck checkB
  exact (Reads.num 8 _ (by omega)).bind ((Reads.in 0 16 _ (by omega) (by omega) h1).bind ((Reads.some r.ts g1).bind ((Reads.in 0 32 _ (by omega) (by omega) h2).bind ((Reads.some r.ds g2).last (Reads.pure _)))))
theorem Reads.rec (r : Rec) (h : r.right) : Reads pRec r (recB r) := by
  have hk1 := h.k1
  have hk8 := h.k8
  have ht : 0 ≤ r.t ∧ r.t < 4294967296 := by
    by_cases hk : r.k ≤ 6
    · have := h.own hk
      omega
    · have := h.none (by omega)
      omega
  have hp : r.p < 256 ^ 8 := by
    have hl := h.lm
    unfold maxP at hl
    by_cases hk : r.k ≤ 6
    · have := h.own hk
      omega
    · have := h.none (by omega)
      omega
  have hll := h.lm
  have hs : 0 ≤ r.s ∧ r.s < 256 := by
    by_cases hk : r.k = 6
    · have := h.save hk
      omega
    · have := h.nosave hk
      omega
  have hn : r.n < 256 ^ 8 := by
    unfold maxP at hll
    by_cases hk : r.k = 2
    · have := h.next hk
      omega
    · have := h.nonext hk
      omega
  have e : r = ⟨(r.k.toNat : Nat), r.l, (r.t.toNat : Nat), r.p, r.c, r.n, (r.s.toNat : Nat), (r.b, r.ts, r.ds).1, (r.b, r.ts, r.ds).2.1, (r.b, r.ts, r.ds).2.2⟩ := by
    rw [cast_nat _ (by omega), cast_nat _ ht.1, cast_nat _ hs.1]
  have ek := cast_nat r.k (by omega)
  have m1 : mayB (r.k ≤ 2) (chB r.c) = mayB (r.k.toNat ≤ 2) (chB r.c) := by
    unfold mayB
    by_cases hk : r.k ≤ 2
    · rw [if_pos hk, if_pos (by omega)]
    · rw [if_neg hk, if_neg (by omega)]
  have m2 : mayB (r.k = 2) (beB 8 r.n) = mayB (r.k.toNat = 2) (beB 8 r.n) := by
    unfold mayB
    by_cases hk : r.k = 2
    · rw [if_pos hk, if_pos (by omega)]
    · rw [if_neg hk, if_neg (by omega)]
  have m3 : mayB (r.k = 6) (beB 1 r.s.toNat) = mayB (r.k.toNat = 6) (beB 1 r.s.toNat) := by
    unfold mayB
    by_cases hk : r.k = 6
    · rw [if_pos hk, if_pos (by omega)]
    · rw [if_neg hk, if_neg (by omega)]
  have m4 : mayB (r.k = 8) (checkB r.b r.ts r.ds) = mayB (r.k.toNat = 8) (checkB r.b r.ts r.ds) := by
    unfold mayB
    by_cases hk : r.k = 8
    · rw [if_pos hk, if_pos (by omega)]
    · rw [if_neg hk, if_neg (by omega)]
  unfold pRec recB
  rw [m1, m2, m3, m4]
  refine (Reads.in 1 8 _ (by omega) (by omega) (by omega)).bind ((Reads.num 8 r.l (by unfold maxP at hll; omega)).bind ((Reads.num 4 _ (by omega)).bind ((Reads.num 8 r.p hp).bind ((Reads.may (a := r.c) (fun hk => Reads.ch r.c (h.ch (by omega))) (fun hk => h.noch (by omega))).bind ((Reads.may (a := r.n) (fun hk => Reads.num 8 r.n hn) (fun hk => h.nonext (by omega))).bind
    ((Reads.may (a := r.s.toNat) (fun hk => Reads.num 1 _ (by omega)) (fun hk => by have := h.nosave (by omega); omega)).bind ((Reads.may (a := (r.b, r.ts, r.ds)) (fun hk => Reads.check r hll (h.check (by omega))) (fun hk => by obtain ⟨a1, a2, a3⟩ := h.nocheck (by omega); rw [a1, a2, a3])).last ?_)))))))
  exact Reads.same e

/-- A record's bytes, and bytes behind them. -/
theorem dec_enc (r : Rec) (h : r.right) : decR (recB r) = (r, 0) := by
  have h1 := Reads.rec r h []
  rw [List.append_nil] at h1
  unfold decR
  rw [h1, if_neg (by simp), if_neg]
  simp [rightB_yes h]
theorem dec_more (r : Rec) (h : r.right) (t : List UInt8) (ht : t ≠ []) : decR (recB r ++ t) = (Rec.zero, 2) := by
  unfold decR
  rw [Reads.rec r h t, if_neg (by simp), if_pos (.inl ht)]

/-! ### Bytes that are read are the bytes of what they tell -/
theorem beB_be : ∀ (bs : List UInt8), beB bs.length (be bs) = bs
  | [] => rfl
  | b :: bs => by
    have h := be_lt bs
    have hp : 0 < 256 ^ bs.length := Nat.pow_pos (by omega)
    rw [be_cons, List.length_cons, beB_cons, beB_low]
    have e1 : (b.toNat * 256 ^ bs.length + be bs) / 256 ^ bs.length = b.toNat := by
      rw [Nat.mul_comm, Nat.mul_add_div hp, Nat.div_eq_of_lt h, Nat.add_zero]
    have e2 : (b.toNat * 256 ^ bs.length + be bs) % 256 ^ bs.length = be bs := by
      rw [Nat.mul_comm, Nat.mul_add_mod, Nat.mod_eq_of_lt h]
    rw [e1, e2, beB_be bs]
    congr 1
    simp
def Tells {α : Type} (p : St → α × St) (f : α → List UInt8) : Prop := ∀ s, (p s).2.e = 0 → s.e = 0 ∧ s.l = f (p s).1 ++ (p s).2.l
theorem Tells.num (w : Nat) : ∀ s, (pNum w s).2.e = 0 → s.e = 0 ∧ s.l = beB w (pNum w s).1 ++ (pNum w s).2.l ∧ (pNum w s).1 < 256 ^ w := by
  intro s
  unfold pNum
  by_cases he : s.e = 0
  · rw [if_neg (by simpa using he)]
    by_cases hw : w ≤ s.l.length
    · rw [if_pos hw]
      intro _
      have hl : (s.l.take w).length = w := by rw [List.length_take]; omega
      refine ⟨he, ?_, ?_⟩
      · show s.l = beB w (be (s.l.take w)) ++ s.l.drop w
        have h := beB_be (s.l.take w)
        rw [hl] at h
        rw [h, List.take_append_drop]
      · have h := be_lt (s.l.take w)
        rwa [hl] at h
    · rw [if_neg hw]
      intro h
      cases h
  · rw [if_pos he]
    intro h
    exact absurd h he
theorem Tells.text : ∀ s, (pText s).2.e = 0 → s.e = 0 ∧ s.l = textB (pText s).1.data.toList ++ (pText s).2.l := by
  intro s
  unfold pText
  by_cases he : s.e = 0
  · rw [if_neg (by simpa using he)]
    obtain ⟨l, e⟩ := s
    cases l with
    | nil => intro h; cases h
    | cons b l =>
      simp only
      by_cases hb : b.toNat ≤ l.length
      · rw [if_pos hb]
        intro _
        refine ⟨he, ?_⟩
        show b :: l = textB (l.take b.toNat) ++ l.drop b.toNat
        unfold textB
        have hl : (l.take b.toNat).length = b.toNat := by rw [List.length_take]; omega
        rw [hl, List.cons_append, List.take_append_drop]
        congr 1
        simp
      · rw [if_neg hb]
        intro h
        cases h
  · rw [if_pos he]
    intro h
    exact absurd h he
theorem Tells.in (lo hi : Nat) : ∀ s, (pIn lo hi s).2.e = 0 → s.e = 0 ∧ s.l = beB 1 (pIn lo hi s).1 ++ (pIn lo hi s).2.l ∧ lo ≤ (pIn lo hi s).1 ∧ (pIn lo hi s).1 ≤ hi := by
  intro s
  unfold pIn
  by_cases h : (pNum 1 s).2.e = 0 ∧ ((pNum 1 s).1 < lo ∨ hi < (pNum 1 s).1)
  · rw [if_pos h]
    intro h2
    cases h2
  · rw [if_neg h]
    intro h2
    obtain ⟨h3, h4, _⟩ := Tells.num 1 s h2
    exact ⟨h3, h4, by omega, by omega⟩

theorem Tells.ch : Tells pCh chB := by
  intro s h
  have h5 := Tells.text _ h
  have h4 := Tells.text _ h5.1
  have h3 := Tells.num 1 _ h4.1
  have h2 := Tells.num 2 _ h3.1
  have h1 := Tells.num 1 _ h2.1
  refine ⟨h1.1, ?_⟩
  rw [h1.2.1, h2.2.1, h3.2.1, h4.2, h5.2]
  show _ = (beB 1 _ ++ (beB 2 _ ++ (beB 1 _ ++ (textB _ ++ textB _)))) ++ _
  simp only [List.append_assoc]
  rfl
theorem Tells.tx : Tells pTx txB := by
  intro s h
  have h5 := Tells.num 8 _ h
  have h4 := Tells.num 8 _ h5.1
  have h3 := Tells.num 8 _ h4.1
  have h2 := Tells.num 1 _ h3.1
  have h1 := Tells.num 4 _ h2.1
  refine ⟨h1.1, ?_⟩
  rw [h1.2.1, h2.2.1, h3.2.1, h4.2.1, h5.2.1]
  show _ = (beB 4 _ ++ (beB 1 _ ++ (beB 8 _ ++ (beB 8 _ ++ beB 8 _)))) ++ _
  simp only [List.append_assoc]
  rfl
theorem Tells.di : Tells pDi diB := by
  intro s h
  have h2 := Tells.num 8 _ h
  have h1 := Tells.num 2 _ h2.1
  refine ⟨h1.1, ?_⟩
  rw [h1.2.1, h2.2.1]
  show _ = (beB 2 _ ++ beB 8 _) ++ _
  simp only [List.append_assoc]
  rfl
theorem Tells.some {α : Type} {p : St → α × St} {f : α → List UInt8} (hp : Tells p f) : ∀ n s, (pSome p n s).2.e = 0 → s.e = 0 ∧ s.l = (pSome p n s).1.flatMap f ++ (pSome p n s).2.l ∧ (pSome p n s).1.length = n
  | 0, s => fun h => ⟨h, rfl, rfl⟩
  | n + 1, s => by
    unfold pSome
    by_cases he : s.e = 0
    · rw [if_neg (by simpa using he)]
      intro h
      obtain ⟨h1, h2, h3⟩ := Tells.some hp n (p s).2 h
      obtain ⟨_, h4⟩ := hp s h1
      refine ⟨he, ?_, by show (pSome p n (p s).2).1.length + 1 = n + 1; rw [h3]⟩
      rw [h4]
      conv => lhs; rw [h2]
      show _ = (f _ ++ _) ++ _
      rw [List.append_assoc]
      rfl
    · rw [if_pos he]
      intro h
      exact absurd h he
end Go.Proofs.Ytmapgfakfeddmaa
