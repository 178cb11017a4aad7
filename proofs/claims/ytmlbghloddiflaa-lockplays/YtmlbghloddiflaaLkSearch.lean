/-
  The contracts of cmp.Compare, of the order of locks by owners, of slices.BinarySearchFunc at locks.
-/
import Derived.Test.YtmlbghloddiflaaLkMem
namespace Go.Proofs.Ytmlbghloddiflaa
open Go.RowKit
set_option linter.unusedVariables false

set_option maxRecDepth 4000 in
set_option maxHeartbeats 400000 in
theorem nan13 (x : Int) (w : World) : Calls Try.prog 96 #[.int .i64 x] w fun e w' => e = .returned (.bool false) ∧ w = w' := by
  go_enter Try.func96, Try.ntmps96
  go_wp2
  go_ret
  simp
/-- What Compare answers. -/
def cmpZ (x y : Int) : Int := if x < y then -1 else if y < x then 1 else 0
theorem cmpZ_lt (x y : Int) : (cmpZ x y < 0 ↔ x < y) ∧ (cmpZ x y = 0 ↔ x = y) := by
  unfold cmpZ
  split
  · constructor <;> omega
  · split
    · constructor <;> omega
    · constructor <;> omega
set_option maxRecDepth 4000 in
set_option maxHeartbeats 400000 in
theorem cmp13 (x y : Int) (w : World) : Calls Try.prog 81 #[.int .i64 x, .int .i64 y] w fun e w' => e = .returned (.int .i64 (cmpZ x y)) ∧ w = w' := by
  have HN := hide (fun z w => nan13 z w)
  unfold cmpZ
  by_cases h1 : x < y
  · rw [if_pos h1]
    go_enter Try.func81, Try.ntmps81
    go_wp2_with fail
    refine (HN.out x w).mono ?_
    rintro e w1 ⟨rfl, rfl⟩
    go_wp2_with fail
    refine (HN.out y w).mono ?_
    rintro e w1 ⟨rfl, rfl⟩
    go_wp2
    go_ret
    exact ⟨rfl, rfl⟩
  · rw [if_neg h1]
    by_cases h2 : y < x
    · rw [if_pos h2]
      go_enter Try.func81, Try.ntmps81
      go_wp2_with fail
      refine (HN.out x w).mono ?_
      rintro e w1 ⟨rfl, rfl⟩
      go_wp2_with fail
      refine (HN.out y w).mono ?_
      rintro e w1 ⟨rfl, rfl⟩
      go_wp2
      go_ret
      exact ⟨rfl, rfl⟩
    · rw [if_neg h2]
      go_enter Try.func81, Try.ntmps81
      go_wp2_with fail
      refine (HN.out x w).mono ?_
      rintro e w1 ⟨rfl, rfl⟩
      go_wp2_with fail
      refine (HN.out y w).mono ?_
      rintro e w1 ⟨rfl, rfl⟩
      go_wp2
      go_ret
      exact ⟨rfl, rfl⟩
set_option maxRecDepth 4000 in
set_option maxHeartbeats 400000 in
theorem order13 (h : Hd) (n : Int) (w : World) : Calls Try.prog 80 #[.agg (hdA h), .int .i64 n] w fun e w' => e = .returned (.int .i64 (cmpZ h.w n)) ∧ Below w.heap.size w w' := by
  have c1 := (RowAt.new w 46 (hdA h)).cell 0 (.int .i64 h.w) rfl
  have HB := hide ((Below.refl w.heap.size w).alloc (Nat.le_refl _) (.cells (hdA h) 46))
  have HC := hide (fun w => cmp13 h.w n w)
  generalize cmpZ h.w n = c at *
  generalize hdA h = A at *
  go_enter Try.func80, Try.ntmps80
  go_wp2_with fail
  refine (HC.out _).mono ?_
  rintro e w1 ⟨rfl, rfl⟩
  go_wp2
  go_ret
  exact ⟨rfl, HB.out⟩
/-- What the search tells. -/
def Found13 (l : List Hd) (n : Int) (w : World) (e : Ending) (w' : World) : Prop := ∃ i : Nat, ∃ q : Bool, e = .returned (.tuple #[.int .i64 (i : Int), .bool q]) ∧ i ≤ l.length ∧ (∀ j k, j < i → l[j]? = some k → k.w < n) ∧ (q = true → ∃ k, l[i]? = some k ∧ k.w = n) ∧ (q = false → ∀ j k, i ≤ j → l[j]? = some k → n < k.w) ∧ Below w.heap.size w w'
theorem sort_get {l : List Hd} (hs : SortW l) {p q : Nat} {a b : Hd} (hpq : p < q) (ha : l[p]? = some a) (hb : l[q]? = some b) : a.w < b.w := by
  obtain ⟨h1, rfl⟩ := List.getElem?_eq_some_iff.1 ha
  obtain ⟨h2, rfl⟩ := List.getElem?_eq_some_iff.1 hb
  exact List.pairwise_iff_getElem.1 hs p q h1 h2 hpq
set_option maxRecDepth 8000 in
set_option maxHeartbeats 1600000 in
theorem search13 (s : Sl) (l : List Hd) (n : Int) (w : World) (h : HB w s l) (hm : SortW l) (hl : l.length ≤ 1000000) :
    Calls Try.prog 79 #[slV s l.length, .int .i64 n, .func (.func 80) #[] #[]] w (Found13 l n w) := by
  have hcap := h.cap
  have H := hide h
  have HM := hide hm
  have HO := hide (fun h w => order13 h n w)
  obtain ⟨ln, hln⟩ : ∃ ln, ln = l.length := ⟨_, rfl⟩
  rw [← hln] at hcap hl ⊢
  have HLN := hide hln
  clear hln h hm
  unfold slV
  obtain ⟨ad, had⟩ : ∃ ad, ad = adr s.b := ⟨_, rfl⟩
  have HAD := hide had
  rw [← had]
  clear had
  generalize s.c = cap at *
  go_enter Try.func79, Try.ntmps79
  go_wp2
  go_loopw [9, 10, 11] (fun i j _ wr => ∃ p q : Nat, p ≤ q ∧ q ≤ ln ∧ i = .int .i64 (p : Int) ∧ j = .int .i64 (q : Int) ∧ Hid ((∀ k a, k < p → l[k]? = some a → a.w < n) ∧ (∀ k a, q ≤ k → l[k]? = some a → n ≤ a.w)) ∧ Hid (Below w.heap.size w wr)) (fun i j _ _ => (intOf j).toNat - (intOf i).toNat)
  case atStart => exact ⟨0, ln, Nat.zero_le _, Nat.le_refl _, rfl, rfl, ⟨fun k a hk => absurd hk (Nat.not_lt_zero _), fun k a h1 h2 => by rw [HLN.out, ] at h1; rw [List.getElem?_eq_none h1] at h2; cases h2⟩, Below.refl _ _⟩
  case round =>
    obtain ⟨p, q, hpq, hq, rfl, rfl, HPQ, HB⟩ := hrel
    by_cases hlt : p < q
    · have ipq : (p : Int) < (q : Int) := by omega
      obtain ⟨hh, hhd⟩ : ∃ hh, hh = (p + q) / 2 := ⟨_, rfl⟩
      have eh : ((p : Int) + (q : Int)) / 2 = (hh : Int) := by omega
      have h1 : p ≤ hh := by omega
      have h2 : hh < q := by omega
      have hhl : (hh : Int) < (ln : Int) := by omega
      obtain ⟨m, hmm⟩ : ∃ m, l[hh]? = some m := ⟨_, List.getElem?_eq_getElem (by have := HLN.out; omega)⟩
      obtain ⟨b, hb0, hbl, c0, c1, c2⟩ := (H.out.later HB.out).at hmm
      have hmeq := HAD.out
      rw [hb0] at hmeq
      have hmeq2 : ad = some ⟨b, 0, none⟩ := hmeq
      subst hmeq2
      have HMM := hide hmm
      have HO1 := hide (fun w => HO.out m w)
      clear hmm hmeq hhd hb0
      by_cases hlo : m.w < n
      · have ilo : cmpZ m.w n < 0 := (cmpZ_lt _ _).1.2 hlo
        unfold hdA at HO1
        generalize cmpZ m.w n = c at *
        go_wp2_with fail
        refine (HO1.out wr).mono ?_
        rintro e w1 ⟨rfl, hb1⟩
        have HB1 := hide (HB.out.trans (hb1.mono HB.out.size))
        clear hb1 HB HO1 c0 c1 c2 hbl
        go_wp2
        go_roundw
        case rel =>
          refine ⟨hh + 1, q, by omega, hq, by go_num, rfl, ⟨fun k a hk ha => ?_, HPQ.out.2⟩, HB1.out⟩
          rcases Nat.lt_or_ge k hh with hk2 | hk2
          · have := sort_get HM.out hk2 ha HMM.out
            omega
          · obtain rfl : k = hh := by omega
            have e := HMM.out
            rw [ha] at e
            injection e with e
            rw [e]
            exact hlo
        case measure => simp [intOf]; omega
      · have ilo : ¬ cmpZ m.w n < 0 := fun h => hlo ((cmpZ_lt _ _).1.1 h)
        unfold hdA at HO1
        generalize cmpZ m.w n = c at *
        go_wp2_with fail
        refine (HO1.out wr).mono ?_
        rintro e w1 ⟨rfl, hb1⟩
        have HB1 := hide (HB.out.trans (hb1.mono HB.out.size))
        clear hb1 HB HO1 c0 c1 c2 hbl
        go_wp2
        go_roundw
        case rel =>
          refine ⟨p, hh, h1, by omega, rfl, rfl, ⟨HPQ.out.1, fun k a hk ha => ?_⟩, HB1.out⟩
          rcases Nat.lt_or_ge hh k with hk3 | hk3
          · have := sort_get HM.out hk3 HMM.out ha
            omega
          · obtain rfl : k = hh := by omega
            have e := HMM.out
            rw [ha] at e
            injection e with e
            rw [e]
            omega
        case measure => simp [intOf]; omega
    · obtain rfl : p = q := by omega
      by_cases hpl : p < ln
      · have ipl : (p : Int) < (ln : Int) := by omega
        obtain ⟨m, hmm⟩ : ∃ m, l[p]? = some m := ⟨_, List.getElem?_eq_getElem (by have := HLN.out; omega)⟩
        obtain ⟨b, hb0, hbl, c0, c1, c2⟩ := (H.out.later HB.out).at hmm
        have hmeq := HAD.out
        rw [hb0] at hmeq
        have hmeq2 : ad = some ⟨b, 0, none⟩ := hmeq
        subst hmeq2
        have HMM := hide hmm
        have HO1 := hide (fun w => HO.out m w)
        clear hmm hmeq hb0
        unfold hdA at HO1
        by_cases heq : m.w = n
        · have ieq : (cmpZ m.w n == 0) = true := by rw [beq_iff_eq]; exact (cmpZ_lt _ _).2.2 heq
          have HEQ := hide heq
          clear heq
          generalize cmpZ m.w n = c at *
          go_wp2_with fail
          refine (HO1.out wr).mono ?_
          rintro e w1 ⟨rfl, hb1⟩
          have HB1 := hide (HB.out.trans (hb1.mono HB.out.size))
          clear hb1 HB HO1 c0 c1 c2 hbl
          go_wp2
          go_ret2
          exact ⟨p, true, rfl, by have := HLN.out; omega, HPQ.out.1, fun _ => ⟨m, HMM.out, HEQ.out⟩, fun h => (nomatch h), HB1.out⟩
        · have ieq : (cmpZ m.w n == 0) = false := by rw [beq_eq_false_iff_ne]; exact fun h => heq ((cmpZ_lt _ _).2.1 h)
          generalize cmpZ m.w n = c at *
          go_wp2_with fail
          refine (HO1.out wr).mono ?_
          rintro e w1 ⟨rfl, hb1⟩
          have HB1 := hide (HB.out.trans (hb1.mono HB.out.size))
          clear hb1 HB HO1 c0 c1 c2 hbl
          go_wp2
          go_ret2
          refine ⟨p, false, rfl, by have := HLN.out; omega, HPQ.out.1, fun h => (nomatch h), fun _ j k hj hk => ?_, HB1.out⟩
          have h5 := HPQ.out.2 p m (Nat.le_refl _) HMM.out
          rcases Nat.lt_or_ge p j with h3 | h3
          · have h4 := sort_get HM.out h3 HMM.out hk
            omega
          · obtain rfl : j = p := by omega
            have e := HMM.out
            rw [hk] at e
            injection e with e
            rw [e]
            omega
      · have ipl : ¬ (p : Int) < (ln : Int) := by omega
        go_wp2
        go_ret2
        refine ⟨p, false, rfl, by have := HLN.out; omega, HPQ.out.1, fun h => (nomatch h), fun _ j k hj hk => ?_, HB.out⟩
        rw [List.getElem?_eq_none (by have := HLN.out; omega)] at hk
        cases hk
end Go.Proofs.Ytmlbghloddiflaa
