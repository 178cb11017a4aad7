/-
  The contracts of package page's Torn and Stamp.
-/
import Derived.Test.YtkbigineepohnaaPageMath
import Derived.Test.YtkbigineepohnaaPackTake
namespace Go.Proofs.Ytkbigineepohnaa
open Go.RowKit
set_option linter.unusedVariables false

theorem take8 (bs : List UInt8) (h : bs.length = 256) (p : Nat) (hp : p + 8 ≤ 256) : takeS bs (p : Int) 8 = (((beAt bs p 8 : Nat) : Int), 0) := by
  rw [takeS_ok bs p 8 (by omega) (by omega), Int.toNat_natCast]
  rfl

set_option maxHeartbeats 400000 in
theorem stamps_any (a : Option Addr) (cap : Nat) (bs : List UInt8) (w : World) (hB : IsB w a 256 bs) :
    Calls Try.prog 32 #[.slice a 256 cap] w fun e w' => e = .returned (.tuple #[.int .u64 (beAt bs 0 8 : Nat), .int .u64 (beAt bs 128 8 : Nat)]) ∧ w = w' := by
  have R1 := take_any a 256 cap bs 0 8 w hB (by omega) (by omega)
  have R2 := take_any a 256 cap bs 128 8 w hB (by omega) (by omega)
  have e1 := take8 bs hB.1 0 (by omega)
  have e2 := take8 bs hB.1 128 (by omega)
  rw [show takeS bs 0 8 = _ from e1] at R1
  rw [show takeS bs 128 8 = _ from e2] at R2
  have H1 := hide R1
  have H2 := hide R2
  clear R1 R2 e1 e2 hB
  go_enter Try.func32, Try.ntmps32
  go_wp2_with fail
  refine H1.out.mono ?_
  rintro e w1 ⟨rfl, rfl⟩
  go_wp2_with fail
  refine H2.out.mono ?_
  rintro e w1 ⟨rfl, rfl⟩
  go_wp2
  go_ret2
  exact ⟨rfl, rfl⟩

theorem be_inj : ∀ (k : Nat) (a b : List UInt8), a.length = k → b.length = k → be a = be b → a = b
  | 0, a, b, ha, hb, _ => by
    rw [List.eq_nil_of_length_eq_zero ha, List.eq_nil_of_length_eq_zero hb]
  | k + 1, a, b, ha, hb, h => by
    cases a with
    | nil => simp at ha
    | cons x xs =>
      cases b with
      | nil => simp at hb
      | cons y ys =>
        simp only [List.length_cons, Nat.add_right_cancel_iff] at ha hb
        rw [be_cons, be_cons, ha, hb] at h
        have h1 := be_lt xs
        have h2 := be_lt ys
        rw [ha] at h1
        rw [hb] at h2
        have hp : 0 < 256 ^ k := Nat.pow_pos (by omega)
        have e1 : (x.toNat * 256 ^ k + be xs) / 256 ^ k = x.toNat := by
          rw [Nat.mul_comm, Nat.mul_add_div hp, Nat.div_eq_of_lt h1, Nat.add_zero]
        have e2 : (y.toNat * 256 ^ k + be ys) / 256 ^ k = y.toNat := by
          rw [Nat.mul_comm, Nat.mul_add_div hp, Nat.div_eq_of_lt h2, Nat.add_zero]
        have e3 : x.toNat = y.toNat := by rw [← e1, ← e2, h]
        have e4 : be xs = be ys := by rw [e3] at h; omega
        rw [UInt8.toNat_inj.1 e3, be_inj k xs ys ha hb e4]

theorem torn_be (bs : List UInt8) (h : bs.length = 256) : tornB bs = ((beAt bs 0 8 : Nat) != (beAt bs 128 8 : Nat)) := by
  rw [Bool.eq_iff_iff, bne_iff_ne]
  unfold tornB
  rw [decide_eq_true_eq]
  have l1 : (bs.take 8).length = 8 := by rw [List.length_take]; omega
  have l2 : ((bs.drop 128).take 8).length = 8 := by rw [List.length_take, List.length_drop]; omega
  have e0 : beAt bs 0 8 = be (bs.take 8) := by unfold beAt; rw [List.drop_zero]
  have e1 : beAt bs 128 8 = be ((bs.drop 128).take 8) := rfl
  rw [e0, e1]
  refine ⟨fun g k => g.2 (be_inj 8 _ _ l1 l2 k), fun g => ⟨h, fun k => g (by rw [k])⟩⟩
theorem torn_short (bs : List UInt8) (h : ¬ bs.length = 256) : tornB bs = false := by
  unfold tornB
  rw [decide_eq_false_iff_not]
  exact fun g => h g.1

set_option maxHeartbeats 400000 in
theorem torn_same (a : Option Addr) (len cap : Nat) (bs : List UInt8) (w : World) (hB : IsB w a len bs) (hl : len ≤ 140737488355328) :
    Calls Try.prog 18 #[.slice a len cap] w fun e w' => e = .returned (.bool (tornB bs)) ∧ w = w' := by
  by_cases h : len = 256
  · subst h
    have H := hide (stamps_any a cap bs w hB)
    have e := torn_be bs hB.1
    rw [e]
    clear hB e
    generalize beAt bs 0 8 = x at *
    generalize beAt bs 128 8 = y at *
    have e3 : (((x : Nat) : Int) != ((y : Nat) : Int)) = (x != y) := by
      rw [Bool.eq_iff_iff, bne_iff_ne, bne_iff_ne]
      omega
    go_enter Try.func18, Try.ntmps18
    go_wp2_with fail
    refine H.out.mono ?_
    rintro e w1 ⟨rfl, rfl⟩
    go_wp2
    go_ret
    rw [← e3]
    exact ⟨rfl, rfl⟩
  · have e := torn_short bs (by rw [hB.1]; exact h)
    rw [e]
    have h1 : (((len : Nat) : Int) != 256) = true := by rw [bne_iff_ne]; omega
    clear hB e h
    go_enter Try.func18, Try.ntmps18
    go_wp2
    go_ret
    exact ⟨rfl, rfl⟩

theorem torn_any (a : Option Addr) (len cap : Nat) (bs : List UInt8) (w : World) (hB : IsB w a len bs) (hl : len ≤ 140737488355328) (hcap : len ≤ cap) :
    Calls Try.prog 18 #[.slice a len cap] w fun e w' => e = .returned (.bool (tornB bs)) ∧ Below w.heap.size w w' :=
  (torn_same a len cap bs w hB hl).mono fun e w' ⟨he, hw⟩ => ⟨he, by rw [← hw]; exact Below.refl _ _⟩

set_option maxHeartbeats 400000 in
theorem stamp_same (a : Option Addr) (len cap : Nat) (bs : List UInt8) (w : World) (hB : IsB w a len bs) (hl : len ≤ 140737488355328) :
    Calls Try.prog 16 #[.slice a len cap] w fun e w' => e = .returned (.tuple #[.int .u64 (stampB bs).1, .bool (stampB bs).2]) ∧ w = w' := by
  by_cases h : len = 256
  · subst h
    have HS := hide (stamps_any a cap bs w hB)
    have T := torn_same a 256 cap bs w hB hl
    cases ht : tornB bs with
    | true =>
      rw [ht] at T
      have HT := hide T
      have e : stampB bs = (0, false) := by unfold stampB; rw [if_neg (fun g => by rw [ht] at g; exact absurd g.2 (by decide))]
      rw [e]
      clear e T ht hB HS
      go_enter Try.func16, Try.ntmps16
      go_wp2_with fail
      refine HT.out.mono ?_
      rintro e w1 ⟨rfl, rfl⟩
      go_wp2
      go_ret2
      exact ⟨rfl, rfl⟩
    | false =>
      rw [ht] at T
      have HT := hide T
      have e : stampB bs = (beAt bs 0 8, true) := by unfold stampB; rw [if_pos ⟨hB.1, ht⟩]
      rw [e]
      clear e T ht hB
      generalize beAt bs 0 8 = x at *
      generalize beAt bs 128 8 = y at *
      go_enter Try.func16, Try.ntmps16
      go_wp2_with fail
      refine HT.out.mono ?_
      rintro e w1 ⟨rfl, rfl⟩
      go_wp2_with fail
      refine HS.out.mono ?_
      rintro e w1 ⟨rfl, rfl⟩
      go_wp2
      go_ret2
      exact ⟨rfl, rfl⟩
  · have e : stampB bs = (0, false) := by unfold stampB; rw [if_neg (fun g => h (by rw [← hB.1]; exact g.1))]
    rw [e]
    have h1 : (((len : Nat) : Int) != 256) = true := by rw [bne_iff_ne]; omega
    clear hB e h
    go_enter Try.func16, Try.ntmps16
    go_wp2
    go_ret2
    exact ⟨rfl, rfl⟩

theorem stamp_any (a : Option Addr) (len cap : Nat) (bs : List UInt8) (w : World) (hB : IsB w a len bs) (hl : len ≤ 140737488355328) (hcap : len ≤ cap) :
    Calls Try.prog 16 #[.slice a len cap] w fun e w' => e = .returned (.tuple #[.int .u64 (stampB bs).1, .bool (stampB bs).2]) ∧ Below w.heap.size w w' :=
  (stamp_same a len cap bs w hB hl).mono fun e w' ⟨he, hw⟩ => ⟨he, by rw [← hw]; exact Below.refl _ _⟩
end Go.Proofs.Ytkbigineepohnaa
