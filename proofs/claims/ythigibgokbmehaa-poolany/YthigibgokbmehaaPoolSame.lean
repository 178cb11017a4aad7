/-
  The contracts of quaysidelaw11.ints and rows: of two lists that are alike they return true. (gen11/same.py)
-/
import Derived.Test.YthigibgokbmehaaPoolRows
import Derived.Laws.OwnMore
import Derived.Deep.QuietTactic
import Derived.BigQuiet
namespace Go.Proofs.Ythigibgokbmehaa
open Go.RowKit
set_option linter.unusedVariables false

theorem own11_shape {w : World} {B n : Nat} {e : TypeId} {sz : Nat} {v : Value} {xs : List Value} (h : w.ownsRow B e sz v n xs) : ∃ a c, v = .slice a n c ∧ n ≤ c ∧ (0 < n → ∃ b, a = some ⟨b, 0, none⟩) := by
  rcases h.2 with ⟨rfl, h0⟩ | ⟨g, cap, cur, rfl, _, _, h1, _⟩
  · exact ⟨none, 0, by rw [h0], by omega, fun h => absurd h (by omega)⟩
  · exact ⟨_, _, rfl, h1, fun _ => ⟨g, rfl⟩⟩
theorem dirV_get : ∀ (l : List (Int × Int)) (j : Nat), j < l.length → (dirV l)[j * 2]? = some (.int .i64 (l.getD j (0, 0)).1) ∧ (dirV l)[j * 2 + 1]? = some (.int .u64 (l.getD j (0, 0)).2)
  | [], j, h => absurd h (Nat.not_lt_zero _)
  | x :: l, 0, _ => ⟨rfl, rfl⟩
  | x :: l, j + 1, h => by
    have ih := dirV_get l j (by simpa using h)
    rw [show (j + 1) * 2 = j * 2 + 1 + 1 by omega]
    exact ih
set_option maxRecDepth 4000 in
set_option maxHeartbeats 800000 in
theorem ints11 {w : World} {B C : Nat} {u v : Value} (l : List Int) (hl : l.length ≤ 32) (h1 : w.ownsRow B 3 1 u l.length (intsV l)) (h2 : w.ownsRow C 3 1 v l.length (intsV l)) : Calls Try.prog 19 #[u, v] w fun e w' => e = .returned (.bool true) ∧ Below w.heap.size w w' := by
  obtain ⟨a, c, rfl, hc, ha⟩ := own11_shape h1
  obtain ⟨a2, c2, rfl, hc2, ha2⟩ := own11_shape h2
  obtain ⟨n, hn⟩ : ∃ n, l.length = n := ⟨_, rfl⟩
  rw [hn] at h1 h2 hc hc2 ha ha2 hl ⊢
  have HL := hide hn
  have H1 := hide h1
  have H2 := hide h2
  have HA := hide (And.intro ha ha2)
  clear h1 h2 hn ha ha2
  go_enter Try.func19, Try.ntmps19
  go_wp2
  go_loopw [13] (fun v wr => ∃ j : Nat, j ≤ n ∧ v = .int .i64 j ∧ Hid (Below w.heap.size w wr)) (fun v _ => n - (intOf v).toNat)
  case atStart => exact ⟨0, Nat.zero_le _, rfl, Below.refl _ _⟩
  case round =>
    obtain ⟨j, hj, rfl, HB⟩ := hrel
    by_cases hlt : j < n
    · have i1 : (j : Int) < n := by omega
      obtain ⟨b1, rfl⟩ := HA.out.1 (by omega)
      obtain ⟨b2, rfl⟩ := HA.out.2 (by omega)
      have c0 := (own11_later H1.out HB.out).cellAt j (by omega)
      have d0 := (own11_later H2.out HB.out).cellAt j (by omega)
      rw [intsV_get _ _ (by rw [HL.out]; exact hlt)] at c0 d0
      generalize l.getD j 0 = z at *
      go_wp2_with fail
      go_quiet (fail)
      go_wp2
      go_roundw
      case rel => exact ⟨j + 1, by omega, by go_num, below_dn HB.out nq⟩
      case measure => simp [intOf]; omega
    · have i1 : ¬ (j : Int) < n := by omega
      go_wp2
      go_ret
      exact ⟨rfl, HB.out⟩
set_option maxRecDepth 4000 in
set_option maxHeartbeats 800000 in
theorem rows11 {w : World} {B C : Nat} {u v : Value} (l : List (Int × Int)) (hl : l.length ≤ 32) (h1 : w.ownsRow B 62 2 u l.length (dirV l)) (h2 : w.ownsRow C 62 2 v l.length (dirV l)) : Calls Try.prog 22 #[u, v] w fun e w' => e = .returned (.bool true) ∧ Below w.heap.size w w' := by
  obtain ⟨a, c, rfl, hc, ha⟩ := own11_shape h1
  obtain ⟨a2, c2, rfl, hc2, ha2⟩ := own11_shape h2
  obtain ⟨n, hn⟩ : ∃ n, l.length = n := ⟨_, rfl⟩
  rw [hn] at h1 h2 hc hc2 ha ha2 hl ⊢
  have HL := hide hn
  have H1 := hide h1
  have H2 := hide h2
  have HA := hide (And.intro ha ha2)
  clear h1 h2 hn ha ha2
  go_enter Try.func22, Try.ntmps22
  go_wp2
  go_loopw [13] (fun v wr => ∃ j : Nat, j ≤ n ∧ v = .int .i64 j ∧ Hid (Below w.heap.size w wr)) (fun v _ => n - (intOf v).toNat)
  case atStart => exact ⟨0, Nat.zero_le _, rfl, Below.refl _ _⟩
  case round =>
    obtain ⟨j, hj, rfl, HB⟩ := hrel
    by_cases hlt : j < n
    · have i1 : (j : Int) < n := by omega
      obtain ⟨b1, rfl⟩ := HA.out.1 (by omega)
      obtain ⟨b2, rfl⟩ := HA.out.2 (by omega)
      have hg := dirV_get l j (by rw [HL.out]; exact hlt)
      have c0 := (own11_later H1.out HB.out).cellAt (j * 2) (by omega)
      have d0 := (own11_later H2.out HB.out).cellAt (j * 2) (by omega)
      have c1 := (own11_later H1.out HB.out).cellAt (j * 2 + 1) (by omega)
      have d1 := (own11_later H2.out HB.out).cellAt (j * 2 + 1) (by omega)
      rw [hg.1] at c0 d0
      rw [hg.2] at c1 d1
      generalize (l.getD j (0, 0)).1 = z at *
      generalize (l.getD j (0, 0)).2 = z2 at *
      clear hg
      go_wp2_with fail
      go_quiet (fail)
      go_wp2
      go_roundw
      case rel => exact ⟨j + 1, by omega, by go_num, below_dn HB.out nq⟩
      case measure => simp [intOf]; omega
    · have i1 : ¬ (j : Int) < n := by omega
      go_wp2
      go_ret
      exact ⟨rfl, HB.out⟩
end Go.Proofs.Ythigibgokbmehaa
