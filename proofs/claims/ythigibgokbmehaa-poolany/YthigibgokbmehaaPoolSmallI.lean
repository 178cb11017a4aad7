/-
  The contracts of package pool's small functions, over numbers: size, find, firstEmpty, pass.
-/
import Derived.Test.YthigibgokbmehaaPoolMem
import Derived.Test.YthigibgokbmehaaPackMath
import Derived.Test.YthigibgokbmehaaProg
import Derived.Deep.QuietTactic
import Derived.BigQuiet
import Derived.BigRegion
namespace Go.Proofs.Ythigibgokbmehaa
open Go.RowKit
set_option linter.unusedVariables false

abbrev PI (w : World) (g gr : Nat) (p : Po) : Prop := PAt frL 81 91 w g gr p
section
variable {w : World} {g gr : Nat} {p : Po}
set_option maxRecDepth 4000 in
set_option maxHeartbeats 400000 in
theorem size11i (h : PI w g gr p) : Calls Try.prog 62 #[.pointer (some ⟨g, 0, none⟩)] w fun e w' => e = .returned (.int .i64 (p.n : Int)) ∧ w = w' := by
  obtain ⟨cap, c0, c1, _⟩ := h.c0
  clear h
  go_enter Try.func62, Try.ntmps62
  go_wp2
  go_ret
  exact ⟨rfl, rfl⟩
set_option maxRecDepth 4000 in
set_option maxHeartbeats 800000 in
theorem find11i (id : Int) (hn : p.n ≤ 16) (h : PI w g gr p) : Calls Try.prog 55 #[.pointer (some ⟨g, 0, none⟩), .int .i64 id] w fun e w' => e = .returned (.pointer ((p.at id).map fun i => ⟨gr, i * 6, none⟩)) ∧ w = w' := by
  have HH := hide h
  obtain ⟨cap, c0, c1, hc, hc2⟩ := h.c0
  clear h
  go_enter Try.func55, Try.ntmps55
  go_wp2_with fail
  refine (size11i HH.out).mono ?_
  rintro e w1 ⟨rfl, rfl⟩
  go_wp2
  go_loopw [9] (fun i wr => ∃ j : Nat, j ≤ p.n ∧ i = .int .i64 j ∧ wr = w ∧ ∀ k, k < j → ¬ ((p.fr k).u = true ∧ (p.fr k).id = id)) (fun i _ => p.n - (intOf i).toNat)
  case atStart => exact ⟨0, by omega, rfl, rfl, fun m hm => absurd hm (by omega)⟩
  case round =>
    obtain ⟨j, hj, rfl, rfl, hno⟩ := hrel
    have HNo := hide hno
    clear hno
    by_cases hlt : j < p.n
    · have i1 : (j : Int) < p.n := by omega
      have d0 := HH.out.cell hlt 0 _ rfl
      have d1 := HH.out.cell hlt 1 _ rfl
      rw [Nat.add_zero] at d0
      obtain ⟨u, hu⟩ : ∃ u, (p.fr j).u = u := ⟨_, rfl⟩
      obtain ⟨k, hk⟩ : ∃ k, (p.fr j).id = k := ⟨_, rfl⟩
      rw [hu] at d0
      rw [hk] at d1
      have HE := hide (And.intro hu hk)
      clear hu hk
      cases u with
      | true =>
        by_cases hi : k = id
        · have hi2 : (k == id) = true := by simpa using hi
          have HT := hide (show p.at id = some j from Po.at_some.2 ⟨hlt, ⟨HE.out.1, HE.out.2.trans hi⟩, HNo.out⟩)
          clear hi
          go_wp2
          go_ret
          exact ⟨by rw [HT.out]; rfl, rfl⟩
        · have hi2 : (k == id) = false := by simpa using hi
          have HNo2 := hide (show ∀ m, m < j + 1 → ¬ ((p.fr m).u = true ∧ (p.fr m).id = id) from fun m hm g => by
            by_cases e : m = j
            · rw [e, HE.out.2] at g
              exact hi g.2
            · exact HNo.out m (by omega) g)
          clear hi HNo
          go_wp2
          go_roundw
          case rel => exact ⟨j + 1, by omega, by go_num, by first | rfl | trivial, HNo2.out⟩
          case measure => simp [intOf]; omega
      | false =>
        have HNo2 := hide (show ∀ m, m < j + 1 → ¬ ((p.fr m).u = true ∧ (p.fr m).id = id) from fun m hm g => by
          by_cases e : m = j
          · rw [e, HE.out.1] at g
            exact absurd g.1 (by decide)
          · exact HNo.out m (by omega) g)
        clear HNo
        go_wp2
        go_roundw
        case rel => exact ⟨j + 1, by omega, by go_num, by first | rfl | trivial, HNo2.out⟩
        case measure => simp [intOf]; omega
    · have i1 : ¬ (j : Int) < p.n := by omega
      have HT := hide (show p.at id = none from Po.at_none.2 (fun k hk => HNo.out k (by omega)))
      go_wp2
      go_ret
      exact ⟨by rw [HT.out]; rfl, rfl⟩
set_option maxRecDepth 4000 in
set_option maxHeartbeats 800000 in
theorem gap11i (hn : p.n ≤ 16) (h : PI w g gr p) : Calls Try.prog 61 #[.pointer (some ⟨g, 0, none⟩)] w fun e w' => e = .returned (.pointer (p.gap.map fun i => ⟨gr, i * 6, none⟩)) ∧ w = w' := by
  have HH := hide h
  obtain ⟨cap, c0, c1, hc, hc2⟩ := h.c0
  clear h
  go_enter Try.func61, Try.ntmps61
  go_wp2_with fail
  refine (size11i HH.out).mono ?_
  rintro e w1 ⟨rfl, rfl⟩
  go_wp2
  go_loopw [7] (fun i wr => ∃ j : Nat, j ≤ p.n ∧ i = .int .i64 j ∧ wr = w ∧ ∀ k, k < j → (p.fr k).u = true) (fun i _ => p.n - (intOf i).toNat)
  case atStart => exact ⟨0, by omega, rfl, rfl, fun m hm => absurd hm (by omega)⟩
  case round =>
    obtain ⟨j, hj, rfl, rfl, hno⟩ := hrel
    have HNo := hide hno
    clear hno
    by_cases hlt : j < p.n
    · have i1 : (j : Int) < p.n := by omega
      have d0 := HH.out.cell hlt 0 _ rfl
      rw [Nat.add_zero] at d0
      obtain ⟨u, hu⟩ : ∃ u, (p.fr j).u = u := ⟨_, rfl⟩
      rw [hu] at d0
      have HE := hide hu
      clear hu
      cases u with
      | false =>
        have HT := hide (show p.gap = some j from Po.gap_some.2 ⟨hlt, HE.out, HNo.out⟩)
        go_wp2
        go_ret
        exact ⟨by rw [HT.out]; rfl, rfl⟩
      | true =>
        have HNo2 := hide (show ∀ m, m < j + 1 → (p.fr m).u = true from fun m hm => by
          by_cases e : m = j
          · rw [e]
            exact HE.out
          · exact HNo.out m (by omega))
        clear HNo
        go_wp2
        go_roundw
        case rel => exact ⟨j + 1, by omega, by go_num, by first | rfl | trivial, HNo2.out⟩
        case measure => simp [intOf]; omega
    · have i1 : ¬ (j : Int) < p.n := by omega
      have HT := hide (show p.gap = none from Po.gap_none.2 (fun k hk => HNo.out k (by omega)))
      go_wp2
      go_ret
      exact ⟨by rw [HT.out]; rfl, rfl⟩
end
set_option maxRecDepth 4000 in
set_option maxHeartbeats 800000 in
theorem pass11i {w : World} {g gr : Nat} {p : Po} (hn : p.n ≤ 16) (hh : p.h < p.n) (h : PI w g gr p) : Calls Try.prog 63 #[.pointer (some ⟨g, 0, none⟩)] w fun e w' => e = .returned (.pointer (some ⟨gr, p.h * 6, none⟩)) ∧ PI w' g gr p.on ∧ Tn (FP g gr) w w' := by
  have HH := hide h
  obtain ⟨cap, c0, c1, hc, hc2⟩ := h.c0
  have f1 := (h.free 1).2
  clear h
  have hm : (((p.h : Int) + 1).tmod (p.n : Int)) = ((nxt p.h p.n : Nat) : Int) := by
    rw [← nxt_mod _ _ hh, Int.tmod_eq_emod_of_nonneg (by omega)]
    simp
  have hne : ¬ (p.n : Int) = 0 := by omega
  have i1 : (p.h : Int) < p.n := by omega
  go_enter Try.func63, Try.ntmps63
  go_wp2_with fail
  go_quiet (fail)
  go_wp2_with fail
  go_region
  go_wp2
  go_ret
  exact ⟨rfl, (HH.out.drewN (nq + 1)).hand (nxt p.h p.n), (Tn.refl _ _).drewN (nq + 1) |>.set g 1 _ (.inl rfl)⟩
end Go.Proofs.Ythigibgokbmehaa
