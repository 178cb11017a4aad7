/-
  The contract of package pool's Victim, over texts.
-/
import Derived.Test.YthigibgokbmehaaPoolSmall
namespace Go.Proofs.Ythigibgokbmehaa
open Go.RowKit
set_option linter.unusedVariables false
set_option maxRecDepth 4000 in
set_option maxHeartbeats 1600000 in
theorem victim11 {w : World} {g gr : Nat} {p : Po} (hn : p.n ≤ 16) (hh : p.h < p.n) (h : PS w g gr p) : Calls Try.prog 26 #[.pointer (some ⟨g, 0, none⟩)] w fun e w' => e = .returned (.tuple #[.int .i64 p.vicI, .int .i64 p.vicE]) ∧ PS w' g gr p.vic.1 ∧ Tn (FP g gr) w w' := by
  have HH := hide h
  clear h
  have e2 : IntKind.i64.wrap (2 * (p.n : Int)) = 2 * (p.n : Int) := by rw [IntKind.wrap_i64]; omega
  go_enter Try.func26, Try.ntmps26
  go_wp2_with fail
  refine (size11 HH.out).mono ?_
  rintro e w1 ⟨rfl, rfl⟩
  go_wp2
  go_loopw [8] (fun i wr => ∃ (j : Nat) (q : Po), j ≤ 2 * p.n ∧ i = .int .i64 j ∧ Hid (PS wr g gr q ∧ q.n = p.n ∧ q.h < q.n ∧ Po.walk (2 * p.n - j) q = p.vic ∧ Tn (FP g gr) w wr)) (fun i _ => 2 * p.n - (intOf i).toNat)
  case atStart => exact ⟨0, p, by omega, rfl, HH.out, rfl, hh, rfl, Tn.refl _ _⟩
  case round =>
    obtain ⟨j, q, hj, rfl, HR⟩ := hrel
    by_cases hlt : j < 2 * p.n
    · have i1 : (j : Int) < 2 * (p.n : Int) := by omega
      go_wp2_with fail
      refine (pass11 (by rw [HR.out.2.1]; exact hn) HR.out.2.2.1 HR.out.1).mono ?_
      rintro e w1 ⟨rfl, h1, h2⟩
      have HT := hide (HR.out.2.2.2.2.then h2)
      have hs := h1.six (i := q.h) HR.out.2.2.1
      have f3 := (h1.free (q.h * 6 + 3)).1
      have HP := hide h1
      have HE := hide HR.out.2.2.2.1
      rw [show 2 * p.n - j = (2 * p.n - (j + 1)) + 1 by omega, Po.walk_succ] at HE
      have HN := hide (And.intro HR.out.2.1 HR.out.2.2.1)
      clear h1 h2 HR
      obtain ⟨u, hu⟩ : ∃ u, (q.fr q.h).u = u := ⟨_, rfl⟩
      obtain ⟨d, hd⟩ : ∃ d, (q.fr q.h).id = d := ⟨_, rfl⟩
      obtain ⟨x, hx⟩ : ∃ x, (q.fr q.h).x = x := ⟨_, rfl⟩
      obtain ⟨m, hm⟩ : ∃ m, (q.fr q.h).m = m := ⟨_, rfl⟩
      obtain ⟨f, hf⟩ : ∃ f, (q.fr q.h).f = f := ⟨_, rfl⟩
      have hs' : w1.cell? ⟨gr, q.h * 6, none⟩ = some (.bool (q.fr q.h).u) ∧ w1.cell? ⟨gr, q.h * 6 + 1, none⟩ = some (.int .i64 (q.fr q.h).id) ∧ w1.cell? ⟨gr, q.h * 6 + 3, none⟩ = some (.bool (q.fr q.h).m) ∧ w1.cell? ⟨gr, q.h * 6 + 4, none⟩ = some (.int .i64 ((q.fr q.h).f : Int)) := ⟨hs.1, hs.2.1, hs.2.2.2.1, hs.2.2.2.2.1⟩
      rw [hu, hd, hm, hf] at hs'
      obtain ⟨d0, d1, d3, d4⟩ := hs'
      have HU := hide (And.intro hu (And.intro hd (And.intro hm hf)))
      clear hs hu hd hx hm hf
      cases u with
      | false =>
        have HW := hide HE.out
        rw [if_pos (show (q.fr q.h).stays from .inl HU.out.1)] at HW
        clear HE
        go_wp2
        go_roundw
        case rel => exact ⟨j + 1, q.on, by omega, by go_num, HP.out, HN.out.1, nxt_lt _ _ HN.out.2, HW.out, HT.out⟩
        case measure => simp [intOf]; omega
      | true =>
        by_cases hf : 0 < f
        · have hf2 : (0 : Int) < (f : Int) := by omega
          have HW := hide HE.out
          rw [if_pos (show (q.fr q.h).stays from .inr (by rw [HU.out.2.2.2]; exact hf))] at HW
          clear HE
          go_wp2
          go_roundw
          case rel => exact ⟨j + 1, q.on, by omega, by go_num, HP.out, HN.out.1, nxt_lt _ _ HN.out.2, HW.out, HT.out⟩
          case measure => simp [intOf]; omega
        · have hf2 : ¬ (0 : Int) < (f : Int) := by omega
          have HW := hide HE.out
          rw [if_neg (show ¬ (q.fr q.h).stays from fun c => by
            rcases c with c | c
            · rw [HU.out.1] at c; cases c
            · rw [HU.out.2.2.2] at c; exact hf c)] at HW
          clear HE
          cases m with
          | false =>
            have HV := hide HW.out
            rw [if_neg (by rw [HU.out.2.2.1]; decide)] at HV
            clear HW
            go_wp2
            go_ret2
            refine ⟨?_, ?_, HT.out⟩
            · unfold Po.vicI Po.vicE
              rw [← HV.out, ← HU.out.2.1]
              rfl
            · rw [← HV.out]
              exact HP.out
          | true =>
            have HV := hide HW.out
            rw [if_pos HU.out.2.2.1] at HV
            clear HW
            go_wp2
            go_roundw
            case rel => exact ⟨j + 1, q.on.set q.h (q.fr q.h).wane, by omega, by go_num, HP.out.one HN.out.2 3 _ _ (by decide) rfl, HN.out.1, nxt_lt _ _ HN.out.2, HV.out, HT.out.set _ _ _ (.inr rfl)⟩
            case measure => simp [intOf]; omega
    · have i1 : ¬ (j : Int) < 2 * (p.n : Int) := by omega
      have HE := hide HR.out.2.2.2.1
      rw [show 2 * p.n - j = 0 by omega] at HE
      go_wp2
      go_ret2
      refine ⟨?_, ?_, HR.out.2.2.2.2⟩
      · unfold Po.vicI Po.vicE
        rw [← HE.out]
        rfl
      · rw [← HE.out]
        exact HR.out.1
end Go.Proofs.Ythigibgokbmehaa
