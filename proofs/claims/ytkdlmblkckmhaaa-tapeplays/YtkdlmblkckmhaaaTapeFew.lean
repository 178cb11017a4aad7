/-
  The contract of quaysidelaw08.few.
-/
import Derived.Test.YtkdlmblkckmhaaaTapeArgs
import Derived.Test.YtkdlmblkckmhaaaPackMath
import Derived.Test.YtkdlmblkckmhaaaProg
namespace Go.Proofs.Ytkdlmblkckmhaaa
open Go.RowKit
set_option linter.unusedVariables false

/-- A call of a script that lies there. -/
theorem tcs_cell {w : World} {a : Option Addr} {cap : Nat} {cs : List Tc} (h : RowsIn tcA Tc.zero 3 w (.slice a cs.length cap) cs) (hp : 0 < cs.length) :
    ∃ b off, a = some ⟨b, off, none⟩ ∧ b < w.heap.size ∧ ∀ i, i < cs.length → w.cell? ⟨b, off + i * 3, none⟩ = some (.int .i64 (cs.getD i Tc.zero).k) ∧ w.cell? ⟨b, off + i * 3 + 1, none⟩ = some (.int .i64 (cs.getD i Tc.zero).n) ∧ w.cell? ⟨b, off + i * 3 + 2, none⟩ = some (.string (cs.getD i Tc.zero).b) := by
  obtain ⟨a', cap', e, h2⟩ := h
  injection e with e1 e2 e3
  subst e1
  obtain ⟨b, off, h3, h4, h5⟩ := h2 hp
  exact ⟨b, off, h3, h4, fun i hi => ⟨h5 i hi 0 _ rfl, h5 i hi 1 _ rfl, h5 i hi 2 _ rfl⟩⟩

set_option maxRecDepth 4000 in
set_option maxHeartbeats 400000 in
theorem few_long (a : Option Addr) (len cap : Nat) (w : World) (h : 200 < len) :
    Calls Try.prog 10 #[.slice a len cap] w fun e w' => e = .returned (.bool false) ∧ w = w' := by
  have h1 : (200 : Int) < (len : Int) := by omega
  go_enter Try.func10, Try.ntmps10
  go_wp2
  go_ret
  exact ⟨rfl, rfl⟩

set_option maxRecDepth 4000 in
set_option maxHeartbeats 800000 in
theorem few_any (v : Value) (cs : List Tc) (w : World) (h : RowsIn tcA Tc.zero 3 w v cs) (hc : ∀ a len cap, v = .slice a len cap → len ≤ cap) :
    Calls Try.prog 10 #[v] w fun e w' => ∃ q, e = .returned (.bool q) ∧ (q = true → cs.length ≤ 200 ∧ ∀ i, i < cs.length → (cs.getD i Tc.zero).b.size ≤ 65537) ∧ w = w' := by
  have h' := h
  obtain ⟨a, cap, rfl, -⟩ := h'
  have hcap := hc _ _ _ rfl
  by_cases hl : 200 < cs.length
  · exact (few_long a cs.length cap w hl).mono fun e w' he => ⟨false, he.1, fun h => (nomatch h), he.2⟩
  have h1 : ¬ (200 : Int) < (cs.length : Int) := by omega
  have HC := hide (tcs_cell h)
  obtain ⟨ln, hln⟩ : ∃ ln, cs.length = ln := ⟨_, rfl⟩
  rw [hln] at HC h1 hl hcap ⊢
  have HLN := hide hln
  clear h hc hln
  go_enter Try.func10, Try.ntmps10
  go_wp2
  go_loopw [9] (fun i wr => ∃ j : Nat, j ≤ ln ∧ i = .int .i64 j ∧ w = wr ∧ ∀ i, i < j → (cs.getD i Tc.zero).b.size ≤ 65537) (fun i _ => ln - (intOf i).toNat)
  case atStart => exact ⟨0, Nat.zero_le _, rfl, rfl, fun i hi => absurd hi (Nat.not_lt_zero _)⟩
  case round =>
    obtain ⟨j, hj, rfl, rfl, hall⟩ := hrel
    by_cases hlt : j < ln
    · obtain ⟨b, off, rfl, -, hcell⟩ := HC.out (by omega)
      have c2 := (hcell j hlt).2.2
      have hjc : (j : Int) < (ln : Int) := by omega
      have HA := hide hall
      clear hcell HC hall
      generalize hsz : (cs.getD j Tc.zero).b = s at *
      by_cases hs : s.size ≤ 65537
      · have hs2 : ¬ (65537 : Int) < (s.size : Int) := by omega
        go_wp2
        go_roundw
        case rel =>
          refine ⟨j + 1, by omega, by go_num, by first | rfl | trivial, fun i hi => ?_⟩
          by_cases e : i = j
          · rw [e, hsz]
            exact hs
          · exact HA.out i (by omega)
        case measure => simp [intOf]; omega
      · have hs2 : (65537 : Int) < (s.size : Int) := by omega
        go_wp2
        go_ret
        exact ⟨false, rfl, fun h => (nomatch h), rfl⟩
    · obtain rfl : j = ln := by omega
      go_wp2
      go_ret
      exact ⟨true, rfl, fun _ => ⟨by omega, hall⟩, rfl⟩
end Go.Proofs.Ytkdlmblkckmhaaa
