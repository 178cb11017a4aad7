/-
  The contracts of package lsn: See and Rises.
-/
import Derived.Test.YtonbfckloicgaaaLsnNext
import Derived.Test.YtonbfckloicgaaaLsnRefRises
import Derived.Deep.RegionWith
namespace Go.Proofs.Ytonbfckloicgaaa
open Go.RowKit
set_option linter.unusedVariables false

theorem below_drw {B : Nat} {a b : World} (h : Below B a b) (k : Nat) : Below B a (b.drewN k) := ⟨h.1, h.2, h.3, h.4, h.5⟩

set_option maxRecDepth 4000 in
set_option maxHeartbeats 800000 in
theorem rises_any (a : Option Addr) (len cap : Nat) (zs : List Nat) (w : World) (h : IsU w a len zs) (hl : len ≤ 140737488355328) :
    Calls Try.prog 18 #[.slice a len cap] w fun e w' => e = .returned (.bool (rises zs)) ∧ Below w.heap.size w w' := by
  have HU := hideL h
  have hlen := h.1
  clear h
  go_enter Try.func18, Try.ntmps18
  go_wp2
  go_loopw [3] (fun i wr => ∃ j m : Nat, 1 ≤ j ∧ (j ≤ len ∨ j = 1) ∧ i = .int .i64 j ∧ wr = w.drewN m ∧ risesTo zs j) (fun i _ => len - (intOf i).toNat)
  case atStart => exact ⟨1, 0, Nat.le_refl _, .inr rfl, rfl, rfl, fun k h1 h2 => absurd h2 (by omega)⟩
  case round =>
    obtain ⟨j, m, h1, h2, rfl, rfl, hr⟩ := hrel
    by_cases hjl : j < len
    · obtain ⟨b, off, rfl, hb, hc⟩ := HU.out.2.2 (by omega)
      have c1 := hc j hjl
      have c2 := hc (j - 1) (by omega)
      have c2' : w.cell? ⟨b, off + ((j : Int) - 1).toNat, none⟩ = some (.int .u64 (zs.getD (j - 1) 0 : Nat)) := by
        have e : ((j : Int) - 1).toNat = j - 1 := by omega
        rw [e]
        exact c2
      have hjI : (j : Int) < (len : Int) := by omega
      have hj1 : (1 : Int) ≤ (j : Int) := by omega
      clear hc
      by_cases hle : zs.getD j 0 ≤ zs.getD (j - 1) 0
      · have hno := rises_no zs j h1 (by omega) hle
        have hleI : ((zs.getD j 0 : Nat) : Int) ≤ ((zs.getD (j - 1) 0 : Nat) : Int) := by omega
        generalize zs.getD j 0 = x at c1 hle hleI
        generalize zs.getD (j - 1) 0 = y at c2 c2' hle hleI
        go_wp2_with fail
        go_quiet (fail)
        go_wp2
        go_ret
        exact ⟨congrArg (fun b => Ending.returned (Value.bool b)) hno.symm, below_drw (below_drw (Below.refl _ _) m) nq⟩
      · have hleI : ¬ ((zs.getD j 0 : Nat) : Int) ≤ ((zs.getD (j - 1) 0 : Nat) : Int) := by omega
        have hr' : risesTo zs (j + 1) := by
          intro k hk1 hk2
          by_cases hkj : k = j
          · subst hkj
            omega
          · exact hr k hk1 (by omega)
        generalize zs.getD j 0 = x at c1 hle hleI
        generalize zs.getD (j - 1) 0 = y at c2 c2' hle hleI
        have HR := hideL hr'
        clear hr hr'
        go_wp2_with fail
        go_quiet (fail)
        go_wp2
        go_roundw
        case rel => exact ⟨j + 1, m + nq, by omega, .inl (by omega), by go_num, rfl, HR.out⟩
        case measure => simp [intOf]; omega
    · have hy : rises zs = true := by
        rw [rises_iff]
        intro k hk1 hk2
        exact hr k hk1 (by omega)
      have hjI : ¬ (j : Int) < (len : Int) := by omega
      go_wp2
      go_ret
      exact ⟨rfl, below_drw (Below.refl _ _) m⟩

theorem ClkAt.drewN {w : World} {b n : Nat} (h : ClkAt w b n) : ClkAt w.drew b n := h
theorem grown_drew {w w' : World} {b : Nat} (h : w.grownBy w' (some b)) : w.grownBy w'.drew (some b) := ⟨h.1, h.2, h.3, h.4, h.5⟩

set_option maxHeartbeats 400000 in
theorem see_any (b n l : Nat) (w : World) (h : ClkAt w b n) (hl : l < 18446744073709551616) :
    Calls Try.prog 12 #[.pointer (some ⟨b, 0, none⟩), .int .u64 l] w fun e w' => e = .returned (.tuple #[]) ∧ ClkAt w' b (max n (min l maxL)) ∧ w.grownBy w' (some b) := by
  have hc := h.cell
  have hf := h.free
  have L := fun w => capped_any l w
  have hm : min l maxL ≤ maxL := Nat.min_le_right _ _
  generalize min l maxL = m at L hm ⊢
  have HL := hideL L
  clear L
  by_cases h1 : n < m
  · have h2 : (n : Int) < (m : Int) := by omega
    have e : max n m = m := by omega
    rw [e]
    have HS := hideL (h.set m hm).drewN
    clear e h
    go_enter Try.func12, Try.ntmps12
    go_wp2_with fail
    go_region_with (go_at_call 20; refine (HL.out _).mono ?_; rintro e w1 ⟨rfl, rfl⟩)
    all_goals (go_end0; exact ⟨rfl, HS.out, grown_drew (grown_set _ _ _)⟩)
  · have h2 : ¬ (n : Int) < (m : Int) := by omega
    have e : max n m = n := by omega
    rw [e]
    have HS := hideL (h.set n h.1).drewN
    clear e h
    go_enter Try.func12, Try.ntmps12
    go_wp2_with fail
    go_region_with (go_at_call 20; refine (HL.out _).mono ?_; rintro e w1 ⟨rfl, rfl⟩)
    all_goals (go_end0; exact ⟨rfl, HS.out, grown_drew (grown_set _ _ _)⟩)
end Go.Proofs.Ytonbfckloicgaaa
