/-
  A pool of texts, and the pool of their lengths, go the same way. Of no program.
-/
import Derived.Test.YthigibgokbmehaaPoolTexts
import Derived.Test.YthigibgokbmehaaPoolRows
namespace Go.Proofs.Ythigibgokbmehaa
open Go.RowKit
set_option linter.unusedVariables false

def lenV : Value → Value
  | .string s => .int .i64 (s.size : Int)
  | _ => .int .i64 0
def Fr.num (f : Fr) : Fr := { f with x := lenV f.x }
def Po.num (p : Po) : Po := ⟨lenV p.z, p.n, p.h, fun i => (p.fr i).num⟩
theorem num_at (p : Po) (id : Int) : p.num.at id = p.at id := rfl
theorem num_gap (p : Po) : p.num.gap = p.gap := rfl
theorem num_has (p : Po) (id : Int) : p.num.has id = p.has id := rfl
theorem num_set (p : Po) (i : Nat) (f : Fr) : (p.set i f).num = p.num.set i f.num := by
  unfold Po.set Po.num
  simp only
  congr 1
  funext k
  by_cases e : k = i <;> simp [e]
theorem num_new (k : Int) : (Po.new (.string ⟨#[]⟩) k).num = Po.new (.int .i64 0) k := rfl
theorem num_getX (p : Po) (id : Int) : p.num.getX id = lenV (p.getX id) := by
  unfold Po.getX
  rw [num_at]
  cases p.at id <;> rfl
theorem num_get (p : Po) (id : Int) : (p.get id).num = p.num.get id := by
  unfold Po.get
  rw [num_at]
  cases p.at id with
  | none => rfl
  | some i => exact num_set p i _
theorem num_put (p : Po) (id : Int) (x : Value) : (p.put id x).num = p.num.put id (lenV x) := by
  unfold Po.put
  rw [num_has, num_gap]
  by_cases g1 : id < 0 ∨ 32 ≤ id
  · rw [if_pos g1, if_pos g1]
  · rw [if_neg g1, if_neg g1]
    by_cases g2 : p.has id = true
    · rw [if_pos g2, if_pos g2]
    · rw [if_neg g2, if_neg g2]
      cases p.gap with
      | none => rfl
      | some i => exact num_set p i _
theorem num_setP (p : Po) (id : Int) (x : Value) (r : Int) : (p.setP id x r).num = p.num.setP id (lenV x) r := by
  unfold Po.setP
  rw [num_at]
  cases p.at id with
  | none => rfl
  | some i => exact num_set p i _
theorem num_clean (p : Po) (id : Int) : (p.clean id).num = p.num.clean id := by
  unfold Po.clean
  rw [num_at]
  cases p.at id with
  | none => rfl
  | some i => exact num_set p i _
theorem num_fix (p : Po) (id : Int) : (p.fix id).num = p.num.fix id := by
  unfold Po.fix
  rw [num_at]
  cases p.at id with
  | none => rfl
  | some i => exact num_set p i _
theorem num_unfix (p : Po) (id : Int) : (p.unfix id).num = p.num.unfix id := by
  unfold Po.unfix
  rw [num_at]
  cases p.at id with
  | none => rfl
  | some i =>
    show (if (p.fr i).f = 0 then p else _).num = if (p.fr i).f = 0 then p.num else _
    by_cases g : (p.fr i).f = 0
    · rw [if_pos g, if_pos g]
    · rw [if_neg g, if_neg g]; exact num_set p i _
theorem num_drop (p : Po) (id : Int) : (p.drop id).num = p.num.drop id := by
  unfold Po.drop
  rw [num_at]
  cases p.at id with
  | none => rfl
  | some i =>
    show (if (p.fr i).f = 0 then _ else p).num = if (p.fr i).f = 0 then _ else p.num
    by_cases g : (p.fr i).f = 0
    · rw [if_pos g, if_pos g]; exact num_set p i _
    · rw [if_neg g, if_neg g]
theorem num_walk : ∀ (k : Nat) (p : Po), Po.walk k p.num = ((Po.walk k p).1.num, (Po.walk k p).2)
  | 0, p => rfl
  | k + 1, p => by
    rw [Po.walk_succ, Po.walk_succ]
    show (if (p.fr p.h).stays then Po.walk k p.on.num else if (p.fr p.h).m = true then Po.walk k (p.on.num.set p.h ((p.fr p.h).wane).num) else (p.on.num, some (p.fr p.h).id)) = _
    rw [← num_set, num_walk k p.on, num_walk k (p.on.set p.h (p.fr p.h).wane)]
    by_cases g : (p.fr p.h).stays
    · rw [if_pos g, if_pos g]
    · rw [if_neg g, if_neg g]
      by_cases g2 : (p.fr p.h).m = true
      · rw [if_pos g2, if_pos g2]
      · rw [if_neg g2, if_neg g2]
theorem num_vic (p : Po) : p.num.vic = (p.vic.1.num, p.vic.2) := num_walk _ p
theorem num_vicI (p : Po) : p.num.vicI = p.vicI := by
  unfold Po.vicI
  rw [num_vic]
theorem num_vicE (p : Po) : p.num.vicE = p.vicE := by
  unfold Po.vicE
  rw [num_vic]
theorem num_did (p : Po) (k i : Int) (x : Value) (n : Int) : (p.did k i x n).num = p.num.did k i (lenV x) n := by
  unfold Po.did
  by_cases k1 : k = 1
  · rw [if_pos k1, if_pos k1]; exact num_get p i
  rw [if_neg k1, if_neg k1]
  by_cases k2 : k = 2
  · rw [if_pos k2, if_pos k2]; exact num_put p i x
  rw [if_neg k2, if_neg k2]
  by_cases k3 : k = 3
  · rw [if_pos k3, if_pos k3]; exact num_setP p i x n
  rw [if_neg k3, if_neg k3]
  by_cases k4 : k = 4
  · rw [if_pos k4, if_pos k4]; exact num_clean p i
  rw [if_neg k4, if_neg k4]
  by_cases k5 : k = 5
  · rw [if_pos k5, if_pos k5]; exact num_fix p i
  rw [if_neg k5, if_neg k5]
  by_cases k6 : k = 6
  · rw [if_pos k6, if_pos k6]; exact num_unfix p i
  rw [if_neg k6, if_neg k6]
  by_cases k7 : k = 7
  · rw [if_pos k7, if_pos k7, num_vic]
  rw [if_neg k7, if_neg k7]
  by_cases k8 : k = 8
  · rw [if_pos k8, if_pos k8]; exact num_drop p i
  rw [if_neg k8, if_neg k8]
theorem num_didI (p : Po) (k : Int) : p.num.didI k = p.didI k := by
  unfold Po.didI
  rw [num_vicI]
theorem num_didE (p : Po) (k i : Int) : p.num.didE k i = p.didE k i := by
  unfold Po.didE
  rw [num_vicE]
  rfl
theorem num_recN (p : Po) (id : Int) : p.num.recN id = p.recN id := rfl
theorem num_ids (p : Po) : ∀ k, p.num.idsTo k = p.idsTo k
  | 0 => rfl
  | k + 1 => by
    rw [Po.idsTo, Po.idsTo, num_ids p k, num_has]
theorem num_dir (p : Po) : ∀ k, p.num.dirTo k = p.dirTo k
  | 0 => rfl
  | k + 1 => by
    rw [Po.dirTo, Po.dirTo, num_dir p k, num_recN]
end Go.Proofs.Ythigibgokbmehaa
