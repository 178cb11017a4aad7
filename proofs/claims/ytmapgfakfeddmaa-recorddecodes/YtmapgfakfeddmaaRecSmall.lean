/-
  The contracts of isTxn, within, rightTxn and rightTxnRow of package record.
-/
import Derived.Test.YtmapgfakfeddmaaRecRefOwn
namespace Go.Proofs.Ytmapgfakfeddmaa
open Go.RowKit
set_option linter.unusedVariables false

set_option maxHeartbeats 800000 in
theorem istxn_at (t : Int) (w : World) (q : Bool) (Hq : Hid (decide (1 ≤ t ∧ t ≤ 1048575) = q)) :
    Calls Try.prog 55 #[.int .i64 t] w fun e w' => e = .returned (.bool q) ∧ w = w' := by
  by_cases h1 : 1 ≤ t
  case neg =>
    obtain rfl : q = false := by rw [← Hq.out]; exact decide_eq_false (fun h => by omega)
    clear Hq
    go_enter Try.func55, Try.ntmps55
    go_wp2
    go_ret
    exact ⟨by (first | rfl | (apply congrArg Ending.returned; apply congrArg Value.bool; first | (apply decide_eq_false; omega) | (apply decide_eq_true; omega))), rfl⟩
  by_cases h2 : t ≤ 1048575
  case neg =>
    obtain rfl : q = false := by rw [← Hq.out]; exact decide_eq_false (fun h => by omega)
    clear Hq
    go_enter Try.func55, Try.ntmps55
    go_wp2
    go_ret
    exact ⟨by (first | rfl | (apply congrArg Ending.returned; apply congrArg Value.bool; first | (apply decide_eq_false; omega) | (apply decide_eq_true; omega))), rfl⟩
  obtain rfl : q = true := by rw [← Hq.out]; exact decide_eq_true (by omega)
  clear Hq
  go_enter Try.func55, Try.ntmps55
  go_wp2
  go_ret
  exact ⟨by (first | rfl | (apply congrArg Ending.returned; apply congrArg Value.bool; first | (apply decide_eq_false; omega) | (apply decide_eq_true; omega))), rfl⟩

set_option maxHeartbeats 800000 in
theorem within_at (n l : Nat) (w : World) (q : Bool) (Hq : Hid (decide (1 ≤ n ∧ n < l) = q)) :
    Calls Try.prog 41 #[.int .u64 (n : Int), .int .u64 (l : Int)] w fun e w' => e = .returned (.bool q) ∧ w = w' := by
  by_cases h1 : (1 : Int) ≤ (n : Int)
  case neg =>
    obtain rfl : q = false := by rw [← Hq.out]; exact decide_eq_false (fun h => by omega)
    clear Hq
    go_enter Try.func41, Try.ntmps41
    go_wp2
    go_ret
    exact ⟨by (first | rfl | (apply congrArg Ending.returned; apply congrArg Value.bool; first | (apply decide_eq_false; omega) | (apply decide_eq_true; omega))), rfl⟩
  by_cases h2 : (n : Int) < (l : Int)
  case neg =>
    obtain rfl : q = false := by rw [← Hq.out]; exact decide_eq_false (fun h => by omega)
    clear Hq
    go_enter Try.func41, Try.ntmps41
    go_wp2
    go_ret
    exact ⟨by (first | rfl | (apply congrArg Ending.returned; apply congrArg Value.bool; first | (apply decide_eq_false; omega) | (apply decide_eq_true; omega))), rfl⟩
  obtain rfl : q = true := by rw [← Hq.out]; exact decide_eq_true (by omega)
  clear Hq
  go_enter Try.func41, Try.ntmps41
  go_wp2
  go_ret
  exact ⟨by (first | rfl | (apply congrArg Ending.returned; apply congrArg Value.bool; first | (apply decide_eq_false; omega) | (apply decide_eq_true; omega))), rfl⟩

set_option maxHeartbeats 800000 in
theorem rtxn_at (r : Rec) (va vb : Value) (w : World) (q : Bool) (Hq : Hid (decide (1 ≤ r.t ∧ r.t ≤ 1048575 ∧ r.p < r.l) = q)) :
    Calls Try.prog 39 #[.agg (rcA r va vb)] w fun e w' => e = .returned (.bool q) ∧ Below w.heap.size w w' := by
  have K0 := Keeps.one w 28 (rcA r va vb)
  obtain ⟨-, c1, c2, c3, -⟩ := rc_cells K0.1.1
  have hb0 := K0.2
  clear K0
  by_cases ht : 1 ≤ r.t ∧ r.t ≤ 1048575
  case neg =>
    have H := hide (fun w => istxn_at r.t w false (hide (decide_eq_false ht)))
    obtain rfl : q = false := by rw [← Hq.out]; exact decide_eq_false (fun h => ht ⟨h.1, h.2.1⟩)
    clear Hq ht
    go_enter Try.func39, Try.ntmps39
    go_wp2_with fail
    refine (H.out _).mono ?_
    rintro e w1 ⟨rfl, rfl⟩
    clear H
    go_wp2
    go_ret
    exact ⟨by (first | rfl | (apply congrArg Ending.returned; apply congrArg Value.bool; first | (apply decide_eq_false; omega) | (apply decide_eq_true; omega))), hb0⟩
  have H := hide (fun w => istxn_at r.t w true (hide (decide_eq_true ht)))
  by_cases h3 : (r.p : Int) < (r.l : Int)
  case neg =>
    obtain rfl : q = false := by rw [← Hq.out]; exact decide_eq_false (fun h => by omega)
    clear Hq ht
    go_enter Try.func39, Try.ntmps39
    go_wp2_with fail
    refine (H.out _).mono ?_
    rintro e w1 ⟨rfl, rfl⟩
    clear H
    go_wp2
    go_ret
    exact ⟨by (first | rfl | (apply congrArg Ending.returned; apply congrArg Value.bool; first | (apply decide_eq_false; omega) | (apply decide_eq_true; omega))), hb0⟩
  obtain rfl : q = true := by rw [← Hq.out]; exact decide_eq_true ⟨ht.1, ht.2, by omega⟩
  clear Hq ht
  go_enter Try.func39, Try.ntmps39
  go_wp2_with fail
  refine (H.out _).mono ?_
  rintro e w1 ⟨rfl, rfl⟩
  clear H
  go_wp2
  go_ret
  exact ⟨by (first | rfl | (apply congrArg Ending.returned; apply congrArg Value.bool; first | (apply decide_eq_false; omega) | (apply decide_eq_true; omega))), hb0⟩

noncomputable def txOkB (l : Nat) (x : Tx) : Bool := @decide (txOk l x) (Classical.propDecidable _)
theorem txOkB_iff {l : Nat} {x : Tx} : txOkB l x = true ↔ txOk l x := by
  unfold txOkB
  exact @decide_eq_true_iff _ (Classical.propDecidable _)
set_option maxRecDepth 4000 in
set_option maxHeartbeats 1600000 in
theorem rtxrow_at (x : Tx) (l : Nat) (w : World) (q : Bool) (Hq : Hid (q = true ↔ txOk l x)) :
    Calls Try.prog 58 #[.agg (txA x), .int .u64 (l : Int)] w fun e w' => e = .returned (.bool q) ∧ Below w.heap.size w w' := by
  have K0 := Keeps.one w 65 (txA x)
  have c0 := K0.1.1.cell 0 (.int .i64 x.t) rfl
  have c1 := K0.1.1.cell 1 (.int .i64 x.s) rfl
  have c2 := K0.1.1.cell 2 (.int .u64 (x.f : Int)) rfl
  have c3 := K0.1.1.cell 3 (.int .u64 (x.l : Int)) rfl
  have c4 := K0.1.1.cell 4 (.int .u64 (x.n : Int)) rfl
  have hb0 := K0.2
  clear K0
  have HF : Hid (¬ txOk l x → q = false) := fun h => by
    cases q
    · rfl
    · exact absurd (Hq.out.1 rfl) h
  have HT : Hid (txOk l x → q = true) := fun h => Hq.out.2 h
  clear Hq
  by_cases ht : 1 ≤ x.t ∧ x.t ≤ 1048575
  case neg =>
    have H := hide (fun w => istxn_at x.t w false (hide (decide_eq_false ht)))
    obtain rfl := HF.out (fun h => ht ⟨h.1, h.2.1⟩)
    clear HF HT ht
    generalize x.t = xt at *
    generalize x.s = xs at *
    generalize x.f = xf at *
    generalize x.l = xl at *
    generalize x.n = xn at *
    go_enter Try.func58, Try.ntmps58
    go_wp2_with fail
    refine (H.out _).mono ?_
    rintro e w1 ⟨rfl, rfl⟩
    clear H
    go_wp2
    go_ret
    exact ⟨by (first | rfl | (apply congrArg Ending.returned; apply congrArg Value.bool; first | (apply decide_eq_false; omega) | (apply decide_eq_true; omega))), hb0⟩
  have H := hide (fun w => istxn_at x.t w true (hide (decide_eq_true ht)))
  by_cases s1 : 1 ≤ x.s
  case neg =>
    obtain rfl := HF.out (fun h => by obtain ⟨h1, h2, h3, h4, h5, h6, h7, h8⟩ := h; omega)
    clear HF HT ht
    generalize x.t = xt at *
    generalize x.s = xs at *
    generalize x.f = xf at *
    generalize x.l = xl at *
    generalize x.n = xn at *
    go_enter Try.func58, Try.ntmps58
    go_wp2_with fail
    refine (H.out _).mono ?_
    rintro e w1 ⟨rfl, rfl⟩
    clear H
    go_wp2
    go_ret
    exact ⟨by (first | rfl | (apply congrArg Ending.returned; apply congrArg Value.bool; first | (apply decide_eq_false; omega) | (apply decide_eq_true; omega))), hb0⟩
  by_cases s2 : x.s ≤ 3
  case neg =>
    obtain rfl := HF.out (fun h => by obtain ⟨h1, h2, h3, h4, h5, h6, h7, h8⟩ := h; omega)
    clear HF HT ht
    generalize x.t = xt at *
    generalize x.s = xs at *
    generalize x.f = xf at *
    generalize x.l = xl at *
    generalize x.n = xn at *
    go_enter Try.func58, Try.ntmps58
    go_wp2_with fail
    refine (H.out _).mono ?_
    rintro e w1 ⟨rfl, rfl⟩
    clear H
    go_wp2
    go_ret
    exact ⟨by (first | rfl | (apply congrArg Ending.returned; apply congrArg Value.bool; first | (apply decide_eq_false; omega) | (apply decide_eq_true; omega))), hb0⟩
  by_cases f1 : (1 : Int) ≤ (x.f : Int)
  case neg =>
    obtain rfl := HF.out (fun h => by obtain ⟨h1, h2, h3, h4, h5, h6, h7, h8⟩ := h; omega)
    clear HF HT ht
    generalize x.t = xt at *
    generalize x.s = xs at *
    generalize x.f = xf at *
    generalize x.l = xl at *
    generalize x.n = xn at *
    go_enter Try.func58, Try.ntmps58
    go_wp2_with fail
    refine (H.out _).mono ?_
    rintro e w1 ⟨rfl, rfl⟩
    clear H
    go_wp2
    go_ret
    exact ⟨by (first | rfl | (apply congrArg Ending.returned; apply congrArg Value.bool; first | (apply decide_eq_false; omega) | (apply decide_eq_true; omega))), hb0⟩
  by_cases f2 : (x.f : Int) ≤ (x.l : Int)
  case neg =>
    obtain rfl := HF.out (fun h => by obtain ⟨h1, h2, h3, h4, h5, h6, h7, h8⟩ := h; omega)
    clear HF HT ht
    generalize x.t = xt at *
    generalize x.s = xs at *
    generalize x.f = xf at *
    generalize x.l = xl at *
    generalize x.n = xn at *
    go_enter Try.func58, Try.ntmps58
    go_wp2_with fail
    refine (H.out _).mono ?_
    rintro e w1 ⟨rfl, rfl⟩
    clear H
    go_wp2
    go_ret
    exact ⟨by (first | rfl | (apply congrArg Ending.returned; apply congrArg Value.bool; first | (apply decide_eq_false; omega) | (apply decide_eq_true; omega))), hb0⟩
  by_cases l1 : (x.l : Int) < (l : Int)
  case neg =>
    obtain rfl := HF.out (fun h => by obtain ⟨h1, h2, h3, h4, h5, h6, h7, h8⟩ := h; omega)
    clear HF HT ht
    generalize x.t = xt at *
    generalize x.s = xs at *
    generalize x.f = xf at *
    generalize x.l = xl at *
    generalize x.n = xn at *
    go_enter Try.func58, Try.ntmps58
    go_wp2_with fail
    refine (H.out _).mono ?_
    rintro e w1 ⟨rfl, rfl⟩
    clear H
    go_wp2
    go_ret
    exact ⟨by (first | rfl | (apply congrArg Ending.returned; apply congrArg Value.bool; first | (apply decide_eq_false; omega) | (apply decide_eq_true; omega))), hb0⟩
  by_cases n1 : (x.n : Int) ≤ (x.l : Int)
  case neg =>
    obtain rfl := HF.out (fun h => by obtain ⟨h1, h2, h3, h4, h5, h6, h7, h8⟩ := h; omega)
    clear HF HT ht
    generalize x.t = xt at *
    generalize x.s = xs at *
    generalize x.f = xf at *
    generalize x.l = xl at *
    generalize x.n = xn at *
    go_enter Try.func58, Try.ntmps58
    go_wp2_with fail
    refine (H.out _).mono ?_
    rintro e w1 ⟨rfl, rfl⟩
    clear H
    go_wp2
    go_ret
    exact ⟨by (first | rfl | (apply congrArg Ending.returned; apply congrArg Value.bool; first | (apply decide_eq_false; omega) | (apply decide_eq_true; omega))), hb0⟩
  obtain rfl := HT.out ⟨ht.1, ht.2, s1, s2, by omega, by omega, by omega, by omega⟩
  clear HF HT ht
  generalize x.t = xt at *
  generalize x.s = xs at *
  generalize x.f = xf at *
  generalize x.l = xl at *
  generalize x.n = xn at *
  go_enter Try.func58, Try.ntmps58
  go_wp2_with fail
  refine (H.out _).mono ?_
  rintro e w1 ⟨rfl, rfl⟩
  clear H
  go_wp2
  go_ret
  exact ⟨by (first | rfl | (apply congrArg Ending.returned; apply congrArg Value.bool; first | (apply decide_eq_false; omega) | (apply decide_eq_true; omega))), hb0⟩
end Go.Proofs.Ytmapgfakfeddmaa
