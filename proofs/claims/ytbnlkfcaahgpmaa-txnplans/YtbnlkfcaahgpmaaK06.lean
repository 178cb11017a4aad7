/-
  Texts that lean on one another, one behind the other: each opens with its own remark.
-/
import Derived.Test.YtbnlkfcaahgpmaaProg
import Derived.WalkSpells
import Derived.Test.YtbnlkfcaahgpmaaK05
import Derived.Test.YtbnlkfcaahgpmaaK00
import Derived.Test.YtbnlkfcaahgpmaaK01

/-
  The contract of record.rightUses.
-/
namespace Go.Proofs.Ytbnlkfcaahgpmaa
open Go.RowKit
set_option linter.unusedVariables false

theorem beq_no' {a b : Int} (h : ¬ a = b) : (a == b) = false := by rw [beq_eq_false_iff_ne]; exact h
set_option maxRecDepth 4000 in
set_option maxHeartbeats 1600000 in
theorem uses_1 (r : Rec) (va vb : Value) (w : World) (q : Bool) (Hq : Hid (q = true ↔ r.uses)) (hin : RcIn w r va vb) (hk : r.k = 1) :
    Calls Try.prog 41 #[.agg (rcA r va vb)] w fun e w' => e = .returned (.bool q) ∧ Below w.heap.size w w' := by
  have HIN := hide hin
  obtain ⟨⟨e1, cap1, rfl, -⟩, ⟨e2, cap2, rfl, -⟩⟩ := hin
  have HK0 := hide (Keeps.one w 30 (rcA r (.slice e1 r.ts.length cap1) (.slice e2 r.ds.length cap2)))
  have HF : Hid (¬ r.uses → q = false) := fun h => by
    cases q
    · rfl
    · exact absurd (Hq.out.1 rfl) h
  have HT : Hid (r.uses → q = true) := fun h => Hq.out.2 h
  clear Hq
  have c0 := HK0.out.1.1.cell 0 (.int .i64 r.k) rfl
  rw [hk] at c0
  by_cases ho : 1 ≤ r.t ∧ r.t ≤ 1048575 ∧ r.p < r.l
  case neg =>
    have HO := hide (fun w => rtxn_at r (.slice e1 r.ts.length cap1) (.slice e2 r.ds.length cap2) w false (hide (decide_eq_false ho)))
    obtain rfl := HF.out (fun h => ho (h.2.2.1 (by omega)))
    clear ho
    go_enter Try.func41, Try.ntmps41
    go_wp2_with (refine wpList_load_at rfl 30 (.tmp 1) rfl w.heap.size rfl (rcA r (.slice e1 r.ts.length cap1) (.slice e2 r.ds.length cap2)) HK0.out.1.1 _ Try.underlying30 rfl infoRc ?_)
    refine (HO.out _).mono ?_
    rintro e w1 ⟨rfl, hb1⟩
    have HK1 := hide (HK0.out.later hb1)
    clear HO HK0 hb1 c0
    have d := HK1.out.2
    clear HK1 HF HT HIN
    go_wp2
    go_ret
    exact ⟨by first | rfl | (apply congrArg Ending.returned; apply congrArg Value.bool; first | (apply decide_eq_false; omega) | (apply decide_eq_true; omega)), d⟩
  have HO := hide (fun w => rtxn_at r (.slice e1 r.ts.length cap1) (.slice e2 r.ds.length cap2) w true (hide (decide_eq_true ho)))
  have HOW := hide ho
  clear ho
  go_enter Try.func41, Try.ntmps41
  go_wp2_with (refine wpList_load_at rfl 30 (.tmp 1) rfl w.heap.size rfl (rcA r (.slice e1 r.ts.length cap1) (.slice e2 r.ds.length cap2)) HK0.out.1.1 _ Try.underlying30 rfl infoRc ?_)
  refine (HO.out _).mono ?_
  rintro e w1 ⟨rfl, hb1⟩
  have HK1 := hide (HK0.out.later hb1)
  clear HO HK0 hb1 c0
  obtain ⟨d4, d5, d6, d7, d8⟩ := rc_chg HK1.out.1.1
  have HR := hide (fun w => cright_at r.c w q (hide (by
    by_cases hc : r.c.right
    · rw [HT.out ⟨by omega, by omega, fun _ => HOW.out, fun _ => hc, fun h => absurd h (by omega), fun h => absurd h (by omega), fun h => absurd h (by omega)⟩]
      exact decide_eq_true hc
    · rw [HF.out (fun h => hc (h.2.2.2.1 (by omega)))]
      exact decide_eq_false hc)))
  go_wp2_with fail
  refine (HR.out _).mono ?_
  rintro e w2 ⟨rfl, hb2⟩
  have d := (HK1.out.later hb2).2
  clear HR HK1 HF HT HIN hb2 HOW d4 d5 d6 d7 d8
  go_wp2
  go_ret
  exact ⟨rfl, d⟩

set_option maxRecDepth 4000 in
set_option maxHeartbeats 1600000 in
theorem uses_2 (r : Rec) (va vb : Value) (w : World) (q : Bool) (Hq : Hid (q = true ↔ r.uses)) (hin : RcIn w r va vb) (hk : r.k = 2) :
    Calls Try.prog 41 #[.agg (rcA r va vb)] w fun e w' => e = .returned (.bool q) ∧ Below w.heap.size w w' := by
  have HIN := hide hin
  obtain ⟨⟨e1, cap1, rfl, -⟩, ⟨e2, cap2, rfl, -⟩⟩ := hin
  have HK0 := hide (Keeps.one w 30 (rcA r (.slice e1 r.ts.length cap1) (.slice e2 r.ds.length cap2)))
  have HF : Hid (¬ r.uses → q = false) := fun h => by
    cases q
    · rfl
    · exact absurd (Hq.out.1 rfl) h
  have HT : Hid (r.uses → q = true) := fun h => Hq.out.2 h
  clear Hq
  have c0 := HK0.out.1.1.cell 0 (.int .i64 r.k) rfl
  rw [hk] at c0
  by_cases ho : 1 ≤ r.t ∧ r.t ≤ 1048575 ∧ r.p < r.l
  case neg =>
    have HO := hide (fun w => rtxn_at r (.slice e1 r.ts.length cap1) (.slice e2 r.ds.length cap2) w false (hide (decide_eq_false ho)))
    obtain rfl := HF.out (fun h => ho (h.2.2.1 (by omega)))
    clear ho
    go_enter Try.func41, Try.ntmps41
    go_wp2_with (refine wpList_load_at rfl 30 (.tmp 1) rfl w.heap.size rfl (rcA r (.slice e1 r.ts.length cap1) (.slice e2 r.ds.length cap2)) HK0.out.1.1 _ Try.underlying30 rfl infoRc ?_)
    refine (HO.out _).mono ?_
    rintro e w1 ⟨rfl, hb1⟩
    have HK1 := hide (HK0.out.later hb1)
    clear HO HK0 hb1 c0
    have d := HK1.out.2
    clear HK1 HF HT HIN
    go_wp2
    go_ret
    exact ⟨by first | rfl | (apply congrArg Ending.returned; apply congrArg Value.bool; first | (apply decide_eq_false; omega) | (apply decide_eq_true; omega)), d⟩
  have HO := hide (fun w => rtxn_at r (.slice e1 r.ts.length cap1) (.slice e2 r.ds.length cap2) w true (hide (decide_eq_true ho)))
  have HOW := hide ho
  clear ho
  go_enter Try.func41, Try.ntmps41
  go_wp2_with (refine wpList_load_at rfl 30 (.tmp 1) rfl w.heap.size rfl (rcA r (.slice e1 r.ts.length cap1) (.slice e2 r.ds.length cap2)) HK0.out.1.1 _ Try.underlying30 rfl infoRc ?_)
  refine (HO.out _).mono ?_
  rintro e w1 ⟨rfl, hb1⟩
  have HK1 := hide (HK0.out.later hb1)
  clear HO HK0 hb1 c0
  obtain ⟨d4, d5, d6, d7, d8⟩ := rc_chg HK1.out.1.1
  by_cases hc : r.c.right
  case neg =>
    have HR := hide (fun w => cright_at r.c w false (hide (decide_eq_false hc)))
    obtain rfl := HF.out (fun h => hc (h.2.2.2.1 (by omega)))
    clear hc
    go_wp2_with fail
    refine (HR.out _).mono ?_
    rintro e w2 ⟨rfl, hb2⟩
    have d := (HK1.out.later hb2).2
    clear HR HK1 HF HT HIN hb2 HOW d4 d5 d6 d7 d8
    go_wp2
    go_ret
    exact ⟨rfl, d⟩
  have HR := hide (fun w => cright_at r.c w true (hide (decide_eq_true hc)))
  have HC := hide hc
  clear hc
  go_wp2_with fail
  refine (HR.out _).mono ?_
  rintro e w2 ⟨rfl, hb2⟩
  have HK2 := hide (HK1.out.later hb2)
  clear HR HK1 hb2 d4 d5 d6 d7 d8
  have c1 := HK2.out.1.1.cell 1 (.int .u64 (r.l : Int)) rfl
  have c9 := HK2.out.1.1.cell 9 (.int .u64 (r.n : Int)) rfl
  have d := HK2.out.2
  by_cases hn : (r.n : Int) < (r.l : Int)
  case neg =>
    obtain rfl := HF.out (fun h => by have := h.2.2.2.2.1 hk; omega)
    clear HK2 HF HT HIN HOW HC
    go_wp2
    go_ret
    exact ⟨by first | rfl | (apply congrArg Ending.returned; apply congrArg Value.bool; apply decide_eq_false; omega), d⟩
  obtain rfl := HT.out ⟨by omega, by omega, fun _ => HOW.out, fun _ => HC.out, fun _ => by omega, fun h => absurd h (by omega), fun h => absurd h (by omega)⟩
  clear HK2 HF HT HIN HOW HC
  go_wp2
  go_ret
  exact ⟨by first | rfl | (apply congrArg Ending.returned; apply congrArg Value.bool; apply decide_eq_true; omega), d⟩

set_option maxRecDepth 4000 in
set_option maxHeartbeats 1600000 in
theorem uses_3 (r : Rec) (va vb : Value) (w : World) (q : Bool) (Hq : Hid (q = true ↔ r.uses)) (hin : RcIn w r va vb) (hk : r.k = 3) :
    Calls Try.prog 41 #[.agg (rcA r va vb)] w fun e w' => e = .returned (.bool q) ∧ Below w.heap.size w w' := by
  have HIN := hide hin
  obtain ⟨⟨e1, cap1, rfl, -⟩, ⟨e2, cap2, rfl, -⟩⟩ := hin
  have HK0 := hide (Keeps.one w 30 (rcA r (.slice e1 r.ts.length cap1) (.slice e2 r.ds.length cap2)))
  have HF : Hid (¬ r.uses → q = false) := fun h => by
    cases q
    · rfl
    · exact absurd (Hq.out.1 rfl) h
  have HT : Hid (r.uses → q = true) := fun h => Hq.out.2 h
  clear Hq
  have c0 := HK0.out.1.1.cell 0 (.int .i64 r.k) rfl
  rw [hk] at c0
  by_cases ho : 1 ≤ r.t ∧ r.t ≤ 1048575 ∧ r.p < r.l
  case neg =>
    have HO := hide (fun w => rtxn_at r (.slice e1 r.ts.length cap1) (.slice e2 r.ds.length cap2) w false (hide (decide_eq_false ho)))
    obtain rfl := HF.out (fun h => ho (h.2.2.1 (by omega)))
    clear ho
    go_enter Try.func41, Try.ntmps41
    go_wp2_with (refine wpList_load_at rfl 30 (.tmp 1) rfl w.heap.size rfl (rcA r (.slice e1 r.ts.length cap1) (.slice e2 r.ds.length cap2)) HK0.out.1.1 _ Try.underlying30 rfl infoRc ?_)
    refine (HO.out _).mono ?_
    rintro e w1 ⟨rfl, hb1⟩
    have HK1 := hide (HK0.out.later hb1)
    clear HO HK0 hb1 c0
    have d := HK1.out.2
    clear HK1 HF HT HIN
    go_wp2
    go_ret
    exact ⟨by first | rfl | (apply congrArg Ending.returned; apply congrArg Value.bool; first | (apply decide_eq_false; omega) | (apply decide_eq_true; omega)), d⟩
  have HO := hide (fun w => rtxn_at r (.slice e1 r.ts.length cap1) (.slice e2 r.ds.length cap2) w true (hide (decide_eq_true ho)))
  have HOW := hide ho
  clear ho
  obtain rfl := HT.out ⟨by omega, by omega, fun _ => HOW.out, fun h => absurd h (by omega), fun h => absurd h (by omega), fun h => absurd h (by omega), fun h => absurd h (by omega)⟩
  go_enter Try.func41, Try.ntmps41
  go_wp2_with (refine wpList_load_at rfl 30 (.tmp 1) rfl w.heap.size rfl (rcA r (.slice e1 r.ts.length cap1) (.slice e2 r.ds.length cap2)) HK0.out.1.1 _ Try.underlying30 rfl infoRc ?_)
  refine (HO.out _).mono ?_
  rintro e w1 ⟨rfl, hb1⟩
  have HK1 := hide (HK0.out.later hb1)
  clear HO HK0 hb1 c0
  have d := HK1.out.2
  clear HK1 HF HT HIN
  go_wp2
  go_ret
  exact ⟨by first | rfl | (apply congrArg Ending.returned; apply congrArg Value.bool; first | (apply decide_eq_false; omega) | (apply decide_eq_true; omega)), d⟩

set_option maxRecDepth 4000 in
set_option maxHeartbeats 1600000 in
theorem uses_4 (r : Rec) (va vb : Value) (w : World) (q : Bool) (Hq : Hid (q = true ↔ r.uses)) (hin : RcIn w r va vb) (hk : r.k = 4) :
    Calls Try.prog 41 #[.agg (rcA r va vb)] w fun e w' => e = .returned (.bool q) ∧ Below w.heap.size w w' := by
  have HIN := hide hin
  obtain ⟨⟨e1, cap1, rfl, -⟩, ⟨e2, cap2, rfl, -⟩⟩ := hin
  have HK0 := hide (Keeps.one w 30 (rcA r (.slice e1 r.ts.length cap1) (.slice e2 r.ds.length cap2)))
  have HF : Hid (¬ r.uses → q = false) := fun h => by
    cases q
    · rfl
    · exact absurd (Hq.out.1 rfl) h
  have HT : Hid (r.uses → q = true) := fun h => Hq.out.2 h
  clear Hq
  have c0 := HK0.out.1.1.cell 0 (.int .i64 r.k) rfl
  rw [hk] at c0
  by_cases ho : 1 ≤ r.t ∧ r.t ≤ 1048575 ∧ r.p < r.l
  case neg =>
    have HO := hide (fun w => rtxn_at r (.slice e1 r.ts.length cap1) (.slice e2 r.ds.length cap2) w false (hide (decide_eq_false ho)))
    obtain rfl := HF.out (fun h => ho (h.2.2.1 (by omega)))
    clear ho
    go_enter Try.func41, Try.ntmps41
    go_wp2_with (refine wpList_load_at rfl 30 (.tmp 1) rfl w.heap.size rfl (rcA r (.slice e1 r.ts.length cap1) (.slice e2 r.ds.length cap2)) HK0.out.1.1 _ Try.underlying30 rfl infoRc ?_)
    refine (HO.out _).mono ?_
    rintro e w1 ⟨rfl, hb1⟩
    have HK1 := hide (HK0.out.later hb1)
    clear HO HK0 hb1 c0
    have d := HK1.out.2
    clear HK1 HF HT HIN
    go_wp2
    go_ret
    exact ⟨by first | rfl | (apply congrArg Ending.returned; apply congrArg Value.bool; first | (apply decide_eq_false; omega) | (apply decide_eq_true; omega)), d⟩
  have HO := hide (fun w => rtxn_at r (.slice e1 r.ts.length cap1) (.slice e2 r.ds.length cap2) w true (hide (decide_eq_true ho)))
  have HOW := hide ho
  clear ho
  obtain rfl := HT.out ⟨by omega, by omega, fun _ => HOW.out, fun h => absurd h (by omega), fun h => absurd h (by omega), fun h => absurd h (by omega), fun h => absurd h (by omega)⟩
  go_enter Try.func41, Try.ntmps41
  go_wp2_with (refine wpList_load_at rfl 30 (.tmp 1) rfl w.heap.size rfl (rcA r (.slice e1 r.ts.length cap1) (.slice e2 r.ds.length cap2)) HK0.out.1.1 _ Try.underlying30 rfl infoRc ?_)
  refine (HO.out _).mono ?_
  rintro e w1 ⟨rfl, hb1⟩
  have HK1 := hide (HK0.out.later hb1)
  clear HO HK0 hb1 c0
  have d := HK1.out.2
  clear HK1 HF HT HIN
  go_wp2
  go_ret
  exact ⟨by first | rfl | (apply congrArg Ending.returned; apply congrArg Value.bool; first | (apply decide_eq_false; omega) | (apply decide_eq_true; omega)), d⟩

set_option maxRecDepth 4000 in
set_option maxHeartbeats 1600000 in
theorem uses_5 (r : Rec) (va vb : Value) (w : World) (q : Bool) (Hq : Hid (q = true ↔ r.uses)) (hin : RcIn w r va vb) (hk : r.k = 5) :
    Calls Try.prog 41 #[.agg (rcA r va vb)] w fun e w' => e = .returned (.bool q) ∧ Below w.heap.size w w' := by
  have HIN := hide hin
  obtain ⟨⟨e1, cap1, rfl, -⟩, ⟨e2, cap2, rfl, -⟩⟩ := hin
  have HK0 := hide (Keeps.one w 30 (rcA r (.slice e1 r.ts.length cap1) (.slice e2 r.ds.length cap2)))
  have HF : Hid (¬ r.uses → q = false) := fun h => by
    cases q
    · rfl
    · exact absurd (Hq.out.1 rfl) h
  have HT : Hid (r.uses → q = true) := fun h => Hq.out.2 h
  clear Hq
  have c0 := HK0.out.1.1.cell 0 (.int .i64 r.k) rfl
  rw [hk] at c0
  by_cases ho : 1 ≤ r.t ∧ r.t ≤ 1048575 ∧ r.p < r.l
  case neg =>
    have HO := hide (fun w => rtxn_at r (.slice e1 r.ts.length cap1) (.slice e2 r.ds.length cap2) w false (hide (decide_eq_false ho)))
    obtain rfl := HF.out (fun h => ho (h.2.2.1 (by omega)))
    clear ho
    go_enter Try.func41, Try.ntmps41
    go_wp2_with (refine wpList_load_at rfl 30 (.tmp 1) rfl w.heap.size rfl (rcA r (.slice e1 r.ts.length cap1) (.slice e2 r.ds.length cap2)) HK0.out.1.1 _ Try.underlying30 rfl infoRc ?_)
    refine (HO.out _).mono ?_
    rintro e w1 ⟨rfl, hb1⟩
    have HK1 := hide (HK0.out.later hb1)
    clear HO HK0 hb1 c0
    have d := HK1.out.2
    clear HK1 HF HT HIN
    go_wp2
    go_ret
    exact ⟨by first | rfl | (apply congrArg Ending.returned; apply congrArg Value.bool; first | (apply decide_eq_false; omega) | (apply decide_eq_true; omega)), d⟩
  have HO := hide (fun w => rtxn_at r (.slice e1 r.ts.length cap1) (.slice e2 r.ds.length cap2) w true (hide (decide_eq_true ho)))
  have HOW := hide ho
  clear ho
  obtain rfl := HT.out ⟨by omega, by omega, fun _ => HOW.out, fun h => absurd h (by omega), fun h => absurd h (by omega), fun h => absurd h (by omega), fun h => absurd h (by omega)⟩
  go_enter Try.func41, Try.ntmps41
  go_wp2_with (refine wpList_load_at rfl 30 (.tmp 1) rfl w.heap.size rfl (rcA r (.slice e1 r.ts.length cap1) (.slice e2 r.ds.length cap2)) HK0.out.1.1 _ Try.underlying30 rfl infoRc ?_)
  refine (HO.out _).mono ?_
  rintro e w1 ⟨rfl, hb1⟩
  have HK1 := hide (HK0.out.later hb1)
  clear HO HK0 hb1 c0
  have d := HK1.out.2
  clear HK1 HF HT HIN
  go_wp2
  go_ret
  exact ⟨by first | rfl | (apply congrArg Ending.returned; apply congrArg Value.bool; first | (apply decide_eq_false; omega) | (apply decide_eq_true; omega)), d⟩

set_option maxRecDepth 4000 in
set_option maxHeartbeats 1600000 in
theorem uses_6 (r : Rec) (va vb : Value) (w : World) (q : Bool) (Hq : Hid (q = true ↔ r.uses)) (hin : RcIn w r va vb) (hk : r.k = 6) :
    Calls Try.prog 41 #[.agg (rcA r va vb)] w fun e w' => e = .returned (.bool q) ∧ Below w.heap.size w w' := by
  have HIN := hide hin
  obtain ⟨⟨e1, cap1, rfl, -⟩, ⟨e2, cap2, rfl, -⟩⟩ := hin
  have HK0 := hide (Keeps.one w 30 (rcA r (.slice e1 r.ts.length cap1) (.slice e2 r.ds.length cap2)))
  have HF : Hid (¬ r.uses → q = false) := fun h => by
    cases q
    · rfl
    · exact absurd (Hq.out.1 rfl) h
  have HT : Hid (r.uses → q = true) := fun h => Hq.out.2 h
  clear Hq
  have c0 := HK0.out.1.1.cell 0 (.int .i64 r.k) rfl
  rw [hk] at c0
  by_cases ho : 1 ≤ r.t ∧ r.t ≤ 1048575 ∧ r.p < r.l
  case neg =>
    have HO := hide (fun w => rtxn_at r (.slice e1 r.ts.length cap1) (.slice e2 r.ds.length cap2) w false (hide (decide_eq_false ho)))
    obtain rfl := HF.out (fun h => ho (h.2.2.1 (by omega)))
    clear ho
    go_enter Try.func41, Try.ntmps41
    go_wp2_with (refine wpList_load_at rfl 30 (.tmp 1) rfl w.heap.size rfl (rcA r (.slice e1 r.ts.length cap1) (.slice e2 r.ds.length cap2)) HK0.out.1.1 _ Try.underlying30 rfl infoRc ?_)
    refine (HO.out _).mono ?_
    rintro e w1 ⟨rfl, hb1⟩
    have HK1 := hide (HK0.out.later hb1)
    clear HO HK0 hb1 c0
    have d := HK1.out.2
    clear HK1 HF HT HIN
    go_wp2
    go_ret
    exact ⟨by first | rfl | (apply congrArg Ending.returned; apply congrArg Value.bool; first | (apply decide_eq_false; omega) | (apply decide_eq_true; omega)), d⟩
  have HO := hide (fun w => rtxn_at r (.slice e1 r.ts.length cap1) (.slice e2 r.ds.length cap2) w true (hide (decide_eq_true ho)))
  have HOW := hide ho
  clear ho
  go_enter Try.func41, Try.ntmps41
  go_wp2_with (refine wpList_load_at rfl 30 (.tmp 1) rfl w.heap.size rfl (rcA r (.slice e1 r.ts.length cap1) (.slice e2 r.ds.length cap2)) HK0.out.1.1 _ Try.underlying30 rfl infoRc ?_)
  refine (HO.out _).mono ?_
  rintro e w1 ⟨rfl, hb1⟩
  have HK1 := hide (HK0.out.later hb1)
  clear HO HK0 hb1 c0
  have c10 := HK1.out.1.1.cell 10 (.int .i64 r.s) rfl
  by_cases s1 : 1 ≤ r.s
  case neg =>
    obtain rfl := HF.out (fun h => by have := h.2.2.2.2.2.1 hk; omega)
    have d := HK1.out.2
    clear HK1 HF HT HIN
    go_wp2
    go_ret
    exact ⟨by first | rfl | (apply congrArg Ending.returned; apply congrArg Value.bool; first | (apply decide_eq_false; omega) | (apply decide_eq_true; omega)), d⟩
  by_cases s2 : r.s ≤ 8
  case neg =>
    obtain rfl := HF.out (fun h => by have := h.2.2.2.2.2.1 hk; omega)
    have d := HK1.out.2
    clear HK1 HF HT HIN
    go_wp2
    go_ret
    exact ⟨by first | rfl | (apply congrArg Ending.returned; apply congrArg Value.bool; first | (apply decide_eq_false; omega) | (apply decide_eq_true; omega)), d⟩
  obtain rfl := HT.out ⟨by omega, by omega, fun _ => HOW.out, fun h => absurd h (by omega), fun h => absurd h (by omega), fun _ => ⟨s1, s2⟩, fun h => absurd h (by omega)⟩
  have d := HK1.out.2
  clear HK1 HF HT HIN
  go_wp2
  go_ret
  exact ⟨by first | rfl | (apply congrArg Ending.returned; apply congrArg Value.bool; first | (apply decide_eq_false; omega) | (apply decide_eq_true; omega)), d⟩

set_option maxRecDepth 4000 in
set_option maxHeartbeats 1600000 in
theorem uses_7 (r : Rec) (va vb : Value) (w : World) (q : Bool) (Hq : Hid (q = true ↔ r.uses)) (hin : RcIn w r va vb) (hk : r.k = 7) :
    Calls Try.prog 41 #[.agg (rcA r va vb)] w fun e w' => e = .returned (.bool q) ∧ Below w.heap.size w w' := by
  have HIN := hide hin
  obtain ⟨⟨e1, cap1, rfl, -⟩, ⟨e2, cap2, rfl, -⟩⟩ := hin
  have HK0 := hide (Keeps.one w 30 (rcA r (.slice e1 r.ts.length cap1) (.slice e2 r.ds.length cap2)))
  have HF : Hid (¬ r.uses → q = false) := fun h => by
    cases q
    · rfl
    · exact absurd (Hq.out.1 rfl) h
  have HT : Hid (r.uses → q = true) := fun h => Hq.out.2 h
  clear Hq
  have c0 := HK0.out.1.1.cell 0 (.int .i64 r.k) rfl
  rw [hk] at c0
  obtain rfl := HT.out ⟨by omega, by omega, fun h => absurd h (by omega), fun h => absurd h (by omega), fun h => absurd h (by omega), fun h => absurd h (by omega), fun h => absurd h (by omega)⟩
  have d := HK0.out.2
  clear HK0 HF HT HIN
  go_enter Try.func41, Try.ntmps41
  go_wp2
  go_ret
  exact ⟨rfl, d⟩

set_option maxRecDepth 4000 in
set_option maxHeartbeats 1600000 in
theorem uses_8 (r : Rec) (va vb : Value) (w : World) (q : Bool) (Hq : Hid (q = true ↔ r.uses)) (hin : RcIn w r va vb) (hk : r.k = 8) :
    Calls Try.prog 41 #[.agg (rcA r va vb)] w fun e w' => e = .returned (.bool q) ∧ Below w.heap.size w w' := by
  have HIN := hide hin
  obtain ⟨⟨e1, cap1, rfl, -⟩, ⟨e2, cap2, rfl, -⟩⟩ := hin
  have HK0 := hide (Keeps.one w 30 (rcA r (.slice e1 r.ts.length cap1) (.slice e2 r.ds.length cap2)))
  have HF : Hid (¬ r.uses → q = false) := fun h => by
    cases q
    · rfl
    · exact absurd (Hq.out.1 rfl) h
  have HT : Hid (r.uses → q = true) := fun h => Hq.out.2 h
  clear Hq
  have c0 := HK0.out.1.1.cell 0 (.int .i64 r.k) rfl
  rw [hk] at c0
  have c1 := HK0.out.1.1.cell 1 (.int .u64 (r.l : Int)) rfl
  have c11 := HK0.out.1.1.cell 11 (.int .u64 (r.b : Int)) rfl
  by_cases hb : 1 ≤ r.b ∧ r.b < r.l
  case neg =>
    have HW := hide (fun w => within_at r.b r.l w false (hide (decide_eq_false hb)))
    obtain rfl := HF.out (fun h => hb ((h.2.2.2.2.2.2 hk).2.2.2.2))
    clear hb
    go_enter Try.func41, Try.ntmps41
    go_wp2_with fail
    refine (HW.out _).mono ?_
    rintro e w1 ⟨rfl, rfl⟩
    have d := HK0.out.2
    clear HK0 HF HT HIN HW
    go_wp2
    go_ret
    exact ⟨rfl, d⟩
  have HW := hide (fun w => within_at r.b r.l w true (hide (decide_eq_true hb)))
  have HBG := hide hb
  clear hb
  have c12 := HK0.out.1.1.cell 12 (.slice e1 r.ts.length cap1) rfl
  go_enter Try.func41, Try.ntmps41
  go_wp2_with fail
  refine (HW.out _).mono ?_
  rintro e w1 ⟨rfl, rfl⟩
  clear HW
  go_wp2_with fail
  refine gen_calls (fun x => Hid (Keeps w x [(w.heap.size, 30, rcA r (.slice e1 r.ts.length cap1) (.slice e2 r.ds.length cap2))])) HK0 ?_
  clear HK0 c0 c1 c11 c12
  intro x0 HK0
  by_cases ht : r.ts.length ≤ 16 ∧ ∀ i, i < r.ts.length → txAt r.l r.ts i
  case neg =>
    obtain rfl := HF.out (fun h => ht ⟨(h.2.2.2.2.2.2 hk).1, (h.2.2.2.2.2.2 hk).2.2.1⟩)
    refine (rtxns_at _ r.ts r.l x0 false (hide ⟨fun h => (nomatch h), fun h => absurd h ht⟩) (HIN.out.below HK0.out.2).1).mono ?_
    rintro e w2 ⟨rfl, hb2⟩
    have d := (HK0.out.later hb2).2
    clear HK0 HF HT HIN hb2 ht HBG
    go_wp2
    go_ret
    exact ⟨rfl, d⟩
  refine (rtxns_at _ r.ts r.l x0 true (hide ⟨fun _ => ht, fun _ => rfl⟩) (HIN.out.below HK0.out.2).1).mono ?_
  rintro e w2 ⟨rfl, hb2⟩
  have HK2 := hide (HK0.out.later hb2)
  have HTX := hide ht
  clear HK0 hb2 ht
  have c1 := HK2.out.1.1.cell 1 (.int .u64 (r.l : Int)) rfl
  have c13 := HK2.out.1.1.cell 13 (.slice e2 r.ds.length cap2) rfl
  have HQ2 : Hid (q = true ↔ r.ds.length ≤ 32 ∧ ∀ i, i < r.ds.length → diAt r.l r.ds i) := by
    constructor
    · intro h
      by_cases hd : r.ds.length ≤ 32 ∧ ∀ i, i < r.ds.length → diAt r.l r.ds i
      · exact hd
      · rw [HF.out (fun h => hd ⟨(h.2.2.2.2.2.2 hk).2.1, (h.2.2.2.2.2.2 hk).2.2.2.1⟩)] at h
        cases h
    · intro hd
      exact HT.out ⟨by omega, by omega, fun h => absurd h (by omega), fun h => absurd h (by omega), fun h => absurd h (by omega), fun h => absurd h (by omega), fun _ => ⟨HTX.out.1, hd.1, HTX.out.2, hd.2, HBG.out.1, HBG.out.2⟩⟩
  go_wp2_with fail
  refine (rdirty_at _ r.ds r.l w2 q HQ2 (HIN.out.below HK2.out.2).2).mono ?_
  rintro e w3 ⟨rfl, hb3⟩
  have d := (HK2.out.later hb3).2
  clear HK2 HF HT HIN hb3 HTX HBG HQ2 c1 c13
  go_wp2
  go_ret
  exact ⟨rfl, d⟩

set_option maxRecDepth 4000 in
set_option maxHeartbeats 1600000 in
theorem uses_no (r : Rec) (va vb : Value) (w : World) (q : Bool) (Hq : Hid (q = true ↔ r.uses)) (hin : RcIn w r va vb) (hk : r.k < 1 ∨ 8 < r.k) :
    Calls Try.prog 41 #[.agg (rcA r va vb)] w fun e w' => e = .returned (.bool q) ∧ Below w.heap.size w w' := by
  have HIN := hide hin
  obtain ⟨⟨e1, cap1, rfl, -⟩, ⟨e2, cap2, rfl, -⟩⟩ := hin
  have HK0 := hide (Keeps.one w 30 (rcA r (.slice e1 r.ts.length cap1) (.slice e2 r.ds.length cap2)))
  have HF : Hid (¬ r.uses → q = false) := fun h => by
    cases q
    · rfl
    · exact absurd (Hq.out.1 rfl) h
  have HT : Hid (r.uses → q = true) := fun h => Hq.out.2 h
  clear Hq
  have c0 := HK0.out.1.1.cell 0 (.int .i64 r.k) rfl
  have n1 := beq_no' (a := r.k) (b := 1) (by omega)
  have n2 := beq_no' (a := r.k) (b := 2) (by omega)
  have n3 := beq_no' (a := r.k) (b := 3) (by omega)
  have n4 := beq_no' (a := r.k) (b := 4) (by omega)
  have n5 := beq_no' (a := r.k) (b := 5) (by omega)
  have n6 := beq_no' (a := r.k) (b := 6) (by omega)
  have n7 := beq_no' (a := r.k) (b := 7) (by omega)
  have n8 := beq_no' (a := r.k) (b := 8) (by omega)
  obtain rfl := HF.out (fun h => by have := h.1; have := h.2.1; omega)
  have d := HK0.out.2
  clear HK0 HF HT HIN hk
  go_enter Try.func41, Try.ntmps41
  go_wp2
  go_ret
  exact ⟨rfl, d⟩

/-- THE CONTRACT. -/
theorem uses_any (r : Rec) (va vb : Value) (w : World) (q : Bool) (Hq : Hid (q = true ↔ r.uses)) (hin : RcIn w r va vb) :
    Calls Try.prog 41 #[.agg (rcA r va vb)] w fun e w' => e = .returned (.bool q) ∧ Below w.heap.size w w' := by
  by_cases hk : r.k < 1 ∨ 8 < r.k
  · exact uses_no r va vb w q Hq hin hk
  by_cases h1 : r.k = 1
  · exact uses_1 r va vb w q Hq hin h1
  by_cases h2 : r.k = 2
  · exact uses_2 r va vb w q Hq hin h2
  by_cases h3 : r.k = 3
  · exact uses_3 r va vb w q Hq hin h3
  by_cases h4 : r.k = 4
  · exact uses_4 r va vb w q Hq hin h4
  by_cases h5 : r.k = 5
  · exact uses_5 r va vb w q Hq hin h5
  by_cases h6 : r.k = 6
  · exact uses_6 r va vb w q Hq hin h6
  by_cases h7 : r.k = 7
  · exact uses_7 r va vb w q Hq hin h7
  exact uses_8 r va vb w q Hq hin (by omega)
end Go.Proofs.Ytbnlkfcaahgpmaa

/-
  A struct as a call's one result. Of no program.
-/
namespace Go.Proofs.Ytbnlkfcaahgpmaa
open Go.RowKit
set_option linter.unusedVariables false

section
variable {P : Program}
theorem results_one {fn : Func} {p : Tmp} {t : TypeId} (h : fn.results = #[.cell p t]) (tmps : Array Value) (P : Program) (w : World) :
    (results fn tmps).run P w = ((asAddr (tmps.getD p undef)).run P w).andThen fun a w₁ => (loadVar t a).run P w₁ := by
  simp only [results, h]
  simp [Sem.run_bind, Result.andThen]
theorem res_one {fn : Func} {p : Tmp} {t : TypeId} (h : fn.results = #[.cell p t]) (tmps : Array Value) (w : World) (g : Nat) (cs : Array Value) (d : TypeDesc) (hp : tmps.getD p undef = .pointer (some ⟨g, 0, none⟩)) (hg : RowAt w g t cs)
    (hu : P.underlying t = some d) (hd : (match d with | .struct _ | .array _ _ => true | _ => false) = true) (hi : (P.info? t).map (·.size) = some cs.size) :
    (results fn tmps).run P w = .ok (.agg cs) w := by
  have h1 := run_loadVar_row (P := P) w g t t cs (0, 0) d hg hu hd hi
  rw [results_one h, hp]
  simp only [asAddr, Sem.run_pure, Result.andThen_ok, h1]
end
end Go.Proofs.Ytbnlkfcaahgpmaa

/-
  The contract of record.used: what all kinds share.
-/
namespace Go.Proofs.Ytbnlkfcaahgpmaa
open Go.RowKit
set_option linter.unusedVariables false
theorem Keeps.setTop {w x : World} {g : Nat} {t : TypeId} {cs : Array Value} {l : List (Nat × TypeId × Array Value)} (h : Keeps w x ((g, t, cs) :: l)) (hg : w.heap.size ≤ g) (hl : ∀ e ∈ l, e.1 ≠ g) (j : Nat) (v : Value) : Keeps w (x.setCell ⟨g, j, none⟩ v) ((g, t, cs.setIfInBounds j v) :: l) := by
  refine ⟨⟨h.1.1.set j v, ?_⟩, h.2.setCell hg v⟩
  have : ∀ l : List (Nat × TypeId × Array Value), (∀ e ∈ l, e.1 ≠ g) → Has x l → Has (x.setCell ⟨g, j, none⟩ v) l := by
    intro l
    induction l with
    | nil => exact fun _ _ => trivial
    | cons e l ih => exact fun hl hh => ⟨hh.1.other _ _ (hl e (by simp)), ih (fun e he => hl e (by simp [he])) hh.2⟩
  exact this l hl h.1.2
theorem row_there {w : World} {g : Nat} {t : TypeId} {cs : Array Value} (h : RowAt w g t cs) (o n : Nat) (hn : o + n ≤ cs.size) : w.there g o n := fun j hj => ⟨by rw [h.cell (o + j) _ (Array.getElem?_eq_getElem (by omega))]; rfl, h.free _⟩
/-- A list's value in a record that holds what its kind uses. -/
def uV (r : Rec) (v : Value) : Value := if r.k = 8 then v else .slice none 0 0
theorem _root_.Go.RowKit.Below.set1 {B : Nat} {w w' : World} (h : Below B w w') {g : Nat} (hg : B ≤ g) (j : Nat) (v : Value) : Below B w (w'.setCell ⟨g, j, none⟩ v) := h.setCell hg v
end Go.Proofs.Ytbnlkfcaahgpmaa

/-
  The contract of record.used, kinds 1.
-/
namespace Go.Proofs.Ytbnlkfcaahgpmaa
open Go.RowKit
set_option linter.unusedVariables false

set_option maxRecDepth 4000 in
set_option maxHeartbeats 1600000 in
theorem used_1 (r : Rec) (va vb : Value) (w : World) (hk : r.k = 1) (hin : RcIn w r va vb) :
    Calls Try.prog 43 #[.agg (rcA r va vb)] w fun e w' => e = .returned (.agg (rcA r.used (uV r va) (uV r vb))) ∧ Below w.heap.size w w' := by
  have HIN := hide hin
  obtain ⟨⟨e1, cap1, rfl, -⟩, ⟨e2, cap2, rfl, -⟩⟩ := hin
  have HK0 := hide (Keeps.two w 30 30 (rcA r (.slice e1 r.ts.length cap1) (.slice e2 r.ds.length cap2)) #[.int .i64 0, .int .u64 0, .int .i64 0, .int .u64 0, .int .i64 0, .int .i64 0, .int .i64 0, .string ⟨#[]⟩, .string ⟨#[]⟩, .int .u64 0, .int .i64 0, .int .u64 0, .slice none 0 0, .slice none 0 0])
  have c0 := HK0.out.1.2.1.cell 0 (.int .i64 r.k) rfl
  have c1 := HK0.out.1.2.1.cell 1 (.int .u64 (r.l : Int)) rfl
  rw [hk] at c0
  obtain ⟨A, hA⟩ : ∃ A, A = rcA r (.slice e1 r.ts.length cap1) (.slice e2 r.ds.length cap2) := ⟨_, rfl⟩
  rw [← hA] at HK0 c0 c1 ⊢
  have HA := hide hA
  clear hA
  have HK3 := hide (Keeps.three w 30 30 30 A #[.int .i64 0, .int .u64 0, .int .i64 0, .int .u64 0, .int .i64 0, .int .i64 0, .int .i64 0, .string ⟨#[]⟩, .string ⟨#[]⟩, .int .u64 0, .int .i64 0, .int .u64 0, .slice none 0 0, .slice none 0 0] #[.int .i64 1, .int .u64 (r.l : Int), .int .i64 0, .int .u64 0, .int .i64 0, .int .i64 0, .int .i64 0, .string ⟨#[]⟩, .string ⟨#[]⟩, .int .u64 0, .int .i64 0, .int .u64 0, .slice none 0 0, .slice none 0 0])
  have c03 := HK3.out.1.2.2.1.cell 0 (.int .i64 1) (by rw [HA.out, ← hk]; rfl)
  go_enter Try.func43, Try.ntmps43
  go_wp2_with fail
  refine gen_wp (fun x => Hid (Keeps w x [(w.heap.size + 1 + 1, 30, #[.int .i64 1, .int .u64 (r.l : Int), .int .i64 0, .int .u64 0, .int .i64 0, .int .i64 0, .int .i64 0, .string ⟨#[]⟩, .string ⟨#[]⟩, .int .u64 0, .int .i64 0, .int .u64 0, .slice none 0 0, .slice none 0 0]), (w.heap.size + 1, 30, #[.int .i64 0, .int .u64 0, .int .i64 0, .int .u64 0, .int .i64 0, .int .i64 0, .int .i64 0, .string ⟨#[]⟩, .string ⟨#[]⟩, .int .u64 0, .int .i64 0, .int .u64 0, .slice none 0 0, .slice none 0 0]), (w.heap.size, 30, A)])) HK3 ?_
  clear HK3 HK0 c0 c1 c03
  intro x0 HK
  have HGE : Hid (w.heap.size ≤ w.heap.size + 1 + 1 ∧ w.heap.size + 1 ≠ w.heap.size + 1 + 1 ∧ w.heap.size ≠ w.heap.size + 1 + 1 ∧ w.heap.size ≤ w.heap.size + 1) := ⟨by omega, by omega, by omega, by omega⟩
  revert HK HGE
  generalize w.heap.size + 1 + 1 = g2
  generalize w.heap.size + 1 = g1
  intro HK HGE
  have c2 := HK.out.1.2.2.1.cell 2 (.int .i64 r.t) (by rw [HA.out]; rfl)
  have c3 := HK.out.1.2.2.1.cell 3 (.int .u64 (r.p : Int)) (by rw [HA.out]; rfl)
  have f2 := HK.out.1.1.free 2
  have d2 := HK.out.1.1.cell 2 (.int .i64 0) rfl
  have f3 := HK.out.1.1.free 3
  have d3 := HK.out.1.1.cell 3 (.int .u64 0) rfl
  have n2 := HGE.out.2.2.1
  go_region
  have hl : ∀ e ∈ [(g1, 30, #[.int .i64 0, .int .u64 0, .int .i64 0, .int .u64 0, .int .i64 0, .int .i64 0, .int .i64 0, .string ⟨#[]⟩, .string ⟨#[]⟩, .int .u64 0, .int .i64 0, .int .u64 0, .slice none 0 0, .slice none 0 0]), (w.heap.size, 30, A)], e.1 ≠ g2 := by
    intro e he
    simp only [List.mem_cons, List.not_mem_nil, or_false] at he
    rcases he with rfl | rfl
    · exact HGE.out.2.1
    · exact HGE.out.2.2.1
  have HK2 : Hid (Keeps w ((x0.setCell ⟨g2, 2, none⟩ (.int .i64 r.t)).setCell ⟨g2, 3, none⟩ (.int .u64 (r.p : Int))).drew [(g2, 30, #[.int .i64 1, .int .u64 (r.l : Int), .int .i64 r.t, .int .u64 (r.p : Int), .int .i64 0, .int .i64 0, .int .i64 0, .string ⟨#[]⟩, .string ⟨#[]⟩, .int .u64 0, .int .i64 0, .int .u64 0, .slice none 0 0, .slice none 0 0]), (g1, 30, #[.int .i64 0, .int .u64 0, .int .i64 0, .int .u64 0, .int .i64 0, .int .i64 0, .int .i64 0, .string ⟨#[]⟩, .string ⟨#[]⟩, .int .u64 0, .int .i64 0, .int .u64 0, .slice none 0 0, .slice none 0 0]), (w.heap.size, 30, A)]) := ((HK.out.setTop HGE.out.1 hl 2 (.int .i64 r.t)).setTop HGE.out.1 hl 3 (.int .u64 (r.p : Int))).drew
  refine gen_w (fun x => Hid (Keeps w x [(g2, 30, #[.int .i64 1, .int .u64 (r.l : Int), .int .i64 r.t, .int .u64 (r.p : Int), .int .i64 0, .int .i64 0, .int .i64 0, .string ⟨#[]⟩, .string ⟨#[]⟩, .int .u64 0, .int .i64 0, .int .u64 0, .slice none 0 0, .slice none 0 0]), (g1, 30, #[.int .i64 0, .int .u64 0, .int .i64 0, .int .u64 0, .int .i64 0, .int .i64 0, .int .i64 0, .string ⟨#[]⟩, .string ⟨#[]⟩, .int .u64 0, .int .i64 0, .int .u64 0, .slice none 0 0, .slice none 0 0]), (w.heap.size, 30, A)])) HK2 ?_
  clear HK2 HK hl n2 c2 f2 d2 c3 f3 d3
  intro x1 HK
  have c0 := HK.out.1.2.2.1.cell 0 (.int .i64 1) (by rw [HA.out, ← hk]; rfl)
  have hl : ∀ e ∈ [(g1, 30, #[.int .i64 0, .int .u64 0, .int .i64 0, .int .u64 0, .int .i64 0, .int .i64 0, .int .i64 0, .string ⟨#[]⟩, .string ⟨#[]⟩, .int .u64 0, .int .i64 0, .int .u64 0, .slice none 0 0, .slice none 0 0]), (w.heap.size, 30, A)], e.1 ≠ g2 := by
    intro e he
    simp only [List.mem_cons, List.not_mem_nil, or_false] at he
    rcases he with rfl | rfl
    · exact HGE.out.2.1
    · exact HGE.out.2.2.1
  have HKC : Hid (Keeps w (x1.setCells g2 4 (chA r.c).toList) [(g2, 30, #[.int .i64 1, .int .u64 (r.l : Int), .int .i64 r.t, .int .u64 (r.p : Int), .int .i64 r.c.k, .int .i64 r.c.pg, .int .i64 r.c.sl, .string r.c.o, .string r.c.n, .int .u64 0, .int .i64 0, .int .u64 0, .slice none 0 0, .slice none 0 0]), (g1, 30, #[.int .i64 0, .int .u64 0, .int .i64 0, .int .u64 0, .int .i64 0, .int .i64 0, .int .i64 0, .string ⟨#[]⟩, .string ⟨#[]⟩, .int .u64 0, .int .i64 0, .int .u64 0, .slice none 0 0, .slice none 0 0]), (w.heap.size, 30, A)]) := (((((HK.out.setTop HGE.out.1 hl 4 (.int .i64 r.c.k)).setTop HGE.out.1 hl 5 (.int .i64 r.c.pg)).setTop HGE.out.1 hl 6 (.int .i64 r.c.sl)).setTop HGE.out.1 hl 7 (.string r.c.o)).setTop HGE.out.1 hl 8 (.string r.c.n))
  have HCH : Hid (x1.rangeAt w.heap.size 4 (chA r.c).toList) := rc_change (show RowAt x1 w.heap.size 30 (rcA r (.slice e1 r.ts.length cap1) (.slice e2 r.ds.length cap2)) from by rw [← HA.out]; exact HK.out.1.2.2.1)
  have HTH : Hid (x1.there g2 4 5) := row_there HK.out.1.1 4 5 (by show 4 + 5 ≤ 14; omega)
  clear hl
  go_wp2_with (first | (refine wpList_load_mid rfl 26 (.tmp 27) rfl w.heap.size 4 (chA r.c) rfl HCH.out _ Try.underlying26 rfl infoCh ?_) | (refine wpList_store_mid rfl 26 (.tmp 29) (.tmp 28) rfl g2 4 (chA r.c) rfl rfl HTH.out infoCh (chA_one _) ?_; refine gen_w (fun x => Hid (Keeps w x [(g2, 30, #[.int .i64 1, .int .u64 (r.l : Int), .int .i64 r.t, .int .u64 (r.p : Int), .int .i64 r.c.k, .int .i64 r.c.pg, .int .i64 r.c.sl, .string r.c.o, .string r.c.n, .int .u64 0, .int .i64 0, .int .u64 0, .slice none 0 0, .slice none 0 0]), (g1, 30, #[.int .i64 0, .int .u64 0, .int .i64 0, .int .u64 0, .int .i64 0, .int .i64 0, .int .i64 0, .string ⟨#[]⟩, .string ⟨#[]⟩, .int .u64 0, .int .i64 0, .int .u64 0, .slice none 0 0, .slice none 0 0]), (w.heap.size, 30, A)])) HKC ?_; clear HKC HTH HCH HK c0; intro x9 HK) | (refine wpList_load_at rfl 30 (.tmp 3) rfl g2 rfl #[.int .i64 1, .int .u64 (r.l : Int), .int .i64 r.t, .int .u64 (r.p : Int), .int .i64 r.c.k, .int .i64 r.c.pg, .int .i64 r.c.sl, .string r.c.o, .string r.c.n, .int .u64 0, .int .i64 0, .int .u64 0, .slice none 0 0, .slice none 0 0] HK.out.1.1 _ Try.underlying30 rfl infoRc ?_) | (refine wpList_store_at rfl 30 (.tmp 2) (.tmp 54) rfl g1 #[.int .i64 0, .int .u64 0, .int .i64 0, .int .u64 0, .int .i64 0, .int .i64 0, .int .i64 0, .string ⟨#[]⟩, .string ⟨#[]⟩, .int .u64 0, .int .i64 0, .int .u64 0, .slice none 0 0, .slice none 0 0] #[.int .i64 1, .int .u64 (r.l : Int), .int .i64 r.t, .int .u64 (r.p : Int), .int .i64 r.c.k, .int .i64 r.c.pg, .int .i64 r.c.sl, .string r.c.o, .string r.c.n, .int .u64 0, .int .i64 0, .int .u64 0, .slice none 0 0, .slice none 0 0] rfl rfl HK.out.1.2.1 infoRc rfl (by simp [Value.oneCell']) ?_))
  intro w9 hr9 hk9 _
  have HB := hide (hk9 _ _ HK.out.2 HGE.out.2.2.2)
  have HROW := hide hr9
  clear hr9 hk9 HK
  go_wp2
  (try simp only [Exit.inBlock, Exit.then])
  refine bodyPost_ret (res_one rfl _ _ g1 #[.int .i64 1, .int .u64 (r.l : Int), .int .i64 r.t, .int .u64 (r.p : Int), .int .i64 r.c.k, .int .i64 r.c.pg, .int .i64 r.c.sl, .string r.c.o, .string r.c.n, .int .u64 0, .int .i64 0, .int .u64 0, .slice none 0 0, .slice none 0 0] _ rfl HROW.out Try.underlying30 rfl infoRc) rfl ?_
  refine ⟨?_, HB.out⟩
  apply congrArg Ending.returned
  apply congrArg Value.agg
  unfold rcA Rec.used uV
  simp [hk]

end Go.Proofs.Ytbnlkfcaahgpmaa

/-
  The contract of record.used, kinds 3, 4, 5.
-/
namespace Go.Proofs.Ytbnlkfcaahgpmaa
open Go.RowKit
set_option linter.unusedVariables false

set_option maxRecDepth 4000 in
set_option maxHeartbeats 1600000 in
theorem used_3 (r : Rec) (va vb : Value) (w : World) (hk : r.k = 3) (hin : RcIn w r va vb) :
    Calls Try.prog 43 #[.agg (rcA r va vb)] w fun e w' => e = .returned (.agg (rcA r.used (uV r va) (uV r vb))) ∧ Below w.heap.size w w' := by
  have HIN := hide hin
  obtain ⟨⟨e1, cap1, rfl, -⟩, ⟨e2, cap2, rfl, -⟩⟩ := hin
  have HK0 := hide (Keeps.two w 30 30 (rcA r (.slice e1 r.ts.length cap1) (.slice e2 r.ds.length cap2)) #[.int .i64 0, .int .u64 0, .int .i64 0, .int .u64 0, .int .i64 0, .int .i64 0, .int .i64 0, .string ⟨#[]⟩, .string ⟨#[]⟩, .int .u64 0, .int .i64 0, .int .u64 0, .slice none 0 0, .slice none 0 0])
  have c0 := HK0.out.1.2.1.cell 0 (.int .i64 r.k) rfl
  have c1 := HK0.out.1.2.1.cell 1 (.int .u64 (r.l : Int)) rfl
  rw [hk] at c0
  obtain ⟨A, hA⟩ : ∃ A, A = rcA r (.slice e1 r.ts.length cap1) (.slice e2 r.ds.length cap2) := ⟨_, rfl⟩
  rw [← hA] at HK0 c0 c1 ⊢
  have HA := hide hA
  clear hA
  have HK3 := hide (Keeps.three w 30 30 30 A #[.int .i64 0, .int .u64 0, .int .i64 0, .int .u64 0, .int .i64 0, .int .i64 0, .int .i64 0, .string ⟨#[]⟩, .string ⟨#[]⟩, .int .u64 0, .int .i64 0, .int .u64 0, .slice none 0 0, .slice none 0 0] #[.int .i64 3, .int .u64 (r.l : Int), .int .i64 0, .int .u64 0, .int .i64 0, .int .i64 0, .int .i64 0, .string ⟨#[]⟩, .string ⟨#[]⟩, .int .u64 0, .int .i64 0, .int .u64 0, .slice none 0 0, .slice none 0 0])
  have c03 := HK3.out.1.2.2.1.cell 0 (.int .i64 3) (by rw [HA.out, ← hk]; rfl)
  go_enter Try.func43, Try.ntmps43
  go_wp2_with fail
  refine gen_wp (fun x => Hid (Keeps w x [(w.heap.size + 1 + 1, 30, #[.int .i64 3, .int .u64 (r.l : Int), .int .i64 0, .int .u64 0, .int .i64 0, .int .i64 0, .int .i64 0, .string ⟨#[]⟩, .string ⟨#[]⟩, .int .u64 0, .int .i64 0, .int .u64 0, .slice none 0 0, .slice none 0 0]), (w.heap.size + 1, 30, #[.int .i64 0, .int .u64 0, .int .i64 0, .int .u64 0, .int .i64 0, .int .i64 0, .int .i64 0, .string ⟨#[]⟩, .string ⟨#[]⟩, .int .u64 0, .int .i64 0, .int .u64 0, .slice none 0 0, .slice none 0 0]), (w.heap.size, 30, A)])) HK3 ?_
  clear HK3 HK0 c0 c1 c03
  intro x0 HK
  have HGE : Hid (w.heap.size ≤ w.heap.size + 1 + 1 ∧ w.heap.size + 1 ≠ w.heap.size + 1 + 1 ∧ w.heap.size ≠ w.heap.size + 1 + 1 ∧ w.heap.size ≤ w.heap.size + 1) := ⟨by omega, by omega, by omega, by omega⟩
  revert HK HGE
  generalize w.heap.size + 1 + 1 = g2
  generalize w.heap.size + 1 = g1
  intro HK HGE
  have c2 := HK.out.1.2.2.1.cell 2 (.int .i64 r.t) (by rw [HA.out]; rfl)
  have c3 := HK.out.1.2.2.1.cell 3 (.int .u64 (r.p : Int)) (by rw [HA.out]; rfl)
  have f2 := HK.out.1.1.free 2
  have d2 := HK.out.1.1.cell 2 (.int .i64 0) rfl
  have f3 := HK.out.1.1.free 3
  have d3 := HK.out.1.1.cell 3 (.int .u64 0) rfl
  have n2 := HGE.out.2.2.1
  go_region
  have hl : ∀ e ∈ [(g1, 30, #[.int .i64 0, .int .u64 0, .int .i64 0, .int .u64 0, .int .i64 0, .int .i64 0, .int .i64 0, .string ⟨#[]⟩, .string ⟨#[]⟩, .int .u64 0, .int .i64 0, .int .u64 0, .slice none 0 0, .slice none 0 0]), (w.heap.size, 30, A)], e.1 ≠ g2 := by
    intro e he
    simp only [List.mem_cons, List.not_mem_nil, or_false] at he
    rcases he with rfl | rfl
    · exact HGE.out.2.1
    · exact HGE.out.2.2.1
  have HK2 : Hid (Keeps w ((x0.setCell ⟨g2, 2, none⟩ (.int .i64 r.t)).setCell ⟨g2, 3, none⟩ (.int .u64 (r.p : Int))).drew [(g2, 30, #[.int .i64 3, .int .u64 (r.l : Int), .int .i64 r.t, .int .u64 (r.p : Int), .int .i64 0, .int .i64 0, .int .i64 0, .string ⟨#[]⟩, .string ⟨#[]⟩, .int .u64 0, .int .i64 0, .int .u64 0, .slice none 0 0, .slice none 0 0]), (g1, 30, #[.int .i64 0, .int .u64 0, .int .i64 0, .int .u64 0, .int .i64 0, .int .i64 0, .int .i64 0, .string ⟨#[]⟩, .string ⟨#[]⟩, .int .u64 0, .int .i64 0, .int .u64 0, .slice none 0 0, .slice none 0 0]), (w.heap.size, 30, A)]) := ((HK.out.setTop HGE.out.1 hl 2 (.int .i64 r.t)).setTop HGE.out.1 hl 3 (.int .u64 (r.p : Int))).drew
  refine gen_w (fun x => Hid (Keeps w x [(g2, 30, #[.int .i64 3, .int .u64 (r.l : Int), .int .i64 r.t, .int .u64 (r.p : Int), .int .i64 0, .int .i64 0, .int .i64 0, .string ⟨#[]⟩, .string ⟨#[]⟩, .int .u64 0, .int .i64 0, .int .u64 0, .slice none 0 0, .slice none 0 0]), (g1, 30, #[.int .i64 0, .int .u64 0, .int .i64 0, .int .u64 0, .int .i64 0, .int .i64 0, .int .i64 0, .string ⟨#[]⟩, .string ⟨#[]⟩, .int .u64 0, .int .i64 0, .int .u64 0, .slice none 0 0, .slice none 0 0]), (w.heap.size, 30, A)])) HK2 ?_
  clear HK2 HK hl n2 c2 f2 d2 c3 f3 d3
  intro x1 HK
  have c0 := HK.out.1.2.2.1.cell 0 (.int .i64 3) (by rw [HA.out, ← hk]; rfl)
  have d0 := HK.out.1.1.cell 0 (.int .i64 3) rfl
  have d1 := HK.out.1.1.cell 1 (.int .u64 (r.l : Int)) rfl
  have d2 := HK.out.1.1.cell 2 (.int .i64 r.t) rfl
  have d3 := HK.out.1.1.cell 3 (.int .u64 (r.p : Int)) rfl
  have d4 := HK.out.1.1.cell 4 (.int .i64 0) rfl
  have d5 := HK.out.1.1.cell 5 (.int .i64 0) rfl
  have d6 := HK.out.1.1.cell 6 (.int .i64 0) rfl
  have d7 := HK.out.1.1.cell 7 (.string ⟨#[]⟩) rfl
  have d8 := HK.out.1.1.cell 8 (.string ⟨#[]⟩) rfl
  have d9 := HK.out.1.1.cell 9 (.int .u64 0) rfl
  have d10 := HK.out.1.1.cell 10 (.int .i64 0) rfl
  have d11 := HK.out.1.1.cell 11 (.int .u64 0) rfl
  have d12 := HK.out.1.1.cell 12 (.slice none 0 0) rfl
  have d13 := HK.out.1.1.cell 13 (.slice none 0 0) rfl
  have n1 := HGE.out.2.1
  have n2 := HGE.out.2.2.1
  have HZ := hide HK.out.1.2.1
  have HBB := hide HK.out.2
  go_wp2_with (refine wpList_store_at rfl 30 (.tmp 2) (.tmp 54) rfl g1 #[.int .i64 0, .int .u64 0, .int .i64 0, .int .u64 0, .int .i64 0, .int .i64 0, .int .i64 0, .string ⟨#[]⟩, .string ⟨#[]⟩, .int .u64 0, .int .i64 0, .int .u64 0, .slice none 0 0, .slice none 0 0] #[.int .i64 3, .int .u64 (r.l : Int), .int .i64 r.t, .int .u64 (r.p : Int), .int .i64 0, .int .i64 0, .int .i64 0, .string ⟨#[]⟩, .string ⟨#[]⟩, .int .u64 0, .int .i64 0, .int .u64 0, .slice none 0 0, .slice none 0 0] rfl rfl HZ.out infoRc rfl (by simp [Value.oneCell']) ?_)
  intro w9 hr9 hk9 _
  have HB := hide (hk9 _ _ HBB.out HGE.out.2.2.2)
  have HROW := hide hr9
  clear hr9 hk9 HZ HBB HK d0 d1 d2 d3 d4 d5 d6 d7 d8 d9 d10 d11 d12 d13 c0 
  go_wp2
  (try simp only [Exit.inBlock, Exit.then])
  refine bodyPost_ret (res_one rfl _ _ g1 #[.int .i64 3, .int .u64 (r.l : Int), .int .i64 r.t, .int .u64 (r.p : Int), .int .i64 0, .int .i64 0, .int .i64 0, .string ⟨#[]⟩, .string ⟨#[]⟩, .int .u64 0, .int .i64 0, .int .u64 0, .slice none 0 0, .slice none 0 0] _ rfl HROW.out Try.underlying30 rfl infoRc) rfl ?_
  refine ⟨?_, HB.out⟩
  apply congrArg Ending.returned
  apply congrArg Value.agg
  unfold rcA Rec.used uV
  simp [hk, Ch.zero]

set_option maxRecDepth 4000 in
set_option maxHeartbeats 1600000 in
theorem used_4 (r : Rec) (va vb : Value) (w : World) (hk : r.k = 4) (hin : RcIn w r va vb) :
    Calls Try.prog 43 #[.agg (rcA r va vb)] w fun e w' => e = .returned (.agg (rcA r.used (uV r va) (uV r vb))) ∧ Below w.heap.size w w' := by
  have HIN := hide hin
  obtain ⟨⟨e1, cap1, rfl, -⟩, ⟨e2, cap2, rfl, -⟩⟩ := hin
  have HK0 := hide (Keeps.two w 30 30 (rcA r (.slice e1 r.ts.length cap1) (.slice e2 r.ds.length cap2)) #[.int .i64 0, .int .u64 0, .int .i64 0, .int .u64 0, .int .i64 0, .int .i64 0, .int .i64 0, .string ⟨#[]⟩, .string ⟨#[]⟩, .int .u64 0, .int .i64 0, .int .u64 0, .slice none 0 0, .slice none 0 0])
  have c0 := HK0.out.1.2.1.cell 0 (.int .i64 r.k) rfl
  have c1 := HK0.out.1.2.1.cell 1 (.int .u64 (r.l : Int)) rfl
  rw [hk] at c0
  obtain ⟨A, hA⟩ : ∃ A, A = rcA r (.slice e1 r.ts.length cap1) (.slice e2 r.ds.length cap2) := ⟨_, rfl⟩
  rw [← hA] at HK0 c0 c1 ⊢
  have HA := hide hA
  clear hA
  have HK3 := hide (Keeps.three w 30 30 30 A #[.int .i64 0, .int .u64 0, .int .i64 0, .int .u64 0, .int .i64 0, .int .i64 0, .int .i64 0, .string ⟨#[]⟩, .string ⟨#[]⟩, .int .u64 0, .int .i64 0, .int .u64 0, .slice none 0 0, .slice none 0 0] #[.int .i64 4, .int .u64 (r.l : Int), .int .i64 0, .int .u64 0, .int .i64 0, .int .i64 0, .int .i64 0, .string ⟨#[]⟩, .string ⟨#[]⟩, .int .u64 0, .int .i64 0, .int .u64 0, .slice none 0 0, .slice none 0 0])
  have c03 := HK3.out.1.2.2.1.cell 0 (.int .i64 4) (by rw [HA.out, ← hk]; rfl)
  go_enter Try.func43, Try.ntmps43
  go_wp2_with fail
  refine gen_wp (fun x => Hid (Keeps w x [(w.heap.size + 1 + 1, 30, #[.int .i64 4, .int .u64 (r.l : Int), .int .i64 0, .int .u64 0, .int .i64 0, .int .i64 0, .int .i64 0, .string ⟨#[]⟩, .string ⟨#[]⟩, .int .u64 0, .int .i64 0, .int .u64 0, .slice none 0 0, .slice none 0 0]), (w.heap.size + 1, 30, #[.int .i64 0, .int .u64 0, .int .i64 0, .int .u64 0, .int .i64 0, .int .i64 0, .int .i64 0, .string ⟨#[]⟩, .string ⟨#[]⟩, .int .u64 0, .int .i64 0, .int .u64 0, .slice none 0 0, .slice none 0 0]), (w.heap.size, 30, A)])) HK3 ?_
  clear HK3 HK0 c0 c1 c03
  intro x0 HK
  have HGE : Hid (w.heap.size ≤ w.heap.size + 1 + 1 ∧ w.heap.size + 1 ≠ w.heap.size + 1 + 1 ∧ w.heap.size ≠ w.heap.size + 1 + 1 ∧ w.heap.size ≤ w.heap.size + 1) := ⟨by omega, by omega, by omega, by omega⟩
  revert HK HGE
  generalize w.heap.size + 1 + 1 = g2
  generalize w.heap.size + 1 = g1
  intro HK HGE
  have c2 := HK.out.1.2.2.1.cell 2 (.int .i64 r.t) (by rw [HA.out]; rfl)
  have c3 := HK.out.1.2.2.1.cell 3 (.int .u64 (r.p : Int)) (by rw [HA.out]; rfl)
  have f2 := HK.out.1.1.free 2
  have d2 := HK.out.1.1.cell 2 (.int .i64 0) rfl
  have f3 := HK.out.1.1.free 3
  have d3 := HK.out.1.1.cell 3 (.int .u64 0) rfl
  have n2 := HGE.out.2.2.1
  go_region
  have hl : ∀ e ∈ [(g1, 30, #[.int .i64 0, .int .u64 0, .int .i64 0, .int .u64 0, .int .i64 0, .int .i64 0, .int .i64 0, .string ⟨#[]⟩, .string ⟨#[]⟩, .int .u64 0, .int .i64 0, .int .u64 0, .slice none 0 0, .slice none 0 0]), (w.heap.size, 30, A)], e.1 ≠ g2 := by
    intro e he
    simp only [List.mem_cons, List.not_mem_nil, or_false] at he
    rcases he with rfl | rfl
    · exact HGE.out.2.1
    · exact HGE.out.2.2.1
  have HK2 : Hid (Keeps w ((x0.setCell ⟨g2, 2, none⟩ (.int .i64 r.t)).setCell ⟨g2, 3, none⟩ (.int .u64 (r.p : Int))).drew [(g2, 30, #[.int .i64 4, .int .u64 (r.l : Int), .int .i64 r.t, .int .u64 (r.p : Int), .int .i64 0, .int .i64 0, .int .i64 0, .string ⟨#[]⟩, .string ⟨#[]⟩, .int .u64 0, .int .i64 0, .int .u64 0, .slice none 0 0, .slice none 0 0]), (g1, 30, #[.int .i64 0, .int .u64 0, .int .i64 0, .int .u64 0, .int .i64 0, .int .i64 0, .int .i64 0, .string ⟨#[]⟩, .string ⟨#[]⟩, .int .u64 0, .int .i64 0, .int .u64 0, .slice none 0 0, .slice none 0 0]), (w.heap.size, 30, A)]) := ((HK.out.setTop HGE.out.1 hl 2 (.int .i64 r.t)).setTop HGE.out.1 hl 3 (.int .u64 (r.p : Int))).drew
  refine gen_w (fun x => Hid (Keeps w x [(g2, 30, #[.int .i64 4, .int .u64 (r.l : Int), .int .i64 r.t, .int .u64 (r.p : Int), .int .i64 0, .int .i64 0, .int .i64 0, .string ⟨#[]⟩, .string ⟨#[]⟩, .int .u64 0, .int .i64 0, .int .u64 0, .slice none 0 0, .slice none 0 0]), (g1, 30, #[.int .i64 0, .int .u64 0, .int .i64 0, .int .u64 0, .int .i64 0, .int .i64 0, .int .i64 0, .string ⟨#[]⟩, .string ⟨#[]⟩, .int .u64 0, .int .i64 0, .int .u64 0, .slice none 0 0, .slice none 0 0]), (w.heap.size, 30, A)])) HK2 ?_
  clear HK2 HK hl n2 c2 f2 d2 c3 f3 d3
  intro x1 HK
  have c0 := HK.out.1.2.2.1.cell 0 (.int .i64 4) (by rw [HA.out, ← hk]; rfl)
  have d0 := HK.out.1.1.cell 0 (.int .i64 4) rfl
  have d1 := HK.out.1.1.cell 1 (.int .u64 (r.l : Int)) rfl
  have d2 := HK.out.1.1.cell 2 (.int .i64 r.t) rfl
  have d3 := HK.out.1.1.cell 3 (.int .u64 (r.p : Int)) rfl
  have d4 := HK.out.1.1.cell 4 (.int .i64 0) rfl
  have d5 := HK.out.1.1.cell 5 (.int .i64 0) rfl
  have d6 := HK.out.1.1.cell 6 (.int .i64 0) rfl
  have d7 := HK.out.1.1.cell 7 (.string ⟨#[]⟩) rfl
  have d8 := HK.out.1.1.cell 8 (.string ⟨#[]⟩) rfl
  have d9 := HK.out.1.1.cell 9 (.int .u64 0) rfl
  have d10 := HK.out.1.1.cell 10 (.int .i64 0) rfl
  have d11 := HK.out.1.1.cell 11 (.int .u64 0) rfl
  have d12 := HK.out.1.1.cell 12 (.slice none 0 0) rfl
  have d13 := HK.out.1.1.cell 13 (.slice none 0 0) rfl
  have n1 := HGE.out.2.1
  have n2 := HGE.out.2.2.1
  have HZ := hide HK.out.1.2.1
  have HBB := hide HK.out.2
  go_wp2_with (refine wpList_store_at rfl 30 (.tmp 2) (.tmp 54) rfl g1 #[.int .i64 0, .int .u64 0, .int .i64 0, .int .u64 0, .int .i64 0, .int .i64 0, .int .i64 0, .string ⟨#[]⟩, .string ⟨#[]⟩, .int .u64 0, .int .i64 0, .int .u64 0, .slice none 0 0, .slice none 0 0] #[.int .i64 4, .int .u64 (r.l : Int), .int .i64 r.t, .int .u64 (r.p : Int), .int .i64 0, .int .i64 0, .int .i64 0, .string ⟨#[]⟩, .string ⟨#[]⟩, .int .u64 0, .int .i64 0, .int .u64 0, .slice none 0 0, .slice none 0 0] rfl rfl HZ.out infoRc rfl (by simp [Value.oneCell']) ?_)
  intro w9 hr9 hk9 _
  have HB := hide (hk9 _ _ HBB.out HGE.out.2.2.2)
  have HROW := hide hr9
  clear hr9 hk9 HZ HBB HK d0 d1 d2 d3 d4 d5 d6 d7 d8 d9 d10 d11 d12 d13 c0 
  go_wp2
  (try simp only [Exit.inBlock, Exit.then])
  refine bodyPost_ret (res_one rfl _ _ g1 #[.int .i64 4, .int .u64 (r.l : Int), .int .i64 r.t, .int .u64 (r.p : Int), .int .i64 0, .int .i64 0, .int .i64 0, .string ⟨#[]⟩, .string ⟨#[]⟩, .int .u64 0, .int .i64 0, .int .u64 0, .slice none 0 0, .slice none 0 0] _ rfl HROW.out Try.underlying30 rfl infoRc) rfl ?_
  refine ⟨?_, HB.out⟩
  apply congrArg Ending.returned
  apply congrArg Value.agg
  unfold rcA Rec.used uV
  simp [hk, Ch.zero]

set_option maxRecDepth 4000 in
set_option maxHeartbeats 1600000 in
theorem used_5 (r : Rec) (va vb : Value) (w : World) (hk : r.k = 5) (hin : RcIn w r va vb) :
    Calls Try.prog 43 #[.agg (rcA r va vb)] w fun e w' => e = .returned (.agg (rcA r.used (uV r va) (uV r vb))) ∧ Below w.heap.size w w' := by
  have HIN := hide hin
  obtain ⟨⟨e1, cap1, rfl, -⟩, ⟨e2, cap2, rfl, -⟩⟩ := hin
  have HK0 := hide (Keeps.two w 30 30 (rcA r (.slice e1 r.ts.length cap1) (.slice e2 r.ds.length cap2)) #[.int .i64 0, .int .u64 0, .int .i64 0, .int .u64 0, .int .i64 0, .int .i64 0, .int .i64 0, .string ⟨#[]⟩, .string ⟨#[]⟩, .int .u64 0, .int .i64 0, .int .u64 0, .slice none 0 0, .slice none 0 0])
  have c0 := HK0.out.1.2.1.cell 0 (.int .i64 r.k) rfl
  have c1 := HK0.out.1.2.1.cell 1 (.int .u64 (r.l : Int)) rfl
  rw [hk] at c0
  obtain ⟨A, hA⟩ : ∃ A, A = rcA r (.slice e1 r.ts.length cap1) (.slice e2 r.ds.length cap2) := ⟨_, rfl⟩
  rw [← hA] at HK0 c0 c1 ⊢
  have HA := hide hA
  clear hA
  have HK3 := hide (Keeps.three w 30 30 30 A #[.int .i64 0, .int .u64 0, .int .i64 0, .int .u64 0, .int .i64 0, .int .i64 0, .int .i64 0, .string ⟨#[]⟩, .string ⟨#[]⟩, .int .u64 0, .int .i64 0, .int .u64 0, .slice none 0 0, .slice none 0 0] #[.int .i64 5, .int .u64 (r.l : Int), .int .i64 0, .int .u64 0, .int .i64 0, .int .i64 0, .int .i64 0, .string ⟨#[]⟩, .string ⟨#[]⟩, .int .u64 0, .int .i64 0, .int .u64 0, .slice none 0 0, .slice none 0 0])
  have c03 := HK3.out.1.2.2.1.cell 0 (.int .i64 5) (by rw [HA.out, ← hk]; rfl)
  go_enter Try.func43, Try.ntmps43
  go_wp2_with fail
  refine gen_wp (fun x => Hid (Keeps w x [(w.heap.size + 1 + 1, 30, #[.int .i64 5, .int .u64 (r.l : Int), .int .i64 0, .int .u64 0, .int .i64 0, .int .i64 0, .int .i64 0, .string ⟨#[]⟩, .string ⟨#[]⟩, .int .u64 0, .int .i64 0, .int .u64 0, .slice none 0 0, .slice none 0 0]), (w.heap.size + 1, 30, #[.int .i64 0, .int .u64 0, .int .i64 0, .int .u64 0, .int .i64 0, .int .i64 0, .int .i64 0, .string ⟨#[]⟩, .string ⟨#[]⟩, .int .u64 0, .int .i64 0, .int .u64 0, .slice none 0 0, .slice none 0 0]), (w.heap.size, 30, A)])) HK3 ?_
  clear HK3 HK0 c0 c1 c03
  intro x0 HK
  have HGE : Hid (w.heap.size ≤ w.heap.size + 1 + 1 ∧ w.heap.size + 1 ≠ w.heap.size + 1 + 1 ∧ w.heap.size ≠ w.heap.size + 1 + 1 ∧ w.heap.size ≤ w.heap.size + 1) := ⟨by omega, by omega, by omega, by omega⟩
  revert HK HGE
  generalize w.heap.size + 1 + 1 = g2
  generalize w.heap.size + 1 = g1
  intro HK HGE
  have c2 := HK.out.1.2.2.1.cell 2 (.int .i64 r.t) (by rw [HA.out]; rfl)
  have c3 := HK.out.1.2.2.1.cell 3 (.int .u64 (r.p : Int)) (by rw [HA.out]; rfl)
  have f2 := HK.out.1.1.free 2
  have d2 := HK.out.1.1.cell 2 (.int .i64 0) rfl
  have f3 := HK.out.1.1.free 3
  have d3 := HK.out.1.1.cell 3 (.int .u64 0) rfl
  have n2 := HGE.out.2.2.1
  go_region
  have hl : ∀ e ∈ [(g1, 30, #[.int .i64 0, .int .u64 0, .int .i64 0, .int .u64 0, .int .i64 0, .int .i64 0, .int .i64 0, .string ⟨#[]⟩, .string ⟨#[]⟩, .int .u64 0, .int .i64 0, .int .u64 0, .slice none 0 0, .slice none 0 0]), (w.heap.size, 30, A)], e.1 ≠ g2 := by
    intro e he
    simp only [List.mem_cons, List.not_mem_nil, or_false] at he
    rcases he with rfl | rfl
    · exact HGE.out.2.1
    · exact HGE.out.2.2.1
  have HK2 : Hid (Keeps w ((x0.setCell ⟨g2, 2, none⟩ (.int .i64 r.t)).setCell ⟨g2, 3, none⟩ (.int .u64 (r.p : Int))).drew [(g2, 30, #[.int .i64 5, .int .u64 (r.l : Int), .int .i64 r.t, .int .u64 (r.p : Int), .int .i64 0, .int .i64 0, .int .i64 0, .string ⟨#[]⟩, .string ⟨#[]⟩, .int .u64 0, .int .i64 0, .int .u64 0, .slice none 0 0, .slice none 0 0]), (g1, 30, #[.int .i64 0, .int .u64 0, .int .i64 0, .int .u64 0, .int .i64 0, .int .i64 0, .int .i64 0, .string ⟨#[]⟩, .string ⟨#[]⟩, .int .u64 0, .int .i64 0, .int .u64 0, .slice none 0 0, .slice none 0 0]), (w.heap.size, 30, A)]) := ((HK.out.setTop HGE.out.1 hl 2 (.int .i64 r.t)).setTop HGE.out.1 hl 3 (.int .u64 (r.p : Int))).drew
  refine gen_w (fun x => Hid (Keeps w x [(g2, 30, #[.int .i64 5, .int .u64 (r.l : Int), .int .i64 r.t, .int .u64 (r.p : Int), .int .i64 0, .int .i64 0, .int .i64 0, .string ⟨#[]⟩, .string ⟨#[]⟩, .int .u64 0, .int .i64 0, .int .u64 0, .slice none 0 0, .slice none 0 0]), (g1, 30, #[.int .i64 0, .int .u64 0, .int .i64 0, .int .u64 0, .int .i64 0, .int .i64 0, .int .i64 0, .string ⟨#[]⟩, .string ⟨#[]⟩, .int .u64 0, .int .i64 0, .int .u64 0, .slice none 0 0, .slice none 0 0]), (w.heap.size, 30, A)])) HK2 ?_
  clear HK2 HK hl n2 c2 f2 d2 c3 f3 d3
  intro x1 HK
  have c0 := HK.out.1.2.2.1.cell 0 (.int .i64 5) (by rw [HA.out, ← hk]; rfl)
  have d0 := HK.out.1.1.cell 0 (.int .i64 5) rfl
  have d1 := HK.out.1.1.cell 1 (.int .u64 (r.l : Int)) rfl
  have d2 := HK.out.1.1.cell 2 (.int .i64 r.t) rfl
  have d3 := HK.out.1.1.cell 3 (.int .u64 (r.p : Int)) rfl
  have d4 := HK.out.1.1.cell 4 (.int .i64 0) rfl
  have d5 := HK.out.1.1.cell 5 (.int .i64 0) rfl
  have d6 := HK.out.1.1.cell 6 (.int .i64 0) rfl
  have d7 := HK.out.1.1.cell 7 (.string ⟨#[]⟩) rfl
  have d8 := HK.out.1.1.cell 8 (.string ⟨#[]⟩) rfl
  have d9 := HK.out.1.1.cell 9 (.int .u64 0) rfl
  have d10 := HK.out.1.1.cell 10 (.int .i64 0) rfl
  have d11 := HK.out.1.1.cell 11 (.int .u64 0) rfl
  have d12 := HK.out.1.1.cell 12 (.slice none 0 0) rfl
  have d13 := HK.out.1.1.cell 13 (.slice none 0 0) rfl
  have n1 := HGE.out.2.1
  have n2 := HGE.out.2.2.1
  have HZ := hide HK.out.1.2.1
  have HBB := hide HK.out.2
  go_wp2_with (refine wpList_store_at rfl 30 (.tmp 2) (.tmp 54) rfl g1 #[.int .i64 0, .int .u64 0, .int .i64 0, .int .u64 0, .int .i64 0, .int .i64 0, .int .i64 0, .string ⟨#[]⟩, .string ⟨#[]⟩, .int .u64 0, .int .i64 0, .int .u64 0, .slice none 0 0, .slice none 0 0] #[.int .i64 5, .int .u64 (r.l : Int), .int .i64 r.t, .int .u64 (r.p : Int), .int .i64 0, .int .i64 0, .int .i64 0, .string ⟨#[]⟩, .string ⟨#[]⟩, .int .u64 0, .int .i64 0, .int .u64 0, .slice none 0 0, .slice none 0 0] rfl rfl HZ.out infoRc rfl (by simp [Value.oneCell']) ?_)
  intro w9 hr9 hk9 _
  have HB := hide (hk9 _ _ HBB.out HGE.out.2.2.2)
  have HROW := hide hr9
  clear hr9 hk9 HZ HBB HK d0 d1 d2 d3 d4 d5 d6 d7 d8 d9 d10 d11 d12 d13 c0 
  go_wp2
  (try simp only [Exit.inBlock, Exit.then])
  refine bodyPost_ret (res_one rfl _ _ g1 #[.int .i64 5, .int .u64 (r.l : Int), .int .i64 r.t, .int .u64 (r.p : Int), .int .i64 0, .int .i64 0, .int .i64 0, .string ⟨#[]⟩, .string ⟨#[]⟩, .int .u64 0, .int .i64 0, .int .u64 0, .slice none 0 0, .slice none 0 0] _ rfl HROW.out Try.underlying30 rfl infoRc) rfl ?_
  refine ⟨?_, HB.out⟩
  apply congrArg Ending.returned
  apply congrArg Value.agg
  unfold rcA Rec.used uV
  simp [hk, Ch.zero]

end Go.Proofs.Ytbnlkfcaahgpmaa

/-
  The contract of record.used, kinds 6, 8.
-/
namespace Go.Proofs.Ytbnlkfcaahgpmaa
open Go.RowKit
set_option linter.unusedVariables false

set_option maxRecDepth 4000 in
set_option maxHeartbeats 1600000 in
theorem used_6 (r : Rec) (va vb : Value) (w : World) (hk : r.k = 6) (hin : RcIn w r va vb) :
    Calls Try.prog 43 #[.agg (rcA r va vb)] w fun e w' => e = .returned (.agg (rcA r.used (uV r va) (uV r vb))) ∧ Below w.heap.size w w' := by
  have HIN := hide hin
  obtain ⟨⟨e1, cap1, rfl, -⟩, ⟨e2, cap2, rfl, -⟩⟩ := hin
  have HK0 := hide (Keeps.two w 30 30 (rcA r (.slice e1 r.ts.length cap1) (.slice e2 r.ds.length cap2)) #[.int .i64 0, .int .u64 0, .int .i64 0, .int .u64 0, .int .i64 0, .int .i64 0, .int .i64 0, .string ⟨#[]⟩, .string ⟨#[]⟩, .int .u64 0, .int .i64 0, .int .u64 0, .slice none 0 0, .slice none 0 0])
  have c0 := HK0.out.1.2.1.cell 0 (.int .i64 r.k) rfl
  have c1 := HK0.out.1.2.1.cell 1 (.int .u64 (r.l : Int)) rfl
  rw [hk] at c0
  obtain ⟨A, hA⟩ : ∃ A, A = rcA r (.slice e1 r.ts.length cap1) (.slice e2 r.ds.length cap2) := ⟨_, rfl⟩
  rw [← hA] at HK0 c0 c1 ⊢
  have HA := hide hA
  clear hA
  have HK3 := hide (Keeps.three w 30 30 30 A #[.int .i64 0, .int .u64 0, .int .i64 0, .int .u64 0, .int .i64 0, .int .i64 0, .int .i64 0, .string ⟨#[]⟩, .string ⟨#[]⟩, .int .u64 0, .int .i64 0, .int .u64 0, .slice none 0 0, .slice none 0 0] #[.int .i64 6, .int .u64 (r.l : Int), .int .i64 0, .int .u64 0, .int .i64 0, .int .i64 0, .int .i64 0, .string ⟨#[]⟩, .string ⟨#[]⟩, .int .u64 0, .int .i64 0, .int .u64 0, .slice none 0 0, .slice none 0 0])
  have c03 := HK3.out.1.2.2.1.cell 0 (.int .i64 6) (by rw [HA.out, ← hk]; rfl)
  go_enter Try.func43, Try.ntmps43
  go_wp2_with fail
  refine gen_wp (fun x => Hid (Keeps w x [(w.heap.size + 1 + 1, 30, #[.int .i64 6, .int .u64 (r.l : Int), .int .i64 0, .int .u64 0, .int .i64 0, .int .i64 0, .int .i64 0, .string ⟨#[]⟩, .string ⟨#[]⟩, .int .u64 0, .int .i64 0, .int .u64 0, .slice none 0 0, .slice none 0 0]), (w.heap.size + 1, 30, #[.int .i64 0, .int .u64 0, .int .i64 0, .int .u64 0, .int .i64 0, .int .i64 0, .int .i64 0, .string ⟨#[]⟩, .string ⟨#[]⟩, .int .u64 0, .int .i64 0, .int .u64 0, .slice none 0 0, .slice none 0 0]), (w.heap.size, 30, A)])) HK3 ?_
  clear HK3 HK0 c0 c1 c03
  intro x0 HK
  have HGE : Hid (w.heap.size ≤ w.heap.size + 1 + 1 ∧ w.heap.size + 1 ≠ w.heap.size + 1 + 1 ∧ w.heap.size ≠ w.heap.size + 1 + 1 ∧ w.heap.size ≤ w.heap.size + 1) := ⟨by omega, by omega, by omega, by omega⟩
  revert HK HGE
  generalize w.heap.size + 1 + 1 = g2
  generalize w.heap.size + 1 = g1
  intro HK HGE
  have c2 := HK.out.1.2.2.1.cell 2 (.int .i64 r.t) (by rw [HA.out]; rfl)
  have c3 := HK.out.1.2.2.1.cell 3 (.int .u64 (r.p : Int)) (by rw [HA.out]; rfl)
  have f2 := HK.out.1.1.free 2
  have d2 := HK.out.1.1.cell 2 (.int .i64 0) rfl
  have f3 := HK.out.1.1.free 3
  have d3 := HK.out.1.1.cell 3 (.int .u64 0) rfl
  have n2 := HGE.out.2.2.1
  go_region
  have hl : ∀ e ∈ [(g1, 30, #[.int .i64 0, .int .u64 0, .int .i64 0, .int .u64 0, .int .i64 0, .int .i64 0, .int .i64 0, .string ⟨#[]⟩, .string ⟨#[]⟩, .int .u64 0, .int .i64 0, .int .u64 0, .slice none 0 0, .slice none 0 0]), (w.heap.size, 30, A)], e.1 ≠ g2 := by
    intro e he
    simp only [List.mem_cons, List.not_mem_nil, or_false] at he
    rcases he with rfl | rfl
    · exact HGE.out.2.1
    · exact HGE.out.2.2.1
  have HK2 : Hid (Keeps w ((x0.setCell ⟨g2, 2, none⟩ (.int .i64 r.t)).setCell ⟨g2, 3, none⟩ (.int .u64 (r.p : Int))).drew [(g2, 30, #[.int .i64 6, .int .u64 (r.l : Int), .int .i64 r.t, .int .u64 (r.p : Int), .int .i64 0, .int .i64 0, .int .i64 0, .string ⟨#[]⟩, .string ⟨#[]⟩, .int .u64 0, .int .i64 0, .int .u64 0, .slice none 0 0, .slice none 0 0]), (g1, 30, #[.int .i64 0, .int .u64 0, .int .i64 0, .int .u64 0, .int .i64 0, .int .i64 0, .int .i64 0, .string ⟨#[]⟩, .string ⟨#[]⟩, .int .u64 0, .int .i64 0, .int .u64 0, .slice none 0 0, .slice none 0 0]), (w.heap.size, 30, A)]) := ((HK.out.setTop HGE.out.1 hl 2 (.int .i64 r.t)).setTop HGE.out.1 hl 3 (.int .u64 (r.p : Int))).drew
  refine gen_w (fun x => Hid (Keeps w x [(g2, 30, #[.int .i64 6, .int .u64 (r.l : Int), .int .i64 r.t, .int .u64 (r.p : Int), .int .i64 0, .int .i64 0, .int .i64 0, .string ⟨#[]⟩, .string ⟨#[]⟩, .int .u64 0, .int .i64 0, .int .u64 0, .slice none 0 0, .slice none 0 0]), (g1, 30, #[.int .i64 0, .int .u64 0, .int .i64 0, .int .u64 0, .int .i64 0, .int .i64 0, .int .i64 0, .string ⟨#[]⟩, .string ⟨#[]⟩, .int .u64 0, .int .i64 0, .int .u64 0, .slice none 0 0, .slice none 0 0]), (w.heap.size, 30, A)])) HK2 ?_
  clear HK2 HK hl n2 c2 f2 d2 c3 f3 d3
  intro x1 HK
  have c0 := HK.out.1.2.2.1.cell 0 (.int .i64 6) (by rw [HA.out, ← hk]; rfl)
  have c10 := HK.out.1.2.2.1.cell 10 (.int .i64 r.s) (by rw [HA.out]; rfl)
  have f10 := HK.out.1.1.free 10
  have d0 := HK.out.1.1.cell 0 (.int .i64 6) rfl
  have d1 := HK.out.1.1.cell 1 (.int .u64 (r.l : Int)) rfl
  have d2 := HK.out.1.1.cell 2 (.int .i64 r.t) rfl
  have d3 := HK.out.1.1.cell 3 (.int .u64 (r.p : Int)) rfl
  have d4 := HK.out.1.1.cell 4 (.int .i64 0) rfl
  have d5 := HK.out.1.1.cell 5 (.int .i64 0) rfl
  have d6 := HK.out.1.1.cell 6 (.int .i64 0) rfl
  have d7 := HK.out.1.1.cell 7 (.string ⟨#[]⟩) rfl
  have d8 := HK.out.1.1.cell 8 (.string ⟨#[]⟩) rfl
  have d9 := HK.out.1.1.cell 9 (.int .u64 0) rfl
  have d10 := HK.out.1.1.cell 10 (.int .i64 0) rfl
  have d11 := HK.out.1.1.cell 11 (.int .u64 0) rfl
  have d12 := HK.out.1.1.cell 12 (.slice none 0 0) rfl
  have d13 := HK.out.1.1.cell 13 (.slice none 0 0) rfl
  have n1 := HGE.out.2.1
  have n2 := HGE.out.2.2.1
  have HZ := hide (HK.out.1.2.1.other ⟨g2, 10, none⟩ (.int .i64 r.s) HGE.out.2.1)
  have HBB := hide (HK.out.2.set1 HGE.out.1 10 (.int .i64 r.s))
  go_wp2_with (refine wpList_store_at rfl 30 (.tmp 2) (.tmp 54) rfl g1 #[.int .i64 0, .int .u64 0, .int .i64 0, .int .u64 0, .int .i64 0, .int .i64 0, .int .i64 0, .string ⟨#[]⟩, .string ⟨#[]⟩, .int .u64 0, .int .i64 0, .int .u64 0, .slice none 0 0, .slice none 0 0] #[.int .i64 6, .int .u64 (r.l : Int), .int .i64 r.t, .int .u64 (r.p : Int), .int .i64 0, .int .i64 0, .int .i64 0, .string ⟨#[]⟩, .string ⟨#[]⟩, .int .u64 0, .int .i64 r.s, .int .u64 0, .slice none 0 0, .slice none 0 0] rfl rfl HZ.out infoRc rfl (by simp [Value.oneCell']) ?_)
  intro w9 hr9 hk9 _
  have HB := hide (hk9 _ _ HBB.out HGE.out.2.2.2)
  have HROW := hide hr9
  clear hr9 hk9 HZ HBB HK d0 d1 d2 d3 d4 d5 d6 d7 d8 d9 d10 d11 d12 d13 c0 c10 f10
  go_wp2
  (try simp only [Exit.inBlock, Exit.then])
  refine bodyPost_ret (res_one rfl _ _ g1 #[.int .i64 6, .int .u64 (r.l : Int), .int .i64 r.t, .int .u64 (r.p : Int), .int .i64 0, .int .i64 0, .int .i64 0, .string ⟨#[]⟩, .string ⟨#[]⟩, .int .u64 0, .int .i64 r.s, .int .u64 0, .slice none 0 0, .slice none 0 0] _ rfl HROW.out Try.underlying30 rfl infoRc) rfl ?_
  refine ⟨?_, HB.out⟩
  apply congrArg Ending.returned
  apply congrArg Value.agg
  unfold rcA Rec.used uV
  simp [hk, Ch.zero]

set_option maxRecDepth 4000 in
set_option maxHeartbeats 1600000 in
theorem used_8 (r : Rec) (va vb : Value) (w : World) (hk : r.k = 8) (hin : RcIn w r va vb) :
    Calls Try.prog 43 #[.agg (rcA r va vb)] w fun e w' => e = .returned (.agg (rcA r.used (uV r va) (uV r vb))) ∧ Below w.heap.size w w' := by
  have HIN := hide hin
  obtain ⟨⟨e1, cap1, rfl, -⟩, ⟨e2, cap2, rfl, -⟩⟩ := hin
  have HK0 := hide (Keeps.two w 30 30 (rcA r (.slice e1 r.ts.length cap1) (.slice e2 r.ds.length cap2)) #[.int .i64 0, .int .u64 0, .int .i64 0, .int .u64 0, .int .i64 0, .int .i64 0, .int .i64 0, .string ⟨#[]⟩, .string ⟨#[]⟩, .int .u64 0, .int .i64 0, .int .u64 0, .slice none 0 0, .slice none 0 0])
  have c0 := HK0.out.1.2.1.cell 0 (.int .i64 r.k) rfl
  have c1 := HK0.out.1.2.1.cell 1 (.int .u64 (r.l : Int)) rfl
  rw [hk] at c0
  obtain ⟨A, hA⟩ : ∃ A, A = rcA r (.slice e1 r.ts.length cap1) (.slice e2 r.ds.length cap2) := ⟨_, rfl⟩
  rw [← hA] at HK0 c0 c1 ⊢
  have HA := hide hA
  clear hA
  have HK3 := hide (Keeps.three w 30 30 30 A #[.int .i64 0, .int .u64 0, .int .i64 0, .int .u64 0, .int .i64 0, .int .i64 0, .int .i64 0, .string ⟨#[]⟩, .string ⟨#[]⟩, .int .u64 0, .int .i64 0, .int .u64 0, .slice none 0 0, .slice none 0 0] #[.int .i64 8, .int .u64 (r.l : Int), .int .i64 0, .int .u64 0, .int .i64 0, .int .i64 0, .int .i64 0, .string ⟨#[]⟩, .string ⟨#[]⟩, .int .u64 0, .int .i64 0, .int .u64 0, .slice none 0 0, .slice none 0 0])
  have c03 := HK3.out.1.2.2.1.cell 0 (.int .i64 8) (by rw [HA.out, ← hk]; rfl)
  go_enter Try.func43, Try.ntmps43
  go_wp2_with fail
  refine gen_wp (fun x => Hid (Keeps w x [(w.heap.size + 1 + 1, 30, #[.int .i64 8, .int .u64 (r.l : Int), .int .i64 0, .int .u64 0, .int .i64 0, .int .i64 0, .int .i64 0, .string ⟨#[]⟩, .string ⟨#[]⟩, .int .u64 0, .int .i64 0, .int .u64 0, .slice none 0 0, .slice none 0 0]), (w.heap.size + 1, 30, #[.int .i64 0, .int .u64 0, .int .i64 0, .int .u64 0, .int .i64 0, .int .i64 0, .int .i64 0, .string ⟨#[]⟩, .string ⟨#[]⟩, .int .u64 0, .int .i64 0, .int .u64 0, .slice none 0 0, .slice none 0 0]), (w.heap.size, 30, A)])) HK3 ?_
  clear HK3 HK0 c0 c1 c03
  intro x0 HK
  have HGE : Hid (w.heap.size ≤ w.heap.size + 1 + 1 ∧ w.heap.size + 1 ≠ w.heap.size + 1 + 1 ∧ w.heap.size ≠ w.heap.size + 1 + 1 ∧ w.heap.size ≤ w.heap.size + 1) := ⟨by omega, by omega, by omega, by omega⟩
  revert HK HGE
  generalize w.heap.size + 1 + 1 = g2
  generalize w.heap.size + 1 = g1
  intro HK HGE
  have c11 := HK.out.1.2.2.1.cell 11 (.int .u64 (r.b : Int)) (by rw [HA.out]; rfl)
  have c12 := HK.out.1.2.2.1.cell 12 (.slice e1 r.ts.length cap1) (by rw [HA.out]; rfl)
  have c13 := HK.out.1.2.2.1.cell 13 (.slice e2 r.ds.length cap2) (by rw [HA.out]; rfl)
  have f11 := HK.out.1.1.free 11
  have d11 := HK.out.1.1.cell 11 (.int .u64 0) rfl
  have f12 := HK.out.1.1.free 12
  have d12 := HK.out.1.1.cell 12 (.slice none 0 0) rfl
  have f13 := HK.out.1.1.free 13
  have d13 := HK.out.1.1.cell 13 (.slice none 0 0) rfl
  have n2 := HGE.out.2.2.1
  go_region
  have hl : ∀ e ∈ [(g1, 30, #[.int .i64 0, .int .u64 0, .int .i64 0, .int .u64 0, .int .i64 0, .int .i64 0, .int .i64 0, .string ⟨#[]⟩, .string ⟨#[]⟩, .int .u64 0, .int .i64 0, .int .u64 0, .slice none 0 0, .slice none 0 0]), (w.heap.size, 30, A)], e.1 ≠ g2 := by
    intro e he
    simp only [List.mem_cons, List.not_mem_nil, or_false] at he
    rcases he with rfl | rfl
    · exact HGE.out.2.1
    · exact HGE.out.2.2.1
  have HK2 : Hid (Keeps w (((x0.setCell ⟨g2, 11, none⟩ (.int .u64 (r.b : Int))).setCell ⟨g2, 12, none⟩ (.slice e1 r.ts.length cap1)).setCell ⟨g2, 13, none⟩ (.slice e2 r.ds.length cap2)).drew [(g2, 30, #[.int .i64 8, .int .u64 (r.l : Int), .int .i64 0, .int .u64 0, .int .i64 0, .int .i64 0, .int .i64 0, .string ⟨#[]⟩, .string ⟨#[]⟩, .int .u64 0, .int .i64 0, .int .u64 (r.b : Int), .slice e1 r.ts.length cap1, .slice e2 r.ds.length cap2]), (g1, 30, #[.int .i64 0, .int .u64 0, .int .i64 0, .int .u64 0, .int .i64 0, .int .i64 0, .int .i64 0, .string ⟨#[]⟩, .string ⟨#[]⟩, .int .u64 0, .int .i64 0, .int .u64 0, .slice none 0 0, .slice none 0 0]), (w.heap.size, 30, A)]) := (((HK.out.setTop HGE.out.1 hl 11 (.int .u64 (r.b : Int))).setTop HGE.out.1 hl 12 (.slice e1 r.ts.length cap1)).setTop HGE.out.1 hl 13 (.slice e2 r.ds.length cap2)).drew
  refine gen_w (fun x => Hid (Keeps w x [(g2, 30, #[.int .i64 8, .int .u64 (r.l : Int), .int .i64 0, .int .u64 0, .int .i64 0, .int .i64 0, .int .i64 0, .string ⟨#[]⟩, .string ⟨#[]⟩, .int .u64 0, .int .i64 0, .int .u64 (r.b : Int), .slice e1 r.ts.length cap1, .slice e2 r.ds.length cap2]), (g1, 30, #[.int .i64 0, .int .u64 0, .int .i64 0, .int .u64 0, .int .i64 0, .int .i64 0, .int .i64 0, .string ⟨#[]⟩, .string ⟨#[]⟩, .int .u64 0, .int .i64 0, .int .u64 0, .slice none 0 0, .slice none 0 0]), (w.heap.size, 30, A)])) HK2 ?_
  clear HK2 HK hl n2 c11 f11 d11 c12 f12 d12 c13 f13 d13
  intro x1 HK
  have c0 := HK.out.1.2.2.1.cell 0 (.int .i64 8) (by rw [HA.out, ← hk]; rfl)
  have d0 := HK.out.1.1.cell 0 (.int .i64 8) rfl
  have d1 := HK.out.1.1.cell 1 (.int .u64 (r.l : Int)) rfl
  have d2 := HK.out.1.1.cell 2 (.int .i64 0) rfl
  have d3 := HK.out.1.1.cell 3 (.int .u64 0) rfl
  have d4 := HK.out.1.1.cell 4 (.int .i64 0) rfl
  have d5 := HK.out.1.1.cell 5 (.int .i64 0) rfl
  have d6 := HK.out.1.1.cell 6 (.int .i64 0) rfl
  have d7 := HK.out.1.1.cell 7 (.string ⟨#[]⟩) rfl
  have d8 := HK.out.1.1.cell 8 (.string ⟨#[]⟩) rfl
  have d9 := HK.out.1.1.cell 9 (.int .u64 0) rfl
  have d10 := HK.out.1.1.cell 10 (.int .i64 0) rfl
  have d11 := HK.out.1.1.cell 11 (.int .u64 (r.b : Int)) rfl
  have d12 := HK.out.1.1.cell 12 (.slice e1 r.ts.length cap1) rfl
  have d13 := HK.out.1.1.cell 13 (.slice e2 r.ds.length cap2) rfl
  have n1 := HGE.out.2.1
  have n2 := HGE.out.2.2.1
  have HZ := hide HK.out.1.2.1
  have HBB := hide HK.out.2
  go_wp2_with (refine wpList_store_at rfl 30 (.tmp 2) (.tmp 54) rfl g1 #[.int .i64 0, .int .u64 0, .int .i64 0, .int .u64 0, .int .i64 0, .int .i64 0, .int .i64 0, .string ⟨#[]⟩, .string ⟨#[]⟩, .int .u64 0, .int .i64 0, .int .u64 0, .slice none 0 0, .slice none 0 0] #[.int .i64 8, .int .u64 (r.l : Int), .int .i64 0, .int .u64 0, .int .i64 0, .int .i64 0, .int .i64 0, .string ⟨#[]⟩, .string ⟨#[]⟩, .int .u64 0, .int .i64 0, .int .u64 (r.b : Int), .slice e1 r.ts.length cap1, .slice e2 r.ds.length cap2] rfl rfl HZ.out infoRc rfl (by simp [Value.oneCell']) ?_)
  intro w9 hr9 hk9 _
  have HB := hide (hk9 _ _ HBB.out HGE.out.2.2.2)
  have HROW := hide hr9
  clear hr9 hk9 HZ HBB HK d0 d1 d2 d3 d4 d5 d6 d7 d8 d9 d10 d11 d12 d13 c0 
  go_wp2
  (try simp only [Exit.inBlock, Exit.then])
  refine bodyPost_ret (res_one rfl _ _ g1 #[.int .i64 8, .int .u64 (r.l : Int), .int .i64 0, .int .u64 0, .int .i64 0, .int .i64 0, .int .i64 0, .string ⟨#[]⟩, .string ⟨#[]⟩, .int .u64 0, .int .i64 0, .int .u64 (r.b : Int), .slice e1 r.ts.length cap1, .slice e2 r.ds.length cap2] _ rfl HROW.out Try.underlying30 rfl infoRc) rfl ?_
  refine ⟨?_, HB.out⟩
  apply congrArg Ending.returned
  apply congrArg Value.agg
  unfold rcA Rec.used uV
  simp [hk, Ch.zero]

end Go.Proofs.Ytbnlkfcaahgpmaa

/-
  The contract of record.used, kinds 7.
-/
namespace Go.Proofs.Ytbnlkfcaahgpmaa
open Go.RowKit
set_option linter.unusedVariables false

set_option maxRecDepth 4000 in
set_option maxHeartbeats 1600000 in
theorem used_7 (r : Rec) (va vb : Value) (w : World) (hk : r.k = 7) (hin : RcIn w r va vb) :
    Calls Try.prog 43 #[.agg (rcA r va vb)] w fun e w' => e = .returned (.agg (rcA r.used (uV r va) (uV r vb))) ∧ Below w.heap.size w w' := by
  have HIN := hide hin
  obtain ⟨⟨e1, cap1, rfl, -⟩, ⟨e2, cap2, rfl, -⟩⟩ := hin
  have HK0 := hide (Keeps.two w 30 30 (rcA r (.slice e1 r.ts.length cap1) (.slice e2 r.ds.length cap2)) #[.int .i64 0, .int .u64 0, .int .i64 0, .int .u64 0, .int .i64 0, .int .i64 0, .int .i64 0, .string ⟨#[]⟩, .string ⟨#[]⟩, .int .u64 0, .int .i64 0, .int .u64 0, .slice none 0 0, .slice none 0 0])
  have c0 := HK0.out.1.2.1.cell 0 (.int .i64 r.k) rfl
  have c1 := HK0.out.1.2.1.cell 1 (.int .u64 (r.l : Int)) rfl
  rw [hk] at c0
  obtain ⟨A, hA⟩ : ∃ A, A = rcA r (.slice e1 r.ts.length cap1) (.slice e2 r.ds.length cap2) := ⟨_, rfl⟩
  rw [← hA] at HK0 c0 c1 ⊢
  have HA := hide hA
  clear hA
  have HK3 := hide (Keeps.three w 30 30 30 A #[.int .i64 0, .int .u64 0, .int .i64 0, .int .u64 0, .int .i64 0, .int .i64 0, .int .i64 0, .string ⟨#[]⟩, .string ⟨#[]⟩, .int .u64 0, .int .i64 0, .int .u64 0, .slice none 0 0, .slice none 0 0] #[.int .i64 7, .int .u64 (r.l : Int), .int .i64 0, .int .u64 0, .int .i64 0, .int .i64 0, .int .i64 0, .string ⟨#[]⟩, .string ⟨#[]⟩, .int .u64 0, .int .i64 0, .int .u64 0, .slice none 0 0, .slice none 0 0])
  have HGE : Hid (w.heap.size ≤ w.heap.size + 1 + 1 ∧ w.heap.size + 1 ≠ w.heap.size + 1 + 1 ∧ w.heap.size ≠ w.heap.size + 1 + 1 ∧ w.heap.size ≤ w.heap.size + 1) := ⟨by omega, by omega, by omega, by omega⟩
  have c03 := HK3.out.1.2.2.1.cell 0 (.int .i64 7) (by rw [HA.out, ← hk]; rfl)
  have d0 := HK3.out.1.1.cell 0 (.int .i64 7) rfl
  have d1 := HK3.out.1.1.cell 1 (.int .u64 (r.l : Int)) rfl
  have d2 := HK3.out.1.1.cell 2 (.int .i64 0) rfl
  have d3 := HK3.out.1.1.cell 3 (.int .u64 0) rfl
  have d4 := HK3.out.1.1.cell 4 (.int .i64 0) rfl
  have d5 := HK3.out.1.1.cell 5 (.int .i64 0) rfl
  have d6 := HK3.out.1.1.cell 6 (.int .i64 0) rfl
  have d7 := HK3.out.1.1.cell 7 (.string ⟨#[]⟩) rfl
  have d8 := HK3.out.1.1.cell 8 (.string ⟨#[]⟩) rfl
  have d9 := HK3.out.1.1.cell 9 (.int .u64 0) rfl
  have d10 := HK3.out.1.1.cell 10 (.int .i64 0) rfl
  have d11 := HK3.out.1.1.cell 11 (.int .u64 0) rfl
  have d12 := HK3.out.1.1.cell 12 (.slice none 0 0) rfl
  have d13 := HK3.out.1.1.cell 13 (.slice none 0 0) rfl
  have n1 := HGE.out.2.1
  have n2 := HGE.out.2.2.1
  have HZ := hide HK3.out.1.2.1
  have HBB := hide HK3.out.2
  go_enter Try.func43, Try.ntmps43
  go_wp2_with (refine wpList_store_at rfl 30 (.tmp 2) (.tmp 54) rfl (w.heap.size + 1) #[.int .i64 0, .int .u64 0, .int .i64 0, .int .u64 0, .int .i64 0, .int .i64 0, .int .i64 0, .string ⟨#[]⟩, .string ⟨#[]⟩, .int .u64 0, .int .i64 0, .int .u64 0, .slice none 0 0, .slice none 0 0] #[.int .i64 7, .int .u64 (r.l : Int), .int .i64 0, .int .u64 0, .int .i64 0, .int .i64 0, .int .i64 0, .string ⟨#[]⟩, .string ⟨#[]⟩, .int .u64 0, .int .i64 0, .int .u64 0, .slice none 0 0, .slice none 0 0] rfl rfl HZ.out infoRc rfl (by simp [Value.oneCell']) ?_)
  intro w9 hr9 hk9 _
  have HB := hide (hk9 _ _ HBB.out HGE.out.2.2.2)
  have HROW := hide hr9
  clear hr9 hk9 HZ HBB HK3 d0 d1 d2 d3 d4 d5 d6 d7 d8 d9 d10 d11 d12 d13 c03 
  go_wp2
  (try simp only [Exit.inBlock, Exit.then])
  refine bodyPost_ret (res_one rfl _ _ (w.heap.size + 1) #[.int .i64 7, .int .u64 (r.l : Int), .int .i64 0, .int .u64 0, .int .i64 0, .int .i64 0, .int .i64 0, .string ⟨#[]⟩, .string ⟨#[]⟩, .int .u64 0, .int .i64 0, .int .u64 0, .slice none 0 0, .slice none 0 0] _ rfl HROW.out Try.underlying30 rfl infoRc) rfl ?_
  refine ⟨?_, HB.out⟩
  apply congrArg Ending.returned
  apply congrArg Value.agg
  unfold rcA Rec.used uV
  simp [hk, Ch.zero]

end Go.Proofs.Ytbnlkfcaahgpmaa

/-
  The contract of record.used, kinds 2.
-/
namespace Go.Proofs.Ytbnlkfcaahgpmaa
open Go.RowKit
set_option linter.unusedVariables false

set_option maxRecDepth 4000 in
set_option maxHeartbeats 1600000 in
theorem used_2 (r : Rec) (va vb : Value) (w : World) (hk : r.k = 2) (hin : RcIn w r va vb) :
    Calls Try.prog 43 #[.agg (rcA r va vb)] w fun e w' => e = .returned (.agg (rcA r.used (uV r va) (uV r vb))) ∧ Below w.heap.size w w' := by
  have HIN := hide hin
  obtain ⟨⟨e1, cap1, rfl, -⟩, ⟨e2, cap2, rfl, -⟩⟩ := hin
  have HK0 := hide (Keeps.two w 30 30 (rcA r (.slice e1 r.ts.length cap1) (.slice e2 r.ds.length cap2)) #[.int .i64 0, .int .u64 0, .int .i64 0, .int .u64 0, .int .i64 0, .int .i64 0, .int .i64 0, .string ⟨#[]⟩, .string ⟨#[]⟩, .int .u64 0, .int .i64 0, .int .u64 0, .slice none 0 0, .slice none 0 0])
  have c0 := HK0.out.1.2.1.cell 0 (.int .i64 r.k) rfl
  have c1 := HK0.out.1.2.1.cell 1 (.int .u64 (r.l : Int)) rfl
  rw [hk] at c0
  obtain ⟨A, hA⟩ : ∃ A, A = rcA r (.slice e1 r.ts.length cap1) (.slice e2 r.ds.length cap2) := ⟨_, rfl⟩
  rw [← hA] at HK0 c0 c1 ⊢
  have HA := hide hA
  clear hA
  have HK3 := hide (Keeps.three w 30 30 30 A #[.int .i64 0, .int .u64 0, .int .i64 0, .int .u64 0, .int .i64 0, .int .i64 0, .int .i64 0, .string ⟨#[]⟩, .string ⟨#[]⟩, .int .u64 0, .int .i64 0, .int .u64 0, .slice none 0 0, .slice none 0 0] #[.int .i64 2, .int .u64 (r.l : Int), .int .i64 0, .int .u64 0, .int .i64 0, .int .i64 0, .int .i64 0, .string ⟨#[]⟩, .string ⟨#[]⟩, .int .u64 0, .int .i64 0, .int .u64 0, .slice none 0 0, .slice none 0 0])
  have c03 := HK3.out.1.2.2.1.cell 0 (.int .i64 2) (by rw [HA.out, ← hk]; rfl)
  go_enter Try.func43, Try.ntmps43
  go_wp2_with fail
  refine gen_wp (fun x => Hid (Keeps w x [(w.heap.size + 1 + 1, 30, #[.int .i64 2, .int .u64 (r.l : Int), .int .i64 0, .int .u64 0, .int .i64 0, .int .i64 0, .int .i64 0, .string ⟨#[]⟩, .string ⟨#[]⟩, .int .u64 0, .int .i64 0, .int .u64 0, .slice none 0 0, .slice none 0 0]), (w.heap.size + 1, 30, #[.int .i64 0, .int .u64 0, .int .i64 0, .int .u64 0, .int .i64 0, .int .i64 0, .int .i64 0, .string ⟨#[]⟩, .string ⟨#[]⟩, .int .u64 0, .int .i64 0, .int .u64 0, .slice none 0 0, .slice none 0 0]), (w.heap.size, 30, A)])) HK3 ?_
  clear HK3 HK0 c0 c1 c03
  intro x0 HK
  have HGE : Hid (w.heap.size ≤ w.heap.size + 1 + 1 ∧ w.heap.size + 1 ≠ w.heap.size + 1 + 1 ∧ w.heap.size ≠ w.heap.size + 1 + 1 ∧ w.heap.size ≤ w.heap.size + 1) := ⟨by omega, by omega, by omega, by omega⟩
  revert HK HGE
  generalize w.heap.size + 1 + 1 = g2
  generalize w.heap.size + 1 = g1
  intro HK HGE
  have c2 := HK.out.1.2.2.1.cell 2 (.int .i64 r.t) (by rw [HA.out]; rfl)
  have c3 := HK.out.1.2.2.1.cell 3 (.int .u64 (r.p : Int)) (by rw [HA.out]; rfl)
  have f2 := HK.out.1.1.free 2
  have d2 := HK.out.1.1.cell 2 (.int .i64 0) rfl
  have f3 := HK.out.1.1.free 3
  have d3 := HK.out.1.1.cell 3 (.int .u64 0) rfl
  have n2 := HGE.out.2.2.1
  go_region
  have hl : ∀ e ∈ [(g1, 30, #[.int .i64 0, .int .u64 0, .int .i64 0, .int .u64 0, .int .i64 0, .int .i64 0, .int .i64 0, .string ⟨#[]⟩, .string ⟨#[]⟩, .int .u64 0, .int .i64 0, .int .u64 0, .slice none 0 0, .slice none 0 0]), (w.heap.size, 30, A)], e.1 ≠ g2 := by
    intro e he
    simp only [List.mem_cons, List.not_mem_nil, or_false] at he
    rcases he with rfl | rfl
    · exact HGE.out.2.1
    · exact HGE.out.2.2.1
  have HK2 : Hid (Keeps w ((x0.setCell ⟨g2, 2, none⟩ (.int .i64 r.t)).setCell ⟨g2, 3, none⟩ (.int .u64 (r.p : Int))).drew [(g2, 30, #[.int .i64 2, .int .u64 (r.l : Int), .int .i64 r.t, .int .u64 (r.p : Int), .int .i64 0, .int .i64 0, .int .i64 0, .string ⟨#[]⟩, .string ⟨#[]⟩, .int .u64 0, .int .i64 0, .int .u64 0, .slice none 0 0, .slice none 0 0]), (g1, 30, #[.int .i64 0, .int .u64 0, .int .i64 0, .int .u64 0, .int .i64 0, .int .i64 0, .int .i64 0, .string ⟨#[]⟩, .string ⟨#[]⟩, .int .u64 0, .int .i64 0, .int .u64 0, .slice none 0 0, .slice none 0 0]), (w.heap.size, 30, A)]) := ((HK.out.setTop HGE.out.1 hl 2 (.int .i64 r.t)).setTop HGE.out.1 hl 3 (.int .u64 (r.p : Int))).drew
  refine gen_w (fun x => Hid (Keeps w x [(g2, 30, #[.int .i64 2, .int .u64 (r.l : Int), .int .i64 r.t, .int .u64 (r.p : Int), .int .i64 0, .int .i64 0, .int .i64 0, .string ⟨#[]⟩, .string ⟨#[]⟩, .int .u64 0, .int .i64 0, .int .u64 0, .slice none 0 0, .slice none 0 0]), (g1, 30, #[.int .i64 0, .int .u64 0, .int .i64 0, .int .u64 0, .int .i64 0, .int .i64 0, .int .i64 0, .string ⟨#[]⟩, .string ⟨#[]⟩, .int .u64 0, .int .i64 0, .int .u64 0, .slice none 0 0, .slice none 0 0]), (w.heap.size, 30, A)])) HK2 ?_
  clear HK2 HK hl n2 c2 f2 d2 c3 f3 d3
  intro x1 HK
  have c0 := HK.out.1.2.2.1.cell 0 (.int .i64 2) (by rw [HA.out, ← hk]; rfl)
  go_wp2_with fail
  clear c0
  have c4 := HK.out.1.2.2.1.cell 4 (.int .i64 r.c.k) (by rw [HA.out]; rfl)
  have c5 := HK.out.1.2.2.1.cell 5 (.int .i64 r.c.pg) (by rw [HA.out]; rfl)
  have c6 := HK.out.1.2.2.1.cell 6 (.int .i64 r.c.sl) (by rw [HA.out]; rfl)
  have c7 := HK.out.1.2.2.1.cell 7 (.string r.c.o) (by rw [HA.out]; rfl)
  have c8 := HK.out.1.2.2.1.cell 8 (.string r.c.n) (by rw [HA.out]; rfl)
  have c9 := HK.out.1.2.2.1.cell 9 (.int .u64 (r.n : Int)) (by rw [HA.out]; rfl)
  have f4 := HK.out.1.1.free 4
  have d4 := HK.out.1.1.cell 4 (.int .i64 0) rfl
  have f5 := HK.out.1.1.free 5
  have d5 := HK.out.1.1.cell 5 (.int .i64 0) rfl
  have f6 := HK.out.1.1.free 6
  have d6 := HK.out.1.1.cell 6 (.int .i64 0) rfl
  have f7 := HK.out.1.1.free 7
  have d7 := HK.out.1.1.cell 7 (.string ⟨#[]⟩) rfl
  have f8 := HK.out.1.1.free 8
  have d8 := HK.out.1.1.cell 8 (.string ⟨#[]⟩) rfl
  have f9 := HK.out.1.1.free 9
  have d9 := HK.out.1.1.cell 9 (.int .u64 0) rfl
  have n2 := HGE.out.2.2.1
  go_region
  have hl : ∀ e ∈ [(g1, 30, #[.int .i64 0, .int .u64 0, .int .i64 0, .int .u64 0, .int .i64 0, .int .i64 0, .int .i64 0, .string ⟨#[]⟩, .string ⟨#[]⟩, .int .u64 0, .int .i64 0, .int .u64 0, .slice none 0 0, .slice none 0 0]), (w.heap.size, 30, A)], e.1 ≠ g2 := by
    intro e he
    simp only [List.mem_cons, List.not_mem_nil, or_false] at he
    rcases he with rfl | rfl
    · exact HGE.out.2.1
    · exact HGE.out.2.2.1
  have HK2 : Hid (Keeps w ((((((x1.setCell ⟨g2, 4, none⟩ (.int .i64 r.c.k)).setCell ⟨g2, 5, none⟩ (.int .i64 r.c.pg)).setCell ⟨g2, 6, none⟩ (.int .i64 r.c.sl)).setCell ⟨g2, 7, none⟩ (.string r.c.o)).setCell ⟨g2, 8, none⟩ (.string r.c.n)).setCell ⟨g2, 9, none⟩ (.int .u64 (r.n : Int))).drew [(g2, 30, #[.int .i64 2, .int .u64 (r.l : Int), .int .i64 r.t, .int .u64 (r.p : Int), .int .i64 r.c.k, .int .i64 r.c.pg, .int .i64 r.c.sl, .string r.c.o, .string r.c.n, .int .u64 (r.n : Int), .int .i64 0, .int .u64 0, .slice none 0 0, .slice none 0 0]), (g1, 30, #[.int .i64 0, .int .u64 0, .int .i64 0, .int .u64 0, .int .i64 0, .int .i64 0, .int .i64 0, .string ⟨#[]⟩, .string ⟨#[]⟩, .int .u64 0, .int .i64 0, .int .u64 0, .slice none 0 0, .slice none 0 0]), (w.heap.size, 30, A)]) := ((((((HK.out.setTop HGE.out.1 hl 4 (.int .i64 r.c.k)).setTop HGE.out.1 hl 5 (.int .i64 r.c.pg)).setTop HGE.out.1 hl 6 (.int .i64 r.c.sl)).setTop HGE.out.1 hl 7 (.string r.c.o)).setTop HGE.out.1 hl 8 (.string r.c.n)).setTop HGE.out.1 hl 9 (.int .u64 (r.n : Int))).drew
  refine gen_w (fun x => Hid (Keeps w x [(g2, 30, #[.int .i64 2, .int .u64 (r.l : Int), .int .i64 r.t, .int .u64 (r.p : Int), .int .i64 r.c.k, .int .i64 r.c.pg, .int .i64 r.c.sl, .string r.c.o, .string r.c.n, .int .u64 (r.n : Int), .int .i64 0, .int .u64 0, .slice none 0 0, .slice none 0 0]), (g1, 30, #[.int .i64 0, .int .u64 0, .int .i64 0, .int .u64 0, .int .i64 0, .int .i64 0, .int .i64 0, .string ⟨#[]⟩, .string ⟨#[]⟩, .int .u64 0, .int .i64 0, .int .u64 0, .slice none 0 0, .slice none 0 0]), (w.heap.size, 30, A)])) HK2 ?_
  clear HK2 HK hl n2 c4 f4 d4 c5 f5 d5 c6 f6 d6 c7 f7 d7 c8 f8 d8 c9 f9 d9
  intro x2 HK
  have c0 := HK.out.1.2.2.1.cell 0 (.int .i64 2) (by rw [HA.out, ← hk]; rfl)
  have d0 := HK.out.1.1.cell 0 (.int .i64 2) rfl
  have d1 := HK.out.1.1.cell 1 (.int .u64 (r.l : Int)) rfl
  have d2 := HK.out.1.1.cell 2 (.int .i64 r.t) rfl
  have d3 := HK.out.1.1.cell 3 (.int .u64 (r.p : Int)) rfl
  have d4 := HK.out.1.1.cell 4 (.int .i64 r.c.k) rfl
  have d5 := HK.out.1.1.cell 5 (.int .i64 r.c.pg) rfl
  have d6 := HK.out.1.1.cell 6 (.int .i64 r.c.sl) rfl
  have d7 := HK.out.1.1.cell 7 (.string r.c.o) rfl
  have d8 := HK.out.1.1.cell 8 (.string r.c.n) rfl
  have d9 := HK.out.1.1.cell 9 (.int .u64 (r.n : Int)) rfl
  have d10 := HK.out.1.1.cell 10 (.int .i64 0) rfl
  have d11 := HK.out.1.1.cell 11 (.int .u64 0) rfl
  have d12 := HK.out.1.1.cell 12 (.slice none 0 0) rfl
  have d13 := HK.out.1.1.cell 13 (.slice none 0 0) rfl
  have n1 := HGE.out.2.1
  have n2 := HGE.out.2.2.1
  have HZ := hide HK.out.1.2.1
  have HBB := hide HK.out.2
  go_wp2_with (refine wpList_store_at rfl 30 (.tmp 2) (.tmp 54) rfl g1 #[.int .i64 0, .int .u64 0, .int .i64 0, .int .u64 0, .int .i64 0, .int .i64 0, .int .i64 0, .string ⟨#[]⟩, .string ⟨#[]⟩, .int .u64 0, .int .i64 0, .int .u64 0, .slice none 0 0, .slice none 0 0] #[.int .i64 2, .int .u64 (r.l : Int), .int .i64 r.t, .int .u64 (r.p : Int), .int .i64 r.c.k, .int .i64 r.c.pg, .int .i64 r.c.sl, .string r.c.o, .string r.c.n, .int .u64 (r.n : Int), .int .i64 0, .int .u64 0, .slice none 0 0, .slice none 0 0] rfl rfl HZ.out infoRc rfl (by simp [Value.oneCell']) ?_)
  intro w9 hr9 hk9 _
  have HB := hide (hk9 _ _ HBB.out HGE.out.2.2.2)
  have HROW := hide hr9
  clear hr9 hk9 HZ HBB HK d0 d1 d2 d3 d4 d5 d6 d7 d8 d9 d10 d11 d12 d13 c0 
  go_wp2
  (try simp only [Exit.inBlock, Exit.then])
  refine bodyPost_ret (res_one rfl _ _ g1 #[.int .i64 2, .int .u64 (r.l : Int), .int .i64 r.t, .int .u64 (r.p : Int), .int .i64 r.c.k, .int .i64 r.c.pg, .int .i64 r.c.sl, .string r.c.o, .string r.c.n, .int .u64 (r.n : Int), .int .i64 0, .int .u64 0, .slice none 0 0, .slice none 0 0] _ rfl HROW.out Try.underlying30 rfl infoRc) rfl ?_
  refine ⟨?_, HB.out⟩
  apply congrArg Ending.returned
  apply congrArg Value.agg
  unfold rcA Rec.used uV
  simp [hk]

end Go.Proofs.Ytbnlkfcaahgpmaa

/-
  The contract of record.used.
-/
namespace Go.Proofs.Ytbnlkfcaahgpmaa
open Go.RowKit
set_option linter.unusedVariables false

theorem uV_in {w : World} {r : Rec} {va vb : Value} (h : RcIn w r va vb) : RcIn w r.used (uV r va) (uV r vb) := by
  by_cases hk : r.k = 8
  · have e1 : r.used.ts = r.ts := by unfold Rec.used; simp [hk]
    have e2 : r.used.ds = r.ds := by unfold Rec.used; simp [hk]
    have e3 : ∀ v, uV r v = v := fun v => by unfold uV; rw [if_pos hk]
    unfold RcIn at h ⊢
    rw [e1, e2, e3, e3]
    exact h
  · have e1 : r.used.ts = [] := by unfold Rec.used; simp [hk]
    have e2 : r.used.ds = [] := by unfold Rec.used; simp [hk]
    have e3 : ∀ v, uV r v = .slice none 0 0 := fun v => by unfold uV; rw [if_neg hk]
    unfold RcIn
    rw [e1, e2, e3, e3]
    exact ⟨⟨none, 0, rfl, fun h => absurd h (by simp)⟩, ⟨none, 0, rfl, fun h => absurd h (by simp)⟩⟩

/-- THE CONTRACT. -/
theorem used_any (r : Rec) (va vb : Value) (w : World) (hk : 1 ≤ r.k ∧ r.k ≤ 8) (hin : RcIn w r va vb) :
    Calls Try.prog 43 #[.agg (rcA r va vb)] w fun e w' => e = .returned (.agg (rcA r.used (uV r va) (uV r vb))) ∧ Below w.heap.size w w' := by
  by_cases h1 : r.k = 1
  · exact used_1 r va vb w h1 hin
  by_cases h2 : r.k = 2
  · exact used_2 r va vb w h2 hin
  by_cases h3 : r.k = 3
  · exact used_3 r va vb w h3 hin
  by_cases h4 : r.k = 4
  · exact used_4 r va vb w h4 hin
  by_cases h5 : r.k = 5
  · exact used_5 r va vb w h5 hin
  by_cases h6 : r.k = 6
  · exact used_6 r va vb w h6 hin
  by_cases h7 : r.k = 7
  · exact used_7 r va vb w h7 hin
  exact used_8 r va vb w (by omega) hin
end Go.Proofs.Ytbnlkfcaahgpmaa

/-
  The contract of quaysideref01.Number.
-/
namespace Go.Proofs.Ytbnlkfcaahgpmaa
open Go.RowKit
set_option linter.unusedVariables false

end Go.Proofs.Ytbnlkfcaahgpmaa

/-
  The contracts of quaysideref06's num and text.
-/
namespace Go.Proofs.Ytbnlkfcaahgpmaa
open Go.RowKit
set_option linter.unusedVariables false

/-- Bytes as a text. -/
def mkS (l : List UInt8) : ByteArray := ⟨l.toArray⟩
theorem mkS_append (a b : List UInt8) : mkS a ++ mkS b = mkS (a ++ b) := mk_append a b
theorem mkS_size (l : List UInt8) : (mkS l).size = l.length := size_mk l

theorem run_add_s (a b : ByteArray) (h : a.size + b.size ≤ 100000) (x : World) : (binOp .add 9 (.string a) (.string b)).run Try.prog x = .ok (.string (a ++ b)) x := by
  simp [binOp, Op.stringOp]
  omega
theorem add_guard (x y : Operand) (a b : ByteArray) (w : World) : (eqGuard .add 9 x y (.string a) (.string b)).run Try.prog w = .ok () w := by
  simp [eqGuard]

end Go.Proofs.Ytbnlkfcaahgpmaa

/-
  The contract of quaysideref06.Bytes, of records that are no checkpoint's.
-/
namespace Go.Proofs.Ytbnlkfcaahgpmaa
open Go.RowKit
set_option linter.unusedVariables false

theorem load_u64 {b j : Nat} (x : World) (v : Int) (h : x.cell? ⟨b, j, none⟩ = some (.int .u64 v)) : (Instr.loadAt 23 (.pointer (some ⟨b, j, none⟩))).run Try.prog x = .ok (.int .u64 v) x := by go_simp
theorem load_text {b j : Nat} (x : World) (s : ByteArray) (h : x.cell? ⟨b, j, none⟩ = some (.string s)) : (Instr.loadAt 9 (.pointer (some ⟨b, j, none⟩))).run Try.prog x = .ok (.string s) x := by go_simp

end Go.Proofs.Ytbnlkfcaahgpmaa
