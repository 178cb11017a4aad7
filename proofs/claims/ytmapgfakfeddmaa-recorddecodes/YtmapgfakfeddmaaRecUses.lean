/-
  The contract of record.rightUses.
-/
import Derived.Test.YtmapgfakfeddmaaRecRightTx
import Derived.Test.YtmapgfakfeddmaaRecRightDi
import Derived.Test.YtmapgfakfeddmaaChangeRight
import Derived.Test.YtmapgfakfeddmaaRecUse
namespace Go.Proofs.Ytmapgfakfeddmaa
open Go.RowKit
set_option linter.unusedVariables false

theorem beq_no' {a b : Int} (h : ¬ a = b) : (a == b) = false := by rw [beq_eq_false_iff_ne]; exact h
set_option maxRecDepth 4000 in
set_option maxHeartbeats 1600000 in
theorem uses_1 (r : Rec) (va vb : Value) (w : World) (q : Bool) (Hq : Hid (q = true ↔ r.uses)) (hin : RcIn w r va vb) (hk : r.k = 1) :
    Calls Try.prog 24 #[.agg (rcA r va vb)] w fun e w' => e = .returned (.bool q) ∧ Below w.heap.size w w' := by
  have HIN := hide hin
  obtain ⟨⟨e1, cap1, rfl, -⟩, ⟨e2, cap2, rfl, -⟩⟩ := hin
  have HK0 := hide (Keeps.one w 28 (rcA r (.slice e1 r.ts.length cap1) (.slice e2 r.ds.length cap2)))
  have HF : Hid (¬ r.uses → q = false) := fun h => by
    cases q
    · rfl
    · exact absurd (Hq.out.1 rfl) h
  have HT : Hid (r.uses → q = true) := fun h => Hq.out.2 h
  clear Hq
  have c0 := HK0.out.1.1.cell 0 (.int .i64 r.k) rfl
  rw [hk] at c0
  by_cases ho : 1 ≤ r.t ∧ r.t ≤ 1048575 ∧ r.p < r.l
  case neg =>
    have HO := hide (fun w => rtxn_at r (.slice e1 r.ts.length cap1) (.slice e2 r.ds.length cap2) w false (hide (decide_eq_false ho)))
    obtain rfl := HF.out (fun h => ho (h.2.2.1 (by omega)))
    clear ho
    go_enter Try.func24, Try.ntmps24
    go_wp2_with (refine wpList_load_at rfl 28 (.tmp 1) rfl w.heap.size rfl (rcA r (.slice e1 r.ts.length cap1) (.slice e2 r.ds.length cap2)) HK0.out.1.1 _ Try.underlying28 rfl infoRc ?_)
    refine (HO.out _).mono ?_
    rintro e w1 ⟨rfl, hb1⟩
    have HK1 := hide (HK0.out.later hb1)
    clear HO HK0 hb1 c0
    have d := HK1.out.2
    clear HK1 HF HT HIN
    go_wp2
    go_ret
    exact ⟨by first | rfl | (apply congrArg Ending.returned; apply congrArg Value.bool; first | (apply decide_eq_false; omega) | (apply decide_eq_true; omega)), d⟩
  have HO := hide (fun w => rtxn_at r (.slice e1 r.ts.length cap1) (.slice e2 r.ds.length cap2) w true (hide (decide_eq_true ho)))
  have HOW := hide ho
  clear ho
  go_enter Try.func24, Try.ntmps24
  go_wp2_with (refine wpList_load_at rfl 28 (.tmp 1) rfl w.heap.size rfl (rcA r (.slice e1 r.ts.length cap1) (.slice e2 r.ds.length cap2)) HK0.out.1.1 _ Try.underlying28 rfl infoRc ?_)
  refine (HO.out _).mono ?_
  rintro e w1 ⟨rfl, hb1⟩
  have HK1 := hide (HK0.out.later hb1)
  clear HO HK0 hb1 c0
  obtain ⟨d4, d5, d6, d7, d8⟩ := rc_chg HK1.out.1.1
  have HR := hide (fun w => cright_at r.c w q (hide (by
    by_cases hc : r.c.right
    · rw [HT.out ⟨by omega, by omega, fun _ => HOW.out, fun _ => hc, fun h => absurd h (by omega), fun h => absurd h (by omega), fun h => absurd h (by omega)⟩]
      exact decide_eq_true hc
    · rw [HF.out (fun h => hc (h.2.2.2.1 (by omega)))]
      exact decide_eq_false hc)))
  go_wp2_with fail
  refine (HR.out _).mono ?_
  rintro e w2 ⟨rfl, hb2⟩
  have d := (HK1.out.later hb2).2
  clear HR HK1 HF HT HIN hb2 HOW d4 d5 d6 d7 d8
  go_wp2
  go_ret
  exact ⟨rfl, d⟩

set_option maxRecDepth 4000 in
set_option maxHeartbeats 1600000 in
theorem uses_2 (r : Rec) (va vb : Value) (w : World) (q : Bool) (Hq : Hid (q = true ↔ r.uses)) (hin : RcIn w r va vb) (hk : r.k = 2) :
    Calls Try.prog 24 #[.agg (rcA r va vb)] w fun e w' => e = .returned (.bool q) ∧ Below w.heap.size w w' := by
  have HIN := hide hin
  obtain ⟨⟨e1, cap1, rfl, -⟩, ⟨e2, cap2, rfl, -⟩⟩ := hin
  have HK0 := hide (Keeps.one w 28 (rcA r (.slice e1 r.ts.length cap1) (.slice e2 r.ds.length cap2)))
  have HF : Hid (¬ r.uses → q = false) := fun h => by
    cases q
    · rfl
    · exact absurd (Hq.out.1 rfl) h
  have HT : Hid (r.uses → q = true) := fun h => Hq.out.2 h
  clear Hq
  have c0 := HK0.out.1.1.cell 0 (.int .i64 r.k) rfl
  rw [hk] at c0
  by_cases ho : 1 ≤ r.t ∧ r.t ≤ 1048575 ∧ r.p < r.l
  case neg =>
    have HO := hide (fun w => rtxn_at r (.slice e1 r.ts.length cap1) (.slice e2 r.ds.length cap2) w false (hide (decide_eq_false ho)))
    obtain rfl := HF.out (fun h => ho (h.2.2.1 (by omega)))
    clear ho
    go_enter Try.func24, Try.ntmps24
    go_wp2_with (refine wpList_load_at rfl 28 (.tmp 1) rfl w.heap.size rfl (rcA r (.slice e1 r.ts.length cap1) (.slice e2 r.ds.length cap2)) HK0.out.1.1 _ Try.underlying28 rfl infoRc ?_)
    refine (HO.out _).mono ?_
    rintro e w1 ⟨rfl, hb1⟩
    have HK1 := hide (HK0.out.later hb1)
    clear HO HK0 hb1 c0
    have d := HK1.out.2
    clear HK1 HF HT HIN
    go_wp2
    go_ret
    exact ⟨by first | rfl | (apply congrArg Ending.returned; apply congrArg Value.bool; first | (apply decide_eq_false; omega) | (apply decide_eq_true; omega)), d⟩
  have HO := hide (fun w => rtxn_at r (.slice e1 r.ts.length cap1) (.slice e2 r.ds.length cap2) w true (hide (decide_eq_true ho)))
  have HOW := hide ho
  clear ho
  go_enter Try.func24, Try.ntmps24
  go_wp2_with (refine wpList_load_at rfl 28 (.tmp 1) rfl w.heap.size rfl (rcA r (.slice e1 r.ts.length cap1) (.slice e2 r.ds.length cap2)) HK0.out.1.1 _ Try.underlying28 rfl infoRc ?_)
  refine (HO.out _).mono ?_
  rintro e w1 ⟨rfl, hb1⟩
  have HK1 := hide (HK0.out.later hb1)
  clear HO HK0 hb1 c0
  obtain ⟨d4, d5, d6, d7, d8⟩ := rc_chg HK1.out.1.1
  by_cases hc : r.c.right
  case neg =>
    have HR := hide (fun w => cright_at r.c w false (hide (decide_eq_false hc)))
    obtain rfl := HF.out (fun h => hc (h.2.2.2.1 (by omega)))
    clear hc
    go_wp2_with fail
    refine (HR.out _).mono ?_
    rintro e w2 ⟨rfl, hb2⟩
    have d := (HK1.out.later hb2).2
    clear HR HK1 HF HT HIN hb2 HOW d4 d5 d6 d7 d8
    go_wp2
    go_ret
    exact ⟨rfl, d⟩
  have HR := hide (fun w => cright_at r.c w true (hide (decide_eq_true hc)))
  have HC := hide hc
  clear hc
  go_wp2_with fail
  refine (HR.out _).mono ?_
  rintro e w2 ⟨rfl, hb2⟩
  have HK2 := hide (HK1.out.later hb2)
  clear HR HK1 hb2 d4 d5 d6 d7 d8
  have c1 := HK2.out.1.1.cell 1 (.int .u64 (r.l : Int)) rfl
  have c9 := HK2.out.1.1.cell 9 (.int .u64 (r.n : Int)) rfl
  have d := HK2.out.2
  by_cases hn : (r.n : Int) < (r.l : Int)
  case neg =>
    obtain rfl := HF.out (fun h => by have := h.2.2.2.2.1 hk; omega)
    clear HK2 HF HT HIN HOW HC
    go_wp2
    go_ret
    exact ⟨by first | rfl | (apply congrArg Ending.returned; apply congrArg Value.bool; apply decide_eq_false; omega), d⟩
  obtain rfl := HT.out ⟨by omega, by omega, fun _ => HOW.out, fun _ => HC.out, fun _ => by omega, fun h => absurd h (by omega), fun h => absurd h (by omega)⟩
  clear HK2 HF HT HIN HOW HC
  go_wp2
  go_ret
  exact ⟨by first | rfl | (apply congrArg Ending.returned; apply congrArg Value.bool; apply decide_eq_true; omega), d⟩

set_option maxRecDepth 4000 in
set_option maxHeartbeats 1600000 in
theorem uses_3 (r : Rec) (va vb : Value) (w : World) (q : Bool) (Hq : Hid (q = true ↔ r.uses)) (hin : RcIn w r va vb) (hk : r.k = 3) :
    Calls Try.prog 24 #[.agg (rcA r va vb)] w fun e w' => e = .returned (.bool q) ∧ Below w.heap.size w w' := by
  have HIN := hide hin
  obtain ⟨⟨e1, cap1, rfl, -⟩, ⟨e2, cap2, rfl, -⟩⟩ := hin
  have HK0 := hide (Keeps.one w 28 (rcA r (.slice e1 r.ts.length cap1) (.slice e2 r.ds.length cap2)))
  have HF : Hid (¬ r.uses → q = false) := fun h => by
    cases q
    · rfl
    · exact absurd (Hq.out.1 rfl) h
  have HT : Hid (r.uses → q = true) := fun h => Hq.out.2 h
  clear Hq
  have c0 := HK0.out.1.1.cell 0 (.int .i64 r.k) rfl
  rw [hk] at c0
  by_cases ho : 1 ≤ r.t ∧ r.t ≤ 1048575 ∧ r.p < r.l
  case neg =>
    have HO := hide (fun w => rtxn_at r (.slice e1 r.ts.length cap1) (.slice e2 r.ds.length cap2) w false (hide (decide_eq_false ho)))
    obtain rfl := HF.out (fun h => ho (h.2.2.1 (by omega)))
    clear ho
    go_enter Try.func24, Try.ntmps24
    go_wp2_with (refine wpList_load_at rfl 28 (.tmp 1) rfl w.heap.size rfl (rcA r (.slice e1 r.ts.length cap1) (.slice e2 r.ds.length cap2)) HK0.out.1.1 _ Try.underlying28 rfl infoRc ?_)
    refine (HO.out _).mono ?_
    rintro e w1 ⟨rfl, hb1⟩
    have HK1 := hide (HK0.out.later hb1)
    clear HO HK0 hb1 c0
    have d := HK1.out.2
    clear HK1 HF HT HIN
    go_wp2
    go_ret
    exact ⟨by first | rfl | (apply congrArg Ending.returned; apply congrArg Value.bool; first | (apply decide_eq_false; omega) | (apply decide_eq_true; omega)), d⟩
  have HO := hide (fun w => rtxn_at r (.slice e1 r.ts.length cap1) (.slice e2 r.ds.length cap2) w true (hide (decide_eq_true ho)))
  have HOW := hide ho
  clear ho
  obtain rfl := HT.out ⟨by omega, by omega, fun _ => HOW.out, fun h => absurd h (by omega), fun h => absurd h (by omega), fun h => absurd h (by omega), fun h => absurd h (by omega)⟩
  go_enter Try.func24, Try.ntmps24
  go_wp2_with (refine wpList_load_at rfl 28 (.tmp 1) rfl w.heap.size rfl (rcA r (.slice e1 r.ts.length cap1) (.slice e2 r.ds.length cap2)) HK0.out.1.1 _ Try.underlying28 rfl infoRc ?_)
  refine (HO.out _).mono ?_
  rintro e w1 ⟨rfl, hb1⟩
  have HK1 := hide (HK0.out.later hb1)
  clear HO HK0 hb1 c0
  have d := HK1.out.2
  clear HK1 HF HT HIN
  go_wp2
  go_ret
  exact ⟨by first | rfl | (apply congrArg Ending.returned; apply congrArg Value.bool; first | (apply decide_eq_false; omega) | (apply decide_eq_true; omega)), d⟩

set_option maxRecDepth 4000 in
set_option maxHeartbeats 1600000 in
theorem uses_4 (r : Rec) (va vb : Value) (w : World) (q : Bool) (Hq : Hid (q = true ↔ r.uses)) (hin : RcIn w r va vb) (hk : r.k = 4) :
    Calls Try.prog 24 #[.agg (rcA r va vb)] w fun e w' => e = .returned (.bool q) ∧ Below w.heap.size w w' := by
  have HIN := hide hin
  obtain ⟨⟨e1, cap1, rfl, -⟩, ⟨e2, cap2, rfl, -⟩⟩ := hin
  have HK0 := hide (Keeps.one w 28 (rcA r (.slice e1 r.ts.length cap1) (.slice e2 r.ds.length cap2)))
  have HF : Hid (¬ r.uses → q = false) := fun h => by
    cases q
    · rfl
    · exact absurd (Hq.out.1 rfl) h
  have HT : Hid (r.uses → q = true) := fun h => Hq.out.2 h
  clear Hq
  have c0 := HK0.out.1.1.cell 0 (.int .i64 r.k) rfl
  rw [hk] at c0
  by_cases ho : 1 ≤ r.t ∧ r.t ≤ 1048575 ∧ r.p < r.l
  case neg =>
    have HO := hide (fun w => rtxn_at r (.slice e1 r.ts.length cap1) (.slice e2 r.ds.length cap2) w false (hide (decide_eq_false ho)))
    obtain rfl := HF.out (fun h => ho (h.2.2.1 (by omega)))
    clear ho
    go_enter Try.func24, Try.ntmps24
    go_wp2_with (refine wpList_load_at rfl 28 (.tmp 1) rfl w.heap.size rfl (rcA r (.slice e1 r.ts.length cap1) (.slice e2 r.ds.length cap2)) HK0.out.1.1 _ Try.underlying28 rfl infoRc ?_)
    refine (HO.out _).mono ?_
    rintro e w1 ⟨rfl, hb1⟩
    have HK1 := hide (HK0.out.later hb1)
    clear HO HK0 hb1 c0
    have d := HK1.out.2
    clear HK1 HF HT HIN
    go_wp2
    go_ret
    exact ⟨by first | rfl | (apply congrArg Ending.returned; apply congrArg Value.bool; first | (apply decide_eq_false; omega) | (apply decide_eq_true; omega)), d⟩
  have HO := hide (fun w => rtxn_at r (.slice e1 r.ts.length cap1) (.slice e2 r.ds.length cap2) w true (hide (decide_eq_true ho)))
  have HOW := hide ho
  clear ho
  obtain rfl := HT.out ⟨by omega, by omega, fun _ => HOW.out, fun h => absurd h (by omega), fun h => absurd h (by omega), fun h => absurd h (by omega), fun h => absurd h (by omega)⟩
  go_enter Try.func24, Try.ntmps24
  go_wp2_with (refine wpList_load_at rfl 28 (.tmp 1) rfl w.heap.size rfl (rcA r (.slice e1 r.ts.length cap1) (.slice e2 r.ds.length cap2)) HK0.out.1.1 _ Try.underlying28 rfl infoRc ?_)
  refine (HO.out _).mono ?_
  rintro e w1 ⟨rfl, hb1⟩
  have HK1 := hide (HK0.out.later hb1)
  clear HO HK0 hb1 c0
  have d := HK1.out.2
  clear HK1 HF HT HIN
  go_wp2
  go_ret
  exact ⟨by first | rfl | (apply congrArg Ending.returned; apply congrArg Value.bool; first | (apply decide_eq_false; omega) | (apply decide_eq_true; omega)), d⟩

set_option maxRecDepth 4000 in
set_option maxHeartbeats 1600000 in
theorem uses_5 (r : Rec) (va vb : Value) (w : World) (q : Bool) (Hq : Hid (q = true ↔ r.uses)) (hin : RcIn w r va vb) (hk : r.k = 5) :
    Calls Try.prog 24 #[.agg (rcA r va vb)] w fun e w' => e = .returned (.bool q) ∧ Below w.heap.size w w' := by
  have HIN := hide hin
  obtain ⟨⟨e1, cap1, rfl, -⟩, ⟨e2, cap2, rfl, -⟩⟩ := hin
  have HK0 := hide (Keeps.one w 28 (rcA r (.slice e1 r.ts.length cap1) (.slice e2 r.ds.length cap2)))
  have HF : Hid (¬ r.uses → q = false) := fun h => by
    cases q
    · rfl
    · exact absurd (Hq.out.1 rfl) h
  have HT : Hid (r.uses → q = true) := fun h => Hq.out.2 h
  clear Hq
  have c0 := HK0.out.1.1.cell 0 (.int .i64 r.k) rfl
  rw [hk] at c0
  by_cases ho : 1 ≤ r.t ∧ r.t ≤ 1048575 ∧ r.p < r.l
  case neg =>
    have HO := hide (fun w => rtxn_at r (.slice e1 r.ts.length cap1) (.slice e2 r.ds.length cap2) w false (hide (decide_eq_false ho)))
    obtain rfl := HF.out (fun h => ho (h.2.2.1 (by omega)))
    clear ho
    go_enter Try.func24, Try.ntmps24
    go_wp2_with (refine wpList_load_at rfl 28 (.tmp 1) rfl w.heap.size rfl (rcA r (.slice e1 r.ts.length cap1) (.slice e2 r.ds.length cap2)) HK0.out.1.1 _ Try.underlying28 rfl infoRc ?_)
    refine (HO.out _).mono ?_
    rintro e w1 ⟨rfl, hb1⟩
    have HK1 := hide (HK0.out.later hb1)
    clear HO HK0 hb1 c0
    have d := HK1.out.2
    clear HK1 HF HT HIN
    go_wp2
    go_ret
    exact ⟨by first | rfl | (apply congrArg Ending.returned; apply congrArg Value.bool; first | (apply decide_eq_false; omega) | (apply decide_eq_true; omega)), d⟩
  have HO := hide (fun w => rtxn_at r (.slice e1 r.ts.length cap1) (.slice e2 r.ds.length cap2) w true (hide (decide_eq_true ho)))
  have HOW := hide ho
  clear ho
  obtain rfl := HT.out ⟨by omega, by omega, fun _ => HOW.out, fun h => absurd h (by omega), fun h => absurd h (by omega), fun h => absurd h (by omega), fun h => absurd h (by omega)⟩
  go_enter Try.func24, Try.ntmps24
  go_wp2_with (refine wpList_load_at rfl 28 (.tmp 1) rfl w.heap.size rfl (rcA r (.slice e1 r.ts.length cap1) (.slice e2 r.ds.length cap2)) HK0.out.1.1 _ Try.underlying28 rfl infoRc ?_)
  refine (HO.out _).mono ?_
  rintro e w1 ⟨rfl, hb1⟩
  have HK1 := hide (HK0.out.later hb1)
  clear HO HK0 hb1 c0
  have d := HK1.out.2
  clear HK1 HF HT HIN
  go_wp2
  go_ret
  exact ⟨by first | rfl | (apply congrArg Ending.returned; apply congrArg Value.bool; first | (apply decide_eq_false; omega) | (apply decide_eq_true; omega)), d⟩

set_option maxRecDepth 4000 in
set_option maxHeartbeats 1600000 in
theorem uses_6 (r : Rec) (va vb : Value) (w : World) (q : Bool) (Hq : Hid (q = true ↔ r.uses)) (hin : RcIn w r va vb) (hk : r.k = 6) :
    Calls Try.prog 24 #[.agg (rcA r va vb)] w fun e w' => e = .returned (.bool q) ∧ Below w.heap.size w w' := by
  have HIN := hide hin
  obtain ⟨⟨e1, cap1, rfl, -⟩, ⟨e2, cap2, rfl, -⟩⟩ := hin
  have HK0 := hide (Keeps.one w 28 (rcA r (.slice e1 r.ts.length cap1) (.slice e2 r.ds.length cap2)))
  have HF : Hid (¬ r.uses → q = false) := fun h => by
    cases q
    · rfl
    · exact absurd (Hq.out.1 rfl) h
  have HT : Hid (r.uses → q = true) := fun h => Hq.out.2 h
  clear Hq
  have c0 := HK0.out.1.1.cell 0 (.int .i64 r.k) rfl
  rw [hk] at c0
  by_cases ho : 1 ≤ r.t ∧ r.t ≤ 1048575 ∧ r.p < r.l
  case neg =>
    have HO := hide (fun w => rtxn_at r (.slice e1 r.ts.length cap1) (.slice e2 r.ds.length cap2) w false (hide (decide_eq_false ho)))
    obtain rfl := HF.out (fun h => ho (h.2.2.1 (by omega)))
    clear ho
    go_enter Try.func24, Try.ntmps24
    go_wp2_with (refine wpList_load_at rfl 28 (.tmp 1) rfl w.heap.size rfl (rcA r (.slice e1 r.ts.length cap1) (.slice e2 r.ds.length cap2)) HK0.out.1.1 _ Try.underlying28 rfl infoRc ?_)
    refine (HO.out _).mono ?_
    rintro e w1 ⟨rfl, hb1⟩
    have HK1 := hide (HK0.out.later hb1)
    clear HO HK0 hb1 c0
    have d := HK1.out.2
    clear HK1 HF HT HIN
    go_wp2
    go_ret
    exact ⟨by first | rfl | (apply congrArg Ending.returned; apply congrArg Value.bool; first | (apply decide_eq_false; omega) | (apply decide_eq_true; omega)), d⟩
  have HO := hide (fun w => rtxn_at r (.slice e1 r.ts.length cap1) (.slice e2 r.ds.length cap2) w true (hide (decide_eq_true ho)))
  have HOW := hide ho
  clear ho
  go_enter Try.func24, Try.ntmps24
  go_wp2_with (refine wpList_load_at rfl 28 (.tmp 1) rfl w.heap.size rfl (rcA r (.slice e1 r.ts.length cap1) (.slice e2 r.ds.length cap2)) HK0.out.1.1 _ Try.underlying28 rfl infoRc ?_)
  refine (HO.out _).mono ?_
  rintro e w1 ⟨rfl, hb1⟩
  have HK1 := hide (HK0.out.later hb1)
  clear HO HK0 hb1 c0
  have c10 := HK1.out.1.1.cell 10 (.int .i64 r.s) rfl
  by_cases s1 : 1 ≤ r.s
  case neg =>
    obtain rfl := HF.out (fun h => by have := h.2.2.2.2.2.1 hk; omega)
    have d := HK1.out.2
    clear HK1 HF HT HIN
    go_wp2
    go_ret
    exact ⟨by first | rfl | (apply congrArg Ending.returned; apply congrArg Value.bool; first | (apply decide_eq_false; omega) | (apply decide_eq_true; omega)), d⟩
  by_cases s2 : r.s ≤ 8
  case neg =>
    obtain rfl := HF.out (fun h => by have := h.2.2.2.2.2.1 hk; omega)
    have d := HK1.out.2
    clear HK1 HF HT HIN
    go_wp2
    go_ret
    exact ⟨by first | rfl | (apply congrArg Ending.returned; apply congrArg Value.bool; first | (apply decide_eq_false; omega) | (apply decide_eq_true; omega)), d⟩
  obtain rfl := HT.out ⟨by omega, by omega, fun _ => HOW.out, fun h => absurd h (by omega), fun h => absurd h (by omega), fun _ => ⟨s1, s2⟩, fun h => absurd h (by omega)⟩
  have d := HK1.out.2
  clear HK1 HF HT HIN
  go_wp2
  go_ret
  exact ⟨by first | rfl | (apply congrArg Ending.returned; apply congrArg Value.bool; first | (apply decide_eq_false; omega) | (apply decide_eq_true; omega)), d⟩

set_option maxRecDepth 4000 in
set_option maxHeartbeats 1600000 in
theorem uses_7 (r : Rec) (va vb : Value) (w : World) (q : Bool) (Hq : Hid (q = true ↔ r.uses)) (hin : RcIn w r va vb) (hk : r.k = 7) :
    Calls Try.prog 24 #[.agg (rcA r va vb)] w fun e w' => e = .returned (.bool q) ∧ Below w.heap.size w w' := by
  have HIN := hide hin
  obtain ⟨⟨e1, cap1, rfl, -⟩, ⟨e2, cap2, rfl, -⟩⟩ := hin
  have HK0 := hide (Keeps.one w 28 (rcA r (.slice e1 r.ts.length cap1) (.slice e2 r.ds.length cap2)))
  have HF : Hid (¬ r.uses → q = false) := fun h => by
    cases q
    · rfl
    · exact absurd (Hq.out.1 rfl) h
  have HT : Hid (r.uses → q = true) := fun h => Hq.out.2 h
  clear Hq
  have c0 := HK0.out.1.1.cell 0 (.int .i64 r.k) rfl
  rw [hk] at c0
  obtain rfl := HT.out ⟨by omega, by omega, fun h => absurd h (by omega), fun h => absurd h (by omega), fun h => absurd h (by omega), fun h => absurd h (by omega), fun h => absurd h (by omega)⟩
  have d := HK0.out.2
  clear HK0 HF HT HIN
  go_enter Try.func24, Try.ntmps24
  go_wp2
  go_ret
  exact ⟨rfl, d⟩

set_option maxRecDepth 4000 in
set_option maxHeartbeats 1600000 in
theorem uses_8 (r : Rec) (va vb : Value) (w : World) (q : Bool) (Hq : Hid (q = true ↔ r.uses)) (hin : RcIn w r va vb) (hk : r.k = 8) :
    Calls Try.prog 24 #[.agg (rcA r va vb)] w fun e w' => e = .returned (.bool q) ∧ Below w.heap.size w w' := by
  have HIN := hide hin
  obtain ⟨⟨e1, cap1, rfl, -⟩, ⟨e2, cap2, rfl, -⟩⟩ := hin
  have HK0 := hide (Keeps.one w 28 (rcA r (.slice e1 r.ts.length cap1) (.slice e2 r.ds.length cap2)))
  have HF : Hid (¬ r.uses → q = false) := fun h => by
    cases q
    · rfl
    · exact absurd (Hq.out.1 rfl) h
  have HT : Hid (r.uses → q = true) := fun h => Hq.out.2 h
  clear Hq
  have c0 := HK0.out.1.1.cell 0 (.int .i64 r.k) rfl
  rw [hk] at c0
  have c1 := HK0.out.1.1.cell 1 (.int .u64 (r.l : Int)) rfl
  have c11 := HK0.out.1.1.cell 11 (.int .u64 (r.b : Int)) rfl
  by_cases hb : 1 ≤ r.b ∧ r.b < r.l
  case neg =>
    have HW := hide (fun w => within_at r.b r.l w false (hide (decide_eq_false hb)))
    obtain rfl := HF.out (fun h => hb ((h.2.2.2.2.2.2 hk).2.2.2.2))
    clear hb
    go_enter Try.func24, Try.ntmps24
    go_wp2_with fail
    refine (HW.out _).mono ?_
    rintro e w1 ⟨rfl, rfl⟩
    have d := HK0.out.2
    clear HK0 HF HT HIN HW
    go_wp2
    go_ret
    exact ⟨rfl, d⟩
  have HW := hide (fun w => within_at r.b r.l w true (hide (decide_eq_true hb)))
  have HBG := hide hb
  clear hb
  have c12 := HK0.out.1.1.cell 12 (.slice e1 r.ts.length cap1) rfl
  go_enter Try.func24, Try.ntmps24
  go_wp2_with fail
  refine (HW.out _).mono ?_
  rintro e w1 ⟨rfl, rfl⟩
  clear HW
  go_wp2_with fail
  refine gen_calls (fun x => Hid (Keeps w x [(w.heap.size, 28, rcA r (.slice e1 r.ts.length cap1) (.slice e2 r.ds.length cap2))])) HK0 ?_
  clear HK0 c0 c1 c11 c12
  intro x0 HK0
  by_cases ht : r.ts.length ≤ 16 ∧ ∀ i, i < r.ts.length → txAt r.l r.ts i
  case neg =>
    obtain rfl := HF.out (fun h => ht ⟨(h.2.2.2.2.2.2 hk).1, (h.2.2.2.2.2.2 hk).2.2.1⟩)
    refine (rtxns_at _ r.ts r.l x0 false (hide ⟨fun h => (nomatch h), fun h => absurd h ht⟩) (HIN.out.below HK0.out.2).1).mono ?_
    rintro e w2 ⟨rfl, hb2⟩
    have d := (HK0.out.later hb2).2
    clear HK0 HF HT HIN hb2 ht HBG
    go_wp2
    go_ret
    exact ⟨rfl, d⟩
  refine (rtxns_at _ r.ts r.l x0 true (hide ⟨fun _ => ht, fun _ => rfl⟩) (HIN.out.below HK0.out.2).1).mono ?_
  rintro e w2 ⟨rfl, hb2⟩
  have HK2 := hide (HK0.out.later hb2)
  have HTX := hide ht
  clear HK0 hb2 ht
  have c1 := HK2.out.1.1.cell 1 (.int .u64 (r.l : Int)) rfl
  have c13 := HK2.out.1.1.cell 13 (.slice e2 r.ds.length cap2) rfl
  have HQ2 : Hid (q = true ↔ r.ds.length ≤ 32 ∧ ∀ i, i < r.ds.length → diAt r.l r.ds i) := by
    constructor
    · intro h
      by_cases hd : r.ds.length ≤ 32 ∧ ∀ i, i < r.ds.length → diAt r.l r.ds i
      · exact hd
      · rw [HF.out (fun h => hd ⟨(h.2.2.2.2.2.2 hk).2.1, (h.2.2.2.2.2.2 hk).2.2.2.1⟩)] at h
        cases h
    · intro hd
      exact HT.out ⟨by omega, by omega, fun h => absurd h (by omega), fun h => absurd h (by omega), fun h => absurd h (by omega), fun h => absurd h (by omega), fun _ => ⟨HTX.out.1, hd.1, HTX.out.2, hd.2, HBG.out.1, HBG.out.2⟩⟩
  go_wp2_with fail
  refine (rdirty_at _ r.ds r.l w2 q HQ2 (HIN.out.below HK2.out.2).2).mono ?_
  rintro e w3 ⟨rfl, hb3⟩
  have d := (HK2.out.later hb3).2
  clear HK2 HF HT HIN hb3 HTX HBG HQ2 c1 c13
  go_wp2
  go_ret
  exact ⟨rfl, d⟩

set_option maxRecDepth 4000 in
set_option maxHeartbeats 1600000 in
theorem uses_no (r : Rec) (va vb : Value) (w : World) (q : Bool) (Hq : Hid (q = true ↔ r.uses)) (hin : RcIn w r va vb) (hk : r.k < 1 ∨ 8 < r.k) :
    Calls Try.prog 24 #[.agg (rcA r va vb)] w fun e w' => e = .returned (.bool q) ∧ Below w.heap.size w w' := by
  have HIN := hide hin
  obtain ⟨⟨e1, cap1, rfl, -⟩, ⟨e2, cap2, rfl, -⟩⟩ := hin
  have HK0 := hide (Keeps.one w 28 (rcA r (.slice e1 r.ts.length cap1) (.slice e2 r.ds.length cap2)))
  have HF : Hid (¬ r.uses → q = false) := fun h => by
    cases q
    · rfl
    · exact absurd (Hq.out.1 rfl) h
  have HT : Hid (r.uses → q = true) := fun h => Hq.out.2 h
  clear Hq
  have c0 := HK0.out.1.1.cell 0 (.int .i64 r.k) rfl
  have n1 := beq_no' (a := r.k) (b := 1) (by omega)
  have n2 := beq_no' (a := r.k) (b := 2) (by omega)
  have n3 := beq_no' (a := r.k) (b := 3) (by omega)
  have n4 := beq_no' (a := r.k) (b := 4) (by omega)
  have n5 := beq_no' (a := r.k) (b := 5) (by omega)
  have n6 := beq_no' (a := r.k) (b := 6) (by omega)
  have n7 := beq_no' (a := r.k) (b := 7) (by omega)
  have n8 := beq_no' (a := r.k) (b := 8) (by omega)
  obtain rfl := HF.out (fun h => by have := h.1; have := h.2.1; omega)
  have d := HK0.out.2
  clear HK0 HF HT HIN hk
  go_enter Try.func24, Try.ntmps24
  go_wp2
  go_ret
  exact ⟨rfl, d⟩

/-- THE CONTRACT. -/
theorem uses_any (r : Rec) (va vb : Value) (w : World) (q : Bool) (Hq : Hid (q = true ↔ r.uses)) (hin : RcIn w r va vb) :
    Calls Try.prog 24 #[.agg (rcA r va vb)] w fun e w' => e = .returned (.bool q) ∧ Below w.heap.size w w' := by
  by_cases hk : r.k < 1 ∨ 8 < r.k
  · exact uses_no r va vb w q Hq hin hk
  by_cases h1 : r.k = 1
  · exact uses_1 r va vb w q Hq hin h1
  by_cases h2 : r.k = 2
  · exact uses_2 r va vb w q Hq hin h2
  by_cases h3 : r.k = 3
  · exact uses_3 r va vb w q Hq hin h3
  by_cases h4 : r.k = 4
  · exact uses_4 r va vb w q Hq hin h4
  by_cases h5 : r.k = 5
  · exact uses_5 r va vb w q Hq hin h5
  by_cases h6 : r.k = 6
  · exact uses_6 r va vb w q Hq hin h6
  by_cases h7 : r.k = 7
  · exact uses_7 r va vb w q Hq hin h7
  exact uses_8 r va vb w q Hq hin (by omega)
end Go.Proofs.Ytmapgfakfeddmaa
