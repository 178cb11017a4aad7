/-
  Texts that lean on one another, one behind the other: each opens with its own remark.
-/
import Derived.Test.YtbnlkfcaahgpmaaRows
import Derived.Test.YtbnlkfcaahgpmaaK01
import Derived.Test.YtbnlkfcaahgpmaaK12
import Derived.Test.YtbnlkfcaahgpmaaK10
import Derived.Test.YtbnlkfcaahgpmaaK11
import Derived.Test.YtbnlkfcaahgpmaaK09
import Derived.Test.YtbnlkfcaahgpmaaK08
import Derived.Test.YtbnlkfcaahgpmaaK04
import Derived.Test.YtbnlkfcaahgpmaaK05

/-
  The contract of quaysideref06.Right, of checkpoints.
-/
namespace Go.Proofs.Ytbnlkfcaahgpmaa
open Go.RowKit
set_option linter.unusedVariables false

set_option maxRecDepth 8000 in
set_option maxHeartbeats 3200000 in
theorem rright6_7 (r : Rec) (va vb : Value) (w : World) (q : Bool) (Hq : Hid (q = true ↔ r.right)) (hk : r.k = 7) (hf : r.c.fits) (hin : RcIn w r va vb) :
    Calls Try.prog 29 #[.agg (rcA r va vb)] w fun e w' => e = .returned (.bool q) ∧ Below w.heap.size w w' := by
  have HIN := hide hin
  obtain ⟨⟨e1, cap1, rfl, -⟩, ⟨e2, cap2, rfl, -⟩⟩ := hin
  have HFI := hide hf
  clear hf
  have HK0 := hide (Keeps.one w 30 (rcA r (.slice e1 r.ts.length cap1) (.slice e2 r.ds.length cap2)))
  have HF : Hid (¬ r.right → q = false) := fun h => by
    cases q
    · rfl
    · exact absurd (Hq.out.1 rfl) h
  have HT : Hid (r.right → q = true) := fun h => Hq.out.2 h
  have HOW := hide (fun w => own_at r.k w false (hide (decide_eq_false (by omega))))
  rw [hk] at HOW
  by_cases l1 : (r.l : Int) < 1
  case pos =>
    obtain rfl := HF.out (fun h => by have := h.l1; omega)
    clear HF HT Hq HFI HIN
    obtain ⟨c0, c1, -⟩ := rc_cells HK0.out.1.1
    rw [hk] at c0
    have hb0 := HK0.out.2
    clear HK0 HOW
    go_enter Try.func29, Try.ntmps29
    go_wp2
    go_ret
    exact ⟨rfl, hb0⟩
  by_cases l2 : (4611686018427387904 : Int) < (r.l : Int)
  case pos =>
    obtain rfl := HF.out (fun h => by have := h.lm; unfold maxP at this; omega)
    clear HF HT Hq HFI HIN
    obtain ⟨c0, c1, -⟩ := rc_cells HK0.out.1.1
    rw [hk] at c0
    have hb0 := HK0.out.2
    clear HK0 HOW
    go_enter Try.func29, Try.ntmps29
    go_wp2
    go_ret
    exact ⟨rfl, hb0⟩
  obtain ⟨c0, c1, -⟩ := rc_cells HK0.out.1.1
  rw [hk] at c0
  go_enter Try.func29, Try.ntmps29
  go_wp2_with fail
  refine gen_calls (fun x => Hid (Keeps w x [(w.heap.size, 30, rcA r (.slice e1 r.ts.length cap1) (.slice e2 r.ds.length cap2))])) HK0 ?_
  clear HK0 c0 c1
  intro w0 HK0
  obtain ⟨c0, c1, c2, c3, c9, c10, c11, c12, c13⟩ := rc_cells HK0.out.1.1
  rw [hk] at c0
  have hb0 := HK0.out.2
  refine (HOW.out _).mono ?_
  rintro e w1 ⟨rfl, rfl⟩
  go_wp2_with fail
  refine (HOW.out _).mono ?_
  rintro e w1 ⟨rfl, rfl⟩
  clear HOW
  by_cases t1 : ¬ r.t = 0
  case pos =>
    obtain rfl := HF.out (fun h => t1 (h.none (by omega)).1)
    have t1e : (r.t == 0) = false := by rw [beq_eq_false_iff_ne]; exact t1
    have t1f : (r.t != 0) = true := by rw [bne, t1e]; rfl
    clear HF HT Hq HFI HIN
    clear HK0 c9 c10 c11 c12 c13
    go_wp2
    go_ret
    exact ⟨rfl, hb0⟩
  have t1e : r.t = 0 := Decidable.of_not_not t1
  by_cases p1 : ¬ (r.p : Int) = 0
  case pos =>
    obtain rfl := HF.out (fun h => by have := h.none (by omega); omega)
    have p1e : ((r.p : Int) == 0) = false := by rw [beq_eq_false_iff_ne]; exact p1
    have p1f : ((r.p : Int) != 0) = true := by rw [bne, p1e]; rfl
    clear HF HT Hq HFI HIN
    clear HK0 c9 c10 c11 c12 c13
    go_wp2
    go_ret
    exact ⟨rfl, hb0⟩
  have p1e : (r.p : Int) = 0 := Decidable.of_not_not p1
  obtain ⟨d4, d5, d6, d7, d8⟩ := rc_chg HK0.out.1.1
  by_cases f1 : r.c.k = 0
  case neg =>
    obtain rfl := HF.out (fun h => f1 (by rw [h.noch (by omega)]; rfl))
    clear HF HT Hq HFI HIN HK0
    go_wp2
    go_ret
    exact ⟨rfl, hb0⟩
  by_cases f2 : r.c.pg = 0
  case neg =>
    obtain rfl := HF.out (fun h => f2 (by rw [h.noch (by omega)]; rfl))
    clear HF HT Hq HFI HIN HK0
    go_wp2
    go_ret
    exact ⟨rfl, hb0⟩
  by_cases f3 : r.c.sl = 0
  case neg =>
    obtain rfl := HF.out (fun h => f3 (by rw [h.noch (by omega)]; rfl))
    clear HF HT Hq HFI HIN HK0
    go_wp2
    go_ret
    exact ⟨rfl, hb0⟩
  by_cases f4 : r.c.o.toList = []
  case neg =>
    obtain rfl := HF.out (fun h => f4 (by rw [h.noch (by omega)]; exact zero_list))
    clear HF HT Hq HFI HIN HK0
    go_wp2
    go_ret
    exact ⟨rfl, hb0⟩
  by_cases f5 : r.c.n.toList = []
  case neg =>
    obtain rfl := HF.out (fun h => f5 (by rw [h.noch (by omega)]; exact zero_list))
    clear HF HT Hq HFI HIN HK0
    go_wp2
    go_ret
    exact ⟨rfl, hb0⟩
  have HCC := hide (ch_zero r.c f1 f2 f3 f4 f5)
  by_cases n1 : ¬ (r.n : Int) = 0
  case pos =>
    obtain rfl := HF.out (fun h => by have := h.nonext (by omega); omega)
    have n1e : ((r.n : Int) == 0) = false := by rw [beq_eq_false_iff_ne]; exact n1
    have n1f : ((r.n : Int) != 0) = true := by rw [bne, n1e]; rfl
    clear HF HT Hq HFI HIN
    go_wp2
    go_ret
    exact ⟨rfl, hb0⟩
  have n1e : (r.n : Int) = 0 := Decidable.of_not_not n1
  by_cases s1 : ¬ r.s = 0
  case pos =>
    obtain rfl := HF.out (fun h => s1 (h.nosave (by omega)))
    have s1e : (r.s == 0) = false := by rw [beq_eq_false_iff_ne]; exact s1
    have s1f : (r.s != 0) = true := by rw [bne, s1e]; rfl
    clear HF HT Hq HFI HIN
    go_wp2
    go_ret
    exact ⟨rfl, hb0⟩
  have s1e : r.s = 0 := Decidable.of_not_not s1
  by_cases b1 : ¬ (r.b : Int) = 0
  case pos =>
    obtain rfl := HF.out (fun h => by have := h.nocheck (by omega); omega)
    have b1e : ((r.b : Int) == 0) = false := by rw [beq_eq_false_iff_ne]; exact b1
    have b1f : ((r.b : Int) != 0) = true := by rw [bne, b1e]; rfl
    clear HF HT Hq HFI HIN
    go_wp2
    go_ret
    exact ⟨rfl, hb0⟩
  have b1e : (r.b : Int) = 0 := Decidable.of_not_not b1
  by_cases z1 : ¬ (r.ts.length : Int) = 0
  case pos =>
    obtain rfl := HF.out (fun h => by have := (h.nocheck (by omega)).2.1; rw [this] at z1; exact z1 rfl)
    have z1e : ((r.ts.length : Int) == 0) = false := by rw [beq_eq_false_iff_ne]; exact z1
    have z1f : ((r.ts.length : Int) != 0) = true := by rw [bne, z1e]; rfl
    clear HF HT Hq HFI HIN
    go_wp2
    go_ret
    exact ⟨rfl, hb0⟩
  have z1e : (r.ts.length : Int) = 0 := Decidable.of_not_not z1
  by_cases z2 : ¬ (r.ds.length : Int) = 0
  case pos =>
    obtain rfl := HF.out (fun h => by have := (h.nocheck (by omega)).2.2; rw [this] at z2; exact z2 rfl)
    have z2e : ((r.ds.length : Int) == 0) = false := by rw [beq_eq_false_iff_ne]; exact z2
    have z2f : ((r.ds.length : Int) != 0) = true := by rw [bne, z2e]; rfl
    clear HF HT Hq HFI HIN
    go_wp2
    go_ret
    exact ⟨rfl, hb0⟩
  have z2e : (r.ds.length : Int) = 0 := Decidable.of_not_not z2
  obtain rfl := HT.out ⟨by omega, by omega, by omega, by unfold maxP; omega, fun h => absurd h (by omega), fun _ => ⟨by omega, by omega⟩, fun h => absurd h (by omega), fun _ => HCC.out, fun h => absurd h (by omega), fun _ => by omega, fun h => absurd h (by omega), fun _ => by omega, fun h => absurd h (by omega), fun _ => ⟨by omega, List.eq_nil_of_length_eq_zero (by omega), List.eq_nil_of_length_eq_zero (by omega)⟩⟩
  clear HF HT Hq HFI HIN HCC
  go_wp2
  go_ret
  exact ⟨rfl, hb0⟩

set_option maxRecDepth 8000 in
set_option maxHeartbeats 3200000 in
theorem rright6_8 (r : Rec) (va vb : Value) (w : World) (q : Bool) (Hq : Hid (q = true ↔ r.right)) (hk : r.k = 8) (hf : r.c.fits) (hin : RcIn w r va vb) :
    Calls Try.prog 29 #[.agg (rcA r va vb)] w fun e w' => e = .returned (.bool q) ∧ Below w.heap.size w w' := by
  have HIN := hide hin
  obtain ⟨⟨e1, cap1, rfl, -⟩, ⟨e2, cap2, rfl, -⟩⟩ := hin
  have HFI := hide hf
  clear hf
  have HK0 := hide (Keeps.one w 30 (rcA r (.slice e1 r.ts.length cap1) (.slice e2 r.ds.length cap2)))
  have HF : Hid (¬ r.right → q = false) := fun h => by
    cases q
    · rfl
    · exact absurd (Hq.out.1 rfl) h
  have HT : Hid (r.right → q = true) := fun h => Hq.out.2 h
  have HOW := hide (fun w => own_at r.k w false (hide (decide_eq_false (by omega))))
  rw [hk] at HOW
  by_cases l1 : (r.l : Int) < 1
  case pos =>
    obtain rfl := HF.out (fun h => by have := h.l1; omega)
    clear HF HT Hq HFI HIN
    obtain ⟨c0, c1, -⟩ := rc_cells HK0.out.1.1
    rw [hk] at c0
    have hb0 := HK0.out.2
    clear HK0 HOW
    go_enter Try.func29, Try.ntmps29
    go_wp2
    go_ret
    exact ⟨rfl, hb0⟩
  by_cases l2 : (4611686018427387904 : Int) < (r.l : Int)
  case pos =>
    obtain rfl := HF.out (fun h => by have := h.lm; unfold maxP at this; omega)
    clear HF HT Hq HFI HIN
    obtain ⟨c0, c1, -⟩ := rc_cells HK0.out.1.1
    rw [hk] at c0
    have hb0 := HK0.out.2
    clear HK0 HOW
    go_enter Try.func29, Try.ntmps29
    go_wp2
    go_ret
    exact ⟨rfl, hb0⟩
  obtain ⟨c0, c1, -⟩ := rc_cells HK0.out.1.1
  rw [hk] at c0
  go_enter Try.func29, Try.ntmps29
  go_wp2_with fail
  refine gen_calls (fun x => Hid (Keeps w x [(w.heap.size, 30, rcA r (.slice e1 r.ts.length cap1) (.slice e2 r.ds.length cap2))])) HK0 ?_
  clear HK0 c0 c1
  intro w0 HK0
  obtain ⟨c0, c1, c2, c3, c9, c10, c11, c12, c13⟩ := rc_cells HK0.out.1.1
  rw [hk] at c0
  have hb0 := HK0.out.2
  refine (HOW.out _).mono ?_
  rintro e w1 ⟨rfl, rfl⟩
  go_wp2_with fail
  refine (HOW.out _).mono ?_
  rintro e w1 ⟨rfl, rfl⟩
  clear HOW
  by_cases t1 : ¬ r.t = 0
  case pos =>
    obtain rfl := HF.out (fun h => t1 (h.none (by omega)).1)
    have t1e : (r.t == 0) = false := by rw [beq_eq_false_iff_ne]; exact t1
    have t1f : (r.t != 0) = true := by rw [bne, t1e]; rfl
    clear HF HT Hq HFI HIN
    clear HK0 c9 c10 c11 c12 c13
    go_wp2
    go_ret
    exact ⟨rfl, hb0⟩
  have t1e : r.t = 0 := Decidable.of_not_not t1
  by_cases p1 : ¬ (r.p : Int) = 0
  case pos =>
    obtain rfl := HF.out (fun h => by have := h.none (by omega); omega)
    have p1e : ((r.p : Int) == 0) = false := by rw [beq_eq_false_iff_ne]; exact p1
    have p1f : ((r.p : Int) != 0) = true := by rw [bne, p1e]; rfl
    clear HF HT Hq HFI HIN
    clear HK0 c9 c10 c11 c12 c13
    go_wp2
    go_ret
    exact ⟨rfl, hb0⟩
  have p1e : (r.p : Int) = 0 := Decidable.of_not_not p1
  obtain ⟨d4, d5, d6, d7, d8⟩ := rc_chg HK0.out.1.1
  by_cases f1 : r.c.k = 0
  case neg =>
    obtain rfl := HF.out (fun h => f1 (by rw [h.noch (by omega)]; rfl))
    clear HF HT Hq HFI HIN HK0
    go_wp2
    go_ret
    exact ⟨rfl, hb0⟩
  by_cases f2 : r.c.pg = 0
  case neg =>
    obtain rfl := HF.out (fun h => f2 (by rw [h.noch (by omega)]; rfl))
    clear HF HT Hq HFI HIN HK0
    go_wp2
    go_ret
    exact ⟨rfl, hb0⟩
  by_cases f3 : r.c.sl = 0
  case neg =>
    obtain rfl := HF.out (fun h => f3 (by rw [h.noch (by omega)]; rfl))
    clear HF HT Hq HFI HIN HK0
    go_wp2
    go_ret
    exact ⟨rfl, hb0⟩
  by_cases f4 : r.c.o.toList = []
  case neg =>
    obtain rfl := HF.out (fun h => f4 (by rw [h.noch (by omega)]; exact zero_list))
    clear HF HT Hq HFI HIN HK0
    go_wp2
    go_ret
    exact ⟨rfl, hb0⟩
  by_cases f5 : r.c.n.toList = []
  case neg =>
    obtain rfl := HF.out (fun h => f5 (by rw [h.noch (by omega)]; exact zero_list))
    clear HF HT Hq HFI HIN HK0
    go_wp2
    go_ret
    exact ⟨rfl, hb0⟩
  have HCC := hide (ch_zero r.c f1 f2 f3 f4 f5)
  by_cases n1 : ¬ (r.n : Int) = 0
  case pos =>
    obtain rfl := HF.out (fun h => by have := h.nonext (by omega); omega)
    have n1e : ((r.n : Int) == 0) = false := by rw [beq_eq_false_iff_ne]; exact n1
    have n1f : ((r.n : Int) != 0) = true := by rw [bne, n1e]; rfl
    clear HF HT Hq HFI HIN
    go_wp2
    go_ret
    exact ⟨rfl, hb0⟩
  have n1e : (r.n : Int) = 0 := Decidable.of_not_not n1
  by_cases s1 : ¬ r.s = 0
  case pos =>
    obtain rfl := HF.out (fun h => s1 (h.nosave (by omega)))
    have s1e : (r.s == 0) = false := by rw [beq_eq_false_iff_ne]; exact s1
    have s1f : (r.s != 0) = true := by rw [bne, s1e]; rfl
    clear HF HT Hq HFI HIN
    go_wp2
    go_ret
    exact ⟨rfl, hb0⟩
  have s1e : r.s = 0 := Decidable.of_not_not s1
  have HRW := hide (fun w hin => rows_at r (.slice e1 r.ts.length cap1) (.slice e2 r.ds.length cap2) w q (hide ⟨fun h => (Hq.out.1 h).check hk, fun h => HT.out ⟨by omega, by omega, by omega, by unfold maxP; omega, fun h => absurd h (by omega), fun _ => ⟨by omega, by omega⟩, fun h => absurd h (by omega), fun _ => HCC.out, fun h => absurd h (by omega), fun _ => by omega, fun h => absurd h (by omega), fun _ => by omega, fun _ => h, fun h2 => absurd hk h2⟩⟩) hin)
  clear HF HT Hq HFI HCC
  have hA : rcA r (.slice e1 r.ts.length cap1) (.slice e2 r.ds.length cap2) = #[.int .i64 8, .int .u64 (r.l : Int), .int .i64 0, .int .u64 0, .int .i64 0, .int .i64 0, .int .i64 0, .string r.c.o, .string r.c.n, .int .u64 0, .int .i64 0, .int .u64 (r.b : Int), .slice e1 r.ts.length cap1, .slice e2 r.ds.length cap2] := by
    unfold rcA
    rw [hk, t1e, p1e, f1, f2, f3, n1e, s1e]
  rw [hA] at HRW
  clear hA
  go_wp2_with fail
  refine (HRW.out _ (HIN.out.below HK0.out.2)).mono ?_
  rintro e w2 ⟨rfl, hb2⟩
  have d2 := hb0.trans (hb2.mono hb0.size)
  clear hb2 HK0 HIN c0 c1 c2 c3 c9 c10 c11 c12 c13
  go_wp2
  go_ret
  exact ⟨rfl, d2⟩

end Go.Proofs.Ytbnlkfcaahgpmaa

/-
  The contract of quaysideref06.Right, whole.
-/
namespace Go.Proofs.Ytbnlkfcaahgpmaa
open Go.RowKit
set_option linter.unusedVariables false

set_option maxRecDepth 8000 in
set_option maxHeartbeats 1600000 in
theorem rright6_no (r : Rec) (va vb : Value) (w : World) (hk : r.k < 1 ∨ 8 < r.k) :
    Calls Try.prog 29 #[.agg (rcA r va vb)] w fun e w' => e = .returned (.bool false) ∧ Below w.heap.size w w' := by
  have HK0 := hide (Keeps.one w 30 (rcA r va vb))
  obtain ⟨c0, -⟩ := rc_cells HK0.out.1.1
  have hb0 := HK0.out.2
  clear HK0
  generalize r.k = k at *
  by_cases h1 : k < 1
  · clear hk
    go_enter Try.func29, Try.ntmps29
    go_wp2
    go_ret
    exact ⟨rfl, hb0⟩
  · have h8 : 8 < k := by omega
    clear hk
    go_enter Try.func29, Try.ntmps29
    go_wp2
    go_ret
    exact ⟨rfl, hb0⟩

/-- THE CONTRACT. -/
theorem rright6_any (r : Rec) (va vb : Value) (w : World) (hf : r.c.fits) (hin : RcIn w r va vb) :
    Calls Try.prog 29 #[.agg (rcA r va vb)] w fun e w' => e = .returned (.bool r.rightB) ∧ Below w.heap.size w w' := by
  by_cases hk : r.k < 1 ∨ 8 < r.k
  · rw [rightB_no (fun h => by have := h.k1; have := h.k8; omega)]
    exact rright6_no r va vb w hk
  · have hq : Hid (r.rightB = true ↔ r.right) := rightB_iff
    by_cases h1 : r.k = 1
    · exact rright6_1 r va vb w _ hq h1 hf hin
    by_cases h2 : r.k = 2
    · exact rright6_2 r va vb w _ hq h2 hf hin
    by_cases h5 : r.k ≤ 5
    · exact rright6_345 r va vb w _ hq (by omega) h5 hf hin
    by_cases h6 : r.k = 6
    · exact rright6_6 r va vb w _ hq h6 hf hin
    by_cases h7 : r.k = 7
    · exact rright6_7 r va vb w _ hq h7 hf hin
    exact rright6_8 r va vb w _ hq (by omega) hf hin
end Go.Proofs.Ytbnlkfcaahgpmaa

/-
  The contract of the document's Good.
-/
namespace Go.Proofs.Ytbnlkfcaahgpmaa
open Go.RowKit
set_option linter.unusedVariables false

set_option maxRecDepth 8000 in
set_option maxHeartbeats 3200000 in
theorem rgood15 (v : Value) (ms : List (Rec × Value × Value)) (w : World) (h : LogIn w v ms) :
    Calls Try.prog 16 #[v] w fun e w' => e = .returned (.bool (riseB 0 (msR ms))) ∧ Below w.heap.size w w' := by
  obtain ⟨q, hq⟩ : ∃ q, q = riseB 0 (msR ms) := ⟨_, rfl⟩
  have HQ : Hid (q = true ↔ Rise 0 (msR ms)) := by rw [hq]; exact riseB_iff _ _
  rw [← hq]
  clear hq
  have HA := hide h
  obtain ⟨aa, ca, rfl, hlc⟩ := h.slice
  have hl := h.few
  clear h
  obtain ⟨ln, hln⟩ : ∃ ln, ln = ms.length := ⟨_, rfl⟩
  rw [← hln] at HA hl hlc ⊢
  have HN := hide hln
  clear hln
  go_enter Try.func16, Try.ntmps16
  go_wp2
  go_loopw [3, 7] (fun v i wr => ∃ (j ll : Nat), j ≤ ln ∧ i = .int .i64 (j : Int) ∧ v = .int .u64 (ll : Int) ∧ ll < 18446744073709551616 ∧ Hid (ll = lastL 0 ((msR ms).take j)) ∧ Hid (Rise 0 ((msR ms).take j)) ∧ Hid (Below w.heap.size w wr)) (fun _ i _ => ln - (intOf i).toNat)
  case atStart => exact ⟨0, 0, Nat.zero_le _, rfl, rfl, by decide, by rw [List.take_zero]; rfl, by rw [List.take_zero]; trivial, Below.refl _ _⟩
  case round =>
    obtain ⟨j, ll, hj, rfl, rfl, hll, HLL, HRI, HBR⟩ := hrel
    by_cases hlt : j < ln
    · have hjm : j < ms.length := by rw [← HN.out]; exact hlt
      have HS := hide (msR_take_succ hjm)
      obtain ⟨b, off, rfl, hf, _, hx⟩ := HA.out.mid hjm
      obtain ⟨m, hm⟩ : ∃ m, m = ms.getD j rcZ := ⟨_, rfl⟩
      rw [← hm] at hf hx HS
      clear hm
      have ij : (j : Int) < (ln : Int) := by omega
      obtain ⟨hr0, hin⟩ := hx wr HBR.out
      have HLD := hide (load_mid wr b (off + j * 14) m hr0)
      have HR := hide (rright6_any m.1 m.2.1 m.2.2 wr hf.c hin)
      have HFX := hide hx
      clear hr0 hf hx hin
      have ex : ∀ P : Prop, ¬ P → (q = true → P) → q = false := fun P h1 h2 => by
        cases hq : q
        · rfl
        · exact absurd (h2 hq) h1
      by_cases hr : m.1.right
      · rw [rightB_yes hr] at HR
        have hrl : m.1.l < 18446744073709551616 := by have := hr.lm; unfold maxP at this; omega
        have HRR := hide hr
        clear hr
        go_wp2_with (refine wpList_load_val rfl 30 (.tmp 12) rfl _ _ rfl HLD.out ?_)
        refine HR.out.mono ?_
        rintro e w1 ⟨rfl, hb1⟩
        have HB1 := hide (HBR.out.trans (hb1.mono HBR.out.size))
        have k1 : w1.cell? ⟨b, off + j * 14 + 1, none⟩ = some (.int .u64 (m.1.l : Int)) := (HFX.out w1 HB1.out).1 1 _ rfl
        clear hb1 HBR HR HLD
        by_cases hle : m.1.l ≤ ll
        · have ile : (m.1.l : Int) ≤ (ll : Int) := by omega
          go_wp2
          go_ret
          refine ⟨?_, HB1.out⟩
          rw [ex (Rise 0 (msR ms)) (fun h1 => by
            have h1 := rise_take _ (j + 1) h1
            rw [HS.out, rise_snoc, ← HLL.out] at h1
            omega) HQ.out.1]
          rfl
        · have ile : ¬ (m.1.l : Int) ≤ (ll : Int) := by omega
          go_wp2
          go_roundw
          case rel =>
            refine ⟨j + 1, m.1.l, by omega, by go_num, rfl, hrl, ?_, ?_, HB1⟩
            · rw [HS.out, last_snoc]
              exact rfl
            · rw [HS.out, rise_snoc, ← HLL.out]
              exact ⟨HRI.out, HRR.out, by omega⟩
          case measure => simp [intOf]; omega
      · rw [rightB_no hr] at HR
        have HRR := hide hr
        clear hr
        go_wp2_with (refine wpList_load_val rfl 30 (.tmp 12) rfl _ _ rfl HLD.out ?_)
        refine HR.out.mono ?_
        rintro e w1 ⟨rfl, hb1⟩
        have HB1 := hide (HBR.out.trans (hb1.mono HBR.out.size))
        clear hb1 HBR HR HLD
        go_wp2
        go_ret
        refine ⟨?_, HB1.out⟩
        rw [ex (Rise 0 (msR ms)) (fun h1 => by
          have h1 := rise_take _ (j + 1) h1
          rw [HS.out, rise_snoc] at h1
          exact HRR.out h1.2.1) HQ.out.1]
        rfl
    · obtain rfl : j = ln := by omega
      go_wp2
      go_ret
      refine ⟨?_, HBR.out⟩
      have h1 := HRI.out
      rw [HN.out, ← msR_len, List.take_length] at h1
      rw [HQ.out.2 h1]
      rfl
end Go.Proofs.Ytbnlkfcaahgpmaa

/-
  The contract of the document's Next: it calls itself.
-/
namespace Go.Proofs.Ytbnlkfcaahgpmaa
open Go.RowKit
set_option linter.unusedVariables false

theorem fields15 {x : World} {g : Nat} {m : Rec × Value × Value} (h : RowAt x g 30 (rcF m)) : x.cell? ⟨g, 0, none⟩ = some (.int .i64 m.1.k) ∧ x.cell? ⟨g, 2, none⟩ = some (.int .i64 m.1.t) ∧ x.cell? ⟨g, 3, none⟩ = some (.int .u64 (m.1.p : Int)) ∧ x.cell? ⟨g, 9, none⟩ = some (.int .u64 (m.1.n : Int)) := ⟨h.cell 0 _ rfl, h.cell 2 _ rfl, h.cell 3 _ rfl, h.cell 9 _ rfl⟩
theorem got15 {l : List Rec} {n : Nat} {m : Rec} (hl : Rise 0 l) (h : getT l n = some m) : m ∈ l ∧ m.l = n := by
  rcases getT_cases l n with ⟨h1, _⟩ | ⟨r, h1, h2, h3⟩
  · rw [h1] at h
    cases h
  · rw [h3] at h
    injection h with h
    subst h
    exact ⟨h1, h2⟩
theorem gone15 {l : List Rec} {n : Nat} (h : getT l n = none) : ∀ r ∈ l, r.l ≠ n := by
  rcases getT_cases l n with ⟨_, h1⟩ | ⟨r, _, _, h3⟩
  · exact h1
  · rw [h3] at h
    cases h
set_option maxRecDepth 8000 in
set_option maxHeartbeats 3200000 in
theorem rnext15_step (v : Value) (ms : List (Rec × Value × Value)) (hr : Rise 0 (msR ms)) (n : Nat) (w : World) (h : LogIn w v ms)
    (ih : ∀ (k : Nat) (x : World), k < n → LogIn x v ms → Calls Try.prog 20 #[v, .int .u64 (k : Int)] x fun e w' => e = .returned (.int .u64 (nextT (msR ms) k : Int)) ∧ Below x.heap.size x w') :
    Calls Try.prog 20 #[v, .int .u64 (n : Int)] w fun e w' => e = .returned (.int .u64 (nextT (msR ms) n : Int)) ∧ Below w.heap.size w w' := by
  have HIH := hide ih
  have HR := hide hr
  have HA := hide h
  obtain ⟨q, hq⟩ : ∃ q, q = nextT (msR ms) n := ⟨_, rfl⟩
  have HQ := hide hq
  rw [← hq]
  have HG := hide (rget15 v ms n w h)
  clear h hr ih hq
  go_enter Try.func20, Try.ntmps20
  go_wp2_with fail
  refine HG.out.mono ?_
  rintro e w1 ⟨m, f, rfl, hcase, hfit, hin, hb1⟩
  have hall := all15 hin
  have hb2 : Below w1.heap.size w1 (w1.alloc (.cells zeroA 30)) := (Below.refl _ _).alloc (Nat.le_refl _) _
  have HZ := hide (And.intro (RowAt.new w1 30 zeroA) (hb1.trans (hb2.mono hb1.size)))
  have HC := hide hcase
  have HSZ := hide hb1.size
  clear hcase hfit hin hb1 hb2 HG
  go_wp2_with (refine wpList_store_at rfl 30 (.tmp 5) (.tmp 11) rfl w1.heap.size zeroA (rcF m) rfl rfl HZ.out.1 infoRc rfl hall ?_; intro w2 hr2 hk2 hrow2; refine stop10 ?_)
  have hb2 := hk2 _ _ HZ.out.2 HSZ.out
  have H2 := hide (And.intro hr2 hb2)
  obtain ⟨c0, c2, c3, c9⟩ := fields15 hr2
  clear hr2 hk2 hrow2 hb2 HZ
  refine unstop10 ?_
  cases f with
  | false =>
    go_wp2
    go_ret
    refine ⟨?_, H2.out.2⟩
    rcases HC.out with ⟨h1, _⟩ | ⟨_, h1, _⟩
    · cases h1
    · rw [HQ.out, nextT_none (gone15 h1)]
      rfl
  | true =>
    have hmem : m.1 ∈ msR ms ∧ m.1.l = n := by
      rcases HC.out with ⟨_, h1⟩ | ⟨h1, _⟩
      · exact got15 HR.out h1
      · cases h1
    have hmR := rise_right _ 0 HR.out _ hmem.1
    have HST := hide (show nextT (msR ms) m.1.l = stepT (msR ms) m.1 from nextT_step HR.out hmem.1)
    have hlp := right_prev hmR
    have hln2 := right_next hmR
    rw [hmem.2] at HST hlp hln2
    have HJ := hide hmem.2
    clear hmem hmR
    by_cases k1 : m.1.k = 1
    · go_wp2
      go_ret
      refine ⟨?_, H2.out.2⟩
      rw [HQ.out, HST.out, stepT, if_pos k1, HJ.out]
      rfl
    · by_cases k2 : m.1.k = 2
      · have HN := hide (HIH.out m.1.n w2 hln2 (HA.out.below H2.out.2))
        go_wp2_with fail
        refine HN.out.mono ?_
        rintro e w3 ⟨rfl, hb3⟩
        have HB3 := hide (H2.out.2.trans (hb3.mono H2.out.2.size))
        clear hb3 HN
        go_wp2
        go_ret
        refine ⟨?_, HB3.out⟩
        rw [HQ.out, HST.out, stepT, if_neg k1, if_pos k2]
        rfl
      · have HN := hide (HIH.out m.1.p w2 hlp (HA.out.below H2.out.2))
        go_wp2_with fail
        refine HN.out.mono ?_
        rintro e w3 ⟨rfl, hb3⟩
        have HB3 := hide (H2.out.2.trans (hb3.mono H2.out.2.size))
        clear hb3 HN
        go_wp2
        go_ret
        refine ⟨?_, HB3.out⟩
        rw [HQ.out, HST.out, stepT, if_neg k1, if_neg k2]
        rfl
theorem rnext15 (v : Value) (ms : List (Rec × Value × Value)) (hr : Rise 0 (msR ms)) (n : Nat) (w : World) (h : LogIn w v ms) :
    Calls Try.prog 20 #[v, .int .u64 (n : Int)] w fun e w' => e = .returned (.int .u64 (nextT (msR ms) n : Int)) ∧ Below w.heap.size w w' := by
  induction n using Nat.strongRecOn generalizing w with
  | ind n ih => exact rnext15_step v ms hr n w h (fun k x hk hx => ih k hk x hx)
end Go.Proofs.Ytbnlkfcaahgpmaa

/-
  The contract of quaysideref04.Right.
-/
namespace Go.Proofs.Ytbnlkfcaahgpmaa
open Go.RowKit
set_option linter.unusedVariables false

theorem right_no (p : Pg) (j : Nat) (hj : j < 8) (h : ¬ cellOk (p.u j) (p.s j)) : decide p.right = false := by
  rw [decide_eq_false_iff_not]
  intro hp
  exact h (hp.2 j hj)
theorem ok_more {p : Pg} {j : Nat} (h : ∀ k, k < j → cellOk (p.u k) (p.s k)) (hj : cellOk (p.u j) (p.s j)) : ∀ k, k < j + 1 → cellOk (p.u k) (p.s k) := by
  intro k hk
  by_cases hkj : k = j
  · subst hkj
    exact hj
  · exact h k (by omega)

end Go.Proofs.Ytbnlkfcaahgpmaa

/-
  The contracts of quaysideref05's Inverse and Cells.
-/
namespace Go.Proofs.Ytbnlkfcaahgpmaa
open Go.RowKit
set_option linter.unusedVariables false

set_option maxRecDepth 4000 in
set_option maxHeartbeats 400000 in
theorem rinv_any (c : Ch) (w : World) :
    Calls Try.prog 33 #[.agg (chA c)] w fun e w' => e = .returned (.tuple #[.agg (chA (invC c)), .int .i64 (invE c)]) ∧ Below w.heap.size w w' := by
  have hb0 : Below w.heap.size w (w.alloc (.cells (chA c) 26)) := (Below.refl _ _).alloc (Nat.le_refl _) _
  have H0 : Hid (RowAt ((w.alloc (.cells (chA c) 26)).alloc (.cells (chA Ch.zero) 26)) w.heap.size 26 (chA c) ∧ RowAt ((w.alloc (.cells (chA c) 26)).alloc (.cells (chA Ch.zero) 26)) (w.heap.size + 1) 26 (chA Ch.zero) ∧ Below w.heap.size w ((w.alloc (.cells (chA c) 26)).alloc (.cells (chA Ch.zero) 26))) := by
    have e : (w.alloc (.cells (chA c) 26)).heap.size = w.heap.size + 1 := by simp
    refine ⟨(RowAt.new w _ _).below ((Below.refl _ _).alloc (Nat.le_refl _) _) (by simp), ?_, hb0.alloc (by simp) _⟩
    have h := RowAt.new (w.alloc (.cells (chA c) 26)) 26 (chA Ch.zero)
    rw [e] at h
    exact h
  have R := fun w => rcright_any c w
  go_enter Try.func33, Try.ntmps33
  obtain ⟨g2, hg2⟩ : ∃ g, g = w.heap.size + 1 := ⟨_, rfl⟩
  rw [← hg2] at H0
  have hlt : w.heap.size < g2 := by omega
  by_cases h : c.right
  · have e1 : invE c = 0 := by unfold invE; rw [if_pos h]
    have e2 : invC c = ⟨4 - c.k, c.pg, c.sl, c.n, c.o⟩ := by unfold invC; rw [if_pos h]
    have hk : 1 ≤ c.k ∧ c.k ≤ 3 := by rcases h.2 with h | h | h <;> omega
    rw [decide_eq_true h] at R
    rw [e1, e2]
    have HR := hide R
    clear R e1 e2 hb0 h
    go_wp2_with (refine wpList_load_at rfl 26 _ rfl w.heap.size rfl (chA c) H0.out.1 _ Try.underlying26 rfl infoCh ?_)
    rw [← hg2]
    refine gen_calls (fun x => Hid (RowAt x w.heap.size 26 (chA c) ∧ RowAt x g2 26 (chA Ch.zero) ∧ Below w.heap.size w x)) H0 ?_
    clear H0 hg2
    intro w1 H1
    refine (HR.out _).mono ?_
    rintro e w2 ⟨rfl, hb2⟩
    have H2 : Hid (RowAt w2 g2 26 (chA Ch.zero) ∧ Below w.heap.size w w2) := ⟨H1.out.2.1.later hb2, H1.out.2.2.trans (hb2.mono H1.out.2.2.size)⟩
    obtain ⟨a0, a1, a2, a3, a4⟩ := ChAt.all (show ChAt w2 w.heap.size c from H1.out.1.later hb2)
    clear H1 hb2 HR
    go_wp2_with (refine wpList_store_at rfl 26 _ _ rfl g2 (chA Ch.zero) (chA ⟨4 - c.k, c.pg, c.sl, c.n, c.o⟩) rfl rfl H2.out.1 infoCh rfl (chA_one _) ?_)
    intro w3 hR3 hk _
    have d3 := hk _ _ H2.out.2 (Nat.le_of_lt hlt)
    clear hk H2 a0 a1 a2 a3 a4
    have HR3 := hide hR3
    clear hR3
    go_wp2
    exact bodyPost_ret (res_at rfl _ _ g2 _ _ rfl HR3.out Try.underlying26 rfl infoCh) rfl ⟨rfl, d3⟩
  · have e1 : invE c = 1 := by unfold invE; rw [if_neg h]
    have e2 : invC c = Ch.zero := by unfold invC; rw [if_neg h]
    rw [decide_eq_false h] at R
    rw [e1, e2]
    have HR := hide R
    clear R e1 e2 hb0 h
    go_wp2_with (refine wpList_load_at rfl 26 _ rfl w.heap.size rfl (chA c) H0.out.1 _ Try.underlying26 rfl infoCh ?_)
    rw [← hg2]
    refine gen_calls (fun x => Hid (RowAt x w.heap.size 26 (chA c) ∧ RowAt x g2 26 (chA Ch.zero) ∧ Below w.heap.size w x)) H0 ?_
    clear H0 hg2
    intro w1 H1
    refine (HR.out _).mono ?_
    rintro e w2 ⟨rfl, hb2⟩
    have H2 : Hid (RowAt w2 g2 26 (chA Ch.zero) ∧ Below w.heap.size w w2) := ⟨H1.out.2.1.later hb2, H1.out.2.2.trans (hb2.mono H1.out.2.2.size)⟩
    clear H1 hb2 HR
    go_wp2_with (refine wpList_store_at rfl 26 _ _ rfl g2 (chA Ch.zero) (chA Ch.zero) rfl rfl H2.out.1 infoCh rfl (chA_one _) ?_)
    intro w3 hR3 hk _
    have d3 := hk _ _ H2.out.2 (Nat.le_of_lt hlt)
    clear hk H2
    have HR3 := hide hR3
    clear hR3
    go_wp2
    exact bodyPost_ret (res_at rfl _ _ g2 _ _ rfl HR3.out Try.underlying26 rfl infoCh) rfl ⟨rfl, d3⟩


end Go.Proofs.Ytbnlkfcaahgpmaa

/-
  The contract of the document's Clr: the record that takes a change back.
-/
namespace Go.Proofs.Ytbnlkfcaahgpmaa
open Go.RowKit
set_option linter.unusedVariables false

theorem load_chz (y : World) (g : Nat) (m : Rec × Value × Value) (h : RowAt y g 30 (rcF m)) : (Instr.loadAt 26 (.pointer (some ⟨g, 4, none⟩))).run Try.prog y = .ok (.agg (chA m.1.c)) y := by
  have h1 := load_chg y g 0 m (fun j u hu => by rw [Nat.zero_add]; exact h.cell j u (by simpa using hu))
  rwa [Nat.zero_add] at h1
set_option maxRecDepth 8000 in
set_option maxHeartbeats 3200000 in
theorem rclr15 (v : Value) (ms : List (Rec × Value × Value)) (n : Nat) (w : World) (h : LogIn w v ms) (hr : Rise 0 (msR ms)) :
    Calls Try.prog 19 #[v, .int .u64 (n : Int)] w fun e w' => e = .returned (.tuple #[.agg (rcF (clrA (msR ms) n).1), .int .i64 (clrA (msR ms) n).2]) ∧ Below w.heap.size w w' := by
  have hb0 : Below w.heap.size w (w.alloc (.cells zeroA 30)) := (Below.refl _ _).alloc (Nat.le_refl _) _
  obtain ⟨gR, hgR⟩ : ∃ g, g = w.heap.size := ⟨_, rfl⟩
  have H0 : Hid (RowAt (w.alloc (.cells zeroA 30)) gR 30 zeroA ∧ Below w.heap.size w (w.alloc (.cells zeroA 30))) := by
    rw [hgR]
    exact ⟨RowAt.new w _ _, hb0⟩
  clear hb0
  have hall0 : zeroA.all (·.oneCell') = true := by simp [zeroA, Value.oneCell']
  have HG := hide (fun x (hx : Below w.heap.size w x) => rget15 v ms n x (h.below hx))
  have HNX := hide (fun x k (hb : Below w.heap.size w x) => rnext15 v ms hr k x (h.below hb))
  have HR := hide hr
  have HGR := hide hgR
  clear h hr
  obtain ⟨A, hA⟩ : ∃ A, A = clrA (msR ms) n := ⟨_, rfl⟩
  rw [← hA]
  have HA := hide hA
  clear hA
  go_enter Try.func19, Try.ntmps19
  go_wp2_with fail
  rw [← hgR]
  refine gen_calls (fun x => RowAt x gR 30 zeroA ∧ Below w.heap.size w x) H0.out ?_
  intro y HY
  have HYY := hide HY
  clear HY H0 hgR
  refine (HG.out y HYY.out.2).mono ?_
  rintro e w1 ⟨m, f, rfl, hcase, hfit, hin, hb1⟩
  have hall := all15 hin
  have hb2 : Below w1.heap.size w1 (w1.alloc (.cells zeroA 30)) := (Below.refl _ _).alloc (Nat.le_refl _) _
  obtain ⟨gM, hgM⟩ : ∃ g, g = w1.heap.size := ⟨_, rfl⟩
  have HZ : Hid (RowAt (w1.alloc (.cells zeroA 30)) gM 30 zeroA ∧ RowAt (w1.alloc (.cells zeroA 30)) gR 30 zeroA ∧ Below w.heap.size w (w1.alloc (.cells zeroA 30)) ∧ w.heap.size ≤ gM ∧ gR ≠ gM) := by
    have a1 := HYY.out.1.later hb1
    have a2 := HYY.out.2.trans (hb1.mono HYY.out.2.size)
    rw [hgM]
    exact ⟨RowAt.new w1 _ _, a1.later hb2, a2.trans (hb2.mono a2.size), a2.size, Nat.ne_of_lt a1.lt⟩
  have HC := hide hcase
  have HGM := hide hgM
  clear hcase hfit hin hb1 hb2 HG HYY hgM
  go_wp2_with (refine wpList_store_at rfl 30 (.tmp 6) (.tmp 14) rfl gM zeroA (rcF m) ?h1 rfl HZ.out.1 infoRc rfl hall ?_; (case h1 => rw [HGM.out]; rfl); intro w2 hr2 hk2 hrow2; refine stop10 ?_)
  have hb2 := hk2 _ _ HZ.out.2.2.1 HZ.out.2.2.2.1
  have H2 : Hid (RowAt w2 gM 30 (rcF m) ∧ RowAt w2 gR 30 zeroA ∧ Below w.heap.size w w2 ∧ gR ≠ gM) := ⟨hr2, hrow2 gR _ _ HZ.out.2.2.2.2 HZ.out.2.1, hb2, HZ.out.2.2.2.2⟩
  obtain ⟨c0, c2, c3, c9⟩ := fields15 hr2
  clear hr2 hk2 hrow2 hb2 HZ
  rw [HGM.out] at c0 c2 c3 c9
  refine unstop10 ?_
  cases f with
  | false =>
    have HE : Hid (A = (rcZ, 5)) := by
      rcases HC.out with ⟨h1, _⟩ | ⟨_, h1, _⟩
      · cases h1
      · show A = _
        rw [HA.out]
        exact clrA_none (gone15 h1)
    go_wp2_with (refine wpList_store_at rfl 30 (.tmp 4) (.tmp 23) rfl gR zeroA zeroA ?h1 rfl H2.out.2.1 infoRc rfl hall0 ?_; (case h1 => rw [HGR.out]; rfl); intro w4 hr4 hk4 hrow4; refine stop10 ?_)
    have hb4 := hk4 _ _ H2.out.2.2.1 (by rw [HGR.out]; exact Nat.le_refl _)
    have H4 := hide (And.intro hr4 hb4)
    clear hr4 hk4 hrow4 hb4 H2 c0 c2 c3 c9
    refine unstop10 ?_
    go_wp2
    refine bodyPost_ret (res_at rfl _ _ gR _ _ ?hp H4.out.1 Try.underlying30 rfl infoRc) rfl ⟨?_, H4.out.2⟩
    (case hp => rw [HGR.out]; rfl)
    rw [HE.out]
    rfl
  | true =>
    have hmem : m.1 ∈ msR ms ∧ m.1.l = n := by
      rcases HC.out with ⟨_, h1⟩ | ⟨h1, _⟩
      · exact got15 HR.out h1
      · cases h1
    by_cases hk : m.1.k = 1
    · have HE : Hid (A = (clrM (msR ms) m.1, 0)) := by
        show A = _
        rw [HA.out, ← hmem.2]
        exact clrA_yes HR.out hmem.1 hk
      have HI := hide (fun w => rinv_any m.1.c w)
      clear hmem HC
      go_wp2_with (refine wpList_load_val rfl 26 (.tmp 25) rfl _ (.agg (chA m.1.c)) rfl (by rw [← HGM.out]; exact load_chz w2 gM m H2.out.1) ?_)
      refine (HI.out w2).mono ?_
      rintro e w3 ⟨rfl, hb3⟩
      have H3 : Hid (RowAt w3 gM 30 (rcF m) ∧ RowAt w3 gR 30 zeroA ∧ Below w.heap.size w w3 ∧ gR ≠ gM) := ⟨H2.out.1.later hb3, H2.out.2.1.later hb3, H2.out.2.2.1.trans (hb3.mono H2.out.2.2.1.size), H2.out.2.2.2⟩
      clear hb3 H2 HI c0 c2 c3 c9
      obtain ⟨c, hc⟩ : ∃ c, c = invC m.1.c := ⟨_, rfl⟩
      rw [← hc]
      have HCC := hide hc
      clear hc
      have hb4 : Below w3.heap.size w3 (w3.alloc (.cells (chA Ch.zero) 26)) := (Below.refl _ _).alloc (Nat.le_refl _) _
      obtain ⟨gC, hgC⟩ : ∃ g, g = w3.heap.size := ⟨_, rfl⟩
      have HZ : Hid (RowAt (w3.alloc (.cells (chA Ch.zero) 26)) gC 26 (chA Ch.zero) ∧ RowAt (w3.alloc (.cells (chA Ch.zero) 26)) gR 30 zeroA ∧ RowAt (w3.alloc (.cells (chA Ch.zero) 26)) gM 30 (rcF m) ∧ Below w.heap.size w (w3.alloc (.cells (chA Ch.zero) 26)) ∧ w.heap.size ≤ gC) := by
        rw [hgC]
        exact ⟨RowAt.new w3 _ _, H3.out.2.1.later hb4, H3.out.1.later hb4, H3.out.2.2.1.trans (hb4.mono H3.out.2.2.1.size), H3.out.2.2.1.size⟩
      have HGC := hide hgC
      have HNE := hide H3.out.2.2.2
      clear hb4 hgC H3
      go_wp2_with (refine wpList_store_at rfl 26 (.tmp 8) (.tmp 28) rfl gC (chA Ch.zero) (chA c) ?h1 rfl HZ.out.1 infoCh rfl (chA_one _) ?_; (case h1 => rw [HGC.out]; rfl); intro w4 hr4 hk4 hrow4; refine stop10 ?_)
      have hb4 := hk4 _ _ HZ.out.2.2.2.1 HZ.out.2.2.2.2
      have H4 : Hid (RowAt w4 gC 26 (chA c) ∧ RowAt w4 gR 30 zeroA ∧ RowAt w4 gM 30 (rcF m) ∧ Below w.heap.size w w4 ∧ gC ≠ gR) := by
        have hne : gR ≠ gC := fun e => by
          have h1 := HZ.out.1
          rw [← e] at h1
          exact absurd (row_kind h1 HZ.out.2.1) (by decide)
        have hne2 : gM ≠ gC := fun e => by
          have h1 := HZ.out.1
          rw [← e] at h1
          exact absurd (row_kind h1 HZ.out.2.2.1) (by decide)
        exact ⟨hr4, hrow4 gR _ _ hne HZ.out.2.1, hrow4 gM _ _ hne2 HZ.out.2.2.1, hb4, fun e => hne e.symm⟩
      clear hr4 hk4 hrow4 hb4 HZ
      refine unstop10 ?_
      go_wp2_with fail
      rw [← HGC.out, ← HGM.out]
      have HD : Hid (RowAt w4.drew gC 26 (chA c) ∧ RowAt w4.drew gR 30 zeroA ∧ RowAt w4.drew gM 30 (rcF m) ∧ Below w.heap.size w w4.drew) := hide ⟨H4.out.1, H4.out.2.1, H4.out.2.2.1, below_dn H4.out.2.2.2.1 1⟩
      have HGO := hide H4.out.2.2.2.2
      clear H4
      refine wp_region_noPanic ?_
      refine wp_region_held_drew (S := fun z => RowAt z gC 26 (chA c) ∧ RowAt z gM 30 (rcF m)) (by kernel_rfl) (⟨HD.out.1, HD.out.2.2.1⟩) (fun hHeld => ?_)
      refine hand_take 0 (some 30) (.pointer (some ⟨gM, 2, none⟩)) rfl rfl (by kernel_rfl) (by kernel_rfl) (by kernel_rfl) (fun _ _ _ h => h) (Or.inl ⟨by kernel_rfl, fun x hSx => by go_simp⟩) hHeld ?_
      try simp only [Act.put, List.setIfInBounds_toArray, List.set_cons_zero, List.set_cons_succ]
      refine hand_take 1 (some 31) (.int .i64 m.1.t) rfl rfl (by kernel_rfl) (by kernel_rfl) (by kernel_rfl) (fun _ _ _ h => h) (Or.inl ⟨by kernel_rfl, fun x hSx => by have h := (fields15 hSx.2).2.1; go_simp⟩) hHeld ?_
      try simp only [Act.put, List.setIfInBounds_toArray, List.set_cons_zero, List.set_cons_succ]
      refine hand_take 2 (some 32) (.agg #[.int .i64 c.k, .int .i64 c.pg, .int .i64 c.sl, .string c.o, .string c.n]) rfl rfl (by kernel_rfl) (by kernel_rfl) (by kernel_rfl) (fun _ _ _ h => h) (yieldsIf_load_run (by kernel_rfl) 26 _ rfl (.pointer (some ⟨gC, 0, none⟩)) rfl _ (fun x hSx => load_ch15 x gC c hSx.1)) hHeld ?_
      try simp only [Act.put, List.setIfInBounds_toArray, List.set_cons_zero, List.set_cons_succ]
      refine hand_take 3 (some 33) v rfl rfl (by kernel_rfl) (by kernel_rfl) (by kernel_rfl) (fun _ _ _ h => h) (Or.inl ⟨by kernel_rfl, fun x hSx => by go_simp⟩) hHeld ?_
      try simp only [Act.put, List.setIfInBounds_toArray, List.set_cons_zero, List.set_cons_succ]
      refine hand_take 4 (some 34) (.pointer (some ⟨gM, 3, none⟩)) rfl rfl (by kernel_rfl) (by kernel_rfl) (by kernel_rfl) (fun _ _ _ h => h) (Or.inl ⟨by kernel_rfl, fun x hSx => by go_simp⟩) hHeld ?_
      try simp only [Act.put, List.setIfInBounds_toArray, List.set_cons_zero, List.set_cons_succ]
      refine hand_take 5 (some 35) (.int .u64 (m.1.p : Int)) rfl rfl (by kernel_rfl) (by kernel_rfl) (by kernel_rfl) (fun _ _ _ h => h) (Or.inl ⟨by kernel_rfl, fun x hSx => by have h := (fields15 hSx.2).2.2.1; go_simp⟩) hHeld ?_
      try simp only [Act.put, List.setIfInBounds_toArray, List.set_cons_zero, List.set_cons_succ]
      refine hand_one 6 (by kernel_rfl) ?_
      refine hand_call (some 36) rfl rfl rfl 20 #[v, .int .u64 (m.1.p : Int)] ?he ((HNX.out _ m.1.p HD.out.2.2.2).mono ?_)
      (case he => go_simp)
      rintro e w5 ⟨rfl, hb5⟩
      have H5 : Hid (RowAt w5 gC 26 (chA c) ∧ RowAt w5 gR 30 zeroA ∧ RowAt w5 gM 30 (rcF m) ∧ Below w.heap.size w w5) := hide ⟨HD.out.1.later hb5, HD.out.2.1.later hb5, HD.out.2.2.1.later hb5, HD.out.2.2.2.trans (hb5.mono HD.out.2.2.2.size)⟩
      obtain ⟨q, hq⟩ : ∃ q, q = nextT (msR ms) m.1.p := ⟨_, rfl⟩
      rw [← hq]
      have HQ := hide hq
      clear hb5 hq
      refine ⟨_, rfl, ⟨H5.out.1, H5.out.2.2.1⟩, ?_⟩
      try simp only [Act.put, List.setIfInBounds_toArray, List.set_cons_zero, List.set_cons_succ]
      have hHeld := (show RowAt w5 gC 26 (chA c) ∧ RowAt w5 gM 30 (rcF m) from ⟨H5.out.1, H5.out.2.2.1⟩)
      refine hand_take 7 (some 37) (.agg #[.int .i64 2, .int .u64 0, .int .i64 m.1.t, .int .u64 0, .int .i64 c.k, .int .i64 c.pg, .int .i64 c.sl, .string c.o, .string c.n, .int .u64 (q : Int), .int .i64 0, .int .u64 0, .slice none 0 0, .slice none 0 0]) rfl rfl (by kernel_rfl) (by kernel_rfl) (by kernel_rfl) (fun _ _ _ h => h) (Or.inl ⟨by kernel_rfl, fun x hSx => by go_simp⟩) hHeld ?_
      try simp only [Act.put, List.setIfInBounds_toArray, List.set_cons_zero, List.set_cons_succ]
      refine hand_one 8 (by kernel_rfl) ?_
      refine hand_store rfl rfl rfl 30 (.tmp 4) (.tmp 37) rfl gR 0 30 zeroA #[.int .i64 2, .int .u64 0, .int .i64 m.1.t, .int .u64 0, .int .i64 c.k, .int .i64 c.pg, .int .i64 c.sl, .string c.o, .string c.n, .int .u64 (q : Int), .int .i64 0, .int .u64 0, .slice none 0 0, .slice none 0 0] ?hp rfl H5.out.2.1 infoRc (by simp [zeroA]) (by simp [Value.oneCell']) ?_
      (case hp => rw [HGR.out]; rfl)
      intro w6 hr6 ho6
      have hpa := partA_all zeroA #[.int .i64 2, .int .u64 0, .int .i64 m.1.t, .int .u64 0, .int .i64 c.k, .int .i64 c.pg, .int .i64 c.sl, .string c.o, .string c.n, .int .u64 (q : Int), .int .i64 0, .int .u64 0, .slice none 0 0, .slice none 0 0] rfl
      rw [hpa] at hr6
      have H6 : Hid (RowAt w6 gR 30 #[.int .i64 2, .int .u64 0, .int .i64 m.1.t, .int .u64 0, .int .i64 c.k, .int .i64 c.pg, .int .i64 c.sl, .string c.o, .string c.n, .int .u64 (q : Int), .int .i64 0, .int .u64 0, .slice none 0 0, .slice none 0 0] ∧ Below w.heap.size w w6) := hide ⟨hr6, ho6.below H5.out.2.2.2 (by rw [HGR.out]; exact Nat.le_refl _)⟩
      refine ⟨⟨ho6.row H5.out.1 HGO.out, ho6.row H5.out.2.2.1 (fun e => HNE.out e.symm)⟩, ?_⟩
      have hHeld := (show RowAt w6 gC 26 (chA c) ∧ RowAt w6 gM 30 (rcF m) from ⟨ho6.row H5.out.1 HGO.out, ho6.row H5.out.2.2.1 (fun e => HNE.out e.symm)⟩)
      clear hr6 ho6
      try simp only [Act.put, List.setIfInBounds_toArray, List.set_cons_zero, List.set_cons_succ]
      refine hand_take 9 (some 5) (.int .i64 0) rfl rfl (by kernel_rfl) (by kernel_rfl) (by kernel_rfl) (fun _ _ _ h => h) (Or.inl ⟨by kernel_rfl, fun x hSx => by go_simp⟩) hHeld ?_
      try simp only [Act.put, List.setIfInBounds_toArray, List.set_cons_zero, List.set_cons_succ]
      refine wpAnyH_done (by kernel_rfl) ?_ _
      refine NoPanic.normal ?_
      go_wp2
      refine bodyPost_ret (res_at rfl _ _ gR _ _ ?hp H6.out.1 Try.underlying30 rfl infoRc) rfl ⟨?_, H6.out.2⟩
      (case hp => rw [HGR.out]; rfl)
      rw [HE.out, HQ.out, HCC.out]
      rfl
    · have HE : Hid (A = (rcZ, 5)) := by
        show A = _
        rw [HA.out, ← hmem.2]
        exact clrA_no HR.out hmem.1 hk
      clear hmem HC
      go_wp2_with (refine wpList_store_at rfl 30 (.tmp 4) (.tmp 23) rfl gR zeroA zeroA ?h1 rfl H2.out.2.1 infoRc rfl hall0 ?_; (case h1 => rw [HGR.out]; rfl); intro w4 hr4 hk4 hrow4; refine stop10 ?_)
      have hb4 := hk4 _ _ H2.out.2.2.1 (by rw [HGR.out]; exact Nat.le_refl _)
      have H4 := hide (And.intro hr4 hb4)
      clear hr4 hk4 hrow4 hb4 H2 c0 c2 c3 c9
      refine unstop10 ?_
      go_wp2
      refine bodyPost_ret (res_at rfl _ _ gR _ _ ?hp H4.out.1 Try.underlying30 rfl infoRc) rfl ⟨?_, H4.out.2⟩
      (case hp => rw [HGR.out]; rfl)
      rw [HE.out]
      rfl
end Go.Proofs.Ytbnlkfcaahgpmaa

/-
  How long a slice of a bounded bulk is.
-/
namespace Go.Proofs.Ytbnlkfcaahgpmaa
open Go.ChangeShapes Go.WideShapes Go.ChangeAt Go.RowKit Go.Deep Go.Joins
set_option linter.unusedVariables false

section
variable {H : Type}
theorem bulk_pos (d : DataW H) : 1 ≤ Rows.uptoBulk d := by
  cases d with
  | lit l => cases l <;> simp [Rows.uptoBulk]
  | _ => simp [Rows.uptoBulk]
theorem bulk_all : ∀ (l : List (DataW H)), l.length ≤ Rows.uptoBulkAll l
  | [] => by simp
  | d :: l => by
    have h1 := bulk_pos d
    have h2 := bulk_all l
    simp only [Rows.uptoBulkAll, List.length_cons]
    omega
theorem SlForm.small {d : DataW H} {len cap : Nat} (h : SlForm d len cap) : len ≤ Rows.uptoBulk d := by
  rcases h with ⟨_, rfl, _⟩ | ⟨es, sp, rfl, h1, h2⟩
  · omega
  · have := bulk_all es
    simp only [Rows.uptoBulk]
    omega
end
end Go.Proofs.Ytbnlkfcaahgpmaa

/-
  A list of records as an argument, opened.
-/
namespace Go.Proofs.Ytbnlkfcaahgpmaa
open Go.ChangeShapes Go.WideShapes Go.ChangeAt Go.RowKit Go.Deep Go.Joins
set_option linter.unusedVariables false

section
variable {H : Type} {enc : TypeId × Value → H} {W : World}

set_option maxRecDepth 40000 in
theorem recs_form {v : Value} {d : DataW H} {p : List MemPlace} {r : Reach} {b0 : Nat} (hv : Value.okWide Try.prog W r b0 22 v) (h : DataW.Trod enc Try.prog W 0 (fun _ => true) true 22 v d p) : ∃ a len cap, v = .slice a len cap ∧ SlForm d len cap ∧ len ≤ cap ∧ (a = none → cap = 0) := by
  obtain ⟨a, len, cap, f, h1, h2, h3, h4, _, _⟩ := @open_rows H enc Try.prog W (Rec × Value × Value) ⟨rcZ⟩ 22 30 14 v d p r b0 (fun m k => (rcF m).toList.getD k (.bool false)) (fun _ => True) (fun n cs y hy => by
    obtain ⟨m, rfl, _⟩ := elem_rec n cs y hy
    refine ⟨m, trivial, fun k hk => ?_⟩
    rw [List.getD_eq_getElem?_getD, List.getElem?_eq_getElem (by rw [Array.length_toList]; exact hk)]
    rfl) Try.underlying22 (by kernel_rfl) (by decide) hv h
  exact ⟨a, len, cap, h1, h2, h3, h4⟩
set_option maxRecDepth 40000 in
theorem op_recs_arg {v : Value} {d : DataW H} {p : List MemPlace} {r : Reach} {b0 : Nat} (hv : Value.okWide Try.prog W r b0 22 v) (h : DataW.Trod enc Try.prog W 0 (fun _ => true) true 22 v d p) :
    ∃ ms : List (Rec × Value × Value), RsIn W v ms ∧ ms.length ≤ maxLen ∧ ∀ a len cap, v = .slice a len cap → len ≤ cap := by
  obtain ⟨a, len, cap, rfl, _, hc, _⟩ := recs_form hv h
  obtain ⟨fuel, hf⟩ := h
  have hf2 : DataW.trod enc Try.prog W 0 (fun _ => true) true fuel 22 [.slice a len cap] = some (d, p) := hf
  obtain ⟨ms, h1, h2, h3⟩ := op_recs Try.underlying22 hf2
  refine ⟨ms, ⟨h1, h3⟩, h2, fun a' l' c' e => ?_⟩
  injection e with e1 e2 e3
  omega
set_option maxRecDepth 40000 in
/-- With a bound by the list's bulk. -/
theorem op_recs_few {v : Value} {d : DataW H} {p : List MemPlace} {r : Reach} {b0 N : Nat} (hv : Value.okWide Try.prog W r b0 22 v) (h : DataW.Trod enc Try.prog W 0 (fun _ => true) true 22 v d p) (hs : ∀ len cap, SlForm d len cap → len ≤ N) :
    ∃ ms : List (Rec × Value × Value), RsIn W v ms ∧ ms.length ≤ N ∧ ∀ a len cap, v = .slice a len cap → len ≤ cap ∧ (a = none → cap = 0) := by
  obtain ⟨a, len, cap, rfl, hsl, hc, hnl⟩ := recs_form hv h
  obtain ⟨fuel, hf⟩ := h
  have hf2 : DataW.trod enc Try.prog W 0 (fun _ => true) true fuel 22 [.slice a len cap] = some (d, p) := hf
  obtain ⟨ms, h1, h2, h3⟩ := op_recs Try.underlying22 hf2
  have hl : ms.length = len := by
    obtain ⟨a', c', e, _⟩ := h1
    injection e with e1 e2 e3
    exact e2.symm
  refine ⟨ms, ⟨h1, h3⟩, by rw [hl]; exact hs _ _ hsl, fun a' l' c' e => ?_⟩
  injection e with e1 e2 e3
  subst e1 e2 e3
  exact ⟨hc, hnl⟩
end
end Go.Proofs.Ytbnlkfcaahgpmaa

/-
  The contract of the document's Plan.
-/
namespace Go.Proofs.Ytbnlkfcaahgpmaa
open Go.RowKit
set_option linter.unusedVariables false

set_option maxRecDepth 8000 in
set_option maxHeartbeats 3200000 in
theorem rplan15 (v : Value) (ms : List (Rec × Value × Value)) (t : Int) (u : Nat) (w : World) (h : LogIn w v ms) (hr : Rise 0 (msR ms)) :
    Calls Try.prog 23 #[v, .int .i64 t, .int .u64 (u : Int)] w fun e w' => (∃ vp, e = .returned vp ∧ OwnL w' w.heap.size vp (planT (msR ms) t u)) ∧ Below w.heap.size w w' := by
  have HA := hide h
  have hl := h.few
  have HR := hide hr
  have HC := hide (fun n x (hx : Below w.heap.size w x) => rclr15 _ ms n x (HA.out.below hx) hr)
  have HL := hide (fun x (hx : Below w.heap.size w x) => rlast15 _ ms t x (HA.out.below hx))
  have HX := hide (fun n x (hx : Below w.heap.size w x) => rnext15 _ ms hr n x (HA.out.below hx))
  clear hr h
  obtain ⟨all, hall⟩ : ∃ all, all = planT (msR ms) t u := ⟨_, rfl⟩
  rw [← hall]
  have HALL := hide hall
  clear hall
  go_enter Try.func23, Try.ntmps23
  go_wp2_with fail
  refine (HL.out w (Below.refl _ _)).mono ?_
  rintro e w2 ⟨rfl, hb2⟩
  have H2 := hide hb2
  clear hb2 HL
  go_wp2_with fail
  refine (HX.out _ w2 H2.out).mono ?_
  rintro e w3 ⟨rfl, hb3⟩
  have H3 := hide (H2.out.trans (hb3.mono H2.out.size))
  clear hb3 H2 HX
  have H0 : Hid (Pl w w3 (msR ms) all u (.slice none 0 0) (nextT (msR ms) (lastT (msR ms) t)) []) := ⟨by rw [HALL.out]; rfl, nextT_again HR.out _, OwnL.nil _ _, H3.out⟩
  have HAL : Hid (all.length ≤ 1000) := by
    have h1 := plan_few HR.out u _ (nextT (msR ms) (lastT (msR ms) t)) (Nat.le_refl _) (nextT_again HR.out _)
    rw [msR_len] at h1
    show all.length ≤ 1000
    rw [HALL.out]
    unfold planT
    omega
  generalize nextT (msR ms) (lastT (msR ms) t) = n0 at *
  clear H3
  go_wp2
  go_loopw [7, 8] (fun p n wr => ∃ (j : Nat) (ps : List Rec) (vp : Value), vp = p ∧ n = .int .u64 (j : Int) ∧ Hid (Pl w wr (msR ms) all u vp j ps)) (fun _ n _ => (intOf n).toNat)
  case atStart => exact ⟨n0, [], _, rfl, rfl, H0.out⟩
  case round =>
    obtain ⟨j, ps, vp, rfl, rfl, HP⟩ := hrel
    clear H0
    by_cases hlt : u < j
    · have iu : (u : Int) < (j : Int) := by omega
      rcases planL_next HR.out j u HP.out.next with ⟨h1, _⟩ | ⟨r, hr1, hr2, hr3, _, hr4⟩
      · omega
      · have HE := hide hr4
        have HRR := hide (rise_right _ 0 HR.out r hr1)
        have hless := clr_less HR.out hr1
        have hca := clrA_yes HR.out hr1 hr3
        rw [hr2] at hless hca
        have HK := hide hr3
        have HCC := hide (HC.out j wr HP.out.bel)
        rw [hca] at HCC
        clear hr4 hr1 hr2 hr3 hca
        go_wp2_with fail
        refine HCC.out.mono ?_
        rintro e w5 ⟨rfl, hb5⟩
        have hb6 : Below w5.heap.size w5 (w5.alloc (.cells zeroA 30)) := (Below.refl _ _).alloc (Nat.le_refl _) _
        have H5 : Hid (OwnL w5 w.heap.size vp ps ∧ Below w.heap.size w w5 ∧ RowAt (w5.alloc (.cells zeroA 30)) w5.heap.size 30 zeroA ∧ Below w5.heap.size w5 (w5.alloc (.cells zeroA 30))) := by
          have a1 := HP.out.bel.trans (hb5.mono HP.out.bel.size)
          exact ⟨HP.out.own.later hb5, a1, RowAt.new w5 _ _, hb6⟩
        clear hb5 hb6 HCC
        have HB : Hid (rcF (clrM (msR ms) r) = clrCells r.t (invC r.c) (nextT (msR ms) r.p) ∧ (clrOf (msR ms) r).n = nextT (msR ms) r.p ∧ (clrOf (msR ms) r).bare) := ⟨rfl, rfl, clr_bare HRR.out HK.out⟩
        rw [HB.out.1]
        have hlq : nextT (msR ms) r.p < j := by rw [← HB.out.2.1]; exact hless
        generalize nextT (msR ms) r.p = q at *
        generalize invC r.c = c at *
        generalize r.t = tt at *
        have hps : ps.length ≤ 1000 := by
          have h1 := HAL.out
          rw [HP.out.all, List.length_append] at h1
          omega
        go_wp2_with (refine wpList_store_at rfl 30 (.tmp 9) (.tmp 23) rfl w5.heap.size zeroA (clrCells tt c q) rfl rfl H5.out.2.2.1 infoRc rfl (by simp [clrCells, Value.oneCell']) ?_; intro w6 hr6 hk6 hrow6; refine stop10 ?_)
        have hb6 := hk6 _ _ H5.out.2.2.2 (Nat.le_refl _)
        obtain ⟨g5, hg5⟩ : ∃ g, g = w5.heap.size := ⟨_, rfl⟩
        have H6 : Hid (OwnL w6 w.heap.size vp ps ∧ Below w.heap.size w w6 ∧ RowAt w6 g5 30 (clrCells tt c q) ∧ ∀ k, vp.ownBlock = some k → k ≠ g5) := by
          rw [hg5]
          exact ⟨H5.out.1.later hb6, H5.out.2.1.trans (hb6.mono H5.out.2.1.size), hr6, fun k hk => by have := own_lt15 H5.out.1.1 hk; omega⟩
        rw [← hg5]
        clear hr6 hk6 hrow6 hb6 H5 hg5
        refine unstop10 ?_
        go_wp2_with (first | (refine wpList_load_at rfl 30 (.tmp 9) rfl g5 rfl #[.int .i64 2, .int .u64 0, .int .i64 tt, .int .u64 0, .int .i64 c.k, .int .i64 c.pg, .int .i64 c.sl, .string c.o, .string c.n, .int .u64 (q : Int), .int .i64 0, .int .u64 0, .slice none 0 0, .slice none 0 0] H6.out.2.2.1 _ Try.underlying30 rfl infoRc ?_) | (refine wpList_append_one _ 22 30 14 160 (.agg zeroA) Try.underlying22 infoRc3 rfl (by decide) (by decide) rfl (.tmp 25) (.tmp 27) rfl w.heap.size vp ps.length (flatR (bareMs ps)) rfl (ow_later H6.out.1.1 ((Below.refl w6.heap.size w6).alloc (Nat.le_refl _) _)) w6.heap.size #[.int .i64 2, .int .u64 0, .int .i64 tt, .int .u64 0, .int .i64 c.k, .int .i64 c.pg, .int .i64 c.sl, .string c.o, .string c.n, .int .u64 (q : Int), .int .i64 0, .int .u64 0, .slice none 0 0, .slice none 0 0] rfl (RowAt.new w6 30 #[.int .i64 2, .int .u64 0, .int .i64 tt, .int .u64 0, .int .i64 c.k, .int .i64 c.pg, .int .i64 c.sl, .string c.o, .string c.n, .int .u64 (q : Int), .int .i64 0, .int .u64 0, .slice none 0 0, .slice none 0 0]) rfl (by simp [Value.oneCell']) hps (Nat.le_trans H6.out.2.1.size (by simp)) ?_; intro v' w7 ho7 hg7; refine stop10 ?_))
        have hba : Below w6.heap.size w6 (w6.alloc (.cells #[.int .i64 2, .int .u64 0, .int .i64 tt, .int .u64 0, .int .i64 c.k, .int .i64 c.pg, .int .i64 c.sl, .string c.o, .string c.n, .int .u64 (q : Int), .int .i64 0, .int .u64 0, .slice none 0 0, .slice none 0 0] 30)) := (Below.refl _ _).alloc (Nat.le_refl _) _
        have H7 : Hid (OwnL w7 w.heap.size v' (ps ++ [clrOf (msR ms) r]) ∧ Below w.heap.size w w7 ∧ RowAt w7 g5 30 (clrCells tt c q)) := by
          refine ⟨OwnL.push ?_ H6.out.1.2 HB.out.2.2, ?_, ?_⟩
          · show w7.ownsRow _ _ _ _ _ (_ ++ (rcF (clrM (msR ms) r)).toList)
            rw [HB.out.1]
            exact ho7
          · exact ow_below (ow_later H6.out.1.1 hba) (Nat.le_refl _) (H6.out.2.1.trans (hba.mono H6.out.2.1.size)) (Nat.le_trans H6.out.2.1.size hba.size) hg7
          · have h1 := H6.out.2.2.1.later hba
            exact (hg7.block g5 h1.lt (fun e => H6.out.2.2.2 g5 e.symm rfl)).trans h1
        clear ho7 hg7 hba H6
        refine unstop10 ?_
        have c9 := H7.out.2.2.cell 9 (.int .u64 (q : Int)) rfl
        go_wp2
        go_roundw
        case rel =>
          refine ⟨q, ps ++ [clrOf (msR ms) r], v', rfl, rfl, ⟨?_, ?_, H7.out.1, H7.out.2.1⟩⟩
          · rw [HP.out.all, HE.out, HB.out.2.1, List.append_assoc]
            rfl
          · rw [← HB.out.2.1]
            exact clr_again HR.out r
        case measure => simp [intOf] <;> omega
    · have iu : ¬ (u : Int) < (j : Int) := by omega
      go_wp2
      go_ret
      refine ⟨⟨vp, rfl, ?_⟩, HP.out.bel⟩
      have h1 := HP.out.all
      rcases planL_next HR.out j u HP.out.next with ⟨_, h2⟩ | ⟨r, _, _, _, h3, _⟩
      · rw [h2, List.append_nil] at h1
        rw [h1]
        exact HP.out.own
      · omega
end Go.Proofs.Ytbnlkfcaahgpmaa
