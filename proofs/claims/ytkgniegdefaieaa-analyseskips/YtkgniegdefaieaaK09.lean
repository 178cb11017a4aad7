/-
  Texts that lean on one another, one behind the other: each opens with its own remark.
-/
import Derived.Test.YtkgniegdefaieaaK00

namespace Go.Proofs.Ytkgniegdefaieaa
open Go.RowKit
set_option linter.unusedVariables false
set_option maxRecDepth 8000
set_option maxHeartbeats 25600000
theorem rright6_1 (r : Rec) (va vb : Value) (w : World) (q : Bool) (Hq : Hid (q = true ↔ r.right)) (hk : r.k = 1) (hf : r.c.fits) (hin : Qwb w r va vb) :
    Calls Try.prog 37 #[.agg (rcA r va vb)] w fun e w' => e = .returned (.bool q) /\ Below w.heap.size w w' := by
  have HIN := Qb hin; obtain ⟨⟨e1, cap1, rfl, -⟩, ⟨e2, cap2, rfl, -⟩⟩ := hin; have HFI := Qb hf; clear hf; have HK0 := Qb (Qj.one w 46 (rcA r (.slice e1 r.ts.length cap1) (.slice e2 r.ds.length cap2)))
  have HF : Hid (¬ r.right -> q = false) := fun h => by
    cases q
    · rfl
    · exact absurd (Hq.out.1 rfl) h
  have HT : Hid (r.right -> q = true) := fun h => Hq.out.2 h
  have HOW := Qb (fun w => Qik r.k w true (Qb (decide_eq_true (by omega)))); rw [hk] at HOW; by_cases l1 : (r.l : Int) < 1
  case pos =>
    obtain rfl := HF.out (fun h => by have := h.l1; omega); clear HF HT Hq HFI HIN; obtain ⟨c0, c1, -⟩ := Qo HK0.out.1.1; rw [hk] at c0; have hb0 := HK0.out.2; clear HK0 HOW; go_enter Try.func37, Try.ntmps37; go_wp2; go_ret; exact ⟨rfl, hb0⟩
  by_cases l2 : (4611686018427387904 : Int) < (r.l : Int)
  case pos =>
    obtain rfl := HF.out (fun h => by have := h.lm; unfold Qtd at this; omega); clear HF HT Hq HFI HIN; obtain ⟨c0, c1, -⟩ := Qo HK0.out.1.1; rw [hk] at c0; have hb0 := HK0.out.2; clear HK0 HOW; go_enter Try.func37, Try.ntmps37; go_wp2; go_ret; exact ⟨rfl, hb0⟩
  obtain ⟨c0, c1, -⟩ := Qo HK0.out.1.1; rw [hk] at c0; go_enter Try.func37, Try.ntmps37; go_wp2_with fail; refine Qwc (fun x => Hid (Qj w x [(w.heap.size, 46, rcA r (.slice e1 r.ts.length cap1) (.slice e2 r.ds.length cap2))])) HK0 ?_; clear HK0 c0 c1; intro w0 HK0; obtain ⟨c0, c1, c2, c3, c9, c10, c11, c12, c13⟩ := Qo HK0.out.1.1; rw [hk] at c0; have hb0 := HK0.out.2; refine (HOW.out _).mono ?_; rintro e w1 ⟨rfl, rfl⟩; by_cases t1 : r.t < 1
  case pos =>
    obtain rfl := HF.out (fun h => by have := h.own (by omega); omega); clear HF HT Hq HFI HIN; clear HK0 HOW c9 c10 c11 c12 c13; go_wp2; go_ret; exact ⟨rfl, hb0⟩
  by_cases t2 : 1048575 < r.t
  case pos =>
    obtain rfl := HF.out (fun h => by have := h.own (by omega); omega); clear HF HT Hq HFI HIN; clear HK0 HOW c9 c10 c11 c12 c13; go_wp2; go_ret; exact ⟨rfl, hb0⟩
  by_cases p1 : (r.l : Int) <= (r.p : Int)
  case pos =>
    obtain rfl := HF.out (fun h => by have := h.own (by omega); omega); clear HF HT Hq HFI HIN; clear HK0 HOW c9 c10 c11 c12 c13; go_wp2; go_ret; exact ⟨rfl, hb0⟩
  go_wp2_with fail; refine (HOW.out _).mono ?_; rintro e w1 ⟨rfl, rfl⟩; clear HOW; obtain ⟨d4, d5, d6, d7, d8⟩ := Qwd HK0.out.1.1; go_wp2_with fail; clear d4 d5 d6 d7 d8; by_cases cc : r.c.right
  case neg =>
    obtain rfl := HF.out (fun h => cc (h.ch (by omega))); clear HF HT Hq HFI HIN; refine (Qtf r.c _ false (Qb (decide_eq_false cc))).mono ?_; rintro e w2 ⟨rfl, hb2⟩; have d2 := hb0.trans (hb2.mono hb0.size); clear hb2 HK0 c0 c1 c2 c3 c9 c10 c11 c12 c13 cc; go_wp2; go_ret; exact ⟨rfl, d2⟩
  refine (Qtf r.c _ true (Qb (decide_eq_true cc))).mono ?_; rintro e w2 ⟨rfl, hb2⟩; have HK2 := Qb (HK0.out.later hb2); clear HK0 hb2 hb0 c0 c1 c2 c3 c9 c10 c11 c12 c13; obtain ⟨c0, c1, c2, c3, c9, c10, c11, c12, c13⟩ := Qo HK2.out.1.1; rw [hk] at c0; have hb0 := HK2.out.2; have HCC := Qb cc; clear cc HK2; by_cases n1 : ¬ (r.n : Int) = 0
  case pos =>
    obtain rfl := HF.out (fun h => by have := h.nonext (by omega); omega); have n1e : ((r.n : Int) == 0) = false := by rw [beq_eq_false_iff_ne]; exact n1
    have n1f : ((r.n : Int) != 0) = true := by rw [bne, n1e]; rfl
    clear HF HT Hq HFI HIN; clear HCC; go_wp2; go_ret; exact ⟨rfl, hb0⟩
  have n1e : (r.n : Int) = 0 := Decidable.of_not_not n1; by_cases s1 : ¬ r.s = 0
  case pos =>
    obtain rfl := HF.out (fun h => s1 (h.nosave (by omega))); have s1e : (r.s == 0) = false := by rw [beq_eq_false_iff_ne]; exact s1
    have s1f : (r.s != 0) = true := by rw [bne, s1e]; rfl
    clear HF HT Hq HFI HIN; clear HCC; go_wp2; go_ret; exact ⟨rfl, hb0⟩
  have s1e : r.s = 0 := Decidable.of_not_not s1; by_cases b1 : ¬ (r.b : Int) = 0
  case pos =>
    obtain rfl := HF.out (fun h => by have := h.nocheck (by omega); omega); have b1e : ((r.b : Int) == 0) = false := by rw [beq_eq_false_iff_ne]; exact b1
    have b1f : ((r.b : Int) != 0) = true := by rw [bne, b1e]; rfl
    clear HF HT Hq HFI HIN; clear HCC; go_wp2; go_ret; exact ⟨rfl, hb0⟩
  have b1e : (r.b : Int) = 0 := Decidable.of_not_not b1; by_cases z1 : ¬ (r.ts.length : Int) = 0
  case pos =>
    obtain rfl := HF.out (fun h => by have := (h.nocheck (by omega)).2.1; rw [this] at z1; exact z1 rfl); have z1e : ((r.ts.length : Int) == 0) = false := by rw [beq_eq_false_iff_ne]; exact z1
    have z1f : ((r.ts.length : Int) != 0) = true := by rw [bne, z1e]; rfl
    clear HF HT Hq HFI HIN; clear HCC; go_wp2; go_ret; exact ⟨rfl, hb0⟩
  have z1e : (r.ts.length : Int) = 0 := Decidable.of_not_not z1; by_cases z2 : ¬ (r.ds.length : Int) = 0
  case pos =>
    obtain rfl := HF.out (fun h => by have := (h.nocheck (by omega)).2.2; rw [this] at z2; exact z2 rfl); have z2e : ((r.ds.length : Int) == 0) = false := by rw [beq_eq_false_iff_ne]; exact z2
    have z2f : ((r.ds.length : Int) != 0) = true := by rw [bne, z2e]; rfl
    clear HF HT Hq HFI HIN; clear HCC; go_wp2; go_ret; exact ⟨rfl, hb0⟩
  have z2e : (r.ds.length : Int) = 0 := Decidable.of_not_not z2; obtain rfl := HT.out ⟨by omega, by omega, by omega, by unfold Qtd; omega, fun _ => ⟨by omega, by omega, by omega⟩, fun h => absurd h (by omega), fun _ => HCC.out, fun h => absurd h (by omega), fun h => absurd h (by omega), fun _ => by omega, fun h => absurd h (by omega), fun _ => by omega, fun h => absurd h (by omega), fun _ => ⟨by omega, List.eq_nil_of_length_eq_zero (by omega), List.eq_nil_of_length_eq_zero (by omega)⟩⟩; clear HF HT Hq HFI HIN HCC; go_wp2; go_ret; exact ⟨rfl, hb0⟩
theorem rright6_2 (r : Rec) (va vb : Value) (w : World) (q : Bool) (Hq : Hid (q = true ↔ r.right)) (hk : r.k = 2) (hf : r.c.fits) (hin : Qwb w r va vb) :
    Calls Try.prog 37 #[.agg (rcA r va vb)] w fun e w' => e = .returned (.bool q) /\ Below w.heap.size w w' := by
  have HIN := Qb hin; obtain ⟨⟨e1, cap1, rfl, -⟩, ⟨e2, cap2, rfl, -⟩⟩ := hin; have HFI := Qb hf; clear hf; have HK0 := Qb (Qj.one w 46 (rcA r (.slice e1 r.ts.length cap1) (.slice e2 r.ds.length cap2)))
  have HF : Hid (¬ r.right -> q = false) := fun h => by
    cases q
    · rfl
    · exact absurd (Hq.out.1 rfl) h
  have HT : Hid (r.right -> q = true) := fun h => Hq.out.2 h
  have HOW := Qb (fun w => Qik r.k w true (Qb (decide_eq_true (by omega)))); rw [hk] at HOW; by_cases l1 : (r.l : Int) < 1
  case pos =>
    obtain rfl := HF.out (fun h => by have := h.l1; omega); clear HF HT Hq HFI HIN; obtain ⟨c0, c1, -⟩ := Qo HK0.out.1.1; rw [hk] at c0; have hb0 := HK0.out.2; clear HK0 HOW; go_enter Try.func37, Try.ntmps37; go_wp2; go_ret; exact ⟨rfl, hb0⟩
  by_cases l2 : (4611686018427387904 : Int) < (r.l : Int)
  case pos =>
    obtain rfl := HF.out (fun h => by have := h.lm; unfold Qtd at this; omega); clear HF HT Hq HFI HIN; obtain ⟨c0, c1, -⟩ := Qo HK0.out.1.1; rw [hk] at c0; have hb0 := HK0.out.2; clear HK0 HOW; go_enter Try.func37, Try.ntmps37; go_wp2; go_ret; exact ⟨rfl, hb0⟩
  obtain ⟨c0, c1, -⟩ := Qo HK0.out.1.1; rw [hk] at c0; go_enter Try.func37, Try.ntmps37; go_wp2_with fail; refine Qwc (fun x => Hid (Qj w x [(w.heap.size, 46, rcA r (.slice e1 r.ts.length cap1) (.slice e2 r.ds.length cap2))])) HK0 ?_; clear HK0 c0 c1; intro w0 HK0; obtain ⟨c0, c1, c2, c3, c9, c10, c11, c12, c13⟩ := Qo HK0.out.1.1; rw [hk] at c0; have hb0 := HK0.out.2; refine (HOW.out _).mono ?_; rintro e w1 ⟨rfl, rfl⟩; by_cases t1 : r.t < 1
  case pos =>
    obtain rfl := HF.out (fun h => by have := h.own (by omega); omega); clear HF HT Hq HFI HIN; clear HK0 HOW c9 c10 c11 c12 c13; go_wp2; go_ret; exact ⟨rfl, hb0⟩
  by_cases t2 : 1048575 < r.t
  case pos =>
    obtain rfl := HF.out (fun h => by have := h.own (by omega); omega); clear HF HT Hq HFI HIN; clear HK0 HOW c9 c10 c11 c12 c13; go_wp2; go_ret; exact ⟨rfl, hb0⟩
  by_cases p1 : (r.l : Int) <= (r.p : Int)
  case pos =>
    obtain rfl := HF.out (fun h => by have := h.own (by omega); omega); clear HF HT Hq HFI HIN; clear HK0 HOW c9 c10 c11 c12 c13; go_wp2; go_ret; exact ⟨rfl, hb0⟩
  go_wp2_with fail; refine (HOW.out _).mono ?_; rintro e w1 ⟨rfl, rfl⟩; clear HOW; obtain ⟨d4, d5, d6, d7, d8⟩ := Qwd HK0.out.1.1; go_wp2_with fail; clear d4 d5 d6 d7 d8; by_cases cc : r.c.right
  case neg =>
    obtain rfl := HF.out (fun h => cc (h.ch (by omega))); clear HF HT Hq HFI HIN; refine (Qtf r.c _ false (Qb (decide_eq_false cc))).mono ?_; rintro e w2 ⟨rfl, hb2⟩; have d2 := hb0.trans (hb2.mono hb0.size); clear hb2 HK0 c0 c1 c2 c3 c9 c10 c11 c12 c13 cc; go_wp2; go_ret; exact ⟨rfl, d2⟩
  refine (Qtf r.c _ true (Qb (decide_eq_true cc))).mono ?_; rintro e w2 ⟨rfl, hb2⟩; have HK2 := Qb (HK0.out.later hb2); clear HK0 hb2 hb0 c0 c1 c2 c3 c9 c10 c11 c12 c13; obtain ⟨c0, c1, c2, c3, c9, c10, c11, c12, c13⟩ := Qo HK2.out.1.1; rw [hk] at c0; have hb0 := HK2.out.2; have HCC := Qb cc; clear cc HK2; by_cases n1 : (r.l : Int) <= (r.n : Int)
  case pos =>
    obtain rfl := HF.out (fun h => by have := h.next (by omega); omega); clear HF HT Hq HFI HIN; clear HCC; go_wp2; go_ret; exact ⟨rfl, hb0⟩
  by_cases s1 : ¬ r.s = 0
  case pos =>
    obtain rfl := HF.out (fun h => s1 (h.nosave (by omega))); have s1e : (r.s == 0) = false := by rw [beq_eq_false_iff_ne]; exact s1
    have s1f : (r.s != 0) = true := by rw [bne, s1e]; rfl
    clear HF HT Hq HFI HIN; clear HCC; go_wp2; go_ret; exact ⟨rfl, hb0⟩
  have s1e : r.s = 0 := Decidable.of_not_not s1; by_cases b1 : ¬ (r.b : Int) = 0
  case pos =>
    obtain rfl := HF.out (fun h => by have := h.nocheck (by omega); omega); have b1e : ((r.b : Int) == 0) = false := by rw [beq_eq_false_iff_ne]; exact b1
    have b1f : ((r.b : Int) != 0) = true := by rw [bne, b1e]; rfl
    clear HF HT Hq HFI HIN; clear HCC; go_wp2; go_ret; exact ⟨rfl, hb0⟩
  have b1e : (r.b : Int) = 0 := Decidable.of_not_not b1; by_cases z1 : ¬ (r.ts.length : Int) = 0
  case pos =>
    obtain rfl := HF.out (fun h => by have := (h.nocheck (by omega)).2.1; rw [this] at z1; exact z1 rfl); have z1e : ((r.ts.length : Int) == 0) = false := by rw [beq_eq_false_iff_ne]; exact z1
    have z1f : ((r.ts.length : Int) != 0) = true := by rw [bne, z1e]; rfl
    clear HF HT Hq HFI HIN; clear HCC; go_wp2; go_ret; exact ⟨rfl, hb0⟩
  have z1e : (r.ts.length : Int) = 0 := Decidable.of_not_not z1; by_cases z2 : ¬ (r.ds.length : Int) = 0
  case pos =>
    obtain rfl := HF.out (fun h => by have := (h.nocheck (by omega)).2.2; rw [this] at z2; exact z2 rfl); have z2e : ((r.ds.length : Int) == 0) = false := by rw [beq_eq_false_iff_ne]; exact z2
    have z2f : ((r.ds.length : Int) != 0) = true := by rw [bne, z2e]; rfl
    clear HF HT Hq HFI HIN; clear HCC; go_wp2; go_ret; exact ⟨rfl, hb0⟩
  have z2e : (r.ds.length : Int) = 0 := Decidable.of_not_not z2; obtain rfl := HT.out ⟨by omega, by omega, by omega, by unfold Qtd; omega, fun _ => ⟨by omega, by omega, by omega⟩, fun h => absurd h (by omega), fun _ => HCC.out, fun h => absurd h (by omega), fun _ => by omega, fun h => absurd hk h, fun h => absurd h (by omega), fun _ => by omega, fun h => absurd h (by omega), fun _ => ⟨by omega, List.eq_nil_of_length_eq_zero (by omega), List.eq_nil_of_length_eq_zero (by omega)⟩⟩; clear HF HT Hq HFI HIN HCC; go_wp2; go_ret; exact ⟨rfl, hb0⟩
end Go.Proofs.Ytkgniegdefaieaa
