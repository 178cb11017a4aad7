/-
  Texts that lean on one another, one behind the other: each opens with its own remark.
-/
import Derived.Test.YtdjhcbiejpjkmaaK00

namespace Go.Proofs.Ytdjhcbiejpjkmaa
open Go.RowKit
set_option linter.unusedVariables false
set_option maxRecDepth 8000
set_option maxHeartbeats 25600000
theorem Qav (r : Rec) (va vb : Value) (w : World) (q : Bool) (Hq : Hid (q = true ↔ r.right)) (hk3 : 3 <= r.k) (hk5 : r.k <= 5) (hf : r.c.fits) (hin : Qcd w r va vb) :
    Calls Try.prog 32 #[.agg (rcA r va vb)] w fun e w' => e = .returned (.bool q) /\ Below w.heap.size w w' := by
  have HIN := Qc hin; obtain ⟨⟨e1, cap1, rfl, -⟩, ⟨e2, cap2, rfl, -⟩⟩ := hin; have HFI := Qc hf; clear hf; have HK0 := Qc (Qx.one w 45 (rcA r (.slice e1 r.ts.length cap1) (.slice e2 r.ds.length cap2)))
  have HF : Hid (¬ r.right -> q = false) := fun h => by
    cases q
    · rfl
    · exact absurd (Hq.out.1 rfl) h
  have HT : Hid (r.right -> q = true) := fun h => Hq.out.2 h
  have m0 : ¬ r.k < 1 := by omega
  have m1 : ¬ 8 < r.k := by omega
  have m2 : ¬ r.k <= 2 := by omega
  have m3 : 2 < r.k := by omega
  have m4 : (r.k == 2) = false := by rw [beq_eq_false_iff_ne]; omega
  have m4b : (r.k != 2) = true := by rw [bne, m4]; rfl
  have m5 : (r.k == 6) = false := by rw [beq_eq_false_iff_ne]; omega
  have m5b : (r.k != 6) = true := by rw [bne, m5]; rfl
  have m6 : (r.k == 8) = false := by rw [beq_eq_false_iff_ne]; omega
  have HOW := Qc (fun w => Qcn r.k w true (Qc (decide_eq_true (by omega)))); by_cases l1 : (r.l : Int) < 1
  case pos =>
    obtain rfl := HF.out (fun h => by have := h.l1; omega); clear HF HT Hq HFI HIN; obtain ⟨c0, c1, -⟩ := Qda HK0.out.1.1; have hb0 := HK0.out.2; clear HK0 HOW; go_enter Try.func32, Try.ntmps32; go_wp2; go_ret; exact ⟨rfl, hb0⟩
  by_cases l2 : (4611686018427387904 : Int) < (r.l : Int)
  case pos =>
    obtain rfl := HF.out (fun h => by have := h.lm; unfold Qve at this; omega); clear HF HT Hq HFI HIN; obtain ⟨c0, c1, -⟩ := Qda HK0.out.1.1; have hb0 := HK0.out.2; clear HK0 HOW; go_enter Try.func32, Try.ntmps32; go_wp2; go_ret; exact ⟨rfl, hb0⟩
  obtain ⟨c0, c1, -⟩ := Qda HK0.out.1.1; go_enter Try.func32, Try.ntmps32; go_wp2_with fail; refine Qwa (fun x => Hid (Qx w x [(w.heap.size, 45, rcA r (.slice e1 r.ts.length cap1) (.slice e2 r.ds.length cap2))])) HK0 ?_; clear HK0 c0 c1; intro w0 HK0; obtain ⟨c0, c1, c2, c3, c9, c10, c11, c12, c13⟩ := Qda HK0.out.1.1; have hb0 := HK0.out.2; refine (HOW.out _).mono ?_; rintro e w1 ⟨rfl, rfl⟩; by_cases t1 : r.t < 1
  case pos =>
    obtain rfl := HF.out (fun h => by have := h.own (by omega); omega); clear HF HT Hq HFI HIN; clear HK0 HOW c9 c10 c11 c12 c13; go_wp2; go_ret; exact ⟨rfl, hb0⟩
  by_cases t2 : 1048575 < r.t
  case pos =>
    obtain rfl := HF.out (fun h => by have := h.own (by omega); omega); clear HF HT Hq HFI HIN; clear HK0 HOW c9 c10 c11 c12 c13; go_wp2; go_ret; exact ⟨rfl, hb0⟩
  by_cases p1 : (r.l : Int) <= (r.p : Int)
  case pos =>
    obtain rfl := HF.out (fun h => by have := h.own (by omega); omega); clear HF HT Hq HFI HIN; clear HK0 HOW c9 c10 c11 c12 c13; go_wp2; go_ret; exact ⟨rfl, hb0⟩
  go_wp2_with fail; refine (HOW.out _).mono ?_; rintro e w1 ⟨rfl, rfl⟩; clear HOW; obtain ⟨d4, d5, d6, d7, d8⟩ := Qbg HK0.out.1.1; by_cases f1 : r.c.k = 0
  case neg =>
    obtain rfl := HF.out (fun h => f1 (by rw [h.noch (by omega)]; rfl)); clear HF HT Hq HFI HIN HK0; go_wp2; go_ret; exact ⟨rfl, hb0⟩
  by_cases f2 : r.c.pg = 0
  case neg =>
    obtain rfl := HF.out (fun h => f2 (by rw [h.noch (by omega)]; rfl)); clear HF HT Hq HFI HIN HK0; go_wp2; go_ret; exact ⟨rfl, hb0⟩
  by_cases f3 : r.c.sl = 0
  case neg =>
    obtain rfl := HF.out (fun h => f3 (by rw [h.noch (by omega)]; rfl)); clear HF HT Hq HFI HIN HK0; go_wp2; go_ret; exact ⟨rfl, hb0⟩
  by_cases f4 : r.c.o.toList = []
  case neg =>
    obtain rfl := HF.out (fun h => f4 (by rw [h.noch (by omega)]; exact Qse)); clear HF HT Hq HFI HIN HK0; go_wp2; go_ret; exact ⟨rfl, hb0⟩
  by_cases f5 : r.c.n.toList = []
  case neg =>
    obtain rfl := HF.out (fun h => f5 (by rw [h.noch (by omega)]; exact Qse)); clear HF HT Hq HFI HIN HK0; go_wp2; go_ret; exact ⟨rfl, hb0⟩
  have HCC := Qc (Qmr r.c f1 f2 f3 f4 f5); by_cases n1 : ¬ (r.n : Int) = 0
  case pos =>
    obtain rfl := HF.out (fun h => by have := h.nonext (by omega); omega); have n1e : ((r.n : Int) == 0) = false := by rw [beq_eq_false_iff_ne]; exact n1
    have n1f : ((r.n : Int) != 0) = true := by rw [bne, n1e]; rfl
    clear HF HT Hq HFI HIN; go_wp2; go_ret; exact ⟨rfl, hb0⟩
  have n1e : (r.n : Int) = 0 := Decidable.of_not_not n1; by_cases s1 : ¬ r.s = 0
  case pos =>
    obtain rfl := HF.out (fun h => s1 (h.nosave (by omega))); have s1e : (r.s == 0) = false := by rw [beq_eq_false_iff_ne]; exact s1
    have s1f : (r.s != 0) = true := by rw [bne, s1e]; rfl
    clear HF HT Hq HFI HIN; go_wp2; go_ret; exact ⟨rfl, hb0⟩
  have s1e : r.s = 0 := Decidable.of_not_not s1; by_cases b1 : ¬ (r.b : Int) = 0
  case pos =>
    obtain rfl := HF.out (fun h => by have := h.nocheck (by omega); omega); have b1e : ((r.b : Int) == 0) = false := by rw [beq_eq_false_iff_ne]; exact b1
    have b1f : ((r.b : Int) != 0) = true := by rw [bne, b1e]; rfl
    clear HF HT Hq HFI HIN; go_wp2; go_ret; exact ⟨rfl, hb0⟩
  have b1e : (r.b : Int) = 0 := Decidable.of_not_not b1; by_cases z1 : ¬ (r.ts.length : Int) = 0
  case pos =>
    obtain rfl := HF.out (fun h => by have := (h.nocheck (by omega)).2.1; rw [this] at z1; exact z1 rfl); have z1e : ((r.ts.length : Int) == 0) = false := by rw [beq_eq_false_iff_ne]; exact z1
    have z1f : ((r.ts.length : Int) != 0) = true := by rw [bne, z1e]; rfl
    clear HF HT Hq HFI HIN; go_wp2; go_ret; exact ⟨rfl, hb0⟩
  have z1e : (r.ts.length : Int) = 0 := Decidable.of_not_not z1; by_cases z2 : ¬ (r.ds.length : Int) = 0
  case pos =>
    obtain rfl := HF.out (fun h => by have := (h.nocheck (by omega)).2.2; rw [this] at z2; exact z2 rfl); have z2e : ((r.ds.length : Int) == 0) = false := by rw [beq_eq_false_iff_ne]; exact z2
    have z2f : ((r.ds.length : Int) != 0) = true := by rw [bne, z2e]; rfl
    clear HF HT Hq HFI HIN; go_wp2; go_ret; exact ⟨rfl, hb0⟩
  have z2e : (r.ds.length : Int) = 0 := Decidable.of_not_not z2; obtain rfl := HT.out ⟨by omega, by omega, by omega, by unfold Qve; omega, fun _ => ⟨by omega, by omega, by omega⟩, fun h => absurd h (by omega), fun h => absurd h (by omega), fun _ => HCC.out, fun h => absurd h (by omega), fun _ => by omega, fun h => absurd h (by omega), fun _ => by omega, fun h => absurd h (by omega), fun _ => ⟨by omega, List.eq_nil_of_length_eq_zero (by omega), List.eq_nil_of_length_eq_zero (by omega)⟩⟩; clear HF HT Hq HFI HIN HCC; go_wp2; go_ret; exact ⟨rfl, hb0⟩
theorem rright6_6 (r : Rec) (va vb : Value) (w : World) (q : Bool) (Hq : Hid (q = true ↔ r.right)) (hk : r.k = 6) (hf : r.c.fits) (hin : Qcd w r va vb) :
    Calls Try.prog 32 #[.agg (rcA r va vb)] w fun e w' => e = .returned (.bool q) /\ Below w.heap.size w w' := by
  have HIN := Qc hin; obtain ⟨⟨e1, cap1, rfl, -⟩, ⟨e2, cap2, rfl, -⟩⟩ := hin; have HFI := Qc hf; clear hf; have HK0 := Qc (Qx.one w 45 (rcA r (.slice e1 r.ts.length cap1) (.slice e2 r.ds.length cap2)))
  have HF : Hid (¬ r.right -> q = false) := fun h => by
    cases q
    · rfl
    · exact absurd (Hq.out.1 rfl) h
  have HT : Hid (r.right -> q = true) := fun h => Hq.out.2 h
  have HOW := Qc (fun w => Qcn r.k w true (Qc (decide_eq_true (by omega)))); rw [hk] at HOW; by_cases l1 : (r.l : Int) < 1
  case pos =>
    obtain rfl := HF.out (fun h => by have := h.l1; omega); clear HF HT Hq HFI HIN; obtain ⟨c0, c1, -⟩ := Qda HK0.out.1.1; rw [hk] at c0; have hb0 := HK0.out.2; clear HK0 HOW; go_enter Try.func32, Try.ntmps32; go_wp2; go_ret; exact ⟨rfl, hb0⟩
  by_cases l2 : (4611686018427387904 : Int) < (r.l : Int)
  case pos =>
    obtain rfl := HF.out (fun h => by have := h.lm; unfold Qve at this; omega); clear HF HT Hq HFI HIN; obtain ⟨c0, c1, -⟩ := Qda HK0.out.1.1; rw [hk] at c0; have hb0 := HK0.out.2; clear HK0 HOW; go_enter Try.func32, Try.ntmps32; go_wp2; go_ret; exact ⟨rfl, hb0⟩
  obtain ⟨c0, c1, -⟩ := Qda HK0.out.1.1; rw [hk] at c0; go_enter Try.func32, Try.ntmps32; go_wp2_with fail; refine Qwa (fun x => Hid (Qx w x [(w.heap.size, 45, rcA r (.slice e1 r.ts.length cap1) (.slice e2 r.ds.length cap2))])) HK0 ?_; clear HK0 c0 c1; intro w0 HK0; obtain ⟨c0, c1, c2, c3, c9, c10, c11, c12, c13⟩ := Qda HK0.out.1.1; rw [hk] at c0; have hb0 := HK0.out.2; refine (HOW.out _).mono ?_; rintro e w1 ⟨rfl, rfl⟩; by_cases t1 : r.t < 1
  case pos =>
    obtain rfl := HF.out (fun h => by have := h.own (by omega); omega); clear HF HT Hq HFI HIN; clear HK0 HOW c9 c10 c11 c12 c13; go_wp2; go_ret; exact ⟨rfl, hb0⟩
  by_cases t2 : 1048575 < r.t
  case pos =>
    obtain rfl := HF.out (fun h => by have := h.own (by omega); omega); clear HF HT Hq HFI HIN; clear HK0 HOW c9 c10 c11 c12 c13; go_wp2; go_ret; exact ⟨rfl, hb0⟩
  by_cases p1 : (r.l : Int) <= (r.p : Int)
  case pos =>
    obtain rfl := HF.out (fun h => by have := h.own (by omega); omega); clear HF HT Hq HFI HIN; clear HK0 HOW c9 c10 c11 c12 c13; go_wp2; go_ret; exact ⟨rfl, hb0⟩
  go_wp2_with fail; refine (HOW.out _).mono ?_; rintro e w1 ⟨rfl, rfl⟩; clear HOW; obtain ⟨d4, d5, d6, d7, d8⟩ := Qbg HK0.out.1.1; by_cases f1 : r.c.k = 0
  case neg =>
    obtain rfl := HF.out (fun h => f1 (by rw [h.noch (by omega)]; rfl)); clear HF HT Hq HFI HIN HK0; go_wp2; go_ret; exact ⟨rfl, hb0⟩
  by_cases f2 : r.c.pg = 0
  case neg =>
    obtain rfl := HF.out (fun h => f2 (by rw [h.noch (by omega)]; rfl)); clear HF HT Hq HFI HIN HK0; go_wp2; go_ret; exact ⟨rfl, hb0⟩
  by_cases f3 : r.c.sl = 0
  case neg =>
    obtain rfl := HF.out (fun h => f3 (by rw [h.noch (by omega)]; rfl)); clear HF HT Hq HFI HIN HK0; go_wp2; go_ret; exact ⟨rfl, hb0⟩
  by_cases f4 : r.c.o.toList = []
  case neg =>
    obtain rfl := HF.out (fun h => f4 (by rw [h.noch (by omega)]; exact Qse)); clear HF HT Hq HFI HIN HK0; go_wp2; go_ret; exact ⟨rfl, hb0⟩
  by_cases f5 : r.c.n.toList = []
  case neg =>
    obtain rfl := HF.out (fun h => f5 (by rw [h.noch (by omega)]; exact Qse)); clear HF HT Hq HFI HIN HK0; go_wp2; go_ret; exact ⟨rfl, hb0⟩
  have HCC := Qc (Qmr r.c f1 f2 f3 f4 f5); by_cases n1 : ¬ (r.n : Int) = 0
  case pos =>
    obtain rfl := HF.out (fun h => by have := h.nonext (by omega); omega); have n1e : ((r.n : Int) == 0) = false := by rw [beq_eq_false_iff_ne]; exact n1
    have n1f : ((r.n : Int) != 0) = true := by rw [bne, n1e]; rfl
    clear HF HT Hq HFI HIN; go_wp2; go_ret; exact ⟨rfl, hb0⟩
  have n1e : (r.n : Int) = 0 := Decidable.of_not_not n1; by_cases s1 : r.s < 1
  case pos =>
    obtain rfl := HF.out (fun h => by have := h.save (by omega); omega); clear HF HT Hq HFI HIN; go_wp2; go_ret; exact ⟨rfl, hb0⟩
  by_cases s2 : 8 < r.s
  case pos =>
    obtain rfl := HF.out (fun h => by have := h.save (by omega); omega); clear HF HT Hq HFI HIN; go_wp2; go_ret; exact ⟨rfl, hb0⟩
  by_cases b1 : ¬ (r.b : Int) = 0
  case pos =>
    obtain rfl := HF.out (fun h => by have := h.nocheck (by omega); omega); have b1e : ((r.b : Int) == 0) = false := by rw [beq_eq_false_iff_ne]; exact b1
    have b1f : ((r.b : Int) != 0) = true := by rw [bne, b1e]; rfl
    clear HF HT Hq HFI HIN; go_wp2; go_ret; exact ⟨rfl, hb0⟩
  have b1e : (r.b : Int) = 0 := Decidable.of_not_not b1; by_cases z1 : ¬ (r.ts.length : Int) = 0
  case pos =>
    obtain rfl := HF.out (fun h => by have := (h.nocheck (by omega)).2.1; rw [this] at z1; exact z1 rfl); have z1e : ((r.ts.length : Int) == 0) = false := by rw [beq_eq_false_iff_ne]; exact z1
    have z1f : ((r.ts.length : Int) != 0) = true := by rw [bne, z1e]; rfl
    clear HF HT Hq HFI HIN; go_wp2; go_ret; exact ⟨rfl, hb0⟩
  have z1e : (r.ts.length : Int) = 0 := Decidable.of_not_not z1; by_cases z2 : ¬ (r.ds.length : Int) = 0
  case pos =>
    obtain rfl := HF.out (fun h => by have := (h.nocheck (by omega)).2.2; rw [this] at z2; exact z2 rfl); have z2e : ((r.ds.length : Int) == 0) = false := by rw [beq_eq_false_iff_ne]; exact z2
    have z2f : ((r.ds.length : Int) != 0) = true := by rw [bne, z2e]; rfl
    clear HF HT Hq HFI HIN; go_wp2; go_ret; exact ⟨rfl, hb0⟩
  have z2e : (r.ds.length : Int) = 0 := Decidable.of_not_not z2; obtain rfl := HT.out ⟨by omega, by omega, by omega, by unfold Qve; omega, fun _ => ⟨by omega, by omega, by omega⟩, fun h => absurd h (by omega), fun h => absurd h (by omega), fun _ => HCC.out, fun h => absurd h (by omega), fun _ => by omega, fun _ => ⟨by omega, by omega⟩, fun h => absurd hk h, fun h => absurd h (by omega), fun _ => ⟨by omega, List.eq_nil_of_length_eq_zero (by omega), List.eq_nil_of_length_eq_zero (by omega)⟩⟩; clear HF HT Hq HFI HIN HCC; go_wp2; go_ret; exact ⟨rfl, hb0⟩
end Go.Proofs.Ytdjhcbiejpjkmaa
