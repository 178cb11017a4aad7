/-
  Texts that lean on one another, one behind the other: each opens with its own remark.
-/
import Derived.Test.YtdbpbgpcjmomdaaGreatK00
import Derived.Test.YtdbpbgpcjmomdaaGreatK11
import Derived.Test.YtdbpbgpcjmomdaaGreatK09
import Derived.Test.YtdbpbgpcjmomdaaGreatK10

namespace Go.Proofs.YtdbpbgpcjmomdaaGreat
open Go.RowKit
set_option linter.unusedVariables false
set_option maxRecDepth 8000
set_option maxHeartbeats 25600000
theorem rright6_7 (r : Rec) (va vb : Value) (w : World) (q : Bool) (Hq : Hid (q = true ↔ r.right)) (hk : r.k = 7) (hf : r.c.fits) (hin : Qjb w r va vb) :
    Calls Tryz.prog 55 #[.agg (rcA r va vb)] w fun e w' => e = .returned (.bool q) /\ Below w.heap.size w w' := by
  have HIN := Qa hin; obtain ⟨⟨e1, cap1, rfl, -⟩, ⟨e2, cap2, rfl, -⟩⟩ := hin; have HFI := Qa hf; clear hf; have HK0 := Qa (Qp.one w 34 (rcA r (.slice e1 r.ts.length cap1) (.slice e2 r.ds.length cap2)))
  have HF : Hid (¬ r.right -> q = false) := fun h => by
    cases q
    · rfl
    · exact absurd (Hq.out.1 rfl) h
  have HT : Hid (r.right -> q = true) := fun h => Hq.out.2 h
  have HOW := Qa (fun w => Qfl r.k w false (Qa (decide_eq_false (by omega)))); rw [hk] at HOW; by_cases l1 : (r.l : Int) < 1
  case pos =>
    obtain rfl := HF.out (fun h => by have := h.l1; omega); clear HF HT Hq HFI HIN; obtain ⟨c0, c1, -⟩ := Qz HK0.out.1.1; rw [hk] at c0; have hb0 := HK0.out.2; clear HK0 HOW; go_enter Tryz.func55, Tryz.ntmps55; go_wp2; go_ret; exact ⟨rfl, hb0⟩
  by_cases l2 : (4611686018427387904 : Int) < (r.l : Int)
  case pos =>
    obtain rfl := HF.out (fun h => by have := h.lm; unfold Qxe at this; omega); clear HF HT Hq HFI HIN; obtain ⟨c0, c1, -⟩ := Qz HK0.out.1.1; rw [hk] at c0; have hb0 := HK0.out.2; clear HK0 HOW; go_enter Tryz.func55, Tryz.ntmps55; go_wp2; go_ret; exact ⟨rfl, hb0⟩
  obtain ⟨c0, c1, -⟩ := Qz HK0.out.1.1; rw [hk] at c0; go_enter Tryz.func55, Tryz.ntmps55; go_wp2_with fail; refine Qk (fun x => Hid (Qp w x [(w.heap.size, 34, rcA r (.slice e1 r.ts.length cap1) (.slice e2 r.ds.length cap2))])) HK0 ?_; clear HK0 c0 c1; intro w0 HK0; obtain ⟨c0, c1, c2, c3, c9, c10, c11, c12, c13⟩ := Qz HK0.out.1.1; rw [hk] at c0; have hb0 := HK0.out.2; refine (HOW.out _).mono ?_; rintro e w1 ⟨rfl, rfl⟩; go_wp2_with fail; refine (HOW.out _).mono ?_; rintro e w1 ⟨rfl, rfl⟩; clear HOW; by_cases t1 : ¬ r.t = 0
  case pos =>
    obtain rfl := HF.out (fun h => t1 (h.none (by omega)).1); have t1e : (r.t == 0) = false := by rw [beq_eq_false_iff_ne]; exact t1
    have t1f : (r.t != 0) = true := by rw [bne, t1e]; rfl
    clear HF HT Hq HFI HIN; clear HK0 c9 c10 c11 c12 c13; go_wp2; go_ret; exact ⟨rfl, hb0⟩
  have t1e : r.t = 0 := Decidable.of_not_not t1; by_cases p1 : ¬ (r.p : Int) = 0
  case pos =>
    obtain rfl := HF.out (fun h => by have := h.none (by omega); omega); have p1e : ((r.p : Int) == 0) = false := by rw [beq_eq_false_iff_ne]; exact p1
    have p1f : ((r.p : Int) != 0) = true := by rw [bne, p1e]; rfl
    clear HF HT Hq HFI HIN; clear HK0 c9 c10 c11 c12 c13; go_wp2; go_ret; exact ⟨rfl, hb0⟩
  have p1e : (r.p : Int) = 0 := Decidable.of_not_not p1; obtain ⟨d4, d5, d6, d7, d8⟩ := Qke HK0.out.1.1; by_cases f1 : r.c.k = 0
  case neg =>
    obtain rfl := HF.out (fun h => f1 (by rw [h.noch (by omega)]; rfl)); clear HF HT Hq HFI HIN HK0; go_wp2; go_ret; exact ⟨rfl, hb0⟩
  by_cases f2 : r.c.pg = 0
  case neg =>
    obtain rfl := HF.out (fun h => f2 (by rw [h.noch (by omega)]; rfl)); clear HF HT Hq HFI HIN HK0; go_wp2; go_ret; exact ⟨rfl, hb0⟩
  by_cases f3 : r.c.sl = 0
  case neg =>
    obtain rfl := HF.out (fun h => f3 (by rw [h.noch (by omega)]; rfl)); clear HF HT Hq HFI HIN HK0; go_wp2; go_ret; exact ⟨rfl, hb0⟩
  by_cases f4 : r.c.o.toList = []
  case neg =>
    obtain rfl := HF.out (fun h => f4 (by rw [h.noch (by omega)]; exact Qjd)); clear HF HT Hq HFI HIN HK0; go_wp2; go_ret; exact ⟨rfl, hb0⟩
  by_cases f5 : r.c.n.toList = []
  case neg =>
    obtain rfl := HF.out (fun h => f5 (by rw [h.noch (by omega)]; exact Qjd)); clear HF HT Hq HFI HIN HK0; go_wp2; go_ret; exact ⟨rfl, hb0⟩
  have HCC := Qa (Qsl r.c f1 f2 f3 f4 f5); by_cases n1 : ¬ (r.n : Int) = 0
  case pos =>
    obtain rfl := HF.out (fun h => by have := h.nonext (by omega); omega); have n1e : ((r.n : Int) == 0) = false := by rw [beq_eq_false_iff_ne]; exact n1
    have n1f : ((r.n : Int) != 0) = true := by rw [bne, n1e]; rfl
    clear HF HT Hq HFI HIN; go_wp2; go_ret; exact ⟨rfl, hb0⟩
  have n1e : (r.n : Int) = 0 := Decidable.of_not_not n1; by_cases s1 : ¬ r.s = 0
  case pos =>
    obtain rfl := HF.out (fun h => s1 (h.nosave (by omega))); have s1e : (r.s == 0) = false := by rw [beq_eq_false_iff_ne]; exact s1
    have s1f : (r.s != 0) = true := by rw [bne, s1e]; rfl
    clear HF HT Hq HFI HIN; go_wp2; go_ret; exact ⟨rfl, hb0⟩
  have s1e : r.s = 0 := Decidable.of_not_not s1; by_cases b1 : ¬ (r.b : Int) = 0
  case pos =>
    obtain rfl := HF.out (fun h => by have := h.nocheck (by omega); omega); have b1e : ((r.b : Int) == 0) = false := by rw [beq_eq_false_iff_ne]; exact b1
    have b1f : ((r.b : Int) != 0) = true := by rw [bne, b1e]; rfl
    clear HF HT Hq HFI HIN; go_wp2; go_ret; exact ⟨rfl, hb0⟩
  have b1e : (r.b : Int) = 0 := Decidable.of_not_not b1; by_cases z1 : ¬ (r.ts.length : Int) = 0
  case pos =>
    obtain rfl := HF.out (fun h => by have := (h.nocheck (by omega)).2.1; rw [this] at z1; exact z1 rfl); have z1e : ((r.ts.length : Int) == 0) = false := by rw [beq_eq_false_iff_ne]; exact z1
    have z1f : ((r.ts.length : Int) != 0) = true := by rw [bne, z1e]; rfl
    clear HF HT Hq HFI HIN; go_wp2; go_ret; exact ⟨rfl, hb0⟩
  have z1e : (r.ts.length : Int) = 0 := Decidable.of_not_not z1; by_cases z2 : ¬ (r.ds.length : Int) = 0
  case pos =>
    obtain rfl := HF.out (fun h => by have := (h.nocheck (by omega)).2.2; rw [this] at z2; exact z2 rfl); have z2e : ((r.ds.length : Int) == 0) = false := by rw [beq_eq_false_iff_ne]; exact z2
    have z2f : ((r.ds.length : Int) != 0) = true := by rw [bne, z2e]; rfl
    clear HF HT Hq HFI HIN; go_wp2; go_ret; exact ⟨rfl, hb0⟩
  have z2e : (r.ds.length : Int) = 0 := Decidable.of_not_not z2; obtain rfl := HT.out ⟨by omega, by omega, by omega, by unfold Qxe; omega, fun h => absurd h (by omega), fun _ => ⟨by omega, by omega⟩, fun h => absurd h (by omega), fun _ => HCC.out, fun h => absurd h (by omega), fun _ => by omega, fun h => absurd h (by omega), fun _ => by omega, fun h => absurd h (by omega), fun _ => ⟨by omega, List.eq_nil_of_length_eq_zero (by omega), List.eq_nil_of_length_eq_zero (by omega)⟩⟩; clear HF HT Hq HFI HIN HCC; go_wp2; go_ret; exact ⟨rfl, hb0⟩
theorem rright6_8 (r : Rec) (va vb : Value) (w : World) (q : Bool) (Hq : Hid (q = true ↔ r.right)) (hk : r.k = 8) (hf : r.c.fits) (hin : Qjb w r va vb) :
    Calls Tryz.prog 55 #[.agg (rcA r va vb)] w fun e w' => e = .returned (.bool q) /\ Below w.heap.size w w' := by
  have HIN := Qa hin; obtain ⟨⟨e1, cap1, rfl, -⟩, ⟨e2, cap2, rfl, -⟩⟩ := hin; have HFI := Qa hf; clear hf; have HK0 := Qa (Qp.one w 34 (rcA r (.slice e1 r.ts.length cap1) (.slice e2 r.ds.length cap2)))
  have HF : Hid (¬ r.right -> q = false) := fun h => by
    cases q
    · rfl
    · exact absurd (Hq.out.1 rfl) h
  have HT : Hid (r.right -> q = true) := fun h => Hq.out.2 h
  have HOW := Qa (fun w => Qfl r.k w false (Qa (decide_eq_false (by omega)))); rw [hk] at HOW; by_cases l1 : (r.l : Int) < 1
  case pos =>
    obtain rfl := HF.out (fun h => by have := h.l1; omega); clear HF HT Hq HFI HIN; obtain ⟨c0, c1, -⟩ := Qz HK0.out.1.1; rw [hk] at c0; have hb0 := HK0.out.2; clear HK0 HOW; go_enter Tryz.func55, Tryz.ntmps55; go_wp2; go_ret; exact ⟨rfl, hb0⟩
  by_cases l2 : (4611686018427387904 : Int) < (r.l : Int)
  case pos =>
    obtain rfl := HF.out (fun h => by have := h.lm; unfold Qxe at this; omega); clear HF HT Hq HFI HIN; obtain ⟨c0, c1, -⟩ := Qz HK0.out.1.1; rw [hk] at c0; have hb0 := HK0.out.2; clear HK0 HOW; go_enter Tryz.func55, Tryz.ntmps55; go_wp2; go_ret; exact ⟨rfl, hb0⟩
  obtain ⟨c0, c1, -⟩ := Qz HK0.out.1.1; rw [hk] at c0; go_enter Tryz.func55, Tryz.ntmps55; go_wp2_with fail; refine Qk (fun x => Hid (Qp w x [(w.heap.size, 34, rcA r (.slice e1 r.ts.length cap1) (.slice e2 r.ds.length cap2))])) HK0 ?_; clear HK0 c0 c1; intro w0 HK0; obtain ⟨c0, c1, c2, c3, c9, c10, c11, c12, c13⟩ := Qz HK0.out.1.1; rw [hk] at c0; have hb0 := HK0.out.2; refine (HOW.out _).mono ?_; rintro e w1 ⟨rfl, rfl⟩; go_wp2_with fail; refine (HOW.out _).mono ?_; rintro e w1 ⟨rfl, rfl⟩; clear HOW; by_cases t1 : ¬ r.t = 0
  case pos =>
    obtain rfl := HF.out (fun h => t1 (h.none (by omega)).1); have t1e : (r.t == 0) = false := by rw [beq_eq_false_iff_ne]; exact t1
    have t1f : (r.t != 0) = true := by rw [bne, t1e]; rfl
    clear HF HT Hq HFI HIN; clear HK0 c9 c10 c11 c12 c13; go_wp2; go_ret; exact ⟨rfl, hb0⟩
  have t1e : r.t = 0 := Decidable.of_not_not t1; by_cases p1 : ¬ (r.p : Int) = 0
  case pos =>
    obtain rfl := HF.out (fun h => by have := h.none (by omega); omega); have p1e : ((r.p : Int) == 0) = false := by rw [beq_eq_false_iff_ne]; exact p1
    have p1f : ((r.p : Int) != 0) = true := by rw [bne, p1e]; rfl
    clear HF HT Hq HFI HIN; clear HK0 c9 c10 c11 c12 c13; go_wp2; go_ret; exact ⟨rfl, hb0⟩
  have p1e : (r.p : Int) = 0 := Decidable.of_not_not p1; obtain ⟨d4, d5, d6, d7, d8⟩ := Qke HK0.out.1.1; by_cases f1 : r.c.k = 0
  case neg =>
    obtain rfl := HF.out (fun h => f1 (by rw [h.noch (by omega)]; rfl)); clear HF HT Hq HFI HIN HK0; go_wp2; go_ret; exact ⟨rfl, hb0⟩
  by_cases f2 : r.c.pg = 0
  case neg =>
    obtain rfl := HF.out (fun h => f2 (by rw [h.noch (by omega)]; rfl)); clear HF HT Hq HFI HIN HK0; go_wp2; go_ret; exact ⟨rfl, hb0⟩
  by_cases f3 : r.c.sl = 0
  case neg =>
    obtain rfl := HF.out (fun h => f3 (by rw [h.noch (by omega)]; rfl)); clear HF HT Hq HFI HIN HK0; go_wp2; go_ret; exact ⟨rfl, hb0⟩
  by_cases f4 : r.c.o.toList = []
  case neg =>
    obtain rfl := HF.out (fun h => f4 (by rw [h.noch (by omega)]; exact Qjd)); clear HF HT Hq HFI HIN HK0; go_wp2; go_ret; exact ⟨rfl, hb0⟩
  by_cases f5 : r.c.n.toList = []
  case neg =>
    obtain rfl := HF.out (fun h => f5 (by rw [h.noch (by omega)]; exact Qjd)); clear HF HT Hq HFI HIN HK0; go_wp2; go_ret; exact ⟨rfl, hb0⟩
  have HCC := Qa (Qsl r.c f1 f2 f3 f4 f5); by_cases n1 : ¬ (r.n : Int) = 0
  case pos =>
    obtain rfl := HF.out (fun h => by have := h.nonext (by omega); omega); have n1e : ((r.n : Int) == 0) = false := by rw [beq_eq_false_iff_ne]; exact n1
    have n1f : ((r.n : Int) != 0) = true := by rw [bne, n1e]; rfl
    clear HF HT Hq HFI HIN; go_wp2; go_ret; exact ⟨rfl, hb0⟩
  have n1e : (r.n : Int) = 0 := Decidable.of_not_not n1; by_cases s1 : ¬ r.s = 0
  case pos =>
    obtain rfl := HF.out (fun h => s1 (h.nosave (by omega))); have s1e : (r.s == 0) = false := by rw [beq_eq_false_iff_ne]; exact s1
    have s1f : (r.s != 0) = true := by rw [bne, s1e]; rfl
    clear HF HT Hq HFI HIN; go_wp2; go_ret; exact ⟨rfl, hb0⟩
  have s1e : r.s = 0 := Decidable.of_not_not s1; have HRW := Qa (fun w hin => rows_at r (.slice e1 r.ts.length cap1) (.slice e2 r.ds.length cap2) w q (Qa ⟨fun h => (Hq.out.1 h).check hk, fun h => HT.out ⟨by omega, by omega, by omega, by unfold Qxe; omega, fun h => absurd h (by omega), fun _ => ⟨by omega, by omega⟩, fun h => absurd h (by omega), fun _ => HCC.out, fun h => absurd h (by omega), fun _ => by omega, fun h => absurd h (by omega), fun _ => by omega, fun _ => h, fun h2 => absurd hk h2⟩⟩) hin); clear HF HT Hq HFI HCC
  have hA : rcA r (.slice e1 r.ts.length cap1) (.slice e2 r.ds.length cap2) = #[.int .i64 8, .int .u64 (r.l : Int), .int .i64 0, .int .u64 0, .int .i64 0, .int .i64 0, .int .i64 0, .string r.c.o, .string r.c.n, .int .u64 0, .int .i64 0, .int .u64 (r.b : Int), .slice e1 r.ts.length cap1, .slice e2 r.ds.length cap2] := by
    unfold rcA; rw [hk, t1e, p1e, f1, f2, f3, n1e, s1e]
  rw [hA] at HRW; clear hA; go_wp2_with fail; refine (HRW.out _ (HIN.out.below HK0.out.2)).mono ?_; rintro e w2 ⟨rfl, hb2⟩; have d2 := hb0.trans (hb2.mono hb0.size); clear hb2 HK0 HIN c0 c1 c2 c3 c9 c10 c11 c12 c13; go_wp2; go_ret; exact ⟨rfl, d2⟩
theorem Qdu (r : Rec) (va vb : Value) (w : World) (hk : r.k < 1 ∨ 8 < r.k) :
    Calls Tryz.prog 55 #[.agg (rcA r va vb)] w fun e w' => e = .returned (.bool false) /\ Below w.heap.size w w' := by
  have HK0 := Qa (Qp.one w 34 (rcA r va vb)); obtain ⟨c0, -⟩ := Qz HK0.out.1.1; have hb0 := HK0.out.2; clear HK0; generalize r.k = k at *
  by_cases h1 : k < 1
  · clear hk; go_enter Tryz.func55, Tryz.ntmps55; go_wp2; go_ret; exact ⟨rfl, hb0⟩
  · have h8 : 8 < k := by omega
    clear hk; go_enter Tryz.func55, Tryz.ntmps55; go_wp2; go_ret; exact ⟨rfl, hb0⟩
theorem Qnk (r : Rec) (va vb : Value) (w : World) (hf : r.c.fits) (hin : Qjb w r va vb) :
    Calls Tryz.prog 55 #[.agg (rcA r va vb)] w fun e w' => e = .returned (.bool r.rightB) /\ Below w.heap.size w w' := by
  by_cases hk : r.k < 1 ∨ 8 < r.k
  · rw [Qwb (fun h => by have := h.k1; have := h.k8; omega)]; exact Qdu r va vb w hk
  · have hq : Hid (r.rightB = true ↔ r.right) := Qwh
    by_cases h1 : r.k = 1
    · exact rright6_1 r va vb w _ hq h1 hf hin
    by_cases h2 : r.k = 2
    · exact rright6_2 r va vb w _ hq h2 hf hin
    by_cases h5 : r.k <= 5
    · exact Qar r va vb w _ hq (by omega) h5 hf hin
    by_cases h6 : r.k = 6
    · exact rright6_6 r va vb w _ hq h6 hf hin
    by_cases h7 : r.k = 7
    · exact rright6_7 r va vb w _ hq h7 hf hin
    exact rright6_8 r va vb w _ hq (by omega) hf hin
end Go.Proofs.YtdbpbgpcjmomdaaGreat
