/-
  Texts that lean on one another, one behind the other: each opens with its own remark.
-/
import Derived.Laws.Cover3
import Derived.Test.YtohdmmfmjadipaaK00
import Derived.Test.YtohdmmfmjadipaaK13
import Derived.Test.YtohdmmfmjadipaaK11
import Derived.Test.YtohdmmfmjadipaaK12
import Derived.Test.YtohdmmfmjadipaaK06
import Derived.Test.YtohdmmfmjadipaaK05
import Derived.Test.YtohdmmfmjadipaaK10
import Derived.Test.YtohdmmfmjadipaaK04
import Derived.Test.YtohdmmfmjadipaaK08

namespace Go.Proofs.Ytohdmmfmjadipaa
open Go.RowKit
set_option linter.unusedVariables false
set_option maxRecDepth 8000
set_option maxHeartbeats 25600000
theorem rright6_7 (r : Rec) (va vb : Value) (w : World) (q : Bool) (Hq : Hid (q = true ↔ r.right)) (hk : r.k = 7) (hf : r.c.fits) (hin : Qhd w r va vb) :
    Calls Try.prog 29 #[.agg (rcA r va vb)] w fun e w' => e = .returned (.bool q) /\ Below w.heap.size w w' := by
  have HIN := Qd hin; obtain ⟨⟨e1, cap1, rfl, -⟩, ⟨e2, cap2, rfl, -⟩⟩ := hin; have HFI := Qd hf; clear hf; have HK0 := Qd (Qu.one w 30 (rcA r (.slice e1 r.ts.length cap1) (.slice e2 r.ds.length cap2)))
  have HF : Hid (¬ r.right -> q = false) := fun h => by
    cases q
    · rfl
    · exact absurd (Hq.out.1 rfl) h
  have HT : Hid (r.right -> q = true) := fun h => Hq.out.2 h
  have HOW := Qd (fun w => Qcw r.k w false (Qd (decide_eq_false (by omega)))); rw [hk] at HOW; by_cases l1 : (r.l : Int) < 1
  case pos =>
    obtain rfl := HF.out (fun h => by have := h.l1; omega); clear HF HT Hq HFI HIN; obtain ⟨c0, c1, -⟩ := Qbh HK0.out.1.1; rw [hk] at c0; have hb0 := HK0.out.2; clear HK0 HOW; go_enter Try.func29, Try.ntmps29; go_wp2; go_ret; exact ⟨rfl, hb0⟩
  by_cases l2 : (4611686018427387904 : Int) < (r.l : Int)
  case pos =>
    obtain rfl := HF.out (fun h => by have := h.lm; unfold Qce at this; omega); clear HF HT Hq HFI HIN; obtain ⟨c0, c1, -⟩ := Qbh HK0.out.1.1; rw [hk] at c0; have hb0 := HK0.out.2; clear HK0 HOW; go_enter Try.func29, Try.ntmps29; go_wp2; go_ret; exact ⟨rfl, hb0⟩
  obtain ⟨c0, c1, -⟩ := Qbh HK0.out.1.1; rw [hk] at c0; go_enter Try.func29, Try.ntmps29; go_wp2_with fail; refine Qda (fun x => Hid (Qu w x [(w.heap.size, 30, rcA r (.slice e1 r.ts.length cap1) (.slice e2 r.ds.length cap2))])) HK0 ?_; clear HK0 c0 c1; intro w0 HK0; obtain ⟨c0, c1, c2, c3, c9, c10, c11, c12, c13⟩ := Qbh HK0.out.1.1; rw [hk] at c0; have hb0 := HK0.out.2; refine (HOW.out _).mono ?_; rintro e w1 ⟨rfl, rfl⟩; go_wp2_with fail; refine (HOW.out _).mono ?_; rintro e w1 ⟨rfl, rfl⟩; clear HOW; by_cases t1 : ¬ r.t = 0
  case pos =>
    obtain rfl := HF.out (fun h => t1 (h.none (by omega)).1); have t1e : (r.t == 0) = false := by rw [beq_eq_false_iff_ne]; exact t1
    have t1f : (r.t != 0) = true := by rw [bne, t1e]; rfl
    clear HF HT Hq HFI HIN; clear HK0 c9 c10 c11 c12 c13; go_wp2; go_ret; exact ⟨rfl, hb0⟩
  have t1e : r.t = 0 := Decidable.of_not_not t1; by_cases p1 : ¬ (r.p : Int) = 0
  case pos =>
    obtain rfl := HF.out (fun h => by have := h.none (by omega); omega); have p1e : ((r.p : Int) == 0) = false := by rw [beq_eq_false_iff_ne]; exact p1
    have p1f : ((r.p : Int) != 0) = true := by rw [bne, p1e]; rfl
    clear HF HT Hq HFI HIN; clear HK0 c9 c10 c11 c12 c13; go_wp2; go_ret; exact ⟨rfl, hb0⟩
  have p1e : (r.p : Int) = 0 := Decidable.of_not_not p1; obtain ⟨d4, d5, d6, d7, d8⟩ := Qfs HK0.out.1.1; by_cases f1 : r.c.k = 0
  case neg =>
    obtain rfl := HF.out (fun h => f1 (by rw [h.noch (by omega)]; rfl)); clear HF HT Hq HFI HIN HK0; go_wp2; go_ret; exact ⟨rfl, hb0⟩
  by_cases f2 : r.c.pg = 0
  case neg =>
    obtain rfl := HF.out (fun h => f2 (by rw [h.noch (by omega)]; rfl)); clear HF HT Hq HFI HIN HK0; go_wp2; go_ret; exact ⟨rfl, hb0⟩
  by_cases f3 : r.c.sl = 0
  case neg =>
    obtain rfl := HF.out (fun h => f3 (by rw [h.noch (by omega)]; rfl)); clear HF HT Hq HFI HIN HK0; go_wp2; go_ret; exact ⟨rfl, hb0⟩
  by_cases f4 : r.c.o.toList = []
  case neg =>
    obtain rfl := HF.out (fun h => f4 (by rw [h.noch (by omega)]; exact Qyv)); clear HF HT Hq HFI HIN HK0; go_wp2; go_ret; exact ⟨rfl, hb0⟩
  by_cases f5 : r.c.n.toList = []
  case neg =>
    obtain rfl := HF.out (fun h => f5 (by rw [h.noch (by omega)]; exact Qyv)); clear HF HT Hq HFI HIN HK0; go_wp2; go_ret; exact ⟨rfl, hb0⟩
  have HCC := Qd (Qfw r.c f1 f2 f3 f4 f5); by_cases n1 : ¬ (r.n : Int) = 0
  case pos =>
    obtain rfl := HF.out (fun h => by have := h.nonext (by omega); omega); have n1e : ((r.n : Int) == 0) = false := by rw [beq_eq_false_iff_ne]; exact n1
    have n1f : ((r.n : Int) != 0) = true := by rw [bne, n1e]; rfl
    clear HF HT Hq HFI HIN; go_wp2; go_ret; exact ⟨rfl, hb0⟩
  have n1e : (r.n : Int) = 0 := Decidable.of_not_not n1; by_cases s1 : ¬ r.s = 0
  case pos =>
    obtain rfl := HF.out (fun h => s1 (h.nosave (by omega))); have s1e : (r.s == 0) = false := by rw [beq_eq_false_iff_ne]; exact s1
    have s1f : (r.s != 0) = true := by rw [bne, s1e]; rfl
    clear HF HT Hq HFI HIN; go_wp2; go_ret; exact ⟨rfl, hb0⟩
  have s1e : r.s = 0 := Decidable.of_not_not s1; by_cases b1 : ¬ (r.b : Int) = 0
  case pos =>
    obtain rfl := HF.out (fun h => by have := h.nocheck (by omega); omega); have b1e : ((r.b : Int) == 0) = false := by rw [beq_eq_false_iff_ne]; exact b1
    have b1f : ((r.b : Int) != 0) = true := by rw [bne, b1e]; rfl
    clear HF HT Hq HFI HIN; go_wp2; go_ret; exact ⟨rfl, hb0⟩
  have b1e : (r.b : Int) = 0 := Decidable.of_not_not b1; by_cases z1 : ¬ (r.ts.length : Int) = 0
  case pos =>
    obtain rfl := HF.out (fun h => by have := (h.nocheck (by omega)).2.1; rw [this] at z1; exact z1 rfl); have z1e : ((r.ts.length : Int) == 0) = false := by rw [beq_eq_false_iff_ne]; exact z1
    have z1f : ((r.ts.length : Int) != 0) = true := by rw [bne, z1e]; rfl
    clear HF HT Hq HFI HIN; go_wp2; go_ret; exact ⟨rfl, hb0⟩
  have z1e : (r.ts.length : Int) = 0 := Decidable.of_not_not z1; by_cases z2 : ¬ (r.ds.length : Int) = 0
  case pos =>
    obtain rfl := HF.out (fun h => by have := (h.nocheck (by omega)).2.2; rw [this] at z2; exact z2 rfl); have z2e : ((r.ds.length : Int) == 0) = false := by rw [beq_eq_false_iff_ne]; exact z2
    have z2f : ((r.ds.length : Int) != 0) = true := by rw [bne, z2e]; rfl
    clear HF HT Hq HFI HIN; go_wp2; go_ret; exact ⟨rfl, hb0⟩
  have z2e : (r.ds.length : Int) = 0 := Decidable.of_not_not z2; obtain rfl := HT.out ⟨by omega, by omega, by omega, by unfold Qce; omega, fun h => absurd h (by omega), fun _ => ⟨by omega, by omega⟩, fun h => absurd h (by omega), fun _ => HCC.out, fun h => absurd h (by omega), fun _ => by omega, fun h => absurd h (by omega), fun _ => by omega, fun h => absurd h (by omega), fun _ => ⟨by omega, List.eq_nil_of_length_eq_zero (by omega), List.eq_nil_of_length_eq_zero (by omega)⟩⟩; clear HF HT Hq HFI HIN HCC; go_wp2; go_ret; exact ⟨rfl, hb0⟩
theorem rright6_8 (r : Rec) (va vb : Value) (w : World) (q : Bool) (Hq : Hid (q = true ↔ r.right)) (hk : r.k = 8) (hf : r.c.fits) (hin : Qhd w r va vb) :
    Calls Try.prog 29 #[.agg (rcA r va vb)] w fun e w' => e = .returned (.bool q) /\ Below w.heap.size w w' := by
  have HIN := Qd hin; obtain ⟨⟨e1, cap1, rfl, -⟩, ⟨e2, cap2, rfl, -⟩⟩ := hin; have HFI := Qd hf; clear hf; have HK0 := Qd (Qu.one w 30 (rcA r (.slice e1 r.ts.length cap1) (.slice e2 r.ds.length cap2)))
  have HF : Hid (¬ r.right -> q = false) := fun h => by
    cases q
    · rfl
    · exact absurd (Hq.out.1 rfl) h
  have HT : Hid (r.right -> q = true) := fun h => Hq.out.2 h
  have HOW := Qd (fun w => Qcw r.k w false (Qd (decide_eq_false (by omega)))); rw [hk] at HOW; by_cases l1 : (r.l : Int) < 1
  case pos =>
    obtain rfl := HF.out (fun h => by have := h.l1; omega); clear HF HT Hq HFI HIN; obtain ⟨c0, c1, -⟩ := Qbh HK0.out.1.1; rw [hk] at c0; have hb0 := HK0.out.2; clear HK0 HOW; go_enter Try.func29, Try.ntmps29; go_wp2; go_ret; exact ⟨rfl, hb0⟩
  by_cases l2 : (4611686018427387904 : Int) < (r.l : Int)
  case pos =>
    obtain rfl := HF.out (fun h => by have := h.lm; unfold Qce at this; omega); clear HF HT Hq HFI HIN; obtain ⟨c0, c1, -⟩ := Qbh HK0.out.1.1; rw [hk] at c0; have hb0 := HK0.out.2; clear HK0 HOW; go_enter Try.func29, Try.ntmps29; go_wp2; go_ret; exact ⟨rfl, hb0⟩
  obtain ⟨c0, c1, -⟩ := Qbh HK0.out.1.1; rw [hk] at c0; go_enter Try.func29, Try.ntmps29; go_wp2_with fail; refine Qda (fun x => Hid (Qu w x [(w.heap.size, 30, rcA r (.slice e1 r.ts.length cap1) (.slice e2 r.ds.length cap2))])) HK0 ?_; clear HK0 c0 c1; intro w0 HK0; obtain ⟨c0, c1, c2, c3, c9, c10, c11, c12, c13⟩ := Qbh HK0.out.1.1; rw [hk] at c0; have hb0 := HK0.out.2; refine (HOW.out _).mono ?_; rintro e w1 ⟨rfl, rfl⟩; go_wp2_with fail; refine (HOW.out _).mono ?_; rintro e w1 ⟨rfl, rfl⟩; clear HOW; by_cases t1 : ¬ r.t = 0
  case pos =>
    obtain rfl := HF.out (fun h => t1 (h.none (by omega)).1); have t1e : (r.t == 0) = false := by rw [beq_eq_false_iff_ne]; exact t1
    have t1f : (r.t != 0) = true := by rw [bne, t1e]; rfl
    clear HF HT Hq HFI HIN; clear HK0 c9 c10 c11 c12 c13; go_wp2; go_ret; exact ⟨rfl, hb0⟩
  have t1e : r.t = 0 := Decidable.of_not_not t1; by_cases p1 : ¬ (r.p : Int) = 0
  case pos =>
    obtain rfl := HF.out (fun h => by have := h.none (by omega); omega); have p1e : ((r.p : Int) == 0) = false := by rw [beq_eq_false_iff_ne]; exact p1
    have p1f : ((r.p : Int) != 0) = true := by rw [bne, p1e]; rfl
    clear HF HT Hq HFI HIN; clear HK0 c9 c10 c11 c12 c13; go_wp2; go_ret; exact ⟨rfl, hb0⟩
  have p1e : (r.p : Int) = 0 := Decidable.of_not_not p1; obtain ⟨d4, d5, d6, d7, d8⟩ := Qfs HK0.out.1.1; by_cases f1 : r.c.k = 0
  case neg =>
    obtain rfl := HF.out (fun h => f1 (by rw [h.noch (by omega)]; rfl)); clear HF HT Hq HFI HIN HK0; go_wp2; go_ret; exact ⟨rfl, hb0⟩
  by_cases f2 : r.c.pg = 0
  case neg =>
    obtain rfl := HF.out (fun h => f2 (by rw [h.noch (by omega)]; rfl)); clear HF HT Hq HFI HIN HK0; go_wp2; go_ret; exact ⟨rfl, hb0⟩
  by_cases f3 : r.c.sl = 0
  case neg =>
    obtain rfl := HF.out (fun h => f3 (by rw [h.noch (by omega)]; rfl)); clear HF HT Hq HFI HIN HK0; go_wp2; go_ret; exact ⟨rfl, hb0⟩
  by_cases f4 : r.c.o.toList = []
  case neg =>
    obtain rfl := HF.out (fun h => f4 (by rw [h.noch (by omega)]; exact Qyv)); clear HF HT Hq HFI HIN HK0; go_wp2; go_ret; exact ⟨rfl, hb0⟩
  by_cases f5 : r.c.n.toList = []
  case neg =>
    obtain rfl := HF.out (fun h => f5 (by rw [h.noch (by omega)]; exact Qyv)); clear HF HT Hq HFI HIN HK0; go_wp2; go_ret; exact ⟨rfl, hb0⟩
  have HCC := Qd (Qfw r.c f1 f2 f3 f4 f5); by_cases n1 : ¬ (r.n : Int) = 0
  case pos =>
    obtain rfl := HF.out (fun h => by have := h.nonext (by omega); omega); have n1e : ((r.n : Int) == 0) = false := by rw [beq_eq_false_iff_ne]; exact n1
    have n1f : ((r.n : Int) != 0) = true := by rw [bne, n1e]; rfl
    clear HF HT Hq HFI HIN; go_wp2; go_ret; exact ⟨rfl, hb0⟩
  have n1e : (r.n : Int) = 0 := Decidable.of_not_not n1; by_cases s1 : ¬ r.s = 0
  case pos =>
    obtain rfl := HF.out (fun h => s1 (h.nosave (by omega))); have s1e : (r.s == 0) = false := by rw [beq_eq_false_iff_ne]; exact s1
    have s1f : (r.s != 0) = true := by rw [bne, s1e]; rfl
    clear HF HT Hq HFI HIN; go_wp2; go_ret; exact ⟨rfl, hb0⟩
  have s1e : r.s = 0 := Decidable.of_not_not s1; have HRW := Qd (fun w hin => rows_at r (.slice e1 r.ts.length cap1) (.slice e2 r.ds.length cap2) w q (Qd ⟨fun h => (Hq.out.1 h).check hk, fun h => HT.out ⟨by omega, by omega, by omega, by unfold Qce; omega, fun h => absurd h (by omega), fun _ => ⟨by omega, by omega⟩, fun h => absurd h (by omega), fun _ => HCC.out, fun h => absurd h (by omega), fun _ => by omega, fun h => absurd h (by omega), fun _ => by omega, fun _ => h, fun h2 => absurd hk h2⟩⟩) hin); clear HF HT Hq HFI HCC
  have hA : rcA r (.slice e1 r.ts.length cap1) (.slice e2 r.ds.length cap2) = #[.int .i64 8, .int .u64 (r.l : Int), .int .i64 0, .int .u64 0, .int .i64 0, .int .i64 0, .int .i64 0, .string r.c.o, .string r.c.n, .int .u64 0, .int .i64 0, .int .u64 (r.b : Int), .slice e1 r.ts.length cap1, .slice e2 r.ds.length cap2] := by
    unfold rcA; rw [hk, t1e, p1e, f1, f2, f3, n1e, s1e]
  rw [hA] at HRW; clear hA; go_wp2_with fail; refine (HRW.out _ (HIN.out.below HK0.out.2)).mono ?_; rintro e w2 ⟨rfl, hb2⟩; have d2 := hb0.trans (hb2.mono hb0.size); clear hb2 HK0 HIN c0 c1 c2 c3 c9 c10 c11 c12 c13; go_wp2; go_ret; exact ⟨rfl, d2⟩
theorem Qbx (r : Rec) (va vb : Value) (w : World) (hk : r.k < 1 ∨ 8 < r.k) :
    Calls Try.prog 29 #[.agg (rcA r va vb)] w fun e w' => e = .returned (.bool false) /\ Below w.heap.size w w' := by
  have HK0 := Qd (Qu.one w 30 (rcA r va vb)); obtain ⟨c0, -⟩ := Qbh HK0.out.1.1; have hb0 := HK0.out.2; clear HK0; generalize r.k = k at *
  by_cases h1 : k < 1
  · clear hk; go_enter Try.func29, Try.ntmps29; go_wp2; go_ret; exact ⟨rfl, hb0⟩
  · have h8 : 8 < k := by omega
    clear hk; go_enter Try.func29, Try.ntmps29; go_wp2; go_ret; exact ⟨rfl, hb0⟩
theorem Qqw (r : Rec) (va vb : Value) (w : World) (hf : r.c.fits) (hin : Qhd w r va vb) :
    Calls Try.prog 29 #[.agg (rcA r va vb)] w fun e w' => e = .returned (.bool r.rightB) /\ Below w.heap.size w w' := by
  by_cases hk : r.k < 1 ∨ 8 < r.k
  · rw [Qjo (fun h => by have := h.k1; have := h.k8; omega)]; exact Qbx r va vb w hk
  · have hq : Hid (r.rightB = true ↔ r.right) := Qei
    by_cases h1 : r.k = 1
    · exact rright6_1 r va vb w _ hq h1 hf hin
    by_cases h2 : r.k = 2
    · exact rright6_2 r va vb w _ hq h2 hf hin
    by_cases h5 : r.k <= 5
    · exact Qlw r va vb w _ hq (by omega) h5 hf hin
    by_cases h6 : r.k = 6
    · exact rright6_6 r va vb w _ hq h6 hf hin
    by_cases h7 : r.k = 7
    · exact rright6_7 r va vb w _ hq h7 hf hin
    exact rright6_8 r va vb w _ hq (by omega) hf hin
theorem rgood15 (v : Value) (ms : List (Rec × Value × Value)) (w : World) (h : LogIn w v ms) :
    Calls Try.prog 16 #[v] w fun e w' => e = .returned (.bool (Qrq 0 (msR ms))) /\ Below w.heap.size w w' := by
  obtain ⟨q, hq⟩ : ∃ q, q = Qrq 0 (msR ms) := ⟨_, rfl⟩; have HQ : Hid (q = true ↔ Qob 0 (msR ms)) := by rw [hq]; exact Qvd _ _
  rw [<- hq]; clear hq; have HA := Qd h; obtain ⟨aa, ca, rfl, hlc⟩ := h.slice; have hl := h.few; clear h; obtain ⟨ln, hln⟩ : ∃ ln, ln = ms.length := ⟨_, rfl⟩; rw [<- hln] at HA hl hlc |-; have HN := Qd hln; clear hln; go_enter Try.func16, Try.ntmps16; go_wp2; go_loopw [3, 7] (fun v i wr => ∃ (j ll : Nat), j <= ln /\ i = .int .i64 (j : Int) /\ v = .int .u64 (ll : Int) /\ ll < 18446744073709551616 /\ Hid (ll = Qfb 0 ((msR ms).take j)) /\ Hid (Qob 0 ((msR ms).take j)) /\ Hid (Below w.heap.size w wr)) (fun _ i _ => ln - (intOf i).toNat)
  case atStart => exact ⟨0, 0, Nat.zero_le _, rfl, rfl, by decide, by rw [List.take_zero]; rfl, by rw [List.take_zero]; trivial, Below.refl _ _⟩
  case round =>
    obtain ⟨j, ll, hj, rfl, rfl, hll, HLL, HRI, HBR⟩ := hrel
    by_cases hlt : j < ln
    · have hjm : j < ms.length := by rw [<- HN.out]; exact hlt
      have HS := Qd (Qqh hjm); obtain ⟨b, off, rfl, hf, _, hx⟩ := HA.out.mid hjm; obtain ⟨m, hm⟩ : ∃ m, m = ms.getD j rcZ := ⟨_, rfl⟩; rw [<- hm] at hf hx HS; clear hm; have ij : (j : Int) < (ln : Int) := by omega
      obtain ⟨hr0, hin⟩ := hx wr HBR.out; have HLD := Qd (Qmj wr b (off + j * 14) m hr0); have HR := Qd (Qqw m.1 m.2.1 m.2.2 wr hf.c hin); have HFX := Qd hx; clear hr0 hf hx hin
      have ex : ∀ P : Prop, ¬ P -> (q = true -> P) -> q = false := fun P h1 h2 => by
        cases hq : q
        · rfl
        · exact absurd (h2 hq) h1
      by_cases hr : m.1.right
      · rw [Qzh hr] at HR; have hrl : m.1.l < 18446744073709551616 := by have := hr.lm; unfold Qce at this; omega
        have HRR := Qd hr; clear hr; go_wp2_with (refine Qr rfl 30 (.tmp 12) rfl _ _ rfl HLD.out ?_); refine HR.out.mono ?_; rintro e w1 ⟨rfl, hb1⟩; have HB1 := Qd (HBR.out.trans (hb1.mono HBR.out.size)); have k1 : w1.cell? ⟨b, off + j * 14 + 1, none⟩ = some (.int .u64 (m.1.l : Int)) := (HFX.out w1 HB1.out).1 1 _ rfl; clear hb1 HBR HR HLD
        by_cases hle : m.1.l <= ll
        · have ile : (m.1.l : Int) <= (ll : Int) := by omega
          go_wp2; go_ret; refine ⟨?_, HB1.out⟩
          rw [ex (Qob 0 (msR ms)) (fun h1 => by
            have h1 := Qxn _ (j + 1) h1; rw [HS.out, Qzd, <- HLL.out] at h1
            omega) HQ.out.1]
          rfl
        · have ile : ¬ (m.1.l : Int) <= (ll : Int) := by omega
          go_wp2; go_roundw
          case rel =>
            refine ⟨j + 1, m.1.l, by omega, by go_num, rfl, hrl, ?_, ?_, HB1⟩
            · rw [HS.out, Qik]; exact rfl
            · rw [HS.out, Qzd, <- HLL.out]; exact ⟨HRI.out, HRR.out, by omega⟩
          case measure => simp [intOf]; omega
      · rw [Qjo hr] at HR; have HRR := Qd hr; clear hr; go_wp2_with (refine Qr rfl 30 (.tmp 12) rfl _ _ rfl HLD.out ?_); refine HR.out.mono ?_; rintro e w1 ⟨rfl, hb1⟩; have HB1 := Qd (HBR.out.trans (hb1.mono HBR.out.size)); clear hb1 HBR HR HLD; go_wp2; go_ret; refine ⟨?_, HB1.out⟩
        rw [ex (Qob 0 (msR ms)) (fun h1 => by
          have h1 := Qxn _ (j + 1) h1; rw [HS.out, Qzd] at h1
          exact HRR.out h1.2.1) HQ.out.1]
        rfl
    · obtain rfl : j = ln := by omega
      go_wp2; go_ret; refine ⟨?_, HBR.out⟩; have h1 := HRI.out; rw [HN.out, <- Qhe, List.take_length] at h1; rw [HQ.out.2 h1]; rfl
theorem Qvw (a : Option Addr) (n c : Nat) (w : World) : (binOp .eql 27 (.slice a n c) (.slice none 0 0)).run Try.prog w = .ok (.bool a.isNone) w := by
  have q := run_equal_slice_nil (P := Try.prog) w 27 84 a n c Try.underlying27; simp [binOp, q]
theorem clone15T {w : World} {v : Value} {l : List Tx} (h : TxIn w v l) (hl : l.length * 40 <= 140737488355328) : Calls Try.prog 39 #[v] w fun e w' => ∃ v', e = .returned v' /\ w'.ownsRow w.heap.size 84 5 v' l.length (Qzw l) /\ Below w.heap.size w w' := by
  have h0 := h; obtain ⟨a, c, rfl, hc⟩ := h0
  cases a with
  | none =>
    have hm : l = [] := by
      rcases l with _ | ⟨m, ms⟩
      · rfl
      · obtain ⟨b, off, h, _⟩ := hc (by simp); cases h
    subst hm; have q0 := fun n w => Qvw none n c w
    simp only [Option.isNone_none] at q0; clear h hc hl; rw [show ([] : List Tx).length = 0 from rfl]; have q1 := fun w => q0 0 w
    clear q0; go_enter Try.func39, Try.ntmps39; go_wp2; go_ret; exact ⟨_, rfl, World.ownsRow_nil _ _ _ _, Below.refl _ _⟩
  | some ad =>
    have b5 : Below w.heap.size w (w.alloc (.cells #[] 84)) := (Below.refl w.heap.size w).alloc (Nat.le_refl _) _; have ho : (w.alloc (.cells #[] 84)).ownsRow w.heap.size 84 5 (.slice (some ⟨w.heap.size, 0, none⟩) 0 0) 0 [] := ⟨rfl, .inr ⟨w.heap.size, 0, #[], rfl, Nat.le_refl _, Qb.new w _ _, Nat.le_refl _, Nat.zero_le _, rfl, rfl⟩⟩; obtain ⟨v1, y1, r1, o1, g1⟩ := Qzk txA Tx.zero 5 (fun _ => rfl) (by decide) (P := Try.prog) (w.alloc (.cells #[] 84)) w.heap.size 27 27 84 _ 40 Try.underlying27 infoTx3 rfl (.slice (some ⟨w.heap.size, 0, none⟩) 0 0) 0 [] ho (.slice (some ad) l.length c) l (h.below b5) (fun a len c h ha => by injection h with h1; rw [ha] at h1; cases h1) (fun m _ u hu => by have := Qrw m; rw [Array.all_eq_true'] at this; exact this u (by simpa using hu)) (by unfold maxLen; omega) (by omega) b5.size; rw [Nat.zero_add, List.nil_append] at o1; have HE := Qd (show y1.ownsRow w.heap.size 84 5 v1 l.length (Qzw l) /\ Below w.heap.size w y1 from ⟨o1, b5.trans ((Tn.of_grown (F := fun k => k = w.heap.size) g1 (fun k hk => by injection hk with hk; exact hk.symm)).below (fun k hk => by rw [hk]; exact Nat.le_refl _) b5.size)⟩); generalize l.length = n at *; have q0 := fun w => Qvw (some ad) n c w
    simp only [Option.isNone_some] at q0; clear h hc hl o1 g1 ho b5; go_enter Try.func39, Try.ntmps39; go_wp2_with (with_reducible refine Qia 7 rfl ?_); refine Qj ?_; refine Lib.wpList_append_run _ rfl _ _ _ _ rfl _ _ rfl rfl _ _ r1 ?_; go_wp2; go_ret; exact ⟨_, rfl, HE.out⟩
theorem Quw (a : Option Addr) (n c : Nat) (w : World) : (binOp .eql 28 (.slice a n c) (.slice none 0 0)).run Try.prog w = .ok (.bool a.isNone) w := by
  have q := run_equal_slice_nil (P := Try.prog) w 28 86 a n c Try.underlying28; simp [binOp, q]
theorem clone15D {w : World} {v : Value} {l : List Di} (h : DiIn w v l) (hl : l.length * 16 <= 140737488355328) : Calls Try.prog 40 #[v] w fun e w' => ∃ v', e = .returned v' /\ w'.ownsRow w.heap.size 86 2 v' l.length (flatD l) /\ Below w.heap.size w w' := by
  have h0 := h; obtain ⟨a, c, rfl, hc⟩ := h0
  cases a with
  | none =>
    have hm : l = [] := by
      rcases l with _ | ⟨m, ms⟩
      · rfl
      · obtain ⟨b, off, h, _⟩ := hc (by simp); cases h
    subst hm; have q0 := fun n w => Quw none n c w
    simp only [Option.isNone_none] at q0; clear h hc hl; rw [show ([] : List Di).length = 0 from rfl]; have q1 := fun w => q0 0 w
    clear q0; go_enter Try.func40, Try.ntmps40; go_wp2; go_ret; exact ⟨_, rfl, World.ownsRow_nil _ _ _ _, Below.refl _ _⟩
  | some ad =>
    have b5 : Below w.heap.size w (w.alloc (.cells #[] 86)) := (Below.refl w.heap.size w).alloc (Nat.le_refl _) _; have ho : (w.alloc (.cells #[] 86)).ownsRow w.heap.size 86 2 (.slice (some ⟨w.heap.size, 0, none⟩) 0 0) 0 [] := ⟨rfl, .inr ⟨w.heap.size, 0, #[], rfl, Nat.le_refl _, Qb.new w _ _, Nat.le_refl _, Nat.zero_le _, rfl, rfl⟩⟩; obtain ⟨v1, y1, r1, o1, g1⟩ := Qzk diA Di.zero 2 (fun _ => rfl) (by decide) (P := Try.prog) (w.alloc (.cells #[] 86)) w.heap.size 28 28 86 _ 16 Try.underlying28 infoDi3 rfl (.slice (some ⟨w.heap.size, 0, none⟩) 0 0) 0 [] ho (.slice (some ad) l.length c) l (h.below b5) (fun a len c h ha => by injection h with h1; rw [ha] at h1; cases h1) (fun m _ u hu => by have := Qnw m; rw [Array.all_eq_true'] at this; exact this u (by simpa using hu)) (by unfold maxLen; omega) (by omega) b5.size; rw [Nat.zero_add, List.nil_append] at o1; have HE := Qd (show y1.ownsRow w.heap.size 86 2 v1 l.length (flatD l) /\ Below w.heap.size w y1 from ⟨o1, b5.trans ((Tn.of_grown (F := fun k => k = w.heap.size) g1 (fun k hk => by injection hk with hk; exact hk.symm)).below (fun k hk => by rw [hk]; exact Nat.le_refl _) b5.size)⟩); generalize l.length = n at *; have q0 := fun w => Quw (some ad) n c w
    simp only [Option.isNone_some] at q0; clear h hc hl o1 g1 ho b5; go_enter Try.func40, Try.ntmps40; go_wp2_with (with_reducible refine Qia 7 rfl ?_); refine Qj ?_; refine Lib.wpList_append_run _ rfl _ _ _ _ rfl _ _ rfl rfl _ _ r1 ?_; go_wp2; go_ret; exact ⟨_, rfl, HE.out⟩
section
open Go.ChangeShapes Go.WideShapes Go.ChangeAt Go.RowKit Go.Deep Go.Joins
section
variable {H : Type} {enc : TypeId × Value -> H} {W : World}
theorem Qaw {P : Program} {e : TypeId} : ∀ {l : List (DataW H)} {d : DataW H}, d ∈ l -> ∀ n ∈ d.weights P e, n ∈ DataW.weightsAll P e l
  | a :: l, d, h, n, hn => by
    rw [DataW.weightsAll]
    rcases List.mem_cons.1 h with rfl | h
    · exact List.mem_append.2 (.inl hn)
    · exact List.mem_append.2 (.inr (Qaw h n hn))
theorem Qdw {P : Program} {t : TypeId} {f0 f1 f2 f3 f4 f5 f6 f7 f8 f9 : Field} {fuel : Nat} {cs : List Value} {x : DataW H × List MemPlace} (ht : P.underlying t = some (.struct #[f0, f1, f2, f3, f4, f5, f6, f7, f8, f9])) (h : DataW.trod enc P W 0 (fun _ => true) true fuel t cs = some x) :
    ∃ y0 y1 y2 y3 y4 y5 y6 y7 y8 y9 n, cs.length = P.cellsOf t /\ DataW.trod enc P W 0 (fun _ => true) true n f0.type ((cs.drop f0.offset).take (P.cellsOf f0.type)) = some y0 /\ DataW.trod enc P W 0 (fun _ => true) true n f1.type ((cs.drop f1.offset).take (P.cellsOf f1.type)) = some y1 /\ DataW.trod enc P W 0 (fun _ => true) true n f2.type ((cs.drop f2.offset).take (P.cellsOf f2.type)) = some y2 /\ DataW.trod enc P W 0 (fun _ => true) true n f3.type ((cs.drop f3.offset).take (P.cellsOf f3.type)) = some y3 /\ DataW.trod enc P W 0 (fun _ => true) true n f4.type ((cs.drop f4.offset).take (P.cellsOf f4.type)) = some y4 /\ DataW.trod enc P W 0 (fun _ => true) true n f5.type ((cs.drop f5.offset).take (P.cellsOf f5.type)) = some y5 /\ DataW.trod enc P W 0 (fun _ => true) true n f6.type ((cs.drop f6.offset).take (P.cellsOf f6.type)) = some y6 /\ DataW.trod enc P W 0 (fun _ => true) true n f7.type ((cs.drop f7.offset).take (P.cellsOf f7.type)) = some y7 /\ DataW.trod enc P W 0 (fun _ => true) true n f8.type ((cs.drop f8.offset).take (P.cellsOf f8.type)) = some y8 /\ DataW.trod enc P W 0 (fun _ => true) true n f9.type ((cs.drop f9.offset).take (P.cellsOf f9.type)) = some y9 /\ x.1 = .agg [y0.1, y1.1, y2.1, y3.1, y4.1, y5.1, y6.1, y7.1, y8.1, y9.1] := by
  obtain ⟨xs, n, _, rfl, hl, hlen, hf⟩ := DataW.trod_struct ht h
  match xs, hlen with
  | [y0, y1, y2, y3, y4, y5, y6, y7, y8, y9], _ => exact ⟨y0, y1, y2, y3, y4, y5, y6, y7, y8, y9, n, hl, by simpa using hf 0 f0 rfl, by simpa using hf 1 f1 rfl, by simpa using hf 2 f2 rfl, by simpa using hf 3 f3 rfl, by simpa using hf 4 f4 rfl, by simpa using hf 5 f5 rfl, by simpa using hf 6 f6 rfl, by simpa using hf 7 f7 rfl, by simpa using hf 8 f8 rfl, by simpa using hf 9 f9 rfl, rfl⟩
theorem Qew {α : Type} (f : α -> Array Value) (z : α) (G : α -> DataW H -> Prop) {P : Program} {t e : TypeId} {sz fuel : Nat} {c : Value} {x : DataW H × List MemPlace} (hel : ∀ n cs y, DataW.trod enc P W 0 (fun _ => true) true n e cs = some y -> ∃ x, cs = (f x).toList /\ G x y.1)
    (ht : P.underlying t = some (.slice e)) (hsz : P.cellsOf e = sz) (hfz : ∀ x, (f x).size = sz) (hpos : 0 < sz) (h : DataW.trod enc P W 0 (fun _ => true) true fuel t [c] = some x) : ∃ xs, Qsd f z sz W c xs /\ xs.length <= maxLen /\ (∀ u ∈ xs, ∃ dd, G u dd /\ ∀ n ∈ dd.weights P e, n ∈ x.1.weights P t) /\ (xs = [] ∨ ∃ s, (xs.length + s) * P.bytesOf e ∈ x.1.weights P t) := by
  rcases open_slice ht h with ⟨hcs, _⟩ | ⟨a, len, cap, m, n, D, Pl, hcs, _, hl, hm, hmm, hx, hall⟩
  · simp only [List.cons.injEq, and_true] at hcs; exact ⟨[], ⟨none, 0, hcs, fun h => absurd h (by simp)⟩, Nat.zero_le _, fun x hx => (nomatch hx), .inl rfl⟩
  · simp only [List.cons.injEq, and_true] at hcs; subst hcs; simp only [if_true] at hmm; subst hmm; have : Nonempty α := ⟨z⟩
    obtain ⟨g, hg⟩ := @choose_lt α ⟨z⟩ m (fun i y => G y (D i) /\ ∀ k, k < sz -> W.cell? (a.add (i * sz + k)) = (f y).toList[k]?) (fun i hi => by
      obtain ⟨cs', h1, h2⟩ := hall i hi; obtain ⟨y, rfl, hG⟩ := hel _ _ _ h2; rw [hsz] at h1; obtain ⟨_, _, h3⟩ := World.cells?_some h1; refine ⟨y, hG, fun k hk => ?_⟩
      rw [<- h3 k hk, Addr.add_add])
    have hL : ((List.range len).map g).length = len := by simp
    refine ⟨(List.range len).map g, ⟨some a, m, by rw [hL], fun hp => ?_⟩, by rw [hL]; omega, fun u hu => ?_, ?_⟩
    rotate_left
    · obtain ⟨i, hi, rfl⟩ := List.mem_map.1 hu; have hi2 := List.mem_range.1 hi; refine ⟨D i, (hg i (by omega)).1, fun n hn => ?_⟩; rw [hx]; simp only [DataW.weights, ht]; refine List.mem_cons_of_mem _ (List.mem_append.2 (.inl (Qaw (List.mem_map.2 ⟨i, hi, rfl⟩) n hn)))
    · refine .inr ⟨((List.range (m - len)).map fun j => D (len + j)).length, ?_⟩; rw [hx, hL]; simp only [DataW.weights, ht]; refine List.mem_cons.2 (.inl ?_); simp only [List.length_map, List.length_range]
    rw [hL] at hp; have hf0 : ∀ y k, k < sz -> ∃ v, (f y).toList[k]? = some v := fun y k hk => ⟨_, List.getElem?_eq_getElem (by rw [Array.length_toList, hfz]; exact hk)⟩
    have hc0 := (hg 0 (by omega)).2 0 hpos; obtain ⟨v0, hv0⟩ := hf0 (g 0) 0 hpos; rw [hv0] at hc0; obtain ⟨b, off, spot⟩ := a; have hspot : spot = none := by simpa [Addr.add] using World.cell?_spot hc0
    subst hspot
    refine ⟨b, off, rfl, ?_, fun i hi j v hv => ?_⟩
    · have := World.block_lt_of_cell? W _ hc0; simpa [Addr.add] using this
    · rw [hL] at hi
      have hget : ((List.range len).map g).getD i z = g i := by
        rw [List.getD_eq_getElem?_getD, List.getElem?_map, List.getElem?_range hi]; rfl
      rw [hget] at hv
      have hj : j < sz := by
        have := (List.getElem?_eq_some_iff.1 hv).1; rw [Array.length_toList, hfz] at this; exact this
      have := (hg i (by omega)).2 j hj; rw [Addr.add_lit, hv] at this; rw [<- this, Nat.add_assoc]
theorem elem_recW (n : Nat) (cs : List Value) (y : DataW H × List MemPlace) (h : DataW.trod enc Try.prog W 0 (fun _ => true) true n 30 cs = some y) : ∃ m : Rec × Value × Value, cs = (rcF m).toList /\ (m.1.fits /\ Qhd W m.1 m.2.1 m.2.2) /\ ((∀ n ∈ y.1.weights Try.prog 30, n <= reachBytes) -> m.1.ts.length * 40 <= reachBytes /\ m.1.ds.length * 16 <= reachBytes) := by
  obtain ⟨z0, z1, z2, z3, z4, z5, z6, z7, z8, z9, m', hl, -⟩ := Qdw Try.underlying30 h; have hC : Try.prog.cellsOf 30 = 14 := by kernel_rfl
  rw [hC] at hl
  match cs, hl with
  | [c0, c1, c2, c3, c4, c5, c6, c7, c8, c9, c10, c11, c12, c13], _ =>
    obtain ⟨y0, y1, y2, y3, y4, y5, y6, y7, y8, y9, m, _, h0, h1, h2, h3, h4, h5, h6, h7, h8, h9, hdat⟩ := Qdw Try.underlying30 h; have e0 : Try.prog.cellsOf 3 = 1 := by kernel_rfl
    have e1 : Try.prog.cellsOf 23 = 1 := by kernel_rfl
    have e2 : Try.prog.cellsOf 26 = 5 := by kernel_rfl
    have e3 : Try.prog.cellsOf 27 = 1 := by kernel_rfl
    have e4 : Try.prog.cellsOf 28 = 1 := by kernel_rfl
    simp only [e0, e1, e2, e3, e4, List.drop_zero, List.drop_succ_cons, List.take_succ_cons, List.take_zero] at h0 h1 h2 h3 h4 h5 h6 h7 h8 h9; obtain ⟨i0, g0, _, w0⟩ := DataW.trod_int Try.underlying3 h0; obtain ⟨i1, g1, _, w1⟩ := DataW.trod_int Try.underlying23 h1; obtain ⟨i2, g2, _, w2⟩ := DataW.trod_int Try.underlying3 h2; obtain ⟨i3, g3, _, w3⟩ := DataW.trod_int Try.underlying23 h3; obtain ⟨ch, g4, w4⟩ := Qpw _ _ _ h4; obtain ⟨i5, g5, _, w5⟩ := DataW.trod_int Try.underlying23 h5; obtain ⟨i6, g6, _, w6⟩ := DataW.trod_int Try.underlying3 h6; obtain ⟨i7, g7, _, w7⟩ := DataW.trod_int Try.underlying23 h7; obtain ⟨ts, g8, w8, u8, z8⟩ := Qew (sz := 5) txA Tx.zero (fun x _ => x.fits) Qow Try.underlying27 (by kernel_rfl) (fun _ => rfl) (by decide) h8; obtain ⟨ds, g9, w9, u9, z9⟩ := Qew (sz := 2) diA Di.zero (fun x _ => x.fits) Qsw Try.underlying28 (by kernel_rfl) (fun _ => rfl) (by decide) h9; simp only [chA, List.cons.injEq, and_true] at g0 g1 g2 g3 g4 g5 g6 g7; obtain ⟨g40, g41, g42, g43, g44⟩ := g4; subst g0 g1 g2 g3 g40 g41 g42 g43 g44 g5 g6 g7; obtain ⟨j1, rfl⟩ := Qgd w1; obtain ⟨j3, rfl⟩ := Qgd w3; obtain ⟨j5, rfl⟩ := Qgd w5; obtain ⟨j7, rfl⟩ := Qgd w7
    refine ⟨(⟨i0, j1, i2, j3, ch, j5, i6, j7, ts, ds⟩, c12, c13), rfl, ⟨⟨w4, w8, w9, fun x hx => ?_, fun x hx => ?_⟩, g8, g9⟩, fun hw => ?_⟩
    · obtain ⟨_, q, _⟩ := u8 x hx; exact q
    · obtain ⟨_, q, _⟩ := u9 x hx; exact q
    · have b8 : Try.prog.bytesOf 84 = 40 := by kernel_rfl
      have b9 : Try.prog.bytesOf 86 = 16 := by kernel_rfl
      rw [hdat] at hw; simp only [DataW.weights, Try.underlying30] at hw; rw [b8] at z8; rw [b9] at z9
      constructor
      · show ts.length * 40 <= reachBytes
        rcases z8 with rfl | ⟨s, hs⟩
        · exact Nat.zero_le _
        · have := hw _ (DataW.weights_mem_each (j := 8) (by kernel_rfl) rfl _ hs); have h2 : ts.length * 40 <= (ts.length + s) * 40 := Nat.mul_le_mul_right _ (Nat.le_add_right _ _); omega
      · show ds.length * 16 <= reachBytes
        rcases z9 with rfl | ⟨s, hs⟩
        · exact Nat.zero_le _
        · have := hw _ (DataW.weights_mem_each (j := 9) (by kernel_rfl) rfl _ hs); have h2 : ds.length * 16 <= (ds.length + s) * 16 := Nat.mul_le_mul_right _ (Nat.le_add_right _ _); omega
def Rec.small (r : Rec) : Prop := r.ts.length * 40 <= reachBytes /\ r.ds.length * 16 <= reachBytes
theorem Qkw {v : Value} {d : DataW H} {p : List MemPlace} {r : Reach} {b0 : Nat} (hv : Value.okWide Try.prog W r b0 22 v) (h : DataW.Trod enc Try.prog W 0 (fun _ => true) true 22 v d p) (hs : ∀ n ∈ d.weights Try.prog 22, n <= reachBytes) :
    ∃ ms : List (Rec × Value × Value), Qil W v ms /\ ms.length <= maxLen /\ (∀ a len cap, v = .slice a len cap -> len <= cap) /\ ∀ m ∈ ms, m.1.small := by
  obtain ⟨a, len, cap, rfl, _, hc, _⟩ := Qmp hv h; obtain ⟨fuel, hf⟩ := h; have hf2 : DataW.trod enc Try.prog W 0 (fun _ => true) true fuel 22 [.slice a len cap] = some (d, p) := hf; obtain ⟨ms, h1, h2, h3, _⟩ := Qew (sz := 14) rcF rcZ (fun m dd => (m.1.fits /\ Qhd W m.1 m.2.1 m.2.2) /\ ((∀ n ∈ dd.weights Try.prog 30, n <= reachBytes) -> m.1.ts.length * 40 <= reachBytes /\ m.1.ds.length * 16 <= reachBytes)) elem_recW Try.underlying22 (by kernel_rfl) (fun _ => rfl) (by decide) hf2
  refine ⟨ms, ⟨h1, fun m hm => ?_⟩, h2, fun a' l' c' e => ?_, fun m hm => ?_⟩
  · obtain ⟨dd, q, _⟩ := h3 m hm; exact q.1
  · injection e with e1 e2 e3; omega
  · obtain ⟨dd, q, hw⟩ := h3 m hm; exact q.2 (fun n hn => hs n (hw n hn))
end
end
theorem own15_any (r : Rec) (va vb : Value) (w : World) (hin : Qhd w r va vb) (hs : r.small) :
    Calls Try.prog 27 #[.agg (rcA r va vb)] w fun e w' => ∃ ua ub, e = .returned (.agg (rcA r ua ub)) /\ Qdh w.heap.size w' r ua ub /\ Below w.heap.size w w' := by
  have hsT : r.ts.length * 40 <= 140737488355328 := Nat.le_trans hs.1 (by unfold reachBytes; omega); have hsD : r.ds.length * 16 <= 140737488355328 := Nat.le_trans hs.2 (by unfold reachBytes; omega); obtain ⟨n1, n2, n3⟩ := Qsn w (rcA r va vb) #[.int .i64 0, .int .u64 0, .int .i64 0, .int .u64 0, .int .i64 0, .int .i64 0, .int .i64 0, .string ⟨#[]⟩, .string ⟨#[]⟩, .int .u64 0, .int .i64 0, .int .u64 0, .slice none 0 0, .slice none 0 0] 30 30; have hin0 := hin.below n3
  have hsl : (∃ a1 c1, va = .slice a1 r.ts.length c1) /\ ∃ a2 c2, vb = .slice a2 r.ds.length c2 := by
    obtain ⟨⟨a1, c1, e1, _⟩, ⟨a2, c2, e2, _⟩⟩ := hin; exact ⟨⟨a1, c1, e1⟩, a2, c2, e2⟩
  obtain ⟨⟨a1, c1, rfl⟩, a2, c2, rfl⟩ := hsl; obtain ⟨y, hy⟩ : ∃ y, y = ((w.alloc (.cells (rcA r (.slice a1 r.ts.length c1) (.slice a2 r.ds.length c2)) 30)).alloc (.cells #[.int .i64 0, .int .u64 0, .int .i64 0, .int .u64 0, .int .i64 0, .int .i64 0, .int .i64 0, .string ⟨#[]⟩, .string ⟨#[]⟩, .int .u64 0, .int .i64 0, .int .u64 0, .slice none 0 0, .slice none 0 0] 30)) := ⟨_, rfl⟩; rw [<- hy] at n1 n2 n3 hin0; obtain ⟨b1, hb1⟩ : ∃ b1, b1 = w.heap.size := ⟨_, rfl⟩; obtain ⟨b2, hb2⟩ : ∃ b2, b2 = w.heap.size + 1 := ⟨_, rfl⟩; rw [<- hb1] at n1; rw [<- hb2] at n2; have hne : b1 ≠ b2 := by omega
  have H0 : Hid (Qb y b1 30 (rcA r (.slice a1 r.ts.length c1) (.slice a2 r.ds.length c2)) /\ Qb y b2 30 Qaa /\ Below w.heap.size w y /\ b1 ≠ b2 /\ w.heap.size <= b1) := ⟨n1, n2, n3, hne, by omega⟩; have HIN := Qd hin; have HT := Qd (clone15T hin0.1 hsT); have HB := Qd (And.intro hb1 hb2); have HSD := Qd hsD; have HY := Qd hy; clear hs hsT hsD n1 n2 n3 hin0 hin hne hb1 hb2 hy; obtain ⟨lt, hlt⟩ : ∃ k, k = r.ts.length := ⟨_, rfl⟩; obtain ⟨ld, hld⟩ : ∃ k, k = r.ds.length := ⟨_, rfl⟩; rw [<- hlt] at H0 HIN HT HY |-; rw [<- hld] at H0 HIN HY HSD |-; have HLL := Qd (And.intro hlt hld); clear hlt hld; go_enter Try.func27, Try.ntmps27; go_wp2_with (with_reducible refine Qia 4 rfl ?_); rw [<- HY.out, <- HB.out.2, <- HB.out.1]; have k12 := H0.out.1.cell 12 (.slice a1 lt c1) rfl; refine Qj ?_; go_wp2_with fail; refine HT.out.mono ?_; rintro e w1 ⟨v1, rfl, ho1, hb1⟩; have H1 : Hid (Qb w1 b1 30 (rcA r (.slice a1 lt c1) (.slice a2 ld c2)) /\ Qb w1 b2 30 Qaa /\ Below w.heap.size w w1 /\ b1 ≠ b2 /\ w.heap.size <= b1 /\ w1.ownsRow w.heap.size 84 5 v1 lt (Qzw r.ts)) := ⟨H0.out.1.later hb1, H0.out.2.1.later hb1, H0.out.2.2.1.trans (hb1.mono H0.out.2.2.1.size), H0.out.2.2.2.1, H0.out.2.2.2.2, own_low ho1 H0.out.2.2.1.size⟩; obtain ⟨u1, n1, rfl, -⟩ := Qkn ho1; clear ho1 hb1 H0 HT k12; have d12 := H1.out.1.cell 12 (.slice a1 lt c1) rfl; have f12 := H1.out.1.free 12; go_wp2_with (with_reducible refine Qia 8 rfl ?_); obtain ⟨x1, hx1⟩ : ∃ x, x = w1.setCell ⟨b1, 12, none⟩ (.slice u1 lt n1) := ⟨_, rfl⟩
  have H2 : Hid (Qb x1 b1 30 (rcA r (.slice u1 lt n1) (.slice a2 ld c2)) /\ Qb x1 b2 30 Qaa /\ Below w.heap.size w x1 /\ b1 ≠ b2 /\ w.heap.size <= b1 /\ x1.ownsRow w.heap.size 84 5 (.slice u1 lt n1) lt (Qzw r.ts)) := by
    rw [hx1]; refine ⟨H1.out.1.set 12 _, H1.out.2.1.other _ _ (fun e => H1.out.2.2.2.1 e.symm), H1.out.2.2.1.setCell H1.out.2.2.2.2.1 _, H1.out.2.2.2.1, H1.out.2.2.2.2.1, Qeh H1.out.2.2.2.2.2 (fun k cs hk => hk.other _ _ (fun e => ?_))⟩; have e' : k = b1 := e; rw [e'] at hk; exact absurd (Qma hk H1.out.1) (by decide)
  rw [<- hx1]; clear hx1 H1 d12 f12
  have HDD : Hid (Calls Try.prog 40 #[.slice a2 ld c2] x1 fun e w' => ∃ v', e = .returned v' /\ w'.ownsRow x1.heap.size 86 2 v' ld (flatD r.ds) /\ Below x1.heap.size x1 w') := by
    have h1 := clone15D (HIN.out.below H2.out.2.2.1).2 (by rw [<- HLL.out.2]; exact HSD.out); rw [<- HLL.out.2] at h1; exact h1
  have k13 := H2.out.1.cell 13 (.slice a2 ld c2) rfl; refine Qj ?_; go_wp2_with fail; refine HDD.out.mono ?_; rintro e w2 ⟨v2, rfl, ho2, hb2⟩; have H3 : Hid (Qb w2 b1 30 (rcA r (.slice u1 lt n1) (.slice a2 ld c2)) /\ Qb w2 b2 30 Qaa /\ Below w.heap.size w w2 /\ b1 ≠ b2 /\ w.heap.size <= b1 /\ w2.ownsRow w.heap.size 84 5 (.slice u1 lt n1) lt (Qzw r.ts) /\ w2.ownsRow w.heap.size 86 2 v2 ld (flatD r.ds) /\ w.heap.size <= b2) := ⟨H2.out.1.later hb2, H2.out.2.1.later hb2, H2.out.2.2.1.trans (hb2.mono H2.out.2.2.1.size), H2.out.2.2.2.1, H2.out.2.2.2.2.1, Qhh H2.out.2.2.2.2.2 hb2, own_low ho2 H2.out.2.2.1.size, by have := HB.out.2; omega⟩; obtain ⟨u2, n2, rfl, -⟩ := Qkn ho2; clear ho2 hb2 H2 HDD k13; have d13 := H3.out.1.cell 13 (.slice a2 ld c2) rfl; have f13 := H3.out.1.free 13; go_wp2_with (with_reducible refine Qia 11 rfl ?_); obtain ⟨x2, hx2⟩ : ∃ x, x = w2.setCell ⟨b1, 13, none⟩ (.slice u2 ld n2) := ⟨_, rfl⟩
  have H4 : Hid (Qb x2 b1 30 (rcA r (.slice u1 lt n1) (.slice u2 ld n2)) /\ Qb x2 b2 30 Qaa /\ Below w.heap.size w x2 /\ w.heap.size <= b2 /\ Qdh w.heap.size x2 r (.slice u1 lt n1) (.slice u2 ld n2)) := by
    rw [hx2]
    have keep : ∀ {e : TypeId} (hne : e ≠ 30) (k : Nat) (cs : Array Value), Qb w2 k e cs -> Qb (w2.setCell ⟨b1, 13, none⟩ (.slice u2 ld n2)) k e cs := fun hne k cs hk => hk.other _ _ (fun e => by
      have e' : k = b1 := e; rw [e'] at hk
      exact absurd (Qma hk H3.out.1) hne)
    refine ⟨H3.out.1.set 13 _, H3.out.2.1.other _ _ (fun e => H3.out.2.2.2.1 e.symm), H3.out.2.2.1.setCell H3.out.2.2.2.2.1 _, H3.out.2.2.2.2.2.2.2, ?_, ?_⟩
    · rw [<- HLL.out.1]; exact Qeh H3.out.2.2.2.2.2.1 (keep (by decide))
    · rw [<- HLL.out.2]; exact Qeh H3.out.2.2.2.2.2.2.1 (keep (by decide))
  rw [<- hx2]; clear hx2 H3 d13 f13; refine Qj ?_; go_wp2_with (first | (refine Qe rfl 30 (.tmp 1) rfl b1 rfl (rcA r (.slice u1 lt n1) (.slice u2 ld n2)) H4.out.1 _ Try.underlying30 rfl Qv ?_) | (refine Qc rfl 30 (.tmp 2) (.tmp 11) rfl b2 Qaa (rcA r (.slice u1 lt n1) (.slice u2 ld n2)) rfl rfl H4.out.2.1 Qv rfl (by simp [rcA, Value.oneCell']) ?_; intro w3 hr3 hk3 hrow3; refine Qha ?_)); have hbl := hk3 _ _ H4.out.2.2.1 H4.out.2.2.2.1
  have hgot : Qdh w.heap.size w3 r (.slice u1 lt n1) (.slice u2 ld n2) :=
    ⟨Qeh H4.out.2.2.2.2.1 (fun k cs hk => hrow3 k _ cs (fun e => by rw [e] at hk; exact absurd (Qma hk H4.out.2.1) (by decide)) hk),
      Qeh H4.out.2.2.2.2.2 (fun k cs hk => hrow3 k _ cs (fun e => by rw [e] at hk; exact absurd (Qma hk H4.out.2.1) (by decide)) hk)⟩
  have H5 := Qd (And.intro hr3 (And.intro hbl hgot)); clear hr3 hk3 hrow3 hbl hgot H4; refine Qj ?_; go_wp2; exact bodyPost_ret (Qxd rfl _ _ b2 (rcA r (.slice u1 lt n1) (.slice u2 ld n2)) _ rfl H5.out.1 Try.underlying30 rfl Qv) rfl ⟨_, _, rfl, H5.out.2.2, H5.out.2.1⟩
theorem get15_any (v : Value) (ms : List (Rec × Value × Value)) (n : Nat) (w : World) (h : LogIn w v ms) (hs : ∀ m ∈ ms, m.1.small) :
    Calls Try.prog 10 #[v, .int .u64 (n : Int)] w (Qtw (msR ms) n w) := by
  have hb0 : Below w.heap.size w (w.alloc (.cells Qaa 30)) := (Below.refl _ _).alloc (Nat.le_refl _) _; obtain ⟨gR, hgR⟩ : ∃ g, g = w.heap.size := ⟨_, rfl⟩
  have H0 : Hid (Qb (w.alloc (.cells Qaa 30)) gR 30 Qaa /\ Below w.heap.size w (w.alloc (.cells Qaa 30))) := by
    rw [hgR]; exact ⟨Qb.new w _ _, hb0⟩
  clear hb0; have HA := Qd h; have HS := Qd hs; obtain ⟨aa, ca, rfl, hlc⟩ := h.slice; have hl := h.few; clear h hs; obtain ⟨ln, hln⟩ : ∃ ln, ln = ms.length := ⟨_, rfl⟩; rw [<- hln] at HA hl hlc |-; have HN := Qd hln; clear hln; have HGR := Qd hgR; go_enter Try.func10, Try.ntmps10; go_wp2; refine Qtc (fun x => Qb x gR 30 Qaa /\ Below w.heap.size w x) H0.out ?_; intro y HY; have HYY := Qd HY; clear HY H0; rw [<- hgR]; clear hgR; go_loopw [10] (fun i wr => ∃ (j : Nat), j <= ln /\ i = .int .i64 (j : Int) /\ Hid (∀ k, k < j -> ((msR ms).getD k Rec.zero).l ≠ n) /\ Hid (Qb wr gR 30 Qaa /\ Below w.heap.size w wr)) (fun i _ => ln - (intOf i).toNat)
  case atStart => exact ⟨0, Nat.zero_le _, rfl, fun k hk => absurd hk (by omega), HYY.out⟩
  case round =>
    obtain ⟨j, hj, rfl, HNO, HBR⟩ := hrel
    by_cases hlt : j < ln
    · have hjm : j < ms.length := by rw [<- HN.out]; exact hlt
      obtain ⟨b, off, rfl, hf, he, hx⟩ := HA.out.mid hjm
      have hmem : ms.getD j rcZ ∈ ms := by
        rw [List.getD_eq_getElem?_getD, List.getElem?_eq_getElem hjm]; exact List.getElem_mem hjm
      have hsm := HS.out _ hmem; obtain ⟨m, hm⟩ : ∃ m, m = ms.getD j rcZ := ⟨_, rfl⟩; rw [<- hm] at hf hx he hsm; clear hm hmem; have ij : (j : Int) < (ln : Int) := by omega
      obtain ⟨hr0, hin⟩ := hx wr HBR.out.2; have HLD := Qd (Qmj wr b (off + j * 14) m hr0); have hall := Qjw hin; have HALL := Qd hall; have HE := Qd he; have HF := Qd (And.intro hf hx); have HSM := Qd hsm; clear hr0 hx hf he hin hall hsm; go_wp2_with (first | (refine Qr rfl 30 (.tmp 12) rfl _ _ rfl HLD.out ?_) | (refine Qc rfl 30 (.tmp 7) (.tmp 13) rfl wr.heap.size Qaa (rcF m) rfl rfl (Qb.new wr 30 Qaa) Qv rfl HALL.out ?_; intro w5 hr5 hk5 hrow5; refine Qha ?_)); have hb5 := hk5 w.heap.size w (HBR.out.2.alloc HBR.out.2.size _) HBR.out.2.size; have hR5 := hrow5 gR _ _ (Nat.ne_of_lt HBR.out.1.lt) (HBR.out.1.later ((Below.refl _ _).alloc (Nat.le_refl _) _)); obtain ⟨gm, hgm⟩ : ∃ q, q = wr.heap.size := ⟨_, rfl⟩; rw [<- hgm] at hr5 |-; have H5 : Hid (Qb w5 gR 30 Qaa /\ Below w.heap.size w w5 /\ Qb w5 gm 30 (rcF m)) := ⟨hR5, hb5, hr5⟩; have c1 := hr5.cell 1 (.int .u64 (m.1.l : Int)) rfl; clear hb5 hR5 hr5 hk5 hrow5 hgm HLD; refine Qj ?_
      by_cases hn : m.1.l = n
      · have ibe : ((m.1.l : Int) == (n : Int)) = true := by rw [hn]; simp
        have HOW := Qd (own15_any m.1 m.2.1 m.2.2 w5 (HF.out.2 w5 H5.out.2.1).2 HSM.out); go_wp2_with (refine Qe rfl 30 (.tmp 7) rfl gm rfl (rcF m) H5.out.2.2 _ Try.underlying30 rfl Qv ?_); refine HOW.out.mono ?_; rintro e w6 ⟨ua, ub, rfl, hgot, hb6⟩; have H6 : Hid (Qb w6 gR 30 Qaa /\ Below w.heap.size w w6 /\ Qdh w5.heap.size w6 m.1 ua ub) := ⟨H5.out.1.later hb6, H5.out.2.1.trans (hb6.mono H5.out.2.1.size), hgot⟩; obtain ⟨⟨a8, c8, rfl⟩, a9, c9, rfl⟩ := Qww (r := m.1) (hgot.rc); clear hgot hb6 H5 HOW; go_wp2_with (refine Qc rfl 30 (.tmp 4) (.tmp 19) rfl gR Qaa (rcA m.1 (.slice a8 m.1.ts.length c8) (.slice a9 m.1.ds.length c9)) rfl rfl H6.out.1 Qv rfl (by simp [rcA, Value.oneCell']) ?_; intro w7 hr7 hk7 hrow7; refine Qha ?_); have hb7 := hk7 _ _ H6.out.2.1 (by rw [HGR.out]; exact Nat.le_refl _)
        have hg7 : Qdh w5.heap.size w7 m.1 (.slice a8 m.1.ts.length c8) (.slice a9 m.1.ds.length c9) :=
          ⟨Qeh H6.out.2.2.1 (fun k cs hk => hrow7 k _ cs (fun e => by rw [e] at hk; exact absurd (Qma hk H6.out.1) (by decide)) hk),
            Qeh H6.out.2.2.2 (fun k cs hk => hrow7 k _ cs (fun e => by rw [e] at hk; exact absurd (Qma hk H6.out.1) (by decide)) hk)⟩
        have H7 := Qd (And.intro hr7 (And.intro hb7 hg7.rc)); clear hr7 hk7 hrow7 hb7 hg7 H6; refine Qj ?_; go_wp2; refine bodyPost_ret (Qfc rfl _ _ gR (rcA m.1 (.slice a8 m.1.ts.length c8) (.slice a9 m.1.ds.length c9)) _ rfl H7.out.1 Try.underlying30 rfl Qv) rfl ⟨(m.1, .slice a8 m.1.ts.length c8, .slice a9 m.1.ds.length c9), true, rfl, .inl ⟨rfl, ?_⟩, HF.out.1, H7.out.2.2, H7.out.2.1⟩; rw [find_lt (j := j) HNO.out (by rw [Qhe]; exact hjm) (by rw [<- HE.out]; exact hn), <- HE.out]
      · have ibe : ((m.1.l : Int) == (n : Int)) = false := by simp; omega
        go_wp2; go_roundw
        case rel =>
          refine ⟨j + 1, by omega, by go_num, fun k hk => ?_, H5.out.1, H5.out.2.1⟩
          by_cases hkj : k < j
          · exact HNO.out k hkj
          · obtain rfl : k = j := by omega
            rw [<- HE.out]; exact hn
        case measure => simp [intOf]; omega
    · obtain rfl : j = ln := by omega
      go_wp2_with (refine Qc rfl 30 (.tmp 4) (.tmp 21) rfl gR Qaa Qaa rfl rfl HBR.out.1 Qv rfl (by simp [Qaa, Value.oneCell']) ?_; intro w2 hr2 hk2 hrow2; refine Qha ?_); have hb2 := hk2 _ _ HBR.out.2 (by rw [HGR.out]; exact Nat.le_refl _); have H2 := Qd (And.intro hr2 hb2); clear hr2 hk2 hrow2 hb2; refine Qj ?_; go_wp2; refine bodyPost_ret (Qfc rfl _ _ gR Qaa _ rfl H2.out.1 Try.underlying30 rfl Qv) rfl ⟨rcZ, false, rfl, .inr ⟨rfl, ?_, rfl⟩, Quk, Qhw _, H2.out.2⟩; refine Qxw fun i hi => HNO.out i ?_
      rw [Qhe] at hi; rw [HN.out]; exact hi
end Go.Proofs.Ytohdmmfmjadipaa
