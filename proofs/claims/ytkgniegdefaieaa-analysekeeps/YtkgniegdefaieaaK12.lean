/-
  Texts that lean on one another, one behind the other: each opens with its own remark.
-/
import Derived.Test.YtkgniegdefaieaaRows
import Derived.Test.YtkgniegdefaieaaK00
import Derived.Test.YtkgniegdefaieaaK11
import Derived.Test.YtkgniegdefaieaaK09
import Derived.Test.YtkgniegdefaieaaK10
import Derived.Test.YtkgniegdefaieaaK06
import Derived.Test.YtkgniegdefaieaaK08
import Derived.Test.YtkgniegdefaieaaK05
import Derived.Test.YtkgniegdefaieaaK07

namespace Go.Proofs.Ytkgniegdefaieaa
open Go.RowKit
set_option linter.unusedVariables false
set_option maxRecDepth 8000
set_option maxHeartbeats 25600000
theorem rright6_7 (r : Rec) (va vb : Value) (w : World) (q : Bool) (Hq : Hid (q = true ↔ r.right)) (hk : r.k = 7) (hf : r.c.fits) (hin : Qwb w r va vb) :
    Calls Try.prog 37 #[.agg (rcA r va vb)] w fun e w' => e = .returned (.bool q) /\ Below w.heap.size w w' := by
  have HIN := Qb hin; obtain ⟨⟨e1, cap1, rfl, -⟩, ⟨e2, cap2, rfl, -⟩⟩ := hin; have HFI := Qb hf; clear hf; have HK0 := Qb (Qj.one w 46 (rcA r (.slice e1 r.ts.length cap1) (.slice e2 r.ds.length cap2)))
  have HF : Hid (¬ r.right -> q = false) := fun h => by
    cases q
    · rfl
    · exact absurd (Hq.out.1 rfl) h
  have HT : Hid (r.right -> q = true) := fun h => Hq.out.2 h
  have HOW := Qb (fun w => Qik r.k w false (Qb (decide_eq_false (by omega)))); rw [hk] at HOW; by_cases l1 : (r.l : Int) < 1
  case pos =>
    obtain rfl := HF.out (fun h => by have := h.l1; omega); clear HF HT Hq HFI HIN; obtain ⟨c0, c1, -⟩ := Qo HK0.out.1.1; rw [hk] at c0; have hb0 := HK0.out.2; clear HK0 HOW; go_enter Try.func37, Try.ntmps37; go_wp2; go_ret; exact ⟨rfl, hb0⟩
  by_cases l2 : (4611686018427387904 : Int) < (r.l : Int)
  case pos =>
    obtain rfl := HF.out (fun h => by have := h.lm; unfold Qtd at this; omega); clear HF HT Hq HFI HIN; obtain ⟨c0, c1, -⟩ := Qo HK0.out.1.1; rw [hk] at c0; have hb0 := HK0.out.2; clear HK0 HOW; go_enter Try.func37, Try.ntmps37; go_wp2; go_ret; exact ⟨rfl, hb0⟩
  obtain ⟨c0, c1, -⟩ := Qo HK0.out.1.1; rw [hk] at c0; go_enter Try.func37, Try.ntmps37; go_wp2_with fail; refine Qwc (fun x => Hid (Qj w x [(w.heap.size, 46, rcA r (.slice e1 r.ts.length cap1) (.slice e2 r.ds.length cap2))])) HK0 ?_; clear HK0 c0 c1; intro w0 HK0; obtain ⟨c0, c1, c2, c3, c9, c10, c11, c12, c13⟩ := Qo HK0.out.1.1; rw [hk] at c0; have hb0 := HK0.out.2; refine (HOW.out _).mono ?_; rintro e w1 ⟨rfl, rfl⟩; go_wp2_with fail; refine (HOW.out _).mono ?_; rintro e w1 ⟨rfl, rfl⟩; clear HOW; by_cases t1 : ¬ r.t = 0
  case pos =>
    obtain rfl := HF.out (fun h => t1 (h.none (by omega)).1); have t1e : (r.t == 0) = false := by rw [beq_eq_false_iff_ne]; exact t1
    have t1f : (r.t != 0) = true := by rw [bne, t1e]; rfl
    clear HF HT Hq HFI HIN; clear HK0 c9 c10 c11 c12 c13; go_wp2; go_ret; exact ⟨rfl, hb0⟩
  have t1e : r.t = 0 := Decidable.of_not_not t1; by_cases p1 : ¬ (r.p : Int) = 0
  case pos =>
    obtain rfl := HF.out (fun h => by have := h.none (by omega); omega); have p1e : ((r.p : Int) == 0) = false := by rw [beq_eq_false_iff_ne]; exact p1
    have p1f : ((r.p : Int) != 0) = true := by rw [bne, p1e]; rfl
    clear HF HT Hq HFI HIN; clear HK0 c9 c10 c11 c12 c13; go_wp2; go_ret; exact ⟨rfl, hb0⟩
  have p1e : (r.p : Int) = 0 := Decidable.of_not_not p1; obtain ⟨d4, d5, d6, d7, d8⟩ := Qwd HK0.out.1.1; by_cases f1 : r.c.k = 0
  case neg =>
    obtain rfl := HF.out (fun h => f1 (by rw [h.noch (by omega)]; rfl)); clear HF HT Hq HFI HIN HK0; go_wp2; go_ret; exact ⟨rfl, hb0⟩
  by_cases f2 : r.c.pg = 0
  case neg =>
    obtain rfl := HF.out (fun h => f2 (by rw [h.noch (by omega)]; rfl)); clear HF HT Hq HFI HIN HK0; go_wp2; go_ret; exact ⟨rfl, hb0⟩
  by_cases f3 : r.c.sl = 0
  case neg =>
    obtain rfl := HF.out (fun h => f3 (by rw [h.noch (by omega)]; rfl)); clear HF HT Hq HFI HIN HK0; go_wp2; go_ret; exact ⟨rfl, hb0⟩
  by_cases f4 : r.c.o.toList = []
  case neg =>
    obtain rfl := HF.out (fun h => f4 (by rw [h.noch (by omega)]; exact Qsc)); clear HF HT Hq HFI HIN HK0; go_wp2; go_ret; exact ⟨rfl, hb0⟩
  by_cases f5 : r.c.n.toList = []
  case neg =>
    obtain rfl := HF.out (fun h => f5 (by rw [h.noch (by omega)]; exact Qsc)); clear HF HT Hq HFI HIN HK0; go_wp2; go_ret; exact ⟨rfl, hb0⟩
  have HCC := Qb (Qim r.c f1 f2 f3 f4 f5); by_cases n1 : ¬ (r.n : Int) = 0
  case pos =>
    obtain rfl := HF.out (fun h => by have := h.nonext (by omega); omega); have n1e : ((r.n : Int) == 0) = false := by rw [beq_eq_false_iff_ne]; exact n1
    have n1f : ((r.n : Int) != 0) = true := by rw [bne, n1e]; rfl
    clear HF HT Hq HFI HIN; go_wp2; go_ret; exact ⟨rfl, hb0⟩
  have n1e : (r.n : Int) = 0 := Decidable.of_not_not n1; by_cases s1 : ¬ r.s = 0
  case pos =>
    obtain rfl := HF.out (fun h => s1 (h.nosave (by omega))); have s1e : (r.s == 0) = false := by rw [beq_eq_false_iff_ne]; exact s1
    have s1f : (r.s != 0) = true := by rw [bne, s1e]; rfl
    clear HF HT Hq HFI HIN; go_wp2; go_ret; exact ⟨rfl, hb0⟩
  have s1e : r.s = 0 := Decidable.of_not_not s1; by_cases b1 : ¬ (r.b : Int) = 0
  case pos =>
    obtain rfl := HF.out (fun h => by have := h.nocheck (by omega); omega); have b1e : ((r.b : Int) == 0) = false := by rw [beq_eq_false_iff_ne]; exact b1
    have b1f : ((r.b : Int) != 0) = true := by rw [bne, b1e]; rfl
    clear HF HT Hq HFI HIN; go_wp2; go_ret; exact ⟨rfl, hb0⟩
  have b1e : (r.b : Int) = 0 := Decidable.of_not_not b1; by_cases z1 : ¬ (r.ts.length : Int) = 0
  case pos =>
    obtain rfl := HF.out (fun h => by have := (h.nocheck (by omega)).2.1; rw [this] at z1; exact z1 rfl); have z1e : ((r.ts.length : Int) == 0) = false := by rw [beq_eq_false_iff_ne]; exact z1
    have z1f : ((r.ts.length : Int) != 0) = true := by rw [bne, z1e]; rfl
    clear HF HT Hq HFI HIN; go_wp2; go_ret; exact ⟨rfl, hb0⟩
  have z1e : (r.ts.length : Int) = 0 := Decidable.of_not_not z1; by_cases z2 : ¬ (r.ds.length : Int) = 0
  case pos =>
    obtain rfl := HF.out (fun h => by have := (h.nocheck (by omega)).2.2; rw [this] at z2; exact z2 rfl); have z2e : ((r.ds.length : Int) == 0) = false := by rw [beq_eq_false_iff_ne]; exact z2
    have z2f : ((r.ds.length : Int) != 0) = true := by rw [bne, z2e]; rfl
    clear HF HT Hq HFI HIN; go_wp2; go_ret; exact ⟨rfl, hb0⟩
  have z2e : (r.ds.length : Int) = 0 := Decidable.of_not_not z2; obtain rfl := HT.out ⟨by omega, by omega, by omega, by unfold Qtd; omega, fun h => absurd h (by omega), fun _ => ⟨by omega, by omega⟩, fun h => absurd h (by omega), fun _ => HCC.out, fun h => absurd h (by omega), fun _ => by omega, fun h => absurd h (by omega), fun _ => by omega, fun h => absurd h (by omega), fun _ => ⟨by omega, List.eq_nil_of_length_eq_zero (by omega), List.eq_nil_of_length_eq_zero (by omega)⟩⟩; clear HF HT Hq HFI HIN HCC; go_wp2; go_ret; exact ⟨rfl, hb0⟩
theorem rright6_8 (r : Rec) (va vb : Value) (w : World) (q : Bool) (Hq : Hid (q = true ↔ r.right)) (hk : r.k = 8) (hf : r.c.fits) (hin : Qwb w r va vb) :
    Calls Try.prog 37 #[.agg (rcA r va vb)] w fun e w' => e = .returned (.bool q) /\ Below w.heap.size w w' := by
  have HIN := Qb hin; obtain ⟨⟨e1, cap1, rfl, -⟩, ⟨e2, cap2, rfl, -⟩⟩ := hin; have HFI := Qb hf; clear hf; have HK0 := Qb (Qj.one w 46 (rcA r (.slice e1 r.ts.length cap1) (.slice e2 r.ds.length cap2)))
  have HF : Hid (¬ r.right -> q = false) := fun h => by
    cases q
    · rfl
    · exact absurd (Hq.out.1 rfl) h
  have HT : Hid (r.right -> q = true) := fun h => Hq.out.2 h
  have HOW := Qb (fun w => Qik r.k w false (Qb (decide_eq_false (by omega)))); rw [hk] at HOW; by_cases l1 : (r.l : Int) < 1
  case pos =>
    obtain rfl := HF.out (fun h => by have := h.l1; omega); clear HF HT Hq HFI HIN; obtain ⟨c0, c1, -⟩ := Qo HK0.out.1.1; rw [hk] at c0; have hb0 := HK0.out.2; clear HK0 HOW; go_enter Try.func37, Try.ntmps37; go_wp2; go_ret; exact ⟨rfl, hb0⟩
  by_cases l2 : (4611686018427387904 : Int) < (r.l : Int)
  case pos =>
    obtain rfl := HF.out (fun h => by have := h.lm; unfold Qtd at this; omega); clear HF HT Hq HFI HIN; obtain ⟨c0, c1, -⟩ := Qo HK0.out.1.1; rw [hk] at c0; have hb0 := HK0.out.2; clear HK0 HOW; go_enter Try.func37, Try.ntmps37; go_wp2; go_ret; exact ⟨rfl, hb0⟩
  obtain ⟨c0, c1, -⟩ := Qo HK0.out.1.1; rw [hk] at c0; go_enter Try.func37, Try.ntmps37; go_wp2_with fail; refine Qwc (fun x => Hid (Qj w x [(w.heap.size, 46, rcA r (.slice e1 r.ts.length cap1) (.slice e2 r.ds.length cap2))])) HK0 ?_; clear HK0 c0 c1; intro w0 HK0; obtain ⟨c0, c1, c2, c3, c9, c10, c11, c12, c13⟩ := Qo HK0.out.1.1; rw [hk] at c0; have hb0 := HK0.out.2; refine (HOW.out _).mono ?_; rintro e w1 ⟨rfl, rfl⟩; go_wp2_with fail; refine (HOW.out _).mono ?_; rintro e w1 ⟨rfl, rfl⟩; clear HOW; by_cases t1 : ¬ r.t = 0
  case pos =>
    obtain rfl := HF.out (fun h => t1 (h.none (by omega)).1); have t1e : (r.t == 0) = false := by rw [beq_eq_false_iff_ne]; exact t1
    have t1f : (r.t != 0) = true := by rw [bne, t1e]; rfl
    clear HF HT Hq HFI HIN; clear HK0 c9 c10 c11 c12 c13; go_wp2; go_ret; exact ⟨rfl, hb0⟩
  have t1e : r.t = 0 := Decidable.of_not_not t1; by_cases p1 : ¬ (r.p : Int) = 0
  case pos =>
    obtain rfl := HF.out (fun h => by have := h.none (by omega); omega); have p1e : ((r.p : Int) == 0) = false := by rw [beq_eq_false_iff_ne]; exact p1
    have p1f : ((r.p : Int) != 0) = true := by rw [bne, p1e]; rfl
    clear HF HT Hq HFI HIN; clear HK0 c9 c10 c11 c12 c13; go_wp2; go_ret; exact ⟨rfl, hb0⟩
  have p1e : (r.p : Int) = 0 := Decidable.of_not_not p1; obtain ⟨d4, d5, d6, d7, d8⟩ := Qwd HK0.out.1.1; by_cases f1 : r.c.k = 0
  case neg =>
    obtain rfl := HF.out (fun h => f1 (by rw [h.noch (by omega)]; rfl)); clear HF HT Hq HFI HIN HK0; go_wp2; go_ret; exact ⟨rfl, hb0⟩
  by_cases f2 : r.c.pg = 0
  case neg =>
    obtain rfl := HF.out (fun h => f2 (by rw [h.noch (by omega)]; rfl)); clear HF HT Hq HFI HIN HK0; go_wp2; go_ret; exact ⟨rfl, hb0⟩
  by_cases f3 : r.c.sl = 0
  case neg =>
    obtain rfl := HF.out (fun h => f3 (by rw [h.noch (by omega)]; rfl)); clear HF HT Hq HFI HIN HK0; go_wp2; go_ret; exact ⟨rfl, hb0⟩
  by_cases f4 : r.c.o.toList = []
  case neg =>
    obtain rfl := HF.out (fun h => f4 (by rw [h.noch (by omega)]; exact Qsc)); clear HF HT Hq HFI HIN HK0; go_wp2; go_ret; exact ⟨rfl, hb0⟩
  by_cases f5 : r.c.n.toList = []
  case neg =>
    obtain rfl := HF.out (fun h => f5 (by rw [h.noch (by omega)]; exact Qsc)); clear HF HT Hq HFI HIN HK0; go_wp2; go_ret; exact ⟨rfl, hb0⟩
  have HCC := Qb (Qim r.c f1 f2 f3 f4 f5); by_cases n1 : ¬ (r.n : Int) = 0
  case pos =>
    obtain rfl := HF.out (fun h => by have := h.nonext (by omega); omega); have n1e : ((r.n : Int) == 0) = false := by rw [beq_eq_false_iff_ne]; exact n1
    have n1f : ((r.n : Int) != 0) = true := by rw [bne, n1e]; rfl
    clear HF HT Hq HFI HIN; go_wp2; go_ret; exact ⟨rfl, hb0⟩
  have n1e : (r.n : Int) = 0 := Decidable.of_not_not n1; by_cases s1 : ¬ r.s = 0
  case pos =>
    obtain rfl := HF.out (fun h => s1 (h.nosave (by omega))); have s1e : (r.s == 0) = false := by rw [beq_eq_false_iff_ne]; exact s1
    have s1f : (r.s != 0) = true := by rw [bne, s1e]; rfl
    clear HF HT Hq HFI HIN; go_wp2; go_ret; exact ⟨rfl, hb0⟩
  have s1e : r.s = 0 := Decidable.of_not_not s1; have HRW := Qb (fun w hin => rows_at r (.slice e1 r.ts.length cap1) (.slice e2 r.ds.length cap2) w q (Qb ⟨fun h => (Hq.out.1 h).check hk, fun h => HT.out ⟨by omega, by omega, by omega, by unfold Qtd; omega, fun h => absurd h (by omega), fun _ => ⟨by omega, by omega⟩, fun h => absurd h (by omega), fun _ => HCC.out, fun h => absurd h (by omega), fun _ => by omega, fun h => absurd h (by omega), fun _ => by omega, fun _ => h, fun h2 => absurd hk h2⟩⟩) hin); clear HF HT Hq HFI HCC
  have hA : rcA r (.slice e1 r.ts.length cap1) (.slice e2 r.ds.length cap2) = #[.int .i64 8, .int .u64 (r.l : Int), .int .i64 0, .int .u64 0, .int .i64 0, .int .i64 0, .int .i64 0, .string r.c.o, .string r.c.n, .int .u64 0, .int .i64 0, .int .u64 (r.b : Int), .slice e1 r.ts.length cap1, .slice e2 r.ds.length cap2] := by
    unfold rcA; rw [hk, t1e, p1e, f1, f2, f3, n1e, s1e]
  rw [hA] at HRW; clear hA; go_wp2_with fail; refine (HRW.out _ (HIN.out.below HK0.out.2)).mono ?_; rintro e w2 ⟨rfl, hb2⟩; have d2 := hb0.trans (hb2.mono hb0.size); clear hb2 HK0 HIN c0 c1 c2 c3 c9 c10 c11 c12 c13; go_wp2; go_ret; exact ⟨rfl, d2⟩
theorem Qgu (r : Rec) (va vb : Value) (w : World) (hk : r.k < 1 ∨ 8 < r.k) :
    Calls Try.prog 37 #[.agg (rcA r va vb)] w fun e w' => e = .returned (.bool false) /\ Below w.heap.size w w' := by
  have HK0 := Qb (Qj.one w 46 (rcA r va vb)); obtain ⟨c0, -⟩ := Qo HK0.out.1.1; have hb0 := HK0.out.2; clear HK0; generalize r.k = k at *
  by_cases h1 : k < 1
  · clear hk; go_enter Try.func37, Try.ntmps37; go_wp2; go_ret; exact ⟨rfl, hb0⟩
  · have h8 : 8 < k := by omega
    clear hk; go_enter Try.func37, Try.ntmps37; go_wp2; go_ret; exact ⟨rfl, hb0⟩
theorem Qar (r : Rec) (va vb : Value) (w : World) (hf : r.c.fits) (hin : Qwb w r va vb) :
    Calls Try.prog 37 #[.agg (rcA r va vb)] w fun e w' => e = .returned (.bool r.rightB) /\ Below w.heap.size w w' := by
  by_cases hk : r.k < 1 ∨ 8 < r.k
  · rw [Qdh (fun h => by have := h.k1; have := h.k8; omega)]; exact Qgu r va vb w hk
  · have hq : Hid (r.rightB = true ↔ r.right) := Qqf
    by_cases h1 : r.k = 1
    · exact rright6_1 r va vb w _ hq h1 hf hin
    by_cases h2 : r.k = 2
    · exact rright6_2 r va vb w _ hq h2 hf hin
    by_cases h5 : r.k <= 5
    · exact Qoq r va vb w _ hq (by omega) h5 hf hin
    by_cases h6 : r.k = 6
    · exact rright6_6 r va vb w _ hq h6 hf hin
    by_cases h7 : r.k = 7
    · exact rright6_7 r va vb w _ hq h7 hf hin
    exact rright6_8 r va vb w _ hq (by omega) hf hin
theorem Qyw (v : Value) (ms : List (Rec × Value × Value)) (w : World) (h : LogIn w v ms) :
    Calls Try.prog 20 #[v] w fun e w' => e = .returned (.bool (Qgf 0 (msR ms))) /\ Below w.heap.size w w' := by
  obtain ⟨q, hq⟩ : ∃ q, q = Qgf 0 (msR ms) := ⟨_, rfl⟩; have HQ : Hid (q = true ↔ Qcb 0 (msR ms)) := by rw [hq]; exact Qea _ _
  rw [<- hq]; clear hq; have HA := Qb h; obtain ⟨aa, ca, rfl, hlc⟩ := h.slice; have hl := h.few; clear h; obtain ⟨ln, hln⟩ : ∃ ln, ln = ms.length := ⟨_, rfl⟩; rw [<- hln] at HA hl hlc |-; have HN := Qb hln; clear hln; go_enter Try.func20, Try.ntmps20; go_wp2; go_loopw [3, 7] (fun v i wr => ∃ (j ll : Nat), j <= ln /\ i = .int .i64 (j : Int) /\ v = .int .u64 (ll : Int) /\ ll < 18446744073709551616 /\ Hid (ll = Qya 0 ((msR ms).take j)) /\ Hid (Qcb 0 ((msR ms).take j)) /\ Hid (Below w.heap.size w wr)) (fun _ i _ => ln - (intOf i).toNat)
  case atStart => exact ⟨0, 0, Nat.zero_le _, rfl, rfl, by decide, by rw [List.take_zero]; rfl, by rw [List.take_zero]; trivial, Below.refl _ _⟩
  case round =>
    obtain ⟨j, ll, hj, rfl, rfl, hll, HLL, HRI, HBR⟩ := hrel
    by_cases hlt : j < ln
    · have hjm : j < ms.length := by rw [<- HN.out]; exact hlt
      have HS := Qb (Qfc hjm); obtain ⟨b, off, rfl, hf, _, hx⟩ := HA.out.mid hjm; obtain ⟨m, hm⟩ : ∃ m, m = ms.getD j rcZ := ⟨_, rfl⟩; rw [<- hm] at hf hx HS; clear hm; have ij : (j : Int) < (ln : Int) := by omega
      obtain ⟨hr0, hin⟩ := hx wr HBR.out; have HLD := Qb (Qmf wr b (off + j * 14) m hr0); have HR := Qb (Qar m.1 m.2.1 m.2.2 wr hf.c hin); have HFX := Qb hx; clear hr0 hf hx hin
      have ex : ∀ P : Prop, ¬ P -> (q = true -> P) -> q = false := fun P h1 h2 => by
        cases hq : q
        · rfl
        · exact absurd (h2 hq) h1
      by_cases hr : m.1.right
      · rw [Qof hr] at HR; have hrl : m.1.l < 18446744073709551616 := by have := hr.lm; unfold Qtd at this; omega
        have HRR := Qb hr; clear hr; go_wp2_with (refine Qt rfl 46 (.tmp 12) rfl _ _ rfl HLD.out ?_); refine HR.out.mono ?_; rintro e w1 ⟨rfl, hb1⟩; have HB1 := Qb (HBR.out.trans (hb1.mono HBR.out.size)); have k1 : w1.cell? ⟨b, off + j * 14 + 1, none⟩ = some (.int .u64 (m.1.l : Int)) := (HFX.out w1 HB1.out).1 1 _ rfl; clear hb1 HBR HR HLD
        by_cases hle : m.1.l <= ll
        · have ile : (m.1.l : Int) <= (ll : Int) := by omega
          go_wp2; go_ret; refine ⟨?_, HB1.out⟩
          rw [ex (Qcb 0 (msR ms)) (fun h1 => by
            have h1 := Qsg _ (j + 1) h1; rw [HS.out, Qcc, <- HLL.out] at h1
            omega) HQ.out.1]
          rfl
        · have ile : ¬ (m.1.l : Int) <= (ll : Int) := by omega
          go_wp2; go_roundw
          case rel =>
            refine ⟨j + 1, m.1.l, by omega, by go_num, rfl, hrl, ?_, ?_, HB1⟩
            · rw [HS.out, Qgh]; exact rfl
            · rw [HS.out, Qcc, <- HLL.out]; exact ⟨HRI.out, HRR.out, by omega⟩
          case measure => simp [intOf]; omega
      · rw [Qdh hr] at HR; have HRR := Qb hr; clear hr; go_wp2_with (refine Qt rfl 46 (.tmp 12) rfl _ _ rfl HLD.out ?_); refine HR.out.mono ?_; rintro e w1 ⟨rfl, hb1⟩; have HB1 := Qb (HBR.out.trans (hb1.mono HBR.out.size)); clear hb1 HBR HR HLD; go_wp2; go_ret; refine ⟨?_, HB1.out⟩
        rw [ex (Qcb 0 (msR ms)) (fun h1 => by
          have h1 := Qsg _ (j + 1) h1; rw [HS.out, Qcc] at h1
          exact HRR.out h1.2.1) HQ.out.1]
        rfl
    · obtain rfl : j = ln := by omega
      go_wp2; go_ret; refine ⟨?_, HBR.out⟩; have h1 := HRI.out; rw [HN.out, <- Qka, List.take_length] at h1; rw [HQ.out.2 h1]; rfl
def Quv (a : Option Addr) (c k : Nat) : Option Addr := if c = k then a else a.map (·.add (k * 14))
theorem LogIn.from16 {w : World} {a : Option Addr} {len c : Nat} {ms : List (Rec × Value × Value)} (h : LogIn w (.slice a len c) ms) {k : Nat} (hk : k <= len) : LogIn w (.slice (Quv a c k) (len - k) (c - k)) (ms.drop k) := by
  obtain ⟨⟨⟨a', cap', h1, h2⟩, h3⟩, h4, h5⟩ := h; injection h1 with e1 e2 e3; subst e1 e2 e3; have hc := h5 _ _ _ rfl; have hl : (ms.drop k).length = ms.length - k := by rw [List.length_drop]
  refine ⟨⟨⟨_, _, by rw [hl], fun hp => ?_⟩, fun m hm => h3 m (List.mem_of_mem_drop hm)⟩, by rw [hl]; omega, fun a l c' he => ?_⟩
  · rw [hl] at hp; obtain ⟨b, off, e, hb, hr⟩ := h2 (by omega); refine ⟨b, off + k * 14, by unfold Quv; rw [if_neg (by omega), e, Option.map_some, Addr.add_lit], hb, fun i hi => ?_⟩; rw [hl] at hi; rw [List.getD_eq_getElem?_getD, List.getElem?_drop, <- List.getD_eq_getElem?_getD]; have h9 := hr (k + i) (by omega); rw [show off + (k + i) * 14 = off + k * 14 + i * 14 by omega] at h9; exact h9
  · injection he with q1 q2 q3; omega
theorem LogIn.all16 {w : World} {a : Option Addr} {len c : Nat} {ms : List (Rec × Value × Value)} (h : LogIn w (.slice a len c) ms) (h0 : 0 < ms.length) :
    ∃ b off, a = some ⟨b, off, none⟩ /\ ∀ i, i < ms.length -> ∀ x, Below w.heap.size w x -> x.rangeAt b (off + i * 14) (rcF (ms.getD i rcZ)).toList /\ Qwb x (ms.getD i rcZ).1 (ms.getD i rcZ).2.1 (ms.getD i rcZ).2.2 := by
  obtain ⟨b, off, e, _, _, _⟩ := h.mid h0; refine ⟨b, off, e, fun i hi => ?_⟩; obtain ⟨b', off', e', _, _, hx⟩ := h.mid hi; rw [e] at e'; injection e' with e'; injection e' with q1 q2 q3; subst q1 q2; exact hx
theorem ofN_cut (rs : List Rec) (h : Qcb 0 rs) {n : Nat} (hn : n <= rs.length) : (ofN rs n).2 = 0 ∨ (ofN rs n).2 < rs.length := by
  unfold ofN
  split
  · exact .inl rfl
  · rename_i j i hck; obtain ⟨h1, h2, h3⟩ := Qtg hck; have := Qam h (n := j) (i := i) (by omega) h2 h3; right; show i + 1 < rs.length; omega
theorem ofN_few {rs : List Rec} (h : Qcb 0 rs) {n : Nat} (hn : n <= rs.length) : TaOk (ofN rs n).1 300 := by
  unfold ofN
  split
  · exact ⟨fun p q _ hq => (nomatch hq), fun p q _ hq => (nomatch hq), Nat.zero_le _, Nat.zero_le _⟩
  · rename_i j i h1; have hr := Qta _ 0 h _ (Qja rs j Rec.zero (by have := (Qtg h1).1; omega)); have h2 := Qiq hr; obtain ⟨h3, h4, h5, h6, _⟩ := hr.check (Qtg h1).2.1; exact ⟨h2.st, h2.sd, by show (rs.getD j Rec.zero).ts.length <= _; omega, by show (rs.getD j Rec.zero).ds.length <= _; omega⟩
def RofAns (w : World) (rs : List Rec) (e : Ending) (w' : World) : Prop :=
  (Qcb 0 rs /\ ∃ vT vD, e = .returned (.tuple #[.agg (taA vT vD), .int .i64 0]) /\ Qxb w' vT (ofA rs).1 /\ Qxc w' vD (ofA rs).2 /\ Below w.heap.size w w') ∨
    (¬ Qcb 0 rs /\ e = .returned (.tuple #[.agg (taA (.slice none 0 0) (.slice none 0 0)), .int .i64 2]) /\ Below w.heap.size w w')
theorem Qww {rs : List Rec} (h : Qcb 0 rs) : ∀ r ∈ rs, (1 <= r.k /\ r.k <= 8) /\ 0 < r.l := fun r hr => by
  have h1 := Qta _ 0 h r hr; exact ⟨⟨h1.k1, h1.k8⟩, by have := h1.l1; omega⟩
theorem rof16 (w : World) (v : Value) (ms : List (Rec × Value × Value)) (hl : LogIn w v ms) (hf : ms.length <= 300) : Calls Try.prog 12 #[v] w (RofAns w (msR ms)) := by
  obtain ⟨y, hy⟩ : ∃ y, y = w.alloc (.cells (taA (.slice none 0 0) (.slice none 0 0)) 32) := ⟨_, rfl⟩; have hb0 : Below w.heap.size w y := by rw [hy]; exact (Below.refl _ _).alloc (Nat.le_refl _) _
  have hr0 : Qa y w.heap.size 32 (taA (.slice none 0 0) (.slice none 0 0)) := by rw [hy]; exact Qa.new w _ _
  obtain ⟨b2, hb2⟩ : ∃ b, b = w.heap.size := ⟨_, rfl⟩; have HB := Qb hb2; have HY := Qb hy; have HL := Qb hl; have H0 : Hid (Qa y b2 32 (taA (.slice none 0 0) (.slice none 0 0)) /\ Below w.heap.size w y) := ⟨by rw [hb2]; exact hr0, hb0⟩; have HG := Qb (Qyw v ms y (hl.below hb0)); obtain ⟨au, cu, rfl, hcap⟩ := hl.slice; obtain ⟨ln, hln⟩ : ∃ k, k = ms.length := ⟨_, rfl⟩; rw [<- hln] at HL HG hf hcap |-; have HLN := Qb hln; clear hy hb0 hr0 hl hb2 hln
  by_cases hr : Qcb 0 (msR ms)
  · have hq : Qgf 0 (msR ms) = true := (Qea _ _).2 hr; rw [hq] at HG; have HR := Qb hr; clear hr hq; go_enter Try.func12, Try.ntmps12; unfold taA at HY; go_wp2_with (with_reducible refine Qxa 9 rfl ?_); rw [<- HY.out, <- HB.out]; refine Qg ?_; clear HY; go_wp2_with fail; refine HG.out.mono ?_; rintro e w1 ⟨rfl, hb1⟩; clear HG; go_wp2_with (with_reducible refine Qxa 13 rfl ?_); obtain ⟨b4, hb4⟩ : ∃ b, b = w1.heap.size := ⟨_, rfl⟩; rw [<- hb4]; obtain ⟨z0, hz0⟩ : ∃ z, z = w1.alloc (.cells #[.slice none 0 0, .slice none 0 0] 32) := ⟨_, rfl⟩; have hal : Below w1.heap.size w1 z0 := by rw [hz0]; exact (Below.refl _ _).alloc (Nat.le_refl _) _
    have H1 : Hid (Ra w z0 b4 b2 (.slice none 0 0) (.slice none 0 0) (ofN (msR ms) 0).1) := by
      have h1 := H0.out.1.later hb1; have h2 := h1.lt; have h3 := HB.out; exact ⟨by rw [hz0, hb4]; exact Qa.new w1 _ _, h1.later hal, ⟨none, 0, rfl, fun h => absurd h (by show ¬ 0 < 0; omega)⟩, ⟨none, 0, rfl, fun h => absurd h (by show ¬ 0 < 0; omega)⟩, by omega, H0.out.2.trans ((hb1.mono H0.out.2.size).trans (hal.mono (Nat.le_trans H0.out.2.size hb1.size)))⟩
    rw [<- hz0]; clear hb1 hal hz0 hb4 H0; refine Qg ?_; go_wp2; go_loopw [5, 14] (fun f i wr => ∃ n : Nat, n <= ln /\ f = .int .i64 ((ofN (msR ms) n).2 : Int) /\ i = .int .i64 (n : Int) /\ ∃ v1 v2, Hid (Ra w wr b4 b2 v1 v2 (ofN (msR ms) n).1)) (fun _ i _ => ln - (intOf i).toNat)
    case atStart => exact ⟨0, Nat.zero_le _, rfl, rfl, _, _, H1⟩
    case round =>
      obtain ⟨n, hn, rfl, rfl, v1, v2, HJ⟩ := hrel; clear H1
      by_cases hlt : n < ln
      · have i5 : (n : Int) < (ln : Int) := by omega
        have hnm : n < ms.length := by rw [<- HLN.out]; exact hlt
        obtain ⟨b, off, rfl, hx⟩ := HL.out.all16 (by omega); have HX := Qb hx; have HGN : ∀ i, (msR ms).getD i Rec.zero = (ms.getD i rcZ).1 := fun i => Qgg ms i
        have H2 : Hid (Ra w wr b4 b2 v1 v2 (inN (msR ms) n 0).1) := by rw [Qes]; exact HJ.out
        have HF0 : Hid ((ofN (msR ms) n).2 = (inN (msR ms) n 0).2) := by show _ = _; rw [Qes]
        rw [HF0.out]; have HEND : Hid (inN (msR ms) n n = ofN (msR ms) (n + 1)) := inN_end HR.out (by rw [Qka]; exact hnm); obtain ⟨m, hm⟩ : ∃ m, m = ms.getD n rcZ := ⟨_, rfl⟩; have HM := Qb hm; have HXN : Hid (∀ x, Below w.heap.size w x -> x.rangeAt b (off + n * 14) (rcF m).toList /\ Qwb x m.1 m.2.1 m.2.2) := by show ∀ x, _; rw [hm]; exact hx n hnm
        clear hx HJ hm HF0; go_wp2; go_loopw [5, 7] (fun f i wr => ∃ k : Nat, k <= n /\ f = .int .i64 ((inN (msR ms) n k).2 : Int) /\ i = .int .i64 (k : Int) /\ ∃ v1 v2, Hid (Ra w wr b4 b2 v1 v2 (inN (msR ms) n k).1)) (fun _ i _ => n - (intOf i).toNat)
        case atStart => exact ⟨0, Nat.zero_le _, rfl, rfl, _, _, H2⟩
        case round =>
          obtain ⟨k, hk, rfl, rfl, v1, v2, HJ⟩ := hrel; clear H2
          by_cases hltk : k < n
          · have i6 : (k : Int) < (n : Int) := by omega
            have hkm : k < ms.length := by omega
            have hxk := HX.out k hkm; have HYES := Qb (fun (a1 : ((msR ms).getD n Rec.zero).k = 8) (a2 : ((msR ms).getD k Rec.zero).k = 7) (a3 : ((msR ms).getD k Rec.zero).l = ((msR ms).getD n Rec.zero).b) => inN_yes (n := n) (k := k) HR.out (by rw [Qka]; exact hkm) a1 a2 a3); have HNO := Qb (fun h => inN_no (rs := msR ms) (n := n) (k := k) h); rw [HGN k, HGN n, <- HM.out] at HYES HNO; obtain ⟨q, hq⟩ : ∃ q, q = ms.getD k rcZ := ⟨_, rfl⟩; rw [<- hq] at hxk HYES HNO; have HXK := Qb hxk; clear hxk hq hkm; have n0 : wr.cell? ⟨b, off + n * 14, none⟩ = some (.int .i64 m.1.k) := (HXN.out wr HJ.out.bel).1 0 _ rfl; have n11 : wr.cell? ⟨b, off + n * 14 + 11, none⟩ = some (.int .u64 (m.1.b : Int)) := (HXN.out wr HJ.out.bel).1 11 _ rfl; have q0 : wr.cell? ⟨b, off + k * 14, none⟩ = some (.int .i64 q.1.k) := (HXK.out wr HJ.out.bel).1 0 _ rfl; have q1 : wr.cell? ⟨b, off + k * 14 + 1, none⟩ = some (.int .u64 (q.1.l : Int)) := (HXK.out wr HJ.out.bel).1 1 _ rfl
            by_cases hyes : m.1.k = 8 /\ q.1.k = 7 /\ q.1.l = m.1.b
            · obtain ⟨a1, a2, a3⟩ := hyes; have HIN := Qb (HYES.out a1 a2 a3); rw [a1] at n0; rw [a2] at q0; rw [a3] at q1; clear HYES HNO a1 a2 a3; go_wp2_with fail; go_quiet (fail); have HQ1 := Qb (HJ.out.drewN nq); generalize wr.drewN nq = z1 at *; clear HJ n0 n11 q0 q1; have hsl := Qcj (HXN.out w (Below.refl _ _)).2; obtain ⟨⟨x1, y1, hs1⟩, x2, y2, hs2⟩ := hsl; have HS := Qb (And.intro hs1 hs2); clear hs1 hs2; obtain ⟨l1, hl1⟩ : ∃ l, l = m.1.ts.length := ⟨_, rfl⟩; obtain ⟨l2, hl2⟩ : ∃ l, l = m.1.ds.length := ⟨_, rfl⟩; rw [<- hl1, <- hl2] at HS; clear hl1 hl2; go_wp2_with fail; have HD := Qb (HQ1.out.drewN 1); obtain ⟨y1', hy1⟩ : ∃ y1, y1 = z1.drew := ⟨_, rfl⟩; refine wp_region_noPanic ?_; refine wp_region_held_drew (S := fun x => Below w.heap.size w x) (by kernel_rfl) HD.out.bel (fun hHeld => ?_); replace HD : Hid (Ra w y1' b4 b2 v1 v2 (inN (msR ms) n k).1) := by rw [hy1]; exact HD
              rw [<- hy1] at hHeld |-; clear hy1 HQ1; refine tkq 0 (some 49) (.slice (some ⟨b, off, none⟩) ln cu) hHeld ?_; (try simp only [Act.put, List.setIfInBounds_toArray, List.set]); refine tkq 1 (some 50) (.int .i64 (n : Int)) hHeld ?_; (try simp only [Act.put, List.setIfInBounds_toArray, List.set]); refine tkq 2 (some 51) (.pointer (some ⟨b, off + n * 14, none⟩)) hHeld ?_; (try simp only [Act.put, List.setIfInBounds_toArray, List.set]); refine tkq 3 (some 52) (.pointer (some ⟨b, off + n * 14 + 12, none⟩)) hHeld ?_; (try simp only [Act.put, List.setIfInBounds_toArray, List.set]); refine tkk 4 (some 53) (.slice x1 l1 y1) rfl rfl (by kernel_rfl) (by kernel_rfl) (fun x hSx => by have h1 : World.cell? x ⟨b, off + n * 14 + 12, none⟩ = some (.slice x1 l1 y1) := by { have h := (HXN.out x hSx).1 12 m.2.1 rfl; rwa [HS.out.1] at h }; go_simp) hHeld ?_; (try simp only [Act.put, List.setIfInBounds_toArray, List.set]); refine tkq 5 (some 54) (.slice (some ⟨b, off, none⟩) ln cu) hHeld ?_; (try simp only [Act.put, List.setIfInBounds_toArray, List.set]); refine tkq 6 (some 55) (.int .i64 (n : Int)) hHeld ?_; (try simp only [Act.put, List.setIfInBounds_toArray, List.set]); refine tkq 7 (some 56) (.pointer (some ⟨b, off + n * 14, none⟩)) hHeld ?_; (try simp only [Act.put, List.setIfInBounds_toArray, List.set]); refine tkq 8 (some 57) (.pointer (some ⟨b, off + n * 14 + 13, none⟩)) hHeld ?_; (try simp only [Act.put, List.setIfInBounds_toArray, List.set]); refine tkk 9 (some 58) (.slice x2 l2 y2) rfl rfl (by kernel_rfl) (by kernel_rfl) (fun x hSx => by have h1 : World.cell? x ⟨b, off + n * 14 + 13, none⟩ = some (.slice x2 l2 y2) := by { have h := (HXN.out x hSx).1 13 m.2.2 rfl; rwa [HS.out.2] at h }; go_simp) hHeld ?_; (try simp only [Act.put, List.setIfInBounds_toArray, List.set]); refine tkq 10 (some 59) (.agg #[.slice x1 l1 y1, .slice x2 l2 y2]) hHeld ?_; (try simp only [Act.put, List.setIfInBounds_toArray, List.set]); refine Qm 11 (by kernel_rfl) ?_; refine Qca rfl rfl rfl 32 (.tmp 4) (.tmp 59) rfl b4 0 32 (taA v1 v2) #[.slice x1 l1 y1, .slice x2 l2 y2] rfl rfl HD.out.a Qda (Nat.le_refl 2) (by simp [Value.oneCell']) ?_; intro w8 hr8 ho8; rw [Qn (taA v1 v2) #[.slice x1 l1 y1, .slice x2 l2 y2] rfl] at hr8
              have H8 : Hid (Ra w w8 b4 b2 (.slice x1 l1 y1) (.slice x2 l2 y2) (inN (msR ms) n (k + 1)).1) := by
                have h1 := (HXN.out y1' HD.out.bel).2; rw [HIN.out]; exact HD.out.only (u := (m.1.ts, m.1.ds)) (by rw [<- HS.out.1]; exact h1.1) (by rw [<- HS.out.2]; exact h1.2) ho8 hr8
              have HF8 : Hid ((inN (msR ms) n (k + 1)).2 = k + 1) := by
                show _ = _; rw [HIN.out]
              refine ⟨H8.out.bel, ?_⟩; (try simp only [Act.put, List.setIfInBounds_toArray, List.set]); refine wpAnyH_done (by kernel_rfl) ?_ _; refine NoPanic.normal ?_; clear hr8 ho8 HD hHeld HIN HS HXK; go_wp2; go_roundw
              case rel => exact ⟨k + 1, by omega, by rw [HF8.out]; go_num, by go_num, _, _, H8⟩
              case measure => simp [intOf] <;> omega
            · have HIN := Qb (HNO.out hyes)
              have HN1 : Hid (Hid (Ra w wr b4 b2 v1 v2 (inN (msR ms) n k).1) -> ∀ z j, z = wr.drewN j -> Hid (Ra w z b4 b2 v1 v2 (inN (msR ms) n (k + 1)).1)) := fun h z j hz => by
                rw [hz, HIN.out]; exact h.out.drewN j
              have HHY := Qb hyes; clear HYES HNO hyes
              by_cases a1 : m.1.k = 8
              · rw [a1] at n0
                by_cases a2 : q.1.k = 7
                · rw [a2] at q0
                  have g3 : ((q.1.l : Int) == (m.1.b : Int)) = false := by
                    rw [beq_eq_false_iff_ne]; intro e; exact HHY.out ⟨a1, a2, by omega⟩
                  clear HHY a1 a2; go_wp2_with fail; go_quiet (fail); have HQ1 := HN1.out HJ _ nq rfl; generalize wr.drewN nq = z1 at *; have HF8 : Hid ((inN (msR ms) n k).2 = (inN (msR ms) n (k + 1)).2) := by show _ = _; rw [HIN.out]
                  clear HJ n0 n11 q0 q1 HIN HN1; rw [HF8.out]; go_wp2; go_roundw
                  case rel => exact ⟨k + 1, by omega, rfl, by go_num, _, _, HQ1⟩
                  case measure => simp [intOf] <;> omega
                · have g2 : (q.1.k == 7) = false := by rw [beq_eq_false_iff_ne]; exact a2
                  clear HHY a1 a2; go_wp2_with fail; go_quiet (fail); have HQ1 := HN1.out HJ _ nq rfl; generalize wr.drewN nq = z1 at *; have HF8 : Hid ((inN (msR ms) n k).2 = (inN (msR ms) n (k + 1)).2) := by show _ = _; rw [HIN.out]
                  clear HJ n0 n11 q0 q1 HIN HN1; rw [HF8.out]; go_wp2; go_roundw
                  case rel => exact ⟨k + 1, by omega, rfl, by go_num, _, _, HQ1⟩
                  case measure => simp [intOf] <;> omega
              · have g1 : (m.1.k == 8) = false := by rw [beq_eq_false_iff_ne]; exact a1
                clear HHY a1; go_wp2_with fail; go_quiet (fail); have HQ1 := HN1.out HJ _ nq rfl; generalize wr.drewN nq = z1 at *; have HF8 : Hid ((inN (msR ms) n k).2 = (inN (msR ms) n (k + 1)).2) := by show _ = _; rw [HIN.out]
                clear HJ n0 n11 q0 q1 HIN HN1; rw [HF8.out]; go_wp2; go_roundw
                case rel => exact ⟨k + 1, by omega, rfl, by go_num, _, _, HQ1⟩
                case measure => simp [intOf] <;> omega
          · have hkn : k = n := by omega
            have i6 : ¬ (k : Int) < (n : Int) := by omega
            subst hkn; have H9 : Hid (Ra w wr b4 b2 v1 v2 (ofN (msR ms) (k + 1)).1) := by rw [<- HEND.out]; exact HJ.out
            have HF9 : Hid ((inN (msR ms) k k).2 = (ofN (msR ms) (k + 1)).2) := by show _ = _; rw [HEND.out]
            clear HJ HEND; rw [HF9.out]; go_wp2; go_roundw
            case rel => exact ⟨k + 1, by omega, rfl, by go_num, _, _, H9⟩
            case measure => simp [intOf] <;> omega
      · have hjl : n = ln := by omega
        have i5 : ¬ (n : Int) < (ln : Int) := by omega
        have hn2 : n = (msR ms).length := by rw [Qka, <- HLN.out]; exact hjl
        have HRES : Hid (∃ F : Nat, F = (ofN (msR ms) n).2 /\ F <= ln /\ ofA (msR ms) = Qha (ofN (msR ms) n).1 (msR (ms.drop F)) /\ TaOk (ofN (msR ms) n).1 300) := by
          refine ⟨_, rfl, ?_, ?_, ofN_few HR.out (by omega)⟩
          · have := ofN_le (rs := msR ms) (n := n) (by omega); omega
          · rw [hn2, Qfw, msR, msR, List.map_drop]
        obtain ⟨F, hF, hF2, hF3, hF4⟩ := HRES.out; rw [<- hF]; obtain ⟨t, ht⟩ : ∃ t, t = (ofN (msR ms) n).1 := ⟨_, rfl⟩; rw [<- ht] at HJ hF3 hF4; have HALL := Qb (fun zz (h : Ra w zz b4 b2 v1 v2 t) => rall16 zz v1 v2 t.1 t.2 _ (ms.drop F) h.v h.d hF4 ((HL.out.below h.bel).from16 hF2) (by rw [List.length_drop, <- HLN.out]; omega) (fun r hr => Qww HR.out r (by rw [msR, List.map_drop] at hr; exact List.mem_of_mem_drop hr))); have HF3 : Hid (ofA (msR ms) = Qha (t.1, t.2) (msR (ms.drop F))) := hF3; rw [<- HF3.out] at HALL; obtain ⟨tb, htb⟩ : ∃ t, t = taA v1 v2 := ⟨_, rfl⟩; have htz : tb.size = 2 := by rw [htb]; rfl
        have hti : (Try.prog.info? 32).map (·.size) = some tb.size := by rw [htz]; exact Qda
        have HTB := Qb htb; rw [<- htb] at HALL; have hFc : F <= cu := by omega
        clear htb hF hF3 hF4 HRES ht hn2; obtain ⟨R, hR⟩ : ∃ R, R = ofA (msR ms) := ⟨_, rfl⟩; rw [<- hR] at HALL HF3; have HRR := Qb hR; clear hR; go_wp2_with fail; have HD := Qb (HJ.out.drewN 1); obtain ⟨y1', hy1⟩ : ∃ y1, y1 = wr.drew := ⟨_, rfl⟩; refine wp_region_noPanic ?_; refine wp_region_held_drew (S := fun x => Qa x b4 32 tb) (by kernel_rfl) (by rw [HTB.out]; exact HD.out.a) (fun hHeld => ?_); replace HD : Hid (Ra w y1' b4 b2 v1 v2 t) := by rw [hy1]; exact HD
        rw [<- hy1] at hHeld |-; clear hy1 HJ; refine Qr 0 (some 63) (.agg tb) rfl rfl (by kernel_rfl) (by kernel_rfl) (by kernel_rfl) (fun _ _ _ h => h) (Qv (by kernel_rfl) 32 _ rfl (.pointer (some ⟨b4, 0, none⟩)) rfl _ (fun x hSx => Qpc x hSx Try.underlying32 rfl hti)) hHeld ?_; (try simp only [Act.put, List.setIfInBounds_toArray, List.set]); refine tkq 1 (some 64) (.slice au ln cu) hHeld ?_; (try simp only [Act.put, List.setIfInBounds_toArray, List.set]); refine tkq 2 (some 65) (.int .i64 (F : Int)) hHeld ?_; (try simp only [Act.put, List.setIfInBounds_toArray, List.set]); refine tkk 3 (some 66) (.slice (Quv au cu F) (ln - F) (cu - F)) rfl rfl (by kernel_rfl) (by kernel_rfl) (fun x hSx => by unfold Quv; go_simp) hHeld ?_; (try simp only [Act.put, List.setIfInBounds_toArray, List.set]); refine Qm 4 (by kernel_rfl) ?_; refine Qfa (some 67) rfl rfl rfl 32 #[.agg tb, .slice (Quv au cu F) (ln - F) (cu - F)] ?he ((HALL.out y1' HD.out).mono ?_); (case he => go_simp); rintro e w6 ⟨u1, u2, rfl, hu1, hu2, hb6⟩; have H6 := Qb (HD.out.later hb6); have HU := Qb (And.intro hu1 hu2)
        have hua : (taA u1 u2).all (·.oneCell') = true := by
          obtain ⟨x1, x2, e1, _⟩ := hu1; obtain ⟨x3, x4, e2, _⟩ := hu2; rw [e1, e2]; simp [taA, Value.oneCell']
        have hHeld6 := hHeld.later hb6; obtain ⟨ua, hua'⟩ : ∃ t, t = taA u1 u2 := ⟨_, rfl⟩; have huz : ua.size = 2 := by rw [hua']; rfl
        have hui : (Try.prog.info? 32).map (·.size) = some ua.size := by rw [huz]; exact Qda
        have HUA := Qb hua'; rw [<- hua'] at hua |-; clear hHeld HD hu1 hu2 hb6 hua' HALL; refine ⟨_, rfl, hHeld6, ?_⟩; (try simp only [Act.put, List.setIfInBounds_toArray, List.set]); refine Qm 5 (by kernel_rfl) ?_; refine Qca rfl rfl rfl 32 (.tmp 2) (.tmp 67) rfl b2 0 32 (taA (.slice none 0 0) (.slice none 0 0)) ua rfl rfl H6.out.o hui (by rw [huz]; exact Nat.le_refl 2) hua ?_; intro w8 hr8 ho8; rw [Qn _ ua (by rw [huz]; rfl)] at hr8; have HF : Hid (Qa w8 b2 32 ua /\ Qxb w8 u1 R.1 /\ Qxc w8 u2 R.2 /\ Below w.heap.size w w8) := ⟨hr8, Qsa HU.out.1 H6.out.o ho8.block ho8.size, Qnd HU.out.2 H6.out.o ho8.block ho8.size, ho8.below H6.out.bel H6.out.lo.2.1⟩; have hHeld8 := ho8.row hHeld6 H6.out.lo.2.2; clear hHeld6 H6 hr8 ho8; refine ⟨hHeld8, ?_⟩; (try simp only [Act.put, List.setIfInBounds_toArray, List.set]); refine Qr 6 (some 3) (.int .i64 0) rfl rfl (by kernel_rfl) (by kernel_rfl) (by kernel_rfl) (fun _ _ _ h => h) (Or.inl ⟨by kernel_rfl, fun x hSx => by go_simp⟩) hHeld8 ?_; (try simp only [Act.put, List.setIfInBounds_toArray, List.set]); refine wpAnyH_done (by kernel_rfl) ?_ _; refine NoPanic.normal ?_; clear hHeld8 HU; go_wp2; exact bodyPost_ret (Qyk rfl _ _ b2 ua _ rfl HF.out.1 Try.underlying32 rfl hui) rfl (.inl ⟨HR.out, u1, u2, by rw [HUA.out]; rfl, by rw [<- HRR.out]; exact HF.out.2.1, by rw [<- HRR.out]; exact HF.out.2.2.1, HF.out.2.2.2⟩)
  · have hq : Qgf 0 (msR ms) = false := by
      cases h : Qgf 0 (msR ms)
      · rfl
      · exact absurd ((Qea _ _).1 h) hr
    rw [hq] at HG; have HR := Qb hr; clear hr hq; go_enter Try.func12, Try.ntmps12; unfold taA at HY; go_wp2_with (with_reducible refine Qxa 9 rfl ?_); rw [<- HY.out, <- HB.out]; refine Qg ?_; clear HY; go_wp2_with fail; refine HG.out.mono ?_; rintro e w1 ⟨rfl, hb1⟩; have H1 : Hid (Qa w1 b2 32 (taA (.slice none 0 0) (.slice none 0 0)) /\ Below w.heap.size w w1) := ⟨H0.out.1.later hb1, H0.out.2.trans (hb1.mono H0.out.2.size)⟩; clear HG H0 hb1; have c0 := H1.out.1.cell 0 _ rfl; have c1 := H1.out.1.cell 1 _ rfl; have f0 := H1.out.1.free 0; have f1 := H1.out.1.free 1; go_wp2; refine bodyPost_ret (Qyk rfl _ _ b2 (taA (.slice none 0 0) (.slice none 0 0)) _ rfl ((H1.out.1.set 0 (.slice none 0 0)).set 1 (.slice none 0 0)) Try.underlying32 rfl Qda) rfl (.inr ⟨HR.out, rfl, ?_⟩); have h0 : w.heap.size <= b2 := by have := HB.out; omega
    exact (H1.out.2.setCell (p := ⟨b2, 0, none⟩) h0 _).setCell (p := ⟨b2, 1, none⟩) h0 _
structure TaFit (t : Ta) : Prop where
  ts : ∀ x ∈ t.1, x.fits
  ds : ∀ d ∈ t.2, d.fits
theorem Qun : Ch.zero.fits := ⟨by decide, by decide, by decide, by show (0 : Nat) <= maxLen; omega, by show (0 : Nat) <= maxLen; omega⟩
def tabR (t : Ta) : Rec := { Rec.zero with ts := t.1, ds := t.2 }
theorem tabR_iff (s t : Ta) : tabR s = tabR t ↔ s = t := by
  constructor
  · intro h; have h1 : (tabR s).ts = (tabR t).ts := by rw [h]
    have h2 : (tabR s).ds = (tabR t).ds := by rw [h]
    exact Prod.ext h1 h2
  · rintro rfl; rfl
theorem Qvw (s t : Ta) (va vb ua ub : Value) (w : World) (q : Bool) (Hq : Hid (q = true ↔ s = t)) (fs : TaFit s) (ft : TaFit t) (ls : TaOk s 2000) (lt : TaOk t 2000) (h1 : Qxb w va s.1) (h2 : Qxc w vb s.2) (h3 : Qxb w ua t.1) (h4 : Qxc w ub t.2) :
    Calls Try.prog 13 #[.agg (taA va vb), .agg (taA ua ub)] w fun e w' => e = .returned (.bool q) /\ Below w.heap.size w w' := by
  have hHQ : Hid (q = true ↔ tabR s = tabR t) := by
    show _ ↔ _; rw [tabR_iff]; exact Hq.out
  have hf : ∀ t : Ta, TaFit t -> TaOk t 2000 -> (tabR t).fits := fun t h hl => ⟨Qun, Nat.le_trans hl.lt (by unfold maxLen; omega), Nat.le_trans hl.ld (by unfold maxLen; omega), h.ts, h.ds⟩
  have HC := Qb (fun x (hb : Below w.heap.size w x) => Qcx (tabR s) (tabR t) va vb ua ub x q hHQ (hf s fs ls) (hf t ft lt) ⟨h1.below hb, h2.below hb⟩ ⟨h3.below hb, h4.below hb⟩); obtain ⟨n1, n2, n3⟩ := Qtc w (taA va vb) (taA ua ub) 32 32; obtain ⟨y, hy⟩ : ∃ y, y = (w.alloc (.cells (taA va vb) 32)).alloc (.cells (taA ua ub) 32) := ⟨_, rfl⟩; rw [<- hy] at n1 n2 n3; obtain ⟨b1, hb1⟩ : ∃ b, b = w.heap.size := ⟨_, rfl⟩; obtain ⟨b2, hb2⟩ : ∃ b, b = w.heap.size + 1 := ⟨_, rfl⟩; rw [<- hb1] at n1; rw [<- hb2] at n2; obtain ⟨x1, c1, rfl, _⟩ := h1; obtain ⟨x2, c2, rfl, _⟩ := h2; obtain ⟨x3, c3, rfl, _⟩ := h3; obtain ⟨x4, c4, rfl, _⟩ := h4; have k1 : y.cell? ⟨b1, 0, none⟩ = some (.slice x1 s.1.length c1) := n1.cell 0 _ rfl; have k2 : y.cell? ⟨b1, 1, none⟩ = some (.slice x2 s.2.length c2) := n1.cell 1 _ rfl; have k3 : y.cell? ⟨b2, 0, none⟩ = some (.slice x3 t.1.length c3) := n2.cell 0 _ rfl; have k4 : y.cell? ⟨b2, 1, none⟩ = some (.slice x4 t.2.length c4) := n2.cell 1 _ rfl; have HY := Qb hy; have HB := Qb (And.intro hb1 hb2); have HN := Qb n3; clear n1 n2 n3 hy hb1 hb2 hf fs ft ls lt hHQ Hq; go_enter Try.func13, Try.ntmps13; go_wp2_with (with_reducible refine Qxa 6 rfl ?_); rw [<- HY.out, <- HB.out.2, <- HB.out.1]; refine Qg ?_; clear HY; go_wp2_with fail; refine (HC.out y HN.out).mono ?_; rintro e w1 ⟨rfl, hb⟩; have HF := Qb (HN.out.trans (hb.mono HN.out.size)); clear hb HC HN k1 k2 k3 k4; go_wp2; go_ret; exact ⟨rfl, HF.out⟩
theorem wf_i64 {x : Int} (h1 : -1000000000 <= x) (h2 : x <= 1000000000) : (Lit.int .i64 x).wf = true := by
  have m1 : IntKind.i64.min = -9223372036854775808 := by decide
  have m2 : IntKind.i64.max = 9223372036854775807 := by decide
  simp only [Lit.wf, m1, m2, Bool.and_eq_true, decide_eq_true_eq]; omega
theorem Qjj {n : Nat} (h : n <= 4611686018427387904) : (Lit.int .u64 (n : Int)).wf = true := by
  have m1 : IntKind.u64.min = 0 := by decide
  have m2 : IntKind.u64.max = 18446744073709551615 := by decide
  simp only [Lit.wf, m1, m2, Bool.and_eq_true, decide_eq_true_eq]; omega
theorem Qjp {r : Rec} (h : r.right) (hk : r.k <= 6) : (Qza r).fits := by
  have h1 := h.own hk; have h2 := h.lm; have h3 : Qtd = 4611686018427387904 := rfl; exact ⟨wf_i64 (by show _ <= r.t; omega) (by show r.t <= _; omega), show (Lit.int .i64 1).wf = true by decide, Qjj (by show r.l <= _; omega), Qjj (by show (0 : Nat) <= _; omega), Qjj (by show (0 : Nat) <= _; omega)⟩
theorem Qdq {r : Rec} {x : Tx} (h : r.right) (hx : x.fits) : (Qag x r).fits := by
  obtain ⟨h1, h2, h3, h4, h5⟩ := hx; have g2 := h.lm; have g3 : Qtd = 4611686018427387904 := rfl
  refine ⟨h1, ?_, h3, Qjj (by show r.l <= _; omega), ?_⟩
  · show (Lit.int .i64 (if r.k = 4 then 2 else if r.k = 3 then 3 else x.s)).wf = true
    split
    · decide
    · split
      · decide
      · exact h2
  · show (Lit.int .u64 ((if r.k = 1 then r.l else if r.k = 2 then r.n else x.n : Nat) : Int)).wf = true
    split
    · exact Qjj (by omega)
    · split
      · rename_i e; have := h.next e; exact Qjj (by omega)
      · exact h5
theorem Qvk {r : Rec} (h : r.right) (hk : r.k <= 6) : ∀ l : List Tx, (∀ x ∈ l, x.fits) -> ∀ x ∈ Qpb l r, x.fits
  | [], _, x, hx => by
    rw [Qpb, List.mem_singleton] at hx; rw [hx]; exact Qdq h (Qjp h hk)
  | y :: l, hl, x, hx => by
    rw [Qpb] at hx
    split at hx
    · rcases List.mem_cons.1 hx with rfl | hx
      · exact hl _ (by simp)
      · exact Qvk h hk l (fun z hz => hl z (List.mem_cons_of_mem _ hz)) x hx
    · split at hx
      · rcases List.mem_cons.1 hx with rfl | hx
        · exact Qdq h (hl _ (by simp))
        · exact hl x (List.mem_cons_of_mem _ hx)
      · rcases List.mem_cons.1 hx with rfl | hx
        · exact Qdq h (Qjp h hk)
        · exact hl x hx
theorem Qkk {p : Int} {n : Nat} (hd : (⟨p, n⟩ : Di).fits) : ∀ l : List Di, (∀ x ∈ l, x.fits) -> ∀ x ∈ Qia l p n, x.fits
  | [], _, x, hx => by
    rw [Qia, List.mem_singleton] at hx; rw [hx]; exact hd
  | y :: l, hl, x, hx => by
    rw [Qia] at hx
    split at hx
    · rcases List.mem_cons.1 hx with rfl | hx
      · exact hl _ (by simp)
      · exact Qkk hd l (fun z hz => hl z (List.mem_cons_of_mem _ hz)) x hx
    · split at hx
      · exact hl x hx
      · rcases List.mem_cons.1 hx with rfl | hx
        · exact hd
        · exact hl x hx
theorem TaFit.take {t : Ta} (h : TaFit t) {r : Rec} (hr : r.right) : TaFit (Qe t r) := by
  unfold Qe
  by_cases e : r.k = 7 ∨ r.k = 8
  · rw [if_pos e]; exact h
  · rw [if_neg e]; have h1 := hr.k1; have h8 := hr.k8; have hk : r.k <= 6 := by omega
    refine ⟨fun x hx => ?_, fun d hd => ?_⟩
    · replace hx : x ∈ (if r.k = 5 then Qba t.1 r.t else Qpb t.1 r) := hx
      split at hx
      · exact h.ts x (Qaf _ _ _ hx)
      · exact Qvk hr hk _ h.ts x hx
    · replace hd : d ∈ (if r.k = 1 ∨ r.k = 2 then Qia t.2 r.c.pg r.l else t.2) := hd
      split at hd
      · rename_i e2; have hc := (hr.ch (by omega)).1; have hl := hr.lm; have g3 : Qtd = 4611686018427387904 := rfl; exact Qkk ⟨wf_i64 (by show _ <= r.c.pg; omega) (by show r.c.pg <= _; omega), Qjj (by show r.l <= _; omega)⟩ _ h.ds d hd
      · exact h.ds d hd
theorem TaFit.takes {t : Ta} (h : TaFit t) : ∀ l : List Rec, (∀ r ∈ l, r.right) -> TaFit (Qha t l) := by
  intro l
  induction l using Qsb with
  | h0 => intro _; exact h
  | h1 l r ih =>
    intro hr; rw [Qqe]; exact (ih fun x hx => hr x (List.mem_append_left _ hx)).take (hr r (List.mem_append_right _ (by simp)))
theorem Quk : TaFit ([], []) := ⟨fun x hx => (nomatch hx), fun d hd => (nomatch hd)⟩
theorem Qtx {rs : List Rec} (h : Qcb 0 rs) (hf : ∀ r ∈ rs, r.fits) : TaFit (ofA rs) := by
  rw [Qfw]; refine TaFit.takes ?_ _ (fun r hr => Qta _ 0 h r (List.mem_of_mem_drop hr)); unfold ofN
  split
  · exact Quk
  · rename_i j i hck; have h1 := hf _ (Qja rs j Rec.zero (by have := (Qtg hck).1; omega)); exact ⟨h1.ts, h1.ds⟩
theorem Qkx {rs : List Rec} (h : Qcb 0 rs) : TaOk (ofA rs) (300 + rs.length) := by
  rw [Qfw]; have h1 := (ofN_few h (Nat.le_refl _)).takes (rs.drop (ofN rs rs.length).2); have h2 : (rs.drop (ofN rs rs.length).2).length <= rs.length := by rw [List.length_drop]; omega
  exact ⟨h1.st, h1.sd, by have := h1.lt; omega, by have := h1.ld; omega⟩
def Qfv (rs : List Rec) : Ta := if Qgf 0 rs = true then ofA rs else ([], [])
def Qow (rs : List Rec) : Int := if Qgf 0 rs = true then 0 else 2
theorem Qkv {rs : List Rec} (hf : ∀ r ∈ rs, r.fits) : TaFit (Qfv rs) := by
  unfold Qfv
  split
  · rename_i h; exact Qtx ((Qea _ _).1 h) hf
  · exact Quk
theorem tabT_ok (rs : List Rec) : TaOk (Qfv rs) (300 + rs.length) := by
  unfold Qfv
  split
  · rename_i h; exact Qkx ((Qea _ _).1 h)
  · exact ⟨fun p q _ hq => (nomatch hq), fun p q _ hq => (nomatch hq), Nat.zero_le _, Nat.zero_le _⟩
theorem nilT (w : World) : Qxb w (.slice none 0 0) [] := ⟨none, 0, rfl, fun h => absurd h (by show ¬ 0 < 0; omega)⟩
theorem nilD (w : World) : Qxc w (.slice none 0 0) [] := ⟨none, 0, rfl, fun h => absurd h (by show ¬ 0 < 0; omega)⟩
def Qtv (w : World) (t : Ta) (E : Int) (e : Ending) (w' : World) : Prop := ∃ vT vD, e = .returned (.tuple #[.agg (taA vT vD), .int .i64 E]) /\ Qxb w' vT t.1 /\ Qxc w' vD t.2 /\ Below w.heap.size w w'
theorem Qmw.tab {w w' : World} {rs : List Rec} {e : Ending} (h : Qmw w rs e w') : Qtv w (Qfv rs) (Qow rs) e w' := by
  rcases h with ⟨h1, s1, s2, h2, h3⟩ | ⟨h1, h2, h3⟩
  · have e1 : Qfv rs = ofA rs := if_pos ((Qea _ _).2 h1); have e2 : Qow rs = 0 := if_pos ((Qea _ _).2 h1); rw [e1, e2]; exact ⟨_, _, h2, h3.t.rows, h3.d.rows, h3.bel⟩
  · have e1 : Qfv rs = ([], []) := if_neg (fun h => h1 ((Qea _ _).1 h)); have e2 : Qow rs = 2 := if_neg (fun h => h1 ((Qea _ _).1 h)); rw [e1, e2]; exact ⟨_, _, h2, nilT _, nilD _, h3⟩
theorem RofAns.tab {w w' : World} {rs : List Rec} {e : Ending} (h : RofAns w rs e w') : Qtv w (Qfv rs) (Qow rs) e w' := by
  rcases h with ⟨h1, vT, vD, h2, h3, h4, h5⟩ | ⟨h1, h2, h3⟩
  · have e1 : Qfv rs = ofA rs := if_pos ((Qea _ _).2 h1); have e2 : Qow rs = 0 := if_pos ((Qea _ _).2 h1); rw [e1, e2]; exact ⟨_, _, h2, h3, h4, h5⟩
  · have e1 : Qfv rs = ([], []) := if_neg (fun h => h1 ((Qea _ _).1 h)); have e2 : Qow rs = 2 := if_neg (fun h => h1 ((Qea _ _).1 h)); rw [e1, e2]; exact ⟨_, _, h2, nilT _, nilD _, h3⟩
theorem Quw (w : World) (a a' : Option Addr) (n n' c c' : Nat) :
    Calls Try.prog 14 #[.agg #[.slice a n c, .slice a' n' c']] w fun e w' => e = .returned (.agg #[.slice a n c, .slice a' n' c']) /\ Below w.heap.size w w' := by
  obtain ⟨n1, n2, n3⟩ := Qtc w #[.slice a n c, .slice a' n' c'] #[.slice none 0 0, .slice none 0 0] 28 32; obtain ⟨y, hy⟩ : ∃ y, y = (w.alloc (.cells #[.slice a n c, .slice a' n' c'] 28)).alloc (.cells #[.slice none 0 0, .slice none 0 0] 32) := ⟨_, rfl⟩; rw [<- hy] at n1 n2 n3; obtain ⟨b1, hb1⟩ : ∃ b, b = w.heap.size := ⟨_, rfl⟩; obtain ⟨b2, hb2⟩ : ∃ b, b = w.heap.size + 1 := ⟨_, rfl⟩; rw [<- hb1] at n1; rw [<- hb2] at n2; have k1 := n1.cell 0 (.slice a n c) rfl; have k2 := n1.cell 1 (.slice a' n' c') rfl; have H0 := Qb (And.intro n2 n3); have HY := Qb hy; have HB := Qb (And.intro hb1 hb2); clear n1 n2 n3 hy hb1 hb2; go_enter Try.func14, Try.ntmps14; go_wp2_with (with_reducible refine Qxa 4 rfl ?_); rw [<- HY.out, <- HB.out.2, <- HB.out.1]; refine Qg ?_; clear HY; go_wp2_with (refine Ql rfl 32 (.tmp 2) (.tmp 7) rfl b2 0 32 #[.slice none 0 0, .slice none 0 0] #[.slice a n c, .slice a' n' c'] rfl rfl H0.out.1 Qda (Nat.le_refl 2) (by simp [Value.oneCell']) ?_; intro w5 hr5 ho5; refine Qpa ?_); rw [Qn #[.slice none 0 0, .slice none 0 0] #[.slice a n c, .slice a' n' c'] rfl] at hr5; have HF := Qb (And.intro hr5 (ho5.below H0.out.2 (by have := HB.out; omega))); clear hr5 ho5 H0 k1 k2; refine Qg ?_; go_wp2; exact bodyPost_ret (Qdb rfl _ _ b2 #[.slice a n c, .slice a' n' c'] _ rfl HF.out.1 Try.underlying32 rfl Qda) rfl ⟨rfl, HF.out.2⟩
def awC16 : Ch := ⟨1, 2, 0, ⟨#[]⟩, ⟨#[97]⟩⟩
def Qmp : Rec := ⟨1, 3, 1, 0, awC16, 0, 0, 0, [], []⟩
theorem Qaq : awC16.right := ⟨by decide, .inl ⟨rfl, rfl⟩⟩
theorem Qxq : Qmp.right := by
  refine ⟨by decide, by decide, by decide, by decide, fun _ => by decide, fun h => absurd h (by decide), fun _ => Qaq, fun h => absurd h (by decide), fun h => absurd h (by decide), fun _ => rfl, fun h => absurd h (by decide), fun _ => rfl, fun h => absurd h (by decide), fun _ => ⟨rfl, rfl, rfl⟩⟩
theorem Qyt : Qcb 0 [Qmp] := ⟨Qxq, by decide, trivial⟩
theorem awL16_of : ofA [Qmp] = ([⟨1, 1, 3, 3, 3⟩], [⟨2, 3⟩]) := by
  have h : ckL [Qmp] [Qmp].length = none := by
    show ckL [Qmp] 1 = none; rw [ckL, if_neg (by decide)]; rfl
  unfold ofA ofT; rw [h]; rfl
def Qzq : Array Value := #[.int .i64 1, .int .u64 3, .int .i64 1, .int .u64 0, .int .i64 1, .int .i64 2, .int .i64 0, .string ⟨#[]⟩, .string ⟨#[97]⟩, .int .u64 0, .int .i64 0, .int .u64 0, .slice none 0 0, .slice none 0 0]
theorem awL16_log (x : World) (g : Nat) (h : Qa x g 46 Qzq) : LogIn x (.slice (some ⟨g, 0, none⟩) 1 1) (Qhe [Qmp]) := by
  have b1 : Qmp.bare := ⟨rfl, rfl, ⟨⟨by decide, by decide, by decide, by show (0 : Nat) <= maxLen; omega, by show (1 : Nat) <= maxLen; unfold maxLen; omega⟩, Nat.zero_le _, Nat.zero_le _, fun x hx => (nomatch hx), fun x hx => (nomatch hx)⟩⟩
  refine ⟨⟨⟨some ⟨g, 0, none⟩, 1, rfl, fun _ => ⟨g, 0, rfl, h.lt, fun i hi => ?_⟩⟩, fun m hm => ?_⟩, by decide, fun a l c e => ?_⟩
  · have hi2 : i < 1 := hi; obtain rfl : i = 0 := by omega
    intro j u hu; have hj : j < 14 := (List.getElem?_eq_some_iff.1 hu).1; refine (h.cell (0 + 0 * 14 + j) u ?_); rw [<- hu]; rcases (show j = 0 ∨ j = 1 ∨ j = 2 ∨ j = 3 ∨ j = 4 ∨ j = 5 ∨ j = 6 ∨ j = 7 ∨ j = 8 ∨ j = 9 ∨ j = 10 ∨ j = 11 ∨ j = 12 ∨ j = 13 by omega) with rfl | rfl | rfl | rfl | rfl | rfl | rfl | rfl | rfl | rfl | rfl | rfl | rfl | rfl <;> rfl
  · simp only [Qhe, List.map_cons, List.map_nil, List.mem_cons, List.not_mem_nil, or_false] at hm; rcases hm with rfl; exact ⟨b1.2.2, Qls b1 x⟩
  · injection e with e1 e2 e3; omega
theorem Qcw (w : World) : Calls Try.prog 9 #[] w fun e w' => e = .returned (.bool true) /\ Below w.heap.size w w' := by
  have hb0 : Below w.heap.size w (w.alloc (.cells (chA Ch.zero) 44)) := (Below.refl _ _).alloc (Nat.le_refl _) _; have HZ := Qb (And.intro (Qa.new w 44 (chA Ch.zero)) hb0); have HOF := Qb (fun x g (h : Qa x g 46 Qzq) => of16 x _ _ (awL16_log x g h)); rw [bareMs_R] at HOF; clear hb0; go_enter Try.func9, Try.ntmps9; go_wp2_with (refine Qh rfl 44 (.tmp 1) (.tmp 4) rfl w.heap.size (chA Ch.zero) (chA awC16) rfl rfl HZ.out.1 Qdi rfl (chA_one _) ?_; intro w2 hr2 hk2 hrow2; refine Qpa ?_); have hb2 := hk2 _ _ HZ.out.2 (Nat.le_refl _); have H2 := Qb (And.intro hr2 hb2); clear hr2 hk2 hrow2 hb2 HZ; refine Qg ?_; go_wp2_with (refine Qd rfl 44 (.tmp 1) rfl w.heap.size rfl #[.int .i64 1, .int .i64 2, .int .i64 0, .string ⟨#[]⟩, .string ⟨#[97]⟩] H2.out.1 _ Try.underlying44 rfl Qdi ?_); have hb3 : Below w2.heap.size w2 (w2.alloc (.cells Qzq 46)) := (Below.refl _ _).alloc (Nat.le_refl _) _; obtain ⟨g, hg⟩ : ∃ g, g = w2.heap.size := ⟨_, rfl⟩
  have H3 : Hid (Qa (w2.alloc (.cells Qzq 46)) g 46 Qzq /\ Below w.heap.size w (w2.alloc (.cells Qzq 46))) := by
    rw [hg]; exact ⟨Qa.new w2 _ _, H2.out.2.trans (hb3.mono H2.out.2.size)⟩
  rw [<- hg]; clear hb3 hg H2; refine Qwc (fun x => Qa x g 46 Qzq /\ Below w.heap.size w x) H3.out ?_; intro y HY; have HYY := Qb HY; clear HY H3; refine (HOF.out y g HYY.out.1).mono ?_; rintro e w4 hcase
  obtain ⟨s1, s2, rfl, hta⟩ : ∃ s1 s2, e = .returned (.tuple #[.agg (taA (slV s1 1) (slV s2 1)), .int .i64 0]) /\ TaAt y w4 s1 s2 [⟨1, 1, 3, 3, 3⟩] [⟨2, 3⟩] := by
    rcases hcase with ⟨_, s1, s2, h1, h2⟩ | ⟨h1, _⟩
    · rw [awL16_of] at h1 h2; exact ⟨s1, s2, h1, h2⟩
    · exact absurd Qyt h1
  obtain ⟨x1, hx1, _, hx3⟩ := hta.t.at (i := 0) rfl; obtain ⟨x2, hx2, _, hx4⟩ := hta.d.at (i := 0) rfl; have e1 : slV s1 1 = .slice (some ⟨x1, 0, none⟩) 1 s1.c := by unfold slV adr; rw [hx1]; rfl
  have e2 : slV s2 1 = .slice (some ⟨x2, 0, none⟩) 1 s2.c := by unfold slV adr; rw [hx2]; rfl
  rw [e1, e2]; have k4 : w4.cell? ⟨x1, 4, none⟩ = some (.int .u64 3) := hx3 4 _ (by omega) rfl; have k0 : w4.cell? ⟨x2, 0, none⟩ = some (.int .i64 2) := hx4 0 _ (by omega) rfl; have H4 : Hid (Below w.heap.size w w4) := HYY.out.2.trans (hta.bel.mono HYY.out.2.size); have HX : Hid (x1 < w4.heap.size /\ x2 < w4.heap.size) := ⟨hta.t.lt hx1, hta.d.lt hx2⟩; clear hcase hta hx1 hx2 hx3 hx4 e1 e2 HYY HOF; unfold taA; go_wp2_with (refine Ql rfl 28 (.tmp 2) (.tmp 10) rfl w4.heap.size 0 28 #[.slice none 0 0, .slice none 0 0] #[.slice (some ⟨x1, 0, none⟩) 1 s1.c, .slice (some ⟨x2, 0, none⟩) 1 s2.c] rfl rfl (Qa.new w4 _ _) Qde (Nat.le_refl 2) (by simp [Value.oneCell']) ?_; intro w5 hr5 ho5; refine Qpa ?_); rw [Qn #[.slice none 0 0, .slice none 0 0] #[.slice (some ⟨x1, 0, none⟩) 1 s1.c, .slice (some ⟨x2, 0, none⟩) 1 s2.c] rfl] at hr5; have hal : Below w4.heap.size w4 (w4.alloc (.cells #[.slice none 0 0, .slice none 0 0] 28)) := (Below.refl _ _).alloc (Nat.le_refl _) _; have hb5 := ho5.below hal (Nat.le_refl _); have m4 : w5.cell? ⟨x1, 4, none⟩ = some (.int .u64 3) := (hb5.cell (p := ⟨x1, 4, none⟩) HX.out.1).trans k4; have m0 : w5.cell? ⟨x2, 0, none⟩ = some (.int .i64 2) := (hb5.cell (p := ⟨x2, 0, none⟩) HX.out.2).trans k0; have q0 := hr5.cell 0 (.slice (some ⟨x1, 0, none⟩) 1 s1.c) rfl; have q1 := hr5.cell 1 (.slice (some ⟨x2, 0, none⟩) 1 s2.c) rfl; have H5 : Hid (Below w.heap.size w w5) := H4.out.trans (hb5.mono H4.out.size); obtain ⟨g5, hg5⟩ : ∃ g, g = w4.heap.size := ⟨_, rfl⟩; rw [<- hg5] at q0 q1 |-; clear hr5 ho5 hal hb5 k4 k0 hg5 H4 HX; refine Qg ?_; go_wp2; go_ret; exact ⟨rfl, H5.out⟩
def Qln (ms : List (Rec × Value × Value)) : Prop := ms.length <= 300 /\ ∀ i, i < ms.length -> (ms.getD i rcZ).1.ts.length <= 40 /\ (ms.getD i rcZ).1.ds.length <= 40
theorem few16 (w : World) (v : Value) (ms : List (Rec × Value × Value)) (q : Bool) (HQ : Hid (q = true ↔ Qln ms)) (hr : Qmi w v ms) (hl : ms.length <= maxLen) :
    Calls Try.prog 10 #[v] w fun e w' => e = .returned (.bool q) /\ w' = w := by
  obtain ⟨au, cu, rfl, _⟩ := id hr.1; have hmx : ms.length <= 9223372036854775807 := by unfold maxLen at hl; omega
  obtain ⟨ln, hln⟩ : ∃ k, k = ms.length := ⟨_, rfl⟩; rw [<- hln] at hmx hr |-; have HR := Qb hr; have HLN := Qb hln; clear hr hl hln
  by_cases h300 : ln <= 300
  · have i3 : ¬ (300 : Int) < (ln : Int) := by omega
    go_enter Try.func10, Try.ntmps10; go_wp2; go_loopw [9] (fun i wr => ∃ j : Nat, j <= ln /\ i = .int .i64 (j : Int) /\ Hid (w = wr /\ ∀ k, k < j -> (ms.getD k rcZ).1.ts.length <= 40 /\ (ms.getD k rcZ).1.ds.length <= 40)) (fun i _ => ln - (intOf i).toNat)
    case atStart => exact ⟨0, Nat.zero_le _, rfl, rfl, fun k hk => absurd hk (by omega)⟩
    case round =>
      obtain ⟨j, hj, rfl, HJ⟩ := hrel
      by_cases hlt : j < ln
      · have i5 : (j : Int) < (ln : Int) := by omega
        have hjm : j < ms.length := by rw [<- HLN.out]; exact hlt
        obtain ⟨b, off, rfl, hb, hx, hft, hin⟩ := HR.out.at hjm; have hsl := Qcj hin; obtain ⟨m, hm⟩ : ∃ m, m = ms.getD j rcZ := ⟨_, rfl⟩; have HM := Qb hm; rw [<- hm] at hx hsl hft; obtain ⟨⟨x1, y1, hs1⟩, x2, y2, hs2⟩ := hsl; obtain ⟨rfl, hall⟩ := HJ.out; have HALL := Qb hall; have k12 := hx 12 m.2.1 rfl; have k13 := hx 13 m.2.2 rfl; rw [hs1] at k12; rw [hs2] at k13; have hb1 : m.1.ts.length <= 9223372036854775807 := by have := hft.tl; unfold maxLen at this; omega
        have hb2 : m.1.ds.length <= 9223372036854775807 := by have := hft.dl; unfold maxLen at this; omega
        clear hx hft hs1 hs2 hin hall hm hb HJ hjm
        by_cases h1 : m.1.ts.length <= 40
        · have i1 : ¬ (40 : Int) < (m.1.ts.length : Int) := by omega
          by_cases h2 : m.1.ds.length <= 40
          · have i2 : ¬ (40 : Int) < (m.1.ds.length : Int) := by omega
            have HN : Hid (∀ k, k < j + 1 -> (ms.getD k rcZ).1.ts.length <= 40 /\ (ms.getD k rcZ).1.ds.length <= 40) := fun k hk => by
              by_cases e : k = j
              · rw [e, <- HM.out]; exact ⟨h1, h2⟩
              · exact HALL.out k (by omega)
            clear h1 h2; go_wp2; go_roundw
            case rel => exact ⟨j + 1, by omega, by go_num, ⟨trivial, HN.out⟩⟩
            case measure => simp [intOf] <;> omega
          · have i2 : (40 : Int) < (m.1.ds.length : Int) := by omega
            obtain rfl : q = false := by
              cases q
              · rfl
              · have h := (HQ.out.1 rfl).2 j (by rw [<- HLN.out]; exact hlt); rw [<- HM.out] at h; omega
            go_wp2; go_ret; exact ⟨rfl, rfl⟩
        · have i1 : (40 : Int) < (m.1.ts.length : Int) := by omega
          obtain rfl : q = false := by
            cases q
            · rfl
            · have h := (HQ.out.1 rfl).2 j (by rw [<- HLN.out]; exact hlt); rw [<- HM.out] at h; omega
          go_wp2; go_ret; exact ⟨rfl, rfl⟩
      · have i5 : ¬ (j : Int) < (ln : Int) := by omega
        have hjl : j = ln := by omega
        obtain ⟨rfl, hall⟩ := HJ.out; have HP : Hid (Qln ms) := ⟨by rw [<- HLN.out]; exact h300, fun i hi => hall i (by rw [hjl, HLN.out]; exact hi)⟩; clear HJ hall; obtain rfl : q = true := HQ.out.2 HP.out; go_wp2; go_ret; exact ⟨rfl, rfl⟩
  · have i3 : (300 : Int) < (ln : Int) := by omega
    obtain rfl : q = false := by
      cases q
      · rfl
      · have h := (HQ.out.1 rfl).1; rw [<- HLN.out] at h; omega
    go_enter Try.func10, Try.ntmps10; go_wp2; go_ret; exact ⟨rfl, rfl⟩
section
open Go.ChangeShapes Go.WideShapes Go.ChangeAt Go.RowKit Go.Deep Go.Joins
section
variable {H : Type}
theorem bulk_pos (d : DataW H) : 1 <= Rows.uptoBulk d := by
  cases d with
  | lit l => cases l <;> simp [Rows.uptoBulk]
  | _ => simp [Rows.uptoBulk]
theorem Qbt : ∀ (l : List (DataW H)), l.length <= Rows.uptoBulkAll l
  | [] => by simp
  | d :: l => by
    have h1 := bulk_pos d; have h2 := Qbt l; simp only [Rows.uptoBulkAll, List.length_cons]; omega
theorem Qji.small {d : DataW H} {len cap : Nat} (h : Qji d len cap) : len <= Rows.uptoBulk d := by
  rcases h with ⟨_, rfl, _⟩ | ⟨es, sp, rfl, h1, h2⟩
  · omega
  · have := Qbt es; simp only [Rows.uptoBulk]; omega
end
end
section
open Go.ChangeShapes Go.WideShapes Go.ChangeAt Go.RowKit Go.Deep Go.Joins
section
variable {H : Type} {enc : TypeId × Value -> H} {W : World}
set_option maxRecDepth 40000 in
theorem Qdo {v : Value} {d : DataW H} {p : List MemPlace} {r : Reach} {b0 : Nat} (hv : Value.okWide Try.prog W r b0 22 v) (h : DataW.Trod enc Try.prog W 0 (fun _ => true) true 22 v d p) : ∃ a len cap, v = .slice a len cap /\ Qji d len cap /\ len <= cap /\ (a = none -> cap = 0) := by
  obtain ⟨a, len, cap, f, h1, h2, h3, h4, _, _⟩ := @Qxo H enc Try.prog W (Rec × Value × Value) ⟨rcZ⟩ 22 46 14 v d p r b0 (fun m k => (rcF m).toList.getD k (.bool false)) (fun _ => True) (fun n cs y hy => by
    obtain ⟨m, rfl, _⟩ := Qfs n cs y hy; refine ⟨m, trivial, fun k hk => ?_⟩; rw [List.getD_eq_getElem?_getD, List.getElem?_eq_getElem (by rw [Array.length_toList]; exact hk)]
    rfl) Try.underlying22 (by kernel_rfl) (by decide) hv h
  exact ⟨a, len, cap, h1, h2, h3, h4⟩
set_option maxRecDepth 40000 in
theorem Qwp {v : Value} {d : DataW H} {p : List MemPlace} {r : Reach} {b0 : Nat} (hv : Value.okWide Try.prog W r b0 22 v) (h : DataW.Trod enc Try.prog W 0 (fun _ => true) true 22 v d p) :
    ∃ ms : List (Rec × Value × Value), Qmi W v ms /\ ms.length <= maxLen /\ ∀ a len cap, v = .slice a len cap -> len <= cap := by
  obtain ⟨a, len, cap, rfl, _, hc, _⟩ := Qdo hv h; obtain ⟨fuel, hf⟩ := h; have hf2 : DataW.trod enc Try.prog W 0 (fun _ => true) true fuel 22 [.slice a len cap] = some (d, p) := hf; obtain ⟨ms, h1, h2, h3⟩ := op_recs Try.underlying22 hf2; refine ⟨ms, ⟨h1, h3⟩, h2, fun a' l' c' e => ?_⟩; injection e with e1 e2 e3; omega
set_option maxRecDepth 40000 in
theorem op_recs_few {v : Value} {d : DataW H} {p : List MemPlace} {r : Reach} {b0 N : Nat} (hv : Value.okWide Try.prog W r b0 22 v) (h : DataW.Trod enc Try.prog W 0 (fun _ => true) true 22 v d p) (hs : ∀ len cap, Qji d len cap -> len <= N) :
    ∃ ms : List (Rec × Value × Value), Qmi W v ms /\ ms.length <= N /\ ∀ a len cap, v = .slice a len cap -> len <= cap /\ (a = none -> cap = 0) := by
  obtain ⟨a, len, cap, rfl, hsl, hc, hnl⟩ := Qdo hv h; obtain ⟨fuel, hf⟩ := h; have hf2 : DataW.trod enc Try.prog W 0 (fun _ => true) true fuel 22 [.slice a len cap] = some (d, p) := hf; obtain ⟨ms, h1, h2, h3⟩ := op_recs Try.underlying22 hf2
  have hl : ms.length = len := by
    obtain ⟨a', c', e, _⟩ := h1; injection e with e1 e2 e3; exact e2.symm
  refine ⟨ms, ⟨h1, h3⟩, by rw [hl]; exact hs _ _ hsl, fun a' l' c' e => ?_⟩; injection e with e1 e2 e3; subst e1 e2 e3; exact ⟨hc, hnl⟩
end
end
end Go.Proofs.Ytkgniegdefaieaa
