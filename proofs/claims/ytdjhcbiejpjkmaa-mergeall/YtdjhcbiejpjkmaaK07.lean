/-
  Texts that lean on one another, one behind the other: each opens with its own remark.
-/
import Derived.Test.YtdjhcbiejpjkmaaK00
import Derived.Test.YtdjhcbiejpjkmaaK06
import Derived.Test.YtdjhcbiejpjkmaaK04
import Derived.Test.YtdjhcbiejpjkmaaK05
import Derived.Test.YtdjhcbiejpjkmaaK03

namespace Go.Proofs.Ytdjhcbiejpjkmaa
open Go.RowKit
set_option linter.unusedVariables false
set_option maxRecDepth 8000
set_option maxHeartbeats 25600000
theorem rright6_7 (r : Rec) (va vb : Value) (w : World) (q : Bool) (Hq : Hid (q = true ↔ r.right)) (hk : r.k = 7) (hf : r.c.fits) (hin : Qcd w r va vb) :
    Calls Try.prog 32 #[.agg (rcA r va vb)] w fun e w' => e = .returned (.bool q) /\ Below w.heap.size w w' := by
  have HIN := Qc hin; obtain ⟨⟨e1, cap1, rfl, -⟩, ⟨e2, cap2, rfl, -⟩⟩ := hin; have HFI := Qc hf; clear hf; have HK0 := Qc (Qx.one w 45 (rcA r (.slice e1 r.ts.length cap1) (.slice e2 r.ds.length cap2)))
  have HF : Hid (¬ r.right -> q = false) := fun h => by
    cases q
    · rfl
    · exact absurd (Hq.out.1 rfl) h
  have HT : Hid (r.right -> q = true) := fun h => Hq.out.2 h
  have HOW := Qc (fun w => Qcn r.k w false (Qc (decide_eq_false (by omega)))); rw [hk] at HOW; by_cases l1 : (r.l : Int) < 1
  case pos =>
    obtain rfl := HF.out (fun h => by have := h.l1; omega); clear HF HT Hq HFI HIN; obtain ⟨c0, c1, -⟩ := Qda HK0.out.1.1; rw [hk] at c0; have hb0 := HK0.out.2; clear HK0 HOW; go_enter Try.func32, Try.ntmps32; go_wp2; go_ret; exact ⟨rfl, hb0⟩
  by_cases l2 : (4611686018427387904 : Int) < (r.l : Int)
  case pos =>
    obtain rfl := HF.out (fun h => by have := h.lm; unfold Qve at this; omega); clear HF HT Hq HFI HIN; obtain ⟨c0, c1, -⟩ := Qda HK0.out.1.1; rw [hk] at c0; have hb0 := HK0.out.2; clear HK0 HOW; go_enter Try.func32, Try.ntmps32; go_wp2; go_ret; exact ⟨rfl, hb0⟩
  obtain ⟨c0, c1, -⟩ := Qda HK0.out.1.1; rw [hk] at c0; go_enter Try.func32, Try.ntmps32; go_wp2_with fail; refine Qwa (fun x => Hid (Qx w x [(w.heap.size, 45, rcA r (.slice e1 r.ts.length cap1) (.slice e2 r.ds.length cap2))])) HK0 ?_; clear HK0 c0 c1; intro w0 HK0; obtain ⟨c0, c1, c2, c3, c9, c10, c11, c12, c13⟩ := Qda HK0.out.1.1; rw [hk] at c0; have hb0 := HK0.out.2; refine (HOW.out _).mono ?_; rintro e w1 ⟨rfl, rfl⟩; go_wp2_with fail; refine (HOW.out _).mono ?_; rintro e w1 ⟨rfl, rfl⟩; clear HOW; by_cases t1 : ¬ r.t = 0
  case pos =>
    obtain rfl := HF.out (fun h => t1 (h.none (by omega)).1); have t1e : (r.t == 0) = false := by rw [beq_eq_false_iff_ne]; exact t1
    have t1f : (r.t != 0) = true := by rw [bne, t1e]; rfl
    clear HF HT Hq HFI HIN; clear HK0 c9 c10 c11 c12 c13; go_wp2; go_ret; exact ⟨rfl, hb0⟩
  have t1e : r.t = 0 := Decidable.of_not_not t1; by_cases p1 : ¬ (r.p : Int) = 0
  case pos =>
    obtain rfl := HF.out (fun h => by have := h.none (by omega); omega); have p1e : ((r.p : Int) == 0) = false := by rw [beq_eq_false_iff_ne]; exact p1
    have p1f : ((r.p : Int) != 0) = true := by rw [bne, p1e]; rfl
    clear HF HT Hq HFI HIN; clear HK0 c9 c10 c11 c12 c13; go_wp2; go_ret; exact ⟨rfl, hb0⟩
  have p1e : (r.p : Int) = 0 := Decidable.of_not_not p1; obtain ⟨d4, d5, d6, d7, d8⟩ := Qbg HK0.out.1.1; by_cases f1 : r.c.k = 0
  case neg =>
    obtain rfl := HF.out (fun h => f1 (by rw [h.noch (by omega)]; rfl)); clear HF HT Hq HFI HIN HK0; go_wp2; go_ret; exact ⟨rfl, hb0⟩
  by_cases f2 : r.c.pg = 0
  case neg =>
    obtain rfl := HF.out (fun h => f2 (by rw [h.noch (by omega)]; rfl)); clear HF HT Hq HFI HIN HK0; go_wp2; go_ret; exact ⟨rfl, hb0⟩
  by_cases f3 : r.c.sl = 0
  case neg =>
    obtain rfl := HF.out (fun h => f3 (by rw [h.noch (by omega)]; rfl)); clear HF HT Hq HFI HIN HK0; go_wp2; go_ret; exact ⟨rfl, hb0⟩
  by_cases f4 : r.c.o.toList = []
  case neg =>
    obtain rfl := HF.out (fun h => f4 (by rw [h.noch (by omega)]; exact Qse)); clear HF HT Hq HFI HIN HK0; go_wp2; go_ret; exact ⟨rfl, hb0⟩
  by_cases f5 : r.c.n.toList = []
  case neg =>
    obtain rfl := HF.out (fun h => f5 (by rw [h.noch (by omega)]; exact Qse)); clear HF HT Hq HFI HIN HK0; go_wp2; go_ret; exact ⟨rfl, hb0⟩
  have HCC := Qc (Qmr r.c f1 f2 f3 f4 f5); by_cases n1 : ¬ (r.n : Int) = 0
  case pos =>
    obtain rfl := HF.out (fun h => by have := h.nonext (by omega); omega); have n1e : ((r.n : Int) == 0) = false := by rw [beq_eq_false_iff_ne]; exact n1
    have n1f : ((r.n : Int) != 0) = true := by rw [bne, n1e]; rfl
    clear HF HT Hq HFI HIN; go_wp2; go_ret; exact ⟨rfl, hb0⟩
  have n1e : (r.n : Int) = 0 := Decidable.of_not_not n1; by_cases s1 : ¬ r.s = 0
  case pos =>
    obtain rfl := HF.out (fun h => s1 (h.nosave (by omega))); have s1e : (r.s == 0) = false := by rw [beq_eq_false_iff_ne]; exact s1
    have s1f : (r.s != 0) = true := by rw [bne, s1e]; rfl
    clear HF HT Hq HFI HIN; go_wp2; go_ret; exact ⟨rfl, hb0⟩
  have s1e : r.s = 0 := Decidable.of_not_not s1; by_cases b1 : ¬ (r.b : Int) = 0
  case pos =>
    obtain rfl := HF.out (fun h => by have := h.nocheck (by omega); omega); have b1e : ((r.b : Int) == 0) = false := by rw [beq_eq_false_iff_ne]; exact b1
    have b1f : ((r.b : Int) != 0) = true := by rw [bne, b1e]; rfl
    clear HF HT Hq HFI HIN; go_wp2; go_ret; exact ⟨rfl, hb0⟩
  have b1e : (r.b : Int) = 0 := Decidable.of_not_not b1; by_cases z1 : ¬ (r.ts.length : Int) = 0
  case pos =>
    obtain rfl := HF.out (fun h => by have := (h.nocheck (by omega)).2.1; rw [this] at z1; exact z1 rfl); have z1e : ((r.ts.length : Int) == 0) = false := by rw [beq_eq_false_iff_ne]; exact z1
    have z1f : ((r.ts.length : Int) != 0) = true := by rw [bne, z1e]; rfl
    clear HF HT Hq HFI HIN; go_wp2; go_ret; exact ⟨rfl, hb0⟩
  have z1e : (r.ts.length : Int) = 0 := Decidable.of_not_not z1; by_cases z2 : ¬ (r.ds.length : Int) = 0
  case pos =>
    obtain rfl := HF.out (fun h => by have := (h.nocheck (by omega)).2.2; rw [this] at z2; exact z2 rfl); have z2e : ((r.ds.length : Int) == 0) = false := by rw [beq_eq_false_iff_ne]; exact z2
    have z2f : ((r.ds.length : Int) != 0) = true := by rw [bne, z2e]; rfl
    clear HF HT Hq HFI HIN; go_wp2; go_ret; exact ⟨rfl, hb0⟩
  have z2e : (r.ds.length : Int) = 0 := Decidable.of_not_not z2; obtain rfl := HT.out ⟨by omega, by omega, by omega, by unfold Qve; omega, fun h => absurd h (by omega), fun _ => ⟨by omega, by omega⟩, fun h => absurd h (by omega), fun _ => HCC.out, fun h => absurd h (by omega), fun _ => by omega, fun h => absurd h (by omega), fun _ => by omega, fun h => absurd h (by omega), fun _ => ⟨by omega, List.eq_nil_of_length_eq_zero (by omega), List.eq_nil_of_length_eq_zero (by omega)⟩⟩; clear HF HT Hq HFI HIN HCC; go_wp2; go_ret; exact ⟨rfl, hb0⟩
theorem rright6_8 (r : Rec) (va vb : Value) (w : World) (q : Bool) (Hq : Hid (q = true ↔ r.right)) (hk : r.k = 8) (hf : r.c.fits) (hin : Qcd w r va vb) :
    Calls Try.prog 32 #[.agg (rcA r va vb)] w fun e w' => e = .returned (.bool q) /\ Below w.heap.size w w' := by
  have HIN := Qc hin; obtain ⟨⟨e1, cap1, rfl, -⟩, ⟨e2, cap2, rfl, -⟩⟩ := hin; have HFI := Qc hf; clear hf; have HK0 := Qc (Qx.one w 45 (rcA r (.slice e1 r.ts.length cap1) (.slice e2 r.ds.length cap2)))
  have HF : Hid (¬ r.right -> q = false) := fun h => by
    cases q
    · rfl
    · exact absurd (Hq.out.1 rfl) h
  have HT : Hid (r.right -> q = true) := fun h => Hq.out.2 h
  have HOW := Qc (fun w => Qcn r.k w false (Qc (decide_eq_false (by omega)))); rw [hk] at HOW; by_cases l1 : (r.l : Int) < 1
  case pos =>
    obtain rfl := HF.out (fun h => by have := h.l1; omega); clear HF HT Hq HFI HIN; obtain ⟨c0, c1, -⟩ := Qda HK0.out.1.1; rw [hk] at c0; have hb0 := HK0.out.2; clear HK0 HOW; go_enter Try.func32, Try.ntmps32; go_wp2; go_ret; exact ⟨rfl, hb0⟩
  by_cases l2 : (4611686018427387904 : Int) < (r.l : Int)
  case pos =>
    obtain rfl := HF.out (fun h => by have := h.lm; unfold Qve at this; omega); clear HF HT Hq HFI HIN; obtain ⟨c0, c1, -⟩ := Qda HK0.out.1.1; rw [hk] at c0; have hb0 := HK0.out.2; clear HK0 HOW; go_enter Try.func32, Try.ntmps32; go_wp2; go_ret; exact ⟨rfl, hb0⟩
  obtain ⟨c0, c1, -⟩ := Qda HK0.out.1.1; rw [hk] at c0; go_enter Try.func32, Try.ntmps32; go_wp2_with fail; refine Qwa (fun x => Hid (Qx w x [(w.heap.size, 45, rcA r (.slice e1 r.ts.length cap1) (.slice e2 r.ds.length cap2))])) HK0 ?_; clear HK0 c0 c1; intro w0 HK0; obtain ⟨c0, c1, c2, c3, c9, c10, c11, c12, c13⟩ := Qda HK0.out.1.1; rw [hk] at c0; have hb0 := HK0.out.2; refine (HOW.out _).mono ?_; rintro e w1 ⟨rfl, rfl⟩; go_wp2_with fail; refine (HOW.out _).mono ?_; rintro e w1 ⟨rfl, rfl⟩; clear HOW; by_cases t1 : ¬ r.t = 0
  case pos =>
    obtain rfl := HF.out (fun h => t1 (h.none (by omega)).1); have t1e : (r.t == 0) = false := by rw [beq_eq_false_iff_ne]; exact t1
    have t1f : (r.t != 0) = true := by rw [bne, t1e]; rfl
    clear HF HT Hq HFI HIN; clear HK0 c9 c10 c11 c12 c13; go_wp2; go_ret; exact ⟨rfl, hb0⟩
  have t1e : r.t = 0 := Decidable.of_not_not t1; by_cases p1 : ¬ (r.p : Int) = 0
  case pos =>
    obtain rfl := HF.out (fun h => by have := h.none (by omega); omega); have p1e : ((r.p : Int) == 0) = false := by rw [beq_eq_false_iff_ne]; exact p1
    have p1f : ((r.p : Int) != 0) = true := by rw [bne, p1e]; rfl
    clear HF HT Hq HFI HIN; clear HK0 c9 c10 c11 c12 c13; go_wp2; go_ret; exact ⟨rfl, hb0⟩
  have p1e : (r.p : Int) = 0 := Decidable.of_not_not p1; obtain ⟨d4, d5, d6, d7, d8⟩ := Qbg HK0.out.1.1; by_cases f1 : r.c.k = 0
  case neg =>
    obtain rfl := HF.out (fun h => f1 (by rw [h.noch (by omega)]; rfl)); clear HF HT Hq HFI HIN HK0; go_wp2; go_ret; exact ⟨rfl, hb0⟩
  by_cases f2 : r.c.pg = 0
  case neg =>
    obtain rfl := HF.out (fun h => f2 (by rw [h.noch (by omega)]; rfl)); clear HF HT Hq HFI HIN HK0; go_wp2; go_ret; exact ⟨rfl, hb0⟩
  by_cases f3 : r.c.sl = 0
  case neg =>
    obtain rfl := HF.out (fun h => f3 (by rw [h.noch (by omega)]; rfl)); clear HF HT Hq HFI HIN HK0; go_wp2; go_ret; exact ⟨rfl, hb0⟩
  by_cases f4 : r.c.o.toList = []
  case neg =>
    obtain rfl := HF.out (fun h => f4 (by rw [h.noch (by omega)]; exact Qse)); clear HF HT Hq HFI HIN HK0; go_wp2; go_ret; exact ⟨rfl, hb0⟩
  by_cases f5 : r.c.n.toList = []
  case neg =>
    obtain rfl := HF.out (fun h => f5 (by rw [h.noch (by omega)]; exact Qse)); clear HF HT Hq HFI HIN HK0; go_wp2; go_ret; exact ⟨rfl, hb0⟩
  have HCC := Qc (Qmr r.c f1 f2 f3 f4 f5); by_cases n1 : ¬ (r.n : Int) = 0
  case pos =>
    obtain rfl := HF.out (fun h => by have := h.nonext (by omega); omega); have n1e : ((r.n : Int) == 0) = false := by rw [beq_eq_false_iff_ne]; exact n1
    have n1f : ((r.n : Int) != 0) = true := by rw [bne, n1e]; rfl
    clear HF HT Hq HFI HIN; go_wp2; go_ret; exact ⟨rfl, hb0⟩
  have n1e : (r.n : Int) = 0 := Decidable.of_not_not n1; by_cases s1 : ¬ r.s = 0
  case pos =>
    obtain rfl := HF.out (fun h => s1 (h.nosave (by omega))); have s1e : (r.s == 0) = false := by rw [beq_eq_false_iff_ne]; exact s1
    have s1f : (r.s != 0) = true := by rw [bne, s1e]; rfl
    clear HF HT Hq HFI HIN; go_wp2; go_ret; exact ⟨rfl, hb0⟩
  have s1e : r.s = 0 := Decidable.of_not_not s1; have HRW := Qc (fun w hin => rows_at r (.slice e1 r.ts.length cap1) (.slice e2 r.ds.length cap2) w q (Qc ⟨fun h => (Hq.out.1 h).check hk, fun h => HT.out ⟨by omega, by omega, by omega, by unfold Qve; omega, fun h => absurd h (by omega), fun _ => ⟨by omega, by omega⟩, fun h => absurd h (by omega), fun _ => HCC.out, fun h => absurd h (by omega), fun _ => by omega, fun h => absurd h (by omega), fun _ => by omega, fun _ => h, fun h2 => absurd hk h2⟩⟩) hin); clear HF HT Hq HFI HCC
  have hA : rcA r (.slice e1 r.ts.length cap1) (.slice e2 r.ds.length cap2) = #[.int .i64 8, .int .u64 (r.l : Int), .int .i64 0, .int .u64 0, .int .i64 0, .int .i64 0, .int .i64 0, .string r.c.o, .string r.c.n, .int .u64 0, .int .i64 0, .int .u64 (r.b : Int), .slice e1 r.ts.length cap1, .slice e2 r.ds.length cap2] := by
    unfold rcA; rw [hk, t1e, p1e, f1, f2, f3, n1e, s1e]
  rw [hA] at HRW; clear hA; go_wp2_with fail; refine (HRW.out _ (HIN.out.below HK0.out.2)).mono ?_; rintro e w2 ⟨rfl, hb2⟩; have d2 := hb0.trans (hb2.mono hb0.size); clear hb2 HK0 HIN c0 c1 c2 c3 c9 c10 c11 c12 c13; go_wp2; go_ret; exact ⟨rfl, d2⟩
theorem Qiz (r : Rec) (va vb : Value) (w : World) (hk : r.k < 1 ∨ 8 < r.k) :
    Calls Try.prog 32 #[.agg (rcA r va vb)] w fun e w' => e = .returned (.bool false) /\ Below w.heap.size w w' := by
  have HK0 := Qc (Qx.one w 45 (rcA r va vb)); obtain ⟨c0, -⟩ := Qda HK0.out.1.1; have hb0 := HK0.out.2; clear HK0; generalize r.k = k at *
  by_cases h1 : k < 1
  · clear hk; go_enter Try.func32, Try.ntmps32; go_wp2; go_ret; exact ⟨rfl, hb0⟩
  · have h8 : 8 < k := by omega
    clear hk; go_enter Try.func32, Try.ntmps32; go_wp2; go_ret; exact ⟨rfl, hb0⟩
theorem Qvv (r : Rec) (va vb : Value) (w : World) (hf : r.c.fits) (hin : Qcd w r va vb) :
    Calls Try.prog 32 #[.agg (rcA r va vb)] w fun e w' => e = .returned (.bool r.rightB) /\ Below w.heap.size w w' := by
  by_cases hk : r.k < 1 ∨ 8 < r.k
  · rw [Qck (fun h => by have := h.k1; have := h.k8; omega)]; exact Qiz r va vb w hk
  · have hq : Hid (r.rightB = true ↔ r.right) := Qbi
    by_cases h1 : r.k = 1
    · exact rright6_1 r va vb w _ hq h1 hf hin
    by_cases h2 : r.k = 2
    · exact rright6_2 r va vb w _ hq h2 hf hin
    by_cases h5 : r.k <= 5
    · exact Qav r va vb w _ hq (by omega) h5 hf hin
    by_cases h6 : r.k = 6
    · exact rright6_6 r va vb w _ hq h6 hf hin
    by_cases h7 : r.k = 7
    · exact rright6_7 r va vb w _ hq h7 hf hin
    exact rright6_8 r va vb w _ hq (by omega) hf hin
theorem rgood15 (v : Value) (ms : List (Rec × Value × Value)) (w : World) (h : LogIn w v ms) :
    Calls Try.prog 27 #[v] w fun e w' => e = .returned (.bool (Qjg 0 (msR ms))) /\ Below w.heap.size w w' := by
  obtain ⟨q, hq⟩ : ∃ q, q = Qjg 0 (msR ms) := ⟨_, rfl⟩; have HQ : Hid (q = true ↔ Qmb 0 (msR ms)) := by rw [hq]; exact Qra _ _
  rw [<- hq]; clear hq; have HA := Qc h; obtain ⟨aa, ca, rfl, hlc⟩ := h.slice; have hl := h.few; clear h; obtain ⟨ln, hln⟩ : ∃ ln, ln = ms.length := ⟨_, rfl⟩; rw [<- hln] at HA hl hlc |-; have HN := Qc hln; clear hln; go_enter Try.func27, Try.ntmps27; go_wp2; go_loopw [3, 7] (fun v i wr => ∃ (j ll : Nat), j <= ln /\ i = .int .i64 (j : Int) /\ v = .int .u64 (ll : Int) /\ ll < 18446744073709551616 /\ Hid (ll = Qwb 0 ((msR ms).take j)) /\ Hid (Qmb 0 ((msR ms).take j)) /\ Hid (Below w.heap.size w wr)) (fun _ i _ => ln - (intOf i).toNat)
  case atStart => exact ⟨0, 0, Nat.zero_le _, rfl, rfl, by decide, by rw [List.take_zero]; rfl, by rw [List.take_zero]; trivial, Below.refl _ _⟩
  case round =>
    obtain ⟨j, ll, hj, rfl, rfl, hll, HLL, HRI, HBR⟩ := hrel
    by_cases hlt : j < ln
    · have hjm : j < ms.length := by rw [<- HN.out]; exact hlt
      have HS := Qc (Qvd hjm); obtain ⟨b, off, rfl, hf, _, hx⟩ := HA.out.mid hjm; obtain ⟨m, hm⟩ : ∃ m, m = ms.getD j rcZ := ⟨_, rfl⟩; rw [<- hm] at hf hx HS; clear hm; have ij : (j : Int) < (ln : Int) := by omega
      obtain ⟨hr0, hin⟩ := hx wr HBR.out; have HLD := Qc (Qug wr b (off + j * 14) m hr0); have HR := Qc (Qvv m.1 m.2.1 m.2.2 wr hf.c hin); have HFX := Qc hx; clear hr0 hf hx hin
      have ex : ∀ P : Prop, ¬ P -> (q = true -> P) -> q = false := fun P h1 h2 => by
        cases hq : q
        · rfl
        · exact absurd (h2 hq) h1
      by_cases hr : m.1.right
      · rw [Qdi hr] at HR; have hrl : m.1.l < 18446744073709551616 := by have := hr.lm; unfold Qve at this; omega
        have HRR := Qc hr; clear hr; go_wp2_with (refine Qo rfl 45 (.tmp 12) rfl _ _ rfl HLD.out ?_); refine HR.out.mono ?_; rintro e w1 ⟨rfl, hb1⟩; have HB1 := Qc (HBR.out.trans (hb1.mono HBR.out.size)); have k1 : w1.cell? ⟨b, off + j * 14 + 1, none⟩ = some (.int .u64 (m.1.l : Int)) := (HFX.out w1 HB1.out).1 1 _ rfl; clear hb1 HBR HR HLD
        by_cases hle : m.1.l <= ll
        · have ile : (m.1.l : Int) <= (ll : Int) := by omega
          go_wp2; go_ret; refine ⟨?_, HB1.out⟩
          rw [ex (Qmb 0 (msR ms)) (fun h1 => by
            have h1 := Qkj _ (j + 1) h1; rw [HS.out, Qld, <- HLL.out] at h1
            omega) HQ.out.1]
          rfl
        · have ile : ¬ (m.1.l : Int) <= (ll : Int) := by omega
          go_wp2; go_roundw
          case rel =>
            refine ⟨j + 1, m.1.l, by omega, by go_num, rfl, hrl, ?_, ?_, HB1⟩
            · rw [HS.out, Qzj]; exact rfl
            · rw [HS.out, Qld, <- HLL.out]; exact ⟨HRI.out, HRR.out, by omega⟩
          case measure => simp [intOf]; omega
      · rw [Qck hr] at HR; have HRR := Qc hr; clear hr; go_wp2_with (refine Qo rfl 45 (.tmp 12) rfl _ _ rfl HLD.out ?_); refine HR.out.mono ?_; rintro e w1 ⟨rfl, hb1⟩; have HB1 := Qc (HBR.out.trans (hb1.mono HBR.out.size)); clear hb1 HBR HR HLD; go_wp2; go_ret; refine ⟨?_, HB1.out⟩
        rw [ex (Qmb 0 (msR ms)) (fun h1 => by
          have h1 := Qkj _ (j + 1) h1; rw [HS.out, Qld] at h1
          exact HRR.out h1.2.1) HQ.out.1]
        rfl
    · obtain rfl : j = ln := by omega
      go_wp2; go_ret; refine ⟨?_, HBR.out⟩; have h1 := HRI.out; rw [HN.out, <- Qeb, List.take_length] at h1; rw [HQ.out.2 h1]; rfl
def Qtea (w : World) (rss : List (List Rec)) (e : Ending) (w' : World) : Prop :=
  (8 < rss.length /\ e = .returned (.tuple #[.slice none 0 0, .int .i64 1]) ∨
    rss.length <= 8 /\ (¬ ∀ l ∈ rss, Qmb 0 l) /\ e = .returned (.tuple #[.slice none 0 0, .int .i64 2]) ∨
    rss.length <= 8 /\ (∀ l ∈ rss, Qmb 0 l) /\ ∃ v' out, e = .returned (.tuple #[v', .int .i64 0]) /\ OwS w' w.heap.size v' out /\ smS out = Qqca rss /\ ∀ s ∈ out, Qgea w' s) /\ Below w.heap.size w w'
theorem Qiea {w : World} {s : Sm} (h : Qgea w s) : SmSl s := by
  obtain ⟨⟨a, c, h1⟩, a2, c2, h2⟩ := Qxl h.2; exact ⟨⟨a, _, c, h1⟩, a2, _, c2, h2⟩
theorem rall17 (w : World) (v : Value) (us : List Lu) (hl : LgIn w v us) : Calls Try.prog 12 #[v] w (Qtea w (Qlba us)) := by
  obtain ⟨au, cu, rfl⟩ := hl.slice; have HL := Qc hl; obtain ⟨n, hn⟩ : ∃ n, n = us.length := ⟨_, rfl⟩; rw [<- hn] at HL |-; have HN := Qc hn; have HRL : Hid ((Qlba us).length = n) := by show _ = _; rw [Qlda, hn]
  obtain ⟨B, hB⟩ : ∃ B, B = w.heap.size := ⟨_, rfl⟩; have HB := Qc hB
  by_cases h8 : 8 < n
  · have i1 : (n : Int) > 8 := by omega
    clear hl hn hB HB HL HN; go_enter Try.func12, Try.ntmps12; go_wp2; go_ret2; exact ⟨.inl ⟨by rw [HRL.out]; exact h8, rfl⟩, Below.refl _ _⟩
  · have i1 : ¬ (n : Int) > 8 := by omega
    clear hl hn hB; go_enter Try.func12, Try.ntmps12; go_wp2; go_loopw [13] (fun vi wr => ∃ j : Nat, j <= n /\ vi = .int .i64 (j : Int) /\ Hid ((∀ l ∈ (Qlba us).take j, Qmb 0 l) /\ Below w.heap.size w wr)) (fun vi _ => n - (intOf vi).toNat)
    case atStart => exact ⟨0, Nat.zero_le _, rfl, fun l hl => (nomatch hl), Below.refl _ _⟩
    case round =>
      obtain ⟨j, hj, rfl, HI⟩ := hrel; have j9 : j <= 8 := by omega
      by_cases hlt : j < n
      · have i2 : (j : Int) < (n : Int) := by omega
        have hju : j < us.length := by rw [<- HN.out]; exact hlt
        have hjr : j < (Qlba us).length := by rw [HRL.out]; exact hlt
        obtain ⟨b, off, rfl, hok, hcl⟩ := HL.out.at hju; have c0 := hcl wr HI.out.2
        have HTK : Hid ((Qlba us).take (j + 1) = (Qlba us).take j ++ [(Qlba us).getD j []]) := by
          show _ = _; rw [List.take_succ_eq_append_getElem hjr, List.getD_eq_getElem?_getD, List.getElem?_eq_getElem hjr]; rfl
        have HMJ := Qc (Qua (Qlba us) j [] hjr); rw [Qoda] at HTK HMJ; obtain ⟨⟨u, ms⟩, huu⟩ : ∃ u, u = us.getD j luZ := ⟨_, rfl⟩; rw [<- huu] at hok c0 HTK HMJ; have hok1 : LogIn w u ms := hok.1; obtain ⟨a2, c2, rfl, _⟩ := hok1.slice; have c1 : wr.cell? ⟨b, off + j, none⟩ = some (.slice a2 ms.length c2) := c0; have HGO := Qc (rgood15 _ ms wr (hok1.below HI.out.2)); obtain ⟨lm, hlm⟩ : ∃ l, l = ms.length := ⟨_, rfl⟩; rw [<- hlm] at c1 HGO; have HQ := Qc (Qra (msR ms) 0); obtain ⟨q, hq⟩ : ∃ q, q = Qjg 0 (msR ms) := ⟨_, rfl⟩; rw [<- hq] at HGO HQ; clear hju hjr hcl huu hok c0 hok1 hlm hq; go_wp2_with fail; refine HGO.out.mono ?_; rintro e w1 ⟨rfl, hb1⟩; have H1 := Qc (HI.out.2.trans (hb1.mono HI.out.2.size)); clear hb1 c1 HGO
        cases q with
        | false =>
          have HNO : Hid (¬ ∀ l ∈ Qlba us, Qmb 0 l) := fun hall => absurd (HQ.out.2 (hall _ HMJ.out)) (by simp)
          go_wp2; go_ret2; exact ⟨.inr (.inl ⟨by rw [HRL.out]; omega, HNO.out, rfl⟩), H1.out⟩
        | true =>
          have HNX : Hid ((∀ l ∈ (Qlba us).take (j + 1), Qmb 0 l) /\ Below w.heap.size w w1) := ⟨fun l hl => by
            rw [HTK.out] at hl
            rcases List.mem_append.1 hl with hl | hl
            · exact HI.out.1 l hl
            · rw [List.mem_singleton.1 hl]
              exact HQ.out.1 (by simp), H1.out⟩
          clear HQ HMJ HTK HI H1; go_wp2; go_roundw
          case rel => exact ⟨j + 1, by omega, by go_num, HNX⟩
          case measure => simp [intOf] <;> omega
      · have i2 : ¬ (j : Int) < (n : Int) := by omega
        have hjn : j = n := by omega
        have HRI : Hid (∀ l ∈ Qlba us, Qmb 0 l) := fun l hl => HI.out.1 l (by rw [List.take_of_length_le (by rw [HRL.out, hjn]; exact Nat.le_refl _)]; exact hl)
        have HB0 := Qc HI.out.2; have H0 : Hid (OwS wr B (.slice none 0 0) [] /\ smS [] = Quba (Qmea ((Qlba us).take 0)) /\ (∀ s ∈ ([] : List Sm), Qgea w s) /\ ([] : List Sm).length <= 0 * 1000 /\ Below w.heap.size w wr) := ⟨Quea _ _, rfl, fun s hs => (nomatch hs), Nat.zero_le _, HB0.out⟩; clear HI hjn; go_wp2; go_loopw [4, 25] (fun va vi wr => ∃ (j : Nat) (out : List Sm), j <= n /\ vi = .int .i64 (j : Int) /\ Hid (OwS wr B va out /\ smS out = Quba (Qmea ((Qlba us).take j)) /\ (∀ s ∈ out, Qgea w s) /\ out.length <= j * 1000 /\ Below w.heap.size w wr)) (fun _ vi _ => n - (intOf vi).toNat)
        case atStart => exact ⟨0, [], Nat.zero_le _, rfl, H0⟩
        case round =>
          obtain ⟨j, out, hj, rfl, HI⟩ := hrel; clear H0; have j9 : j <= 8 := by omega
          obtain ⟨ao, co, hva, _⟩ := HI.out.1.slice; subst hva
          by_cases hlt : j < n
          · have i3 : (j : Int) < (n : Int) := by omega
            have hju : j < us.length := by rw [<- HN.out]; exact hlt
            have hjr : j < (Qlba us).length := by rw [HRL.out]; exact hlt
            obtain ⟨b, off, rfl, hok, hcl⟩ := HL.out.at hju; have HTS := Qc (Qoea hjr); rw [Qoda] at HTS; obtain ⟨⟨u, ms⟩, huu⟩ : ∃ u, u = us.getD j luZ := ⟨_, rfl⟩; rw [<- huu] at hok hcl HTS; have hok1 : LogIn w u ms := hok.1; have hmf := hok1.few; obtain ⟨a2, c2, rfl, _⟩ := hok1.slice; have HC : Hid (∀ y, Below w.heap.size w y -> y.cell? ⟨b, off + j, none⟩ = some (.slice a2 ms.length c2)) := hcl; have c1 := HC.out wr HI.out.2.2.2.2; have HLG := Qc hok1; obtain ⟨lm, hlm⟩ : ∃ l, l = ms.length := ⟨_, rfl⟩; rw [<- hlm] at c1 HC HLG hmf; have HLM := Qc hlm; have HS0 : Hid (OwS wr B (.slice ao out.length co) out /\ smS out = Quba (Qmea ((Qlba us).take j) ++ tag (j : Int) ((msR ms).take 0)) /\ (∀ s ∈ out, Qgea w s) /\ out.length <= j * 1000 + 0 /\ Below w.heap.size w wr) := ⟨HI.out.1, by rw [List.take_zero]; show _ = Quba (_ ++ []); rw [List.append_nil]; exact HI.out.2.1, HI.out.2.2.1, HI.out.2.2.2.1, HI.out.2.2.2.2⟩; clear hju hjr hcl huu hok hok1 hlm HI; go_wp2; clear c1; go_loopw [4, 33] (fun va vi wr => ∃ (i : Nat) (out : List Sm), i <= lm /\ vi = .int .i64 (i : Int) /\ Hid (OwS wr B va out /\ smS out = Quba (Qmea ((Qlba us).take j) ++ tag (j : Int) ((msR ms).take i)) /\ (∀ s ∈ out, Qgea w s) /\ out.length <= j * 1000 + i /\ Below w.heap.size w wr)) (fun _ vi _ => lm - (intOf vi).toNat)
            case atStart => exact ⟨0, out, Nat.zero_le _, rfl, HS0⟩
            case round =>
              obtain ⟨i, out2, hi, rfl, HJ⟩ := hrel; clear HS0; obtain ⟨ao2, co2, hva2, _⟩ := HJ.out.1.slice; subst hva2
              by_cases hlt2 : i < lm
              · have i4 : (i : Int) < (lm : Int) := by omega
                have him : i < ms.length := by rw [<- HLM.out]; exact hlt2
                have hir : i < (msR ms).length := by rw [Qeb]; exact him
                obtain ⟨b2, off2, rfl, hft, hre, hx⟩ := HLG.out.mid him; have HTG := Qc (Qyea (n := (j : Int)) hir); rw [<- hre] at HTG; have hO9 : out2.length <= 90000 := by have := HJ.out.2.2.2.1; omega
                obtain ⟨hr0, hin⟩ := hx wr HJ.out.2.2.2.2; have hin0 := (hx w (Below.refl _ _)).2; obtain ⟨⟨r, va, vb⟩, hm⟩ : ∃ m, m = ms.getD i rcZ := ⟨_, rfl⟩; rw [<- hm] at hft hr0 hin hin0 HTG; obtain ⟨⟨x1, y1, hs1⟩, x2, y2, hs2⟩ := Qxl hin; have hs1' : va = .slice x1 r.ts.length y1 := hs1; have hs2' : vb = .slice x2 r.ds.length y2 := hs2; subst hs1' hs2'; have HOK : Hid (Qgea w ((j : Int), r, .slice x1 r.ts.length y1, .slice x2 r.ds.length y2)) := ⟨hft, hin0⟩; have HLD0 := Qc (Qug wr b2 (off2 + i * 14) (r, .slice x1 r.ts.length y1, .slice x2 r.ds.length y2) hr0); have hBy : B <= wr.heap.size := by rw [HB.out]; exact HJ.out.2.2.2.2.size
                have HIN0 := Qc (ins17 wr B (.slice ao2 out2.length co2) out2 ((j : Int), r, .slice x1 r.ts.length y1, .slice x2 r.ds.length y2) HJ.out.1 (Qiea HOK.out) (fun s hs => Qiea (HJ.out.2.2.1 s hs)) hO9 hBy); have c3 := HC.out wr HJ.out.2.2.2.2; have HTS2 := Qc HTG.out; obtain ⟨l1, hl1⟩ : ∃ l, l = r.ts.length := ⟨_, rfl⟩; obtain ⟨l2, hl2⟩ : ∃ l, l = r.ds.length := ⟨_, rfl⟩; rw [<- hl1, <- hl2] at HLD0 HOK HIN0; have HLD : Hid ((Instr.loadAt 45 (.pointer (some ⟨b2, off2 + i * 14, none⟩))).run Try.prog wr = .ok (.agg #[.int .i64 r.k, .int .u64 (r.l : Int), .int .i64 r.t, .int .u64 (r.p : Int), .int .i64 r.c.k, .int .i64 r.c.pg, .int .i64 r.c.sl, .string r.c.o, .string r.c.n, .int .u64 (r.n : Int), .int .i64 r.s, .int .u64 (r.b : Int), .slice x1 l1 y1, .slice x2 l2 y2]) wr) := HLD0.out; have HIN : Hid (Calls Try.prog 28 #[.slice ao2 out2.length co2, .agg #[.int .i64 (j : Int), .int .i64 r.k, .int .u64 (r.l : Int), .int .i64 r.t, .int .u64 (r.p : Int), .int .i64 r.c.k, .int .i64 r.c.pg, .int .i64 r.c.sl, .string r.c.o, .string r.c.n, .int .u64 (r.n : Int), .int .i64 r.s, .int .u64 (r.b : Int), .slice x1 l1 y1, .slice x2 l2 y2]] wr (InAns wr B out2 ((j : Int), r, .slice x1 l1 y1, .slice x2 l2 y2))) := HIN0.out; clear him hir hft hre hx hr0 hin hin0 hm hs1 hs2 hl1 hl2 HLD0 HIN0 HTG hO9; go_wp2_with (refine Qo rfl 45 (.tmp 43) rfl _ (.agg #[.int .i64 r.k, .int .u64 (r.l : Int), .int .i64 r.t, .int .u64 (r.p : Int), .int .i64 r.c.k, .int .i64 r.c.pg, .int .i64 r.c.sl, .string r.c.o, .string r.c.n, .int .u64 (r.n : Int), .int .i64 r.s, .int .u64 (r.b : Int), .slice x1 l1 y1, .slice x2 l2 y2]) rfl HLD.out ?_); refine HIN.out.mono ?_; rintro e w9 ⟨v', rfl, hown, hb9⟩; obtain ⟨ao3, co3, rfl, _⟩ := hown.slice
                have H9 : Hid (OwS w9 B (.slice ao3 (Qqea out2 ((j : Int), r, .slice x1 l1 y1, .slice x2 l2 y2)).length co3) (Qqea out2 ((j : Int), r, .slice x1 l1 y1, .slice x2 l2 y2)) /\ smS (Qqea out2 ((j : Int), r, .slice x1 l1 y1, .slice x2 l2 y2)) = Quba (Qmea ((Qlba us).take j) ++ tag (j : Int) ((msR ms).take (i + 1))) /\ (∀ s ∈ Qqea out2 ((j : Int), r, .slice x1 l1 y1, .slice x2 l2 y2), Qgea w s) /\ (Qqea out2 ((j : Int), r, .slice x1 l1 y1, .slice x2 l2 y2)).length <= j * 1000 + (i + 1) /\ Below w.heap.size w w9) := by
                  refine ⟨hown, ?_, fun s hs => ?_, ?_, HJ.out.2.2.2.2.trans (by rw [<- HB.out]; exact hb9)⟩
                  · rw [insM_S, HJ.out.2.1, HTS2.out, <- List.append_assoc, Qjca]
                  · rcases insM_mem hs with rfl | hs
                    · exact HOK.out
                    · exact HJ.out.2.2.1 s hs
                  · rw [insM_len]; have := HJ.out.2.2.2.1; omega
                clear hown hb9 HJ HIN HLD HTS2 HOK c3 hBy; generalize Qqea out2 ((j : Int), r, .slice x1 l1 y1, .slice x2 l2 y2) = out3 at H9 |-; go_wp2; go_roundw
                case rel => exact ⟨i + 1, out3, by omega, by go_num, H9⟩
                case measure => simp [intOf] <;> omega
              · have i4 : ¬ (i : Int) < (lm : Int) := by omega
                have HE : Hid (OwS wr B (.slice ao2 out2.length co2) out2 /\ smS out2 = Quba (Qmea ((Qlba us).take (j + 1))) /\ (∀ s ∈ out2, Qgea w s) /\ out2.length <= (j + 1) * 1000 /\ Below w.heap.size w wr) := by
                  have h := HJ.out; have e : (msR ms).take i = msR ms := List.take_of_length_le (by rw [Qeb, <- HLM.out]; omega); rw [e] at h; refine ⟨h.1, ?_, h.2.2.1, by have := h.2.2.2.1; omega, h.2.2.2.2⟩; rw [HTS.out]; exact h.2.1
                clear HJ HTS; go_wp2; go_roundw
                case rel => exact ⟨j + 1, out2, by omega, by go_num, HE⟩
                case measure => simp [intOf] <;> omega
          · have i3 : ¬ (j : Int) < (n : Int) := by omega
            have HE : Hid (OwS wr B (.slice ao out.length co) out /\ smS out = Qqca (Qlba us) /\ (∀ s ∈ out, Qgea w s) /\ Below w.heap.size w wr) := by
              have h := HI.out; rw [List.take_of_length_le (by rw [HRL.out]; omega)] at h; exact ⟨h.1, h.2.1, h.2.2.1, h.2.2.2.2⟩
            clear HI; go_wp2; go_ret2; refine ⟨.inr (.inr ⟨by rw [HRL.out]; omega, HRI.out, _, out, rfl, by rw [<- HB.out]; exact HE.out.1, HE.out.2.1, fun s hs => (HE.out.2.2.1 s hs).below HE.out.2.2.2⟩), HE.out.2.2.2⟩
def Qwea (w : World) (u : Lu) : Prop := RsIn w u.1 u.2 /\ u.2.length <= maxLen /\ ∀ a l c, u.1 = .slice a l c -> l <= c
def Qqda (w : World) (v : Value) (us : List Lu) : Prop := Qte (fun u => #[u.1]) luZ 1 w v us /\ ∀ u ∈ us, Qwea w u
theorem Qwea.below {w x : World} {u : Lu} (h : Qwea w u) (hb : Below w.heap.size w x) : Qwea x u := ⟨h.1.below hb, h.2⟩
theorem Qqda.below {w x : World} {v : Value} {us : List Lu} (h : Qqda w v us) (hb : Below w.heap.size w x) : Qqda x v us := ⟨h.1.below hb, fun u hu => (h.2 u hu).below hb⟩
theorem Qqda.at {w : World} {a : Option Addr} {n c : Nat} {us : List Lu} (h : Qqda w (.slice a n c) us) {i : Nat} (hi : i < us.length) : ∃ b off, a = some ⟨b, off, none⟩ /\ Qwea w (us.getD i luZ) /\ w.cell? ⟨b, off + i, none⟩ = some (us.getD i luZ).1 := by
  obtain ⟨⟨a', c', e, h2⟩, h3⟩ := h; injection e with e1 e2 e3; subst e1; obtain ⟨b, off, e4, hb, hr⟩ := h2 (by omega); refine ⟨b, off, e4, h3 _ (Qua us i luZ hi), ?_⟩; have h5 := hr i hi 0 _ rfl; rw [Nat.mul_one, Nat.add_zero] at h5; exact h5
def fewRs (ms : List (Rec × Value × Value)) : Prop := ms.length <= 300 /\ ∀ i, i < ms.length -> (ms.getD i rcZ).1.ts.length <= 40 /\ (ms.getD i rcZ).1.ds.length <= 40
def Qxda (us : List Lu) : Prop := us.length <= 20 /\ ∀ i, i < us.length -> fewRs (us.getD i luZ).2
theorem Qqda.few {w : World} {v : Value} {us : List Lu} (h : Qqda w v us) (hf : Qxda us) : LgIn w v us := by
  refine ⟨h.1, fun u hu => ?_⟩; obtain ⟨i, hi, rfl⟩ := Qwca luZ hu; have h1 := h.2 _ hu; have h2 := hf.2 i hi; have h3 := h2.1; refine ⟨⟨h1.1, by omega, h1.2.2⟩, fun m hm => ?_⟩; obtain ⟨k, hk, rfl⟩ := Qwca rcZ hm; have h4 := h2.2 k hk; exact ⟨by have : reachBytes = 140737488351232 := rfl; omega, by have : reachBytes = 140737488351232 := rfl; omega⟩
theorem few17 (w : World) (v : Value) (us : List Lu) (q : Bool) (HQ : Hid (q = true ↔ Qxda us)) (hr : Qqda w v us) (hl : us.length <= maxLen) :
    Calls Try.prog 10 #[v] w fun e w' => e = .returned (.bool q) /\ w' = w := by
  obtain ⟨au, cu, rfl, _⟩ := id hr.1; have hmx : us.length <= 9223372036854775807 := by unfold maxLen at hl; omega
  obtain ⟨n, hn⟩ : ∃ k, k = us.length := ⟨_, rfl⟩; rw [<- hn] at hmx hr |-; have HR := Qc hr; have HN := Qc hn; clear hr hl hn
  by_cases h20 : n <= 20
  · have i3 : ¬ (20 : Int) < (n : Int) := by omega
    go_enter Try.func10, Try.ntmps10; go_wp2; go_loopw [10] (fun i wr => ∃ j : Nat, j <= n /\ i = .int .i64 (j : Int) /\ Hid (w = wr /\ ∀ k, k < j -> fewRs (us.getD k luZ).2)) (fun i _ => n - (intOf i).toNat)
    case atStart => exact ⟨0, Nat.zero_le _, rfl, rfl, fun k hk => absurd hk (by omega)⟩
    case round =>
      obtain ⟨j, hj, rfl, HJ⟩ := hrel
      by_cases hlt : j < n
      · have i5 : (j : Int) < (n : Int) := by omega
        have hjm : j < us.length := by rw [<- HN.out]; exact hlt
        obtain ⟨rfl, hall⟩ := HJ.out; have HALL := Qc hall; obtain ⟨b, off, rfl, hua, c0⟩ := HR.out.at hjm; obtain ⟨⟨u, ms⟩, hu⟩ : ∃ u, u = us.getD j luZ := ⟨_, rfl⟩; have HU := Qc hu; rw [<- hu] at hua c0; have hrs : RsIn w u ms := hua.1; have hml : ms.length <= maxLen := hua.2.1; obtain ⟨a2, c2, rfl, _⟩ := id hrs.1; have c1 : w.cell? ⟨b, off + j, none⟩ = some (.slice a2 ms.length c2) := c0; have HRS := Qc hrs; have hmx2 : ms.length <= 9223372036854775807 := by unfold maxLen at hml; omega
        have HNOT : Hid (¬ fewRs ms -> q = false) := fun hno => by
          cases q
          · rfl
          · have h := (HQ.out.1 rfl).2 j hjm; rw [<- HU.out] at h; exact absurd h hno
        obtain ⟨ln, hln⟩ : ∃ k, k = ms.length := ⟨_, rfl⟩; rw [<- hln] at c1 hmx2 HRS; have HLN := Qc hln; clear hjm hall hu hua c0 hrs hml hln HJ
        by_cases h300 : ln <= 300
        · have i6 : ¬ (300 : Int) < (ln : Int) := by omega
          go_wp2; go_loopw [24] (fun i wr => ∃ k : Nat, k <= ln /\ i = .int .i64 (k : Int) /\ Hid (w = wr /\ ∀ x, x < k -> (ms.getD x rcZ).1.ts.length <= 40 /\ (ms.getD x rcZ).1.ds.length <= 40)) (fun i _ => ln - (intOf i).toNat)
          case atStart => exact ⟨0, Nat.zero_le _, rfl, ⟨by first | rfl | trivial, fun k hk => absurd hk (by omega)⟩⟩
          case round =>
            obtain ⟨k, hk, rfl, HK⟩ := hrel; obtain ⟨rfl, hall2⟩ := HK.out; have HALL2 := Qc hall2
            by_cases hlt2 : k < ln
            · have i7 : (k : Int) < (ln : Int) := by omega
              have hkm : k < ms.length := by rw [<- HLN.out]; exact hlt2
              obtain ⟨b2, off2, rfl, hb2, hx, hft, hin⟩ := HRS.out.at hkm; have hsl := Qxl hin; obtain ⟨m, hm⟩ : ∃ m, m = ms.getD k rcZ := ⟨_, rfl⟩; have HM := Qc hm; rw [<- hm] at hx hsl hft; obtain ⟨⟨x1, y1, hs1⟩, x2, y2, hs2⟩ := hsl; have k12 := hx 12 m.2.1 rfl; have k13 := hx 13 m.2.2 rfl; rw [hs1] at k12; rw [hs2] at k13; have hb1 : m.1.ts.length <= 9223372036854775807 := by have := hft.tl; unfold maxLen at this; omega
              have hb3 : m.1.ds.length <= 9223372036854775807 := by have := hft.dl; unfold maxLen at this; omega
              clear hx hft hs1 hs2 hin hall2 hm hb2 HK
              by_cases h1 : m.1.ts.length <= 40
              · have i1 : ¬ (40 : Int) < (m.1.ts.length : Int) := by omega
                by_cases h2 : m.1.ds.length <= 40
                · have i2 : ¬ (40 : Int) < (m.1.ds.length : Int) := by omega
                  have HNX : Hid (∀ x, x < k + 1 -> (ms.getD x rcZ).1.ts.length <= 40 /\ (ms.getD x rcZ).1.ds.length <= 40) := fun x hx => by
                    by_cases e : x = k
                    · rw [e, <- HM.out]; exact ⟨h1, h2⟩
                    · exact HALL2.out x (by omega)
                  clear h1 h2 hkm; go_wp2; go_roundw
                  case rel => exact ⟨k + 1, by omega, by go_num, ⟨by first | rfl | trivial, HNX.out⟩⟩
                  case measure => simp [intOf] <;> omega
                · have i2 : (40 : Int) < (m.1.ds.length : Int) := by omega
                  obtain rfl : q = false := HNOT.out fun h => by
                    have h3 := (h.2 k hkm).2; rw [<- HM.out] at h3; omega
                  go_wp2; go_ret; exact ⟨rfl, by first | rfl | trivial⟩
              · have i1 : (40 : Int) < (m.1.ts.length : Int) := by omega
                obtain rfl : q = false := HNOT.out fun h => by
                  have h3 := (h.2 k hkm).1; rw [<- HM.out] at h3; omega
                go_wp2; go_ret; exact ⟨rfl, by first | rfl | trivial⟩
            · have i7 : ¬ (k : Int) < (ln : Int) := by omega
              have hkl : k = ln := by omega
              have HF : Hid (∀ x, x < j + 1 -> fewRs (us.getD x luZ).2) := fun x hx => by
                by_cases e : x = j
                · rw [e, <- HU.out]; exact ⟨by show ms.length <= 300; rw [<- HLN.out]; exact h300, fun i hi => HALL2.out i (by rw [hkl, HLN.out]; exact hi)⟩
                · exact HALL.out x (by omega)
              clear HK hall2 HALL2 HALL; go_wp2; go_roundw
              case rel => exact ⟨j + 1, by omega, by go_num, ⟨by first | rfl | trivial, HF.out⟩⟩
              case measure => simp [intOf] <;> omega
        · have i6 : (300 : Int) < (ln : Int) := by omega
          obtain rfl : q = false := HNOT.out fun h => by
            have h3 := h.1; rw [<- HLN.out] at h3; omega
          go_wp2; go_ret; exact ⟨rfl, by first | rfl | trivial⟩
      · have i5 : ¬ (j : Int) < (n : Int) := by omega
        have hjl : j = n := by omega
        obtain ⟨rfl, hall⟩ := HJ.out; have HP : Hid (Qxda us) := ⟨by rw [<- HN.out]; exact h20, fun i hi => hall i (by rw [hjl, HN.out]; exact hi)⟩; clear HJ hall; obtain rfl : q = true := HQ.out.2 HP.out; go_wp2; go_ret; exact ⟨rfl, by first | rfl | trivial⟩
  · have i3 : (20 : Int) < (n : Int) := by omega
    obtain rfl : q = false := by
      cases q
      · rfl
      · have h := (HQ.out.1 rfl).1; rw [<- HN.out] at h; omega
    go_enter Try.func10, Try.ntmps10; go_wp2; go_ret; exact ⟨rfl, rfl⟩
def Qhda (rss : List (List Rec)) (E : Int) (O : List Sd) : Prop :=
  8 < rss.length /\ E = 1 /\ O = [] ∨ rss.length <= 8 /\ (¬ ∀ l ∈ rss, Qmb 0 l) /\ E = 2 /\ O = [] ∨ rss.length <= 8 /\ (∀ l ∈ rss, Qmb 0 l) /\ E = 0 /\ O = Qqca rss
theorem Qhda.one {rss : List (List Rec)} {E E' : Int} {O O' : List Sd} (h : Qhda rss E O) (g : Qhda rss E' O') : E = E' /\ O = O' := by
  rcases h with ⟨a, b, c⟩ | ⟨a, a2, b, c⟩ | ⟨a, a2, b, c⟩ <;> rcases g with ⟨a', b', c'⟩ | ⟨a', a2', b', c'⟩ | ⟨a', a2', b', c'⟩
  all_goals first | omega | (exact absurd a2' a2) | (exact absurd a2 a2') | (subst b c b' c'; exact ⟨rfl, rfl⟩)
def AnsP (w : World) (E : Int) (O : List Sd) (e : Ending) (w' : World) : Prop := ∃ v out, e = .returned (.tuple #[v, .int .i64 E]) /\ Qfea w' v out /\ smS out = O /\ Below w.heap.size w w'
theorem Qhea (w : World) : Qfea w (.slice none 0 0) [] := ⟨⟨none, 0, rfl, fun h => absurd h (by show ¬ 0 < 0; omega)⟩, fun s hs => (nomatch hs)⟩
theorem AllAns.tells {w w' : World} {rss : List (List Rec)} {e : Ending} (h : AllAns w rss e w') : ∃ E O, Qhda rss E O /\ AnsP w E O e w' := by
  obtain ⟨⟨h1, h2⟩ | ⟨h1, h2, h3⟩ | ⟨h1, h2, v', out, h3, h4, h5, h6⟩, hb⟩ := h
  · exact ⟨1, [], .inl ⟨h1, rfl, rfl⟩, _, [], h2, Qhea _, rfl, hb⟩
  · exact ⟨2, [], .inr (.inl ⟨h1, h2, rfl, rfl⟩), _, [], h3, Qhea _, rfl, hb⟩
  · exact ⟨0, _, .inr (.inr ⟨h1, h2, rfl, rfl⟩), _, out, h3, Qzea h4 (fun s hs => (h6 s hs).ok), h5, hb⟩
theorem Qtea.tells {w w' : World} {rss : List (List Rec)} {e : Ending} (h : Qtea w rss e w') : ∃ E O, Qhda rss E O /\ AnsP w E O e w' := by
  obtain ⟨⟨h1, h2⟩ | ⟨h1, h2, h3⟩ | ⟨h1, h2, v', out, h3, h4, h5, h6⟩, hb⟩ := h
  · exact ⟨1, [], .inl ⟨h1, rfl, rfl⟩, _, [], h2, Qhea _, rfl, hb⟩
  · exact ⟨2, [], .inr (.inl ⟨h1, h2, rfl, rfl⟩), _, [], h3, Qhea _, rfl, hb⟩
  · exact ⟨0, _, .inr (.inr ⟨h1, h2, rfl, rfl⟩), _, out, h3, Qzea h4 h6, h5, hb⟩
theorem Qbfa : ∀ (us : List Lu) (k : Nat), (∀ u ∈ us, u.2.length <= 1000) -> (Qnba k (Qlba us)).length <= us.length * 1000
  | [], _, _ => Nat.zero_le _
  | u :: us, k, h => by
    have h1 := Qbfa us (k + 1) (fun x hx => h x (List.mem_cons_of_mem _ hx)); have h2 := h u (by simp); show (tag (k : Int) (msR u.2) ++ Qnba (k + 1) (Qlba us)).length <= _; rw [List.length_append, Qvea, Qeb, List.length_cons]; omega
theorem Qhda.few {us : List Lu} {E : Int} {O : List Sd} (h : Qhda (Qlba us) E O) (hu : ∀ u ∈ us, u.2.length <= 1000) : O.length <= 8000 := by
  rcases h with ⟨_, _, rfl⟩ | ⟨_, _, _, rfl⟩ | ⟨h1, _, _, rfl⟩
  · exact Nat.zero_le _
  · exact Nat.zero_le _
  · rw [Qlda] at h1; have h2 := (Qfda (Qlba us)).length_eq; have h3 := Qbfa us 0 hu; have h4 : (Qmea (Qlba us)).length <= us.length * 1000 := h3; omega
def Qtba (l : Nat) : Rec := ⟨3, l, 1, 0, Ch.zero, 0, 0, 0, [], []⟩
theorem Qjda {l : Nat} (h1 : 1 <= l) (h2 : l <= 100) : (Qtba l).right :=
  ⟨by show (1 : Int) <= 3; omega, by show (3 : Int) <= 8; omega, h1, by show l <= Qve; unfold Qve; omega, fun _ => ⟨by show (1 : Int) <= 1; omega, by show (1 : Int) <= _; omega, by show 0 < l; omega⟩, fun h => absurd h (by show ¬ (6 : Int) < 3; omega), fun h => absurd h (by show ¬ (3 : Int) <= 2; omega), fun _ => rfl, fun h => absurd h (by show ¬ (3 : Int) = 2; omega), fun _ => rfl, fun h => absurd h (by show ¬ (3 : Int) = 6; omega), fun _ => rfl, fun h => absurd h (by show ¬ (3 : Int) = 8; omega), fun _ => ⟨rfl, rfl, rfl⟩⟩
theorem Qlfa (l : Nat) : (Qtba l).bare := ⟨rfl, rfl, ⟨⟨by show (Lit.int .i64 0).wf = true; decide, by show (Lit.int .i64 0).wf = true; decide, by show (Lit.int .i64 0).wf = true; decide, by show (0 : Nat) <= maxLen; omega, by show (0 : Nat) <= maxLen; omega⟩, Nat.zero_le _, Nat.zero_le _, fun x hx => (nomatch hx), fun x hx => (nomatch hx)⟩⟩
def Qgca (l : Nat) : Array Value := #[.int .i64 3, .int .u64 (l : Int), .int .i64 1, .int .u64 0, .int .i64 0, .int .i64 0, .int .i64 0, .string ⟨#[]⟩, .string ⟨#[]⟩, .int .u64 0, .int .i64 0, .int .u64 0, .slice none 0 0, .slice none 0 0]
theorem awL17 (x : World) (g l : Nat) (h : Qb x g 45 (Qgca l)) : LuOk x (.slice (some ⟨g, 0, none⟩) 1 1, Qfd [Qtba l]) := by
  have b1 := Qlfa l
  refine ⟨⟨⟨⟨some ⟨g, 0, none⟩, 1, rfl, fun _ => ⟨g, 0, rfl, h.lt, fun i hi => ?_⟩⟩, fun m hm => ?_⟩, by show 1 <= 1000; omega, fun a l c e => ?_⟩, fun m hm => ?_⟩
  · have hi2 : i < 1 := hi; obtain rfl : i = 0 := by omega
    intro j u hu; have hj : j < 14 := (List.getElem?_eq_some_iff.1 hu).1; refine (h.cell (0 + 0 * 14 + j) u ?_); rw [<- hu]; rcases (show j = 0 ∨ j = 1 ∨ j = 2 ∨ j = 3 ∨ j = 4 ∨ j = 5 ∨ j = 6 ∨ j = 7 ∨ j = 8 ∨ j = 9 ∨ j = 10 ∨ j = 11 ∨ j = 12 ∨ j = 13 by omega) with rfl | rfl | rfl | rfl | rfl | rfl | rfl | rfl | rfl | rfl | rfl | rfl | rfl | rfl <;> rfl
  · simp only [Qfd, List.map_cons, List.map_nil, List.mem_cons, List.not_mem_nil, or_false] at hm; subst hm; exact ⟨b1.2.2, bareM_in b1 x⟩
  · injection e with e1 e2 e3; omega
  · have hm2 : m ∈ Qfd [Qtba l] := hm; simp only [Qfd, List.map_cons, List.map_nil, List.mem_cons, List.not_mem_nil, or_false] at hm2; subst hm2; exact ⟨by show 0 * 40 <= reachBytes; omega, by show 0 * 16 <= reachBytes; omega⟩
theorem awG17 (x : World) (g3 g4 g5 : Nat) (h3 : Qb x g3 45 (Qgca 7)) (h4 : Qb x g4 45 (Qgca 3)) (h5 : Qb x g5 50 #[.slice (some ⟨g3, 0, none⟩) 1 1, .slice (some ⟨g4, 0, none⟩) 1 1]) :
    LgIn x (.slice (some ⟨g5, 0, none⟩) 2 2) [(.slice (some ⟨g3, 0, none⟩) 1 1, Qfd [Qtba 7]), (.slice (some ⟨g4, 0, none⟩) 1 1, Qfd [Qtba 3])] := by
  refine ⟨⟨some ⟨g5, 0, none⟩, 2, rfl, fun _ => ⟨g5, 0, rfl, h5.lt, fun i hi => ?_⟩⟩, fun u hu => ?_⟩
  · have hi2 : i < 2 := hi
    rcases (show i = 0 ∨ i = 1 by omega) with rfl | rfl
    · intro j u hu; have hj : j < 1 := (List.getElem?_eq_some_iff.1 hu).1; obtain rfl : j = 0 := by omega
      exact h5.cell 0 u hu
    · intro j u hu; have hj : j < 1 := (List.getElem?_eq_some_iff.1 hu).1; obtain rfl : j = 0 := by omega
      exact h5.cell 1 u hu
  · simp only [List.mem_cons, List.not_mem_nil, or_false] at hu
    rcases hu with rfl | rfl
    · exact awL17 x g3 7 h3
    · exact awL17 x g4 3 h4
theorem awO17 : Qqca [[Qtba 7], [Qtba 3]] = [(1, Qtba 3), (0, Qtba 7)] := by
  have h : ltS (1, Qtba 3) (0, Qtba 7) = true := by decide
  show Quba [(((0 : Nat) : Int), Qtba 7), (((0 + 1 : Nat) : Int), Qtba 3)] = _; unfold Quba; show Qcfa (Qcfa [] ((0 : Int), Qtba 7)) ((1 : Int), Qtba 3) = _; have h2 : Qcfa [] ((0 : Int), Qtba 7) = [(0, Qtba 7)] := rfl; rw [h2]; unfold Qcfa
  have h3 : Qpba [((0 : Int), Qtba 7)] (1, Qtba 3) [((0 : Int), Qtba 7)].length = 0 := by
    show Qpba [((0 : Int), Qtba 7)] (1, Qtba 3) (0 + 1) = 0; unfold Qpba; have h4 : ltS (1, Qtba 3) ([((0 : Int), Qtba 7)].getD 0 Sd.zero) = true := h; rw [if_pos h4]; rfl
  rw [h3]; rfl
theorem Qrea (w : World) (A B C : Array Value) (tA tB tC : TypeId) : Qb (((w.alloc (.cells A tA)).alloc (.cells B tB)).alloc (.cells C tC)) w.heap.size tA A /\ Qb (((w.alloc (.cells A tA)).alloc (.cells B tB)).alloc (.cells C tC)) (w.heap.size + 1) tB B /\ Qb (((w.alloc (.cells A tA)).alloc (.cells B tB)).alloc (.cells C tC)) (w.heap.size + 1 + 1) tC C /\ Below w.heap.size w (((w.alloc (.cells A tA)).alloc (.cells B tB)).alloc (.cells C tC)) := by
  obtain ⟨h1, h2, h3⟩ := Qzd w A B tA tB; have e : ((w.alloc (.cells A tA)).alloc (.cells B tB)).heap.size = w.heap.size + 1 + 1 := by simp
  have b := (Below.refl _ ((w.alloc (.cells A tA)).alloc (.cells B tB))).alloc (Nat.le_refl _) (.cells C tC); have h4 := Qb.new ((w.alloc (.cells A tA)).alloc (.cells B tB)) tC C; rw [e] at h4; exact ⟨h1.later b, h2.later b, h4, h3.trans (b.mono (by omega))⟩
theorem awI17 : ∀ l ∈ [[Qtba 7], [Qtba 3]], Qmb 0 l := fun l hl => by
  simp only [List.mem_cons, List.not_mem_nil, or_false] at hl
  rcases hl with rfl | rfl
  · exact ⟨Qjda (by omega) (by omega), by decide, trivial⟩
  · exact ⟨Qjda (by omega) (by omega), by decide, trivial⟩
theorem awake17 (w : World) : Calls Try.prog 9 #[] w fun e w' => e = .returned (.bool true) /\ Below w.heap.size w w' := by
  have HOF := Qc (fun x g3 g4 g5 h3 h4 h5 => all17 x _ _ (awG17 x g3 g4 g5 h3 h4 h5)); go_enter Try.func9, Try.ntmps9; go_wp2_with (refine Qm rfl 45 (.tmp 1) (.tmp 5) rfl w.heap.size 0 45 Qya (Qgca 7) rfl rfl (Qb.new w _ _) Qia (Nat.le_refl 14) (by simp [Qgca, Value.oneCell']) ?_; intro w2 hr2 ho2; refine Qz ?_); rw [Qu Qya (Qgca 7) rfl] at hr2; have hb2 : Below w.heap.size w w2 := ho2.below ((Below.refl _ _).alloc (Nat.le_refl _) _) (Nat.le_refl _); have H2 := Qc (And.intro hr2 hb2); obtain ⟨g1, hg1⟩ : ∃ g, g = w.heap.size := ⟨_, rfl⟩; rw [<- hg1] at H2 |-; have HG1 := Qc hg1; clear hr2 ho2 hb2 hg1; refine Qf ?_; go_wp2_with (refine Qm rfl 45 (.tmp 2) (.tmp 6) rfl w2.heap.size 0 45 Qya (Qgca 3) rfl rfl (Qb.new w2 _ _) Qia (Nat.le_refl 14) (by simp [Qgca, Value.oneCell']) ?_; intro w4 hr4 ho4; refine Qz ?_); rw [Qu Qya (Qgca 3) rfl] at hr4; have hb4 : Below w2.heap.size w2 w4 := ho4.below ((Below.refl _ _).alloc (Nat.le_refl _) _) (Nat.le_refl _); have H4 : Hid (Qb w4 g1 45 (Qgca 7) /\ Qb w4 w2.heap.size 45 (Qgca 3) /\ Below w.heap.size w w4) := ⟨H2.out.1.later hb4, hr4, by have h := H2.out.2; rw [HG1.out] at h; exact h.trans (hb4.mono h.size)⟩; obtain ⟨g2, hg2⟩ : ∃ g, g = w2.heap.size := ⟨_, rfl⟩; rw [<- hg2] at H4 |-; have HG2 := Qc hg2; clear hr4 ho4 hb4 H2 hg2; refine Qf ?_; unfold Qgca at H4; have b3 : Below w4.heap.size w4 (w4.alloc (.cells (Qgca 7) 45)) := (Below.refl _ _).alloc (Nat.le_refl _) _; have HB3 := Qc b3; unfold Qgca at HB3; go_wp2_with (first | (refine Qd rfl 45 (.tmp 1) rfl g1 rfl _ H4.out.1 _ Try.underlying45 rfl Qia ?_) | (refine Qd rfl 45 (.tmp 2) rfl g2 rfl _ (H4.out.2.1.later HB3.out) _ Try.underlying45 rfl Qia ?_)); obtain ⟨r3, r4, r5, b5⟩ := Qrea w4 (Qgca 7) (Qgca 3) #[.slice (some ⟨w4.heap.size, 0, none⟩) 1 1, .slice (some ⟨w4.heap.size + 1, 0, none⟩) 1 1] 45 45 50; have H5 := Qc (H4.out.2.2.trans (b5.mono H4.out.2.2.size)); refine (HOF.out _ _ _ _ r3 r4 r5).mono ?_; rintro e w6 ⟨hcase, hb6⟩; have H6 := Qc (H5.out.trans (hb6.mono H5.out.size))
  obtain ⟨v', out, rfl, h1, h2, h3⟩ : ∃ v' out, e = .returned (.tuple #[v', .int .i64 0]) /\ (∃ B, OwS w6 B v' out) /\ smS out = [(1, Qtba 3), (0, Qtba 7)] /\ ∀ s ∈ out, Qgea w6 s := by
    rcases hcase with ⟨q, _⟩ | ⟨_, q, _⟩ | ⟨_, _, v', out, q1, q2, q3, q4⟩
    · exact absurd q (by show ¬ 8 < 2; omega)
    · exact absurd awI17 q
    · exact ⟨v', out, q1, ⟨_, q2⟩, q3.trans awO17, fun s hs => (q4 s hs).ok⟩
  obtain ⟨B, h1⟩ := h1
  have hlen : out.length = 2 := by
    have := congrArg List.length h2; rw [Qyba] at this; exact this
  have hin := Qzea h1 h3; have g0 := Qnda out 0; have g1 := Qnda out 1; rw [h2] at g0 g1; obtain ⟨b, off, c, hv, _, _, hx0⟩ := hin.mid (i := 0) (by omega); obtain ⟨b', off', c', hv', _, _, hx1⟩ := hin.mid (i := 1) (by omega); rw [hv] at hv'; injection hv' with e1 e2 e3; injection e1 with e1; injection e1 with e4 e5 e6; subst e4 e5; rw [hlen] at hv; subst hv
  have k0 : w6.cell? ⟨b, off, none⟩ = some (.int .i64 1) := by
    have q := hx0 w6 (Below.refl _ _) 0 _ rfl; have e : (out.getD 0 smZ).1 = 1 := (congrArg Prod.fst g0).symm; rw [e] at q; rw [Nat.zero_mul, Nat.add_zero] at q; exact q
  have k7 : w6.cell? ⟨b, off + 15 + 2, none⟩ = some (.int .u64 7) := by
    have q := hx1 w6 (Below.refl _ _) 2 _ rfl; have e : (out.getD 1 smZ).2.1.l = 7 := (congrArg (fun x : Sd => x.2.l) g1).symm; rw [e] at q; rw [Nat.one_mul] at q; exact q
  clear hcase hb6 H5 h1 h2 h3 hlen hin g0 g1 hx0 hx1 r3 r4 r5 b5 e2 e3 e6 HOF b3 HB3 H4; go_wp2; go_ret; exact ⟨rfl, H6.out⟩
theorem sm_sub {x : World} {b o : Nat} {s : Sm} (h : x.rangeAt b o (smF s).toList) : x.cell? ⟨b, o, none⟩ = some (.int .i64 s.1) /\ x.rangeAt b (o + 1) (rcF s.2).toList := by
  refine ⟨h 0 _ rfl, fun j v hj => ?_⟩; have h1 := h (j + 1) v hj; rw [show o + (j + 1) = o + 1 + j by omega] at h1; exact h1
theorem same17 (w : World) (va vb : Value) (xs ys : List Sm) (ha : Qfea w va xs) (hb : Qfea w vb ys) (he : smS xs = smS ys) (hl : xs.length <= 1000000) :
    Calls Try.prog 13 #[va, vb] w fun e w' => e = .returned (.bool true) /\ Below w.heap.size w w' := by
  have HA := Qc ha; have HB := Qc hb; obtain ⟨⟨aa, ca, rfl, -⟩, -⟩ := ha; obtain ⟨⟨ab, cb, rfl, -⟩, -⟩ := hb
  have hlen : ys.length = xs.length := by
    have := congrArg List.length he; rw [Qyba, Qyba] at this; exact this.symm
  rw [hlen] at HB |-
  have HE : Hid (∀ i, (xs.getD i smZ).1 = (ys.getD i smZ).1 /\ (xs.getD i smZ).2.1 = (ys.getD i smZ).2.1) := fun i => by
    have h := Qnda xs i; rw [he, Qnda] at h; injection h with h1 h2; exact ⟨h1.symm, h2.symm⟩
  have HL := Qc hlen; obtain ⟨ln, hln⟩ : ∃ ln, ln = xs.length := ⟨_, rfl⟩; rw [<- hln] at HA HB hl HL |-; have HN := Qc hln; clear he hlen hln; go_enter Try.func13, Try.ntmps13; go_wp2; go_loopw [13] (fun i wr => ∃ j : Nat, j <= ln /\ i = .int .i64 (j : Int) /\ Hid (Below w.heap.size w wr)) (fun i _ => ln - (intOf i).toNat)
  case atStart => exact ⟨0, Nat.zero_le _, rfl, Below.refl _ _⟩
  case round =>
    obtain ⟨j, hj, rfl, HBR⟩ := hrel
    by_cases hlt : j < ln
    · have i1 : (j : Int) < (ln : Int) := by omega
      obtain ⟨b1, o1, c1, e1, _, hk1, hx1⟩ := HA.out.mid (i := j) (by rw [<- HN.out]; exact hlt); obtain ⟨b2, o2, c2, e2, _, hk2, hx2⟩ := HB.out.mid (i := j) (by rw [HL.out]; exact hlt); injection e1 with p1 p2 p3; injection e2 with q1 q2 q3; subst p1 q1; obtain ⟨he1, he2⟩ := HE.out j; generalize xs.getD j smZ = m1 at *; generalize ys.getD j smZ = m2 at *; have HS := Qc (fun x (hx : Below w.heap.size w x) => rsame_at m1.2.1 m2.2.1 _ _ _ _ x true (Qc ⟨fun _ => he2, fun _ => rfl⟩) hk1.1 hk2.1 (hk1.2.below hx) (hk2.2.below hx)); have HX := Qc (fun x (hx : Below w.heap.size w x) => And.intro (sm_sub (hx1 x hx)) (sm_sub (hx2 x hx))); rw [<- he1] at HX; obtain ⟨nn, hnn⟩ : ∃ nn, nn = m1.1 := ⟨_, rfl⟩; rw [<- hnn] at HX; clear p2 p3 q2 q3 he1 he2 hk1 hk2 hx1 hx2 hnn; go_wp2_with fail; refine Qqa (fun y => Below w.heap.size w y) (by kernel_rfl) (by kernel_rfl) (Qt HBR.out 1) ?_; refine Qg (by kernel_rfl) (fun K hK => ?_); go_simp; refine hK _ ?_; clear hK K; refine Qg (by kernel_rfl) (fun K hK => ?_); go_simp; refine hK _ ?_; clear hK K; refine Qg (by kernel_rfl) (fun K hK => ?_); go_simp; refine hK _ ?_; clear hK K; refine Qg (by kernel_rfl) (fun K hK => ?_); go_simp; refine hK _ ?_; clear hK K; refine Qub (by kernel_rfl) (.int .i64 nn) (fun x hx => by have q := (HX.out x hx).1.1; go_simp) ?_; simp only [Act.put, List.setIfInBounds_toArray, List.set]; refine Qg (by kernel_rfl) (fun K hK => ?_); go_simp; refine hK _ ?_; clear hK K; refine Qg (by kernel_rfl) (fun K hK => ?_); go_simp; refine hK _ ?_; clear hK K; refine Qg (by kernel_rfl) (fun K hK => ?_); go_simp; refine hK _ ?_; clear hK K; refine Qg (by kernel_rfl) (fun K hK => ?_); go_simp; refine hK _ ?_; clear hK K; refine Qub (by kernel_rfl) (.int .i64 nn) (fun x hx => by have q := (HX.out x hx).2.1; go_simp) ?_; simp only [Act.put, List.setIfInBounds_toArray, List.set]; refine Qg (by kernel_rfl) (fun K hK => ?_); go_simp; refine hK _ ?_; clear hK K; refine Qg (by kernel_rfl) (fun K hK => ?_); go_simp; refine hK _ ?_; clear hK K; refine Qg (by kernel_rfl) (fun K hK => ?_); go_simp; refine hK _ ?_; clear hK K; refine Qg (by kernel_rfl) (fun K hK => ?_); go_simp; refine hK _ ?_; clear hK K; refine Qg (by kernel_rfl) (fun K hK => ?_); go_simp; refine hK _ ?_; clear hK K; refine Qg (by kernel_rfl) (fun K hK => ?_); go_simp; refine hK _ ?_; clear hK K
      refine Qn (by kernel_rfl) 45 (.tmp 31) rfl _ (.agg (rcF m1.2)) rfl (fun y hy => Qug y b1 _ m1.2 (HX.out y hy).1.2) ?_; simp only [Act.put, List.setIfInBounds_toArray, List.set]; refine Qg (by kernel_rfl) (fun K hK => ?_); go_simp; refine hK _ ?_; clear hK K; refine Qg (by kernel_rfl) (fun K hK => ?_); go_simp; refine hK _ ?_; clear hK K; refine Qg (by kernel_rfl) (fun K hK => ?_); go_simp; refine hK _ ?_; clear hK K; refine Qg (by kernel_rfl) (fun K hK => ?_); go_simp; refine hK _ ?_; clear hK K; refine Qn (by kernel_rfl) 45 (.tmp 36) rfl _ (.agg (rcF m2.2)) rfl (fun y hy => Qug y b2 _ m2.2 (HX.out y hy).2.2) ?_; simp only [Act.put, List.setIfInBounds_toArray, List.set]; refine Qyc (by kernel_rfl) 29 #[.agg (rcF m1.2), .agg (rcF m2.2)] (.bool true) ?_ (fun y hC => (HS.out y hC).mono fun e x q => ⟨q.1, hC.trans (q.2.mono hC.size)⟩) ?_; (intro x; go_simp); simp only [Act.put, List.setIfInBounds_toArray, List.set]; refine Qg (by kernel_rfl) (fun K hK => ?_); go_simp; refine hK _ ?_; clear hK K; refine Qg (by kernel_rfl) (fun K hK => ?_); go_simp; refine hK _ ?_; clear hK K; refine wpQuiet_nil ?_; intro w5 hb5; have H5 := Qc hb5; clear hb5 HBR HX HS; go_wp2; go_roundw
      case rel => exact ⟨j + 1, by omega, by go_num, H5⟩
      case measure => simp [intOf] <;> omega
    · have i1 : ¬ (j : Int) < (ln : Int) := by omega
      go_wp2; go_ret; exact ⟨rfl, HBR.out⟩
section
open Go.ChangeShapes Go.WideShapes Go.ChangeAt Go.RowKit Go.Deep Go.Joins
section
variable {H : Type} {enc : TypeId × Value -> H} {W : World}
set_option maxRecDepth 40000 in
theorem elem_log (n : Nat) (cs : List Value) (y : DataW H × List MemPlace) (h : DataW.trod enc Try.prog W 0 (fun _ => true) true n 50 cs = some y) : ∃ u : Lu, cs = (#[u.1] : Array Value).toList /\ Qwea W u := by
  rcases open_slice Try.underlying50 h with ⟨hcs, hx⟩ | ⟨x, l, c, m, k, D, Pl, hcs, hn, hl, hm, hmm, hx, hall⟩
  · subst hcs; obtain ⟨ms, h1, h2, h3⟩ := op_recs Try.underlying50 h; exact ⟨(_, ms), rfl, ⟨h1, h3⟩, h2, fun a l c e => by injection e with e1 e2 e3; omega⟩
  · subst hcs; obtain ⟨ms, h1, h2, h3⟩ := op_recs Try.underlying50 h; exact ⟨(_, ms), rfl, ⟨h1, h3⟩, h2, fun a l' c' e => by injection e with e1 e2 e3; omega⟩
set_option maxRecDepth 40000 in
theorem op_logs {v : Value} {d : DataW H} {p : List MemPlace} {r : Reach} {b0 : Nat} (hv : Value.okWide Try.prog W r b0 22 v) (h : DataW.Trod enc Try.prog W 0 (fun _ => true) true 22 v d p) :
    ∃ us : List Lu, Qqda W v us /\ us.length <= maxLen := by
  obtain ⟨a, len, cap, rfl⟩ := okWide_slice Try.underlying22 hv; obtain ⟨fuel, hf⟩ := h; have hf2 : DataW.trod enc Try.prog W 0 (fun _ => true) true fuel 22 [.slice a len cap] = some (d, p) := hf; obtain ⟨us, h1, h2, h3⟩ := Qmk (sz := 1) (fun u : Lu => #[u.1]) luZ (Qwea W) elem_log Try.underlying22 (by kernel_rfl) (fun _ => rfl) (by decide) hf2; exact ⟨us, ⟨h1, h3⟩, h2⟩
end
end
end Go.Proofs.Ytdjhcbiejpjkmaa
