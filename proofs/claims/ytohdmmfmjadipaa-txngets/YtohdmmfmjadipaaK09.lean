/-
  Texts that lean on one another, one behind the other: each opens with its own remark.
-/
import Derived.WalkKit
import Derived.ArgAppend
import Derived.Test.YtohdmmfmjadipaaProg
import Derived.RegionTactic
import Derived.BigRegion
import Derived.Laws.IdiomCopy
import Derived.WalkSpells
import Derived.Laws.OwnMore
import Derived.Test.YtohdmmfmjadipaaK08
import Derived.Test.YtohdmmfmjadipaaK07
import Derived.Test.YtohdmmfmjadipaaK06
import Derived.Test.YtohdmmfmjadipaaK00
import Derived.Test.YtohdmmfmjadipaaK05

namespace Go.Proofs.Ytohdmmfmjadipaa
open Go.RowKit
set_option linter.unusedVariables false
set_option maxRecDepth 8000
set_option maxHeartbeats 25600000
theorem load_chz (y : World) (g : Nat) (m : Rec × Value × Value) (h : Qb y g 30 (rcF m)) : (Instr.loadAt 26 (.pointer (some ⟨g, 4, none⟩))).run Try.prog y = .ok (.agg (chA m.1.c)) y := by
  have h1 := Qhj y g 0 m (fun j u hu => by rw [Nat.zero_add]; exact h.cell j u (by simpa using hu)); rwa [Nat.zero_add] at h1
theorem rclr15 (v : Value) (ms : List (Rec × Value × Value)) (n : Nat) (w : World) (h : LogIn w v ms) (hr : Qob 0 (msR ms)) :
    Calls Try.prog 19 #[v, .int .u64 (n : Int)] w fun e w' => e = .returned (.tuple #[.agg (rcF (Qvv (msR ms) n).1), .int .i64 (Qvv (msR ms) n).2]) /\ Below w.heap.size w w' := by
  have hb0 : Below w.heap.size w (w.alloc (.cells Qaa 30)) := (Below.refl _ _).alloc (Nat.le_refl _) _; obtain ⟨gR, hgR⟩ : ∃ g, g = w.heap.size := ⟨_, rfl⟩
  have H0 : Hid (Qb (w.alloc (.cells Qaa 30)) gR 30 Qaa /\ Below w.heap.size w (w.alloc (.cells Qaa 30))) := by
    rw [hgR]; exact ⟨Qb.new w _ _, hb0⟩
  clear hb0; have hall0 : Qaa.all (·.oneCell') = true := by simp [Qaa, Value.oneCell']
  have HG := Qd (fun x (hx : Below w.heap.size w x) => rget15 v ms n x (h.below hx)); have HNX := Qd (fun x k (hb : Below w.heap.size w x) => rnext15 v ms hr k x (h.below hb)); have HR := Qd hr; have HGR := Qd hgR; clear h hr; obtain ⟨A, hA⟩ : ∃ A, A = Qvv (msR ms) n := ⟨_, rfl⟩; rw [<- hA]; have HA := Qd hA; clear hA; go_enter Try.func19, Try.ntmps19; go_wp2_with fail; rw [<- hgR]; refine Qda (fun x => Qb x gR 30 Qaa /\ Below w.heap.size w x) H0.out ?_; intro y HY; have HYY := Qd HY; clear HY H0 hgR; refine (HG.out y HYY.out.2).mono ?_; rintro e w1 ⟨m, f, rfl, hcase, hfit, hin, hb1⟩; have hall := Qjw hin; have hb2 : Below w1.heap.size w1 (w1.alloc (.cells Qaa 30)) := (Below.refl _ _).alloc (Nat.le_refl _) _; obtain ⟨gM, hgM⟩ : ∃ g, g = w1.heap.size := ⟨_, rfl⟩
  have HZ : Hid (Qb (w1.alloc (.cells Qaa 30)) gM 30 Qaa /\ Qb (w1.alloc (.cells Qaa 30)) gR 30 Qaa /\ Below w.heap.size w (w1.alloc (.cells Qaa 30)) /\ w.heap.size <= gM /\ gR ≠ gM) := by
    have a1 := HYY.out.1.later hb1; have a2 := HYY.out.2.trans (hb1.mono HYY.out.2.size); rw [hgM]; exact ⟨Qb.new w1 _ _, a1.later hb2, a2.trans (hb2.mono a2.size), a2.size, Nat.ne_of_lt a1.lt⟩
  have HC := Qd hcase; have HGM := Qd hgM; clear hcase hfit hin hb1 hb2 HG HYY hgM; go_wp2_with (refine Qc rfl 30 (.tmp 6) (.tmp 14) rfl gM Qaa (rcF m) ?h1 rfl HZ.out.1 Qv rfl hall ?_; (case h1 => rw [HGM.out]; rfl); intro w2 hr2 hk2 hrow2; refine Qha ?_); have hb2 := hk2 _ _ HZ.out.2.2.1 HZ.out.2.2.2.1; have H2 : Hid (Qb w2 gM 30 (rcF m) /\ Qb w2 gR 30 Qaa /\ Below w.heap.size w w2 /\ gR ≠ gM) := ⟨hr2, hrow2 gR _ _ HZ.out.2.2.2.2 HZ.out.2.1, hb2, HZ.out.2.2.2.2⟩; obtain ⟨c0, c2, c3, c9⟩ := Qlj hr2; clear hr2 hk2 hrow2 hb2 HZ; rw [HGM.out] at c0 c2 c3 c9; refine Qj ?_
  cases f with
  | false =>
    have HE : Hid (A = (rcZ, 5)) := by
      rcases HC.out with ⟨h1, _⟩ | ⟨_, h1, _⟩
      · cases h1
      · show A = _; rw [HA.out]; exact Qlv (gone15 h1)
    go_wp2_with (refine Qc rfl 30 (.tmp 4) (.tmp 23) rfl gR Qaa Qaa ?h1 rfl H2.out.2.1 Qv rfl hall0 ?_; (case h1 => rw [HGR.out]; rfl); intro w4 hr4 hk4 hrow4; refine Qha ?_); have hb4 := hk4 _ _ H2.out.2.2.1 (by rw [HGR.out]; exact Nat.le_refl _); have H4 := Qd (And.intro hr4 hb4); clear hr4 hk4 hrow4 hb4 H2 c0 c2 c3 c9; refine Qj ?_; go_wp2; refine bodyPost_ret (Qfc rfl _ _ gR _ _ ?hp H4.out.1 Try.underlying30 rfl Qv) rfl ⟨?_, H4.out.2⟩; (case hp => rw [HGR.out]; rfl); rw [HE.out]; rfl
  | true =>
    have hmem : m.1 ∈ msR ms /\ m.1.l = n := by
      rcases HC.out with ⟨_, h1⟩ | ⟨h1, _⟩
      · exact got15 HR.out h1
      · cases h1
    by_cases hk : m.1.k = 1
    · have HE : Hid (A = (Qqu (msR ms) m.1, 0)) := by
        show A = _; rw [HA.out, <- hmem.2]; exact Qjs HR.out hmem.1 hk
      have HI := Qd (fun w => rinv_any m.1.c w); clear hmem HC; go_wp2_with (refine Qr rfl 26 (.tmp 25) rfl _ (.agg (chA m.1.c)) rfl (by rw [<- HGM.out]; exact load_chz w2 gM m H2.out.1) ?_); refine (HI.out w2).mono ?_; rintro e w3 ⟨rfl, hb3⟩; have H3 : Hid (Qb w3 gM 30 (rcF m) /\ Qb w3 gR 30 Qaa /\ Below w.heap.size w w3 /\ gR ≠ gM) := ⟨H2.out.1.later hb3, H2.out.2.1.later hb3, H2.out.2.2.1.trans (hb3.mono H2.out.2.2.1.size), H2.out.2.2.2⟩; clear hb3 H2 HI c0 c2 c3 c9; obtain ⟨c, hc⟩ : ∃ c, c = Qfe m.1.c := ⟨_, rfl⟩; rw [<- hc]; have HCC := Qd hc; clear hc; have hb4 : Below w3.heap.size w3 (w3.alloc (.cells (chA Ch.zero) 26)) := (Below.refl _ _).alloc (Nat.le_refl _) _; obtain ⟨gC, hgC⟩ : ∃ g, g = w3.heap.size := ⟨_, rfl⟩
      have HZ : Hid (Qb (w3.alloc (.cells (chA Ch.zero) 26)) gC 26 (chA Ch.zero) /\ Qb (w3.alloc (.cells (chA Ch.zero) 26)) gR 30 Qaa /\ Qb (w3.alloc (.cells (chA Ch.zero) 26)) gM 30 (rcF m) /\ Below w.heap.size w (w3.alloc (.cells (chA Ch.zero) 26)) /\ w.heap.size <= gC) := by
        rw [hgC]; exact ⟨Qb.new w3 _ _, H3.out.2.1.later hb4, H3.out.1.later hb4, H3.out.2.2.1.trans (hb4.mono H3.out.2.2.1.size), H3.out.2.2.1.size⟩
      have HGC := Qd hgC; have HNE := Qd H3.out.2.2.2; clear hb4 hgC H3; go_wp2_with (refine Qc rfl 26 (.tmp 8) (.tmp 28) rfl gC (chA Ch.zero) (chA c) ?h1 rfl HZ.out.1 Qq rfl (Qpa _) ?_; (case h1 => rw [HGC.out]; rfl); intro w4 hr4 hk4 hrow4; refine Qha ?_); have hb4 := hk4 _ _ HZ.out.2.2.2.1 HZ.out.2.2.2.2
      have H4 : Hid (Qb w4 gC 26 (chA c) /\ Qb w4 gR 30 Qaa /\ Qb w4 gM 30 (rcF m) /\ Below w.heap.size w w4 /\ gC ≠ gR) := by
        have hne : gR ≠ gC := fun e => by
          have h1 := HZ.out.1; rw [<- e] at h1; exact absurd (Qma h1 HZ.out.2.1) (by decide)
        have hne2 : gM ≠ gC := fun e => by
          have h1 := HZ.out.1; rw [<- e] at h1; exact absurd (Qma h1 HZ.out.2.2.1) (by decide)
        exact ⟨hr4, hrow4 gR _ _ hne HZ.out.2.1, hrow4 gM _ _ hne2 HZ.out.2.2.1, hb4, fun e => hne e.symm⟩
      clear hr4 hk4 hrow4 hb4 HZ; refine Qj ?_; go_wp2_with fail; rw [<- HGC.out, <- HGM.out]; have HD : Hid (Qb w4.drew gC 26 (chA c) /\ Qb w4.drew gR 30 Qaa /\ Qb w4.drew gM 30 (rcF m) /\ Below w.heap.size w w4.drew) := Qd ⟨H4.out.1, H4.out.2.1, H4.out.2.2.1, Qo H4.out.2.2.2.1 1⟩; have HGO := Qd H4.out.2.2.2.2; clear H4; refine wp_region_noPanic ?_; refine wp_region_held_drew (S := fun z => Qb z gC 26 (chA c) /\ Qb z gM 30 (rcF m)) (by kernel_rfl) (⟨HD.out.1, HD.out.2.2.1⟩) (fun hHeld => ?_); refine tkq 0 (some 30) (.pointer (some ⟨gM, 2, none⟩)) hHeld ?_; (try simp only [Act.put, List.setIfInBounds_toArray, List.set]); refine tkk 1 (some 31) (.int .i64 m.1.t) rfl rfl (by kernel_rfl) (by kernel_rfl) (fun x hSx => by have h := (Qlj hSx.2).2.1; go_simp) hHeld ?_; (try simp only [Act.put, List.setIfInBounds_toArray, List.set]); refine Qa 2 (some 32) (.agg #[.int .i64 c.k, .int .i64 c.pg, .int .i64 c.sl, .string c.o, .string c.n]) rfl rfl (by kernel_rfl) (by kernel_rfl) (by kernel_rfl) (fun _ _ _ h => h) (Qp (by kernel_rfl) 26 _ rfl (.pointer (some ⟨gC, 0, none⟩)) rfl _ (fun x hSx => Qdk x gC c hSx.1)) hHeld ?_; (try simp only [Act.put, List.setIfInBounds_toArray, List.set]); refine tkq 3 (some 33) v hHeld ?_; (try simp only [Act.put, List.setIfInBounds_toArray, List.set]); refine tkq 4 (some 34) (.pointer (some ⟨gM, 3, none⟩)) hHeld ?_; (try simp only [Act.put, List.setIfInBounds_toArray, List.set]); refine tkk 5 (some 35) (.int .u64 (m.1.p : Int)) rfl rfl (by kernel_rfl) (by kernel_rfl) (fun x hSx => by have h := (Qlj hSx.2).2.2.1; go_simp) hHeld ?_; (try simp only [Act.put, List.setIfInBounds_toArray, List.set]); refine Qg 6 (by kernel_rfl) ?_; refine Qwa (some 36) rfl rfl rfl 20 #[v, .int .u64 (m.1.p : Int)] ?he ((HNX.out _ m.1.p HD.out.2.2.2).mono ?_); (case he => go_simp); rintro e w5 ⟨rfl, hb5⟩; have H5 : Hid (Qb w5 gC 26 (chA c) /\ Qb w5 gR 30 Qaa /\ Qb w5 gM 30 (rcF m) /\ Below w.heap.size w w5) := Qd ⟨HD.out.1.later hb5, HD.out.2.1.later hb5, HD.out.2.2.1.later hb5, HD.out.2.2.2.trans (hb5.mono HD.out.2.2.2.size)⟩; obtain ⟨q, hq⟩ : ∃ q, q = Qca (msR ms) m.1.p := ⟨_, rfl⟩; rw [<- hq]; have HQ := Qd hq; clear hb5 hq; refine ⟨_, rfl, ⟨H5.out.1, H5.out.2.2.1⟩, ?_⟩; (try simp only [Act.put, List.setIfInBounds_toArray, List.set]); have hHeld := (show Qb w5 gC 26 (chA c) /\ Qb w5 gM 30 (rcF m) from ⟨H5.out.1, H5.out.2.2.1⟩); refine tkq 7 (some 37) (.agg #[.int .i64 2, .int .u64 0, .int .i64 m.1.t, .int .u64 0, .int .i64 c.k, .int .i64 c.pg, .int .i64 c.sl, .string c.o, .string c.n, .int .u64 (q : Int), .int .i64 0, .int .u64 0, .slice none 0 0, .slice none 0 0]) hHeld ?_
      (try simp only [Act.put, List.setIfInBounds_toArray, List.set])
      refine Qg 8 (by kernel_rfl) ?_; refine Qoa rfl rfl rfl 30 (.tmp 4) (.tmp 37) rfl gR 0 30 Qaa #[.int .i64 2, .int .u64 0, .int .i64 m.1.t, .int .u64 0, .int .i64 c.k, .int .i64 c.pg, .int .i64 c.sl, .string c.o, .string c.n, .int .u64 (q : Int), .int .i64 0, .int .u64 0, .slice none 0 0, .slice none 0 0] ?hp rfl H5.out.2.1 Qv (by simp [Qaa]) (by simp [Value.oneCell']) ?_; (case hp => rw [HGR.out]; rfl); intro w6 hr6 ho6; have hpa := Qpc Qaa #[.int .i64 2, .int .u64 0, .int .i64 m.1.t, .int .u64 0, .int .i64 c.k, .int .i64 c.pg, .int .i64 c.sl, .string c.o, .string c.n, .int .u64 (q : Int), .int .i64 0, .int .u64 0, .slice none 0 0, .slice none 0 0] rfl; rw [hpa] at hr6; have H6 : Hid (Qb w6 gR 30 #[.int .i64 2, .int .u64 0, .int .i64 m.1.t, .int .u64 0, .int .i64 c.k, .int .i64 c.pg, .int .i64 c.sl, .string c.o, .string c.n, .int .u64 (q : Int), .int .i64 0, .int .u64 0, .slice none 0 0, .slice none 0 0] /\ Below w.heap.size w w6) := Qd ⟨hr6, ho6.below H5.out.2.2.2 (by rw [HGR.out]; exact Nat.le_refl _)⟩; refine ⟨⟨ho6.row H5.out.1 HGO.out, ho6.row H5.out.2.2.1 (fun e => HNE.out e.symm)⟩, ?_⟩; have hHeld := (show Qb w6 gC 26 (chA c) /\ Qb w6 gM 30 (rcF m) from ⟨ho6.row H5.out.1 HGO.out, ho6.row H5.out.2.2.1 (fun e => HNE.out e.symm)⟩); clear hr6 ho6; (try simp only [Act.put, List.setIfInBounds_toArray, List.set]); refine tkq 9 (some 5) (.int .i64 0) hHeld ?_; (try simp only [Act.put, List.setIfInBounds_toArray, List.set]); refine wpAnyH_done (by kernel_rfl) ?_ _; refine NoPanic.normal ?_; go_wp2; refine bodyPost_ret (Qfc rfl _ _ gR _ _ ?hp H6.out.1 Try.underlying30 rfl Qv) rfl ⟨?_, H6.out.2⟩; (case hp => rw [HGR.out]; rfl); rw [HE.out, HQ.out, HCC.out]; rfl
    · have HE : Hid (A = (rcZ, 5)) := by
        show A = _; rw [HA.out, <- hmem.2]; exact clrA_no HR.out hmem.1 hk
      clear hmem HC; go_wp2_with (refine Qc rfl 30 (.tmp 4) (.tmp 23) rfl gR Qaa Qaa ?h1 rfl H2.out.2.1 Qv rfl hall0 ?_; (case h1 => rw [HGR.out]; rfl); intro w4 hr4 hk4 hrow4; refine Qha ?_); have hb4 := hk4 _ _ H2.out.2.2.1 (by rw [HGR.out]; exact Nat.le_refl _); have H4 := Qd (And.intro hr4 hb4); clear hr4 hk4 hrow4 hb4 H2 c0 c2 c3 c9; refine Qj ?_; go_wp2; refine bodyPost_ret (Qfc rfl _ _ gR _ _ ?hp H4.out.1 Try.underlying30 rfl Qv) rfl ⟨?_, H4.out.2⟩; (case hp => rw [HGR.out]; rfl); rw [HE.out]; rfl
theorem Qgc {w z : World} {b j : Nat} {v : Value} (h : w.cell? ⟨b, j, none⟩ = some v) (hb : Below w.heap.size w z) : z.cell? ⟨b, j, none⟩ = some v :=
  (World.cell?_of_block (a := ⟨b, j, none⟩) (hb.block b (World.block_lt_of_cell? w _ h))).trans h
theorem clrM_bare (l : List Rec) (r : Rec) : Qqu l r = Qlb (Qra l r) := rfl
theorem HB.logs {w : World} {B g n : Nat} {F : Nat -> Prop} {h : Hs} (H : HB w B g F h) (hn : n < 3) (hl : (h.lg n).length <= 900) : ∃ gl a c, w.cell? ⟨g, 0, none⟩ = some (.slice (some ⟨gl, 0, none⟩) 3 3) /\ w.cell? ⟨gl, n, none⟩ = some (.slice a (h.lg n).length c) /\ LogIn w (.slice a (h.lg n).length c) (Qla (h.lg n)) := by
  obtain ⟨x, HX, _⟩ := H; obtain ⟨a, c, hv⟩ := Qwb (HX.lown n hn).1; refine ⟨x.gl, a, c, HX.blk.cell _ _ HX.cells.c0, by rw [<- hv]; exact HX.lrow.cell _ _ (HX.lat n hn), ?_⟩; rw [<- hv]; exact (HX.lown n hn).log (by omega)
theorem hback15 (w : World) (B g n i o : Nat) (F : Nat -> Prop) (h : Hs) (H : HB w B g F h) (hn : n < 3) (hi : i < 9) (ho : o = 9 + i * 4) (hw : h.few) (hr : Qob 0 (h.lg n)) (hc : ∀ r ∈ h.lg n, r.k = 1 -> r.c.pg < 4) (hx : (h.tx i).next ≠ 0 -> ∃ r ∈ h.lg n, r.l = (h.tx i).next /\ r.k = 1) :
    Calls Try.prog 55 #[.pointer (some ⟨g, 0, none⟩), .int .i64 (n : Int), .pointer (some ⟨g, o, none⟩)] w fun e w' => ∃ F', e = .returned (.tuple #[]) /\ HB w' B g F' (h.back n i) /\ Qh F F' w w' := by
  have HH := Qd H; have HO := Qd ho; have HW := Qd hw; obtain ⟨-, t1, -, t3⟩ := H.tu hi ho; have i3 : (n : Int) < 3 := by omega
  have HBK : Hid (h.back n i = if (h.tx i).next = 0 ∨ ((h.tx i).st ≠ 1 /\ (h.tx i).st ≠ 2) then h else (h.turn n i (Qra (h.lg n) (Qqo (h.lg n) (h.tx i).next))).nextIs i (Qra (h.lg n) (Qqo (h.lg n) (h.tx i).next)).n) := rfl; have HXX := Qd hx; obtain ⟨nx, hnx⟩ : ∃ c, c = (h.tx i).next := ⟨_, rfl⟩; obtain ⟨st, hst⟩ : ∃ c, c = (h.tx i).st := ⟨_, rfl⟩; rw [<- hnx] at t3 HBK HXX; rw [<- hst] at t1 HBK; have HR := Qd hr; have HCP := Qd hc; clear H ho hw hx hnx hst hr hc
  by_cases e1 : nx = 0
  · rw [e1] at t3; go_enter Try.func55, Try.ntmps55; go_wp2; refine bodyPost_ret (results_none rfl _ _ _) rfl ⟨F, rfl, ?_, Qh.refl _ _⟩; rw [HBK.out, if_pos (.inl e1)]; exact HH.out
  · have e1a : ((nx : Int) == 0) = false := by simpa using e1
    by_cases e2 : st ≠ 1 /\ st ≠ 2
    · have e2a : (st != 1) = true := by simpa using e2.1
      have e2b : decide (st = 1) = false := by simpa using e2.1
      have e2c : (st != 2) = true := by simpa using e2.2
      have e2d : decide (st = 2) = false := by simpa using e2.2
      go_enter Try.func55, Try.ntmps55; go_wp2; refine bodyPost_ret (results_none rfl _ _ _) rfl ⟨F, rfl, ?_, Qh.refl _ _⟩; rw [HBK.out, if_pos (.inr e2)]; exact HH.out
    · obtain ⟨r, hr1, hr2, hr3⟩ := HXX.out e1; have hrR := Qga _ 0 HR.out r hr1
      have hget : Qqo (h.lg n) nx = r := by
        unfold Qqo; rw [<- hr2, Qyc HR.out hr1]; rfl
      have HB3 : Hid (h.back n i = (h.turn n i (Qra (h.lg n) r)).nextIs i (Qra (h.lg n) r).n) := by
        show h.back n i = _; rw [HBK.out, if_neg (fun q => by rcases q with q | q; exact e1 q; exact e2 q), hget]
      have hinv := Qqe r.c (hrR.ch (by omega))
      have HCL : Hid ((Qra (h.lg n) r).bare /\ (Qra (h.lg n) r).c.right /\ (Qra (h.lg n) r).c.pg < 4) := by
        refine ⟨Qns hrR hr3, hinv.1, ?_⟩; have h9 := HCP.out r hr1 hr3; show (Qfe r.c).pg < 4; unfold Qfe; rw [if_pos (hrR.ch (by omega))]; exact h9
      obtain ⟨gl, a, c, c0, c1, hlog⟩ := HH.out.logs hn (HW.out.lg n hn); have HCR := Qd (fun z (hz : Below w.heap.size w z) => rclr15 _ _ nx z (hlog.below hz) (by rw [Qve]; exact HR.out)); rw [Qve, <- hr2, Qjs HR.out hr1 hr3, hr2] at HCR; have HTU := Qd (fun z F' (hz : HB z B g F' h) => Qye z B g n i o F' h (Qra (h.lg n) r) hz hn hi HO.out HCL.out.1 HCL.out.2.1 HCL.out.2.2 (Nat.le_trans (HW.out.ck n hn) (by decide)) (Nat.le_trans (HW.out.pl _ (by have := HCL.out; unfold Rec.page; have := HCL.out.2.1.1; omega)) (by decide)) (HW.out.lg n hn) (HW.out.past _ (by have := HCL.out; unfold Rec.page; have := HCL.out.2.1.1; omega))); have hcr0 : rcF (Qqu (h.lg n) r) = rcF (Qlb (Qra (h.lg n) r)) := rfl; rw [hcr0] at HCR; have HNX : Hid ((rcF (Qlb (Qra (h.lg n) r)))[9]? = some (.int .u64 ((Qra (h.lg n) r).n : Int))) := rfl; have hone : (rcF (Qlb (Qra (h.lg n) r))).all (·.oneCell') = true := by simp [rcF, rcA, Qlb, Value.oneCell']
      obtain ⟨cr, hcr⟩ : ∃ cr, cr = Qra (h.lg n) r := ⟨_, rfl⟩; rw [<- hcr] at HCR HTU HNX hone HB3; obtain ⟨rc, hrc⟩ : ∃ rc, rc = rcF (Qlb cr) := ⟨_, rfl⟩; have hz14 : rc.size = 14 := by rw [hrc]; rfl
      rw [<- hrc] at HCR HTU HNX hone; have hinf : (Try.prog.info? 30).map (·.size) = some rc.size := by rw [hz14]; exact Qv
      obtain ⟨ll, hll⟩ : ∃ ll, ll = (h.lg n).length := ⟨_, rfl⟩; rw [<- hll] at c1 HCR; clear hrc hr1 hr2 hr3 hrR hget hinv hlog hcr0 HBK HXX HCP HR HCL hll hcr; have hst : st = 1 ∨ st = 2 := by omega
      have key : Hid (∀ z F', HB z B g F' h -> True) := fun _ _ _ => trivial
      rcases hst with rfl | rfl
      · skip; go_enter Try.func55, Try.ntmps55; go_wp2_with fail; clear t1; have k0 : ∀ z, Below w.heap.size w z -> z.cell? ⟨g, 0, none⟩ = some (.slice (some ⟨gl, 0, none⟩) 3 3) /\ z.cell? ⟨gl, n, none⟩ = some (.slice a ll c) /\ z.cell? ⟨g, o + 3, none⟩ = some (.int .u64 (nx : Int)) := fun z hz => ⟨Qgc c0 hz, Qgc c1 hz, Qgc t3 hz⟩
        have HK0 := Qd k0; clear k0 c0 c1 t3; apply Qqm (F := fun g6 a9 c9 z => Hid (HB z B g F h /\ Qb z g6 30 rc /\ Qh F F w z /\ ¬ F g6 /\ a9 = none /\ c9 = 0))
        (case h =>
          intro REST; refine wp_region_noPanic ?_; refine wp_region_held_drew (S := fun z => z.cell? ⟨g, 0, none⟩ = some (.slice (some ⟨gl, 0, none⟩) 3 3) /\ z.cell? ⟨gl, n, none⟩ = some (.slice a ll c) /\ z.cell? ⟨g, o + 3, none⟩ = some (.int .u64 (nx : Int))) (by kernel_rfl) (HK0.out _ (Ql (Below.refl _ _))) (fun hHeld => ?_); refine Qa 0 (some 28) (.pointer (some ⟨g, 0, none⟩)) rfl rfl (by kernel_rfl) (by kernel_rfl) (by kernel_rfl) (fun _ _ _ h => h) (Or.inl ⟨by kernel_rfl, fun x' hSx => by go_simp⟩) hHeld ?_; (try simp only [Act.put, List.setIfInBounds_toArray, List.set]); refine Qa 1 (some 29) (.pointer (some ⟨g, 0, none⟩)) rfl rfl (by kernel_rfl) (by kernel_rfl) (by kernel_rfl) (fun _ _ _ h => h) (Or.inl ⟨by kernel_rfl, fun x' hSx => by go_simp⟩) hHeld ?_; (try simp only [Act.put, List.setIfInBounds_toArray, List.set]); refine Qa 2 (some 30) (.pointer (some ⟨g, 0, none⟩)) rfl rfl (by kernel_rfl) (by kernel_rfl) (by kernel_rfl) (fun _ _ _ h => h) (Or.inl ⟨by kernel_rfl, fun x' hSx => by go_simp⟩) hHeld ?_; (try simp only [Act.put, List.setIfInBounds_toArray, List.set]); refine Qa 3 (some 31) (.slice (some ⟨gl, 0, none⟩) 3 3) rfl rfl (by kernel_rfl) (by kernel_rfl) (by kernel_rfl) (fun _ _ _ h => h) (Or.inl ⟨by kernel_rfl, fun x' hSx => by have h := hSx.1; go_simp⟩) hHeld ?_; (try simp only [Act.put, List.setIfInBounds_toArray, List.set]); refine Qa 4 (some 32) (.int .i64 (n : Int)) rfl rfl (by kernel_rfl) (by kernel_rfl) (by kernel_rfl) (fun _ _ _ h => h) (Or.inl ⟨by kernel_rfl, fun x' hSx => by go_simp⟩) hHeld ?_; (try simp only [Act.put, List.setIfInBounds_toArray, List.set]); refine Qa 5 (some 33) (.pointer (some ⟨gl, n, none⟩)) rfl rfl (by kernel_rfl) (by kernel_rfl) (by kernel_rfl) (fun _ _ _ h => h) (Or.inl ⟨by kernel_rfl, fun x' hSx => by go_simp⟩) hHeld ?_; (try simp only [Act.put, List.setIfInBounds_toArray, List.set]); refine Qa 6 (some 34) (.slice a ll c) rfl rfl (by kernel_rfl) (by kernel_rfl) (by kernel_rfl) (fun _ _ _ h => h) (Or.inl ⟨by kernel_rfl, fun x' hSx => by have h := hSx.2.1; go_simp⟩) hHeld ?_; (try simp only [Act.put, List.setIfInBounds_toArray, List.set]); refine Qa 7 (some 35) (.pointer (some ⟨g, o, none⟩)) rfl rfl (by kernel_rfl) (by kernel_rfl) (by kernel_rfl) (fun _ _ _ h => h) (Or.inl ⟨by kernel_rfl, fun x' hSx => by go_simp⟩) hHeld ?_; (try simp only [Act.put, List.setIfInBounds_toArray, List.set]); refine Qa 8 (some 36) (.pointer (some ⟨g, o, none⟩)) rfl rfl (by kernel_rfl) (by kernel_rfl) (by kernel_rfl) (fun _ _ _ h => h) (Or.inl ⟨by kernel_rfl, fun x' hSx => by go_simp⟩) hHeld ?_
          (try simp only [Act.put, List.setIfInBounds_toArray, List.set])
          refine Qa 9 (some 37) (.pointer (some ⟨g, o + 3, none⟩)) rfl rfl (by kernel_rfl) (by kernel_rfl) (by kernel_rfl) (fun _ _ _ h => h) (Or.inl ⟨by kernel_rfl, fun x' hSx => by go_simp⟩) hHeld ?_; (try simp only [Act.put, List.setIfInBounds_toArray, List.set]); refine Qa 10 (some 38) (.int .u64 (nx : Int)) rfl rfl (by kernel_rfl) (by kernel_rfl) (by kernel_rfl) (fun _ _ _ h => h) (Or.inl ⟨by kernel_rfl, fun x' hSx => by have h := hSx.2.2; go_simp⟩) hHeld ?_; (try simp only [Act.put, List.setIfInBounds_toArray, List.set])
          refine Qkd 11 15 (by kernel_rfl) ?_ ?_
          · skip; refine Qwa (some 39) rfl rfl rfl 19 #[.slice a ll c, .int .u64 (nx : Int)] ?he ((HCR.out w.drew (Ql (Below.refl _ _))).mono ?_); (case he => go_simp); rintro e z1 ⟨rfl, hb1⟩; have B1 : Below w.heap.size w z1 := (Ql (Below.refl w.heap.size w)).trans hb1; refine ⟨_, rfl, HK0.out _ B1, ?_⟩; (try simp only [Act.put, List.setIfInBounds_toArray, List.set]); have hHeld := HK0.out _ B1; refine Qa 12 (some 27) (.tuple #[.agg rc, .int .i64 0]) rfl rfl (by kernel_rfl) (by kernel_rfl) (by kernel_rfl) (fun _ _ _ h => h) (Or.inl ⟨by kernel_rfl, fun x' hSx => by go_simp⟩) hHeld ?_; (try simp only [Act.put, List.setIfInBounds_toArray, List.set]); refine Qa 13 (some 40) (.agg rc) rfl rfl (by kernel_rfl) (by kernel_rfl) (by kernel_rfl) (fun _ _ _ h => h) (Or.inl ⟨by kernel_rfl, fun x' hSx => by go_simp⟩) hHeld ?_; (try simp only [Act.put, List.setIfInBounds_toArray, List.set]); refine Qa 14 (some 41) (.int .i64 0) rfl rfl (by kernel_rfl) (by kernel_rfl) (by kernel_rfl) (fun _ _ _ h => h) (Or.inl ⟨by kernel_rfl, fun x' hSx => by go_simp⟩) hHeld ?_; (try simp only [Act.put, List.setIfInBounds_toArray, List.set]); refine Qg 15 (by kernel_rfl) ?_; obtain ⟨g6, hg6⟩ : ∃ k, k = z1.heap.size := ⟨_, rfl⟩; have hb2 : Below z1.heap.size z1 (z1.alloc (.cells #[.int .i64 0, .int .u64 0, .int .i64 0, .int .u64 0, .int .i64 0, .int .i64 0, .int .i64 0, .string ⟨#[]⟩, .string ⟨#[]⟩, .int .u64 0, .int .i64 0, .int .u64 0, .slice none 0 0, .slice none 0 0] 30)) := (Below.refl _ _).alloc (Nat.le_refl _) _; refine Qm (some 6) rfl rfl rfl (.pointer (some ⟨g6, 0, none⟩)) (z1.alloc (.cells #[.int .i64 0, .int .u64 0, .int .i64 0, .int .u64 0, .int .i64 0, .int .i64 0, .int .i64 0, .string ⟨#[]⟩, .string ⟨#[]⟩, .int .u64 0, .int .i64 0, .int .u64 0, .slice none 0 0, .slice none 0 0] 30)) ?hz ?_; (case hz => rw [hg6]; go_simp); have B2 := B1.trans (hb2.mono B1.size); have N2 : Qb (z1.alloc (.cells #[.int .i64 0, .int .u64 0, .int .i64 0, .int .u64 0, .int .i64 0, .int .i64 0, .int .i64 0, .string ⟨#[]⟩, .string ⟨#[]⟩, .int .u64 0, .int .i64 0, .int .u64 0, .slice none 0 0, .slice none 0 0] 30)) g6 30 #[.int .i64 0, .int .u64 0, .int .i64 0, .int .u64 0, .int .i64 0, .int .i64 0, .int .i64 0, .string ⟨#[]⟩, .string ⟨#[]⟩, .int .u64 0, .int .i64 0, .int .u64 0, .slice none 0 0, .slice none 0 0] := by rw [hg6]; exact Qb.new z1 _ _
            have L6 : w.heap.size <= g6 := by rw [hg6]; exact B1.size
            refine ⟨HK0.out _ B2, ?_⟩; (try simp only [Act.put, List.setIfInBounds_toArray, List.set]); refine Qg 16 (by kernel_rfl) ?_; refine Qoa rfl rfl rfl 30 (.tmp 6) (.tmp 40) rfl g6 0 30 #[.int .i64 0, .int .u64 0, .int .i64 0, .int .u64 0, .int .i64 0, .int .i64 0, .int .i64 0, .string ⟨#[]⟩, .string ⟨#[]⟩, .int .u64 0, .int .i64 0, .int .u64 0, .slice none 0 0, .slice none 0 0] rc rfl rfl N2 hinf (by rw [hz14]; decide) hone ?_; intro z3 hr3 ho3; have hpa := Qpc #[.int .i64 0, .int .u64 0, .int .i64 0, .int .u64 0, .int .i64 0, .int .i64 0, .int .i64 0, .string ⟨#[]⟩, .string ⟨#[]⟩, .int .u64 0, .int .i64 0, .int .u64 0, .slice none 0 0, .slice none 0 0] rc (by rw [hz14]; rfl); rw [hpa] at hr3; have B3 : Below w.heap.size w z3 := ho3.below B2 L6; refine ⟨HK0.out _ B3, ?_⟩; (try simp only [Act.put, List.setIfInBounds_toArray, List.set]); have hHeld := HK0.out _ B3; refine Qa 17 (some 7) (.int .i64 0) rfl rfl (by kernel_rfl) (by kernel_rfl) (by kernel_rfl) (fun _ _ _ h => h) (Or.inl ⟨by kernel_rfl, fun x' hSx => by go_simp⟩) hHeld ?_; (try simp only [Act.put, List.setIfInBounds_toArray, List.set]); refine wpAnyH_done (by kernel_rfl) ?_ _; refine NoPanic.normal ?_; obtain ⟨a9, ha9⟩ : ∃ a9 : Option Addr, a9 = none := ⟨_, rfl⟩; obtain ⟨c9, hc9⟩ : ∃ c9 : Nat, c9 = 0 := ⟨_, rfl⟩; exact REST g6 a9 c9 z3 ⟨HH.out.later B3, hr3, Qh.first B3 (Qh.refl _ _), fun hk => by have := (HH.out.here hk).2; omega, ha9, hc9⟩
          · skip; obtain ⟨g6, hg6⟩ : ∃ k, k = w.drew.heap.size := ⟨_, rfl⟩; have hb2 : Below w.drew.heap.size w.drew (w.drew.alloc (.cells #[.int .i64 0, .int .u64 0, .int .i64 0, .int .u64 0, .int .i64 0, .int .i64 0, .int .i64 0, .string ⟨#[]⟩, .string ⟨#[]⟩, .int .u64 0, .int .i64 0, .int .u64 0, .slice none 0 0, .slice none 0 0] 30)) := (Below.refl _ _).alloc (Nat.le_refl _) _; refine Qm (some 6) rfl rfl rfl (.pointer (some ⟨g6, 0, none⟩)) (w.drew.alloc (.cells #[.int .i64 0, .int .u64 0, .int .i64 0, .int .u64 0, .int .i64 0, .int .i64 0, .int .i64 0, .string ⟨#[]⟩, .string ⟨#[]⟩, .int .u64 0, .int .i64 0, .int .u64 0, .slice none 0 0, .slice none 0 0] 30)) ?hz ?_; (case hz => rw [hg6]; go_simp); have B1 : Below w.heap.size w (w.drew.alloc (.cells #[.int .i64 0, .int .u64 0, .int .i64 0, .int .u64 0, .int .i64 0, .int .i64 0, .int .i64 0, .string ⟨#[]⟩, .string ⟨#[]⟩, .int .u64 0, .int .i64 0, .int .u64 0, .slice none 0 0, .slice none 0 0] 30)) := (Ql (Below.refl w.heap.size w)).trans hb2; have N1 : Qb (w.drew.alloc (.cells #[.int .i64 0, .int .u64 0, .int .i64 0, .int .u64 0, .int .i64 0, .int .i64 0, .int .i64 0, .string ⟨#[]⟩, .string ⟨#[]⟩, .int .u64 0, .int .i64 0, .int .u64 0, .slice none 0 0, .slice none 0 0] 30)) g6 30 #[.int .i64 0, .int .u64 0, .int .i64 0, .int .u64 0, .int .i64 0, .int .i64 0, .int .i64 0, .string ⟨#[]⟩, .string ⟨#[]⟩, .int .u64 0, .int .i64 0, .int .u64 0, .slice none 0 0, .slice none 0 0] := by rw [hg6]; exact Qb.new w.drew _ _
            have L6 : w.heap.size <= g6 := by rw [hg6]; exact Nat.le_refl _
            refine ⟨HK0.out _ B1, ?_⟩; (try simp only [Act.put, List.setIfInBounds_toArray, List.set]); refine Qg 11 (by kernel_rfl) ?_; refine Qwa (some 39) rfl rfl rfl 19 #[.slice a ll c, .int .u64 (nx : Int)] ?he ((HCR.out _ B1).mono ?_); (case he => go_simp); rintro e z1 ⟨rfl, hb1⟩; have B2 := B1.trans (hb1.mono B1.size); have N2 := N1.later hb1; refine ⟨_, rfl, HK0.out _ B2, ?_⟩; (try simp only [Act.put, List.setIfInBounds_toArray, List.set]); have hHeld := HK0.out _ B2; refine Qa 12 (some 27) (.tuple #[.agg rc, .int .i64 0]) rfl rfl (by kernel_rfl) (by kernel_rfl) (by kernel_rfl) (fun _ _ _ h => h) (Or.inl ⟨by kernel_rfl, fun x' hSx => by go_simp⟩) hHeld ?_; (try simp only [Act.put, List.setIfInBounds_toArray, List.set]); refine Qa 13 (some 40) (.agg rc) rfl rfl (by kernel_rfl) (by kernel_rfl) (by kernel_rfl) (fun _ _ _ h => h) (Or.inl ⟨by kernel_rfl, fun x' hSx => by go_simp⟩) hHeld ?_; (try simp only [Act.put, List.setIfInBounds_toArray, List.set]); refine Qa 14 (some 41) (.int .i64 0) rfl rfl (by kernel_rfl) (by kernel_rfl) (by kernel_rfl) (fun _ _ _ h => h) (Or.inl ⟨by kernel_rfl, fun x' hSx => by go_simp⟩) hHeld ?_; (try simp only [Act.put, List.setIfInBounds_toArray, List.set]); refine Qg 16 (by kernel_rfl) ?_; refine Qoa rfl rfl rfl 30 (.tmp 6) (.tmp 40) rfl g6 0 30 #[.int .i64 0, .int .u64 0, .int .i64 0, .int .u64 0, .int .i64 0, .int .i64 0, .int .i64 0, .string ⟨#[]⟩, .string ⟨#[]⟩, .int .u64 0, .int .i64 0, .int .u64 0, .slice none 0 0, .slice none 0 0] rc rfl rfl N2 hinf (by rw [hz14]; decide) hone ?_; intro z3 hr3 ho3; have hpa := Qpc #[.int .i64 0, .int .u64 0, .int .i64 0, .int .u64 0, .int .i64 0, .int .i64 0, .int .i64 0, .string ⟨#[]⟩, .string ⟨#[]⟩, .int .u64 0, .int .i64 0, .int .u64 0, .slice none 0 0, .slice none 0 0] rc (by rw [hz14]; rfl); rw [hpa] at hr3; have B3 : Below w.heap.size w z3 := ho3.below B2 L6; refine ⟨HK0.out _ B3, ?_⟩; (try simp only [Act.put, List.setIfInBounds_toArray, List.set]); have hHeld := HK0.out _ B3; refine Qa 17 (some 7) (.int .i64 0) rfl rfl (by kernel_rfl) (by kernel_rfl) (by kernel_rfl) (fun _ _ _ h => h) (Or.inl ⟨by kernel_rfl, fun x' hSx => by go_simp⟩) hHeld ?_; (try simp only [Act.put, List.setIfInBounds_toArray, List.set]); refine wpAnyH_done (by kernel_rfl) ?_ _; refine NoPanic.normal ?_; obtain ⟨a9, ha9⟩ : ∃ a9 : Option Addr, a9 = none := ⟨_, rfl⟩; obtain ⟨c9, hc9⟩ : ∃ c9 : Nat, c9 = 0 := ⟨_, rfl⟩
            exact REST g6 a9 c9 z3 ⟨HH.out.later B3, hr3, Qh.first B3 (Qh.refl _ _), fun hk => by have := (HH.out.here hk).2; omega, ha9, hc9⟩)
        intro g6 a9 c9 z HZ; go_wp2_with (with_reducible refine Qia 45 rfl ?_); refine Qj ?_; refine Qe rfl 30 (.tmp 6) rfl g6 rfl rc HZ.out.2.1 _ Try.underlying30 rfl hinf ?_; go_wp2_with fail; refine (HTU.out z F HZ.out.1).mono ?_; rintro e z2 ⟨F2, rfl, hb2, ha2⟩; have H2 : Hid (HB z2 B g F2 (h.turn n i cr) /\ Qb z2 g6 30 rc /\ Qh F F2 w z2) := ⟨hb2, ha2.row HZ.out.2.1 HZ.out.2.2.2.1, HZ.out.2.2.1.trans ha2⟩; have c9r := H2.out.2.1.cell 9 _ HNX.out; have f3 := hb2.free (o + 3); have t3 := (hb2.tu hi HO.out).2.2.2; clear hb2 ha2 HZ HCR HK0 HTU; obtain ⟨q, hq⟩ : ∃ q, q = cr.n := ⟨_, rfl⟩; rw [<- hq] at c9r HB3; clear hq HNX; go_wp2
        have q8 := H2.out.1.cell (h' := (h.turn n i cr).nextIs i q) (o + 3) (.int .u64 (q : Int)) (fun cs a b c H => by rw [HO.out]; exact H.setTx hi _ 3 (by omega) _ rfl (fun k hk he => by
          rcases (show k = 0 ∨ k = 1 ∨ k = 2 ∨ k = 3 by omega) with rfl | rfl | rfl | rfl
          · rfl
          · rfl
          · rfl
          · exact absurd rfl he)) rfl rfl rfl
        refine bodyPost_end (results_none rfl _ _ _) rfl ⟨F2, rfl, ?_, H2.out.2.2.trans q8.2⟩; rw [HB3.out]; exact q8.1
      · skip; go_enter Try.func55, Try.ntmps55; go_wp2_with fail; clear t1; have k0 : ∀ z, Below w.heap.size w z -> z.cell? ⟨g, 0, none⟩ = some (.slice (some ⟨gl, 0, none⟩) 3 3) /\ z.cell? ⟨gl, n, none⟩ = some (.slice a ll c) /\ z.cell? ⟨g, o + 3, none⟩ = some (.int .u64 (nx : Int)) := fun z hz => ⟨Qgc c0 hz, Qgc c1 hz, Qgc t3 hz⟩
        have HK0 := Qd k0; clear k0 c0 c1 t3; apply Qqm (F := fun g6 a9 c9 z => Hid (HB z B g F h /\ Qb z g6 30 rc /\ Qh F F w z /\ ¬ F g6 /\ a9 = none /\ c9 = 0))
        (case h =>
          intro REST; refine wp_region_noPanic ?_; refine wp_region_held_drew (S := fun z => z.cell? ⟨g, 0, none⟩ = some (.slice (some ⟨gl, 0, none⟩) 3 3) /\ z.cell? ⟨gl, n, none⟩ = some (.slice a ll c) /\ z.cell? ⟨g, o + 3, none⟩ = some (.int .u64 (nx : Int))) (by kernel_rfl) (HK0.out _ (Ql (Below.refl _ _))) (fun hHeld => ?_); refine Qa 0 (some 28) (.pointer (some ⟨g, 0, none⟩)) rfl rfl (by kernel_rfl) (by kernel_rfl) (by kernel_rfl) (fun _ _ _ h => h) (Or.inl ⟨by kernel_rfl, fun x' hSx => by go_simp⟩) hHeld ?_; (try simp only [Act.put, List.setIfInBounds_toArray, List.set]); refine Qa 1 (some 29) (.pointer (some ⟨g, 0, none⟩)) rfl rfl (by kernel_rfl) (by kernel_rfl) (by kernel_rfl) (fun _ _ _ h => h) (Or.inl ⟨by kernel_rfl, fun x' hSx => by go_simp⟩) hHeld ?_; (try simp only [Act.put, List.setIfInBounds_toArray, List.set]); refine Qa 2 (some 30) (.pointer (some ⟨g, 0, none⟩)) rfl rfl (by kernel_rfl) (by kernel_rfl) (by kernel_rfl) (fun _ _ _ h => h) (Or.inl ⟨by kernel_rfl, fun x' hSx => by go_simp⟩) hHeld ?_; (try simp only [Act.put, List.setIfInBounds_toArray, List.set]); refine Qa 3 (some 31) (.slice (some ⟨gl, 0, none⟩) 3 3) rfl rfl (by kernel_rfl) (by kernel_rfl) (by kernel_rfl) (fun _ _ _ h => h) (Or.inl ⟨by kernel_rfl, fun x' hSx => by have h := hSx.1; go_simp⟩) hHeld ?_; (try simp only [Act.put, List.setIfInBounds_toArray, List.set]); refine Qa 4 (some 32) (.int .i64 (n : Int)) rfl rfl (by kernel_rfl) (by kernel_rfl) (by kernel_rfl) (fun _ _ _ h => h) (Or.inl ⟨by kernel_rfl, fun x' hSx => by go_simp⟩) hHeld ?_; (try simp only [Act.put, List.setIfInBounds_toArray, List.set]); refine Qa 5 (some 33) (.pointer (some ⟨gl, n, none⟩)) rfl rfl (by kernel_rfl) (by kernel_rfl) (by kernel_rfl) (fun _ _ _ h => h) (Or.inl ⟨by kernel_rfl, fun x' hSx => by go_simp⟩) hHeld ?_; (try simp only [Act.put, List.setIfInBounds_toArray, List.set]); refine Qa 6 (some 34) (.slice a ll c) rfl rfl (by kernel_rfl) (by kernel_rfl) (by kernel_rfl) (fun _ _ _ h => h) (Or.inl ⟨by kernel_rfl, fun x' hSx => by have h := hSx.2.1; go_simp⟩) hHeld ?_; (try simp only [Act.put, List.setIfInBounds_toArray, List.set]); refine Qa 7 (some 35) (.pointer (some ⟨g, o, none⟩)) rfl rfl (by kernel_rfl) (by kernel_rfl) (by kernel_rfl) (fun _ _ _ h => h) (Or.inl ⟨by kernel_rfl, fun x' hSx => by go_simp⟩) hHeld ?_; (try simp only [Act.put, List.setIfInBounds_toArray, List.set]); refine Qa 8 (some 36) (.pointer (some ⟨g, o, none⟩)) rfl rfl (by kernel_rfl) (by kernel_rfl) (by kernel_rfl) (fun _ _ _ h => h) (Or.inl ⟨by kernel_rfl, fun x' hSx => by go_simp⟩) hHeld ?_
          (try simp only [Act.put, List.setIfInBounds_toArray, List.set])
          refine Qa 9 (some 37) (.pointer (some ⟨g, o + 3, none⟩)) rfl rfl (by kernel_rfl) (by kernel_rfl) (by kernel_rfl) (fun _ _ _ h => h) (Or.inl ⟨by kernel_rfl, fun x' hSx => by go_simp⟩) hHeld ?_; (try simp only [Act.put, List.setIfInBounds_toArray, List.set]); refine Qa 10 (some 38) (.int .u64 (nx : Int)) rfl rfl (by kernel_rfl) (by kernel_rfl) (by kernel_rfl) (fun _ _ _ h => h) (Or.inl ⟨by kernel_rfl, fun x' hSx => by have h := hSx.2.2; go_simp⟩) hHeld ?_; (try simp only [Act.put, List.setIfInBounds_toArray, List.set])
          refine Qkd 11 15 (by kernel_rfl) ?_ ?_
          · skip; refine Qwa (some 39) rfl rfl rfl 19 #[.slice a ll c, .int .u64 (nx : Int)] ?he ((HCR.out w.drew (Ql (Below.refl _ _))).mono ?_); (case he => go_simp); rintro e z1 ⟨rfl, hb1⟩; have B1 : Below w.heap.size w z1 := (Ql (Below.refl w.heap.size w)).trans hb1; refine ⟨_, rfl, HK0.out _ B1, ?_⟩; (try simp only [Act.put, List.setIfInBounds_toArray, List.set]); have hHeld := HK0.out _ B1; refine Qa 12 (some 27) (.tuple #[.agg rc, .int .i64 0]) rfl rfl (by kernel_rfl) (by kernel_rfl) (by kernel_rfl) (fun _ _ _ h => h) (Or.inl ⟨by kernel_rfl, fun x' hSx => by go_simp⟩) hHeld ?_; (try simp only [Act.put, List.setIfInBounds_toArray, List.set]); refine Qa 13 (some 40) (.agg rc) rfl rfl (by kernel_rfl) (by kernel_rfl) (by kernel_rfl) (fun _ _ _ h => h) (Or.inl ⟨by kernel_rfl, fun x' hSx => by go_simp⟩) hHeld ?_; (try simp only [Act.put, List.setIfInBounds_toArray, List.set]); refine Qa 14 (some 41) (.int .i64 0) rfl rfl (by kernel_rfl) (by kernel_rfl) (by kernel_rfl) (fun _ _ _ h => h) (Or.inl ⟨by kernel_rfl, fun x' hSx => by go_simp⟩) hHeld ?_; (try simp only [Act.put, List.setIfInBounds_toArray, List.set]); refine Qg 15 (by kernel_rfl) ?_; obtain ⟨g6, hg6⟩ : ∃ k, k = z1.heap.size := ⟨_, rfl⟩; have hb2 : Below z1.heap.size z1 (z1.alloc (.cells #[.int .i64 0, .int .u64 0, .int .i64 0, .int .u64 0, .int .i64 0, .int .i64 0, .int .i64 0, .string ⟨#[]⟩, .string ⟨#[]⟩, .int .u64 0, .int .i64 0, .int .u64 0, .slice none 0 0, .slice none 0 0] 30)) := (Below.refl _ _).alloc (Nat.le_refl _) _; refine Qm (some 6) rfl rfl rfl (.pointer (some ⟨g6, 0, none⟩)) (z1.alloc (.cells #[.int .i64 0, .int .u64 0, .int .i64 0, .int .u64 0, .int .i64 0, .int .i64 0, .int .i64 0, .string ⟨#[]⟩, .string ⟨#[]⟩, .int .u64 0, .int .i64 0, .int .u64 0, .slice none 0 0, .slice none 0 0] 30)) ?hz ?_; (case hz => rw [hg6]; go_simp); have B2 := B1.trans (hb2.mono B1.size); have N2 : Qb (z1.alloc (.cells #[.int .i64 0, .int .u64 0, .int .i64 0, .int .u64 0, .int .i64 0, .int .i64 0, .int .i64 0, .string ⟨#[]⟩, .string ⟨#[]⟩, .int .u64 0, .int .i64 0, .int .u64 0, .slice none 0 0, .slice none 0 0] 30)) g6 30 #[.int .i64 0, .int .u64 0, .int .i64 0, .int .u64 0, .int .i64 0, .int .i64 0, .int .i64 0, .string ⟨#[]⟩, .string ⟨#[]⟩, .int .u64 0, .int .i64 0, .int .u64 0, .slice none 0 0, .slice none 0 0] := by rw [hg6]; exact Qb.new z1 _ _
            have L6 : w.heap.size <= g6 := by rw [hg6]; exact B1.size
            refine ⟨HK0.out _ B2, ?_⟩; (try simp only [Act.put, List.setIfInBounds_toArray, List.set]); refine Qg 16 (by kernel_rfl) ?_; refine Qoa rfl rfl rfl 30 (.tmp 6) (.tmp 40) rfl g6 0 30 #[.int .i64 0, .int .u64 0, .int .i64 0, .int .u64 0, .int .i64 0, .int .i64 0, .int .i64 0, .string ⟨#[]⟩, .string ⟨#[]⟩, .int .u64 0, .int .i64 0, .int .u64 0, .slice none 0 0, .slice none 0 0] rc rfl rfl N2 hinf (by rw [hz14]; decide) hone ?_; intro z3 hr3 ho3; have hpa := Qpc #[.int .i64 0, .int .u64 0, .int .i64 0, .int .u64 0, .int .i64 0, .int .i64 0, .int .i64 0, .string ⟨#[]⟩, .string ⟨#[]⟩, .int .u64 0, .int .i64 0, .int .u64 0, .slice none 0 0, .slice none 0 0] rc (by rw [hz14]; rfl); rw [hpa] at hr3; have B3 : Below w.heap.size w z3 := ho3.below B2 L6; refine ⟨HK0.out _ B3, ?_⟩; (try simp only [Act.put, List.setIfInBounds_toArray, List.set]); have hHeld := HK0.out _ B3; refine Qa 17 (some 7) (.int .i64 0) rfl rfl (by kernel_rfl) (by kernel_rfl) (by kernel_rfl) (fun _ _ _ h => h) (Or.inl ⟨by kernel_rfl, fun x' hSx => by go_simp⟩) hHeld ?_; (try simp only [Act.put, List.setIfInBounds_toArray, List.set]); refine wpAnyH_done (by kernel_rfl) ?_ _; refine NoPanic.normal ?_; obtain ⟨a9, ha9⟩ : ∃ a9 : Option Addr, a9 = none := ⟨_, rfl⟩; obtain ⟨c9, hc9⟩ : ∃ c9 : Nat, c9 = 0 := ⟨_, rfl⟩; exact REST g6 a9 c9 z3 ⟨HH.out.later B3, hr3, Qh.first B3 (Qh.refl _ _), fun hk => by have := (HH.out.here hk).2; omega, ha9, hc9⟩
          · skip; obtain ⟨g6, hg6⟩ : ∃ k, k = w.drew.heap.size := ⟨_, rfl⟩; have hb2 : Below w.drew.heap.size w.drew (w.drew.alloc (.cells #[.int .i64 0, .int .u64 0, .int .i64 0, .int .u64 0, .int .i64 0, .int .i64 0, .int .i64 0, .string ⟨#[]⟩, .string ⟨#[]⟩, .int .u64 0, .int .i64 0, .int .u64 0, .slice none 0 0, .slice none 0 0] 30)) := (Below.refl _ _).alloc (Nat.le_refl _) _; refine Qm (some 6) rfl rfl rfl (.pointer (some ⟨g6, 0, none⟩)) (w.drew.alloc (.cells #[.int .i64 0, .int .u64 0, .int .i64 0, .int .u64 0, .int .i64 0, .int .i64 0, .int .i64 0, .string ⟨#[]⟩, .string ⟨#[]⟩, .int .u64 0, .int .i64 0, .int .u64 0, .slice none 0 0, .slice none 0 0] 30)) ?hz ?_; (case hz => rw [hg6]; go_simp); have B1 : Below w.heap.size w (w.drew.alloc (.cells #[.int .i64 0, .int .u64 0, .int .i64 0, .int .u64 0, .int .i64 0, .int .i64 0, .int .i64 0, .string ⟨#[]⟩, .string ⟨#[]⟩, .int .u64 0, .int .i64 0, .int .u64 0, .slice none 0 0, .slice none 0 0] 30)) := (Ql (Below.refl w.heap.size w)).trans hb2; have N1 : Qb (w.drew.alloc (.cells #[.int .i64 0, .int .u64 0, .int .i64 0, .int .u64 0, .int .i64 0, .int .i64 0, .int .i64 0, .string ⟨#[]⟩, .string ⟨#[]⟩, .int .u64 0, .int .i64 0, .int .u64 0, .slice none 0 0, .slice none 0 0] 30)) g6 30 #[.int .i64 0, .int .u64 0, .int .i64 0, .int .u64 0, .int .i64 0, .int .i64 0, .int .i64 0, .string ⟨#[]⟩, .string ⟨#[]⟩, .int .u64 0, .int .i64 0, .int .u64 0, .slice none 0 0, .slice none 0 0] := by rw [hg6]; exact Qb.new w.drew _ _
            have L6 : w.heap.size <= g6 := by rw [hg6]; exact Nat.le_refl _
            refine ⟨HK0.out _ B1, ?_⟩; (try simp only [Act.put, List.setIfInBounds_toArray, List.set]); refine Qg 11 (by kernel_rfl) ?_; refine Qwa (some 39) rfl rfl rfl 19 #[.slice a ll c, .int .u64 (nx : Int)] ?he ((HCR.out _ B1).mono ?_); (case he => go_simp); rintro e z1 ⟨rfl, hb1⟩; have B2 := B1.trans (hb1.mono B1.size); have N2 := N1.later hb1; refine ⟨_, rfl, HK0.out _ B2, ?_⟩; (try simp only [Act.put, List.setIfInBounds_toArray, List.set]); have hHeld := HK0.out _ B2; refine Qa 12 (some 27) (.tuple #[.agg rc, .int .i64 0]) rfl rfl (by kernel_rfl) (by kernel_rfl) (by kernel_rfl) (fun _ _ _ h => h) (Or.inl ⟨by kernel_rfl, fun x' hSx => by go_simp⟩) hHeld ?_; (try simp only [Act.put, List.setIfInBounds_toArray, List.set]); refine Qa 13 (some 40) (.agg rc) rfl rfl (by kernel_rfl) (by kernel_rfl) (by kernel_rfl) (fun _ _ _ h => h) (Or.inl ⟨by kernel_rfl, fun x' hSx => by go_simp⟩) hHeld ?_; (try simp only [Act.put, List.setIfInBounds_toArray, List.set]); refine Qa 14 (some 41) (.int .i64 0) rfl rfl (by kernel_rfl) (by kernel_rfl) (by kernel_rfl) (fun _ _ _ h => h) (Or.inl ⟨by kernel_rfl, fun x' hSx => by go_simp⟩) hHeld ?_; (try simp only [Act.put, List.setIfInBounds_toArray, List.set]); refine Qg 16 (by kernel_rfl) ?_; refine Qoa rfl rfl rfl 30 (.tmp 6) (.tmp 40) rfl g6 0 30 #[.int .i64 0, .int .u64 0, .int .i64 0, .int .u64 0, .int .i64 0, .int .i64 0, .int .i64 0, .string ⟨#[]⟩, .string ⟨#[]⟩, .int .u64 0, .int .i64 0, .int .u64 0, .slice none 0 0, .slice none 0 0] rc rfl rfl N2 hinf (by rw [hz14]; decide) hone ?_; intro z3 hr3 ho3; have hpa := Qpc #[.int .i64 0, .int .u64 0, .int .i64 0, .int .u64 0, .int .i64 0, .int .i64 0, .int .i64 0, .string ⟨#[]⟩, .string ⟨#[]⟩, .int .u64 0, .int .i64 0, .int .u64 0, .slice none 0 0, .slice none 0 0] rc (by rw [hz14]; rfl); rw [hpa] at hr3; have B3 : Below w.heap.size w z3 := ho3.below B2 L6; refine ⟨HK0.out _ B3, ?_⟩; (try simp only [Act.put, List.setIfInBounds_toArray, List.set]); have hHeld := HK0.out _ B3; refine Qa 17 (some 7) (.int .i64 0) rfl rfl (by kernel_rfl) (by kernel_rfl) (by kernel_rfl) (fun _ _ _ h => h) (Or.inl ⟨by kernel_rfl, fun x' hSx => by go_simp⟩) hHeld ?_; (try simp only [Act.put, List.setIfInBounds_toArray, List.set]); refine wpAnyH_done (by kernel_rfl) ?_ _; refine NoPanic.normal ?_; obtain ⟨a9, ha9⟩ : ∃ a9 : Option Addr, a9 = none := ⟨_, rfl⟩; obtain ⟨c9, hc9⟩ : ∃ c9 : Nat, c9 = 0 := ⟨_, rfl⟩
            exact REST g6 a9 c9 z3 ⟨HH.out.later B3, hr3, Qh.first B3 (Qh.refl _ _), fun hk => by have := (HH.out.here hk).2; omega, ha9, hc9⟩)
        intro g6 a9 c9 z HZ; go_wp2_with (with_reducible refine Qia 45 rfl ?_); refine Qj ?_; refine Qe rfl 30 (.tmp 6) rfl g6 rfl rc HZ.out.2.1 _ Try.underlying30 rfl hinf ?_; go_wp2_with fail; refine (HTU.out z F HZ.out.1).mono ?_; rintro e z2 ⟨F2, rfl, hb2, ha2⟩; have H2 : Hid (HB z2 B g F2 (h.turn n i cr) /\ Qb z2 g6 30 rc /\ Qh F F2 w z2) := ⟨hb2, ha2.row HZ.out.2.1 HZ.out.2.2.2.1, HZ.out.2.2.1.trans ha2⟩; have c9r := H2.out.2.1.cell 9 _ HNX.out; have f3 := hb2.free (o + 3); have t3 := (hb2.tu hi HO.out).2.2.2; clear hb2 ha2 HZ HCR HK0 HTU; obtain ⟨q, hq⟩ : ∃ q, q = cr.n := ⟨_, rfl⟩; rw [<- hq] at c9r HB3; clear hq HNX; go_wp2
        have q8 := H2.out.1.cell (h' := (h.turn n i cr).nextIs i q) (o + 3) (.int .u64 (q : Int)) (fun cs a b c H => by rw [HO.out]; exact H.setTx hi _ 3 (by omega) _ rfl (fun k hk he => by
          rcases (show k = 0 ∨ k = 1 ∨ k = 2 ∨ k = 3 by omega) with rfl | rfl | rfl | rfl
          · rfl
          · rfl
          · rfl
          · exact absurd rfl he)) rfl rfl rfl
        refine bodyPost_end (results_none rfl _ _ _) rfl ⟨F2, rfl, ?_, H2.out.2.2.trans q8.2⟩; rw [HB3.out]; exact q8.1
structure Hs.sound (h : Hs) : Prop where
  few : h.few
  rise : ∀ n, n < 3 -> Qob 0 (h.lg n)
  pgs : ∀ n, n < 3 -> ∀ r ∈ h.lg n, r.k = 1 -> r.c.pg < 4
  next : ∀ i, i < 9 -> (h.tx i).next ≠ 0 -> ∃ r ∈ h.lg (i / 3), r.l = (h.tx i).next /\ r.k = 1
def litR (k s : Int) : Array Value := #[.int .i64 k, .int .u64 0, .int .i64 0, .int .u64 0, .int .i64 0, .int .i64 0, .int .i64 0, .string ⟨#[]⟩, .string ⟨#[]⟩, .int .u64 0, .int .i64 s, .int .u64 0, .slice none 0 0, .slice none 0 0]
theorem Qks : (Try.prog.info? 95).map (·.size) = some 7 := by kernel_rfl
theorem Qmh (k s : Int) : rcF (Qlb (Qs k Ch.zero s)) = litR k s := rfl
theorem bare_bare (k s : Int) : (Qs k Ch.zero s).bare := ⟨rfl, rfl, Qib Quk.c rfl rfl⟩
theorem does_kd {h : Hs} {ac : Ac} {n k kd : Nat} (hn : n = pick15 ac.n 3) (hk : k = pick15 ac.t 3) (hd : kd = pick15 ac.k 13) : h.does ac = if kd <= 5 then h.change n (n * 3 + k) ac else if kd = 12 then h.setCk n (max (h.ck n) (h.ck k)) else if (h.tx (n * 3 + k)).last = 0 then h else h.does2 n (n * 3 + k) kd ac := by
  rw [hn, hk, hd]; rfl
theorem hdoes15 (w : World) (B g : Nat) (F : Nat -> Prop) (h : Hs) (ac : Ac) (H : HB w B g F h) (hf : ac.fits) (hs : h.sound) :
    Calls Try.prog 34 #[.pointer (some ⟨g, 0, none⟩), .agg (acA ac)] w fun e w' => ∃ F', e = .returned (.tuple #[]) /\ HB w' B g F' (h.does ac) /\ Qh F F' w w' := by
  have HS := Qd hs; have HFT := Qd hf; have hac : acA ac = #[.int .i64 ac.k, .int .i64 ac.n, .int .i64 ac.t, .int .i64 ac.pg, .int .i64 ac.sl, .bool ac.d, .string ac.v] := rfl; rw [hac]; have hb0 : Below w.heap.size w (w.alloc (.cells #[.int .i64 ac.k, .int .i64 ac.n, .int .i64 ac.t, .int .i64 ac.pg, .int .i64 ac.sl, .bool ac.d, .string ac.v] 95)) := (Below.refl _ _).alloc (Nat.le_refl _) _; obtain ⟨g3, hg3⟩ : ∃ k, k = w.heap.size := ⟨_, rfl⟩; have HG3 := Qd hg3
  have H0 : Hid (HB (w.alloc (.cells #[.int .i64 ac.k, .int .i64 ac.n, .int .i64 ac.t, .int .i64 ac.pg, .int .i64 ac.sl, .bool ac.d, .string ac.v] 95)) B g F h /\ Qb (w.alloc (.cells #[.int .i64 ac.k, .int .i64 ac.n, .int .i64 ac.t, .int .i64 ac.pg, .int .i64 ac.sl, .bool ac.d, .string ac.v] 95)) g3 95 #[.int .i64 ac.k, .int .i64 ac.n, .int .i64 ac.t, .int .i64 ac.pg, .int .i64 ac.sl, .bool ac.d, .string ac.v] /\ Qh F F w (w.alloc (.cells #[.int .i64 ac.k, .int .i64 ac.n, .int .i64 ac.t, .int .i64 ac.pg, .int .i64 ac.sl, .bool ac.d, .string ac.v] 95)) /\ ¬ F g3) := by
    rw [hg3]; exact ⟨H.later hb0, Qb.new w _ _, Qh.first hb0 (Qh.refl _ _), fun hk => by have := (H.here hk).2; omega⟩
  have HP1 := Qd (fun w => (Qxh ac.n 3 w hf.n (by decide) (by decide)).mono (fun e w' h => And.intro h.1 h.2.symm)); have HP2 := Qd (fun w => (Qxh ac.t 3 w hf.t (by decide) (by decide)).mono (fun e w' h => And.intro h.1 h.2.symm)); have HP3 := Qd (fun w => (Qxh ac.k 13 w hf.k (by decide) (by decide)).mono (fun e w' h => And.intro h.1 h.2.symm)); have HP4 := Qd (fun w => (Qxh ac.sl 8 w hf.sl (by decide) (by decide)).mono (fun e w' h => And.intro h.1 h.2.symm)); obtain ⟨n, hn0⟩ : ∃ p, p = pick15 ac.n 3 := ⟨_, rfl⟩; obtain ⟨k, hk0⟩ : ∃ p, p = pick15 ac.t 3 := ⟨_, rfl⟩; obtain ⟨kd, hd0⟩ : ∃ p, p = pick15 ac.k 13 := ⟨_, rfl⟩; obtain ⟨sl, hsl0⟩ : ∃ p, p = pick15 ac.sl 8 := ⟨_, rfl⟩; have hn : n < 3 := by rw [hn0]; exact Qrb _ _ (by decide)
  have hk : k < 3 := by rw [hk0]; exact Qrb _ _ (by decide)
  have hd : kd < 13 := by rw [hd0]; exact Qrb _ _ (by decide)
  have hsl : sl < 8 := by rw [hsl0]; exact Qrb _ _ (by decide)
  have in3 : (n : Int) < 3 := by omega
  have ik3 : (k : Int) < 3 := by omega
  have HD := Qd (does_kd (h := h) (ac := ac) hn0 hk0 hd0); have HSL := Qd hsl0; rw [<- hn0] at HP1; rw [<- hk0] at HP2; rw [<- hd0] at HP3; rw [<- hsl0] at HP4; clear hb0 hg3 H hac hs hf hn0 hk0 hd0 hsl0; go_enter Try.func34, Try.ntmps34; go_wp2_with fail; rw [<- HG3.out]; refine Qda (fun y => HB y B g F h /\ Qb y g3 95 #[.int .i64 ac.k, .int .i64 ac.n, .int .i64 ac.t, .int .i64 ac.pg, .int .i64 ac.sl, .bool ac.d, .string ac.v] /\ Qh F F w y /\ ¬ F g3) H0.out ?_; intro y HY0; have HY := Qd HY0; have a2 := HY.out.2.1.cell 2 (.int .i64 ac.t) rfl; clear HY0 H0; refine (HP1.out y).mono ?_; rintro e y1 ⟨rfl, rfl⟩; go_wp2_with fail; go_quiet (first | (go_at_call 51; first | with_reducible exact Calls.quiet_of_same (HP2.out _))); clear a2; refine Qyb (fun y => HB y B g F h /\ Qb y g3 95 #[.int .i64 ac.k, .int .i64 ac.n, .int .i64 ac.t, .int .i64 ac.pg, .int .i64 ac.sl, .bool ac.d, .string ac.v] /\ Qh F F w y /\ ¬ F g3) (show _ from ⟨HY.out.1.later (Qo (Below.refl _ _) _), HY.out.2.1, HY.out.2.2.1.later (Qo (Below.refl _ _) _), HY.out.2.2.2⟩) ?_; clear HY; intro y HY0; have HY := Qd HY0; have a0 := HY.out.2.1.cell 0 (.int .i64 ac.k) rfl; clear HY0; go_wp2_with fail; refine (HP3.out y).mono ?_; rintro e y2 ⟨rfl, hy2⟩; subst y2; clear a0; obtain ⟨i, hi0⟩ : ∃ i, i = n * 3 + k := ⟨_, rfl⟩; have hi : i < 9 := by omega
  have hi3 : i / 3 = n := by omega
  rw [<- hi0] at HD; obtain ⟨o, ho⟩ : ∃ o, o = 9 + n * 12 + k * 4 := ⟨_, rfl⟩; rw [<- ho]; have HO : Hid (o = 9 + i * 4) := by show o = _; omega
  have HI3 := Qd hi3; clear ho hi0 hi3
  by_cases d5 : kd <= 5
  · have d5i : (kd : Int) <= 5 := by omega
    have HC := Qd (hchange15 y B g n i o F h ac HY.out.1 hn hi HO.out HFT.out HS.out.few); rw [show acA ac = #[.int .i64 ac.k, .int .i64 ac.n, .int .i64 ac.t, .int .i64 ac.pg, .int .i64 ac.sl, .bool ac.d, .string ac.v] from rfl] at HC; go_wp2_with (with_reducible refine Qia 28 rfl ?_); refine Qj ?_; refine Qe rfl 95 (.tmp 3) rfl g3 rfl #[.int .i64 ac.k, .int .i64 ac.n, .int .i64 ac.t, .int .i64 ac.pg, .int .i64 ac.sl, .bool ac.d, .string ac.v] HY.out.2.1 _ Try.underlying95 rfl Qks ?_; go_wp2_with fail; refine HC.out.mono ?_; rintro e z ⟨F1, rfl, hb1, ha1⟩; have H1 := Qd (And.intro hb1 ha1); clear hb1 ha1 HC; go_wp2; refine bodyPost_ret (results_none rfl _ _ _) rfl ⟨F1, rfl, ?_, HY.out.2.2.1.trans H1.out.2⟩; rw [HD.out, if_pos d5]; exact H1.out.1
  have d5i : ¬ (kd : Int) <= 5 := by omega
  by_cases d12 : kd = 12
  · subst d12; have c1 := HY.out.1.ck hn; have c2 := HY.out.1.ck hk; have fr := HY.out.1.free (3 + n); have a2 := HY.out.2.1.cell 2 (.int .i64 ac.t) rfl; have HN3 : Hid (¬ g3 = g) := fun e => HY.out.2.2.2 (by rw [e]; exact HY.out.1.mine)
    obtain ⟨M, hM⟩ : ∃ M, M = max (h.ck n) (h.ck k) := ⟨_, rfl⟩
    have HM : Hid (h.does ac = h.setCk n M) := by
      show h.does ac = _; rw [HD.out, if_neg (by decide), if_pos rfl, hM]
    generalize h.ck n = p1 at *; generalize h.ck k = p2 at *
    have hmx : (if p1 < p2 then (p2 : Int) else (p1 : Int)) = (M : Int) := by
      rw [hM]
      by_cases hq : p1 < p2
      · rw [if_pos hq]; omega
      · rw [if_neg hq]; omega
    clear hM; go_wp2_with fail; refine wp_region_noPanic ?_; refine wp_region_held_drew (S := fun z => z.cell? ⟨g3, 2, none⟩ = some (.int .i64 ac.t)) (by kernel_rfl) (a2) (fun hHeld => ?_); refine Qa 0 (some 32) (.pointer (some ⟨g, 0, none⟩)) rfl rfl (by kernel_rfl) (by kernel_rfl) (by kernel_rfl) (fun _ _ _ h => h) (Or.inl ⟨by kernel_rfl, fun x' hSx => by go_simp⟩) hHeld ?_; (try simp only [Act.put, List.setIfInBounds_toArray, List.set]); refine Qa 1 (some 33) (.int .i64 (n : Int)) rfl rfl (by kernel_rfl) (by kernel_rfl) (by kernel_rfl) (fun _ _ _ h => h) (Or.inl ⟨by kernel_rfl, fun x' hSx => by go_simp⟩) hHeld ?_; (try simp only [Act.put, List.setIfInBounds_toArray, List.set]); refine Qa 2 (some 34) (.pointer (some ⟨g, 0, none⟩)) rfl rfl (by kernel_rfl) (by kernel_rfl) (by kernel_rfl) (fun _ _ _ h => h) (Or.inl ⟨by kernel_rfl, fun x' hSx => by go_simp⟩) hHeld ?_; (try simp only [Act.put, List.setIfInBounds_toArray, List.set]); refine Qa 3 (some 35) (.int .i64 (n : Int)) rfl rfl (by kernel_rfl) (by kernel_rfl) (by kernel_rfl) (fun _ _ _ h => h) (Or.inl ⟨by kernel_rfl, fun x' hSx => by go_simp⟩) hHeld ?_; (try simp only [Act.put, List.setIfInBounds_toArray, List.set]); refine Qa 4 (some 36) (.pointer (some ⟨g, 0, none⟩)) rfl rfl (by kernel_rfl) (by kernel_rfl) (by kernel_rfl) (fun _ _ _ h => h) (Or.inl ⟨by kernel_rfl, fun x' hSx => by go_simp⟩) hHeld ?_; (try simp only [Act.put, List.setIfInBounds_toArray, List.set]); refine Qa 5 (some 37) (.pointer (some ⟨g, 3, none⟩)) rfl rfl (by kernel_rfl) (by kernel_rfl) (by kernel_rfl) (fun _ _ _ h => h) (Or.inl ⟨by kernel_rfl, fun x' hSx => by go_simp⟩) hHeld ?_; (try simp only [Act.put, List.setIfInBounds_toArray, List.set]); refine Qa 6 (some 38) (.pointer (some ⟨g, 3 + n, none⟩)) rfl rfl (by kernel_rfl) (by kernel_rfl) (by kernel_rfl) (fun _ _ _ h => h) (Or.inl ⟨by kernel_rfl, fun x' hSx => by go_simp⟩) hHeld ?_; (try simp only [Act.put, List.setIfInBounds_toArray, List.set]); refine Qa 8 (some 40) (.pointer (some ⟨g, 0, none⟩)) rfl rfl (by kernel_rfl) (by kernel_rfl) (by kernel_rfl) (fun _ _ _ h => h) (Or.inl ⟨by kernel_rfl, fun x' hSx => by go_simp⟩) hHeld ?_; (try simp only [Act.put, List.setIfInBounds_toArray, List.set]); refine Qa 9 (some 41) (.pointer (some ⟨g3, 2, none⟩)) rfl rfl (by kernel_rfl) (by kernel_rfl) (by kernel_rfl) (fun _ _ _ h => h) (Or.inl ⟨by kernel_rfl, fun x' hSx => by go_simp⟩) hHeld ?_; (try simp only [Act.put, List.setIfInBounds_toArray, List.set])
    refine Qa 10 (some 42) (.int .i64 ac.t) rfl rfl (by kernel_rfl) (by kernel_rfl) (by kernel_rfl) (fun _ _ _ h => h) (Or.inl ⟨by kernel_rfl, fun x' hSx => by have h : World.cell? x' ⟨g3, 2, none⟩ = some (.int .i64 ac.t) := hSx; go_simp⟩) hHeld ?_; (try simp only [Act.put, List.setIfInBounds_toArray, List.set]); refine Qa 12 (some 44) (.pointer (some ⟨g, 0, none⟩)) rfl rfl (by kernel_rfl) (by kernel_rfl) (by kernel_rfl) (fun _ _ _ h => h) (Or.inl ⟨by kernel_rfl, fun x' hSx => by go_simp⟩) hHeld ?_; (try simp only [Act.put, List.setIfInBounds_toArray, List.set]); refine Qa 13 (some 45) (.pointer (some ⟨g, 3, none⟩)) rfl rfl (by kernel_rfl) (by kernel_rfl) (by kernel_rfl) (fun _ _ _ h => h) (Or.inl ⟨by kernel_rfl, fun x' hSx => by go_simp⟩) hHeld ?_; (try simp only [Act.put, List.setIfInBounds_toArray, List.set]); refine Qa 17 (some 49) (.pointer (some ⟨g, 0, none⟩)) rfl rfl (by kernel_rfl) (by kernel_rfl) (by kernel_rfl) (fun _ _ _ h => h) (Or.inl ⟨by kernel_rfl, fun x' hSx => by go_simp⟩) hHeld ?_; (try simp only [Act.put, List.setIfInBounds_toArray, List.set]); refine Qa 18 (some 50) (.pointer (some ⟨g, 3, none⟩)) rfl rfl (by kernel_rfl) (by kernel_rfl) (by kernel_rfl) (fun _ _ _ h => h) (Or.inl ⟨by kernel_rfl, fun x' hSx => by go_simp⟩) hHeld ?_; (try simp only [Act.put, List.setIfInBounds_toArray, List.set])
    refine Qkd 7 11 (by kernel_rfl) ?_ ?_
    · skip; refine Qm (some 39) rfl rfl rfl (.int .u64 (p1 : Int)) y.drew ?hz ?_; (case hz => go_simp); refine ⟨a2, ?_⟩; (try simp only [Act.put, List.setIfInBounds_toArray, List.set]); refine Qg 11 (by kernel_rfl) ?_; refine Qwa (some 43) rfl rfl rfl 51 #[.int .i64 ac.t, .int .i64 3] ?he ((HP2.out y.drew).mono ?_); (case he => go_simp); rintro e z0 ⟨rfl, hz0⟩; subst z0; refine ⟨_, rfl, a2, ?_⟩; (try simp only [Act.put, List.setIfInBounds_toArray, List.set]); refine Qa 14 (some 46) (.pointer (some ⟨g, 3 + k, none⟩)) rfl rfl (by kernel_rfl) (by kernel_rfl) (by kernel_rfl) (fun _ _ _ h => h) (Or.inl ⟨by kernel_rfl, fun x' hSx => by go_simp⟩) hHeld ?_; (try simp only [Act.put, List.setIfInBounds_toArray, List.set]); refine Qg 15 (by kernel_rfl) ?_; refine Qm (some 47) rfl rfl rfl (.int .u64 (p2 : Int)) y.drew ?hz ?_; (case hz => go_simp); refine ⟨a2, ?_⟩; (try simp only [Act.put, List.setIfInBounds_toArray, List.set]); refine Qa 16 (some 48) (.int .u64 (M : Int)) rfl rfl (by kernel_rfl) (by kernel_rfl) (by kernel_rfl) (fun _ _ _ h => h) (Or.inl ⟨by kernel_rfl, fun x' hSx => by go_simp⟩) hHeld ?_; (try simp only [Act.put, List.setIfInBounds_toArray, List.set]); refine Qa 19 (some 51) (.pointer (some ⟨g, 3 + n, none⟩)) rfl rfl (by kernel_rfl) (by kernel_rfl) (by kernel_rfl) (fun _ _ _ h => h) (Or.inl ⟨by kernel_rfl, fun x' hSx => by go_simp⟩) hHeld ?_; (try simp only [Act.put, List.setIfInBounds_toArray, List.set]); refine Qg 20 (by kernel_rfl) ?_; have q5 := HY.out.1.drew.cell (h' := h.setCk n M) (3 + n) (.int .u64 (M : Int)) (fun cs a b c H => H.setCk hn M) rfl rfl rfl; refine Qy rfl rfl rfl (y.drew.setCell ⟨g, 3 + n, none⟩ (.int .u64 (M : Int))) ?hs ?_; (case hs => go_simp); refine ⟨((HY.out.2.1.later (Ql (Below.refl _ _))).other ⟨g, 3 + n, none⟩ _ (fun e => HN3.out e)).cell 2 _ rfl, ?_⟩; (try simp only [Act.put, List.setIfInBounds_toArray, List.set]); refine wpAnyH_done (by kernel_rfl) ?_ _; refine NoPanic.normal ?_; go_wp2; refine bodyPost_ret (results_none rfl _ _ _) rfl ⟨F, rfl, ?_, (HY.out.2.2.1.later (Ql (Below.refl _ _))).trans q5.2⟩; rw [HM.out]; exact q5.1
    · skip; refine Qwa (some 43) rfl rfl rfl 51 #[.int .i64 ac.t, .int .i64 3] ?he ((HP2.out y.drew).mono ?_); (case he => go_simp); rintro e z0 ⟨rfl, hz0⟩; subst z0; refine ⟨_, rfl, a2, ?_⟩; (try simp only [Act.put, List.setIfInBounds_toArray, List.set]); refine Qa 14 (some 46) (.pointer (some ⟨g, 3 + k, none⟩)) rfl rfl (by kernel_rfl) (by kernel_rfl) (by kernel_rfl) (fun _ _ _ h => h) (Or.inl ⟨by kernel_rfl, fun x' hSx => by go_simp⟩) hHeld ?_; (try simp only [Act.put, List.setIfInBounds_toArray, List.set])
      refine Qkd 7 15 (by kernel_rfl) ?_ ?_
      · skip; refine Qm (some 39) rfl rfl rfl (.int .u64 (p1 : Int)) y.drew ?hz ?_; (case hz => go_simp); refine ⟨a2, ?_⟩; (try simp only [Act.put, List.setIfInBounds_toArray, List.set]); refine Qg 15 (by kernel_rfl) ?_; refine Qm (some 47) rfl rfl rfl (.int .u64 (p2 : Int)) y.drew ?hz ?_; (case hz => go_simp); refine ⟨a2, ?_⟩; (try simp only [Act.put, List.setIfInBounds_toArray, List.set]); refine Qa 16 (some 48) (.int .u64 (M : Int)) rfl rfl (by kernel_rfl) (by kernel_rfl) (by kernel_rfl) (fun _ _ _ h => h) (Or.inl ⟨by kernel_rfl, fun x' hSx => by go_simp⟩) hHeld ?_; (try simp only [Act.put, List.setIfInBounds_toArray, List.set]); refine Qa 19 (some 51) (.pointer (some ⟨g, 3 + n, none⟩)) rfl rfl (by kernel_rfl) (by kernel_rfl) (by kernel_rfl) (fun _ _ _ h => h) (Or.inl ⟨by kernel_rfl, fun x' hSx => by go_simp⟩) hHeld ?_; (try simp only [Act.put, List.setIfInBounds_toArray, List.set]); refine Qg 20 (by kernel_rfl) ?_; have q5 := HY.out.1.drew.cell (h' := h.setCk n M) (3 + n) (.int .u64 (M : Int)) (fun cs a b c H => H.setCk hn M) rfl rfl rfl; refine Qy rfl rfl rfl (y.drew.setCell ⟨g, 3 + n, none⟩ (.int .u64 (M : Int))) ?hs ?_; (case hs => go_simp); refine ⟨((HY.out.2.1.later (Ql (Below.refl _ _))).other ⟨g, 3 + n, none⟩ _ (fun e => HN3.out e)).cell 2 _ rfl, ?_⟩; (try simp only [Act.put, List.setIfInBounds_toArray, List.set]); refine wpAnyH_done (by kernel_rfl) ?_ _; refine NoPanic.normal ?_; go_wp2; refine bodyPost_ret (results_none rfl _ _ _) rfl ⟨F, rfl, ?_, (HY.out.2.2.1.later (Ql (Below.refl _ _))).trans q5.2⟩; rw [HM.out]; exact q5.1
      · skip; refine Qm (some 47) rfl rfl rfl (.int .u64 (p2 : Int)) y.drew ?hz ?_; (case hz => go_simp); refine ⟨a2, ?_⟩; (try simp only [Act.put, List.setIfInBounds_toArray, List.set]); refine Qg 7 (by kernel_rfl) ?_; refine Qm (some 39) rfl rfl rfl (.int .u64 (p1 : Int)) y.drew ?hz ?_; (case hz => go_simp); refine ⟨a2, ?_⟩; (try simp only [Act.put, List.setIfInBounds_toArray, List.set]); refine Qa 16 (some 48) (.int .u64 (M : Int)) rfl rfl (by kernel_rfl) (by kernel_rfl) (by kernel_rfl) (fun _ _ _ h => h) (Or.inl ⟨by kernel_rfl, fun x' hSx => by go_simp⟩) hHeld ?_; (try simp only [Act.put, List.setIfInBounds_toArray, List.set]); refine Qa 19 (some 51) (.pointer (some ⟨g, 3 + n, none⟩)) rfl rfl (by kernel_rfl) (by kernel_rfl) (by kernel_rfl) (fun _ _ _ h => h) (Or.inl ⟨by kernel_rfl, fun x' hSx => by go_simp⟩) hHeld ?_; (try simp only [Act.put, List.setIfInBounds_toArray, List.set]); refine Qg 20 (by kernel_rfl) ?_; have q5 := HY.out.1.drew.cell (h' := h.setCk n M) (3 + n) (.int .u64 (M : Int)) (fun cs a b c H => H.setCk hn M) rfl rfl rfl; refine Qy rfl rfl rfl (y.drew.setCell ⟨g, 3 + n, none⟩ (.int .u64 (M : Int))) ?hs ?_; (case hs => go_simp); refine ⟨((HY.out.2.1.later (Ql (Below.refl _ _))).other ⟨g, 3 + n, none⟩ _ (fun e => HN3.out e)).cell 2 _ rfl, ?_⟩; (try simp only [Act.put, List.setIfInBounds_toArray, List.set]); refine wpAnyH_done (by kernel_rfl) ?_ _; refine NoPanic.normal ?_; go_wp2; refine bodyPost_ret (results_none rfl _ _ _) rfl ⟨F, rfl, ?_, (HY.out.2.2.1.later (Ql (Below.refl _ _))).trans q5.2⟩; rw [HM.out]; exact q5.1
  have d12i : ((kd : Int) == 12) = false := by simp; omega
  obtain ⟨t0, t1, t2, t3⟩ := HY.out.1.tu hi HO.out
  by_cases d0 : (h.tx i).last = 0
  · rw [d0] at t2; go_wp2; refine bodyPost_ret (results_none rfl _ _ _) rfl ⟨F, rfl, ?_, HY.out.2.2.1⟩; rw [HD.out, if_neg d5, if_neg d12, if_pos d0]; exact HY.out.1
  have d0i : (((h.tx i).last : Int) == 0) = false := by simpa using d0
  have HD2 : Hid (h.does ac = h.does2 n i kd ac) := by
    show h.does ac = _; rw [HD.out, if_neg d5, if_neg d12, if_neg d0]
  have HTX : Hid (h.tx i = h.tx i) := rfl; have HW := Qd (HS.out.few); have HLOG := Qd (fun z F' kk ss (hz : HB z B g F' h) => hlog15 z B g n i o 0 F' h (Qs kk Ch.zero ss) hz hn hi HO.out (bare_bare kk ss) (Nat.le_trans (HS.out.few.ck n hn) (by decide)) (by decide) (HS.out.few.lg n hn)); have HFR := Qd (fun z F' h' (hz : HB z B g F' h') => hfree15 z B g n i o F' h' hz hn hi HO.out); clear d12i HD; obtain ⟨st, hst⟩ : ∃ c, c = (h.tx i).st := ⟨_, rfl⟩; obtain ⟨nx, hnx⟩ : ∃ c, c = (h.tx i).next := ⟨_, rfl⟩; obtain ⟨lst, hlst⟩ : ∃ c, c = (h.tx i).last := ⟨_, rfl⟩; rw [<- hst] at t1; rw [<- hnx] at t3; rw [<- hlst] at t2 d0i; have HTT : Hid (st = (h.tx i).st /\ nx = (h.tx i).next /\ lst = (h.tx i).last) := ⟨hst, hnx, hlst⟩; clear hst hnx hlst d0 t0; have hk6 : kd = 6 ∨ kd = 7 ∨ kd = 8 ∨ kd = 9 ∨ kd = 10 ∨ kd = 11 := by omega
  rcases hk6 with rfl | rfl | rfl | rfl | rfl | rfl
  · skip
    by_cases e1 : st = 1
    · subst e1
      have HR6 : Hid (h.does ac = (((h.log n i (Qs 3 Ch.zero 0) 0).setHi (max h.hi (h.lsn n 0))).state i 3).free n i) := by
        show h.does ac = _; rw [HD2.out]; unfold Hs.does2; rw [if_pos ⟨rfl, HTT.out.1.symm⟩]
      have HL := Qd (fun z (hz : HB z B g F h) => HLOG.out z F 3 0 hz); rw [Qmh, show ((0 : Nat) : Int) = 0 from rfl] at HL; unfold litR at HL; obtain ⟨hL, hhL⟩ : ∃ q, q = h.log n i (Qs 3 Ch.zero 0) 0 := ⟨_, rfl⟩; rw [<- hhL] at HL HR6; have HLh : Hid (hL.hi = h.hi) := by rw [hhL]; rfl
      obtain ⟨L, hL0⟩ : ∃ q, q = h.lsn n 0 := ⟨_, rfl⟩; rw [<- hL0] at HL HR6; obtain ⟨q, hq⟩ : ∃ q, q = h.hi := ⟨_, rfl⟩; rw [<- hq] at HR6 HLh; obtain ⟨M, hM⟩ : ∃ M, M = max q L := ⟨_, rfl⟩; rw [<- hM] at HR6
      have hmx : (if q < L then (L : Int) else (q : Int)) = (M : Int) := by
        rw [hM]
        by_cases hc : q < L
        · rw [if_pos hc]; omega
        · rw [if_neg hc]; omega
      have c4 : y.drew.cell? ⟨g, 173, none⟩ = some (.int .u64 (q : Int)) := by rw [hq]; exact HY.out.1.drew.hi
      clear hM hL0 hhL hq t3; go_wp2_with fail; clear t1 t2 d0i; refine wp_region_noPanic ?_; refine wp_region_held_drew (S := fun _ => True) (by kernel_rfl) (trivial) (fun hHeld => ?_); refine Qa 0 (some 68) (.pointer (some ⟨g, 0, none⟩)) rfl rfl (by kernel_rfl) (by kernel_rfl) (by kernel_rfl) (fun _ _ _ h => h) (Or.inl ⟨by kernel_rfl, fun x' hSx => by go_simp⟩) hHeld ?_; (try simp only [Act.put, List.setIfInBounds_toArray, List.set]); refine Qa 1 (some 69) (.pointer (some ⟨g, 0, none⟩)) rfl rfl (by kernel_rfl) (by kernel_rfl) (by kernel_rfl) (fun _ _ _ h => h) (Or.inl ⟨by kernel_rfl, fun x' hSx => by go_simp⟩) hHeld ?_; (try simp only [Act.put, List.setIfInBounds_toArray, List.set]); refine Qa 2 (some 70) (.pointer (some ⟨g, 0, none⟩)) rfl rfl (by kernel_rfl) (by kernel_rfl) (by kernel_rfl) (fun _ _ _ h => h) (Or.inl ⟨by kernel_rfl, fun x' hSx => by go_simp⟩) hHeld ?_; (try simp only [Act.put, List.setIfInBounds_toArray, List.set]); refine Qa 3 (some 71) (.pointer (some ⟨g, 173, none⟩)) rfl rfl (by kernel_rfl) (by kernel_rfl) (by kernel_rfl) (fun _ _ _ h => h) (Or.inl ⟨by kernel_rfl, fun x' hSx => by go_simp⟩) hHeld ?_; (try simp only [Act.put, List.setIfInBounds_toArray, List.set]); refine Qa 5 (some 73) (.pointer (some ⟨g, 0, none⟩)) rfl rfl (by kernel_rfl) (by kernel_rfl) (by kernel_rfl) (fun _ _ _ h => h) (Or.inl ⟨by kernel_rfl, fun x' hSx => by go_simp⟩) hHeld ?_; (try simp only [Act.put, List.setIfInBounds_toArray, List.set]); refine Qa 6 (some 74) (.int .i64 (n : Int)) rfl rfl (by kernel_rfl) (by kernel_rfl) (by kernel_rfl) (fun _ _ _ h => h) (Or.inl ⟨by kernel_rfl, fun x' hSx => by go_simp⟩) hHeld ?_; (try simp only [Act.put, List.setIfInBounds_toArray, List.set]); refine Qa 7 (some 75) (.pointer (some ⟨g, o, none⟩)) rfl rfl (by kernel_rfl) (by kernel_rfl) (by kernel_rfl) (fun _ _ _ h => h) (Or.inl ⟨by kernel_rfl, fun x' hSx => by go_simp⟩) hHeld ?_; (try simp only [Act.put, List.setIfInBounds_toArray, List.set]); refine Qa 8 (some 76) (.agg #[.int .i64 3, .int .u64 0, .int .i64 0, .int .u64 0, .int .i64 0, .int .i64 0, .int .i64 0, .string ⟨#[]⟩, .string ⟨#[]⟩, .int .u64 0, .int .i64 0, .int .u64 0, .slice none 0 0, .slice none 0 0]) rfl rfl (by kernel_rfl) (by kernel_rfl) (by kernel_rfl) (fun _ _ _ h => h) (Or.inl ⟨by kernel_rfl, fun x' hSx => by go_simp⟩) hHeld ?_; (try simp only [Act.put, List.setIfInBounds_toArray, List.set])
      refine Qkd 4 9 (by kernel_rfl) ?_ ?_
      · skip; refine Qm (some 72) rfl rfl rfl (.int .u64 (q : Int)) y.drew ?hz ?_; (case hz => go_simp); refine ⟨trivial, ?_⟩; (try simp only [Act.put, List.setIfInBounds_toArray, List.set]); refine Qg 9 (by kernel_rfl) ?_; refine Qwa (some 77) rfl rfl rfl 53 #[.pointer (some ⟨g, 0, none⟩), .int .i64 (n : Int), .pointer (some ⟨g, o, none⟩), .agg #[.int .i64 3, .int .u64 0, .int .i64 0, .int .u64 0, .int .i64 0, .int .i64 0, .int .i64 0, .string ⟨#[]⟩, .string ⟨#[]⟩, .int .u64 0, .int .i64 0, .int .u64 0, .slice none 0 0, .slice none 0 0], .int .u64 0] ?he ((HL.out y.drew HY.out.1.drew).mono ?_); (case he => go_simp); rintro e z ⟨F1, rfl, hb1, ha1⟩
        have c5 : z.cell? ⟨g, 173, none⟩ = some (.int .u64 (q : Int)) := by
          rw [<- HLh.out]; exact hb1.hi
        have HZ : Hid (HB z B g F1 hL /\ Qh F F1 w z) := ⟨hb1, (HY.out.2.2.1.later (Ql (Below.refl _ _))).trans ha1⟩; clear hb1 ha1; refine ⟨_, rfl, trivial, ?_⟩; (try simp only [Act.put, List.setIfInBounds_toArray, List.set]); refine Qa 10 (some 78) (.int .u64 (M : Int)) rfl rfl (by kernel_rfl) (by kernel_rfl) (by kernel_rfl) (fun _ _ _ h => h) (Or.inl ⟨by kernel_rfl, fun x' hSx => by go_simp⟩) hHeld ?_; (try simp only [Act.put, List.setIfInBounds_toArray, List.set]); refine Qa 11 (some 79) (.pointer (some ⟨g, 0, none⟩)) rfl rfl (by kernel_rfl) (by kernel_rfl) (by kernel_rfl) (fun _ _ _ h => h) (Or.inl ⟨by kernel_rfl, fun x' hSx => by go_simp⟩) hHeld ?_; (try simp only [Act.put, List.setIfInBounds_toArray, List.set]); refine Qa 12 (some 80) (.pointer (some ⟨g, 173, none⟩)) rfl rfl (by kernel_rfl) (by kernel_rfl) (by kernel_rfl) (fun _ _ _ h => h) (Or.inl ⟨by kernel_rfl, fun x' hSx => by go_simp⟩) hHeld ?_; (try simp only [Act.put, List.setIfInBounds_toArray, List.set]); refine Qg 13 (by kernel_rfl) ?_; have fr := HZ.out.1.free 173; have q5 := HZ.out.1.cell (h' := hL.setHi M) 173 (.int .u64 (M : Int)) (fun cs a b c H => H.setHi M) rfl rfl rfl; have H5 : Hid (HB (z.setCell ⟨g, 173, none⟩ (.int .u64 (M : Int))) B g F1 (hL.setHi M) /\ Qh F F1 w (z.setCell ⟨g, 173, none⟩ (.int .u64 (M : Int)))) := ⟨q5.1, HZ.out.2.trans q5.2⟩; clear q5; refine Qy rfl rfl rfl (z.setCell ⟨g, 173, none⟩ (.int .u64 (M : Int))) ?hs ?_; (case hs => go_simp); refine ⟨trivial, ?_⟩; (try simp only [Act.put, List.setIfInBounds_toArray, List.set]); refine wpAnyH_done (by kernel_rfl) ?_ _; refine NoPanic.normal ?_; clear hmx c4 c5 fr HZ hHeld; refine Qyb (fun z => HB z B g F1 (hL.setHi M) /\ Qh F F1 w z) H5.out ?_; clear H5; intro z2 H0; have H5 := Qd H0; have f1 := H0.1.free (o + 1); have f1c := (H0.1.tu hi HO.out).2.1; clear H0; go_wp2_with fail
        have q6 := H5.out.1.cell (h' := (hL.setHi M).state i 3) (o + 1) (.int .i64 3) (fun cs a b c H => by rw [HO.out]; exact H.setTx hi _ 1 (by omega) _ rfl (fun k hk he => by
          rcases (show k = 0 ∨ k = 1 ∨ k = 2 ∨ k = 3 by omega) with rfl | rfl | rfl | rfl
          · rfl
          · exact absurd rfl he
          · rfl
          · rfl)) rfl rfl rfl
        have H6 : Hid (HB (z2.setCell ⟨g, o + 1, none⟩ (.int .i64 3)) B g F1 ((hL.setHi M).state i 3) /\ Qh F F1 w (z2.setCell ⟨g, o + 1, none⟩ (.int .i64 3))) := ⟨q6.1, H5.out.2.trans q6.2⟩; clear q6 H5; refine (HFR.out _ F1 _ H6.out.1).mono ?_; rintro e z3 ⟨rfl, hb3, ha3⟩; have H7 : Hid (HB z3 B g F1 (((hL.setHi M).state i 3).free n i) /\ Qh F F1 w z3) := ⟨hb3, H6.out.2.trans ha3⟩; clear hb3 ha3 H6; go_wp2; refine bodyPost_end (results_none rfl _ _ _) rfl ⟨F1, rfl, ?_, H7.out.2⟩; rw [HR6.out]; exact H7.out.1
      · skip; refine Qwa (some 77) rfl rfl rfl 53 #[.pointer (some ⟨g, 0, none⟩), .int .i64 (n : Int), .pointer (some ⟨g, o, none⟩), .agg #[.int .i64 3, .int .u64 0, .int .i64 0, .int .u64 0, .int .i64 0, .int .i64 0, .int .i64 0, .string ⟨#[]⟩, .string ⟨#[]⟩, .int .u64 0, .int .i64 0, .int .u64 0, .slice none 0 0, .slice none 0 0], .int .u64 0] ?he ((HL.out y.drew HY.out.1.drew).mono ?_); (case he => go_simp); rintro e z ⟨F1, rfl, hb1, ha1⟩
        have c5 : z.cell? ⟨g, 173, none⟩ = some (.int .u64 (q : Int)) := by
          rw [<- HLh.out]; exact hb1.hi
        have HZ : Hid (HB z B g F1 hL /\ Qh F F1 w z) := ⟨hb1, (HY.out.2.2.1.later (Ql (Below.refl _ _))).trans ha1⟩; clear hb1 ha1; refine ⟨_, rfl, trivial, ?_⟩; (try simp only [Act.put, List.setIfInBounds_toArray, List.set]); refine Qg 4 (by kernel_rfl) ?_; refine Qm (some 72) rfl rfl rfl (.int .u64 (q : Int)) z ?hz ?_; (case hz => go_simp); refine ⟨trivial, ?_⟩; (try simp only [Act.put, List.setIfInBounds_toArray, List.set]); refine Qa 10 (some 78) (.int .u64 (M : Int)) rfl rfl (by kernel_rfl) (by kernel_rfl) (by kernel_rfl) (fun _ _ _ h => h) (Or.inl ⟨by kernel_rfl, fun x' hSx => by go_simp⟩) hHeld ?_; (try simp only [Act.put, List.setIfInBounds_toArray, List.set]); refine Qa 11 (some 79) (.pointer (some ⟨g, 0, none⟩)) rfl rfl (by kernel_rfl) (by kernel_rfl) (by kernel_rfl) (fun _ _ _ h => h) (Or.inl ⟨by kernel_rfl, fun x' hSx => by go_simp⟩) hHeld ?_; (try simp only [Act.put, List.setIfInBounds_toArray, List.set]); refine Qa 12 (some 80) (.pointer (some ⟨g, 173, none⟩)) rfl rfl (by kernel_rfl) (by kernel_rfl) (by kernel_rfl) (fun _ _ _ h => h) (Or.inl ⟨by kernel_rfl, fun x' hSx => by go_simp⟩) hHeld ?_; (try simp only [Act.put, List.setIfInBounds_toArray, List.set]); refine Qg 13 (by kernel_rfl) ?_; have fr := HZ.out.1.free 173; have q5 := HZ.out.1.cell (h' := hL.setHi M) 173 (.int .u64 (M : Int)) (fun cs a b c H => H.setHi M) rfl rfl rfl; have H5 : Hid (HB (z.setCell ⟨g, 173, none⟩ (.int .u64 (M : Int))) B g F1 (hL.setHi M) /\ Qh F F1 w (z.setCell ⟨g, 173, none⟩ (.int .u64 (M : Int)))) := ⟨q5.1, HZ.out.2.trans q5.2⟩; clear q5; refine Qy rfl rfl rfl (z.setCell ⟨g, 173, none⟩ (.int .u64 (M : Int))) ?hs ?_; (case hs => go_simp); refine ⟨trivial, ?_⟩; (try simp only [Act.put, List.setIfInBounds_toArray, List.set]); refine wpAnyH_done (by kernel_rfl) ?_ _; refine NoPanic.normal ?_; clear hmx c4 c5 fr HZ hHeld; refine Qyb (fun z => HB z B g F1 (hL.setHi M) /\ Qh F F1 w z) H5.out ?_; clear H5; intro z2 H0; have H5 := Qd H0; have f1 := H0.1.free (o + 1); have f1c := (H0.1.tu hi HO.out).2.1; clear H0; go_wp2_with fail
        have q6 := H5.out.1.cell (h' := (hL.setHi M).state i 3) (o + 1) (.int .i64 3) (fun cs a b c H => by rw [HO.out]; exact H.setTx hi _ 1 (by omega) _ rfl (fun k hk he => by
          rcases (show k = 0 ∨ k = 1 ∨ k = 2 ∨ k = 3 by omega) with rfl | rfl | rfl | rfl
          · rfl
          · exact absurd rfl he
          · rfl
          · rfl)) rfl rfl rfl
        have H6 : Hid (HB (z2.setCell ⟨g, o + 1, none⟩ (.int .i64 3)) B g F1 ((hL.setHi M).state i 3) /\ Qh F F1 w (z2.setCell ⟨g, o + 1, none⟩ (.int .i64 3))) := ⟨q6.1, H5.out.2.trans q6.2⟩; clear q6 H5; refine (HFR.out _ F1 _ H6.out.1).mono ?_; rintro e z3 ⟨rfl, hb3, ha3⟩; have H7 : Hid (HB z3 B g F1 (((hL.setHi M).state i 3).free n i) /\ Qh F F1 w z3) := ⟨hb3, H6.out.2.trans ha3⟩; clear hb3 ha3 H6; go_wp2; refine bodyPost_end (results_none rfl _ _ _) rfl ⟨F1, rfl, ?_, H7.out.2⟩; rw [HR6.out]; exact H7.out.1
    · skip; have e1b : (st == 1) = false := by simpa using e1
      have e1d : decide (st = 1) = false := by simpa using e1
      go_wp2; refine bodyPost_end (results_none rfl _ _ _) rfl ⟨F, rfl, ?_, HY.out.2.2.1⟩; rw [HD2.out]; unfold Hs.does2; rw [if_neg (fun q => e1 (HTT.out.1.trans q.2)), if_neg (by omega), if_neg (by omega), if_neg (by omega), if_neg (by omega)]; exact HY.out.1
  · skip
    by_cases e3 : st = 3
    · subst e3
      have HR6 : Hid (h.does ac = ((h.log n i (Qs 5 Ch.zero 0) 0).free n i).setTx i Tu.zero) := by
        show h.does ac = _; rw [HD2.out]; unfold Hs.does2; rw [if_neg (by omega), if_pos ⟨rfl, .inl HTT.out.1.symm⟩]
      have HL := Qd (fun z (hz : HB z B g F h) => HLOG.out z F 5 0 hz); rw [Qmh, show ((0 : Nat) : Int) = 0 from rfl] at HL; unfold litR at HL; obtain ⟨hL, hhL⟩ : ∃ q, q = h.log n i (Qs 5 Ch.zero 0) 0 := ⟨_, rfl⟩; rw [<- hhL] at HL HR6; clear hhL; go_wp2_with fail; refine (HL.out y HY.out.1).mono ?_; rintro e z ⟨F1, rfl, hb1, ha1⟩; have HZ : Hid (HB z B g F1 hL /\ Qh F F1 w z) := ⟨hb1, HY.out.2.2.1.trans ha1⟩; clear hb1 ha1 t1 t2 t3 d0i; go_wp2_with fail; refine (HFR.out z F1 hL HZ.out.1).mono ?_; rintro e z1 ⟨rfl, hb1, ha1⟩; have hq7 : ∃ x, HAt z1 B g x (hL.free n i) /\ F1 = FH g x := hb1; obtain ⟨x, HX, hF⟩ := hq7; have HXB : Hid (HAt z1 B g x (hL.free n i) /\ F1 = FH g x /\ Qh F F1 w z1) := ⟨HX, hF, HZ.out.2.trans ha1⟩
      have hsz : o + (tnA Tu.zero).toArray.size <= x.cs.size := by
        rw [HX.cells.1, HO.out]; show 9 + i * 4 + 4 <= 174; omega
      have hone := tnA_one Tu.zero; clear HX hF hb1 ha1 HZ; go_wp2_with (refine Qza rfl 59 (.tmp 123) (.tmp 122) rfl g o 69 x.cs (tnA Tu.zero).toArray rfl rfl HXB.out.1.blk Qxs hsz hone ?_; intro w2 hr2 ho2; refine Qha ?_); refine Qj ?_; go_wp2
      have q8 : HB w2 B g F1 ((hL.free n i).setTx i Tu.zero) /\ Qh F1 F1 z1 w2 := by
        have hr3 : Qb w2 g 69 (Qtb x.cs (9 + i * 4) (tnA Tu.zero)) := by
          rw [<- HO.out]; exact hr2
        have hc3 := HXB.out.1.cells.allTx hi Tu.zero; have hb3 := HXB.out.1.own ho2 hr3 hc3 rfl rfl rfl; rw [HXB.out.2.1]; exact ⟨⟨_, hb3, rfl⟩, Qwe ho2 _⟩
      refine bodyPost_end (results_none rfl _ _ _) rfl ⟨F1, rfl, ?_, HXB.out.2.2.trans q8.2⟩; rw [HR6.out]; exact q8.1
    by_cases e2 : st = 2
    · subst e2
      by_cases e4 : nx = 0
      · subst e4
        have HR6 : Hid (h.does ac = ((h.log n i (Qs 5 Ch.zero 0) 0).free n i).setTx i Tu.zero) := by
          show h.does ac = _; rw [HD2.out]; unfold Hs.does2; rw [if_neg (by omega), if_pos ⟨rfl, .inr ⟨HTT.out.1.symm, HTT.out.2.1.symm⟩⟩]
        have HL := Qd (fun z (hz : HB z B g F h) => HLOG.out z F 5 0 hz); rw [Qmh, show ((0 : Nat) : Int) = 0 from rfl] at HL; unfold litR at HL; obtain ⟨hL, hhL⟩ : ∃ q, q = h.log n i (Qs 5 Ch.zero 0) 0 := ⟨_, rfl⟩; rw [<- hhL] at HL HR6; clear hhL; go_wp2_with fail; refine (HL.out y HY.out.1).mono ?_; rintro e z ⟨F1, rfl, hb1, ha1⟩; have HZ : Hid (HB z B g F1 hL /\ Qh F F1 w z) := ⟨hb1, HY.out.2.2.1.trans ha1⟩; clear hb1 ha1 t1 t2 t3 d0i; go_wp2_with fail; refine (HFR.out z F1 hL HZ.out.1).mono ?_; rintro e z1 ⟨rfl, hb1, ha1⟩; have hq7 : ∃ x, HAt z1 B g x (hL.free n i) /\ F1 = FH g x := hb1; obtain ⟨x, HX, hF⟩ := hq7; have HXB : Hid (HAt z1 B g x (hL.free n i) /\ F1 = FH g x /\ Qh F F1 w z1) := ⟨HX, hF, HZ.out.2.trans ha1⟩
        have hsz : o + (tnA Tu.zero).toArray.size <= x.cs.size := by
          rw [HX.cells.1, HO.out]; show 9 + i * 4 + 4 <= 174; omega
        have hone := tnA_one Tu.zero; clear HX hF hb1 ha1 HZ; go_wp2_with (refine Qza rfl 59 (.tmp 123) (.tmp 122) rfl g o 69 x.cs (tnA Tu.zero).toArray rfl rfl HXB.out.1.blk Qxs hsz hone ?_; intro w2 hr2 ho2; refine Qha ?_); refine Qj ?_; go_wp2
        have q8 : HB w2 B g F1 ((hL.free n i).setTx i Tu.zero) /\ Qh F1 F1 z1 w2 := by
          have hr3 : Qb w2 g 69 (Qtb x.cs (9 + i * 4) (tnA Tu.zero)) := by
            rw [<- HO.out]; exact hr2
          have hc3 := HXB.out.1.cells.allTx hi Tu.zero; have hb3 := HXB.out.1.own ho2 hr3 hc3 rfl rfl rfl; rw [HXB.out.2.1]; exact ⟨⟨_, hb3, rfl⟩, Qwe ho2 _⟩
        refine bodyPost_end (results_none rfl _ _ _) rfl ⟨F1, rfl, ?_, HXB.out.2.2.trans q8.2⟩; rw [HR6.out]; exact q8.1
      have e4b : ((nx : Int) == 0) = false := by simpa using e4
      have e4d : decide ((nx : Int) = 0) = false := by simpa using e4
      go_wp2; refine bodyPost_end (results_none rfl _ _ _) rfl ⟨F, rfl, ?_, HY.out.2.2.1⟩; rw [HD2.out]; unfold Hs.does2; rw [if_neg (by omega), if_neg (fun q => by rcases q.2 with a | a; exact absurd (HTT.out.1.trans a) (by decide); exact e4 (HTT.out.2.1.trans a.2)), if_neg (by omega), if_neg (by omega), if_neg (by omega)]; exact HY.out.1
    have e3b : (st == 3) = false := by simpa using e3
    have e3d : decide (st = 3) = false := by simpa using e3
    have e2b : (st == 2) = false := by simpa using e2
    have e2d : decide (st = 2) = false := by simpa using e2
    go_wp2; refine bodyPost_end (results_none rfl _ _ _) rfl ⟨F, rfl, ?_, HY.out.2.2.1⟩; rw [HD2.out]; unfold Hs.does2; rw [if_neg (by omega), if_neg (fun q => by rcases q.2 with a | a; exact e3 (HTT.out.1.trans a); exact e2 (HTT.out.1.trans a.1)), if_neg (by omega), if_neg (by omega), if_neg (by omega)]; exact HY.out.1
  · skip
    by_cases e1 : st = 1
    · subst e1
      have HR6 : Hid (h.does ac = (h.log n i (Qs 4 Ch.zero 0) 0).state i 2) := by
        show h.does ac = _; rw [HD2.out]; unfold Hs.does2; rw [if_neg (by omega), if_neg (by omega), if_pos ⟨rfl, HTT.out.1.symm⟩]
      have HL := Qd (fun z (hz : HB z B g F h) => HLOG.out z F 4 0 hz); rw [Qmh, show ((0 : Nat) : Int) = 0 from rfl] at HL; unfold litR at HL; obtain ⟨hL, hhL⟩ : ∃ q, q = h.log n i (Qs 4 Ch.zero 0) 0 := ⟨_, rfl⟩; rw [<- hhL] at HL HR6; clear hhL t3; go_wp2_with fail; refine (HL.out y HY.out.1).mono ?_; rintro e z ⟨F1, rfl, hb1, ha1⟩; have HZ : Hid (HB z B g F1 hL /\ Qh F F1 w z) := ⟨hb1, HY.out.2.2.1.trans ha1⟩; have f1 := hb1.free (o + 1); have f1c := (hb1.tu hi HO.out).2.1; clear hb1 ha1 t1 t2 d0i; go_wp2
      have q6 := HZ.out.1.cell (h' := (hL).state i 2) (o + 1) (.int .i64 2) (fun cs a b c H => by rw [HO.out]; exact H.setTx hi _ 1 (by omega) _ rfl (fun k hk he => by
        rcases (show k = 0 ∨ k = 1 ∨ k = 2 ∨ k = 3 by omega) with rfl | rfl | rfl | rfl
        · rfl
        · exact absurd rfl he
        · rfl
        · rfl)) rfl rfl rfl
      refine bodyPost_end (results_none rfl _ _ _) rfl ⟨F1, rfl, ?_, HZ.out.2.trans q6.2⟩; rw [HR6.out]; exact q6.1
    · skip; have e1b : (st == 1) = false := by simpa using e1
      have e1d : decide (st = 1) = false := by simpa using e1
      go_wp2; refine bodyPost_end (results_none rfl _ _ _) rfl ⟨F, rfl, ?_, HY.out.2.2.1⟩; rw [HD2.out]; unfold Hs.does2; rw [if_neg (by omega), if_neg (by omega), if_neg (fun q => e1 (HTT.out.1.trans q.2)), if_neg (by omega), if_neg (by omega)]; exact HY.out.1
  · skip; have HBK := Qd (hback15 y B g n i o F h HY.out.1 hn hi HO.out HS.out.few (HS.out.rise n hn) (HS.out.pgs n hn) (by have a := HS.out.next i hi; rw [HI3.out] at a; exact a))
    have HR6 : Hid (h.does ac = h.back n i) := by
      show h.does ac = _; rw [HD2.out]; unfold Hs.does2; rw [if_neg (by omega), if_neg (by omega), if_neg (by omega), if_pos (by omega)]
    go_wp2_with fail; clear t1 t2 t3 d0i; refine HBK.out.mono ?_; rintro e z ⟨F1, rfl, hb1, ha1⟩; have HZ : Hid (HB z B g F1 (h.back n i) /\ Qh F F1 w z) := ⟨hb1, HY.out.2.2.1.trans ha1⟩; clear hb1 ha1; go_wp2; refine bodyPost_end (results_none rfl _ _ _) rfl ⟨F1, rfl, ?_, HZ.out.2⟩; rw [HR6.out]; exact HZ.out.1
  · skip; have HBK := Qd (hback15 y B g n i o F h HY.out.1 hn hi HO.out HS.out.few (HS.out.rise n hn) (HS.out.pgs n hn) (by have a := HS.out.next i hi; rw [HI3.out] at a; exact a))
    have HR6 : Hid (h.does ac = h.back n i) := by
      show h.does ac = _; rw [HD2.out]; unfold Hs.does2; rw [if_neg (by omega), if_neg (by omega), if_neg (by omega), if_pos (by omega)]
    go_wp2_with fail; clear t1 t2 t3 d0i; refine HBK.out.mono ?_; rintro e z ⟨F1, rfl, hb1, ha1⟩; have HZ : Hid (HB z B g F1 (h.back n i) /\ Qh F F1 w z) := ⟨hb1, HY.out.2.2.1.trans ha1⟩; clear hb1 ha1; go_wp2; refine bodyPost_end (results_none rfl _ _ _) rfl ⟨F1, rfl, ?_, HZ.out.2⟩; rw [HR6.out]; exact HZ.out.1
  · skip
    by_cases e1 : st = 1
    · subst e1
      have HR6 : Hid (h.does ac = h.log n i (Qs 6 Ch.zero (1 + (sl : Nat))) 0) := by
        show h.does ac = _; rw [HD2.out]; unfold Hs.does2; rw [if_neg (by omega), if_neg (by omega), if_neg (by omega), if_neg (by omega), if_pos ⟨rfl, HTT.out.1.symm⟩, <- HSL.out]
      have HL := Qd (fun z (hz : HB z B g F h) => HLOG.out z F 6 (1 + (sl : Nat)) hz); rw [Qmh, show ((0 : Nat) : Int) = 0 from rfl] at HL; unfold litR at HL; obtain ⟨hL, hhL⟩ : ∃ q, q = h.log n i (Qs 6 Ch.zero (1 + (sl : Nat))) 0 := ⟨_, rfl⟩; rw [<- hhL] at HL HR6; clear hhL t3; have a4 := HY.out.2.1.cell 4 (.int .i64 ac.sl) rfl; go_wp2_with fail; clear t1 t2 d0i; refine (HP4.out y).mono ?_; rintro e z0 ⟨rfl, hz0⟩; subst z0; go_wp2_with fail; refine (HL.out y HY.out.1).mono ?_; rintro e z ⟨F1, rfl, hb1, ha1⟩; have HZ : Hid (HB z B g F1 hL /\ Qh F F1 w z) := ⟨hb1, HY.out.2.2.1.trans ha1⟩; clear hb1 ha1 a4; go_wp2; refine bodyPost_end (results_none rfl _ _ _) rfl ⟨F1, rfl, ?_, HZ.out.2⟩; rw [HR6.out]; exact HZ.out.1
    · skip; have e1b : (st == 1) = false := by simpa using e1
      have e1d : decide (st = 1) = false := by simpa using e1
      go_wp2; refine bodyPost_end (results_none rfl _ _ _) rfl ⟨F, rfl, ?_, HY.out.2.2.1⟩; rw [HD2.out]; unfold Hs.does2; rw [if_neg (by omega), if_neg (by omega), if_neg (by omega), if_neg (by omega), if_neg (fun q => e1 (HTT.out.1.trans q.2))]; exact HY.out.1
def Qfa (c : Ch) : Nat := c.pg.toNat * 8 + c.at
abbrev Cel := Bool × ByteArray
def doC (f : Nat -> Cel) (c : Ch) : Nat -> Cel := upd f (Qfa c) (c.makeU, c.makeV)
def Qwi : (Nat -> Cel) -> List Ch -> Prop
  | _, [] => True
  | f, c :: cs => f (Qfa c) = (c.wantU, c.wantV) /\ Qwi (doC f c) cs
def Qim : (Nat -> Cel) -> List Ch -> Nat -> Cel
  | f, [] => f
  | f, c :: cs => Qim (doC f c) cs
theorem Qgs (f : Nat -> Cel) (c : Ch) : doC f c (Qfa c) = (c.makeU, c.makeV) := Qi _ _ _
theorem Qmg (f : Nat -> Cel) (c : Ch) (x : Nat) (h : x ≠ Qfa c) : doC f c x = f x := Qk _ _ _ _ h
theorem Qqr {f g : Nat -> Cel} (c : Ch) {M : Nat -> Prop} (h : ∀ x, M x -> f x = g x) : ∀ x, M x -> doC f c x = doC g c x := fun x hx => by
  unfold doC upd
  by_cases e : x = Qfa c
  · rw [if_pos e, if_pos e]
  · rw [if_neg e, if_neg e]; exact h x hx
theorem Qme {M : Nat -> Prop} : ∀ (cs : List Ch) (f g : Nat -> Cel), (∀ c ∈ cs, M (Qfa c)) -> (∀ x, M x -> f x = g x) -> Qwi f cs -> Qwi g cs
  | [], _, _, _, _, _ => trivial
  | c :: cs, f, g, hm, h, hf => by
    refine ⟨by rw [<- h _ (hm c (by simp))]; exact hf.1, Qme cs _ _ (fun d hd => hm d (List.mem_cons_of_mem _ hd)) (Qqr c h) hf.2⟩
theorem Qff {M : Nat -> Prop} : ∀ (cs : List Ch) (f g : Nat -> Cel), (∀ x, M x -> f x = g x) -> ∀ x, M x -> Qim f cs x = Qim g cs x
  | [], _, _, h, x, hx => h x hx
  | c :: cs, f, g, h, x, hx => Qff cs _ _ (Qqr c h) x hx
theorem Que : ∀ (cs : List Ch) (f : Nat -> Cel) (x : Nat), (∀ c ∈ cs, Qfa c ≠ x) -> Qim f cs x = f x
  | [], _, _, _ => rfl
  | c :: cs, f, x, h => by
    show Qim (doC f c) cs x = f x; rw [Que cs _ x (fun d hd => h d (List.mem_cons_of_mem _ hd)), Qmg _ _ _ (fun e => h c (by simp) e.symm)]
theorem Qng : ∀ (cs ds : List Ch) (f : Nat -> Cel), Qim f (cs ++ ds) = Qim (Qim f cs) ds
  | [], _, _ => rfl
  | c :: cs, ds, f => Qng cs ds (doC f c)
theorem Qpf : ∀ (cs ds : List Ch) (f : Nat -> Cel), Qwi f (cs ++ ds) ↔ Qwi f cs /\ Qwi (Qim f cs) ds
  | [], _, _ => ⟨fun h => ⟨trivial, h⟩, fun h => h.2⟩
  | c :: cs, ds, f => by
    have ih := Qpf cs ds (doC f c)
    constructor
    · rintro ⟨h1, h2⟩; exact ⟨⟨h1, (ih.1 h2).1⟩, (ih.1 h2).2⟩
    · rintro ⟨⟨h1, h2⟩, h3⟩; exact ⟨h1, ih.2 ⟨h2, h3⟩⟩
theorem doC_inv (f : Nat -> Cel) (c : Ch) (hc : c.right) (h : f (Qfa c) = (c.wantU, c.wantV)) : Qfa (Qfe c) = Qfa c /\ doC f c (Qfa c) = ((Qfe c).wantU, (Qfe c).wantV) /\ doC (doC f c) (Qfe c) = f := by
  obtain ⟨h1, h2, h3, h4, h5, h6, h7⟩ := Qqe c hc
  have e : Qfa (Qfe c) = Qfa c := by
    unfold Qfa; rw [h2]; unfold Qfe; rw [if_pos hc]
  refine ⟨e, by rw [Qgs, h3, h4], ?_⟩; funext x
  by_cases hx : x = Qfa c
  · subst hx; rw [show doC (doC f c) (Qfe c) (Qfa c) = doC (doC f c) (Qfe c) (Qfa (Qfe c)) by rw [e], Qgs, h5, h6, h]
  · rw [Qmg _ _ _ (by rw [e]; exact hx), Qmg _ _ _ hx]
theorem both_ways (cs ds : List Ch) (f : Nat -> Cel) (M : Nat -> Prop) (hc : ∀ c ∈ cs, M (Qfa c)) (hd : ∀ d ∈ ds, ¬ M (Qfa d)) (h1 : Qwi f cs) (h2 : Qwi f ds) :
    Qwi f (cs ++ ds) /\ Qwi f (ds ++ cs) /\ ∀ x, Qim f (cs ++ ds) x = Qim f (ds ++ cs) x := by
  have a1 : ∀ x, ¬ M x -> f x = Qim f cs x := fun x hx => (Que cs f x (fun c h e => hx (e ▸ hc c h))).symm
  have a2 : ∀ x, M x -> f x = Qim f ds x := fun x hx => (Que ds f x (fun d h e => hd d h (e ▸ hx))).symm
  refine ⟨(Qpf _ _ _).2 ⟨h1, Qme ds _ _ hd a1 h2⟩, (Qpf _ _ _).2 ⟨h2, Qme cs _ _ hc a2 h1⟩, fun x => ?_⟩; rw [Qng, Qng]
  by_cases hx : M x
  · rw [Que ds _ x (fun d h e => hd d h (e ▸ hx))]; exact Qff (M := M) cs _ _ a2 x hx
  · rw [Que cs (Qim f ds) x (fun c h e => hx (e ▸ hc c h))]; exact (Qff (M := fun x => ¬ M x) ds _ _ a1 x hx).symm
section
def Hs.cell (h : Hs) (x : Nat) : Cel := ((h.pg (x / 8)).u (x % 8), (h.pg (x / 8)).s (x % 8))
def Qsc (l : List Rec) (t : Int) (m : Nat) : Prop := m = 0 ∨ ∃ q ∈ l, q.l = m /\ q.t = t
def chs (l : List Rec) : List Ch := l.map (·.c)
def hasN (o : Lo) (n : Nat) (nr : Int) : Prop := o.nd = (n : Int) /\ o.nr = nr
def Hs.has (h : Hs) (i x : Nat) : Prop := hasN (h.lk x) (i / 3) (h.tx i).nr
def Hs.plan (h : Hs) (i : Nat) : List Rec := Qdd (h.lg (i / 3)) (h.tx i).next 0
def Hs.live (h : Hs) (i : Nat) : Prop := (h.tx i).nr ≠ 0 /\ (h.tx i).st ≠ 3
structure Hs.undo (h : Hs) (i : Nat) : Prop where
  fit : Qwi h.cell (chs (h.plan i))
  mine : ∀ c ∈ chs (h.plan i), h.has i (Qfa c) /\ c.right /\ c.pg < 4
  was : ∀ x, x < 32 -> h.has i x -> Qim h.cell (chs (h.plan i)) x = ((h.lk x).u, (h.lk x).s)
structure Hs.did (h : Hs) (i : Nat) : Prop where
  locked : ∀ r ∈ h.lg (i / 3), r.t = (h.tx i).nr -> r.k = 1 -> h.has i (Qfa r.c)
  first : ∀ pre r post, h.lg (i / 3) = pre ++ r :: post -> r.t = (h.tx i).nr -> r.k = 1 -> (∀ q ∈ pre, q.t = (h.tx i).nr -> q.k = 1 -> Qfa q.c ≠ Qfa r.c) -> ((h.lk (Qfa r.c)).u, (h.lk (Qfa r.c)).s) = (r.c.wantU, r.c.wantV)
structure Tu.ok (t : Tu) (l : List Rec) (m : Int) : Prop where
  zero : t.nr = 0 -> t = Tu.zero
  nr : t.nr ≠ 0 -> 1 <= t.nr /\ t.nr <= m /\ 1 <= t.st /\ t.st <= 3
  last : t.nr ≠ 0 -> t.last = Qfd l t.nr
  next : t.nr ≠ 0 -> t.next = Qca l t.last
  noend : t.nr ≠ 0 -> ∀ r ∈ l, r.t = t.nr -> r.k ≠ 5
  nocom : t.nr ≠ 0 -> t.st ≠ 3 -> ∀ r ∈ l, r.t = t.nr -> r.k ≠ 3
  com : t.nr ≠ 0 -> t.st = 3 -> ∃ r ∈ l, r.t = t.nr /\ r.k = 3
structure Hs.ok (h : Hs) (N : Nat) : Prop where
  ck : ∀ n, n < 3 -> h.ck n <= N
  hi : h.hi <= N
  ct : ∀ n, n < 3 -> 0 <= h.ct n /\ h.ct n <= (N : Int)
  pl : ∀ p, p < 4 -> (h.pg p).l <= N
  pr : ∀ p, p < 4 -> (h.pg p).right
  rise : ∀ n, n < 3 -> Qob 0 (h.lg n)
  last : ∀ n, n < 3 -> ∀ r ∈ h.lg n, r.l <= h.ck n
  recs : ∀ n, n < 3 -> ∀ r ∈ h.lg n, r.k <= 6 /\ 1 <= r.t /\ r.t <= h.ct n /\ (r.k <= 2 -> r.c.pg < 4)
  chain : ∀ n, n < 3 -> ∀ r ∈ h.lg n, Qsc (h.lg n) r.t r.p /\ Qsc (h.lg n) r.t r.n
  txn : ∀ i, i < 9 -> (h.tx i).ok (h.lg (i / 3)) (h.ct (i / 3))
  apart : ∀ i j, i < 9 -> j < 9 -> i / 3 = j / 3 -> i ≠ j -> (h.tx i).nr ≠ 0 -> (h.tx i).nr ≠ (h.tx j).nr
  over : ∀ n, n < 3 -> ∀ r ∈ h.lg n, (∃ i, i < 9 /\ i / 3 = n /\ (h.tx i).nr = r.t) ∨ ∃ e ∈ h.lg n, e.t = r.t /\ e.k = 5
  locks : ∀ x, x < 32 -> (h.lk x).nr ≠ 0 -> ∃ i, i < 9 /\ h.has i x /\ h.live i
  undo : ∀ i, i < 9 -> h.live i -> h.undo i
  did : ∀ i, i < 9 -> h.live i -> h.did i
theorem Qrg {α : Type} (f : Nat -> α) (i : Nat) (x y : α) : upd (upd f i x) i y = upd f i y := by
  funext j; unfold upd; split <;> rfl
theorem Qsg {c : Ch} (h : c.right) (hp : c.pg < 4) : Qfa c < 32 := by
  have := h.at_lt; have := h.1.1; unfold Qfa; omega
theorem linked_more {l : List Rec} {t : Int} {m : Nat} (e : List Rec) (h : Qsc l t m) : Qsc (l ++ e) t m :=
  h.imp id fun ⟨q, h1, h2⟩ => ⟨q, List.mem_append.2 (.inl h1), h2⟩
theorem Qcg {l : List Rec} {e : Rec} (n u : Nat) (h : n ≠ e.l) : Qdd (l ++ [e]) n u = Qdd l n u := by
  rw [Qjc, if_neg (fun x => h x.symm)]
theorem Hs.ok.alone {h : Hs} {N : Nat} (ok : h.ok N) {i j x : Nat} (hi : i < 9) (hj : j < 9) (hne : i ≠ j) (h0 : (h.tx i).nr ≠ 0) (h1 : h.has i x) : ¬ h.has j x := by
  intro h2; obtain ⟨a1, a2⟩ := h1; obtain ⟨b1, b2⟩ := h2; have e : i / 3 = j / 3 := by rw [a1] at b1; omega
  exact ok.apart i j hi hj e hne h0 (by rw [<- a2, b2])
theorem Qvo : ∀ (l : List Rec) (a : Nat), l ≠ [] -> ∃ r ∈ l, Qfb a l = r.l
  | [], _, h => absurd rfl h
  | [r], _, _ => ⟨r, by simp, rfl⟩
  | r :: q :: l, _, _ => by
    obtain ⟨x, h1, h2⟩ := Qvo (q :: l) r.l (by simp); exact ⟨x, List.mem_cons_of_mem _ h1, h2⟩
structure Logs (h h' : Hs) (i : Nat) (e : Rec) (t' : Tu) : Prop where
  i9 : i < 9
  nr : (h.tx i).nr ≠ 0
  lg : h'.lg = upd h.lg (i / 3) (h.lg (i / 3) ++ [e])
  ck : h'.ck = upd h.ck (i / 3) e.l
  ct : h'.ct = h.ct
  tx : h'.tx = upd h.tx i t'
  et : e.t = (h.tx i).nr
  ep : e.p = (h.tx i).last
  el : h.ck (i / 3) < e.l
  er : e.right
  ek : e.k <= 6
  en : Qsc (h.lg (i / 3)) e.t e.n
  ec : e.k <= 2 -> e.c.pg < 4
  lk : ∀ x, x < 32 -> h'.lk x = h.lk x ∨ (h'.lk x).nr = 0 ∨ hasN (h'.lk x) (i / 3) (h.tx i).nr
  keep : ∀ x, x < 32 -> (h.lk x).nr ≠ 0 -> ¬ h.has i x -> h'.lk x = h.lk x /\ h'.cell x = h.cell x
section
variable {h h' : Hs} {i N : Nat} {e : Rec} {t' : Tu}
theorem Logs.lg_i (s : Logs h h' i e t') : h'.lg (i / 3) = h.lg (i / 3) ++ [e] := by rw [s.lg, Qi]
theorem Logs.lg_o (s : Logs h h' i e t') (n : Nat) (hn : n ≠ i / 3) : h'.lg n = h.lg n := by rw [s.lg, Qk _ _ _ _ hn]
theorem Logs.tx_i (s : Logs h h' i e t') : h'.tx i = t' := by rw [s.tx, Qi]
theorem Logs.tx_o (s : Logs h h' i e t') (j : Nat) (hj : j ≠ i) : h'.tx j = h.tx j := by rw [s.tx, Qk _ _ _ _ hj]
theorem Logs.rise (s : Logs h h' i e t') (ok : h.ok N) : Qob 0 (h.lg (i / 3) ++ [e]) := by
  have hi := s.i9; have h1 := ok.rise (i / 3) (by omega); rw [Qzd]; refine ⟨h1, s.er, ?_⟩; have h2 := s.el
  by_cases h0 : h.lg (i / 3) = []
  · rw [h0]; show 0 < e.l; omega
  · obtain ⟨r, h3, h4⟩ := Qvo (h.lg (i / 3)) 0 h0; have h5 := ok.last (i / 3) (by omega) r h3; omega
theorem Logs.mem (s : Logs h h' i e t') {n : Nat} {r : Rec} (hr : r ∈ h'.lg n) : r ∈ h.lg n ∨ n = i / 3 /\ r = e := by
  by_cases hn : n = i / 3
  · subst hn; rw [s.lg_i] at hr
    rcases List.mem_append.1 hr with hr | hr
    · exact .inl hr
    · exact .inr ⟨rfl, List.mem_singleton.1 hr⟩
  · rw [s.lg_o n hn] at hr; exact .inl hr
theorem Logs.sub (s : Logs h h' i e t') {n : Nat} {r : Rec} (hr : r ∈ h.lg n) : r ∈ h'.lg n := by
  by_cases hn : n = i / 3
  · subst hn; rw [s.lg_i]; exact List.mem_append.2 (.inl hr)
  · rw [s.lg_o n hn]; exact hr
theorem Logs.linked (s : Logs h h' i e t') {n : Nat} {t : Int} {m : Nat} (hl : Qsc (h.lg n) t m) : Qsc (h'.lg n) t m :=
  hl.imp id fun ⟨q, h1, h2⟩ => ⟨q, s.sub h1, h2⟩
theorem Qmr {l : List Rec} {c : Nat} (h : ∀ r ∈ l, r.l <= c) (t : Int) : Qfd l t <= c := by
  rcases Qxg l t with h1 | ⟨r, h1, h2, _⟩
  · omega
  · have := h r h1; omega
theorem Logs.other_tn (s : Logs h h' i e t') (ok : h.ok N) (j : Nat) (hj : j < 9) (hne : j ≠ i) : (h'.tx j).ok (h'.lg (j / 3)) (h'.ct (j / 3)) /\ h'.plan j = h.plan j := by
  have hi := s.i9; have o := ok.txn j hj; rw [s.tx_o j hne, s.ct]
  by_cases hn : j / 3 = i / 3
  · by_cases h0 : (h.tx j).nr = 0
    · have hz := o.zero h0; rw [hz]; have zz : Tu.zero.nr = 0 := rfl; refine ⟨⟨fun _ => rfl, fun h => absurd zz h, fun h => absurd zz h, fun h => absurd zz h, fun h => absurd zz h, fun h => absurd zz h, fun h => absurd zz h⟩, ?_⟩; unfold Hs.plan; rw [s.tx_o j hne, hz, hn, s.lg_i]; exact Qcg _ _ (by have := s.el; show (0 : Nat) ≠ e.l; omega)
    · have hap := ok.apart j i hj hi hn hne h0
      have hlast : (h.tx j).last <= h.ck (i / 3) := by
        rw [o.last h0, hn]; exact Qmr (ok.last (i / 3) (by omega)) _
      have hel := s.el
      have hnx : (h.tx j).next <= h.ck (i / 3) := by
        rw [o.next h0, hn]; have := Qfh (ok.rise (i / 3) (by omega)) (h.tx j).last; omega
      have hmem : ∀ r ∈ h.lg (i / 3) ++ [e], r.t = (h.tx j).nr -> r ∈ h.lg (i / 3) := fun r hr ht => by
        rcases List.mem_append.1 hr with hr | hr
        · exact hr
        · rw [List.mem_singleton.1 hr, s.et] at ht; exact absurd ht.symm hap
      rw [hn, s.lg_i]; have l1 := o.last h0; have l2 := o.next h0; have l3 := o.noend h0; have l4 := o.nocom h0; have l5 := o.com h0; rw [hn] at l1 l2 l3 l4 l5
      refine ⟨⟨fun h => absurd h h0, fun h => by have := o.nr h; rwa [hn] at this, fun _ => ?_, fun _ => ?_, fun _ r hr ht => l3 r (hmem r hr ht) ht, fun _ hs r hr ht => l4 hs r (hmem r hr ht) ht, fun _ hs => ?_⟩, ?_⟩
      · rw [Qhc, if_neg (fun x => hap (x.2.symm.trans s.et))]; exact l1
      · rw [Qeb, if_neg (by omega)]; exact l2
      · obtain ⟨r, h1, h2⟩ := l5 hs; exact ⟨r, List.mem_append.2 (.inl h1), h2⟩
      · unfold Hs.plan; rw [s.tx_o j hne, hn, s.lg_i]; exact Qcg _ _ (by omega)
  · rw [s.lg_o _ hn]; refine ⟨o, ?_⟩; unfold Hs.plan; rw [s.tx_o j hne, s.lg_o _ hn]
theorem Logs.other (s : Logs h h' i e t') (ok : h.ok N) (j : Nat) (hj : j < 9) (hne : j ≠ i) (hl : h'.live j) : h'.undo j /\ h'.did j := by
  have hi := s.i9
  have hlj : h.live j := by
    unfold Hs.live at hl |-; rwa [s.tx_o j hne] at hl
  have u := ok.undo j hj hlj; have d := ok.did j hj hlj; have hp := (s.other_tn ok j hj hne).2
  have hk : ∀ x, x < 32 -> h.has j x -> h'.lk x = h.lk x /\ h'.cell x = h.cell x := fun x hx hh =>
    s.keep x hx (by rw [hh.2]; exact hlj.1) (ok.alone hj hi hne hlj.1 hh)
  have hto : ∀ x, x < 32 -> h.has j x -> h'.has j x := fun x hx hh => by
    unfold Hs.has; rw [(hk x hx hh).1, s.tx_o j hne]; exact hh
  have hfrom : ∀ x, x < 32 -> h'.has j x -> h.has j x := fun x hx hh => by
    unfold Hs.has at hh |-; rw [s.tx_o j hne] at hh
    rcases s.lk x hx with h1 | h1 | h1
    · rwa [h1] at hh
    · exact absurd (hh.2.symm.trans h1) hlj.1
    · exfalso; have e1 : j / 3 = i / 3 := by have a := hh.1; have b := h1.1; rw [a] at b; omega
      exact ok.apart j i hj hi e1 hne hlj.1 (hh.2.symm.trans h1.2)
  have hx32 : ∀ c ∈ chs (h.plan j), Qfa c < 32 := fun c hc => Qsg (u.mine c hc).2.1 (u.mine c hc).2.2
  have hM : ∀ c ∈ chs (h.plan j), Qfa c < 32 /\ h.has j (Qfa c) := fun c hc => ⟨hx32 c hc, (u.mine c hc).1⟩
  have hcl : ∀ x, x < 32 /\ h.has j x -> h.cell x = h'.cell x := fun x hx => (hk x hx.1 hx.2).2.symm
  refine ⟨⟨?_, ?_, ?_⟩, ⟨?_, ?_⟩⟩
  · rw [hp]; exact Qme (M := fun x => x < 32 /\ h.has j x) _ _ _ hM hcl u.fit
  · rw [hp]; intro c hc; exact ⟨hto _ (hx32 c hc) (u.mine c hc).1, (u.mine c hc).2⟩
  · rw [hp]; intro x hx hh; have hh' := hfrom x hx hh; rw [(hk x hx hh').1, <- u.was x hx hh']; exact (Qff (M := fun x => x < 32 /\ h.has j x) _ _ _ hcl x ⟨hx, hh'⟩).symm
  · intro r hr ht hk1; rw [s.tx_o j hne] at ht
    have hr' : r ∈ h.lg (j / 3) := by
      rcases s.mem hr with h1 | ⟨h1, h2⟩
      · exact h1
      · exfalso; rw [h2, s.et] at ht; exact ok.apart j i hj hi h1 hne hlj.1 ht.symm
    have hR := Qga _ 0 (ok.rise (j / 3) (by omega)) r hr'; have h3 := (ok.recs (j / 3) (by omega) r hr').2.2.2 (by omega); exact hto _ (Qsg (hR.ch (by omega)) h3) (d.locked r hr' ht hk1)
  · intro pre r post he ht hk1 hpre; rw [s.tx_o j hne] at ht hpre
    by_cases hn : j / 3 = i / 3
    · rw [hn, s.lg_i] at he
      have hcase : ∃ post', h.lg (i / 3) = pre ++ r :: post' := by
        rcases List.append_eq_append_iff.1 he with ⟨a, h1, h2⟩ | ⟨a, h1, h2⟩
        · cases a with
          | nil =>
            rw [List.nil_append] at h2; injection h2 with h3 h4; exfalso; rw [<- h3, s.et] at ht; exact ok.apart j i hj hi hn hne hlj.1 ht.symm
          | cons b a =>
            exfalso; rw [List.cons_append] at h2; injection h2 with h3 h4; have := congrArg List.length h4; simp at this
        · cases a with
          | nil =>
            exfalso; rw [List.nil_append] at h2; injection h2 with h3 h4; rw [h3, s.et] at ht; exact ok.apart j i hj hi hn hne hlj.1 ht.symm
          | cons b a =>
            rw [List.cons_append] at h2; injection h2 with h3 h4; subst h3; exact ⟨a, h1⟩
      obtain ⟨post', he'⟩ := hcase; have hr' : r ∈ h.lg (i / 3) := by rw [he']; simp
      have hR := Qga _ 0 (ok.rise (i / 3) (by omega)) r hr'; have h3 := (ok.recs (i / 3) (by omega) r hr').2.2.2 (by omega); rw [<- hn] at he' hr'; rw [(hk _ (Qsg (hR.ch (by omega)) h3) (d.locked r hr' ht hk1)).1]; exact d.first pre r post' he' ht hk1 hpre
    · rw [s.lg_o _ hn] at he; have hr' : r ∈ h.lg (j / 3) := by rw [he]; simp
      have hR := Qga _ 0 (ok.rise (j / 3) (by omega)) r hr'; have h3 := (ok.recs (j / 3) (by omega) r hr').2.2.2 (by omega); rw [(hk _ (Qsg (hR.ch (by omega)) h3) (d.locked r hr' ht hk1)).1]; exact d.first pre r post he ht hk1 hpre
theorem Logs.done (s : Logs h h' i e t') (ok : h.ok N) (M : Nat) (hNM : N <= M) (hel : e.l <= M) (hhi : h'.hi <= M) (hpl : ∀ p, p < 4 -> (h'.pg p).l <= M) (hpr : ∀ p, p < 4 -> (h'.pg p).right)
    (ht : t'.ok (h.lg (i / 3) ++ [e]) (h.ct (i / 3))) (hnr : t'.nr = (h.tx i).nr ∨ t'.nr = 0 /\ e.k = 5)
    (hlk : ∀ x, x < 32 -> hasN (h'.lk x) (i / 3) (h.tx i).nr -> t'.nr = (h.tx i).nr /\ t'.st ≠ 3)
    (hu : h'.live i -> h'.undo i /\ h'.did i) : h'.ok M := by
  have hi := s.i9
  refine ⟨?_, hhi, ?_, hpl, hpr, ?_, ?_, ?_, ?_, ?_, ?_, ?_, ?_, ?_, ?_⟩
  · intro n hn; rw [s.ck]
    by_cases hni : n = i / 3
    · subst hni; rw [Qi]; exact hel
    · rw [Qk _ _ _ _ hni]; have := ok.ck n hn; omega
  · intro n hn; rw [s.ct]; have := ok.ct n hn; omega
  · intro n hn
    by_cases hni : n = i / 3
    · subst hni; rw [s.lg_i]; exact s.rise ok
    · rw [s.lg_o _ hni]; exact ok.rise n hn
  · intro n hn r hr; rw [s.ck]; have hel2 := s.el
    rcases s.mem hr with h1 | ⟨h1, h2⟩
    · have h3 := ok.last n hn r h1
      by_cases hni : n = i / 3
      · subst hni; rw [Qi]; omega
      · rw [Qk _ _ _ _ hni]; exact h3
    · rw [h1, h2, Qi]; exact Nat.le_refl _
  · intro n hn r hr; rw [s.ct]
    rcases s.mem hr with h1 | ⟨h1, h2⟩
    · exact ok.recs n hn r h1
    · rw [h1, h2]; have h3 := (ok.txn i hi).nr s.nr; exact ⟨s.ek, by rw [s.et]; exact h3.1, by rw [s.et]; exact h3.2.1, s.ec⟩
  · intro n hn r hr
    rcases s.mem hr with h1 | ⟨h1, h2⟩
    · have h3 := ok.chain n hn r h1; exact ⟨s.linked h3.1, s.linked h3.2⟩
    · rw [h2, h1]; refine ⟨s.linked ?_, s.linked s.en⟩; rw [s.ep, s.et, (ok.txn i hi).last s.nr]
      rcases Qxg (h.lg (i / 3)) (h.tx i).nr with h4 | ⟨q, h4, h5, h6, _⟩
      · exact .inl h4
      · exact .inr ⟨q, h4, h5, h6⟩
  · intro j hj
    by_cases hne : j = i
    · subst hne; rw [s.tx_i, s.lg_i, s.ct]; exact ht
    · exact (s.other_tn ok j hj hne).1
  · intro a b ha hb hab hne h0
    by_cases hai : a = i
    · subst hai; rw [s.tx_i] at h0 |-; rw [s.tx_o b (fun x => hne x.symm)]
      rcases hnr with h1 | ⟨h1, _⟩
      · rw [h1]; exact ok.apart a b ha hb hab hne s.nr
      · exact absurd h1 h0
    · rw [s.tx_o a hai] at h0 |-
      by_cases hbi : b = i
      · subst hbi; rw [s.tx_i]
        rcases hnr with h1 | ⟨h1, _⟩
        · rw [h1]; exact ok.apart a b ha hb hab hne h0
        · rw [h1]; exact h0
      · rw [s.tx_o b hbi]; exact ok.apart a b ha hb hab hne h0
  · intro n hn r hr
    have key : ∀ r : Rec, r.t = (h.tx i).nr -> n = i / 3 -> (∃ j, j < 9 /\ j / 3 = n /\ (h'.tx j).nr = r.t) ∨ ∃ q ∈ h'.lg n, q.t = r.t /\ q.k = 5 := fun r hrt hni => by
      rcases hnr with h1 | ⟨_, h1⟩
      · exact .inl ⟨i, hi, hni.symm, by rw [s.tx_i, h1, hrt]⟩
      · refine .inr ⟨e, ?_, by rw [s.et, hrt], h1⟩; rw [hni, s.lg_i]; simp
    rcases s.mem hr with h1 | ⟨h1, h2⟩
    · rcases ok.over n hn r h1 with ⟨j, h3, h4, h5⟩ | ⟨q, h3, h4⟩
      · by_cases hji : j = i
        · subst hji; exact key r h5.symm h4.symm
        · exact .inl ⟨j, h3, h4, by rw [s.tx_o j hji]; exact h5⟩
      · exact .inr ⟨q, s.sub h3, h4⟩
    · exact key r (by rw [h2]; exact s.et) h1
  · intro x hx h0
    have mk : hasN (h'.lk x) (i / 3) (h.tx i).nr -> ∃ j, j < 9 /\ h'.has j x /\ h'.live j := fun hh => by
      obtain ⟨h1, h2⟩ := hlk x hx hh
      refine ⟨i, hi, ?_, ?_⟩
      · unfold Hs.has; rw [s.tx_i, h1]; exact hh
      · unfold Hs.live; rw [s.tx_i]; exact ⟨by rw [h1]; exact s.nr, h2⟩
    rcases s.lk x hx with h1 | h1 | h1
    · rw [h1] at h0; obtain ⟨j, h2, h3, h4⟩ := ok.locks x hx h0
      by_cases hji : j = i
      · subst hji; exact mk (by rw [h1]; exact h3)
      · refine ⟨j, h2, ?_, ?_⟩
        · unfold Hs.has; rw [h1, s.tx_o j hji]; exact h3
        · unfold Hs.live; rw [s.tx_o j hji]; exact h4
    · exact absurd h1 h0
    · exact mk h1
  · intro j hj hl
    by_cases hne : j = i
    · subst hne; exact (hu hl).1
    · exact (s.other ok j hj hne hl).1
  · intro j hj hl
    by_cases hne : j = i
    · subst hne; exact (hu hl).2
    · exact (s.other ok j hj hne hl).2
end
end
section
section
variable {h h' : Hs} {N i : Nat} {e : Rec} {t' : Tu}
theorem Hs.ok.more (ok : h.ok N) {M : Nat} (hm : N <= M) : h.ok M :=
  { ok with
    ck := fun n hn => Nat.le_trans (ok.ck n hn) hm
    hi := Nat.le_trans ok.hi hm
    ct := fun n hn => ⟨(ok.ct n hn).1, by have := (ok.ct n hn).2; omega⟩
    pl := fun p hp => Nat.le_trans (ok.pl p hp) hm }
theorem Hs.ok.clock (ok : h.ok N) {n c : Nat} (h1 : h.ck n <= c) (h2 : c <= N) : (h.setCk n c).ok N :=
  { ok with
    ck := fun m hm => by
      show upd h.ck n c m <= N
      by_cases e : m = n
      · subst e; rw [Qi]; exact h2
      · rw [Qk _ _ _ _ e]; exact ok.ck m hm
    last := fun m hm r hr => by
      have := ok.last m hm r hr; show r.l <= upd h.ck n c m
      by_cases e : m = n
      · subst e; rw [Qi]; omega
      · rw [Qk _ _ _ _ e]; exact this
    undo := fun i hi hl => ⟨(ok.undo i hi hl).fit, (ok.undo i hi hl).mine, (ok.undo i hi hl).was⟩
    did := fun i hi hl => ⟨(ok.did i hi hl).locked, (ok.did i hi hl).first⟩ }
theorem Qiu {k s t : Int} {L p : Nat} (hk : 3 <= k /\ k <= 6) (hs : k = 6 -> 1 <= s /\ s <= 8) (hs0 : k ≠ 6 -> s = 0) (hL : 1 <= L /\ L <= Qce) (ht : 1 <= t /\ t <= 1048575) (hp : p < L) : (⟨k, L, t, p, Ch.zero, 0, s, 0, [], []⟩ : Rec).right :=
  ⟨by show 1 <= k; omega, by show k <= 8; omega, hL.1, hL.2, fun _ => ⟨ht.1, ht.2, hp⟩, fun h => absurd h (by show ¬ 6 < k; omega), fun h => absurd h (by show ¬ k <= 2; omega), fun _ => rfl, fun h => absurd h (by show ¬ k = 2; omega), fun _ => rfl, hs, hs0, fun h => absurd h (by show ¬ k = 8; omega), fun _ => ⟨rfl, rfl, rfl⟩⟩
theorem Tu.ok.more {t : Tu} {l : List Rec} {m s : Int} (o : t.ok l m) (h0 : t.nr ≠ 0) (he : e.t = t.nr) (hp : e.p = t.last) (k1 : e.k ≠ 1) (k2 : e.k ≠ 2) (k5 : e.k ≠ 5) (hs : 1 <= s /\ s <= 3) (hc : s ≠ 3 -> t.st ≠ 3 /\ e.k ≠ 3) (hd : s = 3 -> e.k = 3) : (⟨t.nr, s, e.l, t.next⟩ : Tu).ok (l ++ [e]) m where
  zero := fun h => absurd h h0
  nr := fun _ => ⟨(o.nr h0).1, (o.nr h0).2.1, hs.1, hs.2⟩
  last := fun _ => by
    show e.l = Qfd (l ++ [e]) t.nr; rw [Qhc, if_pos ⟨(o.nr h0).1, he⟩]
  next := fun _ => by
    show t.next = Qca (l ++ [e]) e.l; rw [Qeb, if_pos rfl, if_neg k1, if_neg k2, hp]; exact o.next h0
  noend := fun _ r hr ht => by
    rcases List.mem_append.1 hr with hr | hr
    · exact o.noend h0 r hr ht
    · rw [List.mem_singleton.1 hr]; exact k5
  nocom := fun _ hst r hr ht => by
    rcases List.mem_append.1 hr with hr | hr
    · exact o.nocom h0 (hc hst).1 r hr ht
    · rw [List.mem_singleton.1 hr]; exact (hc hst).2
  com := fun _ hst => ⟨e, by simp, he, hd hst⟩
theorem Qsl {l pre post : List Rec} {r : Rec} (he : l ++ [e] = pre ++ r :: post) : (∃ post', l = pre ++ r :: post') ∨ (pre = l /\ r = e) := by
  rcases List.append_eq_append_iff.1 he with ⟨a, h1, h2⟩ | ⟨a, h1, h2⟩
  · cases a with
    | nil =>
      rw [List.nil_append] at h2; injection h2 with h3 h4; exact .inr ⟨by rw [h1, List.append_nil], h3.symm⟩
    | cons b a =>
      exfalso; rw [List.cons_append] at h2; injection h2 with h3 h4; have := congrArg List.length h4; simp at this
  · cases a with
    | nil =>
      rw [List.nil_append] at h2; injection h2 with h3 h4; exact .inr ⟨by rw [h1, List.append_nil], h3⟩
    | cons b a =>
      rw [List.cons_append] at h2; injection h2 with h3 h4; subst h3; exact .inl ⟨a, h1⟩
theorem Hs.ok.last_lt (ok : h.ok N) (hi : i < 9) (h0 : (h.tx i).nr ≠ 0) : (h.tx i).last <= h.ck (i / 3) /\ (h.tx i).next <= h.ck (i / 3) := by
  have o := ok.txn i hi
  have h1 : (h.tx i).last <= h.ck (i / 3) := by
    rw [o.last h0]; exact Qmr (ok.last (i / 3) (by omega)) _
  refine ⟨h1, ?_⟩; rw [o.next h0]; have := Qfh (ok.rise (i / 3) (by omega)) (h.tx i).last; omega
theorem Logs.stays (s : Logs h h' i e t') (ok : h.ok N) (hk : e.k ≠ 1) (hl : h.live i) (hnr : t'.nr = (h.tx i).nr) (hlk : ∀ x, x < 32 -> h'.lk x = h.lk x) : h'.did i := by
  have hi := s.i9; have d := ok.did i hi hl
  have old : ∀ r ∈ h.lg (i / 3), r.k = 1 -> Qfa r.c < 32 := fun r hr hk1 => by
    have hR := Qga _ 0 (ok.rise (i / 3) (by omega)) r hr; exact Qsg (hR.ch (by omega)) ((ok.recs (i / 3) (by omega) r hr).2.2.2 (by omega))
  refine ⟨fun r hr ht hk1 => ?_, fun pre r post he ht hk1 hpre => ?_⟩
  · rw [s.tx_i, hnr] at ht
    rcases s.mem hr with h1 | ⟨_, h1⟩
    · unfold Hs.has; rw [hlk _ (old r h1 hk1), s.tx_i, hnr]; exact d.locked r h1 ht hk1
    · exact absurd (h1 ▸ hk1) hk
  · rw [s.tx_i, hnr] at ht hpre; rw [s.lg_i] at he
    rcases Qsl he with ⟨post', h1⟩ | ⟨h1, h2⟩
    · have hm : r ∈ h.lg (i / 3) := by rw [h1]; simp
      rw [hlk _ (old r hm hk1)]; exact d.first pre r post' h1 ht hk1 hpre
    · exact absurd (h2 ▸ hk1) hk
theorem Logs.undoes (s : Logs h h' i e t') (ok : h.ok N) (hl : h.live i) (hnr : t'.nr = (h.tx i).nr) (hnx : t'.next = (h.tx i).next) (hlk : ∀ x, x < 32 -> h'.lk x = h.lk x) (hce : h'.cell = h.cell) : h'.undo i := by
  have hi := s.i9; have u := ok.undo i hi hl
  have hp : h'.plan i = h.plan i := by
    unfold Hs.plan; rw [s.tx_i, s.lg_i, hnx]; have h1 := (ok.last_lt hi s.nr).2; have h2 := s.el; exact Qcg _ _ (by omega)
  have hh : ∀ x, x < 32 -> (h'.has i x ↔ h.has i x) := fun x hx => by
    unfold Hs.has; rw [hlk x hx, s.tx_i, hnr]
  refine ⟨by rw [hp, hce]; exact u.fit, fun c hc => ?_, fun x hx hhx => ?_⟩
  · rw [hp] at hc; have := u.mine c hc; exact ⟨(hh _ (Qsg this.2.1 this.2.2)).2 this.1, this.2⟩
  · rw [hp, hce, hlk x hx]; exact u.was x hx ((hh x hx).1 hhx)
theorem Logs.bare (ok : h.ok N) (hN : N <= 100000) (hi : i < 9) (h0 : (h.tx i).nr ≠ 0) {k ss : Int} (hk : 3 <= k /\ k <= 6) (hs : k = 6 -> 1 <= ss /\ ss <= 8) (hs0 : k ≠ 6 -> ss = 0)
    (lg : h'.lg = upd h.lg (i / 3) (h.lg (i / 3) ++ [h.entry (i / 3) i (Qs k Ch.zero ss) 0])) (ck : h'.ck = upd h.ck (i / 3) (h.lsn (i / 3) 0)) (ct : h'.ct = h.ct) (tx : h'.tx = upd h.tx i t') (hpg : h'.pg = h.pg)
    (lk : ∀ x, x < 32 -> h'.lk x = h.lk x ∨ h.has i x /\ (h'.lk x).nr = 0) : Logs h h' i (h.entry (i / 3) i (Qs k Ch.zero ss) 0) t' := by
  have o := (ok.txn i hi).nr h0; have h1 := ok.ct (i / 3) (by omega); have h2 := ok.ck (i / 3) (by omega); have h3 := (ok.last_lt hi h0).1; have hL : h.lsn (i / 3) 0 = h.ck (i / 3) + 1 := by unfold Hs.lsn; omega
  have hce : h'.cell = h.cell := by
    funext x; unfold Hs.cell; rw [hpg]
  refine ⟨hi, h0, lg, ck, ct, tx, rfl, rfl, ?_, ?_, hk.2, .inl rfl, fun hq => ?_, fun x hx => ?_, fun x hx _ hn => ⟨?_, by rw [hce]⟩⟩
  · show h.ck (i / 3) < h.lsn (i / 3) 0; omega
  · exact Qiu hk hs hs0 (by unfold Qce; omega) (by omega) (by omega)
  · exact absurd hq (by show ¬ k <= 2; omega)
  · rcases lk x hx with h4 | ⟨_, h4⟩
    · exact .inl h4
    · exact .inr (.inl h4)
  · rcases lk x hx with h4 | ⟨h4, _⟩
    · exact h4
    · exact absurd h4 hn
theorem free_lk {h1 : Hs} (hlk : h1.lk = h.lk) (hnr : (h1.tx i).nr = (h.tx i).nr) (x : Nat) (hx : x < 32) : (h.has i x -> (h1.free (i / 3) i).lk x = Lo.zero) /\ (¬ h.has i x -> (h1.free (i / 3) i).lk x = h.lk x) := by
  have hm : h1.mine (i / 3) i x = true ↔ h.has i x := by
    unfold Hs.mine Hs.has hasN; rw [hlk, hnr, Bool.and_eq_true, decide_eq_true_eq, decide_eq_true_eq]
  have e : (h1.free (i / 3) i).lk x = if x < 32 /\ h1.mine (i / 3) i x = true then Lo.zero else h1.lk x := rfl
  rw [e, hlk]; refine ⟨fun hh => if_pos ⟨hx, hm.2 hh⟩, fun hh => if_neg (fun q => hh (hm.1 q.2))⟩
theorem Hs.ok.goes (ok : h.ok N) (hN : N <= 100000) (hi : i < 9) (h0 : (h.tx i).nr ≠ 0) (hst : (h.tx i).st = 1) {k ss s : Int} (hk : k = 4 ∨ k = 6) (hs : k = 6 -> 1 <= ss /\ ss <= 8) (hs0 : k ≠ 6 -> ss = 0) (hs2 : s = 1 ∨ s = 2)
    (lg : h'.lg = upd h.lg (i / 3) (h.lg (i / 3) ++ [h.entry (i / 3) i (Qs k Ch.zero ss) 0])) (ck : h'.ck = upd h.ck (i / 3) (h.lsn (i / 3) 0)) (ct : h'.ct = h.ct) (tx : h'.tx = upd h.tx i ⟨(h.tx i).nr, s, h.lsn (i / 3) 0, (h.tx i).next⟩) (hpg : h'.pg = h.pg) (lk : h'.lk = h.lk) (hh : h'.hi = h.hi) : h'.ok (N + 1) := by
  have hlk : ∀ x, x < 32 -> h'.lk x = h.lk x := fun x _ => by rw [lk]
  have L := Logs.bare ok hN hi h0 (by omega) hs hs0 lg ck ct tx hpg (fun x hx => .inl (hlk x hx)); have hl : h.live i := ⟨h0, by omega⟩; have hL : h.lsn (i / 3) 0 = h.ck (i / 3) + 1 := by unfold Hs.lsn; omega
  have h2 := ok.ck (i / 3) (by omega)
  have hce : h'.cell = h.cell := by
    funext x; unfold Hs.cell; rw [hpg]
  refine L.done ok (N + 1) (by omega) (by show h.lsn (i / 3) 0 <= N + 1; omega) (by rw [hh]; have := ok.hi; omega) (fun p hp => by rw [hpg]; have := ok.pl p hp; omega) (fun p hp => by rw [hpg]; exact ok.pr p hp) ?_ (.inl rfl) (fun x hx hn => ⟨rfl, by show s ≠ 3; omega⟩) (fun _ => ⟨L.undoes ok hl rfl rfl hlk hce, L.stays ok ?_ hl rfl hlk⟩)
  · exact (ok.txn i hi).more (e := h.entry (i / 3) i (Qs k Ch.zero ss) 0) (s := s) h0 rfl rfl (by show k ≠ 1; omega) (by show k ≠ 2; omega) (by show k ≠ 5; omega) (by omega) (fun _ => ⟨by omega, by show k ≠ 3; omega⟩) (fun q => absurd q (by omega))
  · show k ≠ 1; omega
theorem Hs.ok.stops (ok : h.ok N) (hN : N <= 100000) (hi : i < 9) (h0 : (h.tx i).nr ≠ 0) {k : Int} (hk : k = 3 /\ (h.tx i).st = 1 /\ t' = ⟨(h.tx i).nr, 3, h.lsn (i / 3) 0, (h.tx i).next⟩ ∨ k = 5 /\ t' = Tu.zero)
    (lg : h'.lg = upd h.lg (i / 3) (h.lg (i / 3) ++ [h.entry (i / 3) i (Qs k Ch.zero 0) 0])) (ck : h'.ck = upd h.ck (i / 3) (h.lsn (i / 3) 0)) (ct : h'.ct = h.ct) (tx : h'.tx = upd h.tx i t') (hpg : h'.pg = h.pg) (lk : ∀ x, x < 32 -> (h.has i x -> h'.lk x = Lo.zero) /\ (¬ h.has i x -> h'.lk x = h.lk x)) (hh : h'.hi <= N + 1) : h'.ok (N + 1) := by
  have hlk : ∀ x, x < 32 -> h'.lk x = h.lk x ∨ h.has i x /\ (h'.lk x).nr = 0 := fun x hx => by
    by_cases hq : h.has i x
    · exact .inr ⟨hq, by rw [(lk x hx).1 hq]; rfl⟩
    · exact .inl ((lk x hx).2 hq)
  have L := Logs.bare ok hN hi h0 (by omega) (fun q => absurd q (by omega)) (fun _ => rfl) lg ck ct tx hpg hlk; have hL : h.lsn (i / 3) 0 = h.ck (i / 3) + 1 := by unfold Hs.lsn; omega
  have h2 := ok.ck (i / 3) (by omega)
  refine L.done ok (N + 1) (by omega) (by show h.lsn (i / 3) 0 <= N + 1; omega) hh (fun p hp => by rw [hpg]; have := ok.pl p hp; omega) (fun p hp => by rw [hpg]; exact ok.pr p hp) ?_ ?_ (fun x hx hn => ?_) (fun hl => ?_)
  · rcases hk with ⟨h3, h4, h5⟩ | ⟨h3, h5⟩
    · rw [h5]; exact (ok.txn i hi).more (e := h.entry (i / 3) i (Qs k Ch.zero 0) 0) (s := 3) h0 rfl rfl (by show k ≠ 1; omega) (by show k ≠ 2; omega) (by show k ≠ 5; omega) (by omega) (fun q => absurd rfl q) (fun _ => h3)
    · rw [h5]; have zz : Tu.zero.nr = 0 := rfl; exact ⟨fun _ => rfl, fun q => absurd zz q, fun q => absurd zz q, fun q => absurd zz q, fun q => absurd zz q, fun q => absurd zz q, fun q => absurd zz q⟩
  · rcases hk with ⟨h3, h4, h5⟩ | ⟨h3, h5⟩
    · exact .inl (by rw [h5])
    · exact .inr ⟨by rw [h5]; rfl, h3⟩
  · exfalso
    by_cases hq : h.has i x
    · rw [(lk x hx).1 hq] at hn; exact h0 hn.2.symm
    · rw [(lk x hx).2 hq] at hn; exact hq hn
  · exfalso; unfold Hs.live at hl; rw [L.tx_i] at hl
    rcases hk with ⟨h3, h4, h5⟩ | ⟨h3, h5⟩
    · rw [h5] at hl; exact hl.2 rfl
    · rw [h5] at hl; exact hl.1 rfl
end
end
section
section
variable {h h' : Hs} {N i : Nat} {e : Rec} {t' : Tu}
theorem Qwl {k t : Int} {L p m : Nat} {c : Ch} (hk : k = 1 ∨ k = 2) (hc : c.right) (hL : 1 <= L /\ L <= Qce) (ht : 1 <= t /\ t <= 1048575) (hp : p < L) (h2 : k = 2 -> m < L) (h1 : k = 1 -> m = 0) : (⟨k, L, t, p, c, m, 0, 0, [], []⟩ : Rec).right :=
  ⟨by show 1 <= k; omega, by show k <= 8; omega, hL.1, hL.2, fun _ => ⟨ht.1, ht.2, hp⟩, fun h => absurd h (by show ¬ 6 < k; omega), fun _ => hc, fun h => absurd h (by show ¬ 2 < k; omega), fun h => h2 h, fun h => h1 (by have : k ≠ 2 := h; omega), fun h => absurd h (by show ¬ k = 6; omega), fun _ => rfl, fun h => absurd h (by show ¬ k = 8; omega), fun _ => ⟨rfl, rfl, rfl⟩⟩
theorem Qms {p L : Nat} {c : Ch} (hc : c.right) (hp : p = c.pg.toNat) (hpg : h'.pg = upd h.pg p ((h.pg p).put L c.at c.makeU c.makeV)) : h'.cell = doC h.cell c := by
  have hat := hc.at_lt; funext x; unfold Hs.cell; rw [hpg]
  by_cases hx : x = Qfa c
  · rw [hx, Qgs]; have e1 : Qfa c / 8 = p := by unfold Qfa; rw [hp]; omega
    have e2 : Qfa c % 8 = c.at := by unfold Qfa; omega
    rw [e1, e2, Qi]; show ((if c.at = c.at then c.makeU else (h.pg p).u c.at), (if c.at = c.at then c.makeV else (h.pg p).s c.at)) = _; rw [if_pos rfl, if_pos rfl]
  · rw [Qmg _ _ _ hx]
    by_cases h1 : x / 8 = p
    · have h2 : x % 8 ≠ c.at := fun h2 => hx (by unfold Qfa; rw [<- hp, <- h1, <- h2]; omega)
      rw [h1, Qi]; show ((if x % 8 = c.at then c.makeU else (h.pg p).u (x % 8)), (if x % 8 = c.at then c.makeV else (h.pg p).s (x % 8))) = _; rw [if_neg h2, if_neg h2]
    · rw [Qk _ _ _ _ h1]
theorem Qge {l : List Rec} (hl : Qob 0 l) (ch : ∀ r ∈ l, Qsc l r.t r.p /\ Qsc l r.t r.n) (t : Int) : ∀ f m, m <= f -> Qsc l t m -> Qsc l t (Qca l m) := by
  intro f
  induction f with
  | zero =>
    intro m hm _; obtain rfl : m = 0 := by omega
    rw [Qpe hl]; exact .inl rfl
  | succ f ih =>
    intro m hm hk
    rcases hk with rfl | ⟨q, hq, h2, h3⟩
    · rw [Qpe hl]; exact .inl rfl
    · have hR := Qga _ 0 hl q hq; have h4 := Qic hR; have h5 := Qpd hR; have h6 := ch q hq; rw [h3] at h6; rw [<- h2, Quf hl hq]; unfold Qui
      split
      · exact .inr ⟨q, hq, rfl, h3⟩
      · split
        · exact ih _ (by omega) h6.2
        · exact ih _ (by omega) h6.1
theorem Hs.ok.front (ok : h.ok N) (hi : i < 9) (h0 : (h.tx i).nr ≠ 0) (hn : (h.tx i).next ≠ 0) : ∃ r ∈ h.lg (i / 3), r.l = (h.tx i).next /\ r.k = 1 /\ r.t = (h.tx i).nr /\ (h.plan i) = Qra (h.lg (i / 3)) r :: Qdd (h.lg (i / 3)) (Qra (h.lg (i / 3)) r).n 0 := by
  have hl := ok.rise (i / 3) (by omega); have o := ok.txn i hi; have hnx := o.next h0
  rcases Qgj hl (h.tx i).last with h1 | ⟨r, hr, h2, h3⟩
  · exact absurd (hnx.trans h1) hn
  · have hr2 : r.l = (h.tx i).next := h2.trans hnx.symm
    have hlk : Qsc (h.lg (i / 3)) (h.tx i).nr (h.tx i).last := by
      rw [o.last h0]
      rcases Qxg (h.lg (i / 3)) (h.tx i).nr with h4 | ⟨q, h4, h5, h6, _⟩
      · exact .inl h4
      · exact .inr ⟨q, h4, h5, h6⟩
    have hl2 := Qge hl (ok.chain (i / 3) (by omega)) (h.tx i).nr _ _ (Nat.le_refl _) hlk; rw [<- hnx] at hl2
    have ht : r.t = (h.tx i).nr := by
      rcases hl2 with h4 | ⟨q, h4, h5, h6⟩
      · exact absurd h4 hn
      · have a := Qyc hl hr; rw [hr2, <- h5, Qyc hl h4] at a; injection a with a; rw [<- a]; exact h6
    refine ⟨r, hr, hr2, h3, ht, ?_⟩; unfold Hs.plan; rw [<- hr2, Qyh hl hr h3, if_pos (Qod _ 0 hl r hr).1]
theorem Hs.back_no (e : (h.tx i).next = 0 ∨ ((h.tx i).st ≠ 1 /\ (h.tx i).st ≠ 2)) (n : Nat) : h.back n i = h := by unfold Hs.back; rw [if_pos e]
theorem Hs.back_yes {n : Nat} {r : Rec} (e : ¬ ((h.tx i).next = 0 ∨ ((h.tx i).st ≠ 1 /\ (h.tx i).st ≠ 2))) (hl : Qob 0 (h.lg n)) (hr : r ∈ h.lg n) (h2 : r.l = (h.tx i).next) : h.back n i = (h.turn n i (Qra (h.lg n) r)).nextIs i (Qra (h.lg n) r).n := by
  have hget : Qqo (h.lg n) (h.tx i).next = r := by
    unfold Qqo; rw [<- h2, Qyc hl hr]; rfl
  unfold Hs.back; rw [if_neg e, hget]
theorem Hs.ok.backs (ok : h.ok N) (hN : N <= 100000) (hi : i < 9) : (h.back (i / 3) i).ok (N + 1) := by
  by_cases e : (h.tx i).next = 0 ∨ ((h.tx i).st ≠ 1 /\ (h.tx i).st ≠ 2)
  · rw [Hs.back_no e]; exact ok.more (by omega)
  have e1 : (h.tx i).next ≠ 0 := fun q => e (.inl q)
  have e2 : (h.tx i).st = 1 ∨ (h.tx i).st = 2 := by
    by_cases q : (h.tx i).st = 1
    · exact .inl q
    · by_cases q2 : (h.tx i).st = 2
      · exact .inr q2
      · exact absurd (.inr ⟨q, q2⟩) e
  have h0 : (h.tx i).nr ≠ 0 := fun q => e1 (by rw [(ok.txn i hi).zero q]; rfl)
  have hl := ok.rise (i / 3) (by omega); have hlive : h.live i := ⟨h0, by omega⟩; obtain ⟨r, hr, hr2, hk, ht, hplan⟩ := ok.front hi h0 e1; have hrR := Qga _ 0 hl r hr; have u := ok.undo i hi hlive; have hinv := Qqe r.c (hrR.ch (by omega)); rw [Hs.back_yes e hl hr hr2]; obtain ⟨cr, hcr⟩ : ∃ c, c = Qra (h.lg (i / 3)) r := ⟨_, rfl⟩; have hcn : Qca (h.lg (i / 3)) cr.n = cr.n := by rw [hcr]; exact Qjh hl r
  have hcl : cr.n < r.l := by rw [hcr]; exact Qbj hl hr
  have hclk : Qsc (h.lg (i / 3)) (h.tx i).nr cr.n := by
    have a := Qge hl (ok.chain (i / 3) (by omega)) r.t _ _ (Nat.le_refl _) (ok.chain (i / 3) (by omega) r hr).1; rw [ht] at a; rw [hcr]; exact a
  have hcc : cr.c = Qfe r.c := by rw [hcr]; rfl
  have hck : cr.k = 2 := by rw [hcr]; rfl
  have hcs : cr.s = 0 /\ cr.b = 0 /\ cr.ts = [] /\ cr.ds = [] := by rw [hcr]; exact ⟨rfl, rfl, rfl, rfl⟩
  rw [<- hcr] at hplan |-; have hplan2 : chs (h.plan i) = cr.c :: chs (Qdd (h.lg (i / 3)) cr.n 0) := by rw [hplan]; rfl
  have hright : cr.c.right := by rw [hcc]; exact hinv.1
  have hmine := u.mine cr.c (by rw [hplan2]; simp); obtain ⟨p, hp⟩ : ∃ p, p = cr.c.pg.toNat := ⟨_, rfl⟩
  have hp4 : p < 4 := by
    have := hmine.2.2; have := hright.1.1; omega
  have hpage : cr.page = p := hp.symm; obtain ⟨L, hL⟩ : ∃ L, L = h.lsn (i / 3) (h.pg p).l := ⟨_, rfl⟩; have hLv : L = max (h.ck (i / 3)) (h.pg p).l + 1 := by rw [hL]; rfl
  have b1 := ok.ck (i / 3) (by omega); have b2 := ok.pl p hp4; have b3 := ok.last_lt hi h0; have b4 := (ok.txn i hi).nr h0; have b5 := ok.ct (i / 3) (by omega); have b6 := ok.last (i / 3) (by omega) r hr
  have hpg : ((h.turn (i / 3) i cr).nextIs i cr.n).pg = upd h.pg p ((h.pg p).put L cr.c.at cr.c.makeU cr.c.makeV) := by
    show upd h.pg cr.page _ = _; rw [hpage, <- hL]
  have hce := Qms (h := h) hright hp hpg
  have htx : ((h.turn (i / 3) i cr).nextIs i cr.n).tx = upd h.tx i ⟨(h.tx i).nr, (h.tx i).st, L, cr.n⟩ := by
    show upd (upd h.tx i ((h.tx i).setLast (h.lsn (i / 3) (h.pg cr.page).l))) i ((upd h.tx i ((h.tx i).setLast (h.lsn (i / 3) (h.pg cr.page).l)) i).setNext cr.n) = _; rw [Qrg, Qi, hpage, <- hL]; rfl
  have hE : h.entry (i / 3) i cr (h.pg p).l = ⟨2, L, (h.tx i).nr, (h.tx i).last, cr.c, cr.n, 0, 0, [], []⟩ := by
    unfold Hs.entry; rw [hck, hcs.1, hcs.2.1, hcs.2.2.1, hcs.2.2.2, <- hL]
  have S : Logs h ((h.turn (i / 3) i cr).nextIs i cr.n) i ⟨2, L, (h.tx i).nr, (h.tx i).last, cr.c, cr.n, 0, 0, [], []⟩ ⟨(h.tx i).nr, (h.tx i).st, L, cr.n⟩ := by
    refine ⟨hi, h0, ?_, ?_, rfl, htx, rfl, rfl, ?_, ?_, (by show (2 : Int) <= 6; decide), hclk, fun _ => hmine.2.2, fun x hx => .inl rfl, fun x hx _ hn => ⟨rfl, ?_⟩⟩
    · show upd h.lg (i / 3) (h.lg (i / 3) ++ [h.entry (i / 3) i cr (h.pg cr.page).l]) = _; rw [hpage, hE]
    · show upd h.ck (i / 3) (h.lsn (i / 3) (h.pg cr.page).l) = _; rw [hpage, <- hL]
    · show h.ck (i / 3) < L; omega
    · exact Qwl (.inr rfl) hright (by unfold Qce; omega) (by omega) (by omega) (fun _ => by omega) (fun q => absurd q (by decide))
    · rw [hce]; exact Qmg _ _ _ (fun q => hn (q ▸ hmine.1))
  have hp' : ((h.turn (i / 3) i cr).nextIs i cr.n).plan i = Qdd (h.lg (i / 3)) cr.n 0 := by
    unfold Hs.plan; rw [S.tx_i, S.lg_i]; exact Qcg _ _ (by show cr.n ≠ L; omega)
  have hhas : ∀ x, ((h.turn (i / 3) i cr).nextIs i cr.n).has i x ↔ h.has i x := fun x => by
    unfold Hs.has; rw [S.tx_i]; exact Iff.rfl
  refine S.done ok (N + 1) (by omega) (by show L <= N + 1; omega) (by have := ok.hi; show h.hi <= N + 1; omega) (fun q hq => ?_) (fun q hq => ?_) ?_ (.inl rfl) (fun x hx hn => ⟨rfl, hlive.2⟩) (fun _ => ⟨⟨?_, fun c hc => ?_, fun x hx hh => ?_⟩, S.stays ok (by show (2 : Int) ≠ 1; decide) hlive rfl (fun x hx => rfl)⟩)
  · rw [hpg]
    by_cases hqp : q = p
    · subst hqp; rw [Qi]; show L <= N + 1; omega
    · rw [Qk _ _ _ _ hqp]; have := ok.pl q hq; omega
  · rw [hpg]
    by_cases hqp : q = p
    · subst hqp; rw [Qi]; exact Qyk _ _ _ (ok.pr q hq) hright (by unfold Qce; omega)
    · rw [Qk _ _ _ _ hqp]; exact ok.pr q hq
  · have o := ok.txn i hi
    exact {
      zero := fun q => absurd q h0
      nr := fun _ => o.nr h0
      last := fun _ => by
        show L = Qfd _ (h.tx i).nr
        rw [Qhc, if_pos ⟨b4.1, rfl⟩]
      next := fun _ => by
        show cr.n = Qca _ L
        rw [Qeb, if_pos rfl, if_neg (by show ¬ (2 : Int) = 1; decide), if_pos (by show (2 : Int) = 2; rfl)]
        exact hcn.symm
      noend := fun _ r hr ht => by
        rcases List.mem_append.1 hr with hr | hr
        · exact o.noend h0 r hr ht
        · rw [List.mem_singleton.1 hr]; show (2 : Int) ≠ 5; decide
      nocom := fun _ hst r hr ht => by
        rcases List.mem_append.1 hr with hr | hr
        · exact o.nocom h0 hst r hr ht
        · rw [List.mem_singleton.1 hr]; show (2 : Int) ≠ 3; decide
      com := fun _ hst => absurd hst hlive.2 }
  · rw [hp', hce]; have a := u.fit; rw [hplan2] at a; exact a.2
  · rw [hp'] at hc; have a := u.mine c (by rw [hplan2]; exact List.mem_cons_of_mem _ hc); exact ⟨(hhas _).2 a.1, a.2⟩
  · rw [hp', hce]; have a := u.was x hx ((hhas x).1 hh); rw [hplan2] at a; exact a
end
end
section
section
variable {h h1 : Hs} {N i : Nat}
theorem none15 (v : ByteArray) (hv : v.size = 0) : v = ⟨#[]⟩ := by
  obtain ⟨⟨l⟩⟩ := v
  cases l with
  | nil => rfl
  | cons a l => exact absurd hv (by simp [ByteArray.size])
theorem ofC_tells {pg sl : Int} {fu tu : Bool} {fv tv : ByteArray} (he : ofE pg sl fu fv tu tv = 0) : (ofC pg sl fu fv tu tv).right /\ (ofC pg sl fu fv tu tv).pg = pg /\ (ofC pg sl fu fv tu tv).sl = sl /\ (ofC pg sl fu fv tu tv).wantU = fu /\ (ofC pg sl fu fv tu tv).wantV = fv := by
  have er : ofC pg sl fu fv tu tv = Qlq pg sl fu fv tu tv := by unfold ofC; rw [if_pos he]
  rw [er]; unfold ofE at he
  by_cases h1 : (fu = false /\ fv.size ≠ 0) ∨ (tu = false /\ tv.size ≠ 0)
  · rw [if_pos h1] at he; exact absurd he (by decide)
  rw [if_neg h1] at he
  by_cases h2 : (Qlq pg sl fu fv tu tv).right
  · rw [if_neg (fun q => q h2)] at he
    by_cases h3 : fu = false /\ tu = false
    · rw [if_pos h3] at he; exact absurd he (by decide)
    refine ⟨h2, rfl, rfl, ?_, ?_⟩
    · cases fu <;> cases tu
      · exact absurd ⟨rfl, rfl⟩ h3
      · rfl
      · rfl
      · rfl
    · cases fu <;> cases tu
      · exact absurd ⟨rfl, rfl⟩ h3
      · have hv : fv.size = 0 := by
          by_cases q : fv.size = 0
          · exact q
          · exact absurd (.inl ⟨rfl, q⟩) h1
        exact (none15 fv hv).symm
      · rfl
      · rfl
  · rw [if_pos h2] at he; exact absurd he (by decide)
theorem Tu.ok.grows {t : Tu} {l : List Rec} {m m' : Int} (o : t.ok l m) (hm : m <= m') : t.ok l m' :=
  { o with nr := fun q => by have := o.nr q; omega }
theorem Hs.ok.starts (ok : h.ok N) (hi : i < 9) (h0 : (h.tx i).nr = 0) (lg : h1.lg = h.lg) (pg : h1.pg = h.pg) (ck : h1.ck = h.ck) (lk : h1.lk = h.lk) (hh : h1.hi = h.hi) (ct : h1.ct = upd h.ct (i / 3) (h.ct (i / 3) + 1)) (tx : h1.tx = upd h.tx i ⟨h.ct (i / 3) + 1, 1, 0, 0⟩) : h1.ok (N + 1) := by
  have n3 : i / 3 < 3 := by omega
  have hc := ok.ct (i / 3) n3; have hl := ok.rise (i / 3) n3
  have none : ∀ r ∈ h.lg (i / 3), r.t ≠ h.ct (i / 3) + 1 := fun r hr => by
    have := (ok.recs (i / 3) n3 r hr).2.2.1; omega
  have tx_i : h1.tx i = ⟨h.ct (i / 3) + 1, 1, 0, 0⟩ := by rw [tx, Qi]
  have tx_o : ∀ j, j ≠ i -> h1.tx j = h.tx j := fun j hj => by rw [tx, Qk _ _ _ _ hj]
  have ct_le : ∀ n, h.ct n <= h1.ct n := fun n => by
    rw [ct]
    by_cases e : n = i / 3
    · rw [e, Qi]; omega
    · rw [Qk _ _ _ _ e]; exact Int.le_refl _
  have ce : h1.cell = h.cell := by
    funext x; unfold Hs.cell; rw [pg]
  have small : ∀ j, j < 9 -> j / 3 = i / 3 -> (h.tx j).nr <= h.ct (i / 3) := fun j hj e => by
    by_cases q : (h.tx j).nr = 0
    · omega
    · have := (ok.txn j hj).nr q; rw [e] at this; exact this.2.1
  have has_o : ∀ j x, j ≠ i -> (h1.has j x ↔ h.has j x) := fun j x hj => by
    unfold Hs.has; rw [lk, tx_o j hj]
  refine { ck := fun n hn => ?_, hi := ?_, ct := fun n hn => ?_, pl := fun p hp => ?_, pr := fun p hp => ?_, rise := fun n hn => ?_, last := fun n hn r hr => ?_, recs := fun n hn r hr => ?_, chain := fun n hn r hr => ?_, txn := fun j hj => ?_, apart := fun a b ha hb hab hne q => ?_, over := fun n hn r hr => ?_, locks := fun x hx q => ?_, undo := fun j hj q => ?_, did := fun j hj q => ?_ }
  · rw [ck]; have := ok.ck n hn; omega
  · rw [hh]; have := ok.hi; omega
  · have := ct_le n; have := ok.ct n hn; refine ⟨by omega, ?_⟩; rw [ct]
    by_cases e : n = i / 3
    · rw [e, Qi]; omega
    · rw [Qk _ _ _ _ e]; omega
  · rw [pg]; have := ok.pl p hp; omega
  · rw [pg]; exact ok.pr p hp
  · rw [lg]; exact ok.rise n hn
  · rw [lg] at hr; rw [ck]; exact ok.last n hn r hr
  · rw [lg] at hr; have a := ok.recs n hn r hr; have := ct_le n; exact ⟨a.1, a.2.1, by omega, a.2.2.2⟩
  · rw [lg] at hr |-; exact ok.chain n hn r hr
  · by_cases e : j = i
    · rw [e, tx_i, lg, ct, Qi]
      exact {
        zero := fun q => absurd q (by show ¬ h.ct (i / 3) + 1 = 0; omega)
        nr := fun _ => ⟨by show 1 <= h.ct (i / 3) + 1; omega, by show h.ct (i / 3) + 1 <= h.ct (i / 3) + 1; omega, by show (1 : Int) <= 1; decide, by show (1 : Int) <= 3; decide⟩
        last := fun _ => (Qii _ _ (fun r hr q => none r hr q.2)).symm
        next := fun _ => (Qpe hl).symm
        noend := fun _ r hr q => absurd q (none r hr)
        nocom := fun _ _ r hr q => absurd q (none r hr)
        com := fun _ q => absurd q (by show ¬ (1 : Int) = 3; decide) }
    · rw [tx_o j e, lg]; exact (ok.txn j hj).grows (ct_le _)
  · by_cases ea : a = i
    · subst ea; have := small b hb hab.symm; rw [tx_i, tx_o b (fun e => hne e.symm)]; show h.ct (a / 3) + 1 ≠ _; omega
    · by_cases eb : b = i
      · subst eb; have := small a ha hab; rw [tx_i, tx_o a ea]; show _ ≠ h.ct (b / 3) + 1; omega
      · rw [tx_o a ea] at q |-; rw [tx_o b eb]; exact ok.apart a b ha hb hab hne q
  · rw [lg] at hr |-
    rcases ok.over n hn r hr with ⟨j, a1, a2, a3⟩ | a
    · by_cases e : j = i
      · subst e; have := (ok.recs n hn r hr).2.1; omega
      · exact .inl ⟨j, a1, a2, by rw [tx_o j e]; exact a3⟩
    · exact .inr a
  · rw [lk] at q; obtain ⟨j, a1, a2, a3⟩ := ok.locks x hx q; have e : j ≠ i := fun e => a3.1 (e ▸ h0)
    refine ⟨j, a1, (has_o j x e).2 a2, ?_⟩; unfold Hs.live; rw [tx_o j e]; exact a3
  · by_cases e : j = i
    · subst e
      have hp : h1.plan j = [] := by
        unfold Hs.plan; rw [tx_i, lg]; exact Qre hl 0
      refine ⟨by rw [hp]; trivial, fun c hc => (by rw [hp] at hc; exact absurd hc (by unfold chs; simp)), fun x hx hhx => ?_⟩; exfalso; unfold Hs.has at hhx; rw [lk, tx_i] at hhx; obtain ⟨b1, b2⟩ := hhx; have b2' : (h.lk x).nr = h.ct (j / 3) + 1 := b2; obtain ⟨m, a1, a2, a3⟩ := ok.locks x hx (by omega); have a4 := a2.1; have a5 := a2.2; have a6 : m / 3 = j / 3 := by rw [b1] at a4; omega
      have := small m a1 a6; omega
    · have q' : h.live j := by
        unfold Hs.live at q |-; rwa [tx_o j e] at q
      have u := ok.undo j hj q'
      have hp : h1.plan j = h.plan j := by
        unfold Hs.plan; rw [tx_o j e, lg]
      refine ⟨by rw [hp, ce]; exact u.fit, fun c hc => ?_, fun x hx hhx => ?_⟩
      · rw [hp] at hc; exact ⟨(has_o j _ e).2 (u.mine c hc).1, (u.mine c hc).2⟩
      · rw [hp, ce, lk]; exact u.was x hx ((has_o j x e).1 hhx)
  · by_cases e : j = i
    · subst e
      refine ⟨fun r hr ht hk => ?_, fun pre r post he ht hk hpre => ?_⟩
      · rw [lg] at hr; rw [tx_i] at ht; exact absurd ht (none r hr)
      · rw [lg] at he; rw [tx_i] at ht; exact absurd ht (none r (by rw [he]; simp))
    · have q' : h.live j := by
        unfold Hs.live at q |-; rwa [tx_o j e] at q
      have d := ok.did j hj q'
      refine ⟨fun r hr ht hk => ?_, fun pre r post he ht hk hpre => ?_⟩
      · rw [lg] at hr; rw [tx_o j e] at ht; exact (has_o j _ e).2 (d.locked r hr ht hk)
      · rw [lg] at he; rw [tx_o j e] at ht hpre; rw [lk]; exact d.first pre r post he ht hk hpre
theorem Hs.ok.begins (ok : h.ok N) (hi : i < 9) : (h.begun (i / 3) i).ok (N + 1) /\ ((h.begun (i / 3) i).tx i).nr ≠ 0 := by
  by_cases h0 : (h.tx i).nr = 0
  · have e : h.begun (i / 3) i = (h.setCt (i / 3) (h.ct (i / 3) + 1)).setTx i ⟨h.ct (i / 3) + 1, 1, (h.tx i).last, (h.tx i).next⟩ := by unfold Hs.begun; rw [if_pos h0]
    have hz := (ok.txn i hi).zero h0; rw [hz] at e; have hc := ok.ct (i / 3) (by omega); refine ⟨ok.starts hi h0 (by rw [e]; rfl) (by rw [e]; rfl) (by rw [e]; rfl) (by rw [e]; rfl) (by rw [e]; rfl) (by rw [e]; rfl) (by rw [e]; rfl), ?_⟩; rw [e]; show (upd h.tx i _ i).nr ≠ 0; rw [Qi]; show h.ct (i / 3) + 1 ≠ 0; omega
  · have e : h.begun (i / 3) i = h := by unfold Hs.begun; rw [if_neg h0]
    rw [e]; exact ⟨ok.more (by omega), h0⟩
end
end
section
section
variable {h h' : Hs} {N i : Nat}
theorem plan_from {l : List Rec} (hl : Qob 0 l) (ch : ∀ r ∈ l, Qsc l r.t r.p /\ Qsc l r.t r.n) (t : Int) : ∀ f m, m <= f -> Qca l m = m -> Qsc l t m -> ∀ c ∈ chs (Qdd l m 0), ∃ r ∈ l, r.t = t /\ r.k = 1 /\ c = Qfe r.c := by
  intro f
  induction f with
  | zero =>
    intro m hm _ _ c hc; obtain rfl : m = 0 := by omega
    rw [Qre hl] at hc; exact absurd hc (by unfold chs; simp)
  | succ f ih =>
    intro m hm hn hk c hc
    rcases Qvf hl m 0 hn with ⟨_, e⟩ | ⟨r, hr, h2, h3, h4, e⟩
    · rw [e] at hc; exact absurd hc (by unfold chs; simp)
    · have ht : r.t = t := by
        rcases hk with h5 | ⟨q, h5, h6, h7⟩
        · omega
        · have a := Qyc hl hr; rw [h2, <- h6, Qyc hl h5] at a; injection a with a; rw [<- a]; exact h7
      rw [e] at hc
      have hc' : c = (Qra l r).c ∨ c ∈ chs (Qdd l (Qra l r).n 0) := by
        unfold chs at hc |-; rw [List.map_cons] at hc; exact List.mem_cons.1 hc
      rcases hc' with h5 | h5
      · exact ⟨r, hr, ht, h3, h5⟩
      · have h6 := Qbj hl hr; have h7 := (ch r hr).1; rw [ht] at h7; exact ih (Qra l r).n (by omega) (Qjh hl r) (Qge hl ch t _ _ (Nat.le_refl _) h7) c h5
theorem Hs.ok.makes (ok : h.ok N) (hN : N <= 100000) (hi : i < 9) {p s : Nat} (hp4 : p < 4) (hs8 : s < 8) {o : Ac} (h0 : (h.tx i).nr ≠ 0) (hst : (h.tx i).st = 1) (hbar : (h.lk (p * 8 + s)).nr = 0 ∨ h.has i (p * 8 + s)) (hE : h.ofE p s o = 0) : (h.made (i / 3) i p s o).ok (N + 1) := by
  have hl := ok.rise (i / 3) (by omega); have hlive : h.live i := ⟨h0, by omega⟩; have u := ok.undo i hi hlive; have d := ok.did i hi hlive; have of := ofC_tells hE; obtain ⟨C, hC⟩ : ∃ C, C = h.ofC p s o := ⟨_, rfl⟩; have of' : C.right /\ C.pg = (p : Int) /\ C.sl = (s : Int) /\ C.wantU = (h.pg p).u s /\ C.wantV = (h.pg p).s s := by rw [hC]; exact of
  clear of; obtain ⟨c1, c2, c3, c4, c5⟩ := of'; have hat : C.at = s := by unfold Ch.at; rw [c3]; omega
  have hpp : C.pg.toNat = p := by rw [c2]; omega
  obtain ⟨x0, hx0⟩ : ∃ x, x = p * 8 + s := ⟨_, rfl⟩; have hx : Qfa C = x0 := by unfold Qfa; rw [hpp, hat, hx0]
  have x32 : x0 < 32 := by omega
  have Qvc : h.cell x0 = (C.wantU, C.wantV) := by
    unfold Hs.cell; rw [show x0 / 8 = p by omega, show x0 % 8 = s by omega, c4, c5]
  rw [<- hx0] at hbar; obtain ⟨L, hL⟩ : ∃ L, L = max (max (h.ck (i / 3)) h.hi) (h.pg p).l + 1 := ⟨_, rfl⟩; have b1 := ok.ck (i / 3) (by omega); have b2 := ok.pl p hp4; have b3 := ok.last_lt hi h0; have b4 := (ok.txn i hi).nr h0; have b5 := ok.ct (i / 3) (by omega); have b6 := ok.hi
  have kl : (h.locked (i / 3) i p s).lg = h.lg /\ (h.locked (i / 3) i p s).pg = h.pg /\ (h.locked (i / 3) i p s).ck = h.ck /\ (h.locked (i / 3) i p s).ct = h.ct /\ (h.locked (i / 3) i p s).tx = h.tx /\ (h.locked (i / 3) i p s).hi = h.hi := by
    unfold Hs.locked; split <;> exact ⟨rfl, rfl, rfl, rfl, rfl, rfl⟩
  have kk : ((h.lk x0).nr = 0 /\ (h.locked (i / 3) i p s).lk = upd h.lk x0 ⟨((i / 3 : Nat) : Int), (h.tx i).nr, C.wantU, C.wantV⟩) ∨ (h.has i x0 /\ (h.locked (i / 3) i p s).lk = h.lk) := by
    unfold Hs.locked; rw [<- hx0]
    by_cases q : (h.lk x0).nr = 0
    · refine .inl ⟨q, ?_⟩; rw [if_pos q, c4, c5]; rfl
    · refine .inr ⟨?_, by rw [if_neg q]⟩
      rcases hbar with a | a
      · exact absurd a q
      · exact a
  have hlsn : (h.lockedUp (i / 3) i p s).lsn (i / 3) (h.pg p).l = L := by
    show max (upd (h.locked (i / 3) i p s).ck (i / 3) (max (h.ck (i / 3)) h.hi) (i / 3)) (h.pg p).l + 1 = L; rw [Qi, hL]
  obtain ⟨e, he⟩ : ∃ e : Rec, e = ⟨1, L, (h.tx i).nr, (h.tx i).last, C, 0, 0, 0, [], []⟩ := ⟨_, rfl⟩
  have hent : (h.lockedUp (i / 3) i p s).entry (i / 3) i (Qs 1 C 0) (h.pg p).l = e := by
    show (⟨1, (h.lockedUp (i / 3) i p s).lsn (i / 3) (h.pg p).l, ((h.locked (i / 3) i p s).tx i).nr, ((h.locked (i / 3) i p s).tx i).last, C, 0, 0, 0, [], []⟩ : Rec) = e; rw [hlsn, kl.2.2.2.2.1, he]
  obtain ⟨hm, hhm⟩ : ∃ q, q = h.made (i / 3) i p s o := ⟨_, rfl⟩
  have m_lg : hm.lg = upd h.lg (i / 3) (h.lg (i / 3) ++ [e]) := by
    rw [hhm]; show upd (h.locked (i / 3) i p s).lg (i / 3) ((h.locked (i / 3) i p s).lg (i / 3) ++ [(h.lockedUp (i / 3) i p s).entry (i / 3) i (Qs 1 (h.ofC p s o) 0) ((h.locked (i / 3) i p s).pg (h.ofC p s o).pg.toNat).l]) = _; rw [<- hC, hpp, kl.1, kl.2.1, hent]
  have m_ck : hm.ck = upd h.ck (i / 3) L := by
    rw [hhm]; show upd (upd (h.locked (i / 3) i p s).ck (i / 3) (max (h.ck (i / 3)) h.hi)) (i / 3) ((h.lockedUp (i / 3) i p s).lsn (i / 3) ((h.locked (i / 3) i p s).pg (h.ofC p s o).pg.toNat).l) = _; rw [<- hC, hpp, kl.2.1, hlsn, Qrg, kl.2.2.1]
  have m_tx : hm.tx = upd h.tx i ⟨(h.tx i).nr, (h.tx i).st, L, L⟩ := by
    rw [hhm]; show upd (upd (h.locked (i / 3) i p s).tx i (((h.locked (i / 3) i p s).tx i).setLast ((h.lockedUp (i / 3) i p s).lsn (i / 3) ((h.locked (i / 3) i p s).pg (h.ofC p s o).pg.toNat).l))) i ((upd (h.locked (i / 3) i p s).tx i (((h.locked (i / 3) i p s).tx i).setLast ((h.lockedUp (i / 3) i p s).lsn (i / 3) ((h.locked (i / 3) i p s).pg (h.ofC p s o).pg.toNat).l)) i).setNext (upd (h.locked (i / 3) i p s).tx i (((h.locked (i / 3) i p s).tx i).setLast ((h.lockedUp (i / 3) i p s).lsn (i / 3) ((h.locked (i / 3) i p s).pg (h.ofC p s o).pg.toNat).l)) i).last) = _; rw [<- hC, hpp, kl.2.1, hlsn, Qrg, Qi, kl.2.2.2.2.1]; rfl
  have m_pg : hm.pg = upd h.pg p ((h.pg p).put L C.at C.makeU C.makeV) := by
    rw [hhm]; show upd (h.locked (i / 3) i p s).pg (h.ofC p s o).pg.toNat (((h.locked (i / 3) i p s).pg (h.ofC p s o).pg.toNat).put ((h.lockedUp (i / 3) i p s).lsn (i / 3) ((h.locked (i / 3) i p s).pg (h.ofC p s o).pg.toNat).l) (h.ofC p s o).at (h.ofC p s o).makeU (h.ofC p s o).makeV) = _; rw [<- hC, hpp, kl.2.1, hlsn]
  have m_ct : hm.ct = h.ct := by
    rw [hhm]; show (h.locked (i / 3) i p s).ct = _; exact kl.2.2.2.1
  have m_hi : hm.hi = h.hi := by
    rw [hhm]; show (h.locked (i / 3) i p s).hi = _; exact kl.2.2.2.2.2
  have m_lk : hm.lk = (h.locked (i / 3) i p s).lk := by rw [hhm]; rfl
  rw [<- m_lk] at kk; rw [<- hhm]; clear hhm m_lk kl hlsn hent hE hC hbar; have hce := Qms (h := h) c1 hpp.symm m_pg
  have lk_o : ∀ x, x ≠ x0 -> hm.lk x = h.lk x := fun x hne => by
    rcases kk with ⟨_, a⟩ | ⟨_, a⟩
    · rw [a, Qk _ _ _ _ hne]
    · rw [a]
  have lk_i : hasN (hm.lk x0) (i / 3) (h.tx i).nr := by
    rcases kk with ⟨_, a⟩ | ⟨b, a⟩
    · rw [a, Qi]; exact ⟨rfl, rfl⟩
    · rw [a]; exact b
  have lk_h : ∀ x, h.has i x -> hm.lk x = h.lk x := fun x hh => by
    by_cases q : x = x0
    · subst q
      rcases kk with ⟨b, a⟩ | ⟨_, a⟩
      · exact absurd (hh.2.symm.trans b) h0
      · rw [a]
    · exact lk_o x q
  have S : Logs h hm i e ⟨(h.tx i).nr, (h.tx i).st, L, L⟩ := by
    refine ⟨hi, h0, m_lg, by rw [m_ck, he], m_ct, m_tx, by rw [he], by rw [he], by rw [he]; show h.ck (i / 3) < L; omega, ?_, by rw [he]; show (1 : Int) <= 6; decide, by rw [he]; exact .inl rfl, fun _ => ?_, fun x hx9 => ?_, fun x hx9 hnz hn => ?_⟩
    · rw [he]; exact Qwl (.inl rfl) c1 (by unfold Qce; omega) (by omega) (by omega) (fun q => absurd q (by decide)) (fun _ => rfl)
    · rw [he]; show C.pg < 4; omega
    · by_cases q : x = x0
      · rw [q]; exact .inr (.inr lk_i)
      · exact .inl (lk_o x q)
    · have q : x ≠ x0 := fun q => by
        subst q
        rcases kk with ⟨b, _⟩ | ⟨b, _⟩
        · exact hnz b
        · exact hn b
      exact ⟨lk_o x q, by rw [hce]; exact Qmg _ _ _ (by rw [hx]; exact q)⟩
  have inv := doC_inv h.cell C c1 (by rw [hx]; exact Qvc); have hinv := Qqe C c1; have hnx := (ok.txn i hi).next h0
  have hlink : Qsc (h.lg (i / 3)) (h.tx i).nr (h.tx i).next := by
    have a : Qsc (h.lg (i / 3)) (h.tx i).nr (h.tx i).last := by
      rw [(ok.txn i hi).last h0]
      rcases Qxg (h.lg (i / 3)) (h.tx i).nr with h4 | ⟨q, h4, h5, h6, _⟩
      · exact .inl h4
      · exact .inr ⟨q, h4, h5, h6⟩
    rw [hnx]; exact Qge hl (ok.chain (i / 3) (by omega)) _ _ _ (Nat.le_refl _) a
  have hag : Qca (h.lg (i / 3)) (h.tx i).next = (h.tx i).next := by
    rw [hnx]; exact Qbc hl _
  have hplan : chs (hm.plan i) = Qfe C :: chs (h.plan i) := by
    unfold Hs.plan; rw [S.tx_i, S.lg_i, Qjc, if_pos (by rw [he]), if_pos ⟨by show 0 < L; omega, by rw [he]⟩]; unfold chs; rw [List.map_cons]; have e1 : (Qra (h.lg (i / 3)) e).c = Qfe C := by rw [he]; rfl
    have e2 : Qca (h.lg (i / 3)) e.p = (h.tx i).next := by
      rw [he]; show Qca (h.lg (i / 3)) (h.tx i).last = _; exact hnx.symm
    rw [e1, e2]
  have has_of : ∀ x, hasN (hm.lk x) (i / 3) (h.tx i).nr -> hm.has i x := fun x hh => by
    unfold Hs.has; rw [S.tx_i]; exact hh
  have has_to : ∀ x, hm.has i x -> hasN (hm.lk x) (i / 3) (h.tx i).nr := fun x hh => by
    unfold Hs.has at hh; rw [S.tx_i] at hh; exact hh
  have has_up : ∀ x, h.has i x -> hm.has i x := fun x hh => has_of x (by rw [lk_h x hh]; exact hh)
  have free_cell : (h.lk x0).nr = 0 -> ∀ c ∈ chs (h.plan i), Qfa c ≠ x0 := fun q c hc e => by
    have a := (u.mine c hc).1; rw [e] at a; exact h0 (a.2.symm.trans q)
  refine S.done ok (N + 1) (by omega) (by rw [he]; show L <= N + 1; omega) (by rw [m_hi]; omega) (fun q hq => ?_) (fun q hq => ?_) ?_ (.inl rfl) (fun x hx hn => ⟨rfl, hlive.2⟩) (fun _ => ⟨⟨?_, fun c hc => ?_, fun x hx2 hh => ?_⟩, ⟨fun r hr ht hk1 => ?_, fun pre r post hsp ht hk1 hpre => ?_⟩⟩)
  · rw [m_pg]
    by_cases hqp : q = p
    · subst hqp; rw [Qi]; show L <= N + 1; omega
    · rw [Qk _ _ _ _ hqp]; have := ok.pl q hq; omega
  · rw [m_pg]
    by_cases hqp : q = p
    · subst hqp; rw [Qi]; exact Qyk _ _ _ (ok.pr q hq) c1 (by unfold Qce; omega)
    · rw [Qk _ _ _ _ hqp]; exact ok.pr q hq
  · have w := ok.txn i hi
    exact {
      zero := fun q => absurd q h0
      nr := fun _ => w.nr h0
      last := fun _ => by
        show L = Qfd _ (h.tx i).nr
        rw [Qhc, if_pos ⟨b4.1, by rw [he]⟩, he]
      next := fun _ => by
        show L = Qca _ L
        rw [Qeb, if_pos (by rw [he]), if_pos (by rw [he])]
      noend := fun _ r hr ht => by
        rcases List.mem_append.1 hr with hr | hr
        · exact w.noend h0 r hr ht
        · rw [List.mem_singleton.1 hr, he]; show (1 : Int) ≠ 5; decide
      nocom := fun _ hst r hr ht => by
        rcases List.mem_append.1 hr with hr | hr
        · exact w.nocom h0 hst r hr ht
        · rw [List.mem_singleton.1 hr, he]; show (1 : Int) ≠ 3; decide
      com := fun _ hst => absurd hst hlive.2 }
  · rw [hplan, hce]; refine ⟨by rw [inv.1]; exact inv.2.1, ?_⟩; rw [inv.2.2]; exact u.fit
  · rw [hplan] at hc
    rcases List.mem_cons.1 hc with a | a
    · rw [a, inv.1, hx]; refine ⟨has_of x0 lk_i, hinv.1, ?_⟩; have : (Qfe C).pg = C.pg := by unfold Qfe; rw [if_pos c1]
      omega
    · have b := u.mine c a; exact ⟨has_up _ b.1, b.2⟩
  · rw [hplan, hce]; show Qim (doC (doC h.cell C) (Qfe C)) (chs (h.plan i)) x = _; rw [inv.2.2]
    by_cases q : x = x0
    · subst q
      rcases kk with ⟨b, a⟩ | ⟨b, a⟩
      · rw [Que _ _ _ (free_cell b), Qvc, a, Qi]
      · rw [a]; exact u.was x x32 b
    · rw [lk_o x q]; have a := has_to x hh; rw [lk_o x q] at a; exact u.was x hx2 a
  · rw [S.tx_i] at ht
    rcases S.mem hr with a | ⟨_, a⟩
    · exact has_up _ (d.locked r a ht hk1)
    · rw [a, he]; show hm.has i (Qfa C); rw [hx]; exact has_of x0 lk_i
  · rw [S.tx_i] at ht hpre; rw [S.lg_i] at hsp
    rcases Qsl hsp with ⟨post', a⟩ | ⟨a, b⟩
    · have hmem : r ∈ h.lg (i / 3) := by rw [a]; simp
      rw [lk_h _ (d.locked r hmem ht hk1)]; exact d.first pre r post' a ht hk1 hpre
    · subst b; have hrc : r.c = C := by rw [he]
      rw [hrc, hx] at hpre |-
      rcases kk with ⟨b, k⟩ | ⟨b, k⟩
      · rw [k, Qi]
      · rw [k, <- Qvc, <- u.was x0 x32 b]; refine Que _ _ _ (fun c hc hcx => ?_); obtain ⟨q, hq, q1, q2, q3⟩ := plan_from hl (ok.chain (i / 3) (by omega)) (h.tx i).nr _ _ (Nat.le_refl _) hag hlink c hc; have hqR := Qga _ 0 hl q hq; refine hpre q (by rw [a]; exact hq) q1 q2 ?_; rw [<- hcx, q3]; have hqc := hqR.ch (by omega); have w := Qqe q.c hqc; unfold Qfa; rw [w.2.1]; unfold Qfe; rw [if_pos hqc]
end
end
section
section
variable {h : Hs} {N : Nat}
theorem Hs.ok.changed (ok : h.ok N) (hN : N <= 50000) {i : Nat} (hi : i < 9) (o : Ac) : (h.change (i / 3) i o).ok (N + 2) := by
  obtain ⟨ok1, h0⟩ := ok.begins hi; unfold Hs.change; obtain ⟨g, hg⟩ : ∃ g, g = h.begun (i / 3) i := ⟨_, rfl⟩; rw [<- hg] at ok1 h0 |-; have hp := Qrb o.pg 4 (by decide); have hs := Qrb o.sl 8 (by decide); unfold Hs.change1
  by_cases hb : g.barred (i / 3) i (pick15 o.pg 4 * 8 + pick15 o.sl 8) = true
  · rw [if_pos hb]; exact ok1.more (by omega)
  rw [if_neg hb]
  by_cases hE : g.ofE (pick15 o.pg 4) (pick15 o.sl 8) o ≠ 0
  · rw [if_pos hE]; exact ok1.more (by omega)
  rw [if_neg hE]
  have hE0 : g.ofE (pick15 o.pg 4) (pick15 o.sl 8) o = 0 := by
    by_cases q : g.ofE (pick15 o.pg 4) (pick15 o.sl 8) o = 0
    · exact q
    · exact absurd q hE
  have hst : (g.tx i).st = 1 := by
    by_cases q : (g.tx i).st = 1
    · exact q
    · exact absurd (by unfold Hs.barred; simp [q]) hb
  have hbar : (g.lk (pick15 o.pg 4 * 8 + pick15 o.sl 8)).nr = 0 ∨ g.has i (pick15 o.pg 4 * 8 + pick15 o.sl 8) := by
    by_cases q : (g.lk (pick15 o.pg 4 * 8 + pick15 o.sl 8)).nr = 0
    · exact .inl q
    · refine .inr ?_; unfold Hs.has hasN
      by_cases q1 : (g.lk (pick15 o.pg 4 * 8 + pick15 o.sl 8)).nd = ((i / 3 : Nat) : Int)
      · by_cases q2 : (g.lk (pick15 o.pg 4 * 8 + pick15 o.sl 8)).nr = (g.tx i).nr
        · exact ⟨q1, q2⟩
        · refine absurd ?_ hb; unfold Hs.barred; rw [Bool.or_eq_true, Bool.and_eq_true, Bool.or_eq_true, decide_eq_true_eq, decide_eq_true_eq, decide_eq_true_eq, decide_eq_true_eq]; exact .inr ⟨q, .inr q2⟩
      · refine absurd ?_ hb; unfold Hs.barred; rw [Bool.or_eq_true, Bool.and_eq_true, Bool.or_eq_true, decide_eq_true_eq, decide_eq_true_eq, decide_eq_true_eq, decide_eq_true_eq]; exact .inr ⟨q, .inl q1⟩
  exact ok1.makes (by omega) hi hp hs h0 hst hbar hE0
theorem Hs.ok.did2 (ok : h.ok N) (hN : N <= 50000) {i : Nat} (hi : i < 9) (kd : Nat) (o : Ac) (hl : (h.tx i).last ≠ 0) : (h.does2 (i / 3) i kd o).ok (N + 1) := by
  have h0 : (h.tx i).nr ≠ 0 := fun q => hl (by rw [(ok.txn i hi).zero q]; rfl)
  have hN1 : N <= 100000 := by omega
  have c1 := ok.ck (i / 3) (by omega); have c2 := ok.hi; have hL : h.lsn (i / 3) 0 = h.ck (i / 3) + 1 := by unfold Hs.lsn; omega
  unfold Hs.does2
  by_cases e6 : kd = 6 /\ (h.tx i).st = 1
  · rw [if_pos e6]
    refine ok.stops hN1 hi h0 (t' := ⟨(h.tx i).nr, 3, h.lsn (i / 3) 0, (h.tx i).next⟩) (k := 3) (.inl ⟨rfl, e6.2, rfl⟩) rfl rfl rfl ?_ rfl (fun x hx => ?_) ?_
    · show upd (upd h.tx i ((h.tx i).setLast (h.lsn (i / 3) 0))) i ((upd h.tx i ((h.tx i).setLast (h.lsn (i / 3) 0)) i).setSt 3) = _; rw [Qrg, Qi]; rfl
    · refine free_lk (h := h) (h1 := ((h.log (i / 3) i (Qs 3 Ch.zero 0) 0).setHi (max h.hi (h.lsn (i / 3) 0))).state i 3) rfl ?_ x hx; show (upd (upd h.tx i ((h.tx i).setLast (h.lsn (i / 3) 0))) i ((upd h.tx i ((h.tx i).setLast (h.lsn (i / 3) 0)) i).setSt 3) i).nr = _; rw [Qrg, Qi, Qi]; rfl
    · show max h.hi (h.lsn (i / 3) 0) <= N + 1; omega
  rw [if_neg e6]
  by_cases e7 : kd = 7 /\ ((h.tx i).st = 3 ∨ (h.tx i).st = 2 /\ (h.tx i).next = 0)
  · rw [if_pos e7]
    refine ok.stops hN1 hi h0 (t' := Tu.zero) (k := 5) (.inr ⟨rfl, rfl⟩) rfl rfl rfl ?_ rfl (fun x hx => ?_) ?_
    · show upd (upd h.tx i ((h.tx i).setLast (h.lsn (i / 3) 0))) i Tu.zero = _; rw [Qrg]
    · refine free_lk (h := h) (h1 := h.log (i / 3) i (Qs 5 Ch.zero 0) 0) rfl ?_ x hx; show (upd h.tx i ((h.tx i).setLast (h.lsn (i / 3) 0)) i).nr = _; rw [Qi]; rfl
    · show h.hi <= N + 1; omega
  rw [if_neg e7]
  by_cases e8 : kd = 8 /\ (h.tx i).st = 1
  · rw [if_pos e8]; refine ok.goes hN1 hi h0 e8.2 (k := 4) (ss := 0) (s := 2) (.inl rfl) (fun q => absurd q (by decide)) (fun _ => rfl) (.inr rfl) rfl rfl rfl ?_ rfl rfl rfl; show upd (upd h.tx i ((h.tx i).setLast (h.lsn (i / 3) 0))) i ((upd h.tx i ((h.tx i).setLast (h.lsn (i / 3) 0)) i).setSt 2) = _; rw [Qrg, Qi]; rfl
  rw [if_neg e8]
  by_cases e9 : kd = 9 ∨ kd = 10
  · rw [if_pos e9]; exact ok.backs hN1 hi
  rw [if_neg e9]
  by_cases e11 : kd = 11 /\ (h.tx i).st = 1
  · rw [if_pos e11]; have hs := Qrb o.sl 8 (by decide); refine ok.goes hN1 hi h0 e11.2 (k := 6) (ss := 1 + (pick15 o.sl 8 : Nat)) (s := 1) (.inr rfl) (fun _ => by omega) (fun q => absurd rfl q) (.inl rfl) rfl rfl rfl ?_ rfl rfl rfl; show upd h.tx i ((h.tx i).setLast (h.lsn (i / 3) 0)) = _; rw [<- e11.2]; rfl
  rw [if_neg e11]; exact ok.more (by omega)
theorem Hs.ok.does (ok : h.ok N) (hN : N <= 50000) (o : Ac) : (h.does o).ok (N + 2) := by
  have hn := Qrb o.n 3 (by decide); have hk := Qrb o.t 3 (by decide); unfold Hs.does; obtain ⟨i, hi⟩ : ∃ i, i = pick15 o.n 3 * 3 + pick15 o.t 3 := ⟨_, rfl⟩; have hi9 : i < 9 := by omega
  have h3 : pick15 o.n 3 = i / 3 := by omega
  rw [<- hi, h3]
  by_cases e5 : pick15 o.k 13 <= 5
  · rw [if_pos e5]; exact ok.changed hN hi9 o
  rw [if_neg e5]
  by_cases e12 : pick15 o.k 13 = 12
  · rw [if_pos e12]; have a := ok.ck (i / 3) (by omega); have b := ok.ck (pick15 o.t 3) hk; exact (ok.clock (by omega) (by omega)).more (by omega)
  rw [if_neg e12]
  by_cases e0 : (h.tx i).last = 0
  · rw [if_pos e0]; exact ok.more (by omega)
  rw [if_neg e0]; exact (ok.did2 hN hi9 _ o e0).more (by omega)
theorem cell0 : ∀ i, i < 8 -> Qqc (Pg.zero.u i) (Pg.zero.s i) := fun i _ => ⟨Nat.zero_le _, fun _ => rfl⟩
theorem Hs.zero_ok : Hs.zero.ok 0 where
  ck := fun n hn => Nat.le_refl _
  hi := Nat.le_refl _
  ct := fun n hn => ⟨Int.le_refl _, Int.le_refl _⟩
  pl := fun p hp => Nat.le_refl _
  pr := fun p hp => ⟨Nat.zero_le _, cell0⟩
  rise := fun n hn => trivial
  last := fun n hn r hr => absurd hr (by show ¬ r ∈ ([] : List Rec); simp)
  recs := fun n hn r hr => absurd hr (by show ¬ r ∈ ([] : List Rec); simp)
  chain := fun n hn r hr => absurd hr (by show ¬ r ∈ ([] : List Rec); simp)
  txn := fun i hi => ⟨fun _ => rfl, fun q => absurd rfl q, fun q => absurd rfl q, fun q => absurd rfl q, fun q => absurd rfl q, fun q => absurd rfl q, fun q => absurd rfl q⟩
  apart := fun i j _ _ _ _ q => absurd rfl q
  over := fun n hn r hr => absurd hr (by show ¬ r ∈ ([] : List Rec); simp)
  locks := fun x hx q => absurd rfl q
  undo := fun i hi q => absurd rfl q.1
  did := fun i hi q => absurd rfl q.1
theorem Hs.play_ok : ∀ l : List Ac, l.length <= 20000 -> (Hs.play l).ok (2 * l.length) := by
  intro l
  induction l using Qpb with
  | h0 => exact fun _ => Hs.zero_ok
  | h1 l o ih =>
    intro hl; rw [List.length_append, List.length_singleton] at hl |-; rw [Hs.play_snoc]; exact (ih (by omega)).does (by omega) o
theorem Qbt : ∀ (l : List Rec) (a c : Nat), Qob a l -> (∀ r ∈ l, r.l <= c) -> a <= c -> l.length <= c - a
  | [], _, _, _, _, _ => Nat.zero_le _
  | r :: l, a, c, h, hc, ha => by
    have h1 := hc r (by simp); have h2 := Qbt l r.l c h.2.2 (fun q hq => hc q (List.mem_cons_of_mem _ hq)) h1; have h3 := h.2.1; rw [List.length_cons]; omega
theorem Hs.ok.len (ok : h.ok N) {n : Nat} (hn : n < 3) : (h.lg n).length <= N := by
  have := Qbt (h.lg n) 0 (h.ck n) (ok.rise n hn) (ok.last n hn) (Nat.zero_le _); have := ok.ck n hn; omega
theorem Qhp (h : Hs) (n i : Nat) (r : Rec) (p : Nat) : ((h.turn n i r).past p).length <= (h.past p).length + 1 := by
  show (upd h.past r.page _ p).length <= _
  by_cases e : p = r.page
  · rw [e, Qi, List.length_append, List.length_singleton]; exact Nat.le_refl _
  · rw [Qk _ _ _ _ e]; omega
theorem does_past (h : Hs) (o : Ac) (p : Nat) : ((h.does o).past p).length <= (h.past p).length + 1 := by
  unfold Hs.does
  split
  · unfold Hs.change; obtain ⟨g, hg⟩ : ∃ g, g = h.begun (pick15 o.n 3) (pick15 o.n 3 * 3 + pick15 o.t 3) := ⟨_, rfl⟩
    have e : g.past = h.past := by
      rw [hg]; unfold Hs.begun; split <;> rfl
    rw [<- hg, <- e]; unfold Hs.change1
    split
    · omega
    · split
      · omega
      · have a := Qhp (g.lockedUp (pick15 o.n 3) (pick15 o.n 3 * 3 + pick15 o.t 3) (pick15 o.pg 4) (pick15 o.sl 8)) (pick15 o.n 3) (pick15 o.n 3 * 3 + pick15 o.t 3) (Qs 1 (g.ofC (pick15 o.pg 4) (pick15 o.sl 8) o) 0) p
        have b : (g.lockedUp (pick15 o.n 3) (pick15 o.n 3 * 3 + pick15 o.t 3) (pick15 o.pg 4) (pick15 o.sl 8)).past = g.past := by
          unfold Hs.lockedUp Hs.locked; split <;> rfl
        rw [b] at a; exact a
  · split
    · show (h.past p).length <= _; omega
    · split
      · omega
      · unfold Hs.does2
        split
        · show (h.past p).length <= _; omega
        · split
          · show (h.past p).length <= _; omega
          · split
            · show (h.past p).length <= _; omega
            · split
              · unfold Hs.back
                split
                · omega
                · exact Qhp h _ _ _ p
              · split
                · show (h.past p).length <= _; omega
                · omega
theorem play_past (l : List Ac) (p : Nat) : ((Hs.play l).past p).length <= l.length + 1 := by
  induction l using Qpb with
  | h0 => exact Nat.le_refl _
  | h1 l o ih =>
    rw [Hs.play_snoc, List.length_append, List.length_singleton]; have := does_past (Hs.play l) o p; omega
end
end
theorem share15p {F G : Nat -> Nat -> Nat -> World -> Prop} {R : Prop} (h : (∀ g a c z, F g a c z -> G g a c z) -> R) (k : ∀ g a c z, F g a c z -> G g a c z) : R := h k
theorem Qds (w : World) : (Instr.makeSlice 53 (.int .i64 3) (.int .i64 3)).run Try.prog w = .ok (.slice (some ⟨w.heap.size, 0, none⟩) 3 3) (w.alloc (.cells z3R 22)) := by kernel_rfl
theorem infoP15 : (Try.prog.info? 77).map (fun i => (i.zero, i.size, i.bytes)) = some (some (.agg (pgA Pg.zero)), 17, 200) := by kernel_rfl
theorem z4P_made : madeCells (pgA Pg.zero) (4 * 17) = z4P := by kernel_rfl
theorem Qqn (w : World) : (Instr.makeSlice 54 (.int .i64 4) (.int .i64 4)).run Try.prog w = .ok (.slice (some ⟨w.heap.size, 0, none⟩) 4 4) (w.alloc (.cells z4P 77)) := by
  kernel_rfl
theorem infoPs15 : (Try.prog.info? 54).map (fun i => (i.zero, i.size, i.bytes)) = some (some (.slice none 0 0), 1, 24) := by kernel_rfl
theorem sound_of {h : Hs} {N : Nat} (ok : h.ok N) (hN : N <= 800) (hp : ∀ p, p < 4 -> (h.past p).length <= 900) : h.sound where
  few := ⟨fun n hn => Nat.le_trans (ok.ck n hn) (by omega), Nat.le_trans ok.hi (by omega), fun p hp => Nat.le_trans (ok.pl p hp) (by omega), fun n hn => ⟨(ok.ct n hn).1, by have := (ok.ct n hn).2; omega⟩, fun n hn => Nat.le_trans (ok.len hn) (by omega), hp⟩
  rise := ok.rise
  pgs := fun n hn r hr hk => (ok.recs n hn r hr).2.2.2 (by omega)
  next := fun i hi h1 => by
    have h0 : (h.tx i).nr ≠ 0 := fun q => h1 (by rw [(ok.txn i hi).zero q]; rfl)
    obtain ⟨r, a, b, c, _⟩ := ok.front hi h0 h1; exact ⟨r, a, b, c⟩
theorem hplay15 (w : World) (a0 : Option Addr) (n0 k0 : Nat) (l : List Ac) (H : Qzo w (.slice a0 n0 k0) l) (hl : l.length <= 300) :
    Calls Try.prog 24 #[.slice a0 n0 k0] w fun e w' => ∃ g F, e = .returned (.pointer (some ⟨g, 0, none⟩)) /\ HB w' w.heap.size g F (Hs.play l) /\ Below w.heap.size w w' := by
  have HH := Qd H
  have hn0 : n0 = l.length := by
    obtain ⟨a, c, e, _⟩ := H.1; injection e
  have HL := Qd hl; have HLN := Qd hn0; clear H hl hn0; go_enter Try.func24, Try.ntmps24; go_wp2_with fail; apply share15p (F := fun g gl gp z => Hid (NewAt z w.heap.size g gl gp 0 (.slice none 0 0) (fun _ => 0) (Qar gl gp) /\ Below w.heap.size w z))
  (case h =>
    intro REST; refine wp_region_noPanic ?_; refine wp_region_held_drew (S := fun _ => True) (by kernel_rfl) trivial (fun hHeld => ?_)
    refine Qkd 0 1 (by kernel_rfl) ?_ ?_
    · skip; obtain ⟨gl, hgl⟩ : ∃ k, k = w.drew.heap.size := ⟨_, rfl⟩; have rgl := Qds w.drew; refine Qm (some 6) rfl rfl rfl (.slice (some ⟨gl, 0, none⟩) 3 3) (w.drew.alloc (.cells z3R 22)) ?hz ?_; (case hz => rw [hgl]; go_simp); have bgl : Below w.drew.heap.size w.drew (w.drew.alloc (.cells z3R 22)) := (Below.refl _ _).alloc (Nat.le_refl _) _; have Rgl : Qb (w.drew.alloc (.cells z3R 22)) gl 22 z3R := by rw [hgl]; exact Qb.new _ _ _
      have lgl : w.heap.size <= gl := by rw [hgl]; exact Nat.le_refl _
      clear rgl; refine ⟨trivial, ?_⟩; (try simp only [Act.put, List.setIfInBounds_toArray, List.set]); obtain ⟨z1, hz1⟩ : ∃ z, z = (w.drew.alloc (.cells z3R 22)) := ⟨_, rfl⟩; rw [<- hz1] at bgl Rgl |-; have B1 : Below w.heap.size w z1 := (Ql (Below.refl w.heap.size w)).trans bgl; clear hz1; refine Qg 1 (by kernel_rfl) ?_; obtain ⟨gp, hgp⟩ : ∃ k, k = z1.heap.size := ⟨_, rfl⟩; have rgp := Qqn z1; refine Qm (some 7) rfl rfl rfl (.slice (some ⟨gp, 0, none⟩) 4 4) (z1.alloc (.cells z4P 77)) ?hz ?_; (case hz => rw [hgp]; go_simp); have bgp : Below z1.heap.size z1 (z1.alloc (.cells z4P 77)) := (Below.refl _ _).alloc (Nat.le_refl _) _; have Rgp : Qb (z1.alloc (.cells z4P 77)) gp 77 z4P := by rw [hgp]; exact Qb.new _ _ _
      have lgp : w.heap.size <= gp := by rw [hgp]; exact B1.size
      clear rgp; refine ⟨trivial, ?_⟩; (try simp only [Act.put, List.setIfInBounds_toArray, List.set]); obtain ⟨z2, hz2⟩ : ∃ z, z = z1.alloc (.cells z4P 77) := ⟨_, rfl⟩; rw [<- hz2] at bgp Rgp |-; have B2 := B1.trans (bgp.mono B1.size); have R2 := Rgl.later bgp; clear hz2; refine Qa 2 (some 8) (.agg (Qar gl gp)) rfl rfl (by kernel_rfl) (by kernel_rfl) (by kernel_rfl) (fun _ _ _ h => h) (Or.inl ⟨by kernel_rfl, fun x' hSx => by kernel_rfl⟩) hHeld ?_; (try simp only [Act.put, List.setIfInBounds_toArray, List.set]); refine Qg 3 (by kernel_rfl) ?_; obtain ⟨g, hg⟩ : ∃ k, k = z2.heap.size := ⟨_, rfl⟩; have b3 : Below z2.heap.size z2 (z2.alloc (.cells (Qar gl gp) 69)) := (Below.refl _ _).alloc (Nat.le_refl _) _; have R3 : Qb (z2.alloc (.cells (Qar gl gp) 69)) g 69 (Qar gl gp) := by rw [hg]; exact Qb.new _ _ _
      have lg : w.heap.size <= g := by rw [hg]; exact B2.size
      have HZ4 := Qd (Qgm gl gp); refine Qm (some 9) rfl rfl rfl (.pointer (some ⟨g, 0, none⟩)) (z2.alloc (.cells (Qar gl gp) 69)) ?hz ?_; (case hz => rw [hg]; go_simp); obtain ⟨z3, hz3⟩ : ∃ z, z = z2.alloc (.cells (Qar gl gp) 69) := ⟨_, rfl⟩; rw [<- hz3] at b3 R3 |-; clear hz3; refine ⟨trivial, ?_⟩; (try simp only [Act.put, List.setIfInBounds_toArray, List.set]); refine Qa 4 (some 3) (.pointer (some ⟨g, 0, none⟩)) rfl rfl (by kernel_rfl) (by kernel_rfl) (by kernel_rfl) (fun _ _ _ h => h) (Or.inl ⟨by kernel_rfl, fun x' hSx => by go_simp⟩) hHeld ?_; (try simp only [Act.put, List.setIfInBounds_toArray, List.set]); refine wpAnyH_done (by kernel_rfl) ?_ _; refine NoPanic.normal ?_; exact REST g gl gp z3 ⟨⟨⟨lg, lgl, lgp⟩, R3, HZ4.out, R2.later b3, Rgp.later b3, World.ownsRow_nil _ _ _ _, fun p hp => absurd hp (Nat.not_lt_zero p), fun p q hp => absurd hp (Nat.not_lt_zero p)⟩, B2.trans (b3.mono B2.size)⟩
    · skip; obtain ⟨gp, hgp⟩ : ∃ k, k = w.drew.heap.size := ⟨_, rfl⟩; have rgp := Qqn w.drew; refine Qm (some 7) rfl rfl rfl (.slice (some ⟨gp, 0, none⟩) 4 4) (w.drew.alloc (.cells z4P 77)) ?hz ?_; (case hz => rw [hgp]; go_simp); have bgp : Below w.drew.heap.size w.drew (w.drew.alloc (.cells z4P 77)) := (Below.refl _ _).alloc (Nat.le_refl _) _; have Rgp : Qb (w.drew.alloc (.cells z4P 77)) gp 77 z4P := by rw [hgp]; exact Qb.new _ _ _
      have lgp : w.heap.size <= gp := by rw [hgp]; exact Nat.le_refl _
      clear rgp; refine ⟨trivial, ?_⟩; (try simp only [Act.put, List.setIfInBounds_toArray, List.set]); obtain ⟨z1, hz1⟩ : ∃ z, z = (w.drew.alloc (.cells z4P 77)) := ⟨_, rfl⟩; rw [<- hz1] at bgp Rgp |-; have B1 : Below w.heap.size w z1 := (Ql (Below.refl w.heap.size w)).trans bgp; clear hz1; refine Qg 0 (by kernel_rfl) ?_; obtain ⟨gl, hgl⟩ : ∃ k, k = z1.heap.size := ⟨_, rfl⟩; have rgl := Qds z1; refine Qm (some 6) rfl rfl rfl (.slice (some ⟨gl, 0, none⟩) 3 3) (z1.alloc (.cells z3R 22)) ?hz ?_; (case hz => rw [hgl]; go_simp); have bgl : Below z1.heap.size z1 (z1.alloc (.cells z3R 22)) := (Below.refl _ _).alloc (Nat.le_refl _) _; have Rgl : Qb (z1.alloc (.cells z3R 22)) gl 22 z3R := by rw [hgl]; exact Qb.new _ _ _
      have lgl : w.heap.size <= gl := by rw [hgl]; exact B1.size
      clear rgl; refine ⟨trivial, ?_⟩; (try simp only [Act.put, List.setIfInBounds_toArray, List.set]); obtain ⟨z2, hz2⟩ : ∃ z, z = z1.alloc (.cells z3R 22) := ⟨_, rfl⟩; rw [<- hz2] at bgl Rgl |-; have B2 := B1.trans (bgl.mono B1.size); have R2 := Rgp.later bgl; clear hz2; refine Qa 2 (some 8) (.agg (Qar gl gp)) rfl rfl (by kernel_rfl) (by kernel_rfl) (by kernel_rfl) (fun _ _ _ h => h) (Or.inl ⟨by kernel_rfl, fun x' hSx => by kernel_rfl⟩) hHeld ?_; (try simp only [Act.put, List.setIfInBounds_toArray, List.set]); refine Qg 3 (by kernel_rfl) ?_; obtain ⟨g, hg⟩ : ∃ k, k = z2.heap.size := ⟨_, rfl⟩; have b3 : Below z2.heap.size z2 (z2.alloc (.cells (Qar gl gp) 69)) := (Below.refl _ _).alloc (Nat.le_refl _) _; have R3 : Qb (z2.alloc (.cells (Qar gl gp) 69)) g 69 (Qar gl gp) := by rw [hg]; exact Qb.new _ _ _
      have lg : w.heap.size <= g := by rw [hg]; exact B2.size
      have HZ4 := Qd (Qgm gl gp); refine Qm (some 9) rfl rfl rfl (.pointer (some ⟨g, 0, none⟩)) (z2.alloc (.cells (Qar gl gp) 69)) ?hz ?_; (case hz => rw [hg]; go_simp); obtain ⟨z3, hz3⟩ : ∃ z, z = z2.alloc (.cells (Qar gl gp) 69) := ⟨_, rfl⟩; rw [<- hz3] at b3 R3 |-; clear hz3; refine ⟨trivial, ?_⟩; (try simp only [Act.put, List.setIfInBounds_toArray, List.set]); refine Qa 4 (some 3) (.pointer (some ⟨g, 0, none⟩)) rfl rfl (by kernel_rfl) (by kernel_rfl) (by kernel_rfl) (fun _ _ _ h => h) (Or.inl ⟨by kernel_rfl, fun x' hSx => by go_simp⟩) hHeld ?_; (try simp only [Act.put, List.setIfInBounds_toArray, List.set]); refine wpAnyH_done (by kernel_rfl) ?_ _; refine NoPanic.normal ?_
      exact REST g gl gp z3 ⟨⟨⟨lg, lgl, lgp⟩, R3, HZ4.out, Rgl.later b3, R2.later b3, World.ownsRow_nil _ _ _ _, fun p hp => absurd hp (Nat.not_lt_zero p), fun p q hp => absurd hp (Nat.not_lt_zero p)⟩, B2.trans (b3.mono B2.size)⟩)
  intro g gl gp z HZ; obtain ⟨hN0, hB0⟩ := HZ.out; have HN0 := Qd hN0; have HB0 := Qd hB0; clear HZ hN0 hB0; go_wp2; go_loopw [4] (fun i wr => ∃ a : Nat, a <= 4 /\ i = .int .i64 (a : Int) /\ Hid (∃ v bq cs, NewAt wr w.heap.size g gl gp a v bq cs /\ Below w.heap.size w wr)) (fun i _ => 4 - (intOf i).toNat)
  case atStart => exact ⟨0, by omega, rfl, _, _, _, HN0.out, HB0.out⟩
  case round =>
    clear HN0 HB0; obtain ⟨a, ha, rfl, HA⟩ := hrel
    by_cases hlt : a < 4
    · have i4 : (a : Int) < 4 := by omega
      obtain ⟨v, bq, cs, hN, hB⟩ := HA.out; obtain ⟨a1, c1, rfl⟩ := Qwb hN.own; have c2 := hN.blk.cell _ _ hN.cells.c2; have HN := Qd hN; have HBW := Qd hB; clear hN hB HA; go_wp2_with (with_reducible refine Qia 22 rfl ?_); refine Qj ?_; obtain ⟨z1, hz1⟩ : ∃ z, z = wr.alloc (.cells #[.int .u64 0, .bool false, .string ⟨#[]⟩, .bool false, .string ⟨#[]⟩, .bool false, .string ⟨#[]⟩, .bool false, .string ⟨#[]⟩, .bool false, .string ⟨#[]⟩, .bool false, .string ⟨#[]⟩, .bool false, .string ⟨#[]⟩, .bool false, .string ⟨#[]⟩] 77) := ⟨_, rfl⟩; have s1 : z1.heap.size = wr.heap.size + 1 := by rw [hz1]; simp
      have b1 : Below wr.heap.size wr z1 := by rw [hz1]; exact (Below.refl _ _).alloc (Nat.le_refl _) _
      have R1 : Qb z1 wr.heap.size 77 (pgA Pg.zero) := by rw [hz1]; exact Qb.new wr _ _
      rw [<- hz1]; obtain ⟨z2, hz2⟩ : ∃ z, z = z1.alloc (.cells #[.slice (some ⟨wr.heap.size, 0, none⟩) 1 1] 54) := ⟨_, rfl⟩; have b2 : Below z1.heap.size z1 z2 := by rw [hz2]; exact (Below.refl _ _).alloc (Nat.le_refl _) _
      have R2 : Qb z2 (wr.heap.size + 1) 54 #[q1C wr.heap.size] := by rw [hz2, <- s1]; exact Qb.new z1 _ _
      rw [<- hz2]; have b12 : Below wr.heap.size wr z2 := b1.trans (b2.mono b1.size); have R3 := R1.later b2; clear hz1 hz2 b1 b2 R1 s1; obtain ⟨v', z3, r1, ho, hg, _⟩ := Qrd z2 55 54 55 1 24 (.slice none 0 0) Try.underlying55 infoPs15 rfl (by decide) (by decide) w.heap.size (.slice a1 a c1) a _ (Qbg HN.out.own b12) (wr.heap.size + 1) #[q1C wr.heap.size] R2 rfl (by simp [q1C, Value.oneCell']) (by omega) (Nat.le_trans HBW.out.size b12.size); obtain ⟨a2, c3, rfl⟩ := Qwb ho; have hs := HN.out.step b12 R3 (Nat.le_refl _) HBW.out.size hg ho; have HS := Qd hs; have fr := hs.2.2.free 2; have cc := hs.2.2.cell 2 _ HN.out.cells.c2; clear hs ho hg R2 R3 c2; refine Lib.wpList_append_run _ rfl _ _ _ _ rfl _ _ rfl rfl _ _ r1 ?_; clear r1; go_wp2; go_roundw
      case rel => exact ⟨a + 1, by omega, by go_num, _, _, _, HS.out.1, HBW.out.trans HS.out.2.1⟩
      case measure => simp [intOf] <;> omega
    · have i4 : ¬ (a : Int) < 4 := by omega
      obtain rfl : a = 4 := by omega
      obtain ⟨v, bq, cs, hN, hB⟩ := HA.out; obtain ⟨F0, hF0⟩ := hN.done; have HF := Qd (And.intro hF0 hB); clear hN hB HA hF0; go_wp2; go_loopw [27] (fun i wr => ∃ b : Nat, b <= n0 /\ i = .int .i64 (b : Int) /\ Hid (∃ F, HB wr w.heap.size g F (Hs.play (l.take b)) /\ Below w.heap.size w wr)) (fun i _ => n0 - (intOf i).toNat)
      case atStart => exact ⟨0, by omega, rfl, F0, HF.out.1, HF.out.2⟩
      case round =>
        clear HF; obtain ⟨b, hb, rfl, HP⟩ := hrel
        by_cases hlt2 : b < n0
        · have ib : (b : Int) < (n0 : Int) := by omega
          have i0 : (0 : Int) <= (b : Int) := by omega
          obtain ⟨F, h1, h2⟩ := HP.out; have hbl : b < l.length := by rw [<- HLN.out]; exact hlt2
          have hb9 : b < 300 := by have := HL.out; omega
          obtain ⟨bb, off, rfl, hbz, hfit, hrng⟩ := HH.out.mid hbl; have HRG := Qd (Qlc hrng h2 hbz); have HTK := Qd (Qqk l b Ac.zero hbl); have hlen : (l.take b).length <= 300 := by rw [List.length_take]; have := HL.out; omega
          have hok := Hs.play_ok (l.take b) (by omega); have hsd := sound_of hok (by omega) (fun p hp => Nat.le_trans (play_past (l.take b) p) (by omega)); obtain ⟨ac, hac⟩ : ∃ ac, ac = l.getD b Ac.zero := ⟨_, rfl⟩; rw [<- hac] at HRG HTK hfit; have HDO := Qd (hdoes15 wr w.heap.size g F (Hs.play (l.take b)) ac h1 hfit hsd); have HBW : Hid (Below w.heap.size w wr /\ ∀ k, F k -> w.heap.size <= k) := ⟨h2, fun k hk => (h1.here hk).1⟩; clear h1 h2 hbz hfit hrng hlen hok hsd HP hac; go_wp2_with (refine Qmc rfl 95 (.tmp 33) rfl bb (off + b * 7) (acA ac) rfl HRG.out _ Try.underlying95 rfl Qks ?_); refine HDO.out.mono ?_; rintro e y ⟨F1, rfl, hb1, ha1⟩
          have HY : Hid (HB y w.heap.size g F1 (Hs.play (l.take (b + 1))) /\ Below w.heap.size w y) := by
            refine ⟨?_, HBW.out.1.trans (ha1.1.below HBW.out.2 HBW.out.1.size)⟩; rw [HTK.out, Hs.play_snoc]; exact hb1
          clear hb1 ha1 HRG HDO HBW; go_wp2; go_roundw
          case rel => exact ⟨b + 1, by omega, by go_num, F1, HY.out⟩
          case measure => simp [intOf] <;> omega
        · have ib : ¬ (b : Int) < (n0 : Int) := by omega
          obtain ⟨F, h1, h2⟩ := HP.out; have hbl : l.length <= b := by rw [<- HLN.out]; omega
          rw [List.take_of_length_le hbl] at h1; have HE := Qd (And.intro h1 h2); clear h1 h2 HP; go_wp2; go_ret; exact ⟨g, rfl, ⟨F, HE.out.1⟩, HE.out.2⟩
theorem Qov (v : Value) (ms : List (Rec × Value × Value)) (w : World) (h : LogIn w v ms) :
    Calls Try.prog 15 #[v] w fun e w' => e = .returned (.bool (Qrq 0 (msR ms))) /\ Below w.heap.size w w' := by
  obtain ⟨q, hq⟩ : ∃ q, q = Qrq 0 (msR ms) := ⟨_, rfl⟩; have HQ : Hid (q = true ↔ Qob 0 (msR ms)) := by rw [hq]; exact Qvd _ _
  rw [<- hq]; clear hq; have HA := Qd h; obtain ⟨aa, ca, rfl, hlc⟩ := h.slice; have hl := h.few; clear h; obtain ⟨ln, hln⟩ : ∃ ln, ln = ms.length := ⟨_, rfl⟩; rw [<- hln] at HA hl hlc |-; have HN := Qd hln; clear hln; have ft : (4 : Int) = 4 := rfl; go_enter Try.func15, Try.ntmps15; go_wp2; go_loopw [3, 8] (fun v i wr => ∃ (j ll : Nat), j <= ln /\ i = .int .i64 (j : Int) /\ v = .int .u64 (ll : Int) /\ ll < 18446744073709551616 /\ Hid (ll = Qfb 0 ((msR ms).take j)) /\ Hid (Qob 0 ((msR ms).take j)) /\ Hid (Below w.heap.size w wr)) (fun _ i _ => ln - (intOf i).toNat)
  case atStart => exact ⟨0, 0, Nat.zero_le _, rfl, rfl, by decide, by rw [List.take_zero]; rfl, by rw [List.take_zero]; trivial, Below.refl _ _⟩
  case round =>
    obtain ⟨j, ll, hj, rfl, rfl, hll, HLL, HRI, HBR⟩ := hrel
    by_cases hlt : j < ln
    · have hjm : j < ms.length := by rw [<- HN.out]; exact hlt
      have HS := Qd (Qqh hjm); obtain ⟨b, off, rfl, hf, _, hx⟩ := HA.out.mid hjm; obtain ⟨m, hm⟩ : ∃ m, m = ms.getD j rcZ := ⟨_, rfl⟩; rw [<- hm] at hf hx HS; clear hm; have ij : (j : Int) < (ln : Int) := by omega
      obtain ⟨hr0, hin⟩ := hx wr HBR.out; have HLD := Qd (Qmj wr b (off + j * 14) m hr0); have hb1 : Below wr.heap.size wr (wr.alloc (.cells Qaa 30)) := (Below.refl _ _).alloc (Nat.le_refl _) _; have HZ := Qd (And.intro (Qb.new wr 30 Qaa) hb1); have hall := Qjw hin; have HFX := Qd (And.intro hf hx); clear hr0 hf hx hb1 hin; go_wp2_with (first | (refine Qr rfl 30 (.tmp 10) rfl _ _ rfl HLD.out ?_) | (refine Qc rfl 30 (.tmp 5) (.tmp 11) rfl wr.heap.size Qaa (rcF m) rfl rfl HZ.out.1 Qv rfl hall ?_; intro w2 hr2 hk2 hrow2; refine Qha ?_)); have hb2 := hk2 _ _ HZ.out.2 (Nat.le_refl _); have hbw := HBR.out.trans (hb2.mono HBR.out.size); have c1 := hr2.cell 1 (.int .u64 (m.1.l : Int)) rfl; have H2 := Qd (And.intro hr2 hbw); clear hr2 hk2 hrow2 hb2 HLD HZ; refine Qj ?_
      by_cases hle : m.1.l <= ll
      · have ile : (m.1.l : Int) <= (ll : Int) := by omega
        go_wp2; go_ret; refine ⟨?_, H2.out.2⟩; congr 2
        cases hq : q
        · rfl
        · exfalso; have h1 := Qxn _ (j + 1) (HQ.out.1 hq); rw [HS.out, Qzd, <- HLL.out] at h1; omega
      · have ile : ¬ (m.1.l : Int) <= (ll : Int) := by omega
        have HR := Qd (Qkm m.1 m.2.1 m.2.2 w2 HFX.out.1 ((HFX.out.2 w2 hbw).2)); clear hbw
        by_cases hr : m.1.right
        · rw [Qzh hr] at HR; have hrl : m.1.l < 18446744073709551616 := by have := hr.lm; unfold Qce at this; omega
          go_wp2_with (refine Qe rfl 30 (.tmp 5) rfl wr.heap.size rfl (rcF m) H2.out.1 _ Try.underlying30 rfl Qv ?_); refine HR.out.mono ?_; rintro e w3 ⟨rfl, hb3⟩; have k1 := (H2.out.1.later hb3).cell 1 (.int .u64 (m.1.l : Int)) rfl; have HB3 := Qd (H2.out.2.trans (hb3.mono H2.out.2.size)); clear c1 hb3 HR; go_wp2; go_roundw
          case rel =>
            refine ⟨j + 1, m.1.l, by omega, by go_num, rfl, hrl, ?_, ?_, HB3⟩
            · rw [HS.out, Qik]; exact rfl
            · rw [HS.out, Qzd, <- HLL.out]; exact ⟨HRI.out, hr, by omega⟩
          case measure => simp [intOf]; omega
        · rw [Qjo hr] at HR; go_wp2_with (refine Qe rfl 30 (.tmp 5) rfl wr.heap.size rfl (rcF m) H2.out.1 _ Try.underlying30 rfl Qv ?_); refine HR.out.mono ?_; rintro e w3 ⟨rfl, hb3⟩; have HB3 := Qd (H2.out.2.trans (hb3.mono H2.out.2.size)); clear c1 hb3 HR; go_wp2; go_ret; refine ⟨?_, HB3.out⟩; congr 2
          cases hq : q
          · rfl
          · exfalso; have h1 := Qxn _ (j + 1) (HQ.out.1 hq); rw [HS.out, Qzd] at h1; exact hr h1.2.1
    · obtain rfl : j = ln := by omega
      go_wp2; go_ret; refine ⟨?_, HBR.out⟩; have h1 := HRI.out; rw [HN.out, <- Qhe, List.take_length] at h1; rw [HQ.out.2 h1]; rfl
theorem Qad (a b : List Rec) : Qf (a ++ b) = Qf a ++ Qf b := by simp [Qf]
theorem Qko (r : Rec) (rs : List Rec) : Qf (r :: rs) = Qva r ++ Qf rs := by simp [Qf]
theorem Qgi : ∀ (rs : List Rec) (a i : Nat), Qob a rs -> Qob a (rs.take i)
  | _, _, 0, _ => by rw [List.take_zero]; trivial
  | [], _, _ + 1, _ => trivial
  | r :: rs, a, i + 1, h => ⟨h.1, h.2.1, Qgi rs r.l i h.2.2⟩
theorem head_nil : (Qsa []).2.2 ≠ 0 := by
  unfold Qsa; rw [if_pos (.inl (by decide))]; decide
theorem cut_scan (rs : List Rec) (k i : Nat) (hr : Qob 0 rs) (hi : i <= rs.length) (h1 : (Qf (rs.take i)).length <= k) (h2 : i < rs.length -> k < (Qf (rs.take (i + 1))).length) : Qbb ((Qf rs).take k) = (rs.take i, (Qf (rs.take i)).length) := by
  have e1 : Qf rs = Qf (rs.take i) ++ Qf (rs.drop i) := by rw [<- Qad, List.take_append_drop]
  have e2 : (Qf rs).take k = Qf (rs.take i) ++ (Qf (rs.drop i)).take (k - (Qf (rs.take i)).length) := by
    rw [e1, List.take_append, List.take_of_length_le h1]
  refine scan_end e2 (Qgi rs 0 i hr) (.inl ?_)
  by_cases hlt : i < rs.length
  · have e3 : rs.drop i = rs[i] :: rs.drop (i + 1) := List.drop_eq_getElem_cons hlt; have e4 : Qf (rs.drop i) = Qva rs[i] ++ Qf (rs.drop (i + 1)) := by rw [e3, Qko]
    have e5 : rs.take (i + 1) = rs.take i ++ [rs[i]] := by rw [List.take_add_one, List.getElem?_eq_getElem hlt]; rfl
    have h3 := h2 hlt; rw [e5, Qad, List.length_append] at h3; have e6 : Qf [rs[i]] = Qva rs[i] := by simp [Qf]
    rw [e6] at h3; have hrr : rs[i].right := Qga rs 0 hr _ (List.getElem_mem hlt); rw [e4, List.take_append_of_le_length (by omega)]
    rw [Qts rs[i] hrr _ _ (List.take_append_drop (k - (Qf (rs.take i)).length) _).symm (fun h => by
      have h5 := congrArg List.length h; rw [List.length_drop] at h5; have h6 : (Qva rs[i]).length - (k - (Qf (rs.take i)).length) = 0 := h5
      omega)]
    decide
  · have e3 : rs.drop i = [] := List.drop_eq_nil_of_le (by omega); rw [e3]; have e4 : (Qf []).take (k - (Qf (rs.take i)).length) = [] := by simp [Qf]
    rw [e4]; exact head_nil
def Qzi : Nat := 4611686018427387904
def topL : Nat := 4611686018427322368
theorem hideL {p : Prop} (h : p) : Hid p := h
def bef (a : Nat) (i : Int) (b : Nat) (j : Int) : Bool := decide (a < b) || (decide (a = b) && decide (i < j))
theorem bef_iff (a b : Nat) (i j : Int) : bef a i b j = true ↔ (a < b ∨ a = b /\ i < j) := by simp [bef]
theorem bef_no (a b : Nat) (i j : Int) : bef a i b j = false ↔ ¬ (a < b ∨ a = b /\ i < j) := by
  rw [<- bef_iff]; simp
def rises : List Nat -> Bool
  | [] => true
  | [_] => true
  | a :: b :: l => decide (a < b) && rises (b :: l)
def full (n f : Nat) (s : Bool) : Bool := decide (Qzi <= max n f) || (!s && decide (topL <= max n f))
def nextS (n f : Nat) (s : Bool) : Int × Int := if full n f s then (0, 7) else ((max n f + 1 : Nat), 0)
def nextN (n f : Nat) (s : Bool) : Nat := if full n f s then n else max n f + 1
def IsU (w : World) (a : Option Addr) (len : Nat) (zs : List Nat) : Prop :=
  zs.length = len /\ (∀ z ∈ zs, z < 18446744073709551616) /\ (0 < len -> ∃ b off, a = some ⟨b, off, none⟩ /\ b < w.heap.size /\ ∀ j, j < len -> w.cell? ⟨b, off + j, none⟩ = some (.int .u64 (zs.getD j 0 : Nat)))
theorem IsU.nil (w : World) : IsU w none 0 [] := ⟨rfl, fun _ h => absurd h (by simp), fun h => absurd h (by omega)⟩
theorem IsU.below {w w' : World} {a : Option Addr} {len : Nat} {zs : List Nat} (h : IsU w a len zs) (hb : Below w.heap.size w w') : IsU w' a len zs := by
  refine ⟨h.1, h.2.1, fun hp => ?_⟩; obtain ⟨b, off, ha, hlt, hc⟩ := h.2.2 hp; exact ⟨b, off, ha, Nat.lt_of_lt_of_le hlt hb.size, fun j hj => (hb.cell (p := ⟨b, off + j, none⟩) hlt).trans (hc j hj)⟩
structure Lg where
  t : Tp
  c : Nat
  l : List Rec
  on : Nat
  fa : Nat
  hd : Nat
  du : Nat
def Rec.put (r : Rec) (n : Nat) : Rec := { r with l := n }
def Qig (rs : List Rec) : ByteArray := ⟨(Qf rs).toArray⟩
theorem Qvk (rs : List Rec) : (Qig rs).size = (Qf rs).length := by simp [Qig, ByteArray.size]
theorem Qdq (rs : List Rec) : (Qig rs).data.toList = Qf rs := by simp [Qig]
def Lg.used (g : Lg) : Nat := g.t.b.size + (Qf (g.l.drop g.on)).length
def Lg.see (g : Lg) (n : Nat) : Lg := { g with c := max g.c (min n Qzi) }
def Lg.open (t : Tp) (base : Nat) : Lg :=
  ⟨(t.chop ((Qbb t.b.data.toList).2 : Int)).1.sync, max (max 0 (min base Qzi)) (min (Qfb 0 (Qbb t.b.data.toList).1) Qzi), (Qbb t.b.data.toList).1, (Qbb t.b.data.toList).1.length, (Qbb t.b.data.toList).1.length, 0, Qfb 0 (Qbb t.b.data.toList).1⟩
def Lg.num (g : Lg) (floor : Nat) : Nat := max g.c floor + 1
def Lg.hold (g : Lg) (h : Int) : Nat := (max 0 ((g.hd : Int) + h)).toNat
def Lg.appE (g : Lg) (r : Rec) (floor : Nat) (h : Int) : Int :=
  if r.l ≠ 0 ∨ h < -65536 ∨ 65536 < h then 1
  else if full g.c floor (decide (h < 0)) = true then 7
  else @ite Int (¬ (r.put (g.num floor)).right) (@instDecidableNot _ (r.put (g.num floor)).rightD) 1 (if g.t.m < g.used + (Qva (r.put (g.num floor))).length + g.hold h then 7 else 0)
def Lg.app (g : Lg) (r : Rec) (floor : Nat) (h : Int) : Lg := if g.appE r floor h = 0 then { g with c := g.num floor, hd := g.hold h, l := g.l ++ [r.put (g.num floor)] } else g
def Lg.appN (g : Lg) (r : Rec) (floor : Nat) (h : Int) : Nat := if g.appE r floor h = 0 then g.num floor else 0
def Lg.write (g : Lg) : Lg := { g with t := (g.t.app (Qig (g.l.drop g.on))).1, on := g.l.length }
def Lg.sync (g : Lg) : Lg := { g with t := g.t.sync, fa := g.on, du := if 0 < g.on then (g.l.getD (g.on - 1) Rec.zero).l else g.du }
def Qwd : List Rec -> Nat -> Nat -> Nat
  | [], _, _ => 0
  | _, 0, _ => 0
  | r :: rs, f + 1, n => if r.l < n then Qwd rs f n + 1 else 0
def Lg.trim (g : Lg) (n : Nat) : Lg := { g with t := (g.t.cut ((Qf (g.l.take (Qwd g.l g.fa n))).length : Int)).1, l := g.l.drop (Qwd g.l g.fa n), on := g.on - Qwd g.l g.fa n, fa := g.fa - Qwd g.l g.fa n }
def Lg.pend (g : Lg) : Nat := if g.fa = g.l.length then 0 else (g.l.getD g.fa Rec.zero).l
structure Lg.ok (g : Lg) : Prop where
  tok : g.t.ok
  on : g.on <= g.l.length
  fa : g.fa <= g.on
  rise : Qob 0 g.l
  last : Qfb 0 g.l <= g.c
  top : g.c <= Qzi
  bytes : g.t.b.data.toList = Qf (g.l.take g.on)
  fast : g.t.f = (Qf (g.l.take g.fa)).length
  room : g.used + g.hd <= g.t.m
  low : ∀ r ∈ g.l.take g.fa, r.l <= g.du
  high : ∀ r ∈ g.l.drop g.fa, g.du < r.l
  du : g.du <= g.c
theorem Qfi (l : List Rec) (i : Nat) : Qf l = Qf (l.take i) ++ Qf (l.drop i) := by rw [<- Qad, List.take_append_drop]
theorem Qhm (l : List Rec) (i : Nat) : (Qf l).length = (Qf (l.take i)).length + (Qf (l.drop i)).length := by
  have h := congrArg List.length (Qfi l i); rwa [List.length_append] at h
theorem Qqq (l : List Rec) (i j : Nat) (h : i <= j) : (Qf (l.take i)).length <= (Qf (l.take j)).length := by
  have h1 := Qhm (l.take j) i; rw [List.take_take, Nat.min_eq_left h] at h1; omega
theorem Qcq : ∀ (l : List Rec) (a : Nat), Qob a l -> a <= Qfb a l
  | [], _, _ => Nat.le_refl _
  | r :: rs, a, h => Nat.le_trans (Nat.le_of_lt h.2.1) (Qcq rs r.l h.2.2)
theorem Qcj : ∀ (l : List Rec) (a : Nat), Qob a l -> ∀ r ∈ l, a < r.l /\ r.l <= Qfb a l
  | [], _, _, _, h => nomatch h
  | q :: rs, a, h, r, hr => by
    rcases List.mem_cons.1 hr with rfl | hr
    · exact ⟨h.2.1, Qcq rs r.l h.2.2⟩
    · have := Qcj rs q.l h.2.2 r hr; exact ⟨Nat.lt_trans h.2.1 this.1, this.2⟩
theorem rise_weak : ∀ (l : List Rec) (a b : Nat), Qob a l -> b <= a -> Qob b l
  | [], _, _, _, _ => trivial
  | r :: rs, a, b, h, hb => ⟨h.1, Nat.lt_of_le_of_lt hb h.2.1, h.2.2⟩
theorem Qah : ∀ (l : List Rec) (a i : Nat), Qob a l -> Qob (Qfb a (l.take i)) (l.drop i)
  | l, a, 0, h => by rw [List.take_zero, List.drop_zero]; exact h
  | [], _, _ + 1, _ => trivial
  | r :: rs, a, i + 1, h => Qah rs r.l i h.2.2
theorem Qgk : ∀ (l : List Rec) (a i : Nat), Qfb (Qfb a (l.take i)) (l.drop i) = Qfb a l
  | l, a, 0 => by rw [List.take_zero, List.drop_zero]; rfl
  | [], _, _ + 1 => rfl
  | r :: rs, a, i + 1 => Qgk rs r.l i
theorem last_mono : ∀ (l : List Rec) (a b : Nat), a <= b -> Qfb a l <= Qfb b l
  | [], _, _, h => h
  | _ :: _, _, _, _ => Nat.le_refl _
theorem Qio (l : List Rec) (i : Nat) (h : Qob 0 l) : Qfb 0 (l.drop i) <= Qfb 0 l := by
  rw [<- Qgk l 0 i]; exact last_mono _ _ _ (Nat.zero_le _)
theorem Qwk : ∀ (l : List Rec) (a i : Nat), i < l.length -> Qfb a (l.take (i + 1)) = (l.getD i Rec.zero).l
  | [], _, _, h => absurd h (by simp)
  | r :: rs, a, 0, _ => by simp [Qfb]
  | r :: rs, a, i + 1, h => by
    have := Qwk rs r.l i (by simpa using h); simpa [Qfb] using this
theorem Qss : ∀ (l : List Rec) (f n : Nat), Qwd l f n <= f /\ Qwd l f n <= l.length
  | [], f, n => ⟨Nat.zero_le _, Nat.zero_le _⟩
  | r :: rs, 0, n => ⟨Nat.zero_le _, Nat.zero_le _⟩
  | r :: rs, f + 1, n => by
    have := Qss rs f n; unfold Qwd
    split
    · simp only [List.length_cons]; omega
    · exact ⟨Nat.zero_le _, Nat.zero_le _⟩
theorem trimK_low : ∀ (l : List Rec) (f n : Nat), ∀ r ∈ l.take (Qwd l f n), r.l < n
  | [], f, n, r, h => by simp at h
  | q :: rs, 0, n, r, h => by simp [Qwd] at h
  | q :: rs, f + 1, n, r, h => by
    unfold Qwd at h
    split at h
    · rename_i hq; rw [List.take_succ_cons] at h
      rcases List.mem_cons.1 h with rfl | h
      · exact hq
      · exact trimK_low rs f n r h
    · simp at h
theorem Qdt : ∀ (l : List Rec) (f n : Nat), Qwd l f n < f -> Qwd l f n < l.length -> n <= (l.getD (Qwd l f n) Rec.zero).l
  | [], f, n, _, h => absurd h (by simp)
  | q :: rs, 0, n, h, _ => absurd h (Nat.not_lt_zero _)
  | q :: rs, f + 1, n, h1, h2 => by
    unfold Qwd at h1 h2 |-
    split
    · rename_i hq; rw [if_pos hq] at h1 h2; have := Qdt rs f n (by omega) (by simpa using h2); simpa using this
    · rename_i hq; simp only [List.getD_cons_zero]; omega
theorem Lg.see_ok (g : Lg) (h : g.ok) (n : Nat) : (g.see n).ok :=
  ⟨h.tok, h.on, h.fa, h.rise, by show Qfb 0 g.l <= max g.c (min n Qzi); have := h.last; omega, by show max g.c (min n Qzi) <= Qzi; have := h.top; omega, h.bytes, h.fast, h.room, h.low, h.high, by show g.du <= max g.c (min n Qzi); have := h.du; omega⟩
theorem few_recs (g : Lg) (h : g.ok) : g.l.length * 6 <= 65536 := by
  have h1 := Qof g.l; have h2 := Qhm g.l g.on; have h3 := congrArg List.length h.bytes; rw [Array.length_toList] at h3; have h4 : g.t.b.data.size = g.t.b.size := rfl; have h5 := h.room; have h6 := h.tok.room; unfold Lg.used at h5; omega
theorem Qct (bs : List UInt8) : Qob 0 (Qbb bs).1 /\ bs.take (Qbb bs).2 = Qf (Qbb bs).1 /\ (Qbb bs).2 <= bs.length := Qdm _ 0 bs
theorem Qzr : ∀ (l : List Rec) (a : Nat), Qob a l -> a <= Qzi -> Qfb a l <= Qzi
  | [], _, _, h => h
  | r :: rs, a, h, _ => Qzr rs r.l h.2.2 (by have := h.1.lm; unfold Qce at this; unfold Qzi; omega)
theorem Lg.open_ok (t : Tp) (h : t.ok) (base : Nat) : (Lg.open t base).ok := by
  obtain ⟨h1, h2, h3⟩ := Qct t.b.data.toList; have hl := Qzr _ 0 h1 (Nat.zero_le _); have hsz : t.b.data.toList.length = t.b.size := by rw [Array.length_toList]; rfl
  have hc : t.chop ((Qbb t.b.data.toList).2 : Int) = ({ t with b := t.b.extract 0 (Qbb t.b.data.toList).2, f := min t.f (Qbb t.b.data.toList).2 }, 0) := by
    unfold Tp.chop; rw [if_neg (by omega)]; simp
  have hz : (t.b.extract 0 (Qbb t.b.data.toList).2).size = (Qbb t.b.data.toList).2 := by rw [ByteArray.size_extract]; omega
  have hd : (t.b.extract 0 (Qbb t.b.data.toList).2).data.toList = Qf (Qbb t.b.data.toList).1 := by
    have e := Qbi t.b 0 (Qbb t.b.data.toList).2 (by omega); rw [Nat.zero_add] at e; rw [e, <- h2]; simp
  have hlen : (Qf (Qbb t.b.data.toList).1).length = (Qbb t.b.data.toList).2 := by
    rw [<- h2, List.length_take]; omega
  have hco := t.chop_ok h ((Qbb t.b.data.toList).2 : Int); rw [hc] at hco; unfold Lg.open; rw [hc]
  refine ⟨Tp.sync_ok _ hco, Nat.le_refl _, Nat.le_refl _, h1, ?_, ?_, ?_, ?_, ?_, ?_, ?_, ?_⟩
  · show Qfb 0 (Qbb t.b.data.toList).1 <= max (max 0 (min base Qzi)) (min (Qfb 0 (Qbb t.b.data.toList).1) Qzi); omega
  · show max (max 0 (min base Qzi)) _ <= Qzi; omega
  · show (t.b.extract 0 (Qbb t.b.data.toList).2).data.toList = Qf ((Qbb t.b.data.toList).1.take (Qbb t.b.data.toList).1.length); rw [List.take_length, hd]
  · show (t.b.extract 0 (Qbb t.b.data.toList).2).size = (Qf ((Qbb t.b.data.toList).1.take (Qbb t.b.data.toList).1.length)).length; rw [List.take_length, hz, hlen]
  · show (t.b.extract 0 (Qbb t.b.data.toList).2).size + (Qf ((Qbb t.b.data.toList).1.drop (Qbb t.b.data.toList).1.length)).length + 0 <= t.m; rw [List.drop_length, hz]; have := h.few; simp [Qf]; omega
  · intro r hr; rw [List.take_length] at hr; exact (Qcj _ 0 h1 r hr).2
  · intro r hr; rw [List.drop_length] at hr; nomatch hr
  · show Qfb 0 (Qbb t.b.data.toList).1 <= max (max 0 (min base Qzi)) (min (Qfb 0 (Qbb t.b.data.toList).1) Qzi); omega
theorem Lg.app_no (g : Lg) (r : Rec) (f : Nat) (h : Int) (he : g.appE r f h ≠ 0) : g.app r f h = g /\ g.appN r f h = 0 := by
  unfold Lg.app Lg.appN; rw [if_neg he, if_neg he]; exact ⟨rfl, rfl⟩
theorem Lg.app_yes (g : Lg) (r : Rec) (f : Nat) (h : Int) (he : g.appE r f h = 0) : g.app r f h = { g with c := g.num f, hd := g.hold h, l := g.l ++ [r.put (g.num f)] } /\ g.appN r f h = g.num f := by
  unfold Lg.app Lg.appN; rw [if_pos he, if_pos he]; exact ⟨rfl, rfl⟩
theorem Lg.appE_ok (g : Lg) (r : Rec) (f : Nat) (h : Int) (he : g.appE r f h = 0) : r.l = 0 /\ -65536 <= h /\ h <= 65536 /\ full g.c f (decide (h < 0)) = false /\ (r.put (g.num f)).right /\ g.used + (Qva (r.put (g.num f))).length + g.hold h <= g.t.m := by
  unfold Lg.appE at he
  split at he
  · omega
  split at he
  · omega
  split at he
  · omega
  split at he
  · omega
  rename_i h1 h2 h3 h4; have h3' := Classical.not_not.1 h3; refine ⟨by omega, by omega, by omega, by simpa using h2, h3', by omega⟩
theorem Qzt (r : Rec) : Qf [r] = Qva r := by simp [Qf]
theorem Lg.app_ok (g : Lg) (hg : g.ok) (r : Rec) (f : Nat) (h : Int) : (g.app r f h).ok := by
  by_cases he : g.appE r f h = 0
  · rw [(g.app_yes r f h he).1]; obtain ⟨h1, h2, h3, h4, h5, h6⟩ := g.appE_ok r f h he; have hon := hg.on; have hfa := hg.fa; have hnl : (r.put (g.num f)).l = g.num f := rfl
    have htop : g.num f <= Qzi := by
      have := h5.lm; rw [hnl] at this; unfold Qce at this; unfold Qzi; omega
    have hnum : g.c < g.num f := by unfold Lg.num; omega
    have hlast := hg.last
    refine ⟨hg.tok, ?_, hg.fa, ?_, ?_, htop, ?_, ?_, ?_, ?_, ?_, ?_⟩
    · show g.on <= (g.l ++ [_]).length; rw [List.length_append]; omega
    · show Qob 0 (g.l ++ [_]); rw [Qzd]; exact ⟨hg.rise, h5, by rw [hnl]; omega⟩
    · show Qfb 0 (g.l ++ [_]) <= g.num f; rw [Qik, hnl]; exact Nat.le_refl _
    · show g.t.b.data.toList = Qf ((g.l ++ [_]).take g.on); rw [List.take_append_of_le_length hon]; exact hg.bytes
    · show g.t.f = (Qf ((g.l ++ [_]).take g.fa)).length; rw [List.take_append_of_le_length (by omega)]; exact hg.fast
    · show g.t.b.size + (Qf ((g.l ++ [_]).drop g.on)).length + g.hold h <= g.t.m; rw [List.drop_append_of_le_length hon, Qad, List.length_append, Qzt]; unfold Lg.used at h6; omega
    · intro q hq; have hq' : q ∈ (g.l ++ [r.put (g.num f)]).take g.fa := hq; rw [List.take_append_of_le_length (by omega)] at hq'; exact hg.low q hq'
    · intro q hq; have hq' : q ∈ (g.l ++ [r.put (g.num f)]).drop g.fa := hq; rw [List.drop_append_of_le_length (by omega)] at hq'
      rcases List.mem_append.1 hq' with hq' | hq'
      · exact hg.high q hq'
      · rw [List.mem_singleton.1 hq', hnl]; exact Nat.lt_of_le_of_lt hg.du hnum
    · exact Nat.le_trans hg.du (Nat.le_of_lt hnum)
  · rw [(g.app_no r f h he).1]; exact hg
theorem Lg.write_app (g : Lg) (hg : g.ok) : g.t.app (Qig (g.l.drop g.on)) = ({ g.t with b := g.t.b ++ Qig (g.l.drop g.on) }, 0) := by
  have h1 := hg.room; unfold Lg.used at h1; unfold Tp.app; rw [Qvk, if_neg (by omega)]
theorem data_append (a b : ByteArray) : (a ++ b).data.toList = a.data.toList ++ b.data.toList := by
  rw [ByteArray.data_append, Array.toList_append]
theorem Lg.write_ok (g : Lg) (hg : g.ok) : g.write.ok := by
  have ht := g.t.app_ok hg.tok (Qig (g.l.drop g.on)); have e := g.write_app hg; have h1 := hg.room; unfold Lg.used at h1; unfold Lg.write; rw [e] at ht |-
  refine ⟨ht, Nat.le_refl _, Nat.le_trans hg.fa hg.on, hg.rise, hg.last, hg.top, ?_, hg.fast, ?_, hg.low, hg.high, hg.du⟩
  · show (g.t.b ++ Qig (g.l.drop g.on)).data.toList = Qf (g.l.take g.l.length); rw [data_append, Qdq, hg.bytes, List.take_length, <- Qfi]
  · show (g.t.b ++ Qig (g.l.drop g.on)).size + (Qf (g.l.drop g.l.length)).length + g.hd <= g.t.m; rw [ByteArray.size_append, Qvk, List.drop_length]; have h0 : (Qf []).length = 0 := rfl; rw [h0]; omega
theorem Lg.sync_ok (g : Lg) (hg : g.ok) : g.sync.ok := by
  have hb := congrArg List.length hg.bytes; rw [Array.length_toList] at hb
  have hdu : ∀ r ∈ g.l.take g.on, r.l <= g.sync.du := by
    intro r hr
    have h0 : 0 < g.on := by
      rcases Nat.eq_zero_or_pos g.on with h | h
      · rw [h] at hr; simp at hr
      · exact h
    have hm := (Qcj _ 0 (Qgi g.l 0 g.on hg.rise) r hr).2; have e := Qwk g.l 0 (g.on - 1) (by have := hg.on; omega); rw [Nat.sub_add_cancel h0] at e; show r.l <= if 0 < g.on then (g.l.getD (g.on - 1) Rec.zero).l else g.du
    rw [if_pos h0, <- e]; exact hm
  have hlast : g.sync.du <= Qfb 0 (g.l.take g.on) ∨ g.sync.du = g.du /\ g.on = 0 := by
    show (if 0 < g.on then (g.l.getD (g.on - 1) Rec.zero).l else g.du) <= _ ∨ _
    by_cases h0 : 0 < g.on
    · have e := Qwk g.l 0 (g.on - 1) (by have := hg.on; omega); rw [Nat.sub_add_cancel h0] at e; rw [if_pos h0, <- e]; exact .inl (Nat.le_refl _)
    · refine .inr ⟨?_, by omega⟩; show (if 0 < g.on then (g.l.getD (g.on - 1) Rec.zero).l else g.du) = g.du; rw [if_neg h0]
  refine ⟨g.t.sync_ok hg.tok, hg.on, Nat.le_refl _, hg.rise, hg.last, hg.top, hg.bytes, ?_, hg.room, hdu, ?_, ?_⟩
  · show g.t.b.size = (Qf (g.l.take g.on)).length; exact hb
  · intro r hr; have hr' : r ∈ g.l.drop g.on := hr
    rcases hlast with h | ⟨h, h0⟩
    · have := (Qcj _ _ (Qah g.l 0 g.on hg.rise) r hr').1; omega
    · rw [h]; have hf := hg.fa; exact hg.high r (by rw [show g.fa = 0 by omega, List.drop_zero]; rw [h0, List.drop_zero] at hr'; exact hr')
  · show g.sync.du <= g.c
    rcases hlast with h | ⟨h, _⟩
    · have h1 := Qgk g.l 0 g.on; have h2 := Qcq _ _ (Qah g.l 0 g.on hg.rise); have h3 := hg.last; omega
    · rw [h]; exact hg.du
theorem Lg.trim_k (g : Lg) (hg : g.ok) (n : Nat) : Qwd g.l g.fa n <= g.fa /\ (Qf (g.l.take (Qwd g.l g.fa n))).length <= g.t.f := by
  have h := (Qss g.l g.fa n).1; exact ⟨h, by rw [hg.fast]; exact Qqq g.l _ _ h⟩
theorem Lg.trim_cut (g : Lg) (hg : g.ok) (n : Nat) : g.t.cut ((Qf (g.l.take (Qwd g.l g.fa n))).length : Int) = (⟨g.t.b.extract (Qf (g.l.take (Qwd g.l g.fa n))).length g.t.b.size, g.t.f - (Qf (g.l.take (Qwd g.l g.fa n))).length, g.t.m, (g.t.s + (Qf (g.l.take (Qwd g.l g.fa n))).length) % 18446744073709551616⟩, 0) := by
  have h := (g.trim_k hg n).2; unfold Tp.cut; rw [if_neg (by omega)]; simp
theorem Lg.trim_ok (g : Lg) (hg : g.ok) (n : Nat) : (g.trim n).ok := by
  have hc := g.t.cut_ok hg.tok ((Qf (g.l.take (Qwd g.l g.fa n))).length : Int); have e := g.trim_cut hg n; obtain ⟨hk, hkf⟩ := g.trim_k hg n; have hon := hg.on; have hfa := hg.fa; have hff := hg.tok.fast; unfold Lg.trim; rw [e] at hc |-; generalize Qwd g.l g.fa n = k at *; have hb : g.t.b.data.toList.length = g.t.b.size := by rw [Array.length_toList]; rfl
  have htk : ∀ j, k <= j -> (g.l.drop k).take (j - k) = (g.l.take j).drop k := fun j hj => by rw [List.drop_take]
  have hsplit : ∀ j, k <= j -> Qf (g.l.take j) = Qf (g.l.take k) ++ Qf ((g.l.take j).drop k) := fun j hj => by
    have := Qfi (g.l.take j) k; rwa [List.take_take, Nat.min_eq_left hj] at this
  have hdat : (g.t.b.extract (Qf (g.l.take k)).length g.t.b.size).data.toList = Qf ((g.l.take g.on).drop k) := by
    have e2 := Qbi g.t.b (Qf (g.l.take k)).length (g.t.b.size - (Qf (g.l.take k)).length) (by omega); rw [show (Qf (g.l.take k)).length + (g.t.b.size - (Qf (g.l.take k)).length) = g.t.b.size by omega] at e2; rw [e2]; simp only; rw [List.take_of_length_le (by rw [List.length_drop]; omega), hg.bytes, hsplit g.on (by omega), List.drop_left' rfl]
  have hsz : (g.t.b.extract (Qf (g.l.take k)).length g.t.b.size).size = g.t.b.size - (Qf (g.l.take k)).length := by rw [ByteArray.size_extract]; omega
  refine ⟨hc, ?_, ?_, ?_, ?_, hg.top, ?_, ?_, ?_, ?_, ?_, hg.du⟩
  · show g.on - k <= (g.l.drop k).length; rw [List.length_drop]; omega
  · show g.fa - k <= g.on - k; omega
  · exact rise_weak _ _ 0 (Qah g.l 0 k hg.rise) (Nat.zero_le _)
  · exact Nat.le_trans (Qio g.l k hg.rise) hg.last
  · show _ = Qf ((g.l.drop k).take (g.on - k)); rw [hdat, htk g.on (by omega)]
  · show g.t.f - (Qf (g.l.take k)).length = (Qf ((g.l.drop k).take (g.fa - k))).length; rw [htk g.fa hk, hg.fast, hsplit g.fa hk, List.length_append]; omega
  · show (g.t.b.extract (Qf (g.l.take k)).length g.t.b.size).size + (Qf ((g.l.drop k).drop (g.on - k))).length + g.hd <= g.t.m; rw [hsz, List.drop_drop, show k + (g.on - k) = g.on by omega]; have := hg.room; unfold Lg.used at this; omega
  · intro r hr; have hr' : r ∈ (g.l.drop k).take (g.fa - k) := hr; rw [htk g.fa hk] at hr'; exact hg.low r (List.mem_of_mem_drop hr')
  · intro r hr; have hr' : r ∈ (g.l.drop k).drop (g.fa - k) := hr; rw [List.drop_drop, show k + (g.fa - k) = g.fa by omega] at hr'; exact hg.high r hr'
theorem Qil.first {w : World} {a : Option Addr} {len cap i : Nat} {ms : List (Rec × Value × Value)} (h : Qil w (.slice a len cap) ms) (hi : i <= ms.length) : Qil w (.slice a i cap) (ms.take i) := by
  have hl : (ms.take i).length = i := by rw [List.length_take, Nat.min_eq_left hi]
  obtain ⟨⟨a', cap', h1, h2⟩, h3⟩ := h; injection h1 with e1 e2 e3; subst e1 e3; refine ⟨⟨a, cap, by rw [hl], fun hp => ?_⟩, fun m hm => h3 m (List.mem_of_mem_take hm)⟩; rw [hl] at hp; obtain ⟨b, off, h4, h5, h6⟩ := h2 (by omega); refine ⟨b, off, h4, h5, fun j hj => ?_⟩; rw [hl] at hj
  have e : (ms.take i).getD j rcZ = ms.getD j rcZ := by
    rw [List.getD_eq_getElem?_getD, List.getD_eq_getElem?_getD, List.getElem?_take, if_pos hj]
  rw [e]; exact h6 j (by omega)
theorem Qil.empty (w : World) (a : Option Addr) (cap : Nat) : Qil w (.slice a 0 cap) [] := ⟨⟨a, cap, rfl, fun h => absurd h (by simp)⟩, fun m hm => (nomatch hm)⟩
theorem Qil.rest {w : World} {b off len cap i : Nat} {ms : List (Rec × Value × Value)} (h : Qil w (.slice (some ⟨b, off, none⟩) len cap) ms) (hi : i <= ms.length) (k c : Nat) (hk : k = len - i) : Qil w (.slice (some ⟨b, off + i * 14, none⟩) k c) (ms.drop i) := by
  obtain ⟨⟨a', cap', h1, h2⟩, h3⟩ := h; injection h1 with e1 e2 e3; subst e1; have hl : (ms.drop i).length = k := by rw [List.length_drop, hk, e2]
  refine ⟨⟨_, c, by rw [hl], fun hp => ?_⟩, fun m hm => h3 m (List.mem_of_mem_drop hm)⟩; rw [List.length_drop] at hp; obtain ⟨b', off', h4, h5, h6⟩ := h2 (by omega); injection h4 with h7; injection h7 with h8 h9; subst h8 h9; refine ⟨b, off + i * 14, rfl, h5, fun j hj => ?_⟩; rw [List.length_drop] at hj
  have e : (ms.drop i).getD j rcZ = ms.getD (i + j) rcZ := by
    rw [List.getD_eq_getElem?_getD, List.getD_eq_getElem?_getD, List.getElem?_drop]
  have e4 : off + i * 14 + j * 14 = off + (i + j) * 14 := by omega
  rw [e, e4]; exact h6 (i + j) (by omega)
def Safe (B : Nat) (w : World) (b : Nat) : Prop := b < w.heap.size /\ (b < B ∨ ∃ t cs, (t = 84 ∨ t = 86) /\ Qb w b t cs)
def Qkt (B : Nat) (w : World) (F : Nat -> Prop) : Prop := ∀ k, F k -> B <= k /\ k < w.heap.size /\ ∀ t cs, Qb w k t cs -> t ≠ 84 /\ t ≠ 86
theorem Safe.not {B b : Nat} {w : World} {F : Nat -> Prop} (h : Safe B w b) (hl : Qkt B w F) : ¬ F b := fun hf => by
  obtain ⟨h1, h2, h3⟩ := hl b hf
  rcases h.2 with h4 | ⟨t, cs, h4, h5⟩
  · omega
  · have := h3 t cs h5
    rcases h4 with h4 | h4
    · exact this.1 h4
    · exact this.2 h4
theorem Safe.keep {B b : Nat} {w x : World} {F : Nat -> Prop} (h : Safe B w b) (hl : Qkt B w F) (p : Tn F w x) : Safe B x b := by
  have hn := h.not hl; refine ⟨Nat.lt_of_lt_of_le h.1 p.size, ?_⟩
  rcases h.2 with h4 | ⟨t, cs, h4, h5⟩
  · exact .inl h4
  · exact .inr ⟨t, cs, h4, p.row h5 hn⟩
def Qvs (G : Nat -> Prop) (v : Value) : Prop := ∀ b off n c, v = .slice (some ⟨b, off, none⟩) n c -> 0 < n -> G b
theorem Qdp {α : Type} {f : α -> Array Value} {z : α} {n : Nat} {w x : World} {v : Value} {xs : List α} (h : Qsd f z n w v xs) (hs : ∀ b off m c, v = .slice (some ⟨b, off, none⟩) m c -> 0 < m -> x.heap[b]? = w.heap[b]?) (hz : w.heap.size <= x.heap.size) : Qsd f z n x v xs := by
  obtain ⟨a, cap, rfl, h2⟩ := h; refine ⟨a, cap, rfl, fun hp => ?_⟩; obtain ⟨b, off, rfl, h4, h5⟩ := h2 hp; have hk := hs b off _ _ rfl hp; exact ⟨b, off, rfl, Nat.lt_of_lt_of_le h4 hz, fun i hi j u hu => (World.cell?_of_block (a := ⟨b, off + i * n + j, none⟩) hk).trans (h5 i hi j u hu)⟩
structure RcK (B : Nat) (w : World) (r : Rec) (va vb : Value) : Prop where
  rc : Qhd w r va vb
  tx : Qvs (Safe B w) va
  di : Qvs (Safe B w) vb
theorem RcK.keep {B : Nat} {w x : World} {F : Nat -> Prop} {r : Rec} {va vb : Value} (h : RcK B w r va vb) (hl : Qkt B w F) (p : Tn F w x) : RcK B x r va vb :=
  ⟨⟨Qdp h.rc.1 (fun b off m c e hm => p.block b (h.tx b off m c e hm).1 ((h.tx b off m c e hm).not hl)) p.size, Qdp h.rc.2 (fun b off m c e hm => p.block b (h.di b off m c e hm).1 ((h.di b off m c e hm).not hl)) p.size⟩,
    fun b off m c e hm => (h.tx b off m c e hm).keep hl p, fun b off m c e hm => (h.di b off m c e hm).keep hl p⟩
theorem Qrl (B : Nat) (w : World) : Qkt B w (fun _ => False) := fun k h => h.elim
theorem RcK.later {B : Nat} {w x : World} {r : Rec} {va vb : Value} (h : RcK B w r va vb) (p : Below w.heap.size w x) : RcK B x r va vb := h.keep (Qrl B w) (Tn.of_below p)
theorem RcK.first {w x : World} {r : Rec} {va vb : Value} (h : Qhd w r va vb) (p : Below w.heap.size w x) : RcK w.heap.size x r va vb := by
  have lies : ∀ {α : Type} {f : α -> Array Value} {z : α} {n : Nat} {v : Value} {xs : List α}, Qsd f z n w v xs -> Qvs (Safe w.heap.size x) v := by
    intro α f z n v xs h b off m c e hm; obtain ⟨a, cap, rfl, h2⟩ := h; injection e with e1 e2 e3; obtain ⟨b', off', h3, h4, _⟩ := h2 (by omega); rw [e1] at h3; injection h3 with h3; injection h3 with h3; subst h3; exact ⟨Nat.lt_of_lt_of_le h4 p.size, .inl h4⟩
  exact ⟨h.below p, lies h.1, lies h.2⟩
theorem RcK.got {B base : Nat} {w : World} {r : Rec} {va vb : Value} (h : Qdh base w r va vb) : RcK B w r va vb := by
  have lies : ∀ {e : TypeId} {sz n : Nat} {v : Value} {xs : List Value}, (e = 84 ∨ e = 86) -> w.ownsRow base e sz v n xs -> Qvs (Safe B w) v := by
    intro e sz n v xs he h b off m c ev hm
    rcases h.2 with ⟨h1, _⟩ | ⟨g, cap, cur, h1, _, h2, _⟩
    · rw [h1] at ev; cases ev
    · rw [h1] at ev; injection ev with ev; injection ev with ev; injection ev with ev; subst ev; exact ⟨(Array.getElem?_eq_some_iff.1 h2).1, .inr ⟨e, cur, he, h2⟩⟩
  exact ⟨h.rc, lies (.inl rfl) h.1, lies (.inr rfl) h.2⟩
abbrev Rm := Rec × Value × Value
def RB (B : Nat) (w : World) (a : Option Addr) (cap : Nat) (ms : List Rm) : Prop :=
  ((a = none /\ ms = [] /\ cap = 0) ∨ ∃ b off cs, a = some ⟨b, off, none⟩ /\ B <= b /\ Qb w b 30 cs /\ off + cap * 14 <= cs.size /\ ms.length <= cap /\ ∀ i, i < ms.length -> w.rangeAt b (off + i * 14) (rcF (ms.getD i rcZ)).toList) /\
  ∀ m ∈ ms, m.1.fits /\ RcK B w m.1 m.2.1 m.2.2
def blk (a : Option Addr) (k : Nat) : Prop := ∃ off, a = some ⟨k, off, none⟩
theorem RB.rs {B : Nat} {w : World} {a : Option Addr} {cap : Nat} {ms : List Rm} (h : RB B w a cap ms) : Qil w (.slice a ms.length cap) ms := by
  refine ⟨⟨a, cap, rfl, fun hp => ?_⟩, fun m hm => ⟨(h.2 m hm).1, (h.2 m hm).2.rc⟩⟩
  rcases h.1 with ⟨_, rfl, _⟩ | ⟨b, off, cs, rfl, _, h2, _, _, h5⟩
  · exact absurd hp (by simp)
  · exact ⟨b, off, rfl, h2.lt, h5⟩
theorem RB.cap {B : Nat} {w : World} {a : Option Addr} {cap : Nat} {ms : List Rm} (h : RB B w a cap ms) : ms.length <= cap := by
  rcases h.1 with ⟨_, rfl, _⟩ | ⟨_, _, _, _, _, _, _, h4, _⟩
  · exact Nat.zero_le _
  · exact h4
theorem RB.nil (B : Nat) (w : World) : RB B w none 0 [] := ⟨.inl ⟨rfl, rfl, rfl⟩, fun m hm => nomatch hm⟩
theorem RB.keep {B : Nat} {w x : World} {F : Nat -> Prop} {a : Option Addr} {cap : Nat} {ms : List Rm} (h : RB B w a cap ms) (hl : Qkt B w F) (p : Tn F w x) (hn : ∀ k, blk a k -> ¬ F k) : RB B x a cap ms := by
  refine ⟨?_, fun m hm => ⟨(h.2 m hm).1, (h.2 m hm).2.keep hl p⟩⟩
  rcases h.1 with h1 | ⟨b, off, cs, rfl, h1, h2, h3, h4, h5⟩
  · exact .inl h1
  · have hb := p.block b h2.lt (hn b ⟨off, rfl⟩); exact .inr ⟨b, off, cs, rfl, h1, hb.trans h2, h3, h4, fun i hi j u hu => (World.cell?_of_block (a := ⟨b, off + i * 14 + j, none⟩) hb).trans (h5 i hi j u hu)⟩
theorem RB.later {B : Nat} {w x : World} {a : Option Addr} {cap : Nat} {ms : List Rm} (h : RB B w a cap ms) (p : Below w.heap.size w x) : RB B x a cap ms := h.keep (Qrl B w) (Tn.of_below p) (fun _ _ h => h)
theorem RB.drop {B : Nat} {w : World} {b off cap : Nat} {ms : List Rm} (h : RB B w (some ⟨b, off, none⟩) cap ms) (k : Nat) (hk : k <= ms.length) (hc : ¬ cap = k) : RB B w (some ⟨b, off + k * 14, none⟩) (cap - k) (ms.drop k) := by
  refine ⟨?_, fun m hm => h.2 m (List.mem_of_mem_drop hm)⟩
  rcases h.1 with ⟨h1, _⟩ | ⟨b', off', cs, h1, h2, h3, h4, h5, h6⟩
  · cases h1
  · injection h1 with h1; injection h1 with h1 h7; subst h1 h7; refine .inr ⟨b, off + k * 14, cs, rfl, h2, h3, by omega, by rw [List.length_drop]; omega, fun i hi => ?_⟩; rw [List.length_drop] at hi
    have e : (ms.drop k).getD i rcZ = ms.getD (k + i) rcZ := by
      rw [List.getD_eq_getElem?_getD, List.getD_eq_getElem?_getD, List.getElem?_drop]
    rw [e, show off + k * 14 + i * 14 = off + (k + i) * 14 by omega]; exact h6 (k + i) (by omega)
theorem RB.drop_all {B : Nat} {w : World} {a : Option Addr} {cap : Nat} {ms : List Rm} (h : RB B w a cap ms) : RB B w a 0 [] := by
  refine ⟨?_, fun m hm => nomatch hm⟩
  rcases h.1 with ⟨h1, _, _⟩ | ⟨b, off, cs, h1, h2, h3, h4, h5, h6⟩
  · exact .inl ⟨h1, rfl, rfl⟩
  · exact .inr ⟨b, off, cs, h1, h2, h3, by omega, Nat.zero_le _, fun i hi => absurd hi (by simp)⟩
theorem RB.own {B base : Nat} {w : World} {v : Value} {ms : List Rm} (hB : B <= base) (ho : w.ownsRow base 30 14 v ms.length (Qxb ms)) (hg : ∀ m ∈ ms, m.1.fits /\ Qdh base w m.1 m.2.1 m.2.2) : ∃ a cap, v = .slice a ms.length cap /\ RB B w a cap ms /\ ∀ k, blk a k -> base <= k := by
  have hs := Qil.own ho hg
  rcases ho.2 with ⟨rfl, h0⟩ | ⟨g, cap, cur, rfl, h1, h2, h3, h4, h5, h6⟩
  · obtain rfl := List.eq_nil_of_length_eq_zero h0; exact ⟨none, 0, rfl, RB.nil B w, fun k hk => by obtain ⟨_, h⟩ := hk; cases h⟩
  · refine ⟨_, cap, rfl, ⟨.inr ⟨g, 0, cur, rfl, Nat.le_trans hB h1, h2, by omega, h3, fun i hi => ?_⟩, fun m hm => ⟨(hg m hm).1, RcK.got (hg m hm).2⟩⟩, fun k hk => by
      obtain ⟨_, h⟩ := hk; injection h with h; injection h with h
      omega⟩
    obtain ⟨b, off, e, _, h8, _⟩ := hs.at hi; injection e with e; injection e with e1 e2; subst e1 e2; exact h8
structure Turn (g h : Nat) (w w' : World) : Prop where
  os : w'.os = w.os
  tape : w'.tape = w.tape
  output : w'.output = w.output
  size : w.heap.size <= w'.heap.size
  block : ∀ k, k < w.heap.size -> k ≠ g -> k ≠ h -> w'.heap[k]? = w.heap[k]?
theorem Turn.refl (g h : Nat) (w : World) : Turn g h w w := ⟨rfl, rfl, rfl, Nat.le_refl _, fun _ _ _ _ => rfl⟩
theorem Turn.trans {g h : Nat} {w x y : World} (p : Turn g h w x) (q : Turn g h x y) : Turn g h w y :=
  ⟨q.os.trans p.os, q.tape.trans p.tape, q.output.trans p.output, Nat.le_trans p.size q.size, fun i hi h1 h2 => (q.block i (Nat.lt_of_lt_of_le hi p.size) h1 h2).trans (p.block i hi h1 h2)⟩
theorem Turn.set {g h : Nat} {w x : World} (p : Turn g h w x) (j : Nat) (v : Value) : Turn g h w (x.setCell ⟨g, j, none⟩ v) :=
  ⟨p.os, p.tape, p.output, Nat.le_trans p.size ((Below.refl 0 x).setCell (Nat.zero_le _) v).size, fun i hi h1 h2 => (heap_setCell_other x ⟨g, j, none⟩ i v h1).trans (p.block i hi h1 h2)⟩
theorem Turn.drew {g h : Nat} {w x : World} (p : Turn g h w x) : Turn g h w x.drew := ⟨p.os, p.tape, p.output, p.size, p.block⟩
theorem Turn.below {g h n : Nat} {w x : World} (p : Turn g h w x) (h1 : n <= g) (h2 : n <= h) (hs : n <= w.heap.size) : Below n w x :=
  ⟨p.os, p.tape, p.output, p.size, fun i hi => p.block i (by omega) (by omega) (by omega)⟩
theorem Turn.of_below {g h : Nat} {w x : World} (p : Below w.heap.size w x) : Turn g h w x := ⟨p.os, p.tape, p.output, p.size, fun i hi _ _ => p.block i hi⟩
theorem Turn.row {g h k : Nat} {w x : World} {t : TypeId} {cs : Array Value} (p : Turn g h w x) (hr : Qb w k t cs) (h1 : k ≠ g) (h2 : k ≠ h) : Qb x k t cs := (p.block k hr.lt h1 h2).trans hr
theorem Turn.grown {g h : Nat} {w x y : World} {row : Option Nat} (p : Turn g h w x) (q : x.grownBy y row) (hr : ∀ k, row = some k -> k = h ∨ w.heap.size <= k) : Turn g h w y :=
  ⟨q.os.trans p.os, q.tape.trans p.tape, q.output.trans p.output, Nat.le_trans p.size q.size, fun i hi h1 h2 => (q.block i (Nat.lt_of_lt_of_le hi p.size) (fun e => by
    rcases hr i e.symm with h3 | h3
    · exact h2 h3
    · omega)).trans (p.block i hi h1 h2)⟩
theorem row_apart {w : World} {g k : Nat} {t u : TypeId} {cs ds : Array Value} (h : Qb w g t cs) (h2 : w.heap[k]? = some (.cells ds u (0, 0))) (hne : t ≠ u) : g ≠ k := by
  intro e; subst e; have h3 : w.heap[g]? = some (.cells cs t (0, 0)) := h; rw [h3] at h2; injection h2 with h2; injection h2 with _ h4; exact hne h4
abbrev LogAt := Nat -> Nat -> World -> (Nat -> Prop) -> Lg -> Prop
def Aft (LA : LogAt) (gt gl : Nat) (x : World) (F : Nat -> Prop) (g : Lg) (x' : World) : Prop := ∃ F', LA gt gl x' F' g /\ Tn F x x' /\ ∀ k, F' k -> F k ∨ x.heap.size <= k
def Lg.get (g : Lg) (n : Nat) : Rec × Bool := match g.l.find? (fun r => decide (r.l = n)) with
  | some r => (r, true)
  | none => (Rec.zero, false)
theorem Qqg {α : Type} (f : α -> Array Value) (n : Nat) (hf : ∀ x, (f x).size = n) : ∀ xs : List α, (xs.flatMap fun x => (f x).toList).length = xs.length * n
  | [] => by simp
  | x :: xs => by rw [List.flatMap_cons, List.length_append, Qqg f n hf xs, Array.length_toList, hf, List.length_cons, Nat.add_mul, Nat.one_mul, Nat.add_comm]
theorem step_append_run {P : Program} {ops : Array Oper} {o : Oper} {a : Act} {w : World} {K : Act -> World -> Prop} {Q : Exit -> Act -> World -> Prop} {E : Prop}
    (hg : o.guard = none) (d x : Operand) (t u : TypeId) (hop : o.op = Op.call { callee := Callee.builtin Builtin.append, args := #[d, x], argTypes := #[t, u] })
    (vd vx v' : Value) (w' : World) (hs : a.eval d = vd) (hx : a.eval x = vx) (hrun : (Builtin.append_ #[t, u] o.type #[vd, vx]).run P w = .ok v' w') (hK : K (a.put o.dst v') w') :
    if Region.wanted o (yielded ops a.tmps) = true then Oper.wp P o a w K Q else E := by
  have hw : Region.wanted o (yielded ops a.tmps) = true := by simp [Region.wanted, hg]
  rw [if_pos hw]; unfold Oper.wp; simp [execOp, hop, resolve, invoke, builtin, hs, hx, hrun, Result.andThen]; exact hK
theorem Qmi : ∀ (vs : List Value) (o : Nat) (w : World) (b : Nat) (t : TypeId) (cs : Array Value), Qb w b t cs -> ∃ ds, Qb (w.setCells b o vs) b t ds /\ ds.size = cs.size
  | [], _, w, b, t, cs, h => ⟨cs, h, rfl⟩
  | v :: vs, o, w, b, t, cs, h => by
    obtain ⟨ds, h1, h2⟩ := Qmi vs (o + 1) (w.setCell ⟨b, o, none⟩ v) b t _ (h.set o v); exact ⟨ds, h1, by rw [h2]; simp⟩
theorem Qtj : ∀ (vs : List Value) (o : Nat) (w : World) (b : Nat) (F : Nat -> Prop), F b -> Tn F w (w.setCells b o vs)
  | [], _, w, _, F, _ => Tn.refl F w
  | v :: vs, o, w, b, F, h => ((Tn.refl F w).set b o v h).then (Qtj vs (o + 1) _ b F h)
theorem rcF_one (m : Rm) (h : m.2.1.oneCell' = true /\ m.2.2.oneCell' = true) : ∀ u ∈ (rcF m).toList, u.oneCell' = true := by
  intro u hu; simp only [rcF, rcA, List.mem_cons, List.not_mem_nil, or_false] at hu; rcases hu with rfl | rfl | rfl | rfl | rfl | rfl | rfl | rfl | rfl | rfl | rfl | rfl | rfl | rfl; all_goals first | rfl | exact h.1 | exact h.2
theorem rc_one {w : World} {r : Rec} {va vb : Value} (h : Qhd w r va vb) : va.oneCell' = true /\ vb.oneCell' = true := by
  obtain ⟨⟨a, c, rfl, _⟩, ⟨b, d, rfl, _⟩⟩ := h; exact ⟨rfl, rfl⟩
theorem Qip (ms : List Rm) (m : Rm) (i : Nat) : (ms ++ [m]).getD i rcZ = if i < ms.length then ms.getD i rcZ else if i = ms.length then m else rcZ := by
  by_cases h : i < ms.length
  · rw [if_pos h]; simp only [List.getD_eq_getElem?_getD, List.getElem?_append_left h]
  · rw [if_neg h]
    by_cases e : i = ms.length
    · subst e; rw [if_pos rfl]; simp [List.getD_eq_getElem?_getD]
    · rw [if_neg e]; simp only [List.getD_eq_getElem?_getD]; rw [List.getElem?_eq_none (by rw [List.length_append]; simp; omega)]; rfl
theorem RB.fresh {B : Nat} {w : World} {v : Value} {ms : List Rm} {base n : Nat} (hn : n = ms.length) (hp : 0 < n) (hB : B <= base) (ho : w.ownsRow base 30 14 v n (Qxb ms)) (hg : ∀ m ∈ ms, m.1.fits /\ RcK B w m.1 m.2.1 m.2.2) : ∃ a cap, v = .slice a n cap /\ RB B w a cap ms /\ ∀ k, blk a k -> base <= k := by
  subst hn; have hs := Qph rcF rcZ 14 (fun _ => rfl) ho
  rcases ho.2 with ⟨rfl, h0⟩ | ⟨g, cap, cur, rfl, h1, h2, h3, h4, h5, h6⟩
  · omega
  · obtain ⟨a', cap', e, h7⟩ := hs; injection e with e1 e2 e3; obtain ⟨b, off, h8, _, h9⟩ := h7 hp; rw [<- e1] at h8; injection h8 with h8; injection h8 with h10 h11; subst h10 h11
    exact ⟨_, cap, rfl, ⟨.inr ⟨g, 0, cur, rfl, Nat.le_trans hB h1, h2, by omega, h3, h9⟩, hg⟩, fun k hk => by
      obtain ⟨_, h⟩ := hk; injection h with h; injection h with h
      omega⟩
theorem RB.loose {B : Nat} {w : World} {a : Option Addr} {cap : Nat} {ms : List Rm} (h : RB B w a cap ms) : Qkt B w (blk a) := by
  intro k hk; obtain ⟨off, e⟩ := hk
  rcases h.1 with ⟨h1, _⟩ | ⟨b, off', cs, h1, h2, h3, _⟩
  · rw [h1] at e; cases e
  · rw [h1] at e; injection e with e; injection e with e; subst e; exact ⟨h2, h3.lt, fun t ds hr => by rw [Qma hr h3]; decide⟩
theorem run_push (B : Nat) (w : World) (t ty : TypeId) (ht : Try.prog.underlying t = some (.slice 30)) (a : Option Addr) (cap : Nat) (ms : List Rm) (h : RB B w a cap ms) (m : Rm) (g c : Nat) (hg : Qb w g 30 (rcF m)) (hm : m.1.fits /\ RcK B w m.1 m.2.1 m.2.2) (hB : B <= w.heap.size) (hl : ms.length <= 100000000) :
    ∃ a' cap' w', (Builtin.append_ #[t, t] ty #[.slice a ms.length cap, .slice (some ⟨g, 0, none⟩) 1 c]).run Try.prog w = .ok (.slice a' (ms.length + 1) cap') w' /\ RB B w' a' cap' (ms ++ [m]) /\ Tn (blk a) w w' /\ ∀ k, blk a' k -> blk a k ∨ w.heap.size <= k := by
  obtain ⟨i, hi0, hi1⟩ := Option.map_eq_some_iff.1 Qzj; simp only [Prod.mk.injEq] at hi1; have hone := rcF_one m (rc_one hm.2.rc); have hlen : (rcF m).toList.length = 1 * 14 := rfl
  have hcells : ∀ j u, (rcF m).toList[j]? = some u -> w.cell? ((⟨g, 0, none⟩ : Addr).add j) = some u := fun j u hu => by
    rw [Addr.add_lit, Nat.zero_add]; exact hg.cell j u (by simpa using hu)
  have hz : (Value.agg Qaa).cells.size = 14 := rfl; have flat : Qxb (ms ++ [m]) = Qxb ms ++ (rcF m).toList := by rw [Qji]; simp [Qxb]
  have fresh : ∀ v' w', w'.ownsRow w.heap.size 30 14 v' (ms.length + 1) (Qxb ms ++ (rcF m).toList) -> w.grownBy w' none -> ∃ a' cap', v' = .slice a' (ms.length + 1) cap' /\ RB B w' a' cap' (ms ++ [m]) /\ Tn (blk a) w w' /\ ∀ k, blk a' k -> blk a k ∨ w.heap.size <= k := by
    intro v' w' h1 h2; have hb : Below w.heap.size w w' := ⟨h2.os, h2.tape, h2.output, h2.size, fun k hk => h2.block k hk (by simp)⟩; rw [<- flat] at h1
    obtain ⟨a', cap', rfl, h3, h4⟩ := RB.fresh (by simp) (by omega) hB h1 (fun x hx => by
      rcases List.mem_append.1 hx with hx | hx
      · exact ⟨(h.2 x hx).1, (h.2 x hx).2.later hb⟩
      · rw [List.mem_singleton.1 hx]
        exact ⟨hm.1, hm.2.later hb⟩)
    exact ⟨a', cap', rfl, h3, Tn.of_below hb, fun k hk => .inr (h4 k hk)⟩
  have hold : ∀ b off, a = some ⟨b, off, none⟩ -> ∀ j u, (Qxb ms)[j]? = some u -> w.cell? ((⟨b, off, none⟩ : Addr).add j) = some u := by
    intro b off e j u hu; subst e
    rcases h.1 with ⟨h1, _⟩ | ⟨b', off', cs, h1, _, _, _, _, h6⟩
    · cases h1
    · injection h1 with h1; injection h1 with h1 h7; subst h1 h7
      have hj : j < ms.length * 14 := by
        have := (List.getElem?_eq_some_iff.1 hu).1; rwa [Qxb, Qqg rcF 14 (fun _ => rfl)] at this
      have h4 := Qfj rcF 14 (fun _ => rfl) rcZ ms (j / 14) (j % 14) (by omega) (by omega); rw [show j / 14 * 14 + j % 14 = j by omega] at h4; rw [Addr.add_lit]; have h5 := h6 (j / 14) (by omega) (j % 14) u (by rw [<- h4]; exact hu); rwa [show off + j / 14 * 14 + j % 14 = off + j by omega] at h5
  rcases h.1 with ⟨rfl, rfl, rfl⟩ | ⟨b, off, cs, rfl, h1, h2, h3, h4, h6⟩
  · obtain ⟨v', w', r1, r2, r3, _⟩ := run_append_own (P := Try.prog) w w.heap.size t ty 30 i (.agg Qaa) 14 160 ht hi0 hi1.1 hi1.2.1 hi1.2.2 hz (by omega) (.slice none 0 0) 0 [] (World.ownsRow_nil _ _ _ _) ⟨g, 0, none⟩ 1 c (rcF m).toList hlen hcells hone (by unfold maxLen; omega) (by omega) (Nat.le_refl _); obtain ⟨a', cap', rfl, q⟩ := fresh v' w' r2 r3; exact ⟨a', cap', w', r1, q⟩
  · by_cases hr : ms.length + 1 <= cap
    · have hc : ∀ j, j < (rcF m).toList.length -> (w.cell? ⟨b, off + ms.length * i.size + j, none⟩).isSome = true := fun j hj => by
        have hj14 : j < 14 := hj; rw [hi1.2.1, cell_of_row _ _ _ _ _ _ h2, Array.getElem?_eq_getElem (by omega)]; rfl
      have r1 := run_append_room_cells (P := Try.prog) w t ty 30 i ht hi0 b off ms.length cap ⟨g, 0, none⟩ 1 c (rcF m).toList (by rw [hlen, hi1.2.1]) hcells hone hr hc (fun j _ => h2.free _); rw [hi1.2.1] at r1 hc; obtain ⟨ds, hd1, hd2⟩ := Qmi (rcF m).toList (off + ms.length * 14) w b 30 cs h2; have hT := Qtj (rcF m).toList (off + ms.length * 14) w b (blk (some ⟨b, off, none⟩)) ⟨off, rfl⟩; have hL := h.loose
      refine ⟨_, _, _, r1, ⟨.inr ⟨b, off, ds, rfl, h1, hd1, by omega, by rw [List.length_append]; simpa using hr, fun k hk => ?_⟩, fun x hx => ?_⟩, hT, fun k hk => .inl hk⟩
      · rw [List.length_append, List.length_singleton] at hk; intro j u hu; have hj14 : j < 14 := (List.getElem?_eq_some_iff.1 hu).1
        by_cases e : k < ms.length
        · rw [Qip, if_pos e] at hu; rw [World.cell?_setCells_out b _ _ w _ (fun _ _ => .inl (by show off + k * 14 + j < off + ms.length * 14; omega))]; exact h6 k e j u hu
        · obtain rfl : k = ms.length := by omega
          rw [Qip, if_neg e, if_pos rfl] at hu; have h9 := World.cell?_setCells_in b (rcF m).toList (off + ms.length * 14) w hc j hj14; rw [h9]; rw [List.getElem?_eq_getElem hj14] at hu; exact hu
      · rcases List.mem_append.1 hx with hx | hx
        · exact ⟨(h.2 x hx).1, (h.2 x hx).2.keep hL hT⟩
        · rw [List.mem_singleton.1 hx]; exact ⟨hm.1, hm.2.keep hL hT⟩
    · obtain ⟨v', w', r1, r2, r3⟩ := run_append_arg_grows (P := Try.prog) w t ty 30 i (.agg Qaa) 14 160 ht hi0 hi1.1 hi1.2.1 hi1.2.2 hz (by omega) ⟨b, off, none⟩ ms.length cap (Qxb ms) (by rw [Qxb, Qqg rcF 14 (fun _ => rfl)]) (hold b off rfl) ⟨g, 0, none⟩ 1 c (rcF m).toList hlen hcells (by omega) (by unfold maxLen; omega) (by omega); obtain ⟨a', cap', rfl, q⟩ := fresh v' w' r2 r3; exact ⟨a', cap', w', r1, q⟩
theorem grown_setL (w : World) (b : Nat) (v : Value) : w.grownBy (w.setCell ⟨b, 0, none⟩ v) (some b) :=
  ⟨rfl, rfl, rfl, by simp, fun k _ hk => heap_setCell_other w ⟨b, 0, none⟩ k v (fun e => hk (by simp [e]))⟩
theorem grown_reflL (w : World) (b : Nat) : w.grownBy w (some b) := ⟨rfl, rfl, rfl, Nat.le_refl _, fun _ _ _ => rfl⟩
theorem full_iff (n f : Nat) (s : Bool) : full n f s = true ↔ (Qzi <= max n f ∨ (s = false /\ topL <= max n f)) := by
  cases s <;> simp [full]
theorem wrap_up (n : Nat) (h : n < 4611686018427387904) : IntKind.u64.wrap ((n : Int) + 1) = ((n + 1 : Nat) : Int) := by
  simp only [IntKind.wrap, IntKind.bits, IntKind.signed]; simp; omega
theorem full_top (n f : Nat) (s : Bool) : full n f s = true ↔ (if s then Qzi else topL) <= max n f := by
  rw [full_iff]
  cases s
  · simp only [Qzi, topL, true_and, Bool.false_eq_true, if_false]; omega
  · simp [Qzi]
end Go.Proofs.Ytohdmmfmjadipaa
