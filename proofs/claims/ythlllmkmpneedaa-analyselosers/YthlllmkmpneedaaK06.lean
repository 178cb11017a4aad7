/-
  Texts that lean on one another, one behind the other: each opens with its own remark.
-/
import Derived.Laws.Cover3
import Derived.Test.YthlllmkmpneedaaProg
import Derived.ArgAppend
import Derived.Laws.IdiomCopy
import Derived.Lib.SliceRun
import Derived.Deep.RegionLaw
import Derived.Test.YthlllmkmpneedaaK03
import Derived.Test.YthlllmkmpneedaaK05
import Derived.Test.YthlllmkmpneedaaK04
import Derived.Test.YthlllmkmpneedaaK00

namespace Go.Proofs.Ythlllmkmpneedaa
open Go.RowKit
set_option linter.unusedVariables false
set_option maxRecDepth 8000
set_option maxHeartbeats 25600000
theorem find_lt {l : List Rec} {n j : Nat} (h : ∀ i, i < j -> (l.getD i Rec.zero).l ≠ n) (hj : j < l.length) (he : (l.getD j Rec.zero).l = n) : Qpu l n = some (l.getD j Rec.zero) := by
  unfold Qpu; rw [List.find?_eq_some_iff_getElem]
  refine ⟨by simpa using he, j, hj, ?_, fun i hi => ?_⟩
  · rw [List.getD_eq_getElem?_getD, List.getElem?_eq_getElem hj]; rfl
  · have h1 := h i hi; rw [List.getD_eq_getElem?_getD, List.getElem?_eq_getElem (by omega)] at h1; simpa using h1
theorem find_all {l : List Rec} {n : Nat} (h : ∀ i, i < l.length -> (l.getD i Rec.zero).l ≠ n) : Qpu l n = none := by
  refine Qzs fun r hr => ?_
  obtain ⟨i, hi, rfl⟩ := List.mem_iff_getElem.1 hr; have := h i hi; rwa [List.getD_eq_getElem?_getD, List.getElem?_eq_getElem hi] at this
def GetAns15 (l : List Rec) (n : Nat) (w : World) (e : Ending) (w' : World) : Prop := ∃ (m : Rec × Value × Value) (q : Bool), e = .returned (.tuple #[.agg (rcF m), .bool q]) /\ ((q = true /\ Qpu l n = some m.1) ∨ (q = false /\ Qpu l n = none /\ m.1 = Rec.zero)) /\ m.1.fits /\ Qcd w' m.1 m.2.1 m.2.2 /\ Below w.heap.size w w'
theorem zero_in15 (w : World) : Qcd w Rec.zero (.slice none 0 0) (.slice none 0 0) := ⟨⟨none, 0, rfl, fun h => absurd h (by simp [Rec.zero])⟩, ⟨none, 0, rfl, fun h => absurd h (by simp [Rec.zero])⟩⟩
theorem Qxm : Rec.zero.fits := ⟨⟨by decide, by decide, by decide, by show (0 : Nat) <= maxLen; omega, by show (0 : Nat) <= maxLen; omega⟩, Nat.zero_le _, Nat.zero_le _, fun x hx => (nomatch hx), fun x hx => (nomatch hx)⟩
theorem rget15 (v : Value) (ms : List (Rec × Value × Value)) (n : Nat) (w : World) (h : LogIn w v ms) :
    Calls Try.prog 39 #[v, .int .u64 (n : Int)] w (GetAns15 (msR ms) n w) := by
  have hb0 : Below w.heap.size w (w.alloc (.cells Qya 46)) := (Below.refl _ _).alloc (Nat.le_refl _) _; obtain ⟨gR, hgR⟩ : ∃ g, g = w.heap.size := ⟨_, rfl⟩
  have H0 : Hid (Qb (w.alloc (.cells Qya 46)) gR 46 Qya /\ Below w.heap.size w (w.alloc (.cells Qya 46))) := by
    rw [hgR]; exact ⟨Qb.new w _ _, hb0⟩
  clear hb0; have HA := Qc h; obtain ⟨aa, ca, rfl, hlc⟩ := h.slice; have hl := h.few; clear h; obtain ⟨ln, hln⟩ : ∃ ln, ln = ms.length := ⟨_, rfl⟩; rw [<- hln] at HA hl hlc |-; have HN := Qc hln; clear hln; have HGR := Qc hgR; go_enter Try.func39, Try.ntmps39; go_wp2; refine Qde (fun x => Qb x gR 46 Qya /\ Below w.heap.size w x) H0.out ?_; intro y HY; have HYY := Qc HY; clear HY H0; rw [<- hgR]; clear hgR; go_loopw [9] (fun i wr => ∃ (j : Nat), j <= ln /\ i = .int .i64 (j : Int) /\ Hid (∀ k, k < j -> ((msR ms).getD k Rec.zero).l ≠ n) /\ Hid (Qb wr gR 46 Qya /\ Below w.heap.size w wr)) (fun i _ => ln - (intOf i).toNat)
  case atStart => exact ⟨0, Nat.zero_le _, rfl, fun k hk => absurd hk (by omega), HYY.out⟩
  case round =>
    obtain ⟨j, hj, rfl, HNO, HBR⟩ := hrel
    by_cases hlt : j < ln
    · have hjm : j < ms.length := by rw [<- HN.out]; exact hlt
      obtain ⟨b, off, rfl, hf, he, hx⟩ := HA.out.mid hjm; obtain ⟨m, hm⟩ : ∃ m, m = ms.getD j rcZ := ⟨_, rfl⟩; rw [<- hm] at hf hx he; clear hm; have ij : (j : Int) < (ln : Int) := by omega
      obtain ⟨hr0, hin⟩ := hx wr HBR.out.2; have c1 : wr.cell? ⟨b, off + j * 14 + 1, none⟩ = some (.int .u64 (m.1.l : Int)) := hr0 1 _ rfl; have HLD := Qc (Qug wr b (off + j * 14) m hr0); have hall := Qzz hin; have HE := Qc he; have HF := Qc (And.intro hf hx); clear hr0 hx hf he hin
      by_cases hn : m.1.l = n
      · have ibe : ((m.1.l : Int) == (n : Int)) = true := by rw [hn]; simp
        go_wp2_with (first | (refine Qo rfl 46 (.tmp 21) rfl _ _ rfl HLD.out ?_) | (refine Qe rfl 46 (.tmp 4) (.tmp 22) rfl gR Qya (rcF m) rfl rfl HBR.out.1 Qia rfl hall ?_; intro w2 hr2 hk2 hrow2; refine Qz ?_)); have hb2 := hk2 _ _ HBR.out.2 (by rw [HGR.out]; exact Nat.le_refl _); have H2 := Qc (And.intro hr2 hb2); clear hr2 hk2 hrow2 hb2; refine Qf ?_; go_wp2; refine bodyPost_ret (Qcc rfl _ _ gR (rcF m) _ rfl H2.out.1 Try.underlying46 rfl Qia) rfl ⟨m, true, rfl, .inl ⟨rfl, ?_⟩, HF.out.1, (HF.out.2 w2 H2.out.2).2, H2.out.2⟩; rw [find_lt (j := j) HNO.out (by rw [Qeb]; exact hjm) (by rw [<- HE.out]; exact hn), <- HE.out]
      · have ibe : ((m.1.l : Int) == (n : Int)) = false := by simp; omega
        go_wp2; go_roundw
        case rel =>
          refine ⟨j + 1, by omega, by go_num, fun k hk => ?_, HBR⟩
          by_cases hkj : k < j
          · exact HNO.out k hkj
          · obtain rfl : k = j := by omega
            rw [<- HE.out]; exact hn
        case measure => simp [intOf]; omega
    · obtain rfl : j = ln := by omega
      go_wp2_with (refine Qe rfl 46 (.tmp 4) (.tmp 24) rfl gR Qya Qya rfl rfl HBR.out.1 Qia rfl (by simp [Qya, Value.oneCell']) ?_; intro w2 hr2 hk2 hrow2; refine Qz ?_); have hb2 := hk2 _ _ HBR.out.2 (by rw [HGR.out]; exact Nat.le_refl _); have H2 := Qc (And.intro hr2 hb2); clear hr2 hk2 hrow2 hb2; refine Qf ?_; go_wp2; refine bodyPost_ret (Qcc rfl _ _ gR Qya _ rfl H2.out.1 Try.underlying46 rfl Qia) rfl ⟨rcZ, false, rfl, .inr ⟨rfl, ?_, rfl⟩, Qxm, zero_in15 _, H2.out.2⟩; refine find_all fun i hi => HNO.out i ?_
      rw [Qeb] at hi; rw [HN.out]; exact hi
theorem Qnm {x : World} {g : Nat} {m : Rec × Value × Value} (h : Qb x g 46 (rcF m)) : x.cell? ⟨g, 0, none⟩ = some (.int .i64 m.1.k) /\ x.cell? ⟨g, 2, none⟩ = some (.int .i64 m.1.t) /\ x.cell? ⟨g, 3, none⟩ = some (.int .u64 (m.1.p : Int)) /\ x.cell? ⟨g, 9, none⟩ = some (.int .u64 (m.1.n : Int)) := ⟨h.cell 0 _ rfl, h.cell 2 _ rfl, h.cell 3 _ rfl, h.cell 9 _ rfl⟩
theorem got15 {l : List Rec} {n : Nat} {m : Rec} (hl : Qmb 0 l) (h : Qpu l n = some m) : m ∈ l /\ m.l = n := by
  rcases Qup l n with ⟨h1, _⟩ | ⟨r, h1, h2, h3⟩
  · rw [h1] at h; cases h
  · rw [h3] at h; injection h with h; subst h; exact ⟨h1, h2⟩
theorem gone15 {l : List Rec} {n : Nat} (h : Qpu l n = none) : ∀ r ∈ l, r.l ≠ n := by
  rcases Qup l n with ⟨_, h1⟩ | ⟨r, _, _, h3⟩
  · exact h1
  · rw [h3] at h; cases h
theorem Qes (v : Value) (ms : List (Rec × Value × Value)) (hr : Qmb 0 (msR ms)) (n : Nat) (w : World) (h : LogIn w v ms)
    (ih : ∀ (k : Nat) (x : World), k < n -> LogIn x v ms -> Calls Try.prog 28 #[v, .int .u64 (k : Int)] x fun e w' => e = .returned (.int .u64 (Qcb (msR ms) k : Int)) /\ Below x.heap.size x w') :
    Calls Try.prog 28 #[v, .int .u64 (n : Int)] w fun e w' => e = .returned (.int .u64 (Qcb (msR ms) n : Int)) /\ Below w.heap.size w w' := by
  have HIH := Qc ih; have HR := Qc hr; have HA := Qc h; obtain ⟨q, hq⟩ : ∃ q, q = Qcb (msR ms) n := ⟨_, rfl⟩; have HQ := Qc hq; rw [<- hq]; have HG := Qc (rget15 v ms n w h); clear h hr ih hq; go_enter Try.func28, Try.ntmps28; go_wp2_with fail; refine HG.out.mono ?_; rintro e w1 ⟨m, f, rfl, hcase, hfit, hin, hb1⟩; have hall := Qzz hin; have hb2 : Below w1.heap.size w1 (w1.alloc (.cells Qya 46)) := (Below.refl _ _).alloc (Nat.le_refl _) _; have HZ := Qc (And.intro (Qb.new w1 46 Qya) (hb1.trans (hb2.mono hb1.size))); have HC := Qc hcase; have HSZ := Qc hb1.size; clear hcase hfit hin hb1 hb2 HG; go_wp2_with (refine Qe rfl 46 (.tmp 5) (.tmp 11) rfl w1.heap.size Qya (rcF m) rfl rfl HZ.out.1 Qia rfl hall ?_; intro w2 hr2 hk2 hrow2; refine Qz ?_); have hb2 := hk2 _ _ HZ.out.2 HSZ.out; have H2 := Qc (And.intro hr2 hb2); obtain ⟨c0, c2, c3, c9⟩ := Qnm hr2; clear hr2 hk2 hrow2 hb2 HZ; refine Qf ?_
  cases f with
  | false =>
    go_wp2; go_ret; refine ⟨?_, H2.out.2⟩
    rcases HC.out with ⟨h1, _⟩ | ⟨_, h1, _⟩
    · cases h1
    · rw [HQ.out, Qtp (gone15 h1)]; rfl
  | true =>
    have hmem : m.1 ∈ msR ms /\ m.1.l = n := by
      rcases HC.out with ⟨_, h1⟩ | ⟨h1, _⟩
      · exact got15 HR.out h1
      · cases h1
    have hmR := Qka _ 0 HR.out _ hmem.1; have HST := Qc (show Qcb (msR ms) m.1.l = Qdu (msR ms) m.1 from Qlk HR.out hmem.1); have hlp := Qfe hmR; have hln2 := Qng hmR; rw [hmem.2] at HST hlp hln2; have HJ := Qc hmem.2; clear hmem hmR
    by_cases k1 : m.1.k = 1
    · go_wp2; go_ret; refine ⟨?_, H2.out.2⟩; rw [HQ.out, HST.out, Qdu, if_pos k1, HJ.out]; rfl
    · by_cases k2 : m.1.k = 2
      · have HN := Qc (HIH.out m.1.n w2 hln2 (HA.out.below H2.out.2)); go_wp2_with fail; refine HN.out.mono ?_; rintro e w3 ⟨rfl, hb3⟩; have HB3 := Qc (H2.out.2.trans (hb3.mono H2.out.2.size)); clear hb3 HN; go_wp2; go_ret; refine ⟨?_, HB3.out⟩; rw [HQ.out, HST.out, Qdu, if_neg k1, if_pos k2]; rfl
      · have HN := Qc (HIH.out m.1.p w2 hlp (HA.out.below H2.out.2)); go_wp2_with fail; refine HN.out.mono ?_; rintro e w3 ⟨rfl, hb3⟩; have HB3 := Qc (H2.out.2.trans (hb3.mono H2.out.2.size)); clear hb3 HN; go_wp2; go_ret; refine ⟨?_, HB3.out⟩; rw [HQ.out, HST.out, Qdu, if_neg k1, if_neg k2]; rfl
theorem rnext15 (v : Value) (ms : List (Rec × Value × Value)) (hr : Qmb 0 (msR ms)) (n : Nat) (w : World) (h : LogIn w v ms) :
    Calls Try.prog 28 #[v, .int .u64 (n : Int)] w fun e w' => e = .returned (.int .u64 (Qcb (msR ms) n : Int)) /\ Below w.heap.size w w' := by
  induction n using Nat.strongRecOn generalizing w with
  | ind n ih => exact Qes v ms hr n w h (fun k x hk hx => ih k hk x hx)
theorem load_chz (y : World) (g : Nat) (m : Rec × Value × Value) (h : Qb y g 46 (rcF m)) : (Instr.loadAt 44 (.pointer (some ⟨g, 4, none⟩))).run Try.prog y = .ok (.agg (chA m.1.c)) y := by
  have h1 := Qqx y g 0 m (fun j u hu => by rw [Nat.zero_add]; exact h.cell j u (by simpa using hu)); rwa [Nat.zero_add] at h1
theorem rclr15 (v : Value) (ms : List (Rec × Value × Value)) (n : Nat) (w : World) (h : LogIn w v ms) (hr : Qmb 0 (msR ms)) :
    Calls Try.prog 76 #[v, .int .u64 (n : Int)] w fun e w' => e = .returned (.tuple #[.agg (rcF (clrA (msR ms) n).1), .int .i64 (clrA (msR ms) n).2]) /\ Below w.heap.size w w' := by
  have hb0 : Below w.heap.size w (w.alloc (.cells Qya 46)) := (Below.refl _ _).alloc (Nat.le_refl _) _; obtain ⟨gR, hgR⟩ : ∃ g, g = w.heap.size := ⟨_, rfl⟩
  have H0 : Hid (Qb (w.alloc (.cells Qya 46)) gR 46 Qya /\ Below w.heap.size w (w.alloc (.cells Qya 46))) := by
    rw [hgR]; exact ⟨Qb.new w _ _, hb0⟩
  clear hb0; have hall0 : Qya.all (·.oneCell') = true := by simp [Qya, Value.oneCell']
  have HG := Qc (fun x (hx : Below w.heap.size w x) => rget15 v ms n x (h.below hx)); have HNX := Qc (fun x k (hb : Below w.heap.size w x) => rnext15 v ms hr k x (h.below hb)); have HR := Qc hr; have HGR := Qc hgR; clear h hr; obtain ⟨A, hA⟩ : ∃ A, A = clrA (msR ms) n := ⟨_, rfl⟩; rw [<- hA]; have HA := Qc hA; clear hA; go_enter Try.func76, Try.ntmps76; go_wp2_with fail; rw [<- hgR]; refine Qwa (fun x => Qb x gR 46 Qya /\ Below w.heap.size w x) H0.out ?_; intro y HY; have HYY := Qc HY; clear HY H0 hgR; refine (HG.out y HYY.out.2).mono ?_; rintro e w1 ⟨m, f, rfl, hcase, hfit, hin, hb1⟩; have hall := Qzz hin; have hb2 : Below w1.heap.size w1 (w1.alloc (.cells Qya 46)) := (Below.refl _ _).alloc (Nat.le_refl _) _; obtain ⟨gM, hgM⟩ : ∃ g, g = w1.heap.size := ⟨_, rfl⟩
  have HZ : Hid (Qb (w1.alloc (.cells Qya 46)) gM 46 Qya /\ Qb (w1.alloc (.cells Qya 46)) gR 46 Qya /\ Below w.heap.size w (w1.alloc (.cells Qya 46)) /\ w.heap.size <= gM /\ gR ≠ gM) := by
    have a1 := HYY.out.1.later hb1; have a2 := HYY.out.2.trans (hb1.mono HYY.out.2.size); rw [hgM]; exact ⟨Qb.new w1 _ _, a1.later hb2, a2.trans (hb2.mono a2.size), a2.size, Nat.ne_of_lt a1.lt⟩
  have HC := Qc hcase; have HGM := Qc hgM; clear hcase hfit hin hb1 hb2 HG HYY hgM; go_wp2_with (refine Qe rfl 46 (.tmp 6) (.tmp 14) rfl gM Qya (rcF m) ?h1 rfl HZ.out.1 Qia rfl hall ?_; (case h1 => rw [HGM.out]; rfl); intro w2 hr2 hk2 hrow2; refine Qz ?_); have hb2 := hk2 _ _ HZ.out.2.2.1 HZ.out.2.2.2.1; have H2 : Hid (Qb w2 gM 46 (rcF m) /\ Qb w2 gR 46 Qya /\ Below w.heap.size w w2 /\ gR ≠ gM) := ⟨hr2, hrow2 gR _ _ HZ.out.2.2.2.2 HZ.out.2.1, hb2, HZ.out.2.2.2.2⟩; obtain ⟨c0, c2, c3, c9⟩ := Qnm hr2; clear hr2 hk2 hrow2 hb2 HZ; rw [HGM.out] at c0 c2 c3 c9; refine Qf ?_
  cases f with
  | false =>
    have HE : Hid (A = (rcZ, 5)) := by
      rcases HC.out with ⟨h1, _⟩ | ⟨_, h1, _⟩
      · cases h1
      · show A = _; rw [HA.out]; exact clrA_none (gone15 h1)
    go_wp2_with (refine Qe rfl 46 (.tmp 4) (.tmp 23) rfl gR Qya Qya ?h1 rfl H2.out.2.1 Qia rfl hall0 ?_; (case h1 => rw [HGR.out]; rfl); intro w4 hr4 hk4 hrow4; refine Qz ?_); have hb4 := hk4 _ _ H2.out.2.2.1 (by rw [HGR.out]; exact Nat.le_refl _); have H4 := Qc (And.intro hr4 hb4); clear hr4 hk4 hrow4 hb4 H2 c0 c2 c3 c9; refine Qf ?_; go_wp2; refine bodyPost_ret (Qcc rfl _ _ gR _ _ ?hp H4.out.1 Try.underlying46 rfl Qia) rfl ⟨?_, H4.out.2⟩; (case hp => rw [HGR.out]; rfl); rw [HE.out]; rfl
  | true =>
    have hmem : m.1 ∈ msR ms /\ m.1.l = n := by
      rcases HC.out with ⟨_, h1⟩ | ⟨h1, _⟩
      · exact got15 HR.out h1
      · cases h1
    by_cases hk : m.1.k = 1
    · have HE : Hid (A = (clrM (msR ms) m.1, 0)) := by
        show A = _; rw [HA.out, <- hmem.2]; exact Qny HR.out hmem.1 hk
      have HI := Qc (fun w => rinv_any m.1.c w); clear hmem HC; go_wp2_with (refine Qo rfl 44 (.tmp 25) rfl _ (.agg (chA m.1.c)) rfl (by rw [<- HGM.out]; exact load_chz w2 gM m H2.out.1) ?_); refine (HI.out w2).mono ?_; rintro e w3 ⟨rfl, hb3⟩; have H3 : Hid (Qb w3 gM 46 (rcF m) /\ Qb w3 gR 46 Qya /\ Below w.heap.size w w3 /\ gR ≠ gM) := ⟨H2.out.1.later hb3, H2.out.2.1.later hb3, H2.out.2.2.1.trans (hb3.mono H2.out.2.2.1.size), H2.out.2.2.2⟩; clear hb3 H2 HI c0 c2 c3 c9; obtain ⟨c, hc⟩ : ∃ c, c = Qfh m.1.c := ⟨_, rfl⟩; rw [<- hc]; have HCC := Qc hc; clear hc; have hb4 : Below w3.heap.size w3 (w3.alloc (.cells (chA Ch.zero) 44)) := (Below.refl _ _).alloc (Nat.le_refl _) _; obtain ⟨gC, hgC⟩ : ∃ g, g = w3.heap.size := ⟨_, rfl⟩
      have HZ : Hid (Qb (w3.alloc (.cells (chA Ch.zero) 44)) gC 44 (chA Ch.zero) /\ Qb (w3.alloc (.cells (chA Ch.zero) 44)) gR 46 Qya /\ Qb (w3.alloc (.cells (chA Ch.zero) 44)) gM 46 (rcF m) /\ Below w.heap.size w (w3.alloc (.cells (chA Ch.zero) 44)) /\ w.heap.size <= gC) := by
        rw [hgC]; exact ⟨Qb.new w3 _ _, H3.out.2.1.later hb4, H3.out.1.later hb4, H3.out.2.2.1.trans (hb4.mono H3.out.2.2.1.size), H3.out.2.2.1.size⟩
      have HGC := Qc hgC; have HNE := Qc H3.out.2.2.2; clear hb4 hgC H3; go_wp2_with (refine Qe rfl 44 (.tmp 8) (.tmp 28) rfl gC (chA Ch.zero) (chA c) ?h1 rfl HZ.out.1 Qja rfl (Qyb _) ?_; (case h1 => rw [HGC.out]; rfl); intro w4 hr4 hk4 hrow4; refine Qz ?_); have hb4 := hk4 _ _ HZ.out.2.2.2.1 HZ.out.2.2.2.2
      have H4 : Hid (Qb w4 gC 44 (chA c) /\ Qb w4 gR 46 Qya /\ Qb w4 gM 46 (rcF m) /\ Below w.heap.size w w4 /\ gC ≠ gR) := by
        have hne : gR ≠ gC := fun e => by
          have h1 := HZ.out.1; rw [<- e] at h1; exact absurd (Qbb h1 HZ.out.2.1) (by decide)
        have hne2 : gM ≠ gC := fun e => by
          have h1 := HZ.out.1; rw [<- e] at h1; exact absurd (Qbb h1 HZ.out.2.2.1) (by decide)
        exact ⟨hr4, hrow4 gR _ _ hne HZ.out.2.1, hrow4 gM _ _ hne2 HZ.out.2.2.1, hb4, fun e => hne e.symm⟩
      clear hr4 hk4 hrow4 hb4 HZ; refine Qf ?_; go_wp2_with fail; rw [<- HGC.out, <- HGM.out]; have HD : Hid (Qb w4.drew gC 44 (chA c) /\ Qb w4.drew gR 46 Qya /\ Qb w4.drew gM 46 (rcF m) /\ Below w.heap.size w w4.drew) := Qc ⟨H4.out.1, H4.out.2.1, H4.out.2.2.1, Qt H4.out.2.2.2.1 1⟩; have HGO := Qc H4.out.2.2.2.2; clear H4; refine wp_region_noPanic ?_; refine wp_region_held_drew (S := fun z => Qb z gC 44 (chA c) /\ Qb z gM 46 (rcF m)) (by kernel_rfl) (⟨HD.out.1, HD.out.2.2.1⟩) (fun hHeld => ?_); refine tkq 0 (some 30) (.pointer (some ⟨gM, 2, none⟩)) hHeld ?_; (try simp only [Act.put, List.setIfInBounds_toArray, List.set]); refine tkk 1 (some 31) (.int .i64 m.1.t) rfl rfl (by kernel_rfl) (by kernel_rfl) (fun x hSx => by have h := (Qnm hSx.2).2.1; go_simp) hHeld ?_; (try simp only [Act.put, List.setIfInBounds_toArray, List.set]); refine Qa 2 (some 32) (.agg #[.int .i64 c.k, .int .i64 c.pg, .int .i64 c.sl, .string c.o, .string c.n]) rfl rfl (by kernel_rfl) (by kernel_rfl) (by kernel_rfl) (fun _ _ _ h => h) (Qr (by kernel_rfl) 44 _ rfl (.pointer (some ⟨gC, 0, none⟩)) rfl _ (fun x hSx => load_ch15 x gC c hSx.1)) hHeld ?_; (try simp only [Act.put, List.setIfInBounds_toArray, List.set]); refine tkq 3 (some 33) v hHeld ?_; (try simp only [Act.put, List.setIfInBounds_toArray, List.set]); refine tkq 4 (some 34) (.pointer (some ⟨gM, 3, none⟩)) hHeld ?_; (try simp only [Act.put, List.setIfInBounds_toArray, List.set]); refine tkk 5 (some 35) (.int .u64 (m.1.p : Int)) rfl rfl (by kernel_rfl) (by kernel_rfl) (fun x hSx => by have h := (Qnm hSx.2).2.2.1; go_simp) hHeld ?_; (try simp only [Act.put, List.setIfInBounds_toArray, List.set]); refine Qh 6 (by kernel_rfl) ?_; refine Qca (some 36) rfl rfl rfl 28 #[v, .int .u64 (m.1.p : Int)] ?he ((HNX.out _ m.1.p HD.out.2.2.2).mono ?_); (case he => go_simp); rintro e w5 ⟨rfl, hb5⟩; have H5 : Hid (Qb w5 gC 44 (chA c) /\ Qb w5 gR 46 Qya /\ Qb w5 gM 46 (rcF m) /\ Below w.heap.size w w5) := Qc ⟨HD.out.1.later hb5, HD.out.2.1.later hb5, HD.out.2.2.1.later hb5, HD.out.2.2.2.trans (hb5.mono HD.out.2.2.2.size)⟩; obtain ⟨q, hq⟩ : ∃ q, q = Qcb (msR ms) m.1.p := ⟨_, rfl⟩; rw [<- hq]; have HQ := Qc hq; clear hb5 hq; refine ⟨_, rfl, ⟨H5.out.1, H5.out.2.2.1⟩, ?_⟩; (try simp only [Act.put, List.setIfInBounds_toArray, List.set]); have hHeld := (show Qb w5 gC 44 (chA c) /\ Qb w5 gM 46 (rcF m) from ⟨H5.out.1, H5.out.2.2.1⟩); refine tkq 7 (some 37) (.agg #[.int .i64 2, .int .u64 0, .int .i64 m.1.t, .int .u64 0, .int .i64 c.k, .int .i64 c.pg, .int .i64 c.sl, .string c.o, .string c.n, .int .u64 (q : Int), .int .i64 0, .int .u64 0, .slice none 0 0, .slice none 0 0]) hHeld ?_
      (try simp only [Act.put, List.setIfInBounds_toArray, List.set])
      refine Qh 8 (by kernel_rfl) ?_; refine Qba rfl rfl rfl 46 (.tmp 4) (.tmp 37) rfl gR 0 46 Qya #[.int .i64 2, .int .u64 0, .int .i64 m.1.t, .int .u64 0, .int .i64 c.k, .int .i64 c.pg, .int .i64 c.sl, .string c.o, .string c.n, .int .u64 (q : Int), .int .i64 0, .int .u64 0, .slice none 0 0, .slice none 0 0] ?hp rfl H5.out.2.1 Qia (by simp [Qya]) (by simp [Value.oneCell']) ?_; (case hp => rw [HGR.out]; rfl); intro w6 hr6 ho6; have hpa := Qu Qya #[.int .i64 2, .int .u64 0, .int .i64 m.1.t, .int .u64 0, .int .i64 c.k, .int .i64 c.pg, .int .i64 c.sl, .string c.o, .string c.n, .int .u64 (q : Int), .int .i64 0, .int .u64 0, .slice none 0 0, .slice none 0 0] rfl; rw [hpa] at hr6; have H6 : Hid (Qb w6 gR 46 #[.int .i64 2, .int .u64 0, .int .i64 m.1.t, .int .u64 0, .int .i64 c.k, .int .i64 c.pg, .int .i64 c.sl, .string c.o, .string c.n, .int .u64 (q : Int), .int .i64 0, .int .u64 0, .slice none 0 0, .slice none 0 0] /\ Below w.heap.size w w6) := Qc ⟨hr6, ho6.below H5.out.2.2.2 (by rw [HGR.out]; exact Nat.le_refl _)⟩; refine ⟨⟨ho6.row H5.out.1 HGO.out, ho6.row H5.out.2.2.1 (fun e => HNE.out e.symm)⟩, ?_⟩; have hHeld := (show Qb w6 gC 44 (chA c) /\ Qb w6 gM 46 (rcF m) from ⟨ho6.row H5.out.1 HGO.out, ho6.row H5.out.2.2.1 (fun e => HNE.out e.symm)⟩); clear hr6 ho6; (try simp only [Act.put, List.setIfInBounds_toArray, List.set]); refine tkq 9 (some 5) (.int .i64 0) hHeld ?_; (try simp only [Act.put, List.setIfInBounds_toArray, List.set]); refine wpAnyH_done (by kernel_rfl) ?_ _; refine NoPanic.normal ?_; go_wp2; refine bodyPost_ret (Qcc rfl _ _ gR _ _ ?hp H6.out.1 Try.underlying46 rfl Qia) rfl ⟨?_, H6.out.2⟩; (case hp => rw [HGR.out]; rfl); rw [HE.out, HQ.out, HCC.out]; rfl
    · have HE : Hid (A = (rcZ, 5)) := by
        show A = _; rw [HA.out, <- hmem.2]; exact clrA_no HR.out hmem.1 hk
      clear hmem HC; go_wp2_with (refine Qe rfl 46 (.tmp 4) (.tmp 23) rfl gR Qya Qya ?h1 rfl H2.out.2.1 Qia rfl hall0 ?_; (case h1 => rw [HGR.out]; rfl); intro w4 hr4 hk4 hrow4; refine Qz ?_); have hb4 := hk4 _ _ H2.out.2.2.1 (by rw [HGR.out]; exact Nat.le_refl _); have H4 := Qc (And.intro hr4 hb4); clear hr4 hk4 hrow4 hb4 H2 c0 c2 c3 c9; refine Qf ?_; go_wp2; refine bodyPost_ret (Qcc rfl _ _ gR _ _ ?hp H4.out.1 Try.underlying46 rfl Qia) rfl ⟨?_, H4.out.2⟩; (case hp => rw [HGR.out]; rfl); rw [HE.out]; rfl
theorem Qud {w z : World} {b j : Nat} {v : Value} (h : w.cell? ⟨b, j, none⟩ = some v) (hb : Below w.heap.size w z) : z.cell? ⟨b, j, none⟩ = some v :=
  (World.cell?_of_block (a := ⟨b, j, none⟩) (hb.block b (World.block_lt_of_cell? w _ h))).trans h
theorem HB.logs {w : World} {B g n : Nat} {F : Nat -> Prop} {h : Hs} (H : HB w B g F h) (hn : n < 3) (hl : (h.lg n).length <= 900) : ∃ gl a c, w.cell? ⟨g, 0, none⟩ = some (.slice (some ⟨gl, 0, none⟩) 3 3) /\ w.cell? ⟨gl, n, none⟩ = some (.slice a (h.lg n).length c) /\ LogIn w (.slice a (h.lg n).length c) (Qfd (h.lg n)) := by
  obtain ⟨x, HX, _⟩ := H; obtain ⟨a, c, hv⟩ := Qbd (HX.lown n hn).1; refine ⟨x.gl, a, c, HX.blk.cell _ _ HX.cells.c0, by rw [<- hv]; exact HX.lrow.cell _ _ (HX.lat n hn), ?_⟩; rw [<- hv]; exact (HX.lown n hn).log (by omega)
theorem hback15 (w : World) (B g n i o : Nat) (F : Nat -> Prop) (h : Hs) (H : HB w B g F h) (hn : n < 3) (hi : i < 9) (ho : o = 9 + i * 4) (hw : h.few) (hr : Qmb 0 (h.lg n)) (hc : ∀ r ∈ h.lg n, r.k = 1 -> r.c.pg < 4) (hx : (h.tx i).next ≠ 0 -> ∃ r ∈ h.lg n, r.l = (h.tx i).next /\ r.k = 1) :
    Calls Try.prog 60 #[.pointer (some ⟨g, 0, none⟩), .int .i64 (n : Int), .pointer (some ⟨g, o, none⟩)] w fun e w' => ∃ F', e = .returned (.tuple #[]) /\ HB w' B g F' (h.back n i) /\ Qk F F' w w' := by
  have HH := Qc H; have HO := Qc ho; have HW := Qc hw; obtain ⟨-, t1, -, t3⟩ := H.tu hi ho; have i3 : (n : Int) < 3 := by omega
  have HBK : Hid (h.back n i = if (h.tx i).next = 0 ∨ ((h.tx i).st ≠ 1 /\ (h.tx i).st ≠ 2) then h else (h.turn n i (Qrb (h.lg n) (Qrt (h.lg n) (h.tx i).next))).nextIs i (Qrb (h.lg n) (Qrt (h.lg n) (h.tx i).next)).n) := rfl; have HXX := Qc hx; obtain ⟨nx, hnx⟩ : ∃ c, c = (h.tx i).next := ⟨_, rfl⟩; obtain ⟨st, hst⟩ : ∃ c, c = (h.tx i).st := ⟨_, rfl⟩; rw [<- hnx] at t3 HBK HXX; rw [<- hst] at t1 HBK; have HR := Qc hr; have HCP := Qc hc; clear H ho hw hx hnx hst hr hc
  by_cases e1 : nx = 0
  · rw [e1] at t3; go_enter Try.func60, Try.ntmps60; go_wp2; refine bodyPost_ret (results_none rfl _ _ _) rfl ⟨F, rfl, ?_, Qk.refl _ _⟩; rw [HBK.out, if_pos (.inl e1)]; exact HH.out
  · have e1a : ((nx : Int) == 0) = false := by simpa using e1
    by_cases e2 : st ≠ 1 /\ st ≠ 2
    · have e2a : (st != 1) = true := by simpa using e2.1
      have e2b : decide (st = 1) = false := by simpa using e2.1
      have e2c : (st != 2) = true := by simpa using e2.2
      have e2d : decide (st = 2) = false := by simpa using e2.2
      go_enter Try.func60, Try.ntmps60; go_wp2; refine bodyPost_ret (results_none rfl _ _ _) rfl ⟨F, rfl, ?_, Qk.refl _ _⟩; rw [HBK.out, if_pos (.inr e2)]; exact HH.out
    · obtain ⟨r, hr1, hr2, hr3⟩ := HXX.out e1; have hrR := Qka _ 0 HR.out r hr1
      have hget : Qrt (h.lg n) nx = r := by
        unfold Qrt; rw [<- hr2, Qcg HR.out hr1]; rfl
      have HB3 : Hid (h.back n i = (h.turn n i (Qrb (h.lg n) r)).nextIs i (Qrb (h.lg n) r).n) := by
        show h.back n i = _; rw [HBK.out, if_neg (fun q => by rcases q with q | q; exact e1 q; exact e2 q), hget]
      have hinv := Qlg r.c (hrR.ch (by omega))
      have HCL : Hid ((Qrb (h.lg n) r).bare /\ (Qrb (h.lg n) r).c.right /\ (Qrb (h.lg n) r).c.pg < 4) := by
        refine ⟨clr_bare hrR hr3, hinv.1, ?_⟩; have h9 := HCP.out r hr1 hr3; show (Qfh r.c).pg < 4; unfold Qfh; rw [if_pos (hrR.ch (by omega))]; exact h9
      obtain ⟨gl, a, c, c0, c1, hlog⟩ := HH.out.logs hn (HW.out.lg n hn); have HCR := Qc (fun z (hz : Below w.heap.size w z) => rclr15 _ _ nx z (hlog.below hz) (by rw [Qii]; exact HR.out)); rw [Qii, <- hr2, Qny HR.out hr1 hr3, hr2] at HCR; have HTU := Qc (fun z F' (hz : HB z B g F' h) => Qbh z B g n i o F' h (Qrb (h.lg n) r) hz hn hi HO.out HCL.out.1 HCL.out.2.1 HCL.out.2.2 (Nat.le_trans (HW.out.ck n hn) (by decide)) (Nat.le_trans (HW.out.pl _ (by have := HCL.out; unfold Rec.page; have := HCL.out.2.1.1; omega)) (by decide)) (HW.out.lg n hn) (HW.out.past _ (by have := HCL.out; unfold Rec.page; have := HCL.out.2.1.1; omega))); have hcr0 : rcF (clrM (h.lg n) r) = rcF (Qtc (Qrb (h.lg n) r)) := rfl; rw [hcr0] at HCR; have HNX : Hid ((rcF (Qtc (Qrb (h.lg n) r)))[9]? = some (.int .u64 ((Qrb (h.lg n) r).n : Int))) := rfl; have hone : (rcF (Qtc (Qrb (h.lg n) r))).all (·.oneCell') = true := by simp [rcF, rcA, Qtc, Value.oneCell']
      obtain ⟨cr, hcr⟩ : ∃ cr, cr = Qrb (h.lg n) r := ⟨_, rfl⟩; rw [<- hcr] at HCR HTU HNX hone HB3; obtain ⟨rc, hrc⟩ : ∃ rc, rc = rcF (Qtc cr) := ⟨_, rfl⟩; have hz14 : rc.size = 14 := by rw [hrc]; rfl
      rw [<- hrc] at HCR HTU HNX hone; have hinf : (Try.prog.info? 46).map (·.size) = some rc.size := by rw [hz14]; exact Qia
      obtain ⟨ll, hll⟩ : ∃ ll, ll = (h.lg n).length := ⟨_, rfl⟩; rw [<- hll] at c1 HCR; clear hrc hr1 hr2 hr3 hrR hget hinv hlog hcr0 HBK HXX HCP HR HCL hll hcr; have hst : st = 1 ∨ st = 2 := by omega
      have key : Hid (∀ z F', HB z B g F' h -> True) := fun _ _ _ => trivial
      rcases hst with rfl | rfl
      · skip; go_enter Try.func60, Try.ntmps60; go_wp2_with fail; clear t1; have k0 : ∀ z, Below w.heap.size w z -> z.cell? ⟨g, 0, none⟩ = some (.slice (some ⟨gl, 0, none⟩) 3 3) /\ z.cell? ⟨gl, n, none⟩ = some (.slice a ll c) /\ z.cell? ⟨g, o + 3, none⟩ = some (.int .u64 (nx : Int)) := fun z hz => ⟨Qud c0 hz, Qud c1 hz, Qud t3 hz⟩
        have HK0 := Qc k0; clear k0 c0 c1 t3; apply Qfr (F := fun g6 a9 c9 z => Hid (HB z B g F h /\ Qb z g6 46 rc /\ Qk F F w z /\ ¬ F g6 /\ a9 = none /\ c9 = 0))
        (case h =>
          intro REST; refine wp_region_noPanic ?_; refine wp_region_held_drew (S := fun z => z.cell? ⟨g, 0, none⟩ = some (.slice (some ⟨gl, 0, none⟩) 3 3) /\ z.cell? ⟨gl, n, none⟩ = some (.slice a ll c) /\ z.cell? ⟨g, o + 3, none⟩ = some (.int .u64 (nx : Int))) (by kernel_rfl) (HK0.out _ (Qp (Below.refl _ _))) (fun hHeld => ?_); refine Qa 0 (some 28) (.pointer (some ⟨g, 0, none⟩)) rfl rfl (by kernel_rfl) (by kernel_rfl) (by kernel_rfl) (fun _ _ _ h => h) (Or.inl ⟨by kernel_rfl, fun x' hSx => by go_simp⟩) hHeld ?_; (try simp only [Act.put, List.setIfInBounds_toArray, List.set]); refine Qa 1 (some 29) (.pointer (some ⟨g, 0, none⟩)) rfl rfl (by kernel_rfl) (by kernel_rfl) (by kernel_rfl) (fun _ _ _ h => h) (Or.inl ⟨by kernel_rfl, fun x' hSx => by go_simp⟩) hHeld ?_; (try simp only [Act.put, List.setIfInBounds_toArray, List.set]); refine Qa 2 (some 30) (.pointer (some ⟨g, 0, none⟩)) rfl rfl (by kernel_rfl) (by kernel_rfl) (by kernel_rfl) (fun _ _ _ h => h) (Or.inl ⟨by kernel_rfl, fun x' hSx => by go_simp⟩) hHeld ?_; (try simp only [Act.put, List.setIfInBounds_toArray, List.set]); refine Qa 3 (some 31) (.slice (some ⟨gl, 0, none⟩) 3 3) rfl rfl (by kernel_rfl) (by kernel_rfl) (by kernel_rfl) (fun _ _ _ h => h) (Or.inl ⟨by kernel_rfl, fun x' hSx => by have h := hSx.1; go_simp⟩) hHeld ?_; (try simp only [Act.put, List.setIfInBounds_toArray, List.set]); refine Qa 4 (some 32) (.int .i64 (n : Int)) rfl rfl (by kernel_rfl) (by kernel_rfl) (by kernel_rfl) (fun _ _ _ h => h) (Or.inl ⟨by kernel_rfl, fun x' hSx => by go_simp⟩) hHeld ?_; (try simp only [Act.put, List.setIfInBounds_toArray, List.set]); refine Qa 5 (some 33) (.pointer (some ⟨gl, n, none⟩)) rfl rfl (by kernel_rfl) (by kernel_rfl) (by kernel_rfl) (fun _ _ _ h => h) (Or.inl ⟨by kernel_rfl, fun x' hSx => by go_simp⟩) hHeld ?_; (try simp only [Act.put, List.setIfInBounds_toArray, List.set]); refine Qa 6 (some 34) (.slice a ll c) rfl rfl (by kernel_rfl) (by kernel_rfl) (by kernel_rfl) (fun _ _ _ h => h) (Or.inl ⟨by kernel_rfl, fun x' hSx => by have h := hSx.2.1; go_simp⟩) hHeld ?_; (try simp only [Act.put, List.setIfInBounds_toArray, List.set]); refine Qa 7 (some 35) (.pointer (some ⟨g, o, none⟩)) rfl rfl (by kernel_rfl) (by kernel_rfl) (by kernel_rfl) (fun _ _ _ h => h) (Or.inl ⟨by kernel_rfl, fun x' hSx => by go_simp⟩) hHeld ?_; (try simp only [Act.put, List.setIfInBounds_toArray, List.set]); refine Qa 8 (some 36) (.pointer (some ⟨g, o, none⟩)) rfl rfl (by kernel_rfl) (by kernel_rfl) (by kernel_rfl) (fun _ _ _ h => h) (Or.inl ⟨by kernel_rfl, fun x' hSx => by go_simp⟩) hHeld ?_
          (try simp only [Act.put, List.setIfInBounds_toArray, List.set])
          refine Qa 9 (some 37) (.pointer (some ⟨g, o + 3, none⟩)) rfl rfl (by kernel_rfl) (by kernel_rfl) (by kernel_rfl) (fun _ _ _ h => h) (Or.inl ⟨by kernel_rfl, fun x' hSx => by go_simp⟩) hHeld ?_; (try simp only [Act.put, List.setIfInBounds_toArray, List.set]); refine Qa 10 (some 38) (.int .u64 (nx : Int)) rfl rfl (by kernel_rfl) (by kernel_rfl) (by kernel_rfl) (fun _ _ _ h => h) (Or.inl ⟨by kernel_rfl, fun x' hSx => by have h := hSx.2.2; go_simp⟩) hHeld ?_; (try simp only [Act.put, List.setIfInBounds_toArray, List.set])
          refine Qqc 11 15 (by kernel_rfl) ?_ ?_
          · skip; refine Qca (some 39) rfl rfl rfl 76 #[.slice a ll c, .int .u64 (nx : Int)] ?he ((HCR.out w.drew (Qp (Below.refl _ _))).mono ?_); (case he => go_simp); rintro e z1 ⟨rfl, hb1⟩; have B1 : Below w.heap.size w z1 := (Qp (Below.refl w.heap.size w)).trans hb1; refine ⟨_, rfl, HK0.out _ B1, ?_⟩; (try simp only [Act.put, List.setIfInBounds_toArray, List.set]); have hHeld := HK0.out _ B1; refine Qa 12 (some 27) (.tuple #[.agg rc, .int .i64 0]) rfl rfl (by kernel_rfl) (by kernel_rfl) (by kernel_rfl) (fun _ _ _ h => h) (Or.inl ⟨by kernel_rfl, fun x' hSx => by go_simp⟩) hHeld ?_; (try simp only [Act.put, List.setIfInBounds_toArray, List.set]); refine Qa 13 (some 40) (.agg rc) rfl rfl (by kernel_rfl) (by kernel_rfl) (by kernel_rfl) (fun _ _ _ h => h) (Or.inl ⟨by kernel_rfl, fun x' hSx => by go_simp⟩) hHeld ?_; (try simp only [Act.put, List.setIfInBounds_toArray, List.set]); refine Qa 14 (some 41) (.int .i64 0) rfl rfl (by kernel_rfl) (by kernel_rfl) (by kernel_rfl) (fun _ _ _ h => h) (Or.inl ⟨by kernel_rfl, fun x' hSx => by go_simp⟩) hHeld ?_; (try simp only [Act.put, List.setIfInBounds_toArray, List.set]); refine Qh 15 (by kernel_rfl) ?_; obtain ⟨g6, hg6⟩ : ∃ k, k = z1.heap.size := ⟨_, rfl⟩; have hb2 : Below z1.heap.size z1 (z1.alloc (.cells #[.int .i64 0, .int .u64 0, .int .i64 0, .int .u64 0, .int .i64 0, .int .i64 0, .int .i64 0, .string ⟨#[]⟩, .string ⟨#[]⟩, .int .u64 0, .int .i64 0, .int .u64 0, .slice none 0 0, .slice none 0 0] 46)) := (Below.refl _ _).alloc (Nat.le_refl _) _; refine Qs (some 6) rfl rfl rfl (.pointer (some ⟨g6, 0, none⟩)) (z1.alloc (.cells #[.int .i64 0, .int .u64 0, .int .i64 0, .int .u64 0, .int .i64 0, .int .i64 0, .int .i64 0, .string ⟨#[]⟩, .string ⟨#[]⟩, .int .u64 0, .int .i64 0, .int .u64 0, .slice none 0 0, .slice none 0 0] 46)) ?hz ?_; (case hz => rw [hg6]; go_simp); have B2 := B1.trans (hb2.mono B1.size); have N2 : Qb (z1.alloc (.cells #[.int .i64 0, .int .u64 0, .int .i64 0, .int .u64 0, .int .i64 0, .int .i64 0, .int .i64 0, .string ⟨#[]⟩, .string ⟨#[]⟩, .int .u64 0, .int .i64 0, .int .u64 0, .slice none 0 0, .slice none 0 0] 46)) g6 46 #[.int .i64 0, .int .u64 0, .int .i64 0, .int .u64 0, .int .i64 0, .int .i64 0, .int .i64 0, .string ⟨#[]⟩, .string ⟨#[]⟩, .int .u64 0, .int .i64 0, .int .u64 0, .slice none 0 0, .slice none 0 0] := by rw [hg6]; exact Qb.new z1 _ _
            have L6 : w.heap.size <= g6 := by rw [hg6]; exact B1.size
            refine ⟨HK0.out _ B2, ?_⟩; (try simp only [Act.put, List.setIfInBounds_toArray, List.set]); refine Qh 16 (by kernel_rfl) ?_; refine Qba rfl rfl rfl 46 (.tmp 6) (.tmp 40) rfl g6 0 46 #[.int .i64 0, .int .u64 0, .int .i64 0, .int .u64 0, .int .i64 0, .int .i64 0, .int .i64 0, .string ⟨#[]⟩, .string ⟨#[]⟩, .int .u64 0, .int .i64 0, .int .u64 0, .slice none 0 0, .slice none 0 0] rc rfl rfl N2 hinf (by rw [hz14]; decide) hone ?_; intro z3 hr3 ho3; have hpa := Qu #[.int .i64 0, .int .u64 0, .int .i64 0, .int .u64 0, .int .i64 0, .int .i64 0, .int .i64 0, .string ⟨#[]⟩, .string ⟨#[]⟩, .int .u64 0, .int .i64 0, .int .u64 0, .slice none 0 0, .slice none 0 0] rc (by rw [hz14]; rfl); rw [hpa] at hr3; have B3 : Below w.heap.size w z3 := ho3.below B2 L6; refine ⟨HK0.out _ B3, ?_⟩; (try simp only [Act.put, List.setIfInBounds_toArray, List.set]); have hHeld := HK0.out _ B3; refine Qa 17 (some 7) (.int .i64 0) rfl rfl (by kernel_rfl) (by kernel_rfl) (by kernel_rfl) (fun _ _ _ h => h) (Or.inl ⟨by kernel_rfl, fun x' hSx => by go_simp⟩) hHeld ?_; (try simp only [Act.put, List.setIfInBounds_toArray, List.set]); refine wpAnyH_done (by kernel_rfl) ?_ _; refine NoPanic.normal ?_; obtain ⟨a9, ha9⟩ : ∃ a9 : Option Addr, a9 = none := ⟨_, rfl⟩; obtain ⟨c9, hc9⟩ : ∃ c9 : Nat, c9 = 0 := ⟨_, rfl⟩; exact REST g6 a9 c9 z3 ⟨HH.out.later B3, hr3, Qk.first B3 (Qk.refl _ _), fun hk => by have := (HH.out.here hk).2; omega, ha9, hc9⟩
          · skip; obtain ⟨g6, hg6⟩ : ∃ k, k = w.drew.heap.size := ⟨_, rfl⟩; have hb2 : Below w.drew.heap.size w.drew (w.drew.alloc (.cells #[.int .i64 0, .int .u64 0, .int .i64 0, .int .u64 0, .int .i64 0, .int .i64 0, .int .i64 0, .string ⟨#[]⟩, .string ⟨#[]⟩, .int .u64 0, .int .i64 0, .int .u64 0, .slice none 0 0, .slice none 0 0] 46)) := (Below.refl _ _).alloc (Nat.le_refl _) _; refine Qs (some 6) rfl rfl rfl (.pointer (some ⟨g6, 0, none⟩)) (w.drew.alloc (.cells #[.int .i64 0, .int .u64 0, .int .i64 0, .int .u64 0, .int .i64 0, .int .i64 0, .int .i64 0, .string ⟨#[]⟩, .string ⟨#[]⟩, .int .u64 0, .int .i64 0, .int .u64 0, .slice none 0 0, .slice none 0 0] 46)) ?hz ?_; (case hz => rw [hg6]; go_simp); have B1 : Below w.heap.size w (w.drew.alloc (.cells #[.int .i64 0, .int .u64 0, .int .i64 0, .int .u64 0, .int .i64 0, .int .i64 0, .int .i64 0, .string ⟨#[]⟩, .string ⟨#[]⟩, .int .u64 0, .int .i64 0, .int .u64 0, .slice none 0 0, .slice none 0 0] 46)) := (Qp (Below.refl w.heap.size w)).trans hb2; have N1 : Qb (w.drew.alloc (.cells #[.int .i64 0, .int .u64 0, .int .i64 0, .int .u64 0, .int .i64 0, .int .i64 0, .int .i64 0, .string ⟨#[]⟩, .string ⟨#[]⟩, .int .u64 0, .int .i64 0, .int .u64 0, .slice none 0 0, .slice none 0 0] 46)) g6 46 #[.int .i64 0, .int .u64 0, .int .i64 0, .int .u64 0, .int .i64 0, .int .i64 0, .int .i64 0, .string ⟨#[]⟩, .string ⟨#[]⟩, .int .u64 0, .int .i64 0, .int .u64 0, .slice none 0 0, .slice none 0 0] := by rw [hg6]; exact Qb.new w.drew _ _
            have L6 : w.heap.size <= g6 := by rw [hg6]; exact Nat.le_refl _
            refine ⟨HK0.out _ B1, ?_⟩; (try simp only [Act.put, List.setIfInBounds_toArray, List.set]); refine Qh 11 (by kernel_rfl) ?_; refine Qca (some 39) rfl rfl rfl 76 #[.slice a ll c, .int .u64 (nx : Int)] ?he ((HCR.out _ B1).mono ?_); (case he => go_simp); rintro e z1 ⟨rfl, hb1⟩; have B2 := B1.trans (hb1.mono B1.size); have N2 := N1.later hb1; refine ⟨_, rfl, HK0.out _ B2, ?_⟩; (try simp only [Act.put, List.setIfInBounds_toArray, List.set]); have hHeld := HK0.out _ B2; refine Qa 12 (some 27) (.tuple #[.agg rc, .int .i64 0]) rfl rfl (by kernel_rfl) (by kernel_rfl) (by kernel_rfl) (fun _ _ _ h => h) (Or.inl ⟨by kernel_rfl, fun x' hSx => by go_simp⟩) hHeld ?_; (try simp only [Act.put, List.setIfInBounds_toArray, List.set]); refine Qa 13 (some 40) (.agg rc) rfl rfl (by kernel_rfl) (by kernel_rfl) (by kernel_rfl) (fun _ _ _ h => h) (Or.inl ⟨by kernel_rfl, fun x' hSx => by go_simp⟩) hHeld ?_; (try simp only [Act.put, List.setIfInBounds_toArray, List.set]); refine Qa 14 (some 41) (.int .i64 0) rfl rfl (by kernel_rfl) (by kernel_rfl) (by kernel_rfl) (fun _ _ _ h => h) (Or.inl ⟨by kernel_rfl, fun x' hSx => by go_simp⟩) hHeld ?_; (try simp only [Act.put, List.setIfInBounds_toArray, List.set]); refine Qh 16 (by kernel_rfl) ?_; refine Qba rfl rfl rfl 46 (.tmp 6) (.tmp 40) rfl g6 0 46 #[.int .i64 0, .int .u64 0, .int .i64 0, .int .u64 0, .int .i64 0, .int .i64 0, .int .i64 0, .string ⟨#[]⟩, .string ⟨#[]⟩, .int .u64 0, .int .i64 0, .int .u64 0, .slice none 0 0, .slice none 0 0] rc rfl rfl N2 hinf (by rw [hz14]; decide) hone ?_; intro z3 hr3 ho3; have hpa := Qu #[.int .i64 0, .int .u64 0, .int .i64 0, .int .u64 0, .int .i64 0, .int .i64 0, .int .i64 0, .string ⟨#[]⟩, .string ⟨#[]⟩, .int .u64 0, .int .i64 0, .int .u64 0, .slice none 0 0, .slice none 0 0] rc (by rw [hz14]; rfl); rw [hpa] at hr3; have B3 : Below w.heap.size w z3 := ho3.below B2 L6; refine ⟨HK0.out _ B3, ?_⟩; (try simp only [Act.put, List.setIfInBounds_toArray, List.set]); have hHeld := HK0.out _ B3; refine Qa 17 (some 7) (.int .i64 0) rfl rfl (by kernel_rfl) (by kernel_rfl) (by kernel_rfl) (fun _ _ _ h => h) (Or.inl ⟨by kernel_rfl, fun x' hSx => by go_simp⟩) hHeld ?_; (try simp only [Act.put, List.setIfInBounds_toArray, List.set]); refine wpAnyH_done (by kernel_rfl) ?_ _; refine NoPanic.normal ?_; obtain ⟨a9, ha9⟩ : ∃ a9 : Option Addr, a9 = none := ⟨_, rfl⟩; obtain ⟨c9, hc9⟩ : ∃ c9 : Nat, c9 = 0 := ⟨_, rfl⟩
            exact REST g6 a9 c9 z3 ⟨HH.out.later B3, hr3, Qk.first B3 (Qk.refl _ _), fun hk => by have := (HH.out.here hk).2; omega, ha9, hc9⟩)
        intro g6 a9 c9 z HZ; go_wp2_with (with_reducible refine Qw 45 rfl ?_); refine Qf ?_; refine Qd rfl 46 (.tmp 6) rfl g6 rfl rc HZ.out.2.1 _ Try.underlying46 rfl hinf ?_; go_wp2_with fail; refine (HTU.out z F HZ.out.1).mono ?_; rintro e z2 ⟨F2, rfl, hb2, ha2⟩; have H2 : Hid (HB z2 B g F2 (h.turn n i cr) /\ Qb z2 g6 46 rc /\ Qk F F2 w z2) := ⟨hb2, ha2.row HZ.out.2.1 HZ.out.2.2.2.1, HZ.out.2.2.1.trans ha2⟩; have c9r := H2.out.2.1.cell 9 _ HNX.out; have f3 := hb2.free (o + 3); have t3 := (hb2.tu hi HO.out).2.2.2; clear hb2 ha2 HZ HCR HK0 HTU; obtain ⟨q, hq⟩ : ∃ q, q = cr.n := ⟨_, rfl⟩; rw [<- hq] at c9r HB3; clear hq HNX; go_wp2
        have q8 := H2.out.1.cell (h' := (h.turn n i cr).nextIs i q) (o + 3) (.int .u64 (q : Int)) (fun cs a b c H => by rw [HO.out]; exact H.setTx hi _ 3 (by omega) _ rfl (fun k hk he => by
          rcases (show k = 0 ∨ k = 1 ∨ k = 2 ∨ k = 3 by omega) with rfl | rfl | rfl | rfl
          · rfl
          · rfl
          · rfl
          · exact absurd rfl he)) rfl rfl rfl
        refine bodyPost_end (results_none rfl _ _ _) rfl ⟨F2, rfl, ?_, H2.out.2.2.trans q8.2⟩; rw [HB3.out]; exact q8.1
      · skip; go_enter Try.func60, Try.ntmps60; go_wp2_with fail; clear t1; have k0 : ∀ z, Below w.heap.size w z -> z.cell? ⟨g, 0, none⟩ = some (.slice (some ⟨gl, 0, none⟩) 3 3) /\ z.cell? ⟨gl, n, none⟩ = some (.slice a ll c) /\ z.cell? ⟨g, o + 3, none⟩ = some (.int .u64 (nx : Int)) := fun z hz => ⟨Qud c0 hz, Qud c1 hz, Qud t3 hz⟩
        have HK0 := Qc k0; clear k0 c0 c1 t3; apply Qfr (F := fun g6 a9 c9 z => Hid (HB z B g F h /\ Qb z g6 46 rc /\ Qk F F w z /\ ¬ F g6 /\ a9 = none /\ c9 = 0))
        (case h =>
          intro REST; refine wp_region_noPanic ?_; refine wp_region_held_drew (S := fun z => z.cell? ⟨g, 0, none⟩ = some (.slice (some ⟨gl, 0, none⟩) 3 3) /\ z.cell? ⟨gl, n, none⟩ = some (.slice a ll c) /\ z.cell? ⟨g, o + 3, none⟩ = some (.int .u64 (nx : Int))) (by kernel_rfl) (HK0.out _ (Qp (Below.refl _ _))) (fun hHeld => ?_); refine Qa 0 (some 28) (.pointer (some ⟨g, 0, none⟩)) rfl rfl (by kernel_rfl) (by kernel_rfl) (by kernel_rfl) (fun _ _ _ h => h) (Or.inl ⟨by kernel_rfl, fun x' hSx => by go_simp⟩) hHeld ?_; (try simp only [Act.put, List.setIfInBounds_toArray, List.set]); refine Qa 1 (some 29) (.pointer (some ⟨g, 0, none⟩)) rfl rfl (by kernel_rfl) (by kernel_rfl) (by kernel_rfl) (fun _ _ _ h => h) (Or.inl ⟨by kernel_rfl, fun x' hSx => by go_simp⟩) hHeld ?_; (try simp only [Act.put, List.setIfInBounds_toArray, List.set]); refine Qa 2 (some 30) (.pointer (some ⟨g, 0, none⟩)) rfl rfl (by kernel_rfl) (by kernel_rfl) (by kernel_rfl) (fun _ _ _ h => h) (Or.inl ⟨by kernel_rfl, fun x' hSx => by go_simp⟩) hHeld ?_; (try simp only [Act.put, List.setIfInBounds_toArray, List.set]); refine Qa 3 (some 31) (.slice (some ⟨gl, 0, none⟩) 3 3) rfl rfl (by kernel_rfl) (by kernel_rfl) (by kernel_rfl) (fun _ _ _ h => h) (Or.inl ⟨by kernel_rfl, fun x' hSx => by have h := hSx.1; go_simp⟩) hHeld ?_; (try simp only [Act.put, List.setIfInBounds_toArray, List.set]); refine Qa 4 (some 32) (.int .i64 (n : Int)) rfl rfl (by kernel_rfl) (by kernel_rfl) (by kernel_rfl) (fun _ _ _ h => h) (Or.inl ⟨by kernel_rfl, fun x' hSx => by go_simp⟩) hHeld ?_; (try simp only [Act.put, List.setIfInBounds_toArray, List.set]); refine Qa 5 (some 33) (.pointer (some ⟨gl, n, none⟩)) rfl rfl (by kernel_rfl) (by kernel_rfl) (by kernel_rfl) (fun _ _ _ h => h) (Or.inl ⟨by kernel_rfl, fun x' hSx => by go_simp⟩) hHeld ?_; (try simp only [Act.put, List.setIfInBounds_toArray, List.set]); refine Qa 6 (some 34) (.slice a ll c) rfl rfl (by kernel_rfl) (by kernel_rfl) (by kernel_rfl) (fun _ _ _ h => h) (Or.inl ⟨by kernel_rfl, fun x' hSx => by have h := hSx.2.1; go_simp⟩) hHeld ?_; (try simp only [Act.put, List.setIfInBounds_toArray, List.set]); refine Qa 7 (some 35) (.pointer (some ⟨g, o, none⟩)) rfl rfl (by kernel_rfl) (by kernel_rfl) (by kernel_rfl) (fun _ _ _ h => h) (Or.inl ⟨by kernel_rfl, fun x' hSx => by go_simp⟩) hHeld ?_; (try simp only [Act.put, List.setIfInBounds_toArray, List.set]); refine Qa 8 (some 36) (.pointer (some ⟨g, o, none⟩)) rfl rfl (by kernel_rfl) (by kernel_rfl) (by kernel_rfl) (fun _ _ _ h => h) (Or.inl ⟨by kernel_rfl, fun x' hSx => by go_simp⟩) hHeld ?_
          (try simp only [Act.put, List.setIfInBounds_toArray, List.set])
          refine Qa 9 (some 37) (.pointer (some ⟨g, o + 3, none⟩)) rfl rfl (by kernel_rfl) (by kernel_rfl) (by kernel_rfl) (fun _ _ _ h => h) (Or.inl ⟨by kernel_rfl, fun x' hSx => by go_simp⟩) hHeld ?_; (try simp only [Act.put, List.setIfInBounds_toArray, List.set]); refine Qa 10 (some 38) (.int .u64 (nx : Int)) rfl rfl (by kernel_rfl) (by kernel_rfl) (by kernel_rfl) (fun _ _ _ h => h) (Or.inl ⟨by kernel_rfl, fun x' hSx => by have h := hSx.2.2; go_simp⟩) hHeld ?_; (try simp only [Act.put, List.setIfInBounds_toArray, List.set])
          refine Qqc 11 15 (by kernel_rfl) ?_ ?_
          · skip; refine Qca (some 39) rfl rfl rfl 76 #[.slice a ll c, .int .u64 (nx : Int)] ?he ((HCR.out w.drew (Qp (Below.refl _ _))).mono ?_); (case he => go_simp); rintro e z1 ⟨rfl, hb1⟩; have B1 : Below w.heap.size w z1 := (Qp (Below.refl w.heap.size w)).trans hb1; refine ⟨_, rfl, HK0.out _ B1, ?_⟩; (try simp only [Act.put, List.setIfInBounds_toArray, List.set]); have hHeld := HK0.out _ B1; refine Qa 12 (some 27) (.tuple #[.agg rc, .int .i64 0]) rfl rfl (by kernel_rfl) (by kernel_rfl) (by kernel_rfl) (fun _ _ _ h => h) (Or.inl ⟨by kernel_rfl, fun x' hSx => by go_simp⟩) hHeld ?_; (try simp only [Act.put, List.setIfInBounds_toArray, List.set]); refine Qa 13 (some 40) (.agg rc) rfl rfl (by kernel_rfl) (by kernel_rfl) (by kernel_rfl) (fun _ _ _ h => h) (Or.inl ⟨by kernel_rfl, fun x' hSx => by go_simp⟩) hHeld ?_; (try simp only [Act.put, List.setIfInBounds_toArray, List.set]); refine Qa 14 (some 41) (.int .i64 0) rfl rfl (by kernel_rfl) (by kernel_rfl) (by kernel_rfl) (fun _ _ _ h => h) (Or.inl ⟨by kernel_rfl, fun x' hSx => by go_simp⟩) hHeld ?_; (try simp only [Act.put, List.setIfInBounds_toArray, List.set]); refine Qh 15 (by kernel_rfl) ?_; obtain ⟨g6, hg6⟩ : ∃ k, k = z1.heap.size := ⟨_, rfl⟩; have hb2 : Below z1.heap.size z1 (z1.alloc (.cells #[.int .i64 0, .int .u64 0, .int .i64 0, .int .u64 0, .int .i64 0, .int .i64 0, .int .i64 0, .string ⟨#[]⟩, .string ⟨#[]⟩, .int .u64 0, .int .i64 0, .int .u64 0, .slice none 0 0, .slice none 0 0] 46)) := (Below.refl _ _).alloc (Nat.le_refl _) _; refine Qs (some 6) rfl rfl rfl (.pointer (some ⟨g6, 0, none⟩)) (z1.alloc (.cells #[.int .i64 0, .int .u64 0, .int .i64 0, .int .u64 0, .int .i64 0, .int .i64 0, .int .i64 0, .string ⟨#[]⟩, .string ⟨#[]⟩, .int .u64 0, .int .i64 0, .int .u64 0, .slice none 0 0, .slice none 0 0] 46)) ?hz ?_; (case hz => rw [hg6]; go_simp); have B2 := B1.trans (hb2.mono B1.size); have N2 : Qb (z1.alloc (.cells #[.int .i64 0, .int .u64 0, .int .i64 0, .int .u64 0, .int .i64 0, .int .i64 0, .int .i64 0, .string ⟨#[]⟩, .string ⟨#[]⟩, .int .u64 0, .int .i64 0, .int .u64 0, .slice none 0 0, .slice none 0 0] 46)) g6 46 #[.int .i64 0, .int .u64 0, .int .i64 0, .int .u64 0, .int .i64 0, .int .i64 0, .int .i64 0, .string ⟨#[]⟩, .string ⟨#[]⟩, .int .u64 0, .int .i64 0, .int .u64 0, .slice none 0 0, .slice none 0 0] := by rw [hg6]; exact Qb.new z1 _ _
            have L6 : w.heap.size <= g6 := by rw [hg6]; exact B1.size
            refine ⟨HK0.out _ B2, ?_⟩; (try simp only [Act.put, List.setIfInBounds_toArray, List.set]); refine Qh 16 (by kernel_rfl) ?_; refine Qba rfl rfl rfl 46 (.tmp 6) (.tmp 40) rfl g6 0 46 #[.int .i64 0, .int .u64 0, .int .i64 0, .int .u64 0, .int .i64 0, .int .i64 0, .int .i64 0, .string ⟨#[]⟩, .string ⟨#[]⟩, .int .u64 0, .int .i64 0, .int .u64 0, .slice none 0 0, .slice none 0 0] rc rfl rfl N2 hinf (by rw [hz14]; decide) hone ?_; intro z3 hr3 ho3; have hpa := Qu #[.int .i64 0, .int .u64 0, .int .i64 0, .int .u64 0, .int .i64 0, .int .i64 0, .int .i64 0, .string ⟨#[]⟩, .string ⟨#[]⟩, .int .u64 0, .int .i64 0, .int .u64 0, .slice none 0 0, .slice none 0 0] rc (by rw [hz14]; rfl); rw [hpa] at hr3; have B3 : Below w.heap.size w z3 := ho3.below B2 L6; refine ⟨HK0.out _ B3, ?_⟩; (try simp only [Act.put, List.setIfInBounds_toArray, List.set]); have hHeld := HK0.out _ B3; refine Qa 17 (some 7) (.int .i64 0) rfl rfl (by kernel_rfl) (by kernel_rfl) (by kernel_rfl) (fun _ _ _ h => h) (Or.inl ⟨by kernel_rfl, fun x' hSx => by go_simp⟩) hHeld ?_; (try simp only [Act.put, List.setIfInBounds_toArray, List.set]); refine wpAnyH_done (by kernel_rfl) ?_ _; refine NoPanic.normal ?_; obtain ⟨a9, ha9⟩ : ∃ a9 : Option Addr, a9 = none := ⟨_, rfl⟩; obtain ⟨c9, hc9⟩ : ∃ c9 : Nat, c9 = 0 := ⟨_, rfl⟩; exact REST g6 a9 c9 z3 ⟨HH.out.later B3, hr3, Qk.first B3 (Qk.refl _ _), fun hk => by have := (HH.out.here hk).2; omega, ha9, hc9⟩
          · skip; obtain ⟨g6, hg6⟩ : ∃ k, k = w.drew.heap.size := ⟨_, rfl⟩; have hb2 : Below w.drew.heap.size w.drew (w.drew.alloc (.cells #[.int .i64 0, .int .u64 0, .int .i64 0, .int .u64 0, .int .i64 0, .int .i64 0, .int .i64 0, .string ⟨#[]⟩, .string ⟨#[]⟩, .int .u64 0, .int .i64 0, .int .u64 0, .slice none 0 0, .slice none 0 0] 46)) := (Below.refl _ _).alloc (Nat.le_refl _) _; refine Qs (some 6) rfl rfl rfl (.pointer (some ⟨g6, 0, none⟩)) (w.drew.alloc (.cells #[.int .i64 0, .int .u64 0, .int .i64 0, .int .u64 0, .int .i64 0, .int .i64 0, .int .i64 0, .string ⟨#[]⟩, .string ⟨#[]⟩, .int .u64 0, .int .i64 0, .int .u64 0, .slice none 0 0, .slice none 0 0] 46)) ?hz ?_; (case hz => rw [hg6]; go_simp); have B1 : Below w.heap.size w (w.drew.alloc (.cells #[.int .i64 0, .int .u64 0, .int .i64 0, .int .u64 0, .int .i64 0, .int .i64 0, .int .i64 0, .string ⟨#[]⟩, .string ⟨#[]⟩, .int .u64 0, .int .i64 0, .int .u64 0, .slice none 0 0, .slice none 0 0] 46)) := (Qp (Below.refl w.heap.size w)).trans hb2; have N1 : Qb (w.drew.alloc (.cells #[.int .i64 0, .int .u64 0, .int .i64 0, .int .u64 0, .int .i64 0, .int .i64 0, .int .i64 0, .string ⟨#[]⟩, .string ⟨#[]⟩, .int .u64 0, .int .i64 0, .int .u64 0, .slice none 0 0, .slice none 0 0] 46)) g6 46 #[.int .i64 0, .int .u64 0, .int .i64 0, .int .u64 0, .int .i64 0, .int .i64 0, .int .i64 0, .string ⟨#[]⟩, .string ⟨#[]⟩, .int .u64 0, .int .i64 0, .int .u64 0, .slice none 0 0, .slice none 0 0] := by rw [hg6]; exact Qb.new w.drew _ _
            have L6 : w.heap.size <= g6 := by rw [hg6]; exact Nat.le_refl _
            refine ⟨HK0.out _ B1, ?_⟩; (try simp only [Act.put, List.setIfInBounds_toArray, List.set]); refine Qh 11 (by kernel_rfl) ?_; refine Qca (some 39) rfl rfl rfl 76 #[.slice a ll c, .int .u64 (nx : Int)] ?he ((HCR.out _ B1).mono ?_); (case he => go_simp); rintro e z1 ⟨rfl, hb1⟩; have B2 := B1.trans (hb1.mono B1.size); have N2 := N1.later hb1; refine ⟨_, rfl, HK0.out _ B2, ?_⟩; (try simp only [Act.put, List.setIfInBounds_toArray, List.set]); have hHeld := HK0.out _ B2; refine Qa 12 (some 27) (.tuple #[.agg rc, .int .i64 0]) rfl rfl (by kernel_rfl) (by kernel_rfl) (by kernel_rfl) (fun _ _ _ h => h) (Or.inl ⟨by kernel_rfl, fun x' hSx => by go_simp⟩) hHeld ?_; (try simp only [Act.put, List.setIfInBounds_toArray, List.set]); refine Qa 13 (some 40) (.agg rc) rfl rfl (by kernel_rfl) (by kernel_rfl) (by kernel_rfl) (fun _ _ _ h => h) (Or.inl ⟨by kernel_rfl, fun x' hSx => by go_simp⟩) hHeld ?_; (try simp only [Act.put, List.setIfInBounds_toArray, List.set]); refine Qa 14 (some 41) (.int .i64 0) rfl rfl (by kernel_rfl) (by kernel_rfl) (by kernel_rfl) (fun _ _ _ h => h) (Or.inl ⟨by kernel_rfl, fun x' hSx => by go_simp⟩) hHeld ?_; (try simp only [Act.put, List.setIfInBounds_toArray, List.set]); refine Qh 16 (by kernel_rfl) ?_; refine Qba rfl rfl rfl 46 (.tmp 6) (.tmp 40) rfl g6 0 46 #[.int .i64 0, .int .u64 0, .int .i64 0, .int .u64 0, .int .i64 0, .int .i64 0, .int .i64 0, .string ⟨#[]⟩, .string ⟨#[]⟩, .int .u64 0, .int .i64 0, .int .u64 0, .slice none 0 0, .slice none 0 0] rc rfl rfl N2 hinf (by rw [hz14]; decide) hone ?_; intro z3 hr3 ho3; have hpa := Qu #[.int .i64 0, .int .u64 0, .int .i64 0, .int .u64 0, .int .i64 0, .int .i64 0, .int .i64 0, .string ⟨#[]⟩, .string ⟨#[]⟩, .int .u64 0, .int .i64 0, .int .u64 0, .slice none 0 0, .slice none 0 0] rc (by rw [hz14]; rfl); rw [hpa] at hr3; have B3 : Below w.heap.size w z3 := ho3.below B2 L6; refine ⟨HK0.out _ B3, ?_⟩; (try simp only [Act.put, List.setIfInBounds_toArray, List.set]); have hHeld := HK0.out _ B3; refine Qa 17 (some 7) (.int .i64 0) rfl rfl (by kernel_rfl) (by kernel_rfl) (by kernel_rfl) (fun _ _ _ h => h) (Or.inl ⟨by kernel_rfl, fun x' hSx => by go_simp⟩) hHeld ?_; (try simp only [Act.put, List.setIfInBounds_toArray, List.set]); refine wpAnyH_done (by kernel_rfl) ?_ _; refine NoPanic.normal ?_; obtain ⟨a9, ha9⟩ : ∃ a9 : Option Addr, a9 = none := ⟨_, rfl⟩; obtain ⟨c9, hc9⟩ : ∃ c9 : Nat, c9 = 0 := ⟨_, rfl⟩
            exact REST g6 a9 c9 z3 ⟨HH.out.later B3, hr3, Qk.first B3 (Qk.refl _ _), fun hk => by have := (HH.out.here hk).2; omega, ha9, hc9⟩)
        intro g6 a9 c9 z HZ; go_wp2_with (with_reducible refine Qw 45 rfl ?_); refine Qf ?_; refine Qd rfl 46 (.tmp 6) rfl g6 rfl rc HZ.out.2.1 _ Try.underlying46 rfl hinf ?_; go_wp2_with fail; refine (HTU.out z F HZ.out.1).mono ?_; rintro e z2 ⟨F2, rfl, hb2, ha2⟩; have H2 : Hid (HB z2 B g F2 (h.turn n i cr) /\ Qb z2 g6 46 rc /\ Qk F F2 w z2) := ⟨hb2, ha2.row HZ.out.2.1 HZ.out.2.2.2.1, HZ.out.2.2.1.trans ha2⟩; have c9r := H2.out.2.1.cell 9 _ HNX.out; have f3 := hb2.free (o + 3); have t3 := (hb2.tu hi HO.out).2.2.2; clear hb2 ha2 HZ HCR HK0 HTU; obtain ⟨q, hq⟩ : ∃ q, q = cr.n := ⟨_, rfl⟩; rw [<- hq] at c9r HB3; clear hq HNX; go_wp2
        have q8 := H2.out.1.cell (h' := (h.turn n i cr).nextIs i q) (o + 3) (.int .u64 (q : Int)) (fun cs a b c H => by rw [HO.out]; exact H.setTx hi _ 3 (by omega) _ rfl (fun k hk he => by
          rcases (show k = 0 ∨ k = 1 ∨ k = 2 ∨ k = 3 by omega) with rfl | rfl | rfl | rfl
          · rfl
          · rfl
          · rfl
          · exact absurd rfl he)) rfl rfl rfl
        refine bodyPost_end (results_none rfl _ _ _) rfl ⟨F2, rfl, ?_, H2.out.2.2.trans q8.2⟩; rw [HB3.out]; exact q8.1
structure Hs.sound (h : Hs) : Prop where
  few : h.few
  rise : ∀ n, n < 3 -> Qmb 0 (h.lg n)
  pgs : ∀ n, n < 3 -> ∀ r ∈ h.lg n, r.k = 1 -> r.c.pg < 4
  next : ∀ i, i < 9 -> (h.tx i).next ≠ 0 -> ∃ r ∈ h.lg (i / 3), r.l = (h.tx i).next /\ r.k = 1
def litR (k s : Int) : Array Value := #[.int .i64 k, .int .u64 0, .int .i64 0, .int .u64 0, .int .i64 0, .int .i64 0, .int .i64 0, .string ⟨#[]⟩, .string ⟨#[]⟩, .int .u64 0, .int .i64 s, .int .u64 0, .slice none 0 0, .slice none 0 0]
theorem Qby : (Try.prog.info? 96).map (·.size) = some 7 := by kernel_rfl
theorem Qsj (k s : Int) : rcF (Qtc (Qaa k Ch.zero s)) = litR k s := rfl
theorem bare_bare (k s : Int) : (Qaa k Ch.zero s).bare := ⟨rfl, rfl, Qhc Qxm.c rfl rfl⟩
theorem does_kd {h : Hs} {ac : Ac} {n k kd : Nat} (hn : n = pick15 ac.n 3) (hk : k = pick15 ac.t 3) (hd : kd = pick15 ac.k 13) : h.does ac = if kd <= 5 then h.change n (n * 3 + k) ac else if kd = 12 then h.setCk n (max (h.ck n) (h.ck k)) else if (h.tx (n * 3 + k)).last = 0 then h else h.does2 n (n * 3 + k) kd ac := by
  rw [hn, hk, hd]; rfl
theorem hdoes15 (w : World) (B g : Nat) (F : Nat -> Prop) (h : Hs) (ac : Ac) (H : HB w B g F h) (hf : ac.fits) (hs : h.sound) :
    Calls Try.prog 38 #[.pointer (some ⟨g, 0, none⟩), .agg (acA ac)] w fun e w' => ∃ F', e = .returned (.tuple #[]) /\ HB w' B g F' (h.does ac) /\ Qk F F' w w' := by
  have HS := Qc hs; have HFT := Qc hf; have hac : acA ac = #[.int .i64 ac.k, .int .i64 ac.n, .int .i64 ac.t, .int .i64 ac.pg, .int .i64 ac.sl, .bool ac.d, .string ac.v] := rfl; rw [hac]; have hb0 : Below w.heap.size w (w.alloc (.cells #[.int .i64 ac.k, .int .i64 ac.n, .int .i64 ac.t, .int .i64 ac.pg, .int .i64 ac.sl, .bool ac.d, .string ac.v] 96)) := (Below.refl _ _).alloc (Nat.le_refl _) _; obtain ⟨g3, hg3⟩ : ∃ k, k = w.heap.size := ⟨_, rfl⟩; have HG3 := Qc hg3
  have H0 : Hid (HB (w.alloc (.cells #[.int .i64 ac.k, .int .i64 ac.n, .int .i64 ac.t, .int .i64 ac.pg, .int .i64 ac.sl, .bool ac.d, .string ac.v] 96)) B g F h /\ Qb (w.alloc (.cells #[.int .i64 ac.k, .int .i64 ac.n, .int .i64 ac.t, .int .i64 ac.pg, .int .i64 ac.sl, .bool ac.d, .string ac.v] 96)) g3 96 #[.int .i64 ac.k, .int .i64 ac.n, .int .i64 ac.t, .int .i64 ac.pg, .int .i64 ac.sl, .bool ac.d, .string ac.v] /\ Qk F F w (w.alloc (.cells #[.int .i64 ac.k, .int .i64 ac.n, .int .i64 ac.t, .int .i64 ac.pg, .int .i64 ac.sl, .bool ac.d, .string ac.v] 96)) /\ ¬ F g3) := by
    rw [hg3]; exact ⟨H.later hb0, Qb.new w _ _, Qk.first hb0 (Qk.refl _ _), fun hk => by have := (H.here hk).2; omega⟩
  have HP1 := Qc (fun w => (Qok ac.n 3 w hf.n (by decide) (by decide)).mono (fun e w' h => And.intro h.1 h.2.symm)); have HP2 := Qc (fun w => (Qok ac.t 3 w hf.t (by decide) (by decide)).mono (fun e w' h => And.intro h.1 h.2.symm)); have HP3 := Qc (fun w => (Qok ac.k 13 w hf.k (by decide) (by decide)).mono (fun e w' h => And.intro h.1 h.2.symm)); have HP4 := Qc (fun w => (Qok ac.sl 8 w hf.sl (by decide) (by decide)).mono (fun e w' h => And.intro h.1 h.2.symm)); obtain ⟨n, hn0⟩ : ∃ p, p = pick15 ac.n 3 := ⟨_, rfl⟩; obtain ⟨k, hk0⟩ : ∃ p, p = pick15 ac.t 3 := ⟨_, rfl⟩; obtain ⟨kd, hd0⟩ : ∃ p, p = pick15 ac.k 13 := ⟨_, rfl⟩; obtain ⟨sl, hsl0⟩ : ∃ p, p = pick15 ac.sl 8 := ⟨_, rfl⟩; have hn : n < 3 := by rw [hn0]; exact Qdc _ _ (by decide)
  have hk : k < 3 := by rw [hk0]; exact Qdc _ _ (by decide)
  have hd : kd < 13 := by rw [hd0]; exact Qdc _ _ (by decide)
  have hsl : sl < 8 := by rw [hsl0]; exact Qdc _ _ (by decide)
  have in3 : (n : Int) < 3 := by omega
  have ik3 : (k : Int) < 3 := by omega
  have HD := Qc (does_kd (h := h) (ac := ac) hn0 hk0 hd0); have HSL := Qc hsl0; rw [<- hn0] at HP1; rw [<- hk0] at HP2; rw [<- hd0] at HP3; rw [<- hsl0] at HP4; clear hb0 hg3 H hac hs hf hn0 hk0 hd0 hsl0; go_enter Try.func38, Try.ntmps38; go_wp2_with fail; rw [<- HG3.out]; refine Qwa (fun y => HB y B g F h /\ Qb y g3 96 #[.int .i64 ac.k, .int .i64 ac.n, .int .i64 ac.t, .int .i64 ac.pg, .int .i64 ac.sl, .bool ac.d, .string ac.v] /\ Qk F F w y /\ ¬ F g3) H0.out ?_; intro y HY0; have HY := Qc HY0; have a2 := HY.out.2.1.cell 2 (.int .i64 ac.t) rfl; clear HY0 H0; refine (HP1.out y).mono ?_; rintro e y1 ⟨rfl, rfl⟩; go_wp2_with fail; go_quiet (first | (go_at_call 56; first | with_reducible exact Calls.quiet_of_same (HP2.out _))); clear a2; refine Qhd (fun y => HB y B g F h /\ Qb y g3 96 #[.int .i64 ac.k, .int .i64 ac.n, .int .i64 ac.t, .int .i64 ac.pg, .int .i64 ac.sl, .bool ac.d, .string ac.v] /\ Qk F F w y /\ ¬ F g3) (show _ from ⟨HY.out.1.later (Qt (Below.refl _ _) _), HY.out.2.1, HY.out.2.2.1.later (Qt (Below.refl _ _) _), HY.out.2.2.2⟩) ?_; clear HY; intro y HY0; have HY := Qc HY0; have a0 := HY.out.2.1.cell 0 (.int .i64 ac.k) rfl; clear HY0; go_wp2_with fail; refine (HP3.out y).mono ?_; rintro e y2 ⟨rfl, hy2⟩; subst y2; clear a0; obtain ⟨i, hi0⟩ : ∃ i, i = n * 3 + k := ⟨_, rfl⟩; have hi : i < 9 := by omega
  have hi3 : i / 3 = n := by omega
  rw [<- hi0] at HD; obtain ⟨o, ho⟩ : ∃ o, o = 9 + n * 12 + k * 4 := ⟨_, rfl⟩; rw [<- ho]; have HO : Hid (o = 9 + i * 4) := by show o = _; omega
  have HI3 := Qc hi3; clear ho hi0 hi3
  by_cases d5 : kd <= 5
  · have d5i : (kd : Int) <= 5 := by omega
    have HC := Qc (hchange15 y B g n i o F h ac HY.out.1 hn hi HO.out HFT.out HS.out.few); rw [show acA ac = #[.int .i64 ac.k, .int .i64 ac.n, .int .i64 ac.t, .int .i64 ac.pg, .int .i64 ac.sl, .bool ac.d, .string ac.v] from rfl] at HC; go_wp2_with (with_reducible refine Qw 28 rfl ?_); refine Qf ?_; refine Qd rfl 96 (.tmp 3) rfl g3 rfl #[.int .i64 ac.k, .int .i64 ac.n, .int .i64 ac.t, .int .i64 ac.pg, .int .i64 ac.sl, .bool ac.d, .string ac.v] HY.out.2.1 _ Try.underlying96 rfl Qby ?_; go_wp2_with fail; refine HC.out.mono ?_; rintro e z ⟨F1, rfl, hb1, ha1⟩; have H1 := Qc (And.intro hb1 ha1); clear hb1 ha1 HC; go_wp2; refine bodyPost_ret (results_none rfl _ _ _) rfl ⟨F1, rfl, ?_, HY.out.2.2.1.trans H1.out.2⟩; rw [HD.out, if_pos d5]; exact H1.out.1
  have d5i : ¬ (kd : Int) <= 5 := by omega
  by_cases d12 : kd = 12
  · subst d12; have c1 := HY.out.1.ck hn; have c2 := HY.out.1.ck hk; have fr := HY.out.1.free (3 + n); have a2 := HY.out.2.1.cell 2 (.int .i64 ac.t) rfl; have HN3 : Hid (¬ g3 = g) := fun e => HY.out.2.2.2 (by rw [e]; exact HY.out.1.mine)
    obtain ⟨M, hM⟩ : ∃ M, M = max (h.ck n) (h.ck k) := ⟨_, rfl⟩
    have HM : Hid (h.does ac = h.setCk n M) := by
      show h.does ac = _; rw [HD.out, if_neg (by decide), if_pos rfl, hM]
    generalize h.ck n = p1 at *; generalize h.ck k = p2 at *
    have hmx : (if p1 < p2 then (p2 : Int) else (p1 : Int)) = (M : Int) := by
      rw [hM]
      by_cases hq : p1 < p2
      · rw [if_pos hq]; omega
      · rw [if_neg hq]; omega
    clear hM; go_wp2_with fail; refine wp_region_noPanic ?_; refine wp_region_held_drew (S := fun z => z.cell? ⟨g3, 2, none⟩ = some (.int .i64 ac.t)) (by kernel_rfl) (a2) (fun hHeld => ?_); refine Qa 0 (some 32) (.pointer (some ⟨g, 0, none⟩)) rfl rfl (by kernel_rfl) (by kernel_rfl) (by kernel_rfl) (fun _ _ _ h => h) (Or.inl ⟨by kernel_rfl, fun x' hSx => by go_simp⟩) hHeld ?_; (try simp only [Act.put, List.setIfInBounds_toArray, List.set]); refine Qa 1 (some 33) (.int .i64 (n : Int)) rfl rfl (by kernel_rfl) (by kernel_rfl) (by kernel_rfl) (fun _ _ _ h => h) (Or.inl ⟨by kernel_rfl, fun x' hSx => by go_simp⟩) hHeld ?_; (try simp only [Act.put, List.setIfInBounds_toArray, List.set]); refine Qa 2 (some 34) (.pointer (some ⟨g, 0, none⟩)) rfl rfl (by kernel_rfl) (by kernel_rfl) (by kernel_rfl) (fun _ _ _ h => h) (Or.inl ⟨by kernel_rfl, fun x' hSx => by go_simp⟩) hHeld ?_; (try simp only [Act.put, List.setIfInBounds_toArray, List.set]); refine Qa 3 (some 35) (.int .i64 (n : Int)) rfl rfl (by kernel_rfl) (by kernel_rfl) (by kernel_rfl) (fun _ _ _ h => h) (Or.inl ⟨by kernel_rfl, fun x' hSx => by go_simp⟩) hHeld ?_; (try simp only [Act.put, List.setIfInBounds_toArray, List.set]); refine Qa 4 (some 36) (.pointer (some ⟨g, 0, none⟩)) rfl rfl (by kernel_rfl) (by kernel_rfl) (by kernel_rfl) (fun _ _ _ h => h) (Or.inl ⟨by kernel_rfl, fun x' hSx => by go_simp⟩) hHeld ?_; (try simp only [Act.put, List.setIfInBounds_toArray, List.set]); refine Qa 5 (some 37) (.pointer (some ⟨g, 3, none⟩)) rfl rfl (by kernel_rfl) (by kernel_rfl) (by kernel_rfl) (fun _ _ _ h => h) (Or.inl ⟨by kernel_rfl, fun x' hSx => by go_simp⟩) hHeld ?_; (try simp only [Act.put, List.setIfInBounds_toArray, List.set]); refine Qa 6 (some 38) (.pointer (some ⟨g, 3 + n, none⟩)) rfl rfl (by kernel_rfl) (by kernel_rfl) (by kernel_rfl) (fun _ _ _ h => h) (Or.inl ⟨by kernel_rfl, fun x' hSx => by go_simp⟩) hHeld ?_; (try simp only [Act.put, List.setIfInBounds_toArray, List.set]); refine Qa 8 (some 40) (.pointer (some ⟨g, 0, none⟩)) rfl rfl (by kernel_rfl) (by kernel_rfl) (by kernel_rfl) (fun _ _ _ h => h) (Or.inl ⟨by kernel_rfl, fun x' hSx => by go_simp⟩) hHeld ?_; (try simp only [Act.put, List.setIfInBounds_toArray, List.set]); refine Qa 9 (some 41) (.pointer (some ⟨g3, 2, none⟩)) rfl rfl (by kernel_rfl) (by kernel_rfl) (by kernel_rfl) (fun _ _ _ h => h) (Or.inl ⟨by kernel_rfl, fun x' hSx => by go_simp⟩) hHeld ?_; (try simp only [Act.put, List.setIfInBounds_toArray, List.set])
    refine Qa 10 (some 42) (.int .i64 ac.t) rfl rfl (by kernel_rfl) (by kernel_rfl) (by kernel_rfl) (fun _ _ _ h => h) (Or.inl ⟨by kernel_rfl, fun x' hSx => by have h : World.cell? x' ⟨g3, 2, none⟩ = some (.int .i64 ac.t) := hSx; go_simp⟩) hHeld ?_; (try simp only [Act.put, List.setIfInBounds_toArray, List.set]); refine Qa 12 (some 44) (.pointer (some ⟨g, 0, none⟩)) rfl rfl (by kernel_rfl) (by kernel_rfl) (by kernel_rfl) (fun _ _ _ h => h) (Or.inl ⟨by kernel_rfl, fun x' hSx => by go_simp⟩) hHeld ?_; (try simp only [Act.put, List.setIfInBounds_toArray, List.set]); refine Qa 13 (some 45) (.pointer (some ⟨g, 3, none⟩)) rfl rfl (by kernel_rfl) (by kernel_rfl) (by kernel_rfl) (fun _ _ _ h => h) (Or.inl ⟨by kernel_rfl, fun x' hSx => by go_simp⟩) hHeld ?_; (try simp only [Act.put, List.setIfInBounds_toArray, List.set]); refine Qa 17 (some 49) (.pointer (some ⟨g, 0, none⟩)) rfl rfl (by kernel_rfl) (by kernel_rfl) (by kernel_rfl) (fun _ _ _ h => h) (Or.inl ⟨by kernel_rfl, fun x' hSx => by go_simp⟩) hHeld ?_; (try simp only [Act.put, List.setIfInBounds_toArray, List.set]); refine Qa 18 (some 50) (.pointer (some ⟨g, 3, none⟩)) rfl rfl (by kernel_rfl) (by kernel_rfl) (by kernel_rfl) (fun _ _ _ h => h) (Or.inl ⟨by kernel_rfl, fun x' hSx => by go_simp⟩) hHeld ?_; (try simp only [Act.put, List.setIfInBounds_toArray, List.set])
    refine Qqc 7 11 (by kernel_rfl) ?_ ?_
    · skip; refine Qs (some 39) rfl rfl rfl (.int .u64 (p1 : Int)) y.drew ?hz ?_; (case hz => go_simp); refine ⟨a2, ?_⟩; (try simp only [Act.put, List.setIfInBounds_toArray, List.set]); refine Qh 11 (by kernel_rfl) ?_; refine Qca (some 43) rfl rfl rfl 56 #[.int .i64 ac.t, .int .i64 3] ?he ((HP2.out y.drew).mono ?_); (case he => go_simp); rintro e z0 ⟨rfl, hz0⟩; subst z0; refine ⟨_, rfl, a2, ?_⟩; (try simp only [Act.put, List.setIfInBounds_toArray, List.set]); refine Qa 14 (some 46) (.pointer (some ⟨g, 3 + k, none⟩)) rfl rfl (by kernel_rfl) (by kernel_rfl) (by kernel_rfl) (fun _ _ _ h => h) (Or.inl ⟨by kernel_rfl, fun x' hSx => by go_simp⟩) hHeld ?_; (try simp only [Act.put, List.setIfInBounds_toArray, List.set]); refine Qh 15 (by kernel_rfl) ?_; refine Qs (some 47) rfl rfl rfl (.int .u64 (p2 : Int)) y.drew ?hz ?_; (case hz => go_simp); refine ⟨a2, ?_⟩; (try simp only [Act.put, List.setIfInBounds_toArray, List.set]); refine Qa 16 (some 48) (.int .u64 (M : Int)) rfl rfl (by kernel_rfl) (by kernel_rfl) (by kernel_rfl) (fun _ _ _ h => h) (Or.inl ⟨by kernel_rfl, fun x' hSx => by go_simp⟩) hHeld ?_; (try simp only [Act.put, List.setIfInBounds_toArray, List.set]); refine Qa 19 (some 51) (.pointer (some ⟨g, 3 + n, none⟩)) rfl rfl (by kernel_rfl) (by kernel_rfl) (by kernel_rfl) (fun _ _ _ h => h) (Or.inl ⟨by kernel_rfl, fun x' hSx => by go_simp⟩) hHeld ?_; (try simp only [Act.put, List.setIfInBounds_toArray, List.set]); refine Qh 20 (by kernel_rfl) ?_; have q5 := HY.out.1.drew.cell (h' := h.setCk n M) (3 + n) (.int .u64 (M : Int)) (fun cs a b c H => H.setCk hn M) rfl rfl rfl; refine Qma rfl rfl rfl (y.drew.setCell ⟨g, 3 + n, none⟩ (.int .u64 (M : Int))) ?hs ?_; (case hs => go_simp); refine ⟨((HY.out.2.1.later (Qp (Below.refl _ _))).other ⟨g, 3 + n, none⟩ _ (fun e => HN3.out e)).cell 2 _ rfl, ?_⟩; (try simp only [Act.put, List.setIfInBounds_toArray, List.set]); refine wpAnyH_done (by kernel_rfl) ?_ _; refine NoPanic.normal ?_; go_wp2; refine bodyPost_ret (results_none rfl _ _ _) rfl ⟨F, rfl, ?_, (HY.out.2.2.1.later (Qp (Below.refl _ _))).trans q5.2⟩; rw [HM.out]; exact q5.1
    · skip; refine Qca (some 43) rfl rfl rfl 56 #[.int .i64 ac.t, .int .i64 3] ?he ((HP2.out y.drew).mono ?_); (case he => go_simp); rintro e z0 ⟨rfl, hz0⟩; subst z0; refine ⟨_, rfl, a2, ?_⟩; (try simp only [Act.put, List.setIfInBounds_toArray, List.set]); refine Qa 14 (some 46) (.pointer (some ⟨g, 3 + k, none⟩)) rfl rfl (by kernel_rfl) (by kernel_rfl) (by kernel_rfl) (fun _ _ _ h => h) (Or.inl ⟨by kernel_rfl, fun x' hSx => by go_simp⟩) hHeld ?_; (try simp only [Act.put, List.setIfInBounds_toArray, List.set])
      refine Qqc 7 15 (by kernel_rfl) ?_ ?_
      · skip; refine Qs (some 39) rfl rfl rfl (.int .u64 (p1 : Int)) y.drew ?hz ?_; (case hz => go_simp); refine ⟨a2, ?_⟩; (try simp only [Act.put, List.setIfInBounds_toArray, List.set]); refine Qh 15 (by kernel_rfl) ?_; refine Qs (some 47) rfl rfl rfl (.int .u64 (p2 : Int)) y.drew ?hz ?_; (case hz => go_simp); refine ⟨a2, ?_⟩; (try simp only [Act.put, List.setIfInBounds_toArray, List.set]); refine Qa 16 (some 48) (.int .u64 (M : Int)) rfl rfl (by kernel_rfl) (by kernel_rfl) (by kernel_rfl) (fun _ _ _ h => h) (Or.inl ⟨by kernel_rfl, fun x' hSx => by go_simp⟩) hHeld ?_; (try simp only [Act.put, List.setIfInBounds_toArray, List.set]); refine Qa 19 (some 51) (.pointer (some ⟨g, 3 + n, none⟩)) rfl rfl (by kernel_rfl) (by kernel_rfl) (by kernel_rfl) (fun _ _ _ h => h) (Or.inl ⟨by kernel_rfl, fun x' hSx => by go_simp⟩) hHeld ?_; (try simp only [Act.put, List.setIfInBounds_toArray, List.set]); refine Qh 20 (by kernel_rfl) ?_; have q5 := HY.out.1.drew.cell (h' := h.setCk n M) (3 + n) (.int .u64 (M : Int)) (fun cs a b c H => H.setCk hn M) rfl rfl rfl; refine Qma rfl rfl rfl (y.drew.setCell ⟨g, 3 + n, none⟩ (.int .u64 (M : Int))) ?hs ?_; (case hs => go_simp); refine ⟨((HY.out.2.1.later (Qp (Below.refl _ _))).other ⟨g, 3 + n, none⟩ _ (fun e => HN3.out e)).cell 2 _ rfl, ?_⟩; (try simp only [Act.put, List.setIfInBounds_toArray, List.set]); refine wpAnyH_done (by kernel_rfl) ?_ _; refine NoPanic.normal ?_; go_wp2; refine bodyPost_ret (results_none rfl _ _ _) rfl ⟨F, rfl, ?_, (HY.out.2.2.1.later (Qp (Below.refl _ _))).trans q5.2⟩; rw [HM.out]; exact q5.1
      · skip; refine Qs (some 47) rfl rfl rfl (.int .u64 (p2 : Int)) y.drew ?hz ?_; (case hz => go_simp); refine ⟨a2, ?_⟩; (try simp only [Act.put, List.setIfInBounds_toArray, List.set]); refine Qh 7 (by kernel_rfl) ?_; refine Qs (some 39) rfl rfl rfl (.int .u64 (p1 : Int)) y.drew ?hz ?_; (case hz => go_simp); refine ⟨a2, ?_⟩; (try simp only [Act.put, List.setIfInBounds_toArray, List.set]); refine Qa 16 (some 48) (.int .u64 (M : Int)) rfl rfl (by kernel_rfl) (by kernel_rfl) (by kernel_rfl) (fun _ _ _ h => h) (Or.inl ⟨by kernel_rfl, fun x' hSx => by go_simp⟩) hHeld ?_; (try simp only [Act.put, List.setIfInBounds_toArray, List.set]); refine Qa 19 (some 51) (.pointer (some ⟨g, 3 + n, none⟩)) rfl rfl (by kernel_rfl) (by kernel_rfl) (by kernel_rfl) (fun _ _ _ h => h) (Or.inl ⟨by kernel_rfl, fun x' hSx => by go_simp⟩) hHeld ?_; (try simp only [Act.put, List.setIfInBounds_toArray, List.set]); refine Qh 20 (by kernel_rfl) ?_; have q5 := HY.out.1.drew.cell (h' := h.setCk n M) (3 + n) (.int .u64 (M : Int)) (fun cs a b c H => H.setCk hn M) rfl rfl rfl; refine Qma rfl rfl rfl (y.drew.setCell ⟨g, 3 + n, none⟩ (.int .u64 (M : Int))) ?hs ?_; (case hs => go_simp); refine ⟨((HY.out.2.1.later (Qp (Below.refl _ _))).other ⟨g, 3 + n, none⟩ _ (fun e => HN3.out e)).cell 2 _ rfl, ?_⟩; (try simp only [Act.put, List.setIfInBounds_toArray, List.set]); refine wpAnyH_done (by kernel_rfl) ?_ _; refine NoPanic.normal ?_; go_wp2; refine bodyPost_ret (results_none rfl _ _ _) rfl ⟨F, rfl, ?_, (HY.out.2.2.1.later (Qp (Below.refl _ _))).trans q5.2⟩; rw [HM.out]; exact q5.1
  have d12i : ((kd : Int) == 12) = false := by simp; omega
  obtain ⟨t0, t1, t2, t3⟩ := HY.out.1.tu hi HO.out
  by_cases d0 : (h.tx i).last = 0
  · rw [d0] at t2; go_wp2; refine bodyPost_ret (results_none rfl _ _ _) rfl ⟨F, rfl, ?_, HY.out.2.2.1⟩; rw [HD.out, if_neg d5, if_neg d12, if_pos d0]; exact HY.out.1
  have d0i : (((h.tx i).last : Int) == 0) = false := by simpa using d0
  have HD2 : Hid (h.does ac = h.does2 n i kd ac) := by
    show h.does ac = _; rw [HD.out, if_neg d5, if_neg d12, if_neg d0]
  have HTX : Hid (h.tx i = h.tx i) := rfl; have HW := Qc (HS.out.few); have HLOG := Qc (fun z F' kk ss (hz : HB z B g F' h) => hlog15 z B g n i o 0 F' h (Qaa kk Ch.zero ss) hz hn hi HO.out (bare_bare kk ss) (Nat.le_trans (HS.out.few.ck n hn) (by decide)) (by decide) (HS.out.few.lg n hn)); have HFR := Qc (fun z F' h' (hz : HB z B g F' h') => hfree15 z B g n i o F' h' hz hn hi HO.out); clear d12i HD; obtain ⟨st, hst⟩ : ∃ c, c = (h.tx i).st := ⟨_, rfl⟩; obtain ⟨nx, hnx⟩ : ∃ c, c = (h.tx i).next := ⟨_, rfl⟩; obtain ⟨lst, hlst⟩ : ∃ c, c = (h.tx i).last := ⟨_, rfl⟩; rw [<- hst] at t1; rw [<- hnx] at t3; rw [<- hlst] at t2 d0i; have HTT : Hid (st = (h.tx i).st /\ nx = (h.tx i).next /\ lst = (h.tx i).last) := ⟨hst, hnx, hlst⟩; clear hst hnx hlst d0 t0; have hk6 : kd = 6 ∨ kd = 7 ∨ kd = 8 ∨ kd = 9 ∨ kd = 10 ∨ kd = 11 := by omega
  rcases hk6 with rfl | rfl | rfl | rfl | rfl | rfl
  · skip
    by_cases e1 : st = 1
    · subst e1
      have HR6 : Hid (h.does ac = (((h.log n i (Qaa 3 Ch.zero 0) 0).setHi (max h.hi (h.lsn n 0))).state i 3).free n i) := by
        show h.does ac = _; rw [HD2.out]; unfold Hs.does2; rw [if_pos ⟨rfl, HTT.out.1.symm⟩]
      have HL := Qc (fun z (hz : HB z B g F h) => HLOG.out z F 3 0 hz); rw [Qsj, show ((0 : Nat) : Int) = 0 from rfl] at HL; unfold litR at HL; obtain ⟨hL, hhL⟩ : ∃ q, q = h.log n i (Qaa 3 Ch.zero 0) 0 := ⟨_, rfl⟩; rw [<- hhL] at HL HR6; have HLh : Hid (hL.hi = h.hi) := by rw [hhL]; rfl
      obtain ⟨L, hL0⟩ : ∃ q, q = h.lsn n 0 := ⟨_, rfl⟩; rw [<- hL0] at HL HR6; obtain ⟨q, hq⟩ : ∃ q, q = h.hi := ⟨_, rfl⟩; rw [<- hq] at HR6 HLh; obtain ⟨M, hM⟩ : ∃ M, M = max q L := ⟨_, rfl⟩; rw [<- hM] at HR6
      have hmx : (if q < L then (L : Int) else (q : Int)) = (M : Int) := by
        rw [hM]
        by_cases hc : q < L
        · rw [if_pos hc]; omega
        · rw [if_neg hc]; omega
      have c4 : y.drew.cell? ⟨g, 173, none⟩ = some (.int .u64 (q : Int)) := by rw [hq]; exact HY.out.1.drew.hi
      clear hM hL0 hhL hq t3; go_wp2_with fail; clear t1 t2 d0i; refine wp_region_noPanic ?_; refine wp_region_held_drew (S := fun _ => True) (by kernel_rfl) (trivial) (fun hHeld => ?_); refine Qa 0 (some 68) (.pointer (some ⟨g, 0, none⟩)) rfl rfl (by kernel_rfl) (by kernel_rfl) (by kernel_rfl) (fun _ _ _ h => h) (Or.inl ⟨by kernel_rfl, fun x' hSx => by go_simp⟩) hHeld ?_; (try simp only [Act.put, List.setIfInBounds_toArray, List.set]); refine Qa 1 (some 69) (.pointer (some ⟨g, 0, none⟩)) rfl rfl (by kernel_rfl) (by kernel_rfl) (by kernel_rfl) (fun _ _ _ h => h) (Or.inl ⟨by kernel_rfl, fun x' hSx => by go_simp⟩) hHeld ?_; (try simp only [Act.put, List.setIfInBounds_toArray, List.set]); refine Qa 2 (some 70) (.pointer (some ⟨g, 0, none⟩)) rfl rfl (by kernel_rfl) (by kernel_rfl) (by kernel_rfl) (fun _ _ _ h => h) (Or.inl ⟨by kernel_rfl, fun x' hSx => by go_simp⟩) hHeld ?_; (try simp only [Act.put, List.setIfInBounds_toArray, List.set]); refine Qa 3 (some 71) (.pointer (some ⟨g, 173, none⟩)) rfl rfl (by kernel_rfl) (by kernel_rfl) (by kernel_rfl) (fun _ _ _ h => h) (Or.inl ⟨by kernel_rfl, fun x' hSx => by go_simp⟩) hHeld ?_; (try simp only [Act.put, List.setIfInBounds_toArray, List.set]); refine Qa 5 (some 73) (.pointer (some ⟨g, 0, none⟩)) rfl rfl (by kernel_rfl) (by kernel_rfl) (by kernel_rfl) (fun _ _ _ h => h) (Or.inl ⟨by kernel_rfl, fun x' hSx => by go_simp⟩) hHeld ?_; (try simp only [Act.put, List.setIfInBounds_toArray, List.set]); refine Qa 6 (some 74) (.int .i64 (n : Int)) rfl rfl (by kernel_rfl) (by kernel_rfl) (by kernel_rfl) (fun _ _ _ h => h) (Or.inl ⟨by kernel_rfl, fun x' hSx => by go_simp⟩) hHeld ?_; (try simp only [Act.put, List.setIfInBounds_toArray, List.set]); refine Qa 7 (some 75) (.pointer (some ⟨g, o, none⟩)) rfl rfl (by kernel_rfl) (by kernel_rfl) (by kernel_rfl) (fun _ _ _ h => h) (Or.inl ⟨by kernel_rfl, fun x' hSx => by go_simp⟩) hHeld ?_; (try simp only [Act.put, List.setIfInBounds_toArray, List.set]); refine Qa 8 (some 76) (.agg #[.int .i64 3, .int .u64 0, .int .i64 0, .int .u64 0, .int .i64 0, .int .i64 0, .int .i64 0, .string ⟨#[]⟩, .string ⟨#[]⟩, .int .u64 0, .int .i64 0, .int .u64 0, .slice none 0 0, .slice none 0 0]) rfl rfl (by kernel_rfl) (by kernel_rfl) (by kernel_rfl) (fun _ _ _ h => h) (Or.inl ⟨by kernel_rfl, fun x' hSx => by go_simp⟩) hHeld ?_; (try simp only [Act.put, List.setIfInBounds_toArray, List.set])
      refine Qqc 4 9 (by kernel_rfl) ?_ ?_
      · skip; refine Qs (some 72) rfl rfl rfl (.int .u64 (q : Int)) y.drew ?hz ?_; (case hz => go_simp); refine ⟨trivial, ?_⟩; (try simp only [Act.put, List.setIfInBounds_toArray, List.set]); refine Qh 9 (by kernel_rfl) ?_; refine Qca (some 77) rfl rfl rfl 58 #[.pointer (some ⟨g, 0, none⟩), .int .i64 (n : Int), .pointer (some ⟨g, o, none⟩), .agg #[.int .i64 3, .int .u64 0, .int .i64 0, .int .u64 0, .int .i64 0, .int .i64 0, .int .i64 0, .string ⟨#[]⟩, .string ⟨#[]⟩, .int .u64 0, .int .i64 0, .int .u64 0, .slice none 0 0, .slice none 0 0], .int .u64 0] ?he ((HL.out y.drew HY.out.1.drew).mono ?_); (case he => go_simp); rintro e z ⟨F1, rfl, hb1, ha1⟩
        have c5 : z.cell? ⟨g, 173, none⟩ = some (.int .u64 (q : Int)) := by
          rw [<- HLh.out]; exact hb1.hi
        have HZ : Hid (HB z B g F1 hL /\ Qk F F1 w z) := ⟨hb1, (HY.out.2.2.1.later (Qp (Below.refl _ _))).trans ha1⟩; clear hb1 ha1; refine ⟨_, rfl, trivial, ?_⟩; (try simp only [Act.put, List.setIfInBounds_toArray, List.set]); refine Qa 10 (some 78) (.int .u64 (M : Int)) rfl rfl (by kernel_rfl) (by kernel_rfl) (by kernel_rfl) (fun _ _ _ h => h) (Or.inl ⟨by kernel_rfl, fun x' hSx => by go_simp⟩) hHeld ?_; (try simp only [Act.put, List.setIfInBounds_toArray, List.set]); refine Qa 11 (some 79) (.pointer (some ⟨g, 0, none⟩)) rfl rfl (by kernel_rfl) (by kernel_rfl) (by kernel_rfl) (fun _ _ _ h => h) (Or.inl ⟨by kernel_rfl, fun x' hSx => by go_simp⟩) hHeld ?_; (try simp only [Act.put, List.setIfInBounds_toArray, List.set]); refine Qa 12 (some 80) (.pointer (some ⟨g, 173, none⟩)) rfl rfl (by kernel_rfl) (by kernel_rfl) (by kernel_rfl) (fun _ _ _ h => h) (Or.inl ⟨by kernel_rfl, fun x' hSx => by go_simp⟩) hHeld ?_; (try simp only [Act.put, List.setIfInBounds_toArray, List.set]); refine Qh 13 (by kernel_rfl) ?_; have fr := HZ.out.1.free 173; have q5 := HZ.out.1.cell (h' := hL.setHi M) 173 (.int .u64 (M : Int)) (fun cs a b c H => H.setHi M) rfl rfl rfl; have H5 : Hid (HB (z.setCell ⟨g, 173, none⟩ (.int .u64 (M : Int))) B g F1 (hL.setHi M) /\ Qk F F1 w (z.setCell ⟨g, 173, none⟩ (.int .u64 (M : Int)))) := ⟨q5.1, HZ.out.2.trans q5.2⟩; clear q5; refine Qma rfl rfl rfl (z.setCell ⟨g, 173, none⟩ (.int .u64 (M : Int))) ?hs ?_; (case hs => go_simp); refine ⟨trivial, ?_⟩; (try simp only [Act.put, List.setIfInBounds_toArray, List.set]); refine wpAnyH_done (by kernel_rfl) ?_ _; refine NoPanic.normal ?_; clear hmx c4 c5 fr HZ hHeld; refine Qhd (fun z => HB z B g F1 (hL.setHi M) /\ Qk F F1 w z) H5.out ?_; clear H5; intro z2 H0; have H5 := Qc H0; have f1 := H0.1.free (o + 1); have f1c := (H0.1.tu hi HO.out).2.1; clear H0; go_wp2_with fail
        have q6 := H5.out.1.cell (h' := (hL.setHi M).state i 3) (o + 1) (.int .i64 3) (fun cs a b c H => by rw [HO.out]; exact H.setTx hi _ 1 (by omega) _ rfl (fun k hk he => by
          rcases (show k = 0 ∨ k = 1 ∨ k = 2 ∨ k = 3 by omega) with rfl | rfl | rfl | rfl
          · rfl
          · exact absurd rfl he
          · rfl
          · rfl)) rfl rfl rfl
        have H6 : Hid (HB (z2.setCell ⟨g, o + 1, none⟩ (.int .i64 3)) B g F1 ((hL.setHi M).state i 3) /\ Qk F F1 w (z2.setCell ⟨g, o + 1, none⟩ (.int .i64 3))) := ⟨q6.1, H5.out.2.trans q6.2⟩; clear q6 H5; refine (HFR.out _ F1 _ H6.out.1).mono ?_; rintro e z3 ⟨rfl, hb3, ha3⟩; have H7 : Hid (HB z3 B g F1 (((hL.setHi M).state i 3).free n i) /\ Qk F F1 w z3) := ⟨hb3, H6.out.2.trans ha3⟩; clear hb3 ha3 H6; go_wp2; refine bodyPost_end (results_none rfl _ _ _) rfl ⟨F1, rfl, ?_, H7.out.2⟩; rw [HR6.out]; exact H7.out.1
      · skip; refine Qca (some 77) rfl rfl rfl 58 #[.pointer (some ⟨g, 0, none⟩), .int .i64 (n : Int), .pointer (some ⟨g, o, none⟩), .agg #[.int .i64 3, .int .u64 0, .int .i64 0, .int .u64 0, .int .i64 0, .int .i64 0, .int .i64 0, .string ⟨#[]⟩, .string ⟨#[]⟩, .int .u64 0, .int .i64 0, .int .u64 0, .slice none 0 0, .slice none 0 0], .int .u64 0] ?he ((HL.out y.drew HY.out.1.drew).mono ?_); (case he => go_simp); rintro e z ⟨F1, rfl, hb1, ha1⟩
        have c5 : z.cell? ⟨g, 173, none⟩ = some (.int .u64 (q : Int)) := by
          rw [<- HLh.out]; exact hb1.hi
        have HZ : Hid (HB z B g F1 hL /\ Qk F F1 w z) := ⟨hb1, (HY.out.2.2.1.later (Qp (Below.refl _ _))).trans ha1⟩; clear hb1 ha1; refine ⟨_, rfl, trivial, ?_⟩; (try simp only [Act.put, List.setIfInBounds_toArray, List.set]); refine Qh 4 (by kernel_rfl) ?_; refine Qs (some 72) rfl rfl rfl (.int .u64 (q : Int)) z ?hz ?_; (case hz => go_simp); refine ⟨trivial, ?_⟩; (try simp only [Act.put, List.setIfInBounds_toArray, List.set]); refine Qa 10 (some 78) (.int .u64 (M : Int)) rfl rfl (by kernel_rfl) (by kernel_rfl) (by kernel_rfl) (fun _ _ _ h => h) (Or.inl ⟨by kernel_rfl, fun x' hSx => by go_simp⟩) hHeld ?_; (try simp only [Act.put, List.setIfInBounds_toArray, List.set]); refine Qa 11 (some 79) (.pointer (some ⟨g, 0, none⟩)) rfl rfl (by kernel_rfl) (by kernel_rfl) (by kernel_rfl) (fun _ _ _ h => h) (Or.inl ⟨by kernel_rfl, fun x' hSx => by go_simp⟩) hHeld ?_; (try simp only [Act.put, List.setIfInBounds_toArray, List.set]); refine Qa 12 (some 80) (.pointer (some ⟨g, 173, none⟩)) rfl rfl (by kernel_rfl) (by kernel_rfl) (by kernel_rfl) (fun _ _ _ h => h) (Or.inl ⟨by kernel_rfl, fun x' hSx => by go_simp⟩) hHeld ?_; (try simp only [Act.put, List.setIfInBounds_toArray, List.set]); refine Qh 13 (by kernel_rfl) ?_; have fr := HZ.out.1.free 173; have q5 := HZ.out.1.cell (h' := hL.setHi M) 173 (.int .u64 (M : Int)) (fun cs a b c H => H.setHi M) rfl rfl rfl; have H5 : Hid (HB (z.setCell ⟨g, 173, none⟩ (.int .u64 (M : Int))) B g F1 (hL.setHi M) /\ Qk F F1 w (z.setCell ⟨g, 173, none⟩ (.int .u64 (M : Int)))) := ⟨q5.1, HZ.out.2.trans q5.2⟩; clear q5; refine Qma rfl rfl rfl (z.setCell ⟨g, 173, none⟩ (.int .u64 (M : Int))) ?hs ?_; (case hs => go_simp); refine ⟨trivial, ?_⟩; (try simp only [Act.put, List.setIfInBounds_toArray, List.set]); refine wpAnyH_done (by kernel_rfl) ?_ _; refine NoPanic.normal ?_; clear hmx c4 c5 fr HZ hHeld; refine Qhd (fun z => HB z B g F1 (hL.setHi M) /\ Qk F F1 w z) H5.out ?_; clear H5; intro z2 H0; have H5 := Qc H0; have f1 := H0.1.free (o + 1); have f1c := (H0.1.tu hi HO.out).2.1; clear H0; go_wp2_with fail
        have q6 := H5.out.1.cell (h' := (hL.setHi M).state i 3) (o + 1) (.int .i64 3) (fun cs a b c H => by rw [HO.out]; exact H.setTx hi _ 1 (by omega) _ rfl (fun k hk he => by
          rcases (show k = 0 ∨ k = 1 ∨ k = 2 ∨ k = 3 by omega) with rfl | rfl | rfl | rfl
          · rfl
          · exact absurd rfl he
          · rfl
          · rfl)) rfl rfl rfl
        have H6 : Hid (HB (z2.setCell ⟨g, o + 1, none⟩ (.int .i64 3)) B g F1 ((hL.setHi M).state i 3) /\ Qk F F1 w (z2.setCell ⟨g, o + 1, none⟩ (.int .i64 3))) := ⟨q6.1, H5.out.2.trans q6.2⟩; clear q6 H5; refine (HFR.out _ F1 _ H6.out.1).mono ?_; rintro e z3 ⟨rfl, hb3, ha3⟩; have H7 : Hid (HB z3 B g F1 (((hL.setHi M).state i 3).free n i) /\ Qk F F1 w z3) := ⟨hb3, H6.out.2.trans ha3⟩; clear hb3 ha3 H6; go_wp2; refine bodyPost_end (results_none rfl _ _ _) rfl ⟨F1, rfl, ?_, H7.out.2⟩; rw [HR6.out]; exact H7.out.1
    · skip; have e1b : (st == 1) = false := by simpa using e1
      have e1d : decide (st = 1) = false := by simpa using e1
      go_wp2; refine bodyPost_end (results_none rfl _ _ _) rfl ⟨F, rfl, ?_, HY.out.2.2.1⟩; rw [HD2.out]; unfold Hs.does2; rw [if_neg (fun q => e1 (HTT.out.1.trans q.2)), if_neg (by omega), if_neg (by omega), if_neg (by omega), if_neg (by omega)]; exact HY.out.1
  · skip
    by_cases e3 : st = 3
    · subst e3
      have HR6 : Hid (h.does ac = ((h.log n i (Qaa 5 Ch.zero 0) 0).free n i).setTx i Tu.zero) := by
        show h.does ac = _; rw [HD2.out]; unfold Hs.does2; rw [if_neg (by omega), if_pos ⟨rfl, .inl HTT.out.1.symm⟩]
      have HL := Qc (fun z (hz : HB z B g F h) => HLOG.out z F 5 0 hz); rw [Qsj, show ((0 : Nat) : Int) = 0 from rfl] at HL; unfold litR at HL; obtain ⟨hL, hhL⟩ : ∃ q, q = h.log n i (Qaa 5 Ch.zero 0) 0 := ⟨_, rfl⟩; rw [<- hhL] at HL HR6; clear hhL; go_wp2_with fail; refine (HL.out y HY.out.1).mono ?_; rintro e z ⟨F1, rfl, hb1, ha1⟩; have HZ : Hid (HB z B g F1 hL /\ Qk F F1 w z) := ⟨hb1, HY.out.2.2.1.trans ha1⟩; clear hb1 ha1 t1 t2 t3 d0i; go_wp2_with fail; refine (HFR.out z F1 hL HZ.out.1).mono ?_; rintro e z1 ⟨rfl, hb1, ha1⟩; have hq7 : ∃ x, HAt z1 B g x (hL.free n i) /\ F1 = FH g x := hb1; obtain ⟨x, HX, hF⟩ := hq7; have HXB : Hid (HAt z1 B g x (hL.free n i) /\ F1 = FH g x /\ Qk F F1 w z1) := ⟨HX, hF, HZ.out.2.trans ha1⟩
      have hsz : o + (tnA Tu.zero).toArray.size <= x.cs.size := by
        rw [HX.cells.1, HO.out]; show 9 + i * 4 + 4 <= 174; omega
      have hone := tnA_one Tu.zero; clear HX hF hb1 ha1 HZ; go_wp2_with (refine Qm rfl 65 (.tmp 123) (.tmp 122) rfl g o 75 x.cs (tnA Tu.zero).toArray rfl rfl HXB.out.1.blk Quy hsz hone ?_; intro w2 hr2 ho2; refine Qz ?_); refine Qf ?_; go_wp2
      have q8 : HB w2 B g F1 ((hL.free n i).setTx i Tu.zero) /\ Qk F1 F1 z1 w2 := by
        have hr3 : Qb w2 g 75 (Qid x.cs (9 + i * 4) (tnA Tu.zero)) := by
          rw [<- HO.out]; exact hr2
        have hc3 := HXB.out.1.cells.allTx hi Tu.zero; have hb3 := HXB.out.1.own ho2 hr3 hc3 rfl rfl rfl; rw [HXB.out.2.1]; exact ⟨⟨_, hb3, rfl⟩, Qsg ho2 _⟩
      refine bodyPost_end (results_none rfl _ _ _) rfl ⟨F1, rfl, ?_, HXB.out.2.2.trans q8.2⟩; rw [HR6.out]; exact q8.1
    by_cases e2 : st = 2
    · subst e2
      by_cases e4 : nx = 0
      · subst e4
        have HR6 : Hid (h.does ac = ((h.log n i (Qaa 5 Ch.zero 0) 0).free n i).setTx i Tu.zero) := by
          show h.does ac = _; rw [HD2.out]; unfold Hs.does2; rw [if_neg (by omega), if_pos ⟨rfl, .inr ⟨HTT.out.1.symm, HTT.out.2.1.symm⟩⟩]
        have HL := Qc (fun z (hz : HB z B g F h) => HLOG.out z F 5 0 hz); rw [Qsj, show ((0 : Nat) : Int) = 0 from rfl] at HL; unfold litR at HL; obtain ⟨hL, hhL⟩ : ∃ q, q = h.log n i (Qaa 5 Ch.zero 0) 0 := ⟨_, rfl⟩; rw [<- hhL] at HL HR6; clear hhL; go_wp2_with fail; refine (HL.out y HY.out.1).mono ?_; rintro e z ⟨F1, rfl, hb1, ha1⟩; have HZ : Hid (HB z B g F1 hL /\ Qk F F1 w z) := ⟨hb1, HY.out.2.2.1.trans ha1⟩; clear hb1 ha1 t1 t2 t3 d0i; go_wp2_with fail; refine (HFR.out z F1 hL HZ.out.1).mono ?_; rintro e z1 ⟨rfl, hb1, ha1⟩; have hq7 : ∃ x, HAt z1 B g x (hL.free n i) /\ F1 = FH g x := hb1; obtain ⟨x, HX, hF⟩ := hq7; have HXB : Hid (HAt z1 B g x (hL.free n i) /\ F1 = FH g x /\ Qk F F1 w z1) := ⟨HX, hF, HZ.out.2.trans ha1⟩
        have hsz : o + (tnA Tu.zero).toArray.size <= x.cs.size := by
          rw [HX.cells.1, HO.out]; show 9 + i * 4 + 4 <= 174; omega
        have hone := tnA_one Tu.zero; clear HX hF hb1 ha1 HZ; go_wp2_with (refine Qm rfl 65 (.tmp 123) (.tmp 122) rfl g o 75 x.cs (tnA Tu.zero).toArray rfl rfl HXB.out.1.blk Quy hsz hone ?_; intro w2 hr2 ho2; refine Qz ?_); refine Qf ?_; go_wp2
        have q8 : HB w2 B g F1 ((hL.free n i).setTx i Tu.zero) /\ Qk F1 F1 z1 w2 := by
          have hr3 : Qb w2 g 75 (Qid x.cs (9 + i * 4) (tnA Tu.zero)) := by
            rw [<- HO.out]; exact hr2
          have hc3 := HXB.out.1.cells.allTx hi Tu.zero; have hb3 := HXB.out.1.own ho2 hr3 hc3 rfl rfl rfl; rw [HXB.out.2.1]; exact ⟨⟨_, hb3, rfl⟩, Qsg ho2 _⟩
        refine bodyPost_end (results_none rfl _ _ _) rfl ⟨F1, rfl, ?_, HXB.out.2.2.trans q8.2⟩; rw [HR6.out]; exact q8.1
      have e4b : ((nx : Int) == 0) = false := by simpa using e4
      have e4d : decide ((nx : Int) = 0) = false := by simpa using e4
      go_wp2; refine bodyPost_end (results_none rfl _ _ _) rfl ⟨F, rfl, ?_, HY.out.2.2.1⟩; rw [HD2.out]; unfold Hs.does2; rw [if_neg (by omega), if_neg (fun q => by rcases q.2 with a | a; exact absurd (HTT.out.1.trans a) (by decide); exact e4 (HTT.out.2.1.trans a.2)), if_neg (by omega), if_neg (by omega), if_neg (by omega)]; exact HY.out.1
    have e3b : (st == 3) = false := by simpa using e3
    have e3d : decide (st = 3) = false := by simpa using e3
    have e2b : (st == 2) = false := by simpa using e2
    have e2d : decide (st = 2) = false := by simpa using e2
    go_wp2; refine bodyPost_end (results_none rfl _ _ _) rfl ⟨F, rfl, ?_, HY.out.2.2.1⟩; rw [HD2.out]; unfold Hs.does2; rw [if_neg (by omega), if_neg (fun q => by rcases q.2 with a | a; exact e3 (HTT.out.1.trans a); exact e2 (HTT.out.1.trans a.1)), if_neg (by omega), if_neg (by omega), if_neg (by omega)]; exact HY.out.1
  · skip
    by_cases e1 : st = 1
    · subst e1
      have HR6 : Hid (h.does ac = (h.log n i (Qaa 4 Ch.zero 0) 0).state i 2) := by
        show h.does ac = _; rw [HD2.out]; unfold Hs.does2; rw [if_neg (by omega), if_neg (by omega), if_pos ⟨rfl, HTT.out.1.symm⟩]
      have HL := Qc (fun z (hz : HB z B g F h) => HLOG.out z F 4 0 hz); rw [Qsj, show ((0 : Nat) : Int) = 0 from rfl] at HL; unfold litR at HL; obtain ⟨hL, hhL⟩ : ∃ q, q = h.log n i (Qaa 4 Ch.zero 0) 0 := ⟨_, rfl⟩; rw [<- hhL] at HL HR6; clear hhL t3; go_wp2_with fail; refine (HL.out y HY.out.1).mono ?_; rintro e z ⟨F1, rfl, hb1, ha1⟩; have HZ : Hid (HB z B g F1 hL /\ Qk F F1 w z) := ⟨hb1, HY.out.2.2.1.trans ha1⟩; have f1 := hb1.free (o + 1); have f1c := (hb1.tu hi HO.out).2.1; clear hb1 ha1 t1 t2 d0i; go_wp2
      have q6 := HZ.out.1.cell (h' := (hL).state i 2) (o + 1) (.int .i64 2) (fun cs a b c H => by rw [HO.out]; exact H.setTx hi _ 1 (by omega) _ rfl (fun k hk he => by
        rcases (show k = 0 ∨ k = 1 ∨ k = 2 ∨ k = 3 by omega) with rfl | rfl | rfl | rfl
        · rfl
        · exact absurd rfl he
        · rfl
        · rfl)) rfl rfl rfl
      refine bodyPost_end (results_none rfl _ _ _) rfl ⟨F1, rfl, ?_, HZ.out.2.trans q6.2⟩; rw [HR6.out]; exact q6.1
    · skip; have e1b : (st == 1) = false := by simpa using e1
      have e1d : decide (st = 1) = false := by simpa using e1
      go_wp2; refine bodyPost_end (results_none rfl _ _ _) rfl ⟨F, rfl, ?_, HY.out.2.2.1⟩; rw [HD2.out]; unfold Hs.does2; rw [if_neg (by omega), if_neg (by omega), if_neg (fun q => e1 (HTT.out.1.trans q.2)), if_neg (by omega), if_neg (by omega)]; exact HY.out.1
  · skip; have HBK := Qc (hback15 y B g n i o F h HY.out.1 hn hi HO.out HS.out.few (HS.out.rise n hn) (HS.out.pgs n hn) (by have a := HS.out.next i hi; rw [HI3.out] at a; exact a))
    have HR6 : Hid (h.does ac = h.back n i) := by
      show h.does ac = _; rw [HD2.out]; unfold Hs.does2; rw [if_neg (by omega), if_neg (by omega), if_neg (by omega), if_pos (by omega)]
    go_wp2_with fail; clear t1 t2 t3 d0i; refine HBK.out.mono ?_; rintro e z ⟨F1, rfl, hb1, ha1⟩; have HZ : Hid (HB z B g F1 (h.back n i) /\ Qk F F1 w z) := ⟨hb1, HY.out.2.2.1.trans ha1⟩; clear hb1 ha1; go_wp2; refine bodyPost_end (results_none rfl _ _ _) rfl ⟨F1, rfl, ?_, HZ.out.2⟩; rw [HR6.out]; exact HZ.out.1
  · skip; have HBK := Qc (hback15 y B g n i o F h HY.out.1 hn hi HO.out HS.out.few (HS.out.rise n hn) (HS.out.pgs n hn) (by have a := HS.out.next i hi; rw [HI3.out] at a; exact a))
    have HR6 : Hid (h.does ac = h.back n i) := by
      show h.does ac = _; rw [HD2.out]; unfold Hs.does2; rw [if_neg (by omega), if_neg (by omega), if_neg (by omega), if_pos (by omega)]
    go_wp2_with fail; clear t1 t2 t3 d0i; refine HBK.out.mono ?_; rintro e z ⟨F1, rfl, hb1, ha1⟩; have HZ : Hid (HB z B g F1 (h.back n i) /\ Qk F F1 w z) := ⟨hb1, HY.out.2.2.1.trans ha1⟩; clear hb1 ha1; go_wp2; refine bodyPost_end (results_none rfl _ _ _) rfl ⟨F1, rfl, ?_, HZ.out.2⟩; rw [HR6.out]; exact HZ.out.1
  · skip
    by_cases e1 : st = 1
    · subst e1
      have HR6 : Hid (h.does ac = h.log n i (Qaa 6 Ch.zero (1 + (sl : Nat))) 0) := by
        show h.does ac = _; rw [HD2.out]; unfold Hs.does2; rw [if_neg (by omega), if_neg (by omega), if_neg (by omega), if_neg (by omega), if_pos ⟨rfl, HTT.out.1.symm⟩, <- HSL.out]
      have HL := Qc (fun z (hz : HB z B g F h) => HLOG.out z F 6 (1 + (sl : Nat)) hz); rw [Qsj, show ((0 : Nat) : Int) = 0 from rfl] at HL; unfold litR at HL; obtain ⟨hL, hhL⟩ : ∃ q, q = h.log n i (Qaa 6 Ch.zero (1 + (sl : Nat))) 0 := ⟨_, rfl⟩; rw [<- hhL] at HL HR6; clear hhL t3; have a4 := HY.out.2.1.cell 4 (.int .i64 ac.sl) rfl; go_wp2_with fail; clear t1 t2 d0i; refine (HP4.out y).mono ?_; rintro e z0 ⟨rfl, hz0⟩; subst z0; go_wp2_with fail; refine (HL.out y HY.out.1).mono ?_; rintro e z ⟨F1, rfl, hb1, ha1⟩; have HZ : Hid (HB z B g F1 hL /\ Qk F F1 w z) := ⟨hb1, HY.out.2.2.1.trans ha1⟩; clear hb1 ha1 a4; go_wp2; refine bodyPost_end (results_none rfl _ _ _) rfl ⟨F1, rfl, ?_, HZ.out.2⟩; rw [HR6.out]; exact HZ.out.1
    · skip; have e1b : (st == 1) = false := by simpa using e1
      have e1d : decide (st = 1) = false := by simpa using e1
      go_wp2; refine bodyPost_end (results_none rfl _ _ _) rfl ⟨F, rfl, ?_, HY.out.2.2.1⟩; rw [HD2.out]; unfold Hs.does2; rw [if_neg (by omega), if_neg (by omega), if_neg (by omega), if_neg (by omega), if_neg (fun q => e1 (HTT.out.1.trans q.2))]; exact HY.out.1
def Qac (c : Ch) : Nat := c.pg.toNat * 8 + c.at
abbrev Cel := Bool × ByteArray
def doC (f : Nat -> Cel) (c : Ch) : Nat -> Cel := upd f (Qac c) (c.makeU, c.makeV)
def fitsC : (Nat -> Cel) -> List Ch -> Prop
  | _, [] => True
  | f, c :: cs => f (Qac c) = (c.wantU, c.wantV) /\ fitsC (doC f c) cs
def runC : (Nat -> Cel) -> List Ch -> Nat -> Cel
  | f, [] => f
  | f, c :: cs => runC (doC f c) cs
theorem doC_at (f : Nat -> Cel) (c : Ch) : doC f c (Qac c) = (c.makeU, c.makeV) := Qj _ _ _
theorem Qzk (f : Nat -> Cel) (c : Ch) (x : Nat) (h : x ≠ Qac c) : doC f c x = f x := Qq _ _ _ _ h
theorem Qty {f g : Nat -> Cel} (c : Ch) {M : Nat -> Prop} (h : ∀ x, M x -> f x = g x) : ∀ x, M x -> doC f c x = doC g c x := fun x hx => by
  unfold doC upd
  by_cases e : x = Qac c
  · rw [if_pos e, if_pos e]
  · rw [if_neg e, if_neg e]; exact h x hx
theorem Qli {M : Nat -> Prop} : ∀ (cs : List Ch) (f g : Nat -> Cel), (∀ c ∈ cs, M (Qac c)) -> (∀ x, M x -> f x = g x) -> fitsC f cs -> fitsC g cs
  | [], _, _, _, _, _ => trivial
  | c :: cs, f, g, hm, h, hf => by
    refine ⟨by rw [<- h _ (hm c (by simp))]; exact hf.1, Qli cs _ _ (fun d hd => hm d (List.mem_cons_of_mem _ hd)) (Qty c h) hf.2⟩
theorem Qjk {M : Nat -> Prop} : ∀ (cs : List Ch) (f g : Nat -> Cel), (∀ x, M x -> f x = g x) -> ∀ x, M x -> runC f cs x = runC g cs x
  | [], _, _, h, x, hx => h x hx
  | c :: cs, f, g, h, x, hx => Qjk cs _ _ (Qty c h) x hx
theorem Qyg : ∀ (cs : List Ch) (f : Nat -> Cel) (x : Nat), (∀ c ∈ cs, Qac c ≠ x) -> runC f cs x = f x
  | [], _, _, _ => rfl
  | c :: cs, f, x, h => by
    show runC (doC f c) cs x = f x; rw [Qyg cs _ x (fun d hd => h d (List.mem_cons_of_mem _ hd)), Qzk _ _ _ (fun e => h c (by simp) e.symm)]
theorem doC_inv (f : Nat -> Cel) (c : Ch) (hc : c.right) (h : f (Qac c) = (c.wantU, c.wantV)) : Qac (Qfh c) = Qac c /\ doC f c (Qac c) = ((Qfh c).wantU, (Qfh c).wantV) /\ doC (doC f c) (Qfh c) = f := by
  obtain ⟨h1, h2, h3, h4, h5, h6, h7⟩ := Qlg c hc
  have e : Qac (Qfh c) = Qac c := by
    unfold Qac; rw [h2]; unfold Qfh; rw [if_pos hc]
  refine ⟨e, by rw [doC_at, h3, h4], ?_⟩; funext x
  by_cases hx : x = Qac c
  · subst hx; rw [show doC (doC f c) (Qfh c) (Qac c) = doC (doC f c) (Qfh c) (Qac (Qfh c)) by rw [e], doC_at, h5, h6, h]
  · rw [Qzk _ _ _ (by rw [e]; exact hx), Qzk _ _ _ hx]
section
def Hs.cell (h : Hs) (x : Nat) : Cel := ((h.pg (x / 8)).u (x % 8), (h.pg (x / 8)).s (x % 8))
def Qee (l : List Rec) (t : Int) (m : Nat) : Prop := m = 0 ∨ ∃ q ∈ l, q.l = m /\ q.t = t
def chs (l : List Rec) : List Ch := l.map (·.c)
def hasN (o : Lo) (n : Nat) (nr : Int) : Prop := o.nd = (n : Int) /\ o.nr = nr
def Hs.has (h : Hs) (i x : Nat) : Prop := hasN (h.lk x) (i / 3) (h.tx i).nr
def Hs.plan (h : Hs) (i : Nat) : List Rec := Qif (h.lg (i / 3)) (h.tx i).next 0
def Hs.live (h : Hs) (i : Nat) : Prop := (h.tx i).nr ≠ 0 /\ (h.tx i).st ≠ 3
structure Hs.undo (h : Hs) (i : Nat) : Prop where
  fit : fitsC h.cell (chs (h.plan i))
  mine : ∀ c ∈ chs (h.plan i), h.has i (Qac c) /\ c.right /\ c.pg < 4
  was : ∀ x, x < 32 -> h.has i x -> runC h.cell (chs (h.plan i)) x = ((h.lk x).u, (h.lk x).s)
structure Hs.did (h : Hs) (i : Nat) : Prop where
  locked : ∀ r ∈ h.lg (i / 3), r.t = (h.tx i).nr -> r.k = 1 -> h.has i (Qac r.c)
  first : ∀ pre r post, h.lg (i / 3) = pre ++ r :: post -> r.t = (h.tx i).nr -> r.k = 1 -> (∀ q ∈ pre, q.t = (h.tx i).nr -> q.k = 1 -> Qac q.c ≠ Qac r.c) -> ((h.lk (Qac r.c)).u, (h.lk (Qac r.c)).s) = (r.c.wantU, r.c.wantV)
structure Tu.ok (t : Tu) (l : List Rec) (m : Int) : Prop where
  zero : t.nr = 0 -> t = Tu.zero
  nr : t.nr ≠ 0 -> 1 <= t.nr /\ t.nr <= m /\ 1 <= t.st /\ t.st <= 3
  last : t.nr ≠ 0 -> t.last = Qeg l t.nr
  next : t.nr ≠ 0 -> t.next = Qcb l t.last
  noend : t.nr ≠ 0 -> ∀ r ∈ l, r.t = t.nr -> r.k ≠ 5
  nocom : t.nr ≠ 0 -> t.st ≠ 3 -> ∀ r ∈ l, r.t = t.nr -> r.k ≠ 3
  com : t.nr ≠ 0 -> t.st = 3 -> ∃ r ∈ l, r.t = t.nr /\ r.k = 3
structure Hs.ok (h : Hs) (N : Nat) : Prop where
  ck : ∀ n, n < 3 -> h.ck n <= N
  hi : h.hi <= N
  ct : ∀ n, n < 3 -> 0 <= h.ct n /\ h.ct n <= (N : Int)
  pl : ∀ p, p < 4 -> (h.pg p).l <= N
  pr : ∀ p, p < 4 -> (h.pg p).right
  rise : ∀ n, n < 3 -> Qmb 0 (h.lg n)
  last : ∀ n, n < 3 -> ∀ r ∈ h.lg n, r.l <= h.ck n
  recs : ∀ n, n < 3 -> ∀ r ∈ h.lg n, r.k <= 6 /\ 1 <= r.t /\ r.t <= h.ct n /\ (r.k <= 2 -> r.c.pg < 4)
  chain : ∀ n, n < 3 -> ∀ r ∈ h.lg n, Qee (h.lg n) r.t r.p /\ Qee (h.lg n) r.t r.n
  txn : ∀ i, i < 9 -> (h.tx i).ok (h.lg (i / 3)) (h.ct (i / 3))
  apart : ∀ i j, i < 9 -> j < 9 -> i / 3 = j / 3 -> i ≠ j -> (h.tx i).nr ≠ 0 -> (h.tx i).nr ≠ (h.tx j).nr
  over : ∀ n, n < 3 -> ∀ r ∈ h.lg n, (∃ i, i < 9 /\ i / 3 = n /\ (h.tx i).nr = r.t) ∨ ∃ e ∈ h.lg n, e.t = r.t /\ e.k = 5
  locks : ∀ x, x < 32 -> (h.lk x).nr ≠ 0 -> ∃ i, i < 9 /\ h.has i x /\ h.live i
  undo : ∀ i, i < 9 -> h.live i -> h.undo i
  did : ∀ i, i < 9 -> h.live i -> h.did i
theorem Qqf {α : Type} (f : Nat -> α) (i : Nat) (x y : α) : upd (upd f i x) i y = upd f i y := by
  funext j; unfold upd; split <;> rfl
theorem Qsk {c : Ch} (h : c.right) (hp : c.pg < 4) : Qac c < 32 := by
  have := h.at_lt; have := h.1.1; unfold Qac; omega
theorem Qji {l : List Rec} {e : Rec} (n u : Nat) (h : n ≠ e.l) : Qif (l ++ [e]) n u = Qif l n u := by
  rw [Qsd, if_neg (fun x => h x.symm)]
theorem Hs.ok.alone {h : Hs} {N : Nat} (ok : h.ok N) {i j x : Nat} (hi : i < 9) (hj : j < 9) (hne : i ≠ j) (h0 : (h.tx i).nr ≠ 0) (h1 : h.has i x) : ¬ h.has j x := by
  intro h2; obtain ⟨a1, a2⟩ := h1; obtain ⟨b1, b2⟩ := h2; have e : i / 3 = j / 3 := by rw [a1] at b1; omega
  exact ok.apart i j hi hj e hne h0 (by rw [<- a2, b2])
theorem Qzr : ∀ (l : List Rec) (a : Nat), l ≠ [] -> ∃ r ∈ l, Qwb a l = r.l
  | [], _, h => absurd rfl h
  | [r], _, _ => ⟨r, by simp, rfl⟩
  | r :: q :: l, _, _ => by
    obtain ⟨x, h1, h2⟩ := Qzr (q :: l) r.l (by simp); exact ⟨x, List.mem_cons_of_mem _ h1, h2⟩
structure Logs (h h' : Hs) (i : Nat) (e : Rec) (t' : Tu) : Prop where
  i9 : i < 9
  nr : (h.tx i).nr ≠ 0
  lg : h'.lg = upd h.lg (i / 3) (h.lg (i / 3) ++ [e])
  ck : h'.ck = upd h.ck (i / 3) e.l
  ct : h'.ct = h.ct
  tx : h'.tx = upd h.tx i t'
  et : e.t = (h.tx i).nr
  ep : e.p = (h.tx i).last
  el : h.ck (i / 3) < e.l
  er : e.right
  ek : e.k <= 6
  en : Qee (h.lg (i / 3)) e.t e.n
  ec : e.k <= 2 -> e.c.pg < 4
  lk : ∀ x, x < 32 -> h'.lk x = h.lk x ∨ (h'.lk x).nr = 0 ∨ hasN (h'.lk x) (i / 3) (h.tx i).nr
  keep : ∀ x, x < 32 -> (h.lk x).nr ≠ 0 -> ¬ h.has i x -> h'.lk x = h.lk x /\ h'.cell x = h.cell x
section
variable {h h' : Hs} {i N : Nat} {e : Rec} {t' : Tu}
theorem Logs.lg_i (s : Logs h h' i e t') : h'.lg (i / 3) = h.lg (i / 3) ++ [e] := by rw [s.lg, Qj]
theorem Logs.lg_o (s : Logs h h' i e t') (n : Nat) (hn : n ≠ i / 3) : h'.lg n = h.lg n := by rw [s.lg, Qq _ _ _ _ hn]
theorem Logs.tx_i (s : Logs h h' i e t') : h'.tx i = t' := by rw [s.tx, Qj]
theorem Logs.tx_o (s : Logs h h' i e t') (j : Nat) (hj : j ≠ i) : h'.tx j = h.tx j := by rw [s.tx, Qq _ _ _ _ hj]
theorem Logs.rise (s : Logs h h' i e t') (ok : h.ok N) : Qmb 0 (h.lg (i / 3) ++ [e]) := by
  have hi := s.i9; have h1 := ok.rise (i / 3) (by omega); rw [Qld]; refine ⟨h1, s.er, ?_⟩; have h2 := s.el
  by_cases h0 : h.lg (i / 3) = []
  · rw [h0]; show 0 < e.l; omega
  · obtain ⟨r, h3, h4⟩ := Qzr (h.lg (i / 3)) 0 h0; have h5 := ok.last (i / 3) (by omega) r h3; omega
theorem Logs.mem (s : Logs h h' i e t') {n : Nat} {r : Rec} (hr : r ∈ h'.lg n) : r ∈ h.lg n ∨ n = i / 3 /\ r = e := by
  by_cases hn : n = i / 3
  · subst hn; rw [s.lg_i] at hr
    rcases List.mem_append.1 hr with hr | hr
    · exact .inl hr
    · exact .inr ⟨rfl, List.mem_singleton.1 hr⟩
  · rw [s.lg_o n hn] at hr; exact .inl hr
theorem Logs.sub (s : Logs h h' i e t') {n : Nat} {r : Rec} (hr : r ∈ h.lg n) : r ∈ h'.lg n := by
  by_cases hn : n = i / 3
  · subst hn; rw [s.lg_i]; exact List.mem_append.2 (.inl hr)
  · rw [s.lg_o n hn]; exact hr
theorem Logs.linked (s : Logs h h' i e t') {n : Nat} {t : Int} {m : Nat} (hl : Qee (h.lg n) t m) : Qee (h'.lg n) t m :=
  hl.imp id fun ⟨q, h1, h2⟩ => ⟨q, s.sub h1, h2⟩
theorem Qvx {l : List Rec} {c : Nat} (h : ∀ r ∈ l, r.l <= c) (t : Int) : Qeg l t <= c := by
  rcases Qgj l t with h1 | ⟨r, h1, h2, _⟩
  · omega
  · have := h r h1; omega
theorem Logs.other_tn (s : Logs h h' i e t') (ok : h.ok N) (j : Nat) (hj : j < 9) (hne : j ≠ i) : (h'.tx j).ok (h'.lg (j / 3)) (h'.ct (j / 3)) /\ h'.plan j = h.plan j := by
  have hi := s.i9; have o := ok.txn j hj; rw [s.tx_o j hne, s.ct]
  by_cases hn : j / 3 = i / 3
  · by_cases h0 : (h.tx j).nr = 0
    · have hz := o.zero h0; rw [hz]; have zz : Tu.zero.nr = 0 := rfl; refine ⟨⟨fun _ => rfl, fun h => absurd zz h, fun h => absurd zz h, fun h => absurd zz h, fun h => absurd zz h, fun h => absurd zz h, fun h => absurd zz h⟩, ?_⟩; unfold Hs.plan; rw [s.tx_o j hne, hz, hn, s.lg_i]; exact Qji _ _ (by have := s.el; show (0 : Nat) ≠ e.l; omega)
    · have hap := ok.apart j i hj hi hn hne h0
      have hlast : (h.tx j).last <= h.ck (i / 3) := by
        rw [o.last h0, hn]; exact Qvx (ok.last (i / 3) (by omega)) _
      have hel := s.el
      have hnx : (h.tx j).next <= h.ck (i / 3) := by
        rw [o.next h0, hn]; have := Qrj (ok.rise (i / 3) (by omega)) (h.tx j).last; omega
      have hmem : ∀ r ∈ h.lg (i / 3) ++ [e], r.t = (h.tx j).nr -> r ∈ h.lg (i / 3) := fun r hr ht => by
        rcases List.mem_append.1 hr with hr | hr
        · exact hr
        · rw [List.mem_singleton.1 hr, s.et] at ht; exact absurd ht.symm hap
      rw [hn, s.lg_i]; have l1 := o.last h0; have l2 := o.next h0; have l3 := o.noend h0; have l4 := o.nocom h0; have l5 := o.com h0; rw [hn] at l1 l2 l3 l4 l5
      refine ⟨⟨fun h => absurd h h0, fun h => by have := o.nr h; rwa [hn] at this, fun _ => ?_, fun _ => ?_, fun _ r hr ht => l3 r (hmem r hr ht) ht, fun _ hs r hr ht => l4 hs r (hmem r hr ht) ht, fun _ hs => ?_⟩, ?_⟩
      · rw [Qoc, if_neg (fun x => hap (x.2.symm.trans s.et))]; exact l1
      · rw [Qbc, if_neg (by omega)]; exact l2
      · obtain ⟨r, h1, h2⟩ := l5 hs; exact ⟨r, List.mem_append.2 (.inl h1), h2⟩
      · unfold Hs.plan; rw [s.tx_o j hne, hn, s.lg_i]; exact Qji _ _ (by omega)
  · rw [s.lg_o _ hn]; refine ⟨o, ?_⟩; unfold Hs.plan; rw [s.tx_o j hne, s.lg_o _ hn]
theorem Logs.other (s : Logs h h' i e t') (ok : h.ok N) (j : Nat) (hj : j < 9) (hne : j ≠ i) (hl : h'.live j) : h'.undo j /\ h'.did j := by
  have hi := s.i9
  have hlj : h.live j := by
    unfold Hs.live at hl |-; rwa [s.tx_o j hne] at hl
  have u := ok.undo j hj hlj; have d := ok.did j hj hlj; have hp := (s.other_tn ok j hj hne).2
  have hk : ∀ x, x < 32 -> h.has j x -> h'.lk x = h.lk x /\ h'.cell x = h.cell x := fun x hx hh =>
    s.keep x hx (by rw [hh.2]; exact hlj.1) (ok.alone hj hi hne hlj.1 hh)
  have hto : ∀ x, x < 32 -> h.has j x -> h'.has j x := fun x hx hh => by
    unfold Hs.has; rw [(hk x hx hh).1, s.tx_o j hne]; exact hh
  have hfrom : ∀ x, x < 32 -> h'.has j x -> h.has j x := fun x hx hh => by
    unfold Hs.has at hh |-; rw [s.tx_o j hne] at hh
    rcases s.lk x hx with h1 | h1 | h1
    · rwa [h1] at hh
    · exact absurd (hh.2.symm.trans h1) hlj.1
    · exfalso; have e1 : j / 3 = i / 3 := by have a := hh.1; have b := h1.1; rw [a] at b; omega
      exact ok.apart j i hj hi e1 hne hlj.1 (hh.2.symm.trans h1.2)
  have hx32 : ∀ c ∈ chs (h.plan j), Qac c < 32 := fun c hc => Qsk (u.mine c hc).2.1 (u.mine c hc).2.2
  have hM : ∀ c ∈ chs (h.plan j), Qac c < 32 /\ h.has j (Qac c) := fun c hc => ⟨hx32 c hc, (u.mine c hc).1⟩
  have hcl : ∀ x, x < 32 /\ h.has j x -> h.cell x = h'.cell x := fun x hx => (hk x hx.1 hx.2).2.symm
  refine ⟨⟨?_, ?_, ?_⟩, ⟨?_, ?_⟩⟩
  · rw [hp]; exact Qli (M := fun x => x < 32 /\ h.has j x) _ _ _ hM hcl u.fit
  · rw [hp]; intro c hc; exact ⟨hto _ (hx32 c hc) (u.mine c hc).1, (u.mine c hc).2⟩
  · rw [hp]; intro x hx hh; have hh' := hfrom x hx hh; rw [(hk x hx hh').1, <- u.was x hx hh']; exact (Qjk (M := fun x => x < 32 /\ h.has j x) _ _ _ hcl x ⟨hx, hh'⟩).symm
  · intro r hr ht hk1; rw [s.tx_o j hne] at ht
    have hr' : r ∈ h.lg (j / 3) := by
      rcases s.mem hr with h1 | ⟨h1, h2⟩
      · exact h1
      · exfalso; rw [h2, s.et] at ht; exact ok.apart j i hj hi h1 hne hlj.1 ht.symm
    have hR := Qka _ 0 (ok.rise (j / 3) (by omega)) r hr'; have h3 := (ok.recs (j / 3) (by omega) r hr').2.2.2 (by omega); exact hto _ (Qsk (hR.ch (by omega)) h3) (d.locked r hr' ht hk1)
  · intro pre r post he ht hk1 hpre; rw [s.tx_o j hne] at ht hpre
    by_cases hn : j / 3 = i / 3
    · rw [hn, s.lg_i] at he
      have hcase : ∃ post', h.lg (i / 3) = pre ++ r :: post' := by
        rcases List.append_eq_append_iff.1 he with ⟨a, h1, h2⟩ | ⟨a, h1, h2⟩
        · cases a with
          | nil =>
            rw [List.nil_append] at h2; injection h2 with h3 h4; exfalso; rw [<- h3, s.et] at ht; exact ok.apart j i hj hi hn hne hlj.1 ht.symm
          | cons b a =>
            exfalso; rw [List.cons_append] at h2; injection h2 with h3 h4; have := congrArg List.length h4; simp at this
        · cases a with
          | nil =>
            exfalso; rw [List.nil_append] at h2; injection h2 with h3 h4; rw [h3, s.et] at ht; exact ok.apart j i hj hi hn hne hlj.1 ht.symm
          | cons b a =>
            rw [List.cons_append] at h2; injection h2 with h3 h4; subst h3; exact ⟨a, h1⟩
      obtain ⟨post', he'⟩ := hcase; have hr' : r ∈ h.lg (i / 3) := by rw [he']; simp
      have hR := Qka _ 0 (ok.rise (i / 3) (by omega)) r hr'; have h3 := (ok.recs (i / 3) (by omega) r hr').2.2.2 (by omega); rw [<- hn] at he' hr'; rw [(hk _ (Qsk (hR.ch (by omega)) h3) (d.locked r hr' ht hk1)).1]; exact d.first pre r post' he' ht hk1 hpre
    · rw [s.lg_o _ hn] at he; have hr' : r ∈ h.lg (j / 3) := by rw [he]; simp
      have hR := Qka _ 0 (ok.rise (j / 3) (by omega)) r hr'; have h3 := (ok.recs (j / 3) (by omega) r hr').2.2.2 (by omega); rw [(hk _ (Qsk (hR.ch (by omega)) h3) (d.locked r hr' ht hk1)).1]; exact d.first pre r post he ht hk1 hpre
theorem Logs.done (s : Logs h h' i e t') (ok : h.ok N) (M : Nat) (hNM : N <= M) (hel : e.l <= M) (hhi : h'.hi <= M) (hpl : ∀ p, p < 4 -> (h'.pg p).l <= M) (hpr : ∀ p, p < 4 -> (h'.pg p).right)
    (ht : t'.ok (h.lg (i / 3) ++ [e]) (h.ct (i / 3))) (hnr : t'.nr = (h.tx i).nr ∨ t'.nr = 0 /\ e.k = 5)
    (hlk : ∀ x, x < 32 -> hasN (h'.lk x) (i / 3) (h.tx i).nr -> t'.nr = (h.tx i).nr /\ t'.st ≠ 3)
    (hu : h'.live i -> h'.undo i /\ h'.did i) : h'.ok M := by
  have hi := s.i9
  refine ⟨?_, hhi, ?_, hpl, hpr, ?_, ?_, ?_, ?_, ?_, ?_, ?_, ?_, ?_, ?_⟩
  · intro n hn; rw [s.ck]
    by_cases hni : n = i / 3
    · subst hni; rw [Qj]; exact hel
    · rw [Qq _ _ _ _ hni]; have := ok.ck n hn; omega
  · intro n hn; rw [s.ct]; have := ok.ct n hn; omega
  · intro n hn
    by_cases hni : n = i / 3
    · subst hni; rw [s.lg_i]; exact s.rise ok
    · rw [s.lg_o _ hni]; exact ok.rise n hn
  · intro n hn r hr; rw [s.ck]; have hel2 := s.el
    rcases s.mem hr with h1 | ⟨h1, h2⟩
    · have h3 := ok.last n hn r h1
      by_cases hni : n = i / 3
      · subst hni; rw [Qj]; omega
      · rw [Qq _ _ _ _ hni]; exact h3
    · rw [h1, h2, Qj]; exact Nat.le_refl _
  · intro n hn r hr; rw [s.ct]
    rcases s.mem hr with h1 | ⟨h1, h2⟩
    · exact ok.recs n hn r h1
    · rw [h1, h2]; have h3 := (ok.txn i hi).nr s.nr; exact ⟨s.ek, by rw [s.et]; exact h3.1, by rw [s.et]; exact h3.2.1, s.ec⟩
  · intro n hn r hr
    rcases s.mem hr with h1 | ⟨h1, h2⟩
    · have h3 := ok.chain n hn r h1; exact ⟨s.linked h3.1, s.linked h3.2⟩
    · rw [h2, h1]; refine ⟨s.linked ?_, s.linked s.en⟩; rw [s.ep, s.et, (ok.txn i hi).last s.nr]
      rcases Qgj (h.lg (i / 3)) (h.tx i).nr with h4 | ⟨q, h4, h5, h6, _⟩
      · exact .inl h4
      · exact .inr ⟨q, h4, h5, h6⟩
  · intro j hj
    by_cases hne : j = i
    · subst hne; rw [s.tx_i, s.lg_i, s.ct]; exact ht
    · exact (s.other_tn ok j hj hne).1
  · intro a b ha hb hab hne h0
    by_cases hai : a = i
    · subst hai; rw [s.tx_i] at h0 |-; rw [s.tx_o b (fun x => hne x.symm)]
      rcases hnr with h1 | ⟨h1, _⟩
      · rw [h1]; exact ok.apart a b ha hb hab hne s.nr
      · exact absurd h1 h0
    · rw [s.tx_o a hai] at h0 |-
      by_cases hbi : b = i
      · subst hbi; rw [s.tx_i]
        rcases hnr with h1 | ⟨h1, _⟩
        · rw [h1]; exact ok.apart a b ha hb hab hne h0
        · rw [h1]; exact h0
      · rw [s.tx_o b hbi]; exact ok.apart a b ha hb hab hne h0
  · intro n hn r hr
    have key : ∀ r : Rec, r.t = (h.tx i).nr -> n = i / 3 -> (∃ j, j < 9 /\ j / 3 = n /\ (h'.tx j).nr = r.t) ∨ ∃ q ∈ h'.lg n, q.t = r.t /\ q.k = 5 := fun r hrt hni => by
      rcases hnr with h1 | ⟨_, h1⟩
      · exact .inl ⟨i, hi, hni.symm, by rw [s.tx_i, h1, hrt]⟩
      · refine .inr ⟨e, ?_, by rw [s.et, hrt], h1⟩; rw [hni, s.lg_i]; simp
    rcases s.mem hr with h1 | ⟨h1, h2⟩
    · rcases ok.over n hn r h1 with ⟨j, h3, h4, h5⟩ | ⟨q, h3, h4⟩
      · by_cases hji : j = i
        · subst hji; exact key r h5.symm h4.symm
        · exact .inl ⟨j, h3, h4, by rw [s.tx_o j hji]; exact h5⟩
      · exact .inr ⟨q, s.sub h3, h4⟩
    · exact key r (by rw [h2]; exact s.et) h1
  · intro x hx h0
    have mk : hasN (h'.lk x) (i / 3) (h.tx i).nr -> ∃ j, j < 9 /\ h'.has j x /\ h'.live j := fun hh => by
      obtain ⟨h1, h2⟩ := hlk x hx hh
      refine ⟨i, hi, ?_, ?_⟩
      · unfold Hs.has; rw [s.tx_i, h1]; exact hh
      · unfold Hs.live; rw [s.tx_i]; exact ⟨by rw [h1]; exact s.nr, h2⟩
    rcases s.lk x hx with h1 | h1 | h1
    · rw [h1] at h0; obtain ⟨j, h2, h3, h4⟩ := ok.locks x hx h0
      by_cases hji : j = i
      · subst hji; exact mk (by rw [h1]; exact h3)
      · refine ⟨j, h2, ?_, ?_⟩
        · unfold Hs.has; rw [h1, s.tx_o j hji]; exact h3
        · unfold Hs.live; rw [s.tx_o j hji]; exact h4
    · exact absurd h1 h0
    · exact mk h1
  · intro j hj hl
    by_cases hne : j = i
    · subst hne; exact (hu hl).1
    · exact (s.other ok j hj hne hl).1
  · intro j hj hl
    by_cases hne : j = i
    · subst hne; exact (hu hl).2
    · exact (s.other ok j hj hne hl).2
end
end
section
section
variable {h h' : Hs} {N i : Nat} {e : Rec} {t' : Tu}
theorem Hs.ok.more (ok : h.ok N) {M : Nat} (hm : N <= M) : h.ok M :=
  { ok with
    ck := fun n hn => Nat.le_trans (ok.ck n hn) hm
    hi := Nat.le_trans ok.hi hm
    ct := fun n hn => ⟨(ok.ct n hn).1, by have := (ok.ct n hn).2; omega⟩
    pl := fun p hp => Nat.le_trans (ok.pl p hp) hm }
theorem Hs.ok.clock (ok : h.ok N) {n c : Nat} (h1 : h.ck n <= c) (h2 : c <= N) : (h.setCk n c).ok N :=
  { ok with
    ck := fun m hm => by
      show upd h.ck n c m <= N
      by_cases e : m = n
      · subst e; rw [Qj]; exact h2
      · rw [Qq _ _ _ _ e]; exact ok.ck m hm
    last := fun m hm r hr => by
      have := ok.last m hm r hr; show r.l <= upd h.ck n c m
      by_cases e : m = n
      · subst e; rw [Qj]; omega
      · rw [Qq _ _ _ _ e]; exact this
    undo := fun i hi hl => ⟨(ok.undo i hi hl).fit, (ok.undo i hi hl).mine, (ok.undo i hi hl).was⟩
    did := fun i hi hl => ⟨(ok.did i hi hl).locked, (ok.did i hi hl).first⟩ }
theorem Qxaa {k s t : Int} {L p : Nat} (hk : 3 <= k /\ k <= 6) (hs : k = 6 -> 1 <= s /\ s <= 8) (hs0 : k ≠ 6 -> s = 0) (hL : 1 <= L /\ L <= Qve) (ht : 1 <= t /\ t <= 1048575) (hp : p < L) : (⟨k, L, t, p, Ch.zero, 0, s, 0, [], []⟩ : Rec).right :=
  ⟨by show 1 <= k; omega, by show k <= 8; omega, hL.1, hL.2, fun _ => ⟨ht.1, ht.2, hp⟩, fun h => absurd h (by show ¬ 6 < k; omega), fun h => absurd h (by show ¬ k <= 2; omega), fun _ => rfl, fun h => absurd h (by show ¬ k = 2; omega), fun _ => rfl, hs, hs0, fun h => absurd h (by show ¬ k = 8; omega), fun _ => ⟨rfl, rfl, rfl⟩⟩
theorem Tu.ok.more {t : Tu} {l : List Rec} {m s : Int} (o : t.ok l m) (h0 : t.nr ≠ 0) (he : e.t = t.nr) (hp : e.p = t.last) (k1 : e.k ≠ 1) (k2 : e.k ≠ 2) (k5 : e.k ≠ 5) (hs : 1 <= s /\ s <= 3) (hc : s ≠ 3 -> t.st ≠ 3 /\ e.k ≠ 3) (hd : s = 3 -> e.k = 3) : (⟨t.nr, s, e.l, t.next⟩ : Tu).ok (l ++ [e]) m where
  zero := fun h => absurd h h0
  nr := fun _ => ⟨(o.nr h0).1, (o.nr h0).2.1, hs.1, hs.2⟩
  last := fun _ => by
    show e.l = Qeg (l ++ [e]) t.nr; rw [Qoc, if_pos ⟨(o.nr h0).1, he⟩]
  next := fun _ => by
    show t.next = Qcb (l ++ [e]) e.l; rw [Qbc, if_pos rfl, if_neg k1, if_neg k2, hp]; exact o.next h0
  noend := fun _ r hr ht => by
    rcases List.mem_append.1 hr with hr | hr
    · exact o.noend h0 r hr ht
    · rw [List.mem_singleton.1 hr]; exact k5
  nocom := fun _ hst r hr ht => by
    rcases List.mem_append.1 hr with hr | hr
    · exact o.nocom h0 (hc hst).1 r hr ht
    · rw [List.mem_singleton.1 hr]; exact (hc hst).2
  com := fun _ hst => ⟨e, by simp, he, hd hst⟩
theorem Qwp {l pre post : List Rec} {r : Rec} (he : l ++ [e] = pre ++ r :: post) : (∃ post', l = pre ++ r :: post') ∨ (pre = l /\ r = e) := by
  rcases List.append_eq_append_iff.1 he with ⟨a, h1, h2⟩ | ⟨a, h1, h2⟩
  · cases a with
    | nil =>
      rw [List.nil_append] at h2; injection h2 with h3 h4; exact .inr ⟨by rw [h1, List.append_nil], h3.symm⟩
    | cons b a =>
      exfalso; rw [List.cons_append] at h2; injection h2 with h3 h4; have := congrArg List.length h4; simp at this
  · cases a with
    | nil =>
      rw [List.nil_append] at h2; injection h2 with h3 h4; exact .inr ⟨by rw [h1, List.append_nil], h3⟩
    | cons b a =>
      rw [List.cons_append] at h2; injection h2 with h3 h4; subst h3; exact .inl ⟨a, h1⟩
theorem Hs.ok.last_lt (ok : h.ok N) (hi : i < 9) (h0 : (h.tx i).nr ≠ 0) : (h.tx i).last <= h.ck (i / 3) /\ (h.tx i).next <= h.ck (i / 3) := by
  have o := ok.txn i hi
  have h1 : (h.tx i).last <= h.ck (i / 3) := by
    rw [o.last h0]; exact Qvx (ok.last (i / 3) (by omega)) _
  refine ⟨h1, ?_⟩; rw [o.next h0]; have := Qrj (ok.rise (i / 3) (by omega)) (h.tx i).last; omega
theorem Logs.stays (s : Logs h h' i e t') (ok : h.ok N) (hk : e.k ≠ 1) (hl : h.live i) (hnr : t'.nr = (h.tx i).nr) (hlk : ∀ x, x < 32 -> h'.lk x = h.lk x) : h'.did i := by
  have hi := s.i9; have d := ok.did i hi hl
  have old : ∀ r ∈ h.lg (i / 3), r.k = 1 -> Qac r.c < 32 := fun r hr hk1 => by
    have hR := Qka _ 0 (ok.rise (i / 3) (by omega)) r hr; exact Qsk (hR.ch (by omega)) ((ok.recs (i / 3) (by omega) r hr).2.2.2 (by omega))
  refine ⟨fun r hr ht hk1 => ?_, fun pre r post he ht hk1 hpre => ?_⟩
  · rw [s.tx_i, hnr] at ht
    rcases s.mem hr with h1 | ⟨_, h1⟩
    · unfold Hs.has; rw [hlk _ (old r h1 hk1), s.tx_i, hnr]; exact d.locked r h1 ht hk1
    · exact absurd (h1 ▸ hk1) hk
  · rw [s.tx_i, hnr] at ht hpre; rw [s.lg_i] at he
    rcases Qwp he with ⟨post', h1⟩ | ⟨h1, h2⟩
    · have hm : r ∈ h.lg (i / 3) := by rw [h1]; simp
      rw [hlk _ (old r hm hk1)]; exact d.first pre r post' h1 ht hk1 hpre
    · exact absurd (h2 ▸ hk1) hk
theorem Logs.undoes (s : Logs h h' i e t') (ok : h.ok N) (hl : h.live i) (hnr : t'.nr = (h.tx i).nr) (hnx : t'.next = (h.tx i).next) (hlk : ∀ x, x < 32 -> h'.lk x = h.lk x) (hce : h'.cell = h.cell) : h'.undo i := by
  have hi := s.i9; have u := ok.undo i hi hl
  have hp : h'.plan i = h.plan i := by
    unfold Hs.plan; rw [s.tx_i, s.lg_i, hnx]; have h1 := (ok.last_lt hi s.nr).2; have h2 := s.el; exact Qji _ _ (by omega)
  have hh : ∀ x, x < 32 -> (h'.has i x ↔ h.has i x) := fun x hx => by
    unfold Hs.has; rw [hlk x hx, s.tx_i, hnr]
  refine ⟨by rw [hp, hce]; exact u.fit, fun c hc => ?_, fun x hx hhx => ?_⟩
  · rw [hp] at hc; have := u.mine c hc; exact ⟨(hh _ (Qsk this.2.1 this.2.2)).2 this.1, this.2⟩
  · rw [hp, hce, hlk x hx]; exact u.was x hx ((hh x hx).1 hhx)
theorem Logs.bare (ok : h.ok N) (hN : N <= 100000) (hi : i < 9) (h0 : (h.tx i).nr ≠ 0) {k ss : Int} (hk : 3 <= k /\ k <= 6) (hs : k = 6 -> 1 <= ss /\ ss <= 8) (hs0 : k ≠ 6 -> ss = 0)
    (lg : h'.lg = upd h.lg (i / 3) (h.lg (i / 3) ++ [h.entry (i / 3) i (Qaa k Ch.zero ss) 0])) (ck : h'.ck = upd h.ck (i / 3) (h.lsn (i / 3) 0)) (ct : h'.ct = h.ct) (tx : h'.tx = upd h.tx i t') (hpg : h'.pg = h.pg)
    (lk : ∀ x, x < 32 -> h'.lk x = h.lk x ∨ h.has i x /\ (h'.lk x).nr = 0) : Logs h h' i (h.entry (i / 3) i (Qaa k Ch.zero ss) 0) t' := by
  have o := (ok.txn i hi).nr h0; have h1 := ok.ct (i / 3) (by omega); have h2 := ok.ck (i / 3) (by omega); have h3 := (ok.last_lt hi h0).1; have hL : h.lsn (i / 3) 0 = h.ck (i / 3) + 1 := by unfold Hs.lsn; omega
  have hce : h'.cell = h.cell := by
    funext x; unfold Hs.cell; rw [hpg]
  refine ⟨hi, h0, lg, ck, ct, tx, rfl, rfl, ?_, ?_, hk.2, .inl rfl, fun hq => ?_, fun x hx => ?_, fun x hx _ hn => ⟨?_, by rw [hce]⟩⟩
  · show h.ck (i / 3) < h.lsn (i / 3) 0; omega
  · exact Qxaa hk hs hs0 (by unfold Qve; omega) (by omega) (by omega)
  · exact absurd hq (by show ¬ k <= 2; omega)
  · rcases lk x hx with h4 | ⟨_, h4⟩
    · exact .inl h4
    · exact .inr (.inl h4)
  · rcases lk x hx with h4 | ⟨h4, _⟩
    · exact h4
    · exact absurd h4 hn
theorem free_lk {h1 : Hs} (hlk : h1.lk = h.lk) (hnr : (h1.tx i).nr = (h.tx i).nr) (x : Nat) (hx : x < 32) : (h.has i x -> (h1.free (i / 3) i).lk x = Lo.zero) /\ (¬ h.has i x -> (h1.free (i / 3) i).lk x = h.lk x) := by
  have hm : h1.mine (i / 3) i x = true ↔ h.has i x := by
    unfold Hs.mine Hs.has hasN; rw [hlk, hnr, Bool.and_eq_true, decide_eq_true_eq, decide_eq_true_eq]
  have e : (h1.free (i / 3) i).lk x = if x < 32 /\ h1.mine (i / 3) i x = true then Lo.zero else h1.lk x := rfl
  rw [e, hlk]; refine ⟨fun hh => if_pos ⟨hx, hm.2 hh⟩, fun hh => if_neg (fun q => hh (hm.1 q.2))⟩
theorem Hs.ok.goes (ok : h.ok N) (hN : N <= 100000) (hi : i < 9) (h0 : (h.tx i).nr ≠ 0) (hst : (h.tx i).st = 1) {k ss s : Int} (hk : k = 4 ∨ k = 6) (hs : k = 6 -> 1 <= ss /\ ss <= 8) (hs0 : k ≠ 6 -> ss = 0) (hs2 : s = 1 ∨ s = 2)
    (lg : h'.lg = upd h.lg (i / 3) (h.lg (i / 3) ++ [h.entry (i / 3) i (Qaa k Ch.zero ss) 0])) (ck : h'.ck = upd h.ck (i / 3) (h.lsn (i / 3) 0)) (ct : h'.ct = h.ct) (tx : h'.tx = upd h.tx i ⟨(h.tx i).nr, s, h.lsn (i / 3) 0, (h.tx i).next⟩) (hpg : h'.pg = h.pg) (lk : h'.lk = h.lk) (hh : h'.hi = h.hi) : h'.ok (N + 1) := by
  have hlk : ∀ x, x < 32 -> h'.lk x = h.lk x := fun x _ => by rw [lk]
  have L := Logs.bare ok hN hi h0 (by omega) hs hs0 lg ck ct tx hpg (fun x hx => .inl (hlk x hx)); have hl : h.live i := ⟨h0, by omega⟩; have hL : h.lsn (i / 3) 0 = h.ck (i / 3) + 1 := by unfold Hs.lsn; omega
  have h2 := ok.ck (i / 3) (by omega)
  have hce : h'.cell = h.cell := by
    funext x; unfold Hs.cell; rw [hpg]
  refine L.done ok (N + 1) (by omega) (by show h.lsn (i / 3) 0 <= N + 1; omega) (by rw [hh]; have := ok.hi; omega) (fun p hp => by rw [hpg]; have := ok.pl p hp; omega) (fun p hp => by rw [hpg]; exact ok.pr p hp) ?_ (.inl rfl) (fun x hx hn => ⟨rfl, by show s ≠ 3; omega⟩) (fun _ => ⟨L.undoes ok hl rfl rfl hlk hce, L.stays ok ?_ hl rfl hlk⟩)
  · exact (ok.txn i hi).more (e := h.entry (i / 3) i (Qaa k Ch.zero ss) 0) (s := s) h0 rfl rfl (by show k ≠ 1; omega) (by show k ≠ 2; omega) (by show k ≠ 5; omega) (by omega) (fun _ => ⟨by omega, by show k ≠ 3; omega⟩) (fun q => absurd q (by omega))
  · show k ≠ 1; omega
theorem Hs.ok.stops (ok : h.ok N) (hN : N <= 100000) (hi : i < 9) (h0 : (h.tx i).nr ≠ 0) {k : Int} (hk : k = 3 /\ (h.tx i).st = 1 /\ t' = ⟨(h.tx i).nr, 3, h.lsn (i / 3) 0, (h.tx i).next⟩ ∨ k = 5 /\ t' = Tu.zero)
    (lg : h'.lg = upd h.lg (i / 3) (h.lg (i / 3) ++ [h.entry (i / 3) i (Qaa k Ch.zero 0) 0])) (ck : h'.ck = upd h.ck (i / 3) (h.lsn (i / 3) 0)) (ct : h'.ct = h.ct) (tx : h'.tx = upd h.tx i t') (hpg : h'.pg = h.pg) (lk : ∀ x, x < 32 -> (h.has i x -> h'.lk x = Lo.zero) /\ (¬ h.has i x -> h'.lk x = h.lk x)) (hh : h'.hi <= N + 1) : h'.ok (N + 1) := by
  have hlk : ∀ x, x < 32 -> h'.lk x = h.lk x ∨ h.has i x /\ (h'.lk x).nr = 0 := fun x hx => by
    by_cases hq : h.has i x
    · exact .inr ⟨hq, by rw [(lk x hx).1 hq]; rfl⟩
    · exact .inl ((lk x hx).2 hq)
  have L := Logs.bare ok hN hi h0 (by omega) (fun q => absurd q (by omega)) (fun _ => rfl) lg ck ct tx hpg hlk; have hL : h.lsn (i / 3) 0 = h.ck (i / 3) + 1 := by unfold Hs.lsn; omega
  have h2 := ok.ck (i / 3) (by omega)
  refine L.done ok (N + 1) (by omega) (by show h.lsn (i / 3) 0 <= N + 1; omega) hh (fun p hp => by rw [hpg]; have := ok.pl p hp; omega) (fun p hp => by rw [hpg]; exact ok.pr p hp) ?_ ?_ (fun x hx hn => ?_) (fun hl => ?_)
  · rcases hk with ⟨h3, h4, h5⟩ | ⟨h3, h5⟩
    · rw [h5]; exact (ok.txn i hi).more (e := h.entry (i / 3) i (Qaa k Ch.zero 0) 0) (s := 3) h0 rfl rfl (by show k ≠ 1; omega) (by show k ≠ 2; omega) (by show k ≠ 5; omega) (by omega) (fun q => absurd rfl q) (fun _ => h3)
    · rw [h5]; have zz : Tu.zero.nr = 0 := rfl; exact ⟨fun _ => rfl, fun q => absurd zz q, fun q => absurd zz q, fun q => absurd zz q, fun q => absurd zz q, fun q => absurd zz q, fun q => absurd zz q⟩
  · rcases hk with ⟨h3, h4, h5⟩ | ⟨h3, h5⟩
    · exact .inl (by rw [h5])
    · exact .inr ⟨by rw [h5]; rfl, h3⟩
  · exfalso
    by_cases hq : h.has i x
    · rw [(lk x hx).1 hq] at hn; exact h0 hn.2.symm
    · rw [(lk x hx).2 hq] at hn; exact hq hn
  · exfalso; unfold Hs.live at hl; rw [L.tx_i] at hl
    rcases hk with ⟨h3, h4, h5⟩ | ⟨h3, h5⟩
    · rw [h5] at hl; exact hl.2 rfl
    · rw [h5] at hl; exact hl.1 rfl
end
end
section
section
variable {h h' : Hs} {N i : Nat} {e : Rec} {t' : Tu}
theorem Qxp {k t : Int} {L p m : Nat} {c : Ch} (hk : k = 1 ∨ k = 2) (hc : c.right) (hL : 1 <= L /\ L <= Qve) (ht : 1 <= t /\ t <= 1048575) (hp : p < L) (h2 : k = 2 -> m < L) (h1 : k = 1 -> m = 0) : (⟨k, L, t, p, c, m, 0, 0, [], []⟩ : Rec).right :=
  ⟨by show 1 <= k; omega, by show k <= 8; omega, hL.1, hL.2, fun _ => ⟨ht.1, ht.2, hp⟩, fun h => absurd h (by show ¬ 6 < k; omega), fun _ => hc, fun h => absurd h (by show ¬ 2 < k; omega), fun h => h2 h, fun h => h1 (by have : k ≠ 2 := h; omega), fun h => absurd h (by show ¬ k = 6; omega), fun _ => rfl, fun h => absurd h (by show ¬ k = 8; omega), fun _ => ⟨rfl, rfl, rfl⟩⟩
theorem Qvw {p L : Nat} {c : Ch} (hc : c.right) (hp : p = c.pg.toNat) (hpg : h'.pg = upd h.pg p ((h.pg p).put L c.at c.makeU c.makeV)) : h'.cell = doC h.cell c := by
  have hat := hc.at_lt; funext x; unfold Hs.cell; rw [hpg]
  by_cases hx : x = Qac c
  · rw [hx, doC_at]; have e1 : Qac c / 8 = p := by unfold Qac; rw [hp]; omega
    have e2 : Qac c % 8 = c.at := by unfold Qac; omega
    rw [e1, e2, Qj]; show ((if c.at = c.at then c.makeU else (h.pg p).u c.at), (if c.at = c.at then c.makeV else (h.pg p).s c.at)) = _; rw [if_pos rfl, if_pos rfl]
  · rw [Qzk _ _ _ hx]
    by_cases h1 : x / 8 = p
    · have h2 : x % 8 ≠ c.at := fun h2 => hx (by unfold Qac; rw [<- hp, <- h1, <- h2]; omega)
      rw [h1, Qj]; show ((if x % 8 = c.at then c.makeU else (h.pg p).u (x % 8)), (if x % 8 = c.at then c.makeV else (h.pg p).s (x % 8))) = _; rw [if_neg h2, if_neg h2]
    · rw [Qq _ _ _ _ h1]
theorem Qzf {l : List Rec} (hl : Qmb 0 l) (ch : ∀ r ∈ l, Qee l r.t r.p /\ Qee l r.t r.n) (t : Int) : ∀ f m, m <= f -> Qee l t m -> Qee l t (Qcb l m) := by
  intro f
  induction f with
  | zero =>
    intro m hm _; obtain rfl : m = 0 := by omega
    rw [Qgg hl]; exact .inl rfl
  | succ f ih =>
    intro m hm hk
    rcases hk with rfl | ⟨q, hq, h2, h3⟩
    · rw [Qgg hl]; exact .inl rfl
    · have hR := Qka _ 0 hl q hq; have h4 := Qfe hR; have h5 := Qng hR; have h6 := ch q hq; rw [h3] at h6; rw [<- h2, Qlk hl hq]; unfold Qdu
      split
      · exact .inr ⟨q, hq, rfl, h3⟩
      · split
        · exact ih _ (by omega) h6.2
        · exact ih _ (by omega) h6.1
theorem Hs.ok.front (ok : h.ok N) (hi : i < 9) (h0 : (h.tx i).nr ≠ 0) (hn : (h.tx i).next ≠ 0) : ∃ r ∈ h.lg (i / 3), r.l = (h.tx i).next /\ r.k = 1 /\ r.t = (h.tx i).nr /\ (h.plan i) = Qrb (h.lg (i / 3)) r :: Qif (h.lg (i / 3)) (Qrb (h.lg (i / 3)) r).n 0 := by
  have hl := ok.rise (i / 3) (by omega); have o := ok.txn i hi; have hnx := o.next h0
  rcases Qim hl (h.tx i).last with h1 | ⟨r, hr, h2, h3⟩
  · exact absurd (hnx.trans h1) hn
  · have hr2 : r.l = (h.tx i).next := h2.trans hnx.symm
    have hlk : Qee (h.lg (i / 3)) (h.tx i).nr (h.tx i).last := by
      rw [o.last h0]
      rcases Qgj (h.lg (i / 3)) (h.tx i).nr with h4 | ⟨q, h4, h5, h6, _⟩
      · exact .inl h4
      · exact .inr ⟨q, h4, h5, h6⟩
    have hl2 := Qzf hl (ok.chain (i / 3) (by omega)) (h.tx i).nr _ _ (Nat.le_refl _) hlk; rw [<- hnx] at hl2
    have ht : r.t = (h.tx i).nr := by
      rcases hl2 with h4 | ⟨q, h4, h5, h6⟩
      · exact absurd h4 hn
      · have a := Qcg hl hr; rw [hr2, <- h5, Qcg hl h4] at a; injection a with a; rw [<- a]; exact h6
    refine ⟨r, hr, hr2, h3, ht, ?_⟩; unfold Hs.plan; rw [<- hr2, Qyk hl hr h3, if_pos (Qle _ 0 hl r hr).1]
theorem Hs.back_no (e : (h.tx i).next = 0 ∨ ((h.tx i).st ≠ 1 /\ (h.tx i).st ≠ 2)) (n : Nat) : h.back n i = h := by unfold Hs.back; rw [if_pos e]
theorem Hs.back_yes {n : Nat} {r : Rec} (e : ¬ ((h.tx i).next = 0 ∨ ((h.tx i).st ≠ 1 /\ (h.tx i).st ≠ 2))) (hl : Qmb 0 (h.lg n)) (hr : r ∈ h.lg n) (h2 : r.l = (h.tx i).next) : h.back n i = (h.turn n i (Qrb (h.lg n) r)).nextIs i (Qrb (h.lg n) r).n := by
  have hget : Qrt (h.lg n) (h.tx i).next = r := by
    unfold Qrt; rw [<- h2, Qcg hl hr]; rfl
  unfold Hs.back; rw [if_neg e, hget]
theorem Hs.ok.backs (ok : h.ok N) (hN : N <= 100000) (hi : i < 9) : (h.back (i / 3) i).ok (N + 1) := by
  by_cases e : (h.tx i).next = 0 ∨ ((h.tx i).st ≠ 1 /\ (h.tx i).st ≠ 2)
  · rw [Hs.back_no e]; exact ok.more (by omega)
  have e1 : (h.tx i).next ≠ 0 := fun q => e (.inl q)
  have e2 : (h.tx i).st = 1 ∨ (h.tx i).st = 2 := by
    by_cases q : (h.tx i).st = 1
    · exact .inl q
    · by_cases q2 : (h.tx i).st = 2
      · exact .inr q2
      · exact absurd (.inr ⟨q, q2⟩) e
  have h0 : (h.tx i).nr ≠ 0 := fun q => e1 (by rw [(ok.txn i hi).zero q]; rfl)
  have hl := ok.rise (i / 3) (by omega); have hlive : h.live i := ⟨h0, by omega⟩; obtain ⟨r, hr, hr2, hk, ht, hplan⟩ := ok.front hi h0 e1; have hrR := Qka _ 0 hl r hr; have u := ok.undo i hi hlive; have hinv := Qlg r.c (hrR.ch (by omega)); rw [Hs.back_yes e hl hr hr2]; obtain ⟨cr, hcr⟩ : ∃ c, c = Qrb (h.lg (i / 3)) r := ⟨_, rfl⟩; have hcn : Qcb (h.lg (i / 3)) cr.n = cr.n := by rw [hcr]; exact Qjo hl r
  have hcl : cr.n < r.l := by rw [hcr]; exact Qir hl hr
  have hclk : Qee (h.lg (i / 3)) (h.tx i).nr cr.n := by
    have a := Qzf hl (ok.chain (i / 3) (by omega)) r.t _ _ (Nat.le_refl _) (ok.chain (i / 3) (by omega) r hr).1; rw [ht] at a; rw [hcr]; exact a
  have hcc : cr.c = Qfh r.c := by rw [hcr]; rfl
  have hck : cr.k = 2 := by rw [hcr]; rfl
  have hcs : cr.s = 0 /\ cr.b = 0 /\ cr.ts = [] /\ cr.ds = [] := by rw [hcr]; exact ⟨rfl, rfl, rfl, rfl⟩
  rw [<- hcr] at hplan |-; have hplan2 : chs (h.plan i) = cr.c :: chs (Qif (h.lg (i / 3)) cr.n 0) := by rw [hplan]; rfl
  have hright : cr.c.right := by rw [hcc]; exact hinv.1
  have hmine := u.mine cr.c (by rw [hplan2]; simp); obtain ⟨p, hp⟩ : ∃ p, p = cr.c.pg.toNat := ⟨_, rfl⟩
  have hp4 : p < 4 := by
    have := hmine.2.2; have := hright.1.1; omega
  have hpage : cr.page = p := hp.symm; obtain ⟨L, hL⟩ : ∃ L, L = h.lsn (i / 3) (h.pg p).l := ⟨_, rfl⟩; have hLv : L = max (h.ck (i / 3)) (h.pg p).l + 1 := by rw [hL]; rfl
  have b1 := ok.ck (i / 3) (by omega); have b2 := ok.pl p hp4; have b3 := ok.last_lt hi h0; have b4 := (ok.txn i hi).nr h0; have b5 := ok.ct (i / 3) (by omega); have b6 := ok.last (i / 3) (by omega) r hr
  have hpg : ((h.turn (i / 3) i cr).nextIs i cr.n).pg = upd h.pg p ((h.pg p).put L cr.c.at cr.c.makeU cr.c.makeV) := by
    show upd h.pg cr.page _ = _; rw [hpage, <- hL]
  have hce := Qvw (h := h) hright hp hpg
  have htx : ((h.turn (i / 3) i cr).nextIs i cr.n).tx = upd h.tx i ⟨(h.tx i).nr, (h.tx i).st, L, cr.n⟩ := by
    show upd (upd h.tx i ((h.tx i).setLast (h.lsn (i / 3) (h.pg cr.page).l))) i ((upd h.tx i ((h.tx i).setLast (h.lsn (i / 3) (h.pg cr.page).l)) i).setNext cr.n) = _; rw [Qqf, Qj, hpage, <- hL]; rfl
  have hE : h.entry (i / 3) i cr (h.pg p).l = ⟨2, L, (h.tx i).nr, (h.tx i).last, cr.c, cr.n, 0, 0, [], []⟩ := by
    unfold Hs.entry; rw [hck, hcs.1, hcs.2.1, hcs.2.2.1, hcs.2.2.2, <- hL]
  have S : Logs h ((h.turn (i / 3) i cr).nextIs i cr.n) i ⟨2, L, (h.tx i).nr, (h.tx i).last, cr.c, cr.n, 0, 0, [], []⟩ ⟨(h.tx i).nr, (h.tx i).st, L, cr.n⟩ := by
    refine ⟨hi, h0, ?_, ?_, rfl, htx, rfl, rfl, ?_, ?_, (by show (2 : Int) <= 6; decide), hclk, fun _ => hmine.2.2, fun x hx => .inl rfl, fun x hx _ hn => ⟨rfl, ?_⟩⟩
    · show upd h.lg (i / 3) (h.lg (i / 3) ++ [h.entry (i / 3) i cr (h.pg cr.page).l]) = _; rw [hpage, hE]
    · show upd h.ck (i / 3) (h.lsn (i / 3) (h.pg cr.page).l) = _; rw [hpage, <- hL]
    · show h.ck (i / 3) < L; omega
    · exact Qxp (.inr rfl) hright (by unfold Qve; omega) (by omega) (by omega) (fun _ => by omega) (fun q => absurd q (by decide))
    · rw [hce]; exact Qzk _ _ _ (fun q => hn (q ▸ hmine.1))
  have hp' : ((h.turn (i / 3) i cr).nextIs i cr.n).plan i = Qif (h.lg (i / 3)) cr.n 0 := by
    unfold Hs.plan; rw [S.tx_i, S.lg_i]; exact Qji _ _ (by show cr.n ≠ L; omega)
  have hhas : ∀ x, ((h.turn (i / 3) i cr).nextIs i cr.n).has i x ↔ h.has i x := fun x => by
    unfold Hs.has; rw [S.tx_i]; exact Iff.rfl
  refine S.done ok (N + 1) (by omega) (by show L <= N + 1; omega) (by have := ok.hi; show h.hi <= N + 1; omega) (fun q hq => ?_) (fun q hq => ?_) ?_ (.inl rfl) (fun x hx hn => ⟨rfl, hlive.2⟩) (fun _ => ⟨⟨?_, fun c hc => ?_, fun x hx hh => ?_⟩, S.stays ok (by show (2 : Int) ≠ 1; decide) hlive rfl (fun x hx => rfl)⟩)
  · rw [hpg]
    by_cases hqp : q = p
    · subst hqp; rw [Qj]; show L <= N + 1; omega
    · rw [Qq _ _ _ _ hqp]; have := ok.pl q hq; omega
  · rw [hpg]
    by_cases hqp : q = p
    · subst hqp; rw [Qj]; exact Qds _ _ _ (ok.pr q hq) hright (by unfold Qve; omega)
    · rw [Qq _ _ _ _ hqp]; exact ok.pr q hq
  · have o := ok.txn i hi
    exact {
      zero := fun q => absurd q h0
      nr := fun _ => o.nr h0
      last := fun _ => by
        show L = Qeg _ (h.tx i).nr
        rw [Qoc, if_pos ⟨b4.1, rfl⟩]
      next := fun _ => by
        show cr.n = Qcb _ L
        rw [Qbc, if_pos rfl, if_neg (by show ¬ (2 : Int) = 1; decide), if_pos (by show (2 : Int) = 2; rfl)]
        exact hcn.symm
      noend := fun _ r hr ht => by
        rcases List.mem_append.1 hr with hr | hr
        · exact o.noend h0 r hr ht
        · rw [List.mem_singleton.1 hr]; show (2 : Int) ≠ 5; decide
      nocom := fun _ hst r hr ht => by
        rcases List.mem_append.1 hr with hr | hr
        · exact o.nocom h0 hst r hr ht
        · rw [List.mem_singleton.1 hr]; show (2 : Int) ≠ 3; decide
      com := fun _ hst => absurd hst hlive.2 }
  · rw [hp', hce]; have a := u.fit; rw [hplan2] at a; exact a.2
  · rw [hp'] at hc; have a := u.mine c (by rw [hplan2]; exact List.mem_cons_of_mem _ hc); exact ⟨(hhas _).2 a.1, a.2⟩
  · rw [hp', hce]; have a := u.was x hx ((hhas x).1 hh); rw [hplan2] at a; exact a
end
end
section
section
variable {h h1 : Hs} {N i : Nat}
theorem none15 (v : ByteArray) (hv : v.size = 0) : v = ⟨#[]⟩ := by
  obtain ⟨⟨l⟩⟩ := v
  cases l with
  | nil => rfl
  | cons a l => exact absurd hv (by simp [ByteArray.size])
theorem ofC_tells {pg sl : Int} {fu tu : Bool} {fv tv : ByteArray} (he : ofE pg sl fu fv tu tv = 0) : (ofC pg sl fu fv tu tv).right /\ (ofC pg sl fu fv tu tv).pg = pg /\ (ofC pg sl fu fv tu tv).sl = sl /\ (ofC pg sl fu fv tu tv).wantU = fu /\ (ofC pg sl fu fv tu tv).wantV = fv := by
  have er : ofC pg sl fu fv tu tv = Qru pg sl fu fv tu tv := by unfold ofC; rw [if_pos he]
  rw [er]; unfold ofE at he
  by_cases h1 : (fu = false /\ fv.size ≠ 0) ∨ (tu = false /\ tv.size ≠ 0)
  · rw [if_pos h1] at he; exact absurd he (by decide)
  rw [if_neg h1] at he
  by_cases h2 : (Qru pg sl fu fv tu tv).right
  · rw [if_neg (fun q => q h2)] at he
    by_cases h3 : fu = false /\ tu = false
    · rw [if_pos h3] at he; exact absurd he (by decide)
    refine ⟨h2, rfl, rfl, ?_, ?_⟩
    · cases fu <;> cases tu
      · exact absurd ⟨rfl, rfl⟩ h3
      · rfl
      · rfl
      · rfl
    · cases fu <;> cases tu
      · exact absurd ⟨rfl, rfl⟩ h3
      · have hv : fv.size = 0 := by
          by_cases q : fv.size = 0
          · exact q
          · exact absurd (.inl ⟨rfl, q⟩) h1
        exact (none15 fv hv).symm
      · rfl
      · rfl
  · rw [if_pos h2] at he; exact absurd he (by decide)
theorem Tu.ok.grows {t : Tu} {l : List Rec} {m m' : Int} (o : t.ok l m) (hm : m <= m') : t.ok l m' :=
  { o with nr := fun q => by have := o.nr q; omega }
theorem Hs.ok.starts (ok : h.ok N) (hi : i < 9) (h0 : (h.tx i).nr = 0) (lg : h1.lg = h.lg) (pg : h1.pg = h.pg) (ck : h1.ck = h.ck) (lk : h1.lk = h.lk) (hh : h1.hi = h.hi) (ct : h1.ct = upd h.ct (i / 3) (h.ct (i / 3) + 1)) (tx : h1.tx = upd h.tx i ⟨h.ct (i / 3) + 1, 1, 0, 0⟩) : h1.ok (N + 1) := by
  have n3 : i / 3 < 3 := by omega
  have hc := ok.ct (i / 3) n3; have hl := ok.rise (i / 3) n3
  have none : ∀ r ∈ h.lg (i / 3), r.t ≠ h.ct (i / 3) + 1 := fun r hr => by
    have := (ok.recs (i / 3) n3 r hr).2.2.1; omega
  have tx_i : h1.tx i = ⟨h.ct (i / 3) + 1, 1, 0, 0⟩ := by rw [tx, Qj]
  have tx_o : ∀ j, j ≠ i -> h1.tx j = h.tx j := fun j hj => by rw [tx, Qq _ _ _ _ hj]
  have ct_le : ∀ n, h.ct n <= h1.ct n := fun n => by
    rw [ct]
    by_cases e : n = i / 3
    · rw [e, Qj]; omega
    · rw [Qq _ _ _ _ e]; exact Int.le_refl _
  have ce : h1.cell = h.cell := by
    funext x; unfold Hs.cell; rw [pg]
  have small : ∀ j, j < 9 -> j / 3 = i / 3 -> (h.tx j).nr <= h.ct (i / 3) := fun j hj e => by
    by_cases q : (h.tx j).nr = 0
    · omega
    · have := (ok.txn j hj).nr q; rw [e] at this; exact this.2.1
  have has_o : ∀ j x, j ≠ i -> (h1.has j x ↔ h.has j x) := fun j x hj => by
    unfold Hs.has; rw [lk, tx_o j hj]
  refine { ck := fun n hn => ?_, hi := ?_, ct := fun n hn => ?_, pl := fun p hp => ?_, pr := fun p hp => ?_, rise := fun n hn => ?_, last := fun n hn r hr => ?_, recs := fun n hn r hr => ?_, chain := fun n hn r hr => ?_, txn := fun j hj => ?_, apart := fun a b ha hb hab hne q => ?_, over := fun n hn r hr => ?_, locks := fun x hx q => ?_, undo := fun j hj q => ?_, did := fun j hj q => ?_ }
  · rw [ck]; have := ok.ck n hn; omega
  · rw [hh]; have := ok.hi; omega
  · have := ct_le n; have := ok.ct n hn; refine ⟨by omega, ?_⟩; rw [ct]
    by_cases e : n = i / 3
    · rw [e, Qj]; omega
    · rw [Qq _ _ _ _ e]; omega
  · rw [pg]; have := ok.pl p hp; omega
  · rw [pg]; exact ok.pr p hp
  · rw [lg]; exact ok.rise n hn
  · rw [lg] at hr; rw [ck]; exact ok.last n hn r hr
  · rw [lg] at hr; have a := ok.recs n hn r hr; have := ct_le n; exact ⟨a.1, a.2.1, by omega, a.2.2.2⟩
  · rw [lg] at hr |-; exact ok.chain n hn r hr
  · by_cases e : j = i
    · rw [e, tx_i, lg, ct, Qj]
      exact {
        zero := fun q => absurd q (by show ¬ h.ct (i / 3) + 1 = 0; omega)
        nr := fun _ => ⟨by show 1 <= h.ct (i / 3) + 1; omega, by show h.ct (i / 3) + 1 <= h.ct (i / 3) + 1; omega, by show (1 : Int) <= 1; decide, by show (1 : Int) <= 3; decide⟩
        last := fun _ => (Qzo _ _ (fun r hr q => none r hr q.2)).symm
        next := fun _ => (Qgg hl).symm
        noend := fun _ r hr q => absurd q (none r hr)
        nocom := fun _ _ r hr q => absurd q (none r hr)
        com := fun _ q => absurd q (by show ¬ (1 : Int) = 3; decide) }
    · rw [tx_o j e, lg]; exact (ok.txn j hj).grows (ct_le _)
  · by_cases ea : a = i
    · subst ea; have := small b hb hab.symm; rw [tx_i, tx_o b (fun e => hne e.symm)]; show h.ct (a / 3) + 1 ≠ _; omega
    · by_cases eb : b = i
      · subst eb; have := small a ha hab; rw [tx_i, tx_o a ea]; show _ ≠ h.ct (b / 3) + 1; omega
      · rw [tx_o a ea] at q |-; rw [tx_o b eb]; exact ok.apart a b ha hb hab hne q
  · rw [lg] at hr |-
    rcases ok.over n hn r hr with ⟨j, a1, a2, a3⟩ | a
    · by_cases e : j = i
      · subst e; have := (ok.recs n hn r hr).2.1; omega
      · exact .inl ⟨j, a1, a2, by rw [tx_o j e]; exact a3⟩
    · exact .inr a
  · rw [lk] at q; obtain ⟨j, a1, a2, a3⟩ := ok.locks x hx q; have e : j ≠ i := fun e => a3.1 (e ▸ h0)
    refine ⟨j, a1, (has_o j x e).2 a2, ?_⟩; unfold Hs.live; rw [tx_o j e]; exact a3
  · by_cases e : j = i
    · subst e
      have hp : h1.plan j = [] := by
        unfold Hs.plan; rw [tx_i, lg]; exact Qki hl 0
      refine ⟨by rw [hp]; trivial, fun c hc => (by rw [hp] at hc; exact absurd hc (by unfold chs; simp)), fun x hx hhx => ?_⟩; exfalso; unfold Hs.has at hhx; rw [lk, tx_i] at hhx; obtain ⟨b1, b2⟩ := hhx; have b2' : (h.lk x).nr = h.ct (j / 3) + 1 := b2; obtain ⟨m, a1, a2, a3⟩ := ok.locks x hx (by omega); have a4 := a2.1; have a5 := a2.2; have a6 : m / 3 = j / 3 := by rw [b1] at a4; omega
      have := small m a1 a6; omega
    · have q' : h.live j := by
        unfold Hs.live at q |-; rwa [tx_o j e] at q
      have u := ok.undo j hj q'
      have hp : h1.plan j = h.plan j := by
        unfold Hs.plan; rw [tx_o j e, lg]
      refine ⟨by rw [hp, ce]; exact u.fit, fun c hc => ?_, fun x hx hhx => ?_⟩
      · rw [hp] at hc; exact ⟨(has_o j _ e).2 (u.mine c hc).1, (u.mine c hc).2⟩
      · rw [hp, ce, lk]; exact u.was x hx ((has_o j x e).1 hhx)
  · by_cases e : j = i
    · subst e
      refine ⟨fun r hr ht hk => ?_, fun pre r post he ht hk hpre => ?_⟩
      · rw [lg] at hr; rw [tx_i] at ht; exact absurd ht (none r hr)
      · rw [lg] at he; rw [tx_i] at ht; exact absurd ht (none r (by rw [he]; simp))
    · have q' : h.live j := by
        unfold Hs.live at q |-; rwa [tx_o j e] at q
      have d := ok.did j hj q'
      refine ⟨fun r hr ht hk => ?_, fun pre r post he ht hk hpre => ?_⟩
      · rw [lg] at hr; rw [tx_o j e] at ht; exact (has_o j _ e).2 (d.locked r hr ht hk)
      · rw [lg] at he; rw [tx_o j e] at ht hpre; rw [lk]; exact d.first pre r post he ht hk hpre
theorem Hs.ok.begins (ok : h.ok N) (hi : i < 9) : (h.begun (i / 3) i).ok (N + 1) /\ ((h.begun (i / 3) i).tx i).nr ≠ 0 := by
  by_cases h0 : (h.tx i).nr = 0
  · have e : h.begun (i / 3) i = (h.setCt (i / 3) (h.ct (i / 3) + 1)).setTx i ⟨h.ct (i / 3) + 1, 1, (h.tx i).last, (h.tx i).next⟩ := by unfold Hs.begun; rw [if_pos h0]
    have hz := (ok.txn i hi).zero h0; rw [hz] at e; have hc := ok.ct (i / 3) (by omega); refine ⟨ok.starts hi h0 (by rw [e]; rfl) (by rw [e]; rfl) (by rw [e]; rfl) (by rw [e]; rfl) (by rw [e]; rfl) (by rw [e]; rfl) (by rw [e]; rfl), ?_⟩; rw [e]; show (upd h.tx i _ i).nr ≠ 0; rw [Qj]; show h.ct (i / 3) + 1 ≠ 0; omega
  · have e : h.begun (i / 3) i = h := by unfold Hs.begun; rw [if_neg h0]
    rw [e]; exact ⟨ok.more (by omega), h0⟩
end
end
section
section
variable {h h' : Hs} {N i : Nat}
theorem plan_from {l : List Rec} (hl : Qmb 0 l) (ch : ∀ r ∈ l, Qee l r.t r.p /\ Qee l r.t r.n) (t : Int) : ∀ f m, m <= f -> Qcb l m = m -> Qee l t m -> ∀ c ∈ chs (Qif l m 0), ∃ r ∈ l, r.t = t /\ r.k = 1 /\ c = Qfh r.c := by
  intro f
  induction f with
  | zero =>
    intro m hm _ _ c hc; obtain rfl : m = 0 := by omega
    rw [Qki hl] at hc; exact absurd hc (by unfold chs; simp)
  | succ f ih =>
    intro m hm hn hk c hc
    rcases Qbp hl m 0 hn with ⟨_, e⟩ | ⟨r, hr, h2, h3, h4, e⟩
    · rw [e] at hc; exact absurd hc (by unfold chs; simp)
    · have ht : r.t = t := by
        rcases hk with h5 | ⟨q, h5, h6, h7⟩
        · omega
        · have a := Qcg hl hr; rw [h2, <- h6, Qcg hl h5] at a; injection a with a; rw [<- a]; exact h7
      rw [e] at hc
      have hc' : c = (Qrb l r).c ∨ c ∈ chs (Qif l (Qrb l r).n 0) := by
        unfold chs at hc |-; rw [List.map_cons] at hc; exact List.mem_cons.1 hc
      rcases hc' with h5 | h5
      · exact ⟨r, hr, ht, h3, h5⟩
      · have h6 := Qir hl hr; have h7 := (ch r hr).1; rw [ht] at h7; exact ih (Qrb l r).n (by omega) (Qjo hl r) (Qzf hl ch t _ _ (Nat.le_refl _) h7) c h5
theorem Hs.ok.makes (ok : h.ok N) (hN : N <= 100000) (hi : i < 9) {p s : Nat} (hp4 : p < 4) (hs8 : s < 8) {o : Ac} (h0 : (h.tx i).nr ≠ 0) (hst : (h.tx i).st = 1) (hbar : (h.lk (p * 8 + s)).nr = 0 ∨ h.has i (p * 8 + s)) (hE : h.ofE p s o = 0) : (h.made (i / 3) i p s o).ok (N + 1) := by
  have hl := ok.rise (i / 3) (by omega); have hlive : h.live i := ⟨h0, by omega⟩; have u := ok.undo i hi hlive; have d := ok.did i hi hlive; have of := ofC_tells hE; obtain ⟨C, hC⟩ : ∃ C, C = h.ofC p s o := ⟨_, rfl⟩; have of' : C.right /\ C.pg = (p : Int) /\ C.sl = (s : Int) /\ C.wantU = (h.pg p).u s /\ C.wantV = (h.pg p).s s := by rw [hC]; exact of
  clear of; obtain ⟨c1, c2, c3, c4, c5⟩ := of'; have hat : C.at = s := by unfold Ch.at; rw [c3]; omega
  have hpp : C.pg.toNat = p := by rw [c2]; omega
  obtain ⟨x0, hx0⟩ : ∃ x, x = p * 8 + s := ⟨_, rfl⟩; have hx : Qac C = x0 := by unfold Qac; rw [hpp, hat, hx0]
  have x32 : x0 < 32 := by omega
  have Qzc : h.cell x0 = (C.wantU, C.wantV) := by
    unfold Hs.cell; rw [show x0 / 8 = p by omega, show x0 % 8 = s by omega, c4, c5]
  rw [<- hx0] at hbar; obtain ⟨L, hL⟩ : ∃ L, L = max (max (h.ck (i / 3)) h.hi) (h.pg p).l + 1 := ⟨_, rfl⟩; have b1 := ok.ck (i / 3) (by omega); have b2 := ok.pl p hp4; have b3 := ok.last_lt hi h0; have b4 := (ok.txn i hi).nr h0; have b5 := ok.ct (i / 3) (by omega); have b6 := ok.hi
  have kl : (h.locked (i / 3) i p s).lg = h.lg /\ (h.locked (i / 3) i p s).pg = h.pg /\ (h.locked (i / 3) i p s).ck = h.ck /\ (h.locked (i / 3) i p s).ct = h.ct /\ (h.locked (i / 3) i p s).tx = h.tx /\ (h.locked (i / 3) i p s).hi = h.hi := by
    unfold Hs.locked; split <;> exact ⟨rfl, rfl, rfl, rfl, rfl, rfl⟩
  have kk : ((h.lk x0).nr = 0 /\ (h.locked (i / 3) i p s).lk = upd h.lk x0 ⟨((i / 3 : Nat) : Int), (h.tx i).nr, C.wantU, C.wantV⟩) ∨ (h.has i x0 /\ (h.locked (i / 3) i p s).lk = h.lk) := by
    unfold Hs.locked; rw [<- hx0]
    by_cases q : (h.lk x0).nr = 0
    · refine .inl ⟨q, ?_⟩; rw [if_pos q, c4, c5]; rfl
    · refine .inr ⟨?_, by rw [if_neg q]⟩
      rcases hbar with a | a
      · exact absurd a q
      · exact a
  have hlsn : (h.lockedUp (i / 3) i p s).lsn (i / 3) (h.pg p).l = L := by
    show max (upd (h.locked (i / 3) i p s).ck (i / 3) (max (h.ck (i / 3)) h.hi) (i / 3)) (h.pg p).l + 1 = L; rw [Qj, hL]
  obtain ⟨e, he⟩ : ∃ e : Rec, e = ⟨1, L, (h.tx i).nr, (h.tx i).last, C, 0, 0, 0, [], []⟩ := ⟨_, rfl⟩
  have hent : (h.lockedUp (i / 3) i p s).entry (i / 3) i (Qaa 1 C 0) (h.pg p).l = e := by
    show (⟨1, (h.lockedUp (i / 3) i p s).lsn (i / 3) (h.pg p).l, ((h.locked (i / 3) i p s).tx i).nr, ((h.locked (i / 3) i p s).tx i).last, C, 0, 0, 0, [], []⟩ : Rec) = e; rw [hlsn, kl.2.2.2.2.1, he]
  obtain ⟨hm, hhm⟩ : ∃ q, q = h.made (i / 3) i p s o := ⟨_, rfl⟩
  have m_lg : hm.lg = upd h.lg (i / 3) (h.lg (i / 3) ++ [e]) := by
    rw [hhm]; show upd (h.locked (i / 3) i p s).lg (i / 3) ((h.locked (i / 3) i p s).lg (i / 3) ++ [(h.lockedUp (i / 3) i p s).entry (i / 3) i (Qaa 1 (h.ofC p s o) 0) ((h.locked (i / 3) i p s).pg (h.ofC p s o).pg.toNat).l]) = _; rw [<- hC, hpp, kl.1, kl.2.1, hent]
  have m_ck : hm.ck = upd h.ck (i / 3) L := by
    rw [hhm]; show upd (upd (h.locked (i / 3) i p s).ck (i / 3) (max (h.ck (i / 3)) h.hi)) (i / 3) ((h.lockedUp (i / 3) i p s).lsn (i / 3) ((h.locked (i / 3) i p s).pg (h.ofC p s o).pg.toNat).l) = _; rw [<- hC, hpp, kl.2.1, hlsn, Qqf, kl.2.2.1]
  have m_tx : hm.tx = upd h.tx i ⟨(h.tx i).nr, (h.tx i).st, L, L⟩ := by
    rw [hhm]; show upd (upd (h.locked (i / 3) i p s).tx i (((h.locked (i / 3) i p s).tx i).setLast ((h.lockedUp (i / 3) i p s).lsn (i / 3) ((h.locked (i / 3) i p s).pg (h.ofC p s o).pg.toNat).l))) i ((upd (h.locked (i / 3) i p s).tx i (((h.locked (i / 3) i p s).tx i).setLast ((h.lockedUp (i / 3) i p s).lsn (i / 3) ((h.locked (i / 3) i p s).pg (h.ofC p s o).pg.toNat).l)) i).setNext (upd (h.locked (i / 3) i p s).tx i (((h.locked (i / 3) i p s).tx i).setLast ((h.lockedUp (i / 3) i p s).lsn (i / 3) ((h.locked (i / 3) i p s).pg (h.ofC p s o).pg.toNat).l)) i).last) = _; rw [<- hC, hpp, kl.2.1, hlsn, Qqf, Qj, kl.2.2.2.2.1]; rfl
  have m_pg : hm.pg = upd h.pg p ((h.pg p).put L C.at C.makeU C.makeV) := by
    rw [hhm]; show upd (h.locked (i / 3) i p s).pg (h.ofC p s o).pg.toNat (((h.locked (i / 3) i p s).pg (h.ofC p s o).pg.toNat).put ((h.lockedUp (i / 3) i p s).lsn (i / 3) ((h.locked (i / 3) i p s).pg (h.ofC p s o).pg.toNat).l) (h.ofC p s o).at (h.ofC p s o).makeU (h.ofC p s o).makeV) = _; rw [<- hC, hpp, kl.2.1, hlsn]
  have m_ct : hm.ct = h.ct := by
    rw [hhm]; show (h.locked (i / 3) i p s).ct = _; exact kl.2.2.2.1
  have m_hi : hm.hi = h.hi := by
    rw [hhm]; show (h.locked (i / 3) i p s).hi = _; exact kl.2.2.2.2.2
  have m_lk : hm.lk = (h.locked (i / 3) i p s).lk := by rw [hhm]; rfl
  rw [<- m_lk] at kk; rw [<- hhm]; clear hhm m_lk kl hlsn hent hE hC hbar; have hce := Qvw (h := h) c1 hpp.symm m_pg
  have lk_o : ∀ x, x ≠ x0 -> hm.lk x = h.lk x := fun x hne => by
    rcases kk with ⟨_, a⟩ | ⟨_, a⟩
    · rw [a, Qq _ _ _ _ hne]
    · rw [a]
  have lk_i : hasN (hm.lk x0) (i / 3) (h.tx i).nr := by
    rcases kk with ⟨_, a⟩ | ⟨b, a⟩
    · rw [a, Qj]; exact ⟨rfl, rfl⟩
    · rw [a]; exact b
  have lk_h : ∀ x, h.has i x -> hm.lk x = h.lk x := fun x hh => by
    by_cases q : x = x0
    · subst q
      rcases kk with ⟨b, a⟩ | ⟨_, a⟩
      · exact absurd (hh.2.symm.trans b) h0
      · rw [a]
    · exact lk_o x q
  have S : Logs h hm i e ⟨(h.tx i).nr, (h.tx i).st, L, L⟩ := by
    refine ⟨hi, h0, m_lg, by rw [m_ck, he], m_ct, m_tx, by rw [he], by rw [he], by rw [he]; show h.ck (i / 3) < L; omega, ?_, by rw [he]; show (1 : Int) <= 6; decide, by rw [he]; exact .inl rfl, fun _ => ?_, fun x hx9 => ?_, fun x hx9 hnz hn => ?_⟩
    · rw [he]; exact Qxp (.inl rfl) c1 (by unfold Qve; omega) (by omega) (by omega) (fun q => absurd q (by decide)) (fun _ => rfl)
    · rw [he]; show C.pg < 4; omega
    · by_cases q : x = x0
      · rw [q]; exact .inr (.inr lk_i)
      · exact .inl (lk_o x q)
    · have q : x ≠ x0 := fun q => by
        subst q
        rcases kk with ⟨b, _⟩ | ⟨b, _⟩
        · exact hnz b
        · exact hn b
      exact ⟨lk_o x q, by rw [hce]; exact Qzk _ _ _ (by rw [hx]; exact q)⟩
  have inv := doC_inv h.cell C c1 (by rw [hx]; exact Qzc); have hinv := Qlg C c1; have hnx := (ok.txn i hi).next h0
  have hlink : Qee (h.lg (i / 3)) (h.tx i).nr (h.tx i).next := by
    have a : Qee (h.lg (i / 3)) (h.tx i).nr (h.tx i).last := by
      rw [(ok.txn i hi).last h0]
      rcases Qgj (h.lg (i / 3)) (h.tx i).nr with h4 | ⟨q, h4, h5, h6, _⟩
      · exact .inl h4
      · exact .inr ⟨q, h4, h5, h6⟩
    rw [hnx]; exact Qzf hl (ok.chain (i / 3) (by omega)) _ _ _ (Nat.le_refl _) a
  have hag : Qcb (h.lg (i / 3)) (h.tx i).next = (h.tx i).next := by
    rw [hnx]; exact Qaj hl _
  have hplan : chs (hm.plan i) = Qfh C :: chs (h.plan i) := by
    unfold Hs.plan; rw [S.tx_i, S.lg_i, Qsd, if_pos (by rw [he]), if_pos ⟨by show 0 < L; omega, by rw [he]⟩]; unfold chs; rw [List.map_cons]; have e1 : (Qrb (h.lg (i / 3)) e).c = Qfh C := by rw [he]; rfl
    have e2 : Qcb (h.lg (i / 3)) e.p = (h.tx i).next := by
      rw [he]; show Qcb (h.lg (i / 3)) (h.tx i).last = _; exact hnx.symm
    rw [e1, e2]
  have has_of : ∀ x, hasN (hm.lk x) (i / 3) (h.tx i).nr -> hm.has i x := fun x hh => by
    unfold Hs.has; rw [S.tx_i]; exact hh
  have has_to : ∀ x, hm.has i x -> hasN (hm.lk x) (i / 3) (h.tx i).nr := fun x hh => by
    unfold Hs.has at hh; rw [S.tx_i] at hh; exact hh
  have has_up : ∀ x, h.has i x -> hm.has i x := fun x hh => has_of x (by rw [lk_h x hh]; exact hh)
  have free_cell : (h.lk x0).nr = 0 -> ∀ c ∈ chs (h.plan i), Qac c ≠ x0 := fun q c hc e => by
    have a := (u.mine c hc).1; rw [e] at a; exact h0 (a.2.symm.trans q)
  refine S.done ok (N + 1) (by omega) (by rw [he]; show L <= N + 1; omega) (by rw [m_hi]; omega) (fun q hq => ?_) (fun q hq => ?_) ?_ (.inl rfl) (fun x hx hn => ⟨rfl, hlive.2⟩) (fun _ => ⟨⟨?_, fun c hc => ?_, fun x hx2 hh => ?_⟩, ⟨fun r hr ht hk1 => ?_, fun pre r post hsp ht hk1 hpre => ?_⟩⟩)
  · rw [m_pg]
    by_cases hqp : q = p
    · subst hqp; rw [Qj]; show L <= N + 1; omega
    · rw [Qq _ _ _ _ hqp]; have := ok.pl q hq; omega
  · rw [m_pg]
    by_cases hqp : q = p
    · subst hqp; rw [Qj]; exact Qds _ _ _ (ok.pr q hq) c1 (by unfold Qve; omega)
    · rw [Qq _ _ _ _ hqp]; exact ok.pr q hq
  · have w := ok.txn i hi
    exact {
      zero := fun q => absurd q h0
      nr := fun _ => w.nr h0
      last := fun _ => by
        show L = Qeg _ (h.tx i).nr
        rw [Qoc, if_pos ⟨b4.1, by rw [he]⟩, he]
      next := fun _ => by
        show L = Qcb _ L
        rw [Qbc, if_pos (by rw [he]), if_pos (by rw [he])]
      noend := fun _ r hr ht => by
        rcases List.mem_append.1 hr with hr | hr
        · exact w.noend h0 r hr ht
        · rw [List.mem_singleton.1 hr, he]; show (1 : Int) ≠ 5; decide
      nocom := fun _ hst r hr ht => by
        rcases List.mem_append.1 hr with hr | hr
        · exact w.nocom h0 hst r hr ht
        · rw [List.mem_singleton.1 hr, he]; show (1 : Int) ≠ 3; decide
      com := fun _ hst => absurd hst hlive.2 }
  · rw [hplan, hce]; refine ⟨by rw [inv.1]; exact inv.2.1, ?_⟩; rw [inv.2.2]; exact u.fit
  · rw [hplan] at hc
    rcases List.mem_cons.1 hc with a | a
    · rw [a, inv.1, hx]; refine ⟨has_of x0 lk_i, hinv.1, ?_⟩; have : (Qfh C).pg = C.pg := by unfold Qfh; rw [if_pos c1]
      omega
    · have b := u.mine c a; exact ⟨has_up _ b.1, b.2⟩
  · rw [hplan, hce]; show runC (doC (doC h.cell C) (Qfh C)) (chs (h.plan i)) x = _; rw [inv.2.2]
    by_cases q : x = x0
    · subst q
      rcases kk with ⟨b, a⟩ | ⟨b, a⟩
      · rw [Qyg _ _ _ (free_cell b), Qzc, a, Qj]
      · rw [a]; exact u.was x x32 b
    · rw [lk_o x q]; have a := has_to x hh; rw [lk_o x q] at a; exact u.was x hx2 a
  · rw [S.tx_i] at ht
    rcases S.mem hr with a | ⟨_, a⟩
    · exact has_up _ (d.locked r a ht hk1)
    · rw [a, he]; show hm.has i (Qac C); rw [hx]; exact has_of x0 lk_i
  · rw [S.tx_i] at ht hpre; rw [S.lg_i] at hsp
    rcases Qwp hsp with ⟨post', a⟩ | ⟨a, b⟩
    · have hmem : r ∈ h.lg (i / 3) := by rw [a]; simp
      rw [lk_h _ (d.locked r hmem ht hk1)]; exact d.first pre r post' a ht hk1 hpre
    · subst b; have hrc : r.c = C := by rw [he]
      rw [hrc, hx] at hpre |-
      rcases kk with ⟨b, k⟩ | ⟨b, k⟩
      · rw [k, Qj]
      · rw [k, <- Qzc, <- u.was x0 x32 b]; refine Qyg _ _ _ (fun c hc hcx => ?_); obtain ⟨q, hq, q1, q2, q3⟩ := plan_from hl (ok.chain (i / 3) (by omega)) (h.tx i).nr _ _ (Nat.le_refl _) hag hlink c hc; have hqR := Qka _ 0 hl q hq; refine hpre q (by rw [a]; exact hq) q1 q2 ?_; rw [<- hcx, q3]; have hqc := hqR.ch (by omega); have w := Qlg q.c hqc; unfold Qac; rw [w.2.1]; unfold Qfh; rw [if_pos hqc]
end
end
section
section
variable {h : Hs} {N : Nat}
theorem Hs.ok.changed (ok : h.ok N) (hN : N <= 50000) {i : Nat} (hi : i < 9) (o : Ac) : (h.change (i / 3) i o).ok (N + 2) := by
  obtain ⟨ok1, h0⟩ := ok.begins hi; unfold Hs.change; obtain ⟨g, hg⟩ : ∃ g, g = h.begun (i / 3) i := ⟨_, rfl⟩; rw [<- hg] at ok1 h0 |-; have hp := Qdc o.pg 4 (by decide); have hs := Qdc o.sl 8 (by decide); unfold Hs.change1
  by_cases hb : g.barred (i / 3) i (pick15 o.pg 4 * 8 + pick15 o.sl 8) = true
  · rw [if_pos hb]; exact ok1.more (by omega)
  rw [if_neg hb]
  by_cases hE : g.ofE (pick15 o.pg 4) (pick15 o.sl 8) o ≠ 0
  · rw [if_pos hE]; exact ok1.more (by omega)
  rw [if_neg hE]
  have hE0 : g.ofE (pick15 o.pg 4) (pick15 o.sl 8) o = 0 := by
    by_cases q : g.ofE (pick15 o.pg 4) (pick15 o.sl 8) o = 0
    · exact q
    · exact absurd q hE
  have hst : (g.tx i).st = 1 := by
    by_cases q : (g.tx i).st = 1
    · exact q
    · exact absurd (by unfold Hs.barred; simp [q]) hb
  have hbar : (g.lk (pick15 o.pg 4 * 8 + pick15 o.sl 8)).nr = 0 ∨ g.has i (pick15 o.pg 4 * 8 + pick15 o.sl 8) := by
    by_cases q : (g.lk (pick15 o.pg 4 * 8 + pick15 o.sl 8)).nr = 0
    · exact .inl q
    · refine .inr ?_; unfold Hs.has hasN
      by_cases q1 : (g.lk (pick15 o.pg 4 * 8 + pick15 o.sl 8)).nd = ((i / 3 : Nat) : Int)
      · by_cases q2 : (g.lk (pick15 o.pg 4 * 8 + pick15 o.sl 8)).nr = (g.tx i).nr
        · exact ⟨q1, q2⟩
        · refine absurd ?_ hb; unfold Hs.barred; rw [Bool.or_eq_true, Bool.and_eq_true, Bool.or_eq_true, decide_eq_true_eq, decide_eq_true_eq, decide_eq_true_eq, decide_eq_true_eq]; exact .inr ⟨q, .inr q2⟩
      · refine absurd ?_ hb; unfold Hs.barred; rw [Bool.or_eq_true, Bool.and_eq_true, Bool.or_eq_true, decide_eq_true_eq, decide_eq_true_eq, decide_eq_true_eq, decide_eq_true_eq]; exact .inr ⟨q, .inl q1⟩
  exact ok1.makes (by omega) hi hp hs h0 hst hbar hE0
theorem Hs.ok.did2 (ok : h.ok N) (hN : N <= 50000) {i : Nat} (hi : i < 9) (kd : Nat) (o : Ac) (hl : (h.tx i).last ≠ 0) : (h.does2 (i / 3) i kd o).ok (N + 1) := by
  have h0 : (h.tx i).nr ≠ 0 := fun q => hl (by rw [(ok.txn i hi).zero q]; rfl)
  have hN1 : N <= 100000 := by omega
  have c1 := ok.ck (i / 3) (by omega); have c2 := ok.hi; have hL : h.lsn (i / 3) 0 = h.ck (i / 3) + 1 := by unfold Hs.lsn; omega
  unfold Hs.does2
  by_cases e6 : kd = 6 /\ (h.tx i).st = 1
  · rw [if_pos e6]
    refine ok.stops hN1 hi h0 (t' := ⟨(h.tx i).nr, 3, h.lsn (i / 3) 0, (h.tx i).next⟩) (k := 3) (.inl ⟨rfl, e6.2, rfl⟩) rfl rfl rfl ?_ rfl (fun x hx => ?_) ?_
    · show upd (upd h.tx i ((h.tx i).setLast (h.lsn (i / 3) 0))) i ((upd h.tx i ((h.tx i).setLast (h.lsn (i / 3) 0)) i).setSt 3) = _; rw [Qqf, Qj]; rfl
    · refine free_lk (h := h) (h1 := ((h.log (i / 3) i (Qaa 3 Ch.zero 0) 0).setHi (max h.hi (h.lsn (i / 3) 0))).state i 3) rfl ?_ x hx; show (upd (upd h.tx i ((h.tx i).setLast (h.lsn (i / 3) 0))) i ((upd h.tx i ((h.tx i).setLast (h.lsn (i / 3) 0)) i).setSt 3) i).nr = _; rw [Qqf, Qj, Qj]; rfl
    · show max h.hi (h.lsn (i / 3) 0) <= N + 1; omega
  rw [if_neg e6]
  by_cases e7 : kd = 7 /\ ((h.tx i).st = 3 ∨ (h.tx i).st = 2 /\ (h.tx i).next = 0)
  · rw [if_pos e7]
    refine ok.stops hN1 hi h0 (t' := Tu.zero) (k := 5) (.inr ⟨rfl, rfl⟩) rfl rfl rfl ?_ rfl (fun x hx => ?_) ?_
    · show upd (upd h.tx i ((h.tx i).setLast (h.lsn (i / 3) 0))) i Tu.zero = _; rw [Qqf]
    · refine free_lk (h := h) (h1 := h.log (i / 3) i (Qaa 5 Ch.zero 0) 0) rfl ?_ x hx; show (upd h.tx i ((h.tx i).setLast (h.lsn (i / 3) 0)) i).nr = _; rw [Qj]; rfl
    · show h.hi <= N + 1; omega
  rw [if_neg e7]
  by_cases e8 : kd = 8 /\ (h.tx i).st = 1
  · rw [if_pos e8]; refine ok.goes hN1 hi h0 e8.2 (k := 4) (ss := 0) (s := 2) (.inl rfl) (fun q => absurd q (by decide)) (fun _ => rfl) (.inr rfl) rfl rfl rfl ?_ rfl rfl rfl; show upd (upd h.tx i ((h.tx i).setLast (h.lsn (i / 3) 0))) i ((upd h.tx i ((h.tx i).setLast (h.lsn (i / 3) 0)) i).setSt 2) = _; rw [Qqf, Qj]; rfl
  rw [if_neg e8]
  by_cases e9 : kd = 9 ∨ kd = 10
  · rw [if_pos e9]; exact ok.backs hN1 hi
  rw [if_neg e9]
  by_cases e11 : kd = 11 /\ (h.tx i).st = 1
  · rw [if_pos e11]; have hs := Qdc o.sl 8 (by decide); refine ok.goes hN1 hi h0 e11.2 (k := 6) (ss := 1 + (pick15 o.sl 8 : Nat)) (s := 1) (.inr rfl) (fun _ => by omega) (fun q => absurd rfl q) (.inl rfl) rfl rfl rfl ?_ rfl rfl rfl; show upd h.tx i ((h.tx i).setLast (h.lsn (i / 3) 0)) = _; rw [<- e11.2]; rfl
  rw [if_neg e11]; exact ok.more (by omega)
theorem Hs.ok.does (ok : h.ok N) (hN : N <= 50000) (o : Ac) : (h.does o).ok (N + 2) := by
  have hn := Qdc o.n 3 (by decide); have hk := Qdc o.t 3 (by decide); unfold Hs.does; obtain ⟨i, hi⟩ : ∃ i, i = pick15 o.n 3 * 3 + pick15 o.t 3 := ⟨_, rfl⟩; have hi9 : i < 9 := by omega
  have h3 : pick15 o.n 3 = i / 3 := by omega
  rw [<- hi, h3]
  by_cases e5 : pick15 o.k 13 <= 5
  · rw [if_pos e5]; exact ok.changed hN hi9 o
  rw [if_neg e5]
  by_cases e12 : pick15 o.k 13 = 12
  · rw [if_pos e12]; have a := ok.ck (i / 3) (by omega); have b := ok.ck (pick15 o.t 3) hk; exact (ok.clock (by omega) (by omega)).more (by omega)
  rw [if_neg e12]
  by_cases e0 : (h.tx i).last = 0
  · rw [if_pos e0]; exact ok.more (by omega)
  rw [if_neg e0]; exact (ok.did2 hN hi9 _ o e0).more (by omega)
theorem cell0 : ∀ i, i < 8 -> cellOk (Pg.zero.u i) (Pg.zero.s i) := fun i _ => ⟨Nat.zero_le _, fun _ => rfl⟩
theorem Hs.zero_ok : Hs.zero.ok 0 where
  ck := fun n hn => Nat.le_refl _
  hi := Nat.le_refl _
  ct := fun n hn => ⟨Int.le_refl _, Int.le_refl _⟩
  pl := fun p hp => Nat.le_refl _
  pr := fun p hp => ⟨Nat.zero_le _, cell0⟩
  rise := fun n hn => trivial
  last := fun n hn r hr => absurd hr (by show ¬ r ∈ ([] : List Rec); simp)
  recs := fun n hn r hr => absurd hr (by show ¬ r ∈ ([] : List Rec); simp)
  chain := fun n hn r hr => absurd hr (by show ¬ r ∈ ([] : List Rec); simp)
  txn := fun i hi => ⟨fun _ => rfl, fun q => absurd rfl q, fun q => absurd rfl q, fun q => absurd rfl q, fun q => absurd rfl q, fun q => absurd rfl q, fun q => absurd rfl q⟩
  apart := fun i j _ _ _ _ q => absurd rfl q
  over := fun n hn r hr => absurd hr (by show ¬ r ∈ ([] : List Rec); simp)
  locks := fun x hx q => absurd rfl q
  undo := fun i hi q => absurd rfl q.1
  did := fun i hi q => absurd rfl q.1
theorem Hs.play_ok : ∀ l : List Ac, l.length <= 20000 -> (Hs.play l).ok (2 * l.length) := by
  intro l
  induction l using Qab with
  | h0 => exact fun _ => Hs.zero_ok
  | h1 l o ih =>
    intro hl; rw [List.length_append, List.length_singleton] at hl |-; rw [Hs.play_snoc]; exact (ih (by omega)).does (by omega) o
theorem Qgy : ∀ (l : List Rec) (a c : Nat), Qmb a l -> (∀ r ∈ l, r.l <= c) -> a <= c -> l.length <= c - a
  | [], _, _, _, _, _ => Nat.zero_le _
  | r :: l, a, c, h, hc, ha => by
    have h1 := hc r (by simp); have h2 := Qgy l r.l c h.2.2 (fun q hq => hc q (List.mem_cons_of_mem _ hq)) h1; have h3 := h.2.1; rw [List.length_cons]; omega
theorem Hs.ok.len (ok : h.ok N) {n : Nat} (hn : n < 3) : (h.lg n).length <= N := by
  have := Qgy (h.lg n) 0 (h.ck n) (ok.rise n hn) (ok.last n hn) (Nat.zero_le _); have := ok.ck n hn; omega
theorem Qos (h : Hs) (n i : Nat) (r : Rec) (p : Nat) : ((h.turn n i r).past p).length <= (h.past p).length + 1 := by
  show (upd h.past r.page _ p).length <= _
  by_cases e : p = r.page
  · rw [e, Qj, List.length_append, List.length_singleton]; exact Nat.le_refl _
  · rw [Qq _ _ _ _ e]; omega
theorem does_past (h : Hs) (o : Ac) (p : Nat) : ((h.does o).past p).length <= (h.past p).length + 1 := by
  unfold Hs.does
  split
  · unfold Hs.change; obtain ⟨g, hg⟩ : ∃ g, g = h.begun (pick15 o.n 3) (pick15 o.n 3 * 3 + pick15 o.t 3) := ⟨_, rfl⟩
    have e : g.past = h.past := by
      rw [hg]; unfold Hs.begun; split <;> rfl
    rw [<- hg, <- e]; unfold Hs.change1
    split
    · omega
    · split
      · omega
      · have a := Qos (g.lockedUp (pick15 o.n 3) (pick15 o.n 3 * 3 + pick15 o.t 3) (pick15 o.pg 4) (pick15 o.sl 8)) (pick15 o.n 3) (pick15 o.n 3 * 3 + pick15 o.t 3) (Qaa 1 (g.ofC (pick15 o.pg 4) (pick15 o.sl 8) o) 0) p
        have b : (g.lockedUp (pick15 o.n 3) (pick15 o.n 3 * 3 + pick15 o.t 3) (pick15 o.pg 4) (pick15 o.sl 8)).past = g.past := by
          unfold Hs.lockedUp Hs.locked; split <;> rfl
        rw [b] at a; exact a
  · split
    · show (h.past p).length <= _; omega
    · split
      · omega
      · unfold Hs.does2
        split
        · show (h.past p).length <= _; omega
        · split
          · show (h.past p).length <= _; omega
          · split
            · show (h.past p).length <= _; omega
            · split
              · unfold Hs.back
                split
                · omega
                · exact Qos h _ _ _ p
              · split
                · show (h.past p).length <= _; omega
                · omega
theorem play_past (l : List Ac) (p : Nat) : ((Hs.play l).past p).length <= l.length + 1 := by
  induction l using Qab with
  | h0 => exact Nat.le_refl _
  | h1 l o ih =>
    rw [Hs.play_snoc, List.length_append, List.length_singleton]; have := does_past (Hs.play l) o p; omega
end
end
theorem share15p {F G : Nat -> Nat -> Nat -> World -> Prop} {R : Prop} (h : (∀ g a c z, F g a c z -> G g a c z) -> R) (k : ∀ g a c z, F g a c z -> G g a c z) : R := h k
theorem Qgx (w : World) : (Instr.makeSlice 59 (.int .i64 3) (.int .i64 3)).run Try.prog w = .ok (.slice (some ⟨w.heap.size, 0, none⟩) 3 3) (w.alloc (.cells z3R 22)) := by kernel_rfl
theorem Qbx (w : World) : (Instr.makeSlice 60 (.int .i64 4) (.int .i64 4)).run Try.prog w = .ok (.slice (some ⟨w.heap.size, 0, none⟩) 4 4) (w.alloc (.cells z4P 93)) := by
  kernel_rfl
theorem infoPs15 : (Try.prog.info? 60).map (fun i => (i.zero, i.size, i.bytes)) = some (some (.slice none 0 0), 1, 24) := by kernel_rfl
theorem sound_of {h : Hs} {N : Nat} (ok : h.ok N) (hN : N <= 800) (hp : ∀ p, p < 4 -> (h.past p).length <= 900) : h.sound where
  few := ⟨fun n hn => Nat.le_trans (ok.ck n hn) (by omega), Nat.le_trans ok.hi (by omega), fun p hp => Nat.le_trans (ok.pl p hp) (by omega), fun n hn => ⟨(ok.ct n hn).1, by have := (ok.ct n hn).2; omega⟩, fun n hn => Nat.le_trans (ok.len hn) (by omega), hp⟩
  rise := ok.rise
  pgs := fun n hn r hr hk => (ok.recs n hn r hr).2.2.2 (by omega)
  next := fun i hi h1 => by
    have h0 : (h.tx i).nr ≠ 0 := fun q => h1 (by rw [(ok.txn i hi).zero q]; rfl)
    obtain ⟨r, a, b, c, _⟩ := ok.front hi h0 h1; exact ⟨r, a, b, c⟩
theorem hplay15 (w : World) (a0 : Option Addr) (n0 k0 : Nat) (l : List Ac) (H : Qct w (.slice a0 n0 k0) l) (hl : l.length <= 300) :
    Calls Try.prog 25 #[.slice a0 n0 k0] w fun e w' => ∃ g F, e = .returned (.pointer (some ⟨g, 0, none⟩)) /\ HB w' w.heap.size g F (Hs.play l) /\ Below w.heap.size w w' := by
  have HH := Qc H
  have hn0 : n0 = l.length := by
    obtain ⟨a, c, e, _⟩ := H.1; injection e
  have HL := Qc hl; have HLN := Qc hn0; clear H hl hn0; go_enter Try.func25, Try.ntmps25; go_wp2_with fail; apply share15p (F := fun g gl gp z => Hid (NewAt z w.heap.size g gl gp 0 (.slice none 0 0) (fun _ => 0) (Qpv gl gp) /\ Below w.heap.size w z))
  (case h =>
    intro REST; refine wp_region_noPanic ?_; refine wp_region_held_drew (S := fun _ => True) (by kernel_rfl) trivial (fun hHeld => ?_)
    refine Qqc 0 1 (by kernel_rfl) ?_ ?_
    · skip; obtain ⟨gl, hgl⟩ : ∃ k, k = w.drew.heap.size := ⟨_, rfl⟩; have rgl := Qgx w.drew; refine Qs (some 6) rfl rfl rfl (.slice (some ⟨gl, 0, none⟩) 3 3) (w.drew.alloc (.cells z3R 22)) ?hz ?_; (case hz => rw [hgl]; go_simp); have bgl : Below w.drew.heap.size w.drew (w.drew.alloc (.cells z3R 22)) := (Below.refl _ _).alloc (Nat.le_refl _) _; have Rgl : Qb (w.drew.alloc (.cells z3R 22)) gl 22 z3R := by rw [hgl]; exact Qb.new _ _ _
      have lgl : w.heap.size <= gl := by rw [hgl]; exact Nat.le_refl _
      clear rgl; refine ⟨trivial, ?_⟩; (try simp only [Act.put, List.setIfInBounds_toArray, List.set]); obtain ⟨z1, hz1⟩ : ∃ z, z = (w.drew.alloc (.cells z3R 22)) := ⟨_, rfl⟩; rw [<- hz1] at bgl Rgl |-; have B1 : Below w.heap.size w z1 := (Qp (Below.refl w.heap.size w)).trans bgl; clear hz1; refine Qh 1 (by kernel_rfl) ?_; obtain ⟨gp, hgp⟩ : ∃ k, k = z1.heap.size := ⟨_, rfl⟩; have rgp := Qbx z1; refine Qs (some 7) rfl rfl rfl (.slice (some ⟨gp, 0, none⟩) 4 4) (z1.alloc (.cells z4P 93)) ?hz ?_; (case hz => rw [hgp]; go_simp); have bgp : Below z1.heap.size z1 (z1.alloc (.cells z4P 93)) := (Below.refl _ _).alloc (Nat.le_refl _) _; have Rgp : Qb (z1.alloc (.cells z4P 93)) gp 93 z4P := by rw [hgp]; exact Qb.new _ _ _
      have lgp : w.heap.size <= gp := by rw [hgp]; exact B1.size
      clear rgp; refine ⟨trivial, ?_⟩; (try simp only [Act.put, List.setIfInBounds_toArray, List.set]); obtain ⟨z2, hz2⟩ : ∃ z, z = z1.alloc (.cells z4P 93) := ⟨_, rfl⟩; rw [<- hz2] at bgp Rgp |-; have B2 := B1.trans (bgp.mono B1.size); have R2 := Rgl.later bgp; clear hz2; refine Qa 2 (some 8) (.agg (Qpv gl gp)) rfl rfl (by kernel_rfl) (by kernel_rfl) (by kernel_rfl) (fun _ _ _ h => h) (Or.inl ⟨by kernel_rfl, fun x' hSx => by kernel_rfl⟩) hHeld ?_; (try simp only [Act.put, List.setIfInBounds_toArray, List.set]); refine Qh 3 (by kernel_rfl) ?_; obtain ⟨g, hg⟩ : ∃ k, k = z2.heap.size := ⟨_, rfl⟩; have b3 : Below z2.heap.size z2 (z2.alloc (.cells (Qpv gl gp) 75)) := (Below.refl _ _).alloc (Nat.le_refl _) _; have R3 : Qb (z2.alloc (.cells (Qpv gl gp) 75)) g 75 (Qpv gl gp) := by rw [hg]; exact Qb.new _ _ _
      have lg : w.heap.size <= g := by rw [hg]; exact B2.size
      have HZ4 := Qc (Qfq gl gp); refine Qs (some 9) rfl rfl rfl (.pointer (some ⟨g, 0, none⟩)) (z2.alloc (.cells (Qpv gl gp) 75)) ?hz ?_; (case hz => rw [hg]; go_simp); obtain ⟨z3, hz3⟩ : ∃ z, z = z2.alloc (.cells (Qpv gl gp) 75) := ⟨_, rfl⟩; rw [<- hz3] at b3 R3 |-; clear hz3; refine ⟨trivial, ?_⟩; (try simp only [Act.put, List.setIfInBounds_toArray, List.set]); refine Qa 4 (some 3) (.pointer (some ⟨g, 0, none⟩)) rfl rfl (by kernel_rfl) (by kernel_rfl) (by kernel_rfl) (fun _ _ _ h => h) (Or.inl ⟨by kernel_rfl, fun x' hSx => by go_simp⟩) hHeld ?_; (try simp only [Act.put, List.setIfInBounds_toArray, List.set]); refine wpAnyH_done (by kernel_rfl) ?_ _; refine NoPanic.normal ?_; exact REST g gl gp z3 ⟨⟨⟨lg, lgl, lgp⟩, R3, HZ4.out, R2.later b3, Rgp.later b3, World.ownsRow_nil _ _ _ _, fun p hp => absurd hp (Nat.not_lt_zero p), fun p q hp => absurd hp (Nat.not_lt_zero p)⟩, B2.trans (b3.mono B2.size)⟩
    · skip; obtain ⟨gp, hgp⟩ : ∃ k, k = w.drew.heap.size := ⟨_, rfl⟩; have rgp := Qbx w.drew; refine Qs (some 7) rfl rfl rfl (.slice (some ⟨gp, 0, none⟩) 4 4) (w.drew.alloc (.cells z4P 93)) ?hz ?_; (case hz => rw [hgp]; go_simp); have bgp : Below w.drew.heap.size w.drew (w.drew.alloc (.cells z4P 93)) := (Below.refl _ _).alloc (Nat.le_refl _) _; have Rgp : Qb (w.drew.alloc (.cells z4P 93)) gp 93 z4P := by rw [hgp]; exact Qb.new _ _ _
      have lgp : w.heap.size <= gp := by rw [hgp]; exact Nat.le_refl _
      clear rgp; refine ⟨trivial, ?_⟩; (try simp only [Act.put, List.setIfInBounds_toArray, List.set]); obtain ⟨z1, hz1⟩ : ∃ z, z = (w.drew.alloc (.cells z4P 93)) := ⟨_, rfl⟩; rw [<- hz1] at bgp Rgp |-; have B1 : Below w.heap.size w z1 := (Qp (Below.refl w.heap.size w)).trans bgp; clear hz1; refine Qh 0 (by kernel_rfl) ?_; obtain ⟨gl, hgl⟩ : ∃ k, k = z1.heap.size := ⟨_, rfl⟩; have rgl := Qgx z1; refine Qs (some 6) rfl rfl rfl (.slice (some ⟨gl, 0, none⟩) 3 3) (z1.alloc (.cells z3R 22)) ?hz ?_; (case hz => rw [hgl]; go_simp); have bgl : Below z1.heap.size z1 (z1.alloc (.cells z3R 22)) := (Below.refl _ _).alloc (Nat.le_refl _) _; have Rgl : Qb (z1.alloc (.cells z3R 22)) gl 22 z3R := by rw [hgl]; exact Qb.new _ _ _
      have lgl : w.heap.size <= gl := by rw [hgl]; exact B1.size
      clear rgl; refine ⟨trivial, ?_⟩; (try simp only [Act.put, List.setIfInBounds_toArray, List.set]); obtain ⟨z2, hz2⟩ : ∃ z, z = z1.alloc (.cells z3R 22) := ⟨_, rfl⟩; rw [<- hz2] at bgl Rgl |-; have B2 := B1.trans (bgl.mono B1.size); have R2 := Rgp.later bgl; clear hz2; refine Qa 2 (some 8) (.agg (Qpv gl gp)) rfl rfl (by kernel_rfl) (by kernel_rfl) (by kernel_rfl) (fun _ _ _ h => h) (Or.inl ⟨by kernel_rfl, fun x' hSx => by kernel_rfl⟩) hHeld ?_; (try simp only [Act.put, List.setIfInBounds_toArray, List.set]); refine Qh 3 (by kernel_rfl) ?_; obtain ⟨g, hg⟩ : ∃ k, k = z2.heap.size := ⟨_, rfl⟩; have b3 : Below z2.heap.size z2 (z2.alloc (.cells (Qpv gl gp) 75)) := (Below.refl _ _).alloc (Nat.le_refl _) _; have R3 : Qb (z2.alloc (.cells (Qpv gl gp) 75)) g 75 (Qpv gl gp) := by rw [hg]; exact Qb.new _ _ _
      have lg : w.heap.size <= g := by rw [hg]; exact B2.size
      have HZ4 := Qc (Qfq gl gp); refine Qs (some 9) rfl rfl rfl (.pointer (some ⟨g, 0, none⟩)) (z2.alloc (.cells (Qpv gl gp) 75)) ?hz ?_; (case hz => rw [hg]; go_simp); obtain ⟨z3, hz3⟩ : ∃ z, z = z2.alloc (.cells (Qpv gl gp) 75) := ⟨_, rfl⟩; rw [<- hz3] at b3 R3 |-; clear hz3; refine ⟨trivial, ?_⟩; (try simp only [Act.put, List.setIfInBounds_toArray, List.set]); refine Qa 4 (some 3) (.pointer (some ⟨g, 0, none⟩)) rfl rfl (by kernel_rfl) (by kernel_rfl) (by kernel_rfl) (fun _ _ _ h => h) (Or.inl ⟨by kernel_rfl, fun x' hSx => by go_simp⟩) hHeld ?_; (try simp only [Act.put, List.setIfInBounds_toArray, List.set]); refine wpAnyH_done (by kernel_rfl) ?_ _; refine NoPanic.normal ?_
      exact REST g gl gp z3 ⟨⟨⟨lg, lgl, lgp⟩, R3, HZ4.out, Rgl.later b3, R2.later b3, World.ownsRow_nil _ _ _ _, fun p hp => absurd hp (Nat.not_lt_zero p), fun p q hp => absurd hp (Nat.not_lt_zero p)⟩, B2.trans (b3.mono B2.size)⟩)
  intro g gl gp z HZ; obtain ⟨hN0, hB0⟩ := HZ.out; have HN0 := Qc hN0; have HB0 := Qc hB0; clear HZ hN0 hB0; go_wp2; go_loopw [4] (fun i wr => ∃ a : Nat, a <= 4 /\ i = .int .i64 (a : Int) /\ Hid (∃ v bq cs, NewAt wr w.heap.size g gl gp a v bq cs /\ Below w.heap.size w wr)) (fun i _ => 4 - (intOf i).toNat)
  case atStart => exact ⟨0, by omega, rfl, _, _, _, HN0.out, HB0.out⟩
  case round =>
    clear HN0 HB0; obtain ⟨a, ha, rfl, HA⟩ := hrel
    by_cases hlt : a < 4
    · have i4 : (a : Int) < 4 := by omega
      obtain ⟨v, bq, cs, hN, hB⟩ := HA.out; obtain ⟨a1, c1, rfl⟩ := Qbd hN.own; have c2 := hN.blk.cell _ _ hN.cells.c2; have HN := Qc hN; have HBW := Qc hB; clear hN hB HA; go_wp2_with (with_reducible refine Qw 22 rfl ?_); refine Qf ?_; obtain ⟨z1, hz1⟩ : ∃ z, z = wr.alloc (.cells #[.int .u64 0, .bool false, .string ⟨#[]⟩, .bool false, .string ⟨#[]⟩, .bool false, .string ⟨#[]⟩, .bool false, .string ⟨#[]⟩, .bool false, .string ⟨#[]⟩, .bool false, .string ⟨#[]⟩, .bool false, .string ⟨#[]⟩, .bool false, .string ⟨#[]⟩] 93) := ⟨_, rfl⟩; have s1 : z1.heap.size = wr.heap.size + 1 := by rw [hz1]; simp
      have b1 : Below wr.heap.size wr z1 := by rw [hz1]; exact (Below.refl _ _).alloc (Nat.le_refl _) _
      have R1 : Qb z1 wr.heap.size 93 (pgA Pg.zero) := by rw [hz1]; exact Qb.new wr _ _
      rw [<- hz1]; obtain ⟨z2, hz2⟩ : ∃ z, z = z1.alloc (.cells #[.slice (some ⟨wr.heap.size, 0, none⟩) 1 1] 60) := ⟨_, rfl⟩; have b2 : Below z1.heap.size z1 z2 := by rw [hz2]; exact (Below.refl _ _).alloc (Nat.le_refl _) _
      have R2 : Qb z2 (wr.heap.size + 1) 60 #[q1C wr.heap.size] := by rw [hz2, <- s1]; exact Qb.new z1 _ _
      rw [<- hz2]; have b12 : Below wr.heap.size wr z2 := b1.trans (b2.mono b1.size); have R3 := R1.later b2; clear hz1 hz2 b1 b2 R1 s1; obtain ⟨v', z3, r1, ho, hg, _⟩ := Qtf z2 61 60 61 1 24 (.slice none 0 0) Try.underlying61 infoPs15 rfl (by decide) (by decide) w.heap.size (.slice a1 a c1) a _ (Qdb HN.out.own b12) (wr.heap.size + 1) #[q1C wr.heap.size] R2 rfl (by simp [q1C, Value.oneCell']) (by omega) (Nat.le_trans HBW.out.size b12.size); obtain ⟨a2, c3, rfl⟩ := Qbd ho; have hs := HN.out.step b12 R3 (Nat.le_refl _) HBW.out.size hg ho; have HS := Qc hs; have fr := hs.2.2.free 2; have cc := hs.2.2.cell 2 _ HN.out.cells.c2; clear hs ho hg R2 R3 c2; refine Lib.wpList_append_run _ rfl _ _ _ _ rfl _ _ rfl rfl _ _ r1 ?_; clear r1; go_wp2; go_roundw
      case rel => exact ⟨a + 1, by omega, by go_num, _, _, _, HS.out.1, HBW.out.trans HS.out.2.1⟩
      case measure => simp [intOf] <;> omega
    · have i4 : ¬ (a : Int) < 4 := by omega
      obtain rfl : a = 4 := by omega
      obtain ⟨v, bq, cs, hN, hB⟩ := HA.out; obtain ⟨F0, hF0⟩ := hN.done; have HF := Qc (And.intro hF0 hB); clear hN hB HA hF0; go_wp2; go_loopw [27] (fun i wr => ∃ b : Nat, b <= n0 /\ i = .int .i64 (b : Int) /\ Hid (∃ F, HB wr w.heap.size g F (Hs.play (l.take b)) /\ Below w.heap.size w wr)) (fun i _ => n0 - (intOf i).toNat)
      case atStart => exact ⟨0, by omega, rfl, F0, HF.out.1, HF.out.2⟩
      case round =>
        clear HF; obtain ⟨b, hb, rfl, HP⟩ := hrel
        by_cases hlt2 : b < n0
        · have ib : (b : Int) < (n0 : Int) := by omega
          have i0 : (0 : Int) <= (b : Int) := by omega
          obtain ⟨F, h1, h2⟩ := HP.out; have hbl : b < l.length := by rw [<- HLN.out]; exact hlt2
          have hb9 : b < 300 := by have := HL.out; omega
          obtain ⟨bb, off, rfl, hbz, hfit, hrng⟩ := HH.out.mid hbl; have HRG := Qc (Qjc hrng h2 hbz); have HTK := Qc (Qhn l b Ac.zero hbl); have hlen : (l.take b).length <= 300 := by rw [List.length_take]; have := HL.out; omega
          have hok := Hs.play_ok (l.take b) (by omega); have hsd := sound_of hok (by omega) (fun p hp => Nat.le_trans (play_past (l.take b) p) (by omega)); obtain ⟨ac, hac⟩ : ∃ ac, ac = l.getD b Ac.zero := ⟨_, rfl⟩; rw [<- hac] at HRG HTK hfit; have HDO := Qc (hdoes15 wr w.heap.size g F (Hs.play (l.take b)) ac h1 hfit hsd); have HBW : Hid (Below w.heap.size w wr /\ ∀ k, F k -> w.heap.size <= k) := ⟨h2, fun k hk => (h1.here hk).1⟩; clear h1 h2 hbz hfit hrng hlen hok hsd HP hac; go_wp2_with (refine Qec rfl 96 (.tmp 33) rfl bb (off + b * 7) (acA ac) rfl HRG.out _ Try.underlying96 rfl Qby ?_); refine HDO.out.mono ?_; rintro e y ⟨F1, rfl, hb1, ha1⟩
          have HY : Hid (HB y w.heap.size g F1 (Hs.play (l.take (b + 1))) /\ Below w.heap.size w y) := by
            refine ⟨?_, HBW.out.1.trans (ha1.1.below HBW.out.2 HBW.out.1.size)⟩; rw [HTK.out, Hs.play_snoc]; exact hb1
          clear hb1 ha1 HRG HDO HBW; go_wp2; go_roundw
          case rel => exact ⟨b + 1, by omega, by go_num, F1, HY.out⟩
          case measure => simp [intOf] <;> omega
        · have ib : ¬ (b : Int) < (n0 : Int) := by omega
          obtain ⟨F, h1, h2⟩ := HP.out; have hbl : l.length <= b := by rw [<- HLN.out]; omega
          rw [List.take_of_length_le hbl] at h1; have HE := Qc (And.intro h1 h2); clear h1 h2 HP; go_wp2; go_ret; exact ⟨g, rfl, ⟨F, HE.out.1⟩, HE.out.2⟩
theorem Qtw (a : Option Addr) (n c : Nat) (w : World) : (binOp .eql 25 (.slice a n c) (.slice none 0 0)).run Try.prog w = .ok (.bool a.isNone) w := by
  have q := run_equal_slice_nil (P := Try.prog) w 25 42 a n c Try.underlying25; simp [binOp, q]
theorem clone15T {w : World} {v : Value} {l : List Tx} (h : Qqd w v l) (hl : l.length * 40 <= 140737488355328) : Calls Try.prog 51 #[v] w fun e w' => ∃ v', e = .returned v' /\ w'.ownsRow w.heap.size 42 5 v' l.length (flatT l) /\ Below w.heap.size w w' := by
  have h0 := h; obtain ⟨a, c, rfl, hc⟩ := h0
  cases a with
  | none =>
    have hm : l = [] := by
      rcases l with _ | ⟨m, ms⟩
      · rfl
      · obtain ⟨b, off, h, _⟩ := hc (by simp); cases h
    subst hm; have q0 := fun n w => Qtw none n c w
    simp only [Option.isNone_none] at q0; clear h hc hl; rw [show ([] : List Tx).length = 0 from rfl]; have q1 := fun w => q0 0 w
    clear q0; go_enter Try.func51, Try.ntmps51; go_wp2; go_ret; exact ⟨_, rfl, World.ownsRow_nil _ _ _ _, Below.refl _ _⟩
  | some ad =>
    have b5 : Below w.heap.size w (w.alloc (.cells #[] 42)) := (Below.refl w.heap.size w).alloc (Nat.le_refl _) _; have ho : (w.alloc (.cells #[] 42)).ownsRow w.heap.size 42 5 (.slice (some ⟨w.heap.size, 0, none⟩) 0 0) 0 [] := ⟨rfl, .inr ⟨w.heap.size, 0, #[], rfl, Nat.le_refl _, Qb.new w _ _, Nat.le_refl _, Nat.zero_le _, rfl, rfl⟩⟩; obtain ⟨v1, y1, r1, o1, g1⟩ := Qpf txA Tx.zero 5 (fun _ => rfl) (by decide) (P := Try.prog) (w.alloc (.cells #[] 42)) w.heap.size 25 25 42 _ 40 Try.underlying25 infoTx3 rfl (.slice (some ⟨w.heap.size, 0, none⟩) 0 0) 0 [] ho (.slice (some ad) l.length c) l (h.below b5) (fun a len c h ha => by injection h with h1; rw [ha] at h1; cases h1) (fun m _ u hu => by have := txA_one m; rw [Array.all_eq_true'] at this; exact this u (by simpa using hu)) (by unfold maxLen; omega) (by omega) b5.size; rw [Nat.zero_add, List.nil_append] at o1; have HE := Qc (show y1.ownsRow w.heap.size 42 5 v1 l.length (flatT l) /\ Below w.heap.size w y1 from ⟨o1, b5.trans ((Tn.of_grown (F := fun k => k = w.heap.size) g1 (fun k hk => by injection hk with hk; exact hk.symm)).below (fun k hk => by rw [hk]; exact Nat.le_refl _) b5.size)⟩); generalize l.length = n at *; have q0 := fun w => Qtw (some ad) n c w
    simp only [Option.isNone_some] at q0; clear h hc hl o1 g1 ho b5; go_enter Try.func51, Try.ntmps51; go_wp2_with (with_reducible refine Qw 7 rfl ?_); refine Qf ?_; refine Lib.wpList_append_run _ rfl _ _ _ _ rfl _ _ rfl rfl _ _ r1 ?_; go_wp2; go_ret; exact ⟨_, rfl, HE.out⟩
theorem Qcy (a : Option Addr) (n c : Nat) (w : World) : (binOp .eql 26 (.slice a n c) (.slice none 0 0)).run Try.prog w = .ok (.bool a.isNone) w := by
  have q := run_equal_slice_nil (P := Try.prog) w 26 81 a n c Try.underlying26; simp [binOp, q]
theorem clone15D {w : World} {v : Value} {l : List Di} (h : Qcf w v l) (hl : l.length * 16 <= 140737488355328) : Calls Try.prog 52 #[v] w fun e w' => ∃ v', e = .returned v' /\ w'.ownsRow w.heap.size 81 2 v' l.length (flatD l) /\ Below w.heap.size w w' := by
  have h0 := h; obtain ⟨a, c, rfl, hc⟩ := h0
  cases a with
  | none =>
    have hm : l = [] := by
      rcases l with _ | ⟨m, ms⟩
      · rfl
      · obtain ⟨b, off, h, _⟩ := hc (by simp); cases h
    subst hm; have q0 := fun n w => Qcy none n c w
    simp only [Option.isNone_none] at q0; clear h hc hl; rw [show ([] : List Di).length = 0 from rfl]; have q1 := fun w => q0 0 w
    clear q0; go_enter Try.func52, Try.ntmps52; go_wp2; go_ret; exact ⟨_, rfl, World.ownsRow_nil _ _ _ _, Below.refl _ _⟩
  | some ad =>
    have b5 : Below w.heap.size w (w.alloc (.cells #[] 81)) := (Below.refl w.heap.size w).alloc (Nat.le_refl _) _; have ho : (w.alloc (.cells #[] 81)).ownsRow w.heap.size 81 2 (.slice (some ⟨w.heap.size, 0, none⟩) 0 0) 0 [] := ⟨rfl, .inr ⟨w.heap.size, 0, #[], rfl, Nat.le_refl _, Qb.new w _ _, Nat.le_refl _, Nat.zero_le _, rfl, rfl⟩⟩; obtain ⟨v1, y1, r1, o1, g1⟩ := Qpf diA Di.zero 2 (fun _ => rfl) (by decide) (P := Try.prog) (w.alloc (.cells #[] 81)) w.heap.size 26 26 81 _ 16 Try.underlying26 infoDi3 rfl (.slice (some ⟨w.heap.size, 0, none⟩) 0 0) 0 [] ho (.slice (some ad) l.length c) l (h.below b5) (fun a len c h ha => by injection h with h1; rw [ha] at h1; cases h1) (fun m _ u hu => by have := diA_one m; rw [Array.all_eq_true'] at this; exact this u (by simpa using hu)) (by unfold maxLen; omega) (by omega) b5.size; rw [Nat.zero_add, List.nil_append] at o1; have HE := Qc (show y1.ownsRow w.heap.size 81 2 v1 l.length (flatD l) /\ Below w.heap.size w y1 from ⟨o1, b5.trans ((Tn.of_grown (F := fun k => k = w.heap.size) g1 (fun k hk => by injection hk with hk; exact hk.symm)).below (fun k hk => by rw [hk]; exact Nat.le_refl _) b5.size)⟩); generalize l.length = n at *; have q0 := fun w => Qcy (some ad) n c w
    simp only [Option.isNone_some] at q0; clear h hc hl o1 g1 ho b5; go_enter Try.func52, Try.ntmps52; go_wp2_with (with_reducible refine Qw 7 rfl ?_); refine Qf ?_; refine Lib.wpList_append_run _ rfl _ _ _ _ rfl _ _ rfl rfl _ _ r1 ?_; go_wp2; go_ret; exact ⟨_, rfl, HE.out⟩
theorem nan16 (x : Int) (w : World) : Calls Try.prog 87 #[.int .i64 x] w fun e w' => e = .returned (.bool false) /\ w = w' := by
  go_enter Try.func87, Try.ntmps87; go_wp2; go_ret; simp
def Qtl (x y : Int) : Int := if x < y then -1 else if y < x then 1 else 0
theorem Qkf (x y : Int) : 0 < Qtl x y ↔ y < x := by
  unfold Qtl
  split
  · omega
  · split <;> omega
theorem Qkg (x y : Int) : Qtl x y = 0 ↔ x = y := by
  unfold Qtl
  split
  · omega
  · split <;> omega
theorem cmp16 (x y : Int) (w : World) : Calls Try.prog 70 #[.int .i64 x, .int .i64 y] w fun e w' => e = .returned (.int .i64 (Qtl x y)) /\ w = w' := by
  have HN := Qc (fun z w => nan16 z w); unfold Qtl
  by_cases h1 : x < y
  · rw [if_pos h1]; go_enter Try.func70, Try.ntmps70; go_wp2_with fail; refine (HN.out x w).mono ?_; rintro e w1 ⟨rfl, rfl⟩; go_wp2_with fail; refine (HN.out y w).mono ?_; rintro e w1 ⟨rfl, rfl⟩; go_wp2; go_ret; exact ⟨rfl, rfl⟩
  · rw [if_neg h1]
    by_cases h2 : y < x
    · rw [if_pos h2]; go_enter Try.func70, Try.ntmps70; go_wp2_with fail; refine (HN.out x w).mono ?_; rintro e w1 ⟨rfl, rfl⟩; go_wp2_with fail; refine (HN.out y w).mono ?_; rintro e w1 ⟨rfl, rfl⟩; go_wp2; go_ret; exact ⟨rfl, rfl⟩
    · rw [if_neg h2]; go_enter Try.func70, Try.ntmps70; go_wp2_with fail; refine (HN.out x w).mono ?_; rintro e w1 ⟨rfl, rfl⟩; go_wp2_with fail; refine (HN.out y w).mono ?_; rintro e w1 ⟨rfl, rfl⟩; go_wp2; go_ret; exact ⟨rfl, rfl⟩
structure Sf (c : Nat -> Int) (n i : Nat) (q : Bool) : Prop where
  le : i <= n
  low : ∀ k, k < i -> 0 < c k
  high : ∀ k, i <= k -> k < n -> c k <= 0
  yes : q = true -> i < n /\ c i = 0
  no : q = false -> i < n -> c i ≠ 0
def SfAns (c : Nat -> Int) (n : Nat) (w : World) (e : Ending) (w' : World) : Prop := ∃ (i : Nat) (q : Bool), e = .returned (.tuple #[.int .i64 (i : Int), .bool q]) /\ Sf c n i q /\ Below w.heap.size w w'
theorem Qev (fn : FuncId) (g1 g2 : Nat) (n : Nat) (c : Nat -> Int) (w : World)
    (hc : ∀ x h, Below w.heap.size w x -> h < n -> Calls Try.prog fn #[.int .i64 (h : Int), .pointer (some ⟨g1, 0, none⟩), .pointer (some ⟨g2, 0, none⟩)] x fun e w' => e = .returned (.int .i64 (c h)) /\ Below x.heap.size x w')
    (hf : ∀ (args : Array Value) (x : World), Sem.run Try.prog (callFunc fn args) x = Result.ok (Next.enter fn args) x)
    (hm : ∀ p q, p < q -> q < n -> 0 < c q -> 0 < c p) (hn : n <= 100000) :
    Calls Try.prog 42 #[.int .i64 (n : Int), .func (.func fn) #[] #[.pointer (some ⟨g1, 0, none⟩), .pointer (some ⟨g2, 0, none⟩)]] w (SfAns c n w) := by
  have HC := Qc hc; have HM := Qc hm; clear hc hm; go_enter Try.func42, Try.ntmps42; go_wp2; go_loopw [4, 6] (fun i j wr => ∃ p q : Nat, p <= q /\ q <= n /\ i = .int .i64 (p : Int) /\ j = .int .i64 (q : Int) /\ Hid ((∀ k, k < p -> 0 < c k) /\ (∀ k, q <= k -> k < n -> c k <= 0)) /\ Hid (Below w.heap.size w wr)) (fun i j _ => (intOf j).toNat - (intOf i).toNat)
  case atStart => exact ⟨0, n, Nat.zero_le _, Nat.le_refl _, rfl, rfl, ⟨fun k hk => absurd hk (Nat.not_lt_zero _), fun k h1 h2 => absurd h1 (by omega)⟩, Below.refl _ _⟩
  case round =>
    obtain ⟨p, q, hpq, hq, rfl, rfl, HPQ, HB⟩ := hrel
    by_cases hlt : p < q
    · have ipq : (p : Int) < (q : Int) := by omega
      obtain ⟨hh, hhd⟩ : ∃ hh, hh = (p + q) / 2 := ⟨_, rfl⟩; have eh : ((p : Int) + (q : Int)) / 2 = (hh : Int) := by omega
      have h1 : p <= hh := by omega
      have h2 : hh < q := by omega
      have hhn : hh < n := by omega
      clear hhd; have HO := Qc (HC.out wr hh HB.out hhn)
      by_cases hlo : 0 < c hh
      · have HLO := Qc hlo; generalize hck : c hh = ck at *; have HCK := Qc hck; clear hck; go_wp2_with (simp only [hf]); try rw [Oper.upon_enter]
        refine HO.out.mono ?_; rintro e w1 ⟨rfl, hb1⟩; have HB1 := Qc (HB.out.trans (hb1.mono HB.out.size)); clear hb1 HB HO; go_wp2; go_roundw
        case rel =>
          refine ⟨hh + 1, q, by omega, hq, by go_num, rfl, ⟨fun k hk => ?_, HPQ.out.2⟩, HB1.out⟩
          rcases Nat.lt_or_ge k hh with hk2 | hk2
          · exact HM.out k hh hk2 hhn (by rw [HCK.out]; exact HLO.out)
          · obtain rfl : k = hh := by omega
            rw [HCK.out]; exact HLO.out
        case measure => simp [intOf]; omega
      · have HLO : Hid (c hh <= 0) := by show c hh <= 0; omega
        generalize hck : c hh = ck at *; have HCK := Qc hck; clear hck; go_wp2_with (simp only [hf]); try rw [Oper.upon_enter]
        refine HO.out.mono ?_; rintro e w1 ⟨rfl, hb1⟩; have HB1 := Qc (HB.out.trans (hb1.mono HB.out.size)); clear hb1 HB HO; go_wp2; go_roundw
        case rel =>
          refine ⟨p, hh, h1, by omega, rfl, rfl, ⟨HPQ.out.1, fun k hk hk2 => ?_⟩, HB1.out⟩
          have h3 : ¬ 0 < c k := fun h4 => by
            rcases Nat.lt_or_ge hh k with hk3 | hk3
            · have := HM.out hh k hk3 hk2 h4; rw [HCK.out] at this; exact absurd this (by have := HLO.out; omega)
            · obtain rfl : k = hh := by omega
              rw [HCK.out] at h4; exact absurd h4 (by have := HLO.out; omega)
          omega
        case measure => simp [intOf]; omega
    · obtain rfl : p = q := by omega
      by_cases hpl : p < n
      · have ipl : (p : Int) < (n : Int) := by omega
        have HO := Qc (HC.out wr p HB.out hpl)
        by_cases heq : c p = 0
        · rw [heq] at HO; have HEQ := Qc heq; clear heq; go_wp2_with (simp only [hf]); try rw [Oper.upon_enter]
          refine HO.out.mono ?_; rintro e w1 ⟨rfl, hb1⟩; have HB1 := Qc (HB.out.trans (hb1.mono HB.out.size)); clear hb1 HB HO; go_wp2; go_ret2; exact ⟨p, true, rfl, ⟨hq, HPQ.out.1, HPQ.out.2, fun _ => ⟨hpl, HEQ.out⟩, fun h => (nomatch h)⟩, HB1.out⟩
        · have HEQ := Qc heq; generalize hck : c p = ck at *; have HCK := Qc hck; have e1 : (ck == 0) = false := by simpa using heq
          clear hck heq; go_wp2_with (simp only [hf]); try rw [Oper.upon_enter]
          refine HO.out.mono ?_; rintro e w1 ⟨rfl, hb1⟩; have HB1 := Qc (HB.out.trans (hb1.mono HB.out.size)); clear hb1 HB HO; go_wp2; go_ret2; exact ⟨p, false, rfl, ⟨hq, HPQ.out.1, HPQ.out.2, fun h => (nomatch h), fun _ _ => by rw [HCK.out]; exact HEQ.out⟩, HB1.out⟩
      · have ipl : ¬ (p : Int) < (n : Int) := by omega
        have HPL := Qc hpl; clear hpl; go_wp2; go_ret2; exact ⟨p, false, rfl, ⟨hq, HPQ.out.1, HPQ.out.2, fun h => (nomatch h), fun _ h => absurd h HPL.out⟩, HB.out⟩
structure Sl where
  b : Option Nat
  c : Nat
def adr (o : Option Nat) : Option Addr := o.map fun b => ⟨b, 0, none⟩
def slV (s : Sl) (n : Nat) : Value := .slice (adr s.b) n s.c
def Sl.nil : Sl := ⟨none, 0⟩
def ofS (s : Sl) (k : Nat) : Prop := s.b = some k
theorem Qy : ∀ (vs : List Value) (o : Nat) (w : World) (b : Nat) (t : TypeId) (cs : Array Value), Qb w b t cs -> ∃ ds, Qb (w.setCells b o vs) b t ds /\ ds.size = cs.size
  | [], _, w, b, t, cs, h => ⟨cs, h, rfl⟩
  | v :: vs, o, w, b, t, cs, h => by
    obtain ⟨ds, h1, h2⟩ := Qy vs (o + 1) (w.setCell ⟨b, o, none⟩ v) b t _ (h.set o v); exact ⟨ds, h1, by rw [h2]; simp⟩
theorem Qfa : ∀ (vs : List Value) (o : Nat) (w : World) (b : Nat) (F : Nat -> Prop), F b -> Tn F w (w.setCells b o vs)
  | [], _, w, _, F, _ => Tn.refl F w
  | v :: vs, o, w, b, F, h => ((Tn.refl F w).set b o v h).then (Qfa vs (o + 1) _ b F h)
theorem Qtb {P : Program} (w : World) (dT sT ty elem : TypeId) (k : Nat) (b o dLen dCap : Nat) (a : Addr) (sLen sCap : Nat) (cs : List Value)
    (hu : P.underlying dT = some (.slice elem)) (hs : (P.info? elem).map (·.size) = some k) (hn : cs.length = Nat.min sLen dLen * k)
    (hsrc : ∀ j v, cs[j]? = some v -> w.cell? (a.add j) = some v) (hc : ∀ j, j < cs.length -> (w.cell? ⟨b, o + j, none⟩).isSome = true) (hf : ∀ j, j < cs.length -> w.frozen? ⟨b, o + j, none⟩ = false) (h1 : ∀ v ∈ cs, v.oneCell' = true) :
    (Builtin.copy_ #[dT, sT] ty #[.slice (some ⟨b, o, none⟩) dLen dCap, .slice (some a) sLen sCap]).run P w = .ok (goInt (Nat.min sLen dLen)) (w.setCells b o cs) := by
  have hl := run_loadCells_list (P := P) w a cs hsrc; have hst := run_storeCells_cells (P := P) b o cs 0 w (by simpa using hc) (by simpa using hf) h1
  cases hq : P.info? elem with
  | none => simp [hq] at hs
  | some i =>
    have hi : i.size = k := by simpa [hq] using hs
    simp [Builtin.copy_, run_underlying hu, Builtin.lenOf, Builtin.firstCells, sizeOf, typeInfo, hq, hi, <- hn, hl, hst]
theorem Qga {w : World} {b : Nat} {t : TypeId} {cs : Array Value} (h : Qb w b t cs) {j : Nat} (hj : j < cs.size) : (w.cell? ⟨b, j, none⟩).isSome = true := by
  rw [cell_of_row w b j _ _ (0, 0) h, Array.getElem?_eq_getElem hj]; rfl
theorem Qqg {P : Program} {ops : Array Oper} {o : Oper} {a : Act} {w : World} {K : Act -> World -> Prop} {Q : Exit -> Act -> World -> Prop} {E : Prop}
    (hg : o.guard = none) (d x : Operand) (t u : TypeId) (hop : o.op = Op.call { callee := Callee.builtin Builtin.append, args := #[d, x], argTypes := #[t, u] })
    (vd vx v' : Value) (w' : World) (hs : a.eval d = vd) (hx : a.eval x = vx) (hrun : (Builtin.append_ #[t, u] o.type #[vd, vx]).run P w = .ok v' w') (hK : K (a.put o.dst v') w') :
    if Region.wanted o (yielded ops a.tmps) = true then Oper.wp P o a w K Q else E := by
  have hw : Region.wanted o (yielded ops a.tmps) = true := by simp [Region.wanted, hg]
  rw [if_pos hw]; unfold Oper.wp; simp [execOp, hop, resolve, invoke, builtin, hs, hx, hrun, Result.andThen]; exact hK
theorem Qxd {P : Program} {ops : Array Oper} {o : Oper} {a : Act} {w : World} {K : Act -> World -> Prop} {Q : Exit -> Act -> World -> Prop} {E : Prop}
    (hg : o.guard = none) (d x : Operand) (dT sT : TypeId) (hop : o.op = Op.call { callee := Callee.builtin Builtin.copy, args := #[d, x], argTypes := #[dT, sT] })
    (v u : Value) (hd : a.eval d = v) (hx : a.eval x = u) {v' : Value} {w' : World} (hr : (Builtin.copy_ #[dT, sT] o.type #[v, u]).run P w = .ok v' w') (hK : K (a.put o.dst v') w') :
    if Region.wanted o (yielded ops a.tmps) = true then Oper.wp P o a w K Q else E := by
  have hw : Region.wanted o (yielded ops a.tmps) = true := by simp [Region.wanted, hg]
  rw [if_pos hw]; unfold Oper.wp; simp [execOp, hop, resolve, invoke, builtin, hd, hx, hr, Result.andThen]; exact hK
theorem Quj (x : World) (a : Addr) : x.drew.cell? a = x.cell? a := rfl
theorem Qmd {x : World} {b : Nat} {t : TypeId} {cs : Array Value} (h : Qb x b t cs) : Qb x.drew b t cs := h
theorem Qzd (w : World) (A B : Array Value) (t t2 : TypeId) : Qb ((w.alloc (.cells A t)).alloc (.cells B t2)) w.heap.size t A /\ Qb ((w.alloc (.cells A t)).alloc (.cells B t2)) (w.heap.size + 1) t2 B /\ Below w.heap.size w ((w.alloc (.cells A t)).alloc (.cells B t2)) := by
  have e1 : (w.alloc (.cells A t)).heap.size = w.heap.size + 1 := by simp
  have b1 := (Below.refl w.heap.size w).alloc (Nat.le_refl _) (.cells A t); have b2 := (Below.refl _ (w.alloc (.cells A t))).alloc (Nat.le_refl _) (.cells B t2); refine ⟨(Qb.new w _ _).later b2, ?_, b1.trans (b2.mono (by omega))⟩; have h := Qb.new (w.alloc (.cells A t)) t2 B; rw [e1] at h; exact h
section
def txL (x : Tx) : List Value := [.int .i64 x.t, .int .i64 x.s, .int .u64 (x.f : Int), .int .u64 (x.l : Int), .int .u64 (x.n : Int)]
def flT (l : List Tx) : List Value := l.flatMap txL
theorem Qpb : ∀ l : List Tx, (flT l).length = l.length * 5
  | [] => rfl
  | h :: l => by
    have := Qpb l; unfold flT at this |-; rw [List.flatMap_cons, List.length_append, this, List.length_cons]; show 5 + _ = _; omega
theorem Qje (l m : List Tx) : flT (l ++ m) = flT l ++ flT m := List.flatMap_append
theorem Qsu (h : Tx) : flT [h] = txL h := by simp [flT]
theorem Qoq : ∀ (l : List Tx) (i j : Nat) (h : Tx), l[i]? = some h -> j < 5 -> (flT l)[i * 5 + j]? = (txL h)[j]?
  | [], i, j, h, e, _ => by simp at e
  | k :: l, 0, j, h, e, hj => by
    simp at e; subst e; have : flT (k :: l) = txL k ++ flT l := by simp [flT]
    rw [this, Nat.zero_mul, Nat.zero_add, List.getElem?_append_left hj]
  | k :: l, i + 1, j, h, e, hj => by
    simp at e; have : flT (k :: l) = txL k ++ flT l := by simp [flT]
    rw [this, List.getElem?_append_right (by show 5 <= _; omega)]; have h2 := Qoq l i j h e hj; have h3 : (i + 1) * 5 + j - (txL k).length = i * 5 + j := by show (i + 1) * 5 + j - 5 = _; omega
    rw [h3]; exact h2
theorem Qqq (h : Tx) : ∀ u ∈ txL h, u.oneCell' = true := by
  intro u hu; simp only [txL, List.mem_cons, List.not_mem_nil, or_false] at hu; rcases hu with rfl | rfl | rfl | rfl | rfl <;> rfl
theorem Qjr (l : List Tx) : ∀ u ∈ flT l, u.oneCell' = true := by
  intro u hu; obtain ⟨h, _, hu⟩ := List.mem_flatMap.1 hu; exact Qqq h u hu
theorem Qgk (l : List Tx) (i : Nat) : (flT l).take (i * 5) = flT (l.take i) := by
  by_cases hi : i <= l.length
  · conv => lhs; rw [<- List.take_append_drop i l, Qje]
    rw [List.take_append_of_le_length (by rw [Qpb, List.length_take]; omega), List.take_of_length_le (by rw [Qpb, List.length_take]; omega)]
  · rw [List.take_of_length_le (by rw [Qpb]; omega), List.take_of_length_le (by omega)]
theorem Qlq (l : List Tx) (i : Nat) : (flT l).drop (i * 5) = flT (l.drop i) := by
  by_cases hi : i <= l.length
  · conv => lhs; rw [<- List.take_append_drop i l, Qje]
    have e : (flT (l.take i)).length = i * 5 := by rw [Qpb, List.length_take]; omega
    rw [<- e, List.drop_left]
  · rw [List.drop_of_length_le (by rw [Qpb]; omega), List.drop_of_length_le (by omega)]; rfl
def RT (w : World) (s : Sl) (l : List Tx) : Prop :=
  (s.b = none /\ l = [] /\ s.c = 0) ∨ ∃ b cs, s.b = some b /\ Qb w b 42 cs /\ cs.size = s.c * 5 /\ l.length <= s.c /\ 0 <= s.c /\ s.c <= maxLen /\ ∀ j u, (flT l)[j]? = some u -> w.cell? ⟨b, j, none⟩ = some u
section
variable {w x : World} {s : Sl} {l : List Tx}
theorem RT.keep (h : RT w s l) (hb : ∀ b, s.b = some b -> x.heap[b]? = w.heap[b]?) : RT x s l := by
  rcases h with h | ⟨b, cs, h1, h2, h3, h4, h5, h6, h7⟩
  · exact .inl h
  · have e := hb b h1; exact .inr ⟨b, cs, h1, e.trans h2, h3, h4, h5, h6, fun j u hu => (World.cell?_of_block (a := ⟨b, j, none⟩) e).trans (h7 j u hu)⟩
theorem RT.lt (h : RT w s l) {b : Nat} (hb : s.b = some b) : b < w.heap.size := by
  rcases h with h | ⟨b', cs, h1, h2, _⟩
  · rw [h.1] at hb; cases hb
  · rw [h1] at hb; injection hb with hb; subst hb; exact h2.lt
theorem RT.later (h : RT w s l) (p : Below w.heap.size w x) : RT x s l := h.keep (fun b hb => p.block b (h.lt hb))
theorem RT.turn {F : Nat -> Prop} (h : RT w s l) (p : Tn F w x) (hn : ∀ b, s.b = some b -> ¬ F b) : RT x s l := h.keep (fun b hb => p.block b (h.lt hb) (hn b hb))
theorem RT.cap (h : RT w s l) : l.length <= s.c /\ s.c <= maxLen := by
  rcases h with ⟨_, rfl, h3⟩ | ⟨b, cs, h1, h2, h3, h4, h5, h6, h7⟩
  · rw [h3]; exact ⟨Nat.le_refl _, Nat.zero_le _⟩
  · exact ⟨h4, h6⟩
end
theorem Qak : (Try.prog.info? 42).map (fun i => (i.zero, i.size, i.bytes)) = some (some (.agg #[.int .i64 0, .int .i64 0, .int .u64 0, .int .u64 0, .int .u64 0]), 5, 40) := by kernel_rfl
theorem Qkc : (Try.prog.info? 42).map (·.size) = some 5 := by kernel_rfl
theorem RT.at {w : World} {s : Sl} {l : List Tx} (h : RT w s l) {i : Nat} {k : Tx} (hi : l[i]? = some k) : ∃ b, s.b = some b /\ b < w.heap.size /\ ∀ j u, j < 5 -> (txL k)[j]? = some u -> w.cell? ⟨b, i * 5 + j, none⟩ = some u := by
  rcases h with ⟨_, rfl, _⟩ | ⟨b, cs, h1, h2, h3, h4, h5, h6, h7⟩
  · simp at hi
  · exact ⟨b, h1, h2.lt, fun j u hj hu => h7 _ _ (by rw [Qoq l i j k hi hj]; exact hu)⟩
theorem RT.of {w : World} {l : List Tx} {base n : Nat} {v : Value} (hn : n = l.length) (ho : w.ownsRow base 42 5 v n (flatT l)) : ∃ s : Sl, v = slV s n /\ RT w s l /\ ∀ k, s.b = some k -> base <= k := by
  subst hn
  rcases ho.2 with ⟨rfl, h0⟩ | ⟨g, cap, cur, rfl, h1, h2, h3, h4, h5, h6⟩
  · exact ⟨Sl.nil, by rw [h0]; rfl, .inl ⟨rfl, List.eq_nil_of_length_eq_zero h0, rfl⟩, fun k hk => (nomatch hk)⟩
  · refine ⟨⟨some g, cap⟩, rfl, .inr ⟨g, cur, rfl, h2, h5, h3, Nat.zero_le _, h4, fun j u hu => ?_⟩, fun k hk => by injection hk with hk; omega⟩; rw [cell_of_row w g j _ _ (0, 0) h2]; have hu2 : (flatT l)[j]? = some u := hu; rw [<- h6] at hu2; rw [<- Array.getElem?_toList]; rw [List.getElem?_take] at hu2
    split at hu2
    · exact hu2
    · cases hu2
theorem RT.fresh {w : World} {l : List Tx} {base n : Nat} {v : Value} (hn : n = l.length) (hp : 0 < n) (ho : w.ownsRow base 42 5 v n (flT l)) : ∃ s : Sl, v = slV s n /\ RT w s l /\ ∀ k, s.b = some k -> base <= k := RT.of hn ho
end
section
def diL (x : Di) : List Value := [.int .i64 x.p, .int .u64 (x.r : Int)]
def flD (l : List Di) : List Value := l.flatMap diL
theorem Qvb : ∀ l : List Di, (flD l).length = l.length * 2
  | [] => rfl
  | h :: l => by
    have := Qvb l; unfold flD at this |-; rw [List.flatMap_cons, List.length_append, this, List.length_cons]; show 2 + _ = _; omega
theorem Qhe (l m : List Di) : flD (l ++ m) = flD l ++ flD m := List.flatMap_append
theorem flD_one (h : Di) : flD [h] = diL h := by simp [flD]
theorem flD_get : ∀ (l : List Di) (i j : Nat) (h : Di), l[i]? = some h -> j < 2 -> (flD l)[i * 2 + j]? = (diL h)[j]?
  | [], i, j, h, e, _ => by simp at e
  | k :: l, 0, j, h, e, hj => by
    simp at e; subst e; have : flD (k :: l) = diL k ++ flD l := by simp [flD]
    rw [this, Nat.zero_mul, Nat.zero_add, List.getElem?_append_left hj]
  | k :: l, i + 1, j, h, e, hj => by
    simp at e; have : flD (k :: l) = diL k ++ flD l := by simp [flD]
    rw [this, List.getElem?_append_right (by show 2 <= _; omega)]; have h2 := flD_get l i j h e hj; have h3 : (i + 1) * 2 + j - (diL k).length = i * 2 + j := by show (i + 1) * 2 + j - 2 = _; omega
    rw [h3]; exact h2
theorem Qpq (h : Di) : ∀ u ∈ diL h, u.oneCell' = true := by
  intro u hu; simp only [diL, List.mem_cons, List.not_mem_nil, or_false] at hu; rcases hu with rfl | rfl <;> rfl
theorem Qjx (l : List Di) : ∀ u ∈ flD l, u.oneCell' = true := by
  intro u hu; obtain ⟨h, _, hu⟩ := List.mem_flatMap.1 hu; exact Qpq h u hu
theorem Qyj (l : List Di) (i : Nat) : (flD l).take (i * 2) = flD (l.take i) := by
  by_cases hi : i <= l.length
  · conv => lhs; rw [<- List.take_append_drop i l, Qhe]
    rw [List.take_append_of_le_length (by rw [Qvb, List.length_take]; omega), List.take_of_length_le (by rw [Qvb, List.length_take]; omega)]
  · rw [List.take_of_length_le (by rw [Qvb]; omega), List.take_of_length_le (by omega)]
theorem Qay (l : List Di) (i : Nat) : (flD l).drop (i * 2) = flD (l.drop i) := by
  by_cases hi : i <= l.length
  · conv => lhs; rw [<- List.take_append_drop i l, Qhe]
    have e : (flD (l.take i)).length = i * 2 := by rw [Qvb, List.length_take]; omega
    rw [<- e, List.drop_left]
  · rw [List.drop_of_length_le (by rw [Qvb]; omega), List.drop_of_length_le (by omega)]; rfl
def RD (w : World) (s : Sl) (l : List Di) : Prop :=
  (s.b = none /\ l = [] /\ s.c = 0) ∨ ∃ b cs, s.b = some b /\ Qb w b 81 cs /\ cs.size = s.c * 2 /\ l.length <= s.c /\ 0 <= s.c /\ s.c <= maxLen /\ ∀ j u, (flD l)[j]? = some u -> w.cell? ⟨b, j, none⟩ = some u
section
variable {w x : World} {s : Sl} {l : List Di}
theorem RD.keep (h : RD w s l) (hb : ∀ b, s.b = some b -> x.heap[b]? = w.heap[b]?) : RD x s l := by
  rcases h with h | ⟨b, cs, h1, h2, h3, h4, h5, h6, h7⟩
  · exact .inl h
  · have e := hb b h1; exact .inr ⟨b, cs, h1, e.trans h2, h3, h4, h5, h6, fun j u hu => (World.cell?_of_block (a := ⟨b, j, none⟩) e).trans (h7 j u hu)⟩
theorem RD.lt (h : RD w s l) {b : Nat} (hb : s.b = some b) : b < w.heap.size := by
  rcases h with h | ⟨b', cs, h1, h2, _⟩
  · rw [h.1] at hb; cases hb
  · rw [h1] at hb; injection hb with hb; subst hb; exact h2.lt
theorem RD.later (h : RD w s l) (p : Below w.heap.size w x) : RD x s l := h.keep (fun b hb => p.block b (h.lt hb))
theorem RD.turn {F : Nat -> Prop} (h : RD w s l) (p : Tn F w x) (hn : ∀ b, s.b = some b -> ¬ F b) : RD x s l := h.keep (fun b hb => p.block b (h.lt hb) (hn b hb))
theorem RD.cap (h : RD w s l) : l.length <= s.c /\ s.c <= maxLen := by
  rcases h with ⟨_, rfl, h3⟩ | ⟨b, cs, h1, h2, h3, h4, h5, h6, h7⟩
  · rw [h3]; exact ⟨Nat.le_refl _, Nat.zero_le _⟩
  · exact ⟨h4, h6⟩
end
theorem infoXD : (Try.prog.info? 81).map (fun i => (i.zero, i.size, i.bytes)) = some (some (.agg #[.int .i64 0, .int .u64 0]), 2, 16) := by kernel_rfl
theorem Qwi : (Try.prog.info? 81).map (·.size) = some 2 := by kernel_rfl
theorem RD.at {w : World} {s : Sl} {l : List Di} (h : RD w s l) {i : Nat} {k : Di} (hi : l[i]? = some k) : ∃ b, s.b = some b /\ b < w.heap.size /\ ∀ j u, j < 2 -> (diL k)[j]? = some u -> w.cell? ⟨b, i * 2 + j, none⟩ = some u := by
  rcases h with ⟨_, rfl, _⟩ | ⟨b, cs, h1, h2, h3, h4, h5, h6, h7⟩
  · simp at hi
  · exact ⟨b, h1, h2.lt, fun j u hj hu => h7 _ _ (by rw [flD_get l i j k hi hj]; exact hu)⟩
theorem RD.of {w : World} {l : List Di} {base n : Nat} {v : Value} (hn : n = l.length) (ho : w.ownsRow base 81 2 v n (flatD l)) : ∃ s : Sl, v = slV s n /\ RD w s l /\ ∀ k, s.b = some k -> base <= k := by
  subst hn
  rcases ho.2 with ⟨rfl, h0⟩ | ⟨g, cap, cur, rfl, h1, h2, h3, h4, h5, h6⟩
  · exact ⟨Sl.nil, by rw [h0]; rfl, .inl ⟨rfl, List.eq_nil_of_length_eq_zero h0, rfl⟩, fun k hk => (nomatch hk)⟩
  · refine ⟨⟨some g, cap⟩, rfl, .inr ⟨g, cur, rfl, h2, h5, h3, Nat.zero_le _, h4, fun j u hu => ?_⟩, fun k hk => by injection hk with hk; omega⟩; rw [cell_of_row w g j _ _ (0, 0) h2]; have hu2 : (flatD l)[j]? = some u := hu; rw [<- h6] at hu2; rw [<- Array.getElem?_toList]; rw [List.getElem?_take] at hu2
    split at hu2
    · exact hu2
    · cases hu2
theorem RD.fresh {w : World} {l : List Di} {base n : Nat} {v : Value} (hn : n = l.length) (hp : 0 < n) (ho : w.ownsRow base 81 2 v n (flD l)) : ∃ s : Sl, v = slV s n /\ RD w s l /\ ∀ k, s.b = some k -> base <= k := RD.of hn ho
end
def Qmi (l : List Tx) : Prop := ∀ p q, p < q -> q < l.length -> (l.getD p Tx.zero).t < (l.getD q Tx.zero).t
def SrtD (l : List Di) : Prop := ∀ p q, p < q -> q < l.length -> (l.getD p Di.zero).p < (l.getD q Di.zero).p
theorem Qmg {α : Type} {l : List α} {i : Nat} (z : α) (h : i < l.length) : l[i]? = some (l.getD i z) := by
  rw [List.getD_eq_getElem?_getD, List.getElem?_eq_getElem h]; rfl
theorem Qxu : ∀ (args : Array Value) (x : World), Sem.run Try.prog (callFunc 84 args) x = Result.ok (Next.enter 84 args) x := by
  intro args x; go_simp
theorem find1_16 (x : World) (gn gr h : Nat) (t : Int) (s : Sl) (l : List Tx) (hn : x.cell? ⟨gn, 0, none⟩ = some (.int .i64 t)) (hr : x.cell? ⟨gr, 0, none⟩ = some (slV s l.length)) (hT : RT x s l) (hh : h < l.length) (hl : l.length <= 100000) :
    Calls Try.prog 84 #[.int .i64 (h : Int), .pointer (some ⟨gn, 0, none⟩), .pointer (some ⟨gr, 0, none⟩)] x fun e w' => e = .returned (.int .i64 (Qtl t (l.getD h Tx.zero).t)) /\ Below x.heap.size x w' := by
  obtain ⟨b, hb, hlt, hc⟩ := hT.at (Qmg Tx.zero hh); have c0 := hc 0 (.int .i64 (l.getD h Tx.zero).t) (by omega) rfl; rw [Nat.add_zero] at c0; obtain ⟨o, c⟩ := s; have hb2 : o = some b := hb; subst hb2; generalize (l.getD h Tx.zero).t = u at *; generalize l.length = n at *; have hr2 : x.cell? ⟨gr, 0, none⟩ = some (.slice (some ⟨b, 0, none⟩) n c) := hr; have HC := Qc (fun w => cmp16 t u w); have HS := Qc (And.intro hn (And.intro hr2 c0)); have ih : (h : Int) < (n : Int) := by omega
  have ih0 : (0 : Int) <= (h : Int) := by omega
  clear hc hT hr hb hn hr2 c0; go_enter Try.func84, Try.ntmps84; go_wp2_with fail; refine wp_region_noPanic ?_; refine wp_region_held_drew (S := fun z => z.cell? ⟨gn, 0, none⟩ = some (.int .i64 t) /\ z.cell? ⟨gr, 0, none⟩ = some (.slice (some ⟨b, 0, none⟩) n c) /\ z.cell? ⟨b, h * 5, none⟩ = some (.int .i64 u)) (by kernel_rfl) (HS.out) (fun hHeld => ?_); refine tkk 0 (some 5) (.int .i64 t) rfl rfl (by kernel_rfl) (by kernel_rfl) (fun x hSx => by have h1 := hSx.1; go_simp) hHeld ?_; (try simp only [Act.put, List.setIfInBounds_toArray, List.set]); refine tkk 1 (some 6) (.slice (some ⟨b, 0, none⟩) n c) rfl rfl (by kernel_rfl) (by kernel_rfl) (fun x hSx => by have h1 := hSx.2.1; go_simp) hHeld ?_; (try simp only [Act.put, List.setIfInBounds_toArray, List.set]); refine tkq 2 (some 7) (.int .i64 (h : Int)) hHeld ?_; (try simp only [Act.put, List.setIfInBounds_toArray, List.set]); refine tkq 3 (some 8) (.pointer (some ⟨b, h * 5, none⟩)) hHeld ?_; (try simp only [Act.put, List.setIfInBounds_toArray, List.set]); refine tkq 4 (some 9) (.pointer (some ⟨b, h * 5, none⟩)) hHeld ?_; (try simp only [Act.put, List.setIfInBounds_toArray, List.set]); refine tkk 5 (some 10) (.int .i64 u) rfl rfl (by kernel_rfl) (by kernel_rfl) (fun x hSx => by have h1 := hSx.2.2; go_simp) hHeld ?_; (try simp only [Act.put, List.setIfInBounds_toArray, List.set]); refine Qh 6 (by kernel_rfl) ?_; refine Qca (some 11) rfl rfl rfl 70 #[.int .i64 t, .int .i64 u] ?he ((HC.out _).mono ?_); (case he => go_simp); rintro e w1 ⟨rfl, rfl⟩; refine ⟨_, rfl, hHeld, ?_⟩; (try simp only [Act.put, List.setIfInBounds_toArray, List.set]); refine tkq 7 (some 4) (.int .i64 (Qtl t u)) hHeld ?_; (try simp only [Act.put, List.setIfInBounds_toArray, List.set]); refine wpAnyH_done (by kernel_rfl) ?_ _; refine NoPanic.normal ?_; clear hHeld; go_wp2; go_ret; exact ⟨rfl, Qt (Below.refl _ _) 1⟩
def FindAns (l : List Tx) (t : Int) (w : World) (e : Ending) (w' : World) : Prop := SfAns (fun k => Qtl t (l.getD k Tx.zero).t) l.length w e w'
theorem find16 (w : World) (s : Sl) (l : List Tx) (t : Int) (hT : RT w s l) (hs : Qmi l) (hl : l.length <= 100000) :
    Calls Try.prog 66 #[slV s l.length, .int .i64 t] w (FindAns l t w) := by
  obtain ⟨n1, n2, n3⟩ := Qzd w #[slV s l.length] #[.int .i64 t] 25 3; obtain ⟨y, hy⟩ : ∃ y, y = (w.alloc (.cells #[slV s l.length] 25)).alloc (.cells #[.int .i64 t] 3) := ⟨_, rfl⟩; rw [<- hy] at n1 n2 n3; obtain ⟨b1, hb1⟩ : ∃ b1, b1 = w.heap.size := ⟨_, rfl⟩; obtain ⟨b2, hb2⟩ : ∃ b2, b2 = w.heap.size + 1 := ⟨_, rfl⟩; rw [<- hb1] at n1; rw [<- hb2] at n2
  have HF := Qc (Qev 84 b2 b1 l.length (fun k => Qtl t (l.getD k Tx.zero).t) y (fun x h hb hh => find1_16 x b2 b1 h t s l ((n2.later hb).cell 0 _ rfl) ((n1.later hb).cell 0 _ rfl) ((hT.later n3).later hb) hh hl) Qxu (fun p q hpq hq h => by
    rw [Qkf] at h |-; have := hs p q hpq hq
    omega) hl)
  have HB := Qc (And.intro hb1 hb2); have HY := Qc hy; have HN := Qc n3; have HR1 := Qc n1; clear n1 n2 n3 hb1 hb2 hy hT hs; obtain ⟨o, c⟩ := s; obtain ⟨a, ha⟩ : ∃ a, a = adr o := ⟨_, rfl⟩; have hv : slV ⟨o, c⟩ l.length = .slice a l.length c := by rw [ha]; rfl
  rw [hv] at HY HR1 |-; clear hv ha; obtain ⟨n, hn⟩ : ∃ n, n = l.length := ⟨_, rfl⟩; rw [<- hn] at HY HR1 HF hl |-; have HNN := Qc hn; clear hn; go_enter Try.func66, Try.ntmps66; go_wp2_with (with_reducible refine Qw 6 rfl ?_); rw [<- HY.out, <- HB.out.2, <- HB.out.1]; have k0 := HR1.out.cell 0 (.slice a n c) rfl; refine Qf ?_; go_wp2_with fail; refine HF.out.mono ?_; rintro e w1 ⟨i, q, rfl, hsf, hb⟩; have H := Qc (And.intro hsf (HN.out.trans (hb.mono HN.out.size))); clear hsf hb HF k0; go_wp2; go_ret2; refine ⟨i, q, rfl, ?_, H.out.2⟩; rw [<- HNN.out]; exact H.out.1
def Quf : Array Value := #[.int .i64 0, .int .i64 0, .int .u64 0, .int .u64 0, .int .u64 0]
theorem Qyz (n : Nat) : ∀ v ∈ (Builtin.zeroCells Quf n).toList, v.oneCell' = true := by
  intro v hv; simp only [Builtin.zeroCells, Array.toList_map, List.mem_map] at hv; obtain ⟨i, _, rfl⟩ := hv; have h : Quf.size = 5 := rfl; rw [h]; have h2 : i % 5 < 5 := Nat.mod_lt _ (by decide); generalize i % 5 = j at h2; have h3 : j = 0 ∨ j = 1 ∨ j = 2 ∨ j = 3 ∨ j = 4 := by omega
  rcases h3 with rfl | rfl | rfl | rfl | rfl <;> rfl
theorem Qgq (n : Nat) : (Builtin.zeroCells Quf n).toList.length = n * 5 := by
  simp [Builtin.zeroCells, show Quf.size = 5 from rfl]
theorem Qcaa (w : World) (ty : TypeId) (b o n c : Nat) (hn : 0 < n) (hc : ∀ j, j < n * 5 -> (w.cell? ⟨b, o + j, none⟩).isSome = true) (hf : ∀ j, w.frozen? ⟨b, j, none⟩ = false) :
    (Builtin.clear_ #[25] ty #[.slice (some ⟨b, o, none⟩) n c]).run Try.prog w = .ok (.tuple #[]) (w.setCells b o (Builtin.zeroCells Quf n).toList) := by
  have hst := run_storeCells_cells (P := Try.prog) b o (Builtin.zeroCells Quf n).toList 0 w (by rw [Qgq]; simpa using hc) (fun j _ => by simpa using hf _) (Qyz n); simp only [Nat.add_zero] at hst; obtain ⟨m, rfl⟩ : ∃ m, n = m + 1 := ⟨n - 1, by omega⟩; simp [Builtin.clear_, run_underlying (P := Try.prog) Try.underlying25]; change ((Sem.run Try.prog (storeCells ⟨b, o, none⟩ (Builtin.zeroCells Quf (m + 1)).toList) w).andThen fun a w' => Result.ok (Value.tuple #[]) w') = _; rw [hst]; rfl
theorem delT_same (s : Sl) (n i : Nat) (w : World) (hc : n <= s.c) (hi : i <= n) (hn : n <= 1000000) :
    Calls Try.prog 67 #[slV s n, .int .i64 (i : Int), .int .i64 (i : Int)] w fun e w' => e = .returned (slV s n) /\ w = w' := by
  obtain ⟨o, c⟩ := s; have i1 : (i : Int) <= (n : Int) := by omega
  have hc' : n <= c := hc; have hni : n - i <= c := by omega
  cases o with
  | none =>
    show Calls _ _ #[.slice none n c, _, _] w fun e w' => e = .returned (.slice none n c) /\ w = w'
    go_enter Try.func67, Try.ntmps67; go_wp2
    all_goals
      go_ret; exact ⟨rfl, rfl⟩
  | some a =>
    show Calls _ _ #[.slice (some ⟨a, 0, none⟩) n c, _, _] w fun e w' => e = .returned (.slice (some ⟨a, 0, none⟩) n c) /\ w = w'
    go_enter Try.func67, Try.ntmps67; go_wp2
    all_goals
      go_ret; exact ⟨rfl, rfl⟩
def Qhaa (w : World) (b i j n : Nat) (l : List Tx) : World := (w.drew.setCells b (i * 5) (flT (l.drop j))).setCells b ((i + (n - j)) * 5) (Builtin.zeroCells Quf (n - (i + (n - j)))).toList
theorem delT_laid {w : World} {b cap i j : Nat} {l : List Tx} (h : RT w ⟨some b, cap⟩ l) (hij : i <= j) (hj : j <= l.length) :
    RT (Qhaa w b i j l.length l) ⟨some b, cap⟩ (l.take i ++ l.drop j) /\ Tn (Is b) w (Qhaa w b i j l.length l) := by
  have hT : Tn (Is b) w (Qhaa w b i j l.length l) := ((Tn.refl (Is b) w).drew.then (Qfa _ _ _ b (Is b) (show Is b b from rfl))).then (Qfa _ _ _ b (Is b) (show Is b b from rfl)); refine ⟨?_, hT⟩
  rcases h with ⟨h1, _⟩ | ⟨b', cs, h1, h2, h3, h4, h5, h6, h7⟩
  · cases h1
  · injection h1 with h1; subst h1; have h2' : Qb w.drew b 42 cs := h2; have hsz : cs.size = cap * 5 := h3; have h4' : l.length <= cap := h4; obtain ⟨ds, d1, d2⟩ := Qy (flT (l.drop j)) (i * 5) w.drew b _ cs h2'; obtain ⟨es, e1, e2⟩ := Qy (Builtin.zeroCells Quf (l.length - (i + (l.length - j)))).toList ((i + (l.length - j)) * 5) _ b _ ds d1; have hfl : (flT (l.drop j)).length = (l.length - j) * 5 := by rw [Qpb, List.length_drop]
    refine .inr ⟨b, es, rfl, e1, by rw [e2, d2]; exact h3, by rw [List.length_append, List.length_take, List.length_drop]; show _ <= cap; omega, h5, h6, fun q u hu => ?_⟩
    have hq : q < (i + (l.length - j)) * 5 := by
      have := (List.getElem?_eq_some_iff.1 hu).1; rw [Qpb, List.length_append, List.length_take, List.length_drop] at this; have : min i l.length = i := by omega
      omega
    unfold Qhaa; rw [World.cell?_setCells_out b _ _ _ _ (fun _ _ => .inl (by show q < (i + (l.length - j)) * 5; exact hq))]; rw [Qje] at hu; have hti : (flT (l.take i)).length = i * 5 := by rw [Qpb, List.length_take]; omega
    by_cases hqi : q < i * 5
    · rw [World.cell?_setCells_out b _ _ _ _ (fun _ _ => .inl (by show q < i * 5; exact hqi))]; rw [List.getElem?_append_left (by omega), <- Qgk, List.getElem?_take, if_pos hqi] at hu; exact h7 q u hu
    · rw [List.getElem?_append_right (by omega), hti] at hu; have hin := World.cell?_setCells_in b (flT (l.drop j)) (i * 5) w.drew (fun k hk => Qga h2' (by omega)) (q - i * 5) (by omega); rw [show i * 5 + (q - i * 5) = q by omega] at hin; rw [hin, <- List.getElem?_eq_getElem]; exact hu
theorem delT_some (w : World) (b cap : Nat) (l : List Tx) (h : RT w ⟨some b, cap⟩ l) (i j : Nat) (hij : i < j) (hj : j <= l.length) (hl : l.length <= 1000000) :
    Calls Try.prog 67 #[.slice (some ⟨b, 0, none⟩) l.length cap, .int .i64 (i : Int), .int .i64 (j : Int)] w fun e w' => e = .returned (.slice (some ⟨b, 0, none⟩) (i + (l.length - j)) cap) /\ RT w' ⟨some b, cap⟩ (l.take i ++ l.drop j) /\ Tn (Is b) w w' := by
  obtain ⟨ii, hi0, hi1⟩ := Option.map_eq_some_iff.1 Qak; simp only [Prod.mk.injEq] at hi1; have hcap : l.length <= cap := h.cap.1; have hcap2 : cap <= maxLen := h.cap.2; have HD := Qc (delT_laid h (Nat.le_of_lt hij) hj); have hfl : (flT (l.drop j)).length = (l.length - j) * 5 := by rw [Qpb, List.length_drop]
  obtain ⟨cs, hrow, hcs, hcl⟩ : ∃ cs, Qb w b 42 cs /\ cs.size = cap * 5 /\ ∀ j u, (flT l)[j]? = some u -> w.cell? ⟨b, j, none⟩ = some u := by
    rcases h with ⟨h1, _⟩ | ⟨b', cs, h1, h2, h3, h4, h5, h6, h7⟩
    · cases h1
    · injection h1 with h1; subst h1; exact ⟨cs, h2, h3, h7⟩
  have hrow' : Qb w.drew b 42 cs := hrow
  have hc : ∀ q, q < (flT (l.drop j)).length -> (w.drew.cell? ⟨b, 0 + i * ii.size + q, none⟩).isSome = true := fun q hq => by
    rw [hfl] at hq; rw [hi1.2.1]; exact Qga hrow' (by omega)
  have hflat : ∀ q u, (flT (l.drop j))[q]? = some u -> w.drew.cell? ((⟨b, j * 5, none⟩ : Addr).add q) = some u := fun q u hu => by
    rw [<- Qlq, List.getElem?_drop] at hu; rw [Addr.add_lit]; exact hcl _ _ hu
  have happ : ∀ ad c, (∀ q u, (flT (l.drop j))[q]? = some u -> w.drew.cell? (Addr.add ad q) = some u) -> (Builtin.append_ #[25, 25] 25 #[.slice (some ⟨b, 0, none⟩) i cap, .slice (some ad) (l.length - j) c]).run Try.prog w.drew = .ok (.slice (some ⟨b, 0, none⟩) (i + (l.length - j)) cap) (w.drew.setCells b (i * 5) (flT (l.drop j))) := fun ad c hcl2 => by
    have r1 := run_append_room_cells (P := Try.prog) w.drew 25 25 42 ii Try.underlying25 hi0 b 0 i cap ad (l.length - j) c (flT (l.drop j)) (by rw [hfl, hi1.2.1]) hcl2 (Qjr _) (by omega) hc (fun q _ => hrow'.free _); rw [hi1.2.1, Nat.zero_add] at r1; exact r1
  obtain ⟨ds, d1, d2⟩ := Qy (flT (l.drop j)) (i * 5) w.drew b _ cs hrow'
  have hclr : ∀ ty, (Builtin.clear_ #[25] ty #[.slice (some ⟨b, (i + (l.length - j)) * 5, none⟩) (l.length - (i + (l.length - j))) (cap - (i + (l.length - j)))]).run Try.prog (w.drew.setCells b (i * 5) (flT (l.drop j))) = .ok (.tuple #[]) (Qhaa w b i j l.length l) := fun ty =>
    Qcaa _ ty b ((i + (l.length - j)) * 5) (l.length - (i + (l.length - j))) (cap - (i + (l.length - j))) (by omega) (fun q hq => Qga d1 (by omega)) (fun q => d1.free q)
  obtain ⟨W2, hW2⟩ : ∃ W2, W2 = Qhaa w b i j l.length l := ⟨_, rfl⟩; rw [<- hW2] at hclr HD; obtain ⟨W1, hW1⟩ : ∃ W1, W1 = w.drew.setCells b (i * 5) (flT (l.drop j)) := ⟨_, rfl⟩; rw [<- hW1] at hclr happ; have HE := Qc (fun (e : cap = j) => show l.drop j = [] from List.eq_nil_of_length_eq_zero (by rw [List.length_drop]; omega)); clear hW1 hW2 d1 d2 hc hrow hrow' hfl h hi1 hi0 hcl hcs; generalize l.length = n at *
  have e1 : ((i : Int) == (j : Int)) = false := by
    rw [beq_eq_false_iff_ne]; omega
  have e2 : (j : Int) <= (n : Int) := by omega
  have e3 : (n : Int) <= (cap : Int) := by omega
  have e4 : (j : Int) <= (cap : Int) := by omega
  have e7 : (i : Int) <= (j : Int) := by omega
  have e8 : (i : Int) <= (cap : Int) := by omega
  have e9 : ¬ cap = i := by omega
  have e5 : ¬ cap = i + (n - j) := by omega
  have e6 : ((i + (n - j) : Nat) : Int) <= (n : Int) := by omega
  have e10 : ((i : Int) + ((n - j : Nat) : Int)) <= (n : Int) := by omega
  have HAP := Qc happ
  by_cases hck : cap = j
  · have q1 := HAP.out ⟨b, 0, none⟩ (cap - j) (fun q u hu => by
      rw [HE.out hck] at hu
      cases hu)
    clear happ HAP hflat HE; subst hck; obtain rfl : n = cap := by omega
    simp only [Nat.sub_self, Nat.add_zero] at q1 hclr HD |-; clear e5 e6 e10; go_enter Try.func67, Try.ntmps67; go_wp2_with fail; go_region_law (refine Qqg rfl (.tmp 22) (.tmp 25) 25 25 rfl (.slice (some ⟨b, 0, none⟩) i n) (.slice (some ⟨b, 0, none⟩) 0 0) (.slice (some ⟨b, 0, none⟩) i n) W1 ?h1 ?h2 q1 ?_; (case h1 => simp [Act.eval, Act.put]); (case h2 => simp [Act.eval, Act.put])); go_wp2; go_ret; exact ⟨rfl, HD.out⟩
  · have q1 := HAP.out ⟨b, j * 5, none⟩ (cap - j) hflat; clear happ HAP hflat HE; go_enter Try.func67, Try.ntmps67; go_wp2_with fail; go_region_law (refine Qqg rfl (.tmp 22) (.tmp 25) 25 25 rfl (.slice (some ⟨b, 0, none⟩) i cap) (.slice (some ⟨b, j * 5, none⟩) (n - j) (cap - j)) (.slice (some ⟨b, 0, none⟩) (i + (n - j)) cap) W1 ?h1 ?h2 q1 ?_; (case h1 => simp [Act.eval, Act.put]); (case h2 => simp [Act.eval, Act.put])); go_wp2; go_ret; exact ⟨rfl, HD.out⟩
theorem delT (w : World) (s : Sl) (l : List Tx) (h : RT w s l) (i j : Nat) (hij : i <= j) (hj : j <= l.length) (hl : l.length <= 1000000) :
    Calls Try.prog 67 #[slV s l.length, .int .i64 (i : Int), .int .i64 (j : Int)] w fun e w' => e = .returned (slV s (l.take i ++ l.drop j).length) /\ RT w' s (l.take i ++ l.drop j) /\ Tn (ofS s) w w' := by
  by_cases h0 : i = j
  · subst h0; rw [List.take_append_drop]; refine (delT_same s l.length i w h.cap.1 hj hl).mono ?_; rintro e w' ⟨rfl, rfl⟩; exact ⟨rfl, h, Tn.refl _ _⟩
  · obtain ⟨o, c⟩ := s
    cases o with
    | none =>
      rcases h with ⟨_, rfl, _⟩ | ⟨b, cs, h1, _⟩
      · simp at hj; omega
      · cases h1
    | some b =>
      refine (delT_some w b c l h i j (by omega) hj hl).mono ?_; rintro e w' ⟨rfl, h1, h2⟩; have e : (l.take i ++ l.drop j).length = i + (l.length - j) := by rw [List.length_append, List.length_take, List.length_drop]; omega
      rw [e]; exact ⟨rfl, h1, h2.weak (fun k hk => by rw [hk]; rfl)⟩
end Go.Proofs.Ythlllmkmpneedaa
