/-
  Texts that lean on one another, one behind the other: each opens with its own remark.
-/
import Derived.Test.YtdjhcbiejpjkmaaK00

namespace Go.Proofs.Ytdjhcbiejpjkmaa
open Go.RowKit
set_option linter.unusedVariables false
set_option maxRecDepth 8000
set_option maxHeartbeats 25600000
theorem Quc {a b : Int} (h : ¬ a = b) : (a == b) = false := by rw [beq_eq_false_iff_ne]; exact h
theorem Qta {a b : Int} (h : a = b) : (a == b) = true := by rw [h]; exact beq_self_eq_true _
theorem rec_ext {a b : Rec} (h0 : a.k = b.k) (h1 : a.l = b.l) (h2 : a.t = b.t) (h3 : a.p = b.p) (h4 : a.c = b.c) (h5 : a.n = b.n) (h6 : a.s = b.s) (h7 : a.b = b.b) (h8 : a.ts = b.ts) (h9 : a.ds = b.ds) : a = b := by
  cases a; cases b; simp_all
theorem Qom {x y : ByteArray} (h : x.toList = y.toList) : x = y := by
  rw [ByteArray.toList_eq, ByteArray.toList_eq] at h; exact data_inj.1 h
theorem same_at (a b : Rec) (va vb ua ub : Value) (w : World) (q : Bool) (Hq : Hid (q = true ↔ a = b)) (fa : a.fits) (fb : b.fits) (ha : Qcd w a va vb) (hb : Qcd w b ua ub) :
    Calls Try.prog 62 #[.agg (rcA a va vb), .agg (rcA b ua ub)] w fun e w' => e = .returned (.bool q) /\ Below w.heap.size w w' := by
  have HA := Qc ha; have HB := Qc hb; have HFA := Qc fa; have HFB := Qc fb; clear fa fb; obtain ⟨⟨a1, cap1, rfl, -⟩, ⟨a2, cap2, rfl, -⟩⟩ := ha; obtain ⟨⟨b1, dap1, rfl, -⟩, ⟨b2, dap2, rfl, -⟩⟩ := hb; have K0 := Qx.two w 45 45 (rcA a (.slice a1 a.ts.length cap1) (.slice a2 a.ds.length cap2)) (rcA b (.slice b1 b.ts.length dap1) (.slice b2 b.ds.length dap2)); have HK := Qc K0; obtain ⟨c0, c1, c2, c3, c9, c10, c11, c12, c13⟩ := Qda K0.1.2.1; obtain ⟨d0, d1, d2, d3, d9, d10, d11, d12, d13⟩ := Qda K0.1.1; have hb0 := K0.2; obtain ⟨c4, c5, c6, c7, c8⟩ := Qbg K0.1.2.1; obtain ⟨d4, d5, d6, d7, d8⟩ := Qbg K0.1.1; clear K0
  have HF : Hid (¬ a = b -> q = false) := fun h => by
    cases q
    · rfl
    · exact absurd (Hq.out.1 rfl) h
  have HT : Hid (a = b -> q = true) := fun h => Hq.out.2 h
  clear Hq; by_cases hk : a.k = b.k
  case neg =>
    obtain rfl := HF.out (fun h => hk (by rw [h])); have gk := Quc hk; clear HF HT HA HB HFA HFB HK; go_enter Try.func62, Try.ntmps62; go_wp2; go_ret; exact ⟨rfl, hb0⟩
  have Hk := Qc hk; have gk := Qta hk; clear hk; by_cases hl : (a.l : Int) = (b.l : Int)
  case neg =>
    obtain rfl := HF.out (fun h => hl (by rw [h])); have gl := Quc hl; clear HF HT HA HB HFA HFB HK; go_enter Try.func62, Try.ntmps62; go_wp2; go_ret; exact ⟨rfl, hb0⟩
  have Hl := Qc hl; have gl := Qta hl; clear hl; by_cases ht : a.t = b.t
  case neg =>
    obtain rfl := HF.out (fun h => ht (by rw [h])); have gt := Quc ht; clear HF HT HA HB HFA HFB HK; go_enter Try.func62, Try.ntmps62; go_wp2; go_ret; exact ⟨rfl, hb0⟩
  have Ht := Qc ht; have gt := Qta ht; clear ht; by_cases hp : (a.p : Int) = (b.p : Int)
  case neg =>
    obtain rfl := HF.out (fun h => hp (by rw [h])); have gp := Quc hp; clear HF HT HA HB HFA HFB HK; go_enter Try.func62, Try.ntmps62; go_wp2; go_ret; exact ⟨rfl, hb0⟩
  have Hp := Qc hp; have gp := Qta hp; clear hp; by_cases hck : a.c.k = b.c.k
  case neg =>
    obtain rfl := HF.out (fun h => hck (by rw [h])); have gck := Quc hck; clear HF HT HA HB HFA HFB HK; go_enter Try.func62, Try.ntmps62; go_wp2; go_ret; exact ⟨rfl, hb0⟩
  have Hck := Qc hck; have gck := Qta hck; clear hck; by_cases hcp : a.c.pg = b.c.pg
  case neg =>
    obtain rfl := HF.out (fun h => hcp (by rw [h])); have gcp := Quc hcp; clear HF HT HA HB HFA HFB HK; go_enter Try.func62, Try.ntmps62; go_wp2; go_ret; exact ⟨rfl, hb0⟩
  have Hcp := Qc hcp; have gcp := Qta hcp; clear hcp; by_cases hcs : a.c.sl = b.c.sl
  case neg =>
    obtain rfl := HF.out (fun h => hcs (by rw [h])); have gcs := Quc hcs; clear HF HT HA HB HFA HFB HK; go_enter Try.func62, Try.ntmps62; go_wp2; go_ret; exact ⟨rfl, hb0⟩
  have Hcs := Qc hcs; have gcs := Qta hcs; clear hcs; by_cases hco : a.c.o.toList = b.c.o.toList
  case neg =>
    obtain rfl := HF.out (fun h => hco (by rw [h])); clear HF HT HA HB HFA HFB HK; go_enter Try.func62, Try.ntmps62; go_wp2; go_ret; exact ⟨rfl, hb0⟩
  have Hco := Qc hco; by_cases hcn : a.c.n.toList = b.c.n.toList
  case neg =>
    obtain rfl := HF.out (fun h => hcn (by rw [h])); clear HF HT HA HB HFA HFB HK; go_enter Try.func62, Try.ntmps62; go_wp2; go_ret; exact ⟨rfl, hb0⟩
  have Hcn := Qc hcn; by_cases hn : (a.n : Int) = (b.n : Int)
  case neg =>
    obtain rfl := HF.out (fun h => hn (by rw [h])); have gn := Quc hn; clear HF HT HA HB HFA HFB HK; go_enter Try.func62, Try.ntmps62; go_wp2; go_ret; exact ⟨rfl, hb0⟩
  have Hn := Qc hn; have gn := Qta hn; clear hn; by_cases hs : a.s = b.s
  case neg =>
    obtain rfl := HF.out (fun h => hs (by rw [h])); have gs := Quc hs; clear HF HT HA HB HFA HFB HK; go_enter Try.func62, Try.ntmps62; go_wp2; go_ret; exact ⟨rfl, hb0⟩
  have Hs := Qc hs; have gs := Qta hs; clear hs; by_cases hb : (a.b : Int) = (b.b : Int)
  case neg =>
    obtain rfl := HF.out (fun h => hb (by rw [h])); have gb := Quc hb; clear HF HT HA HB HFA HFB HK; go_enter Try.func62, Try.ntmps62; go_wp2; go_ret; exact ⟨rfl, hb0⟩
  have Hb := Qc hb; have gb := Qta hb; clear hb; go_enter Try.func62, Try.ntmps62; go_wp2_with fail; clear c0 c1 c2 c3 c9 c10 c11 c12 c13 d0 d1 d2 d3 d9 d10 d11 d12 d13 c4 c5 c6 c7 c8 d4 d5 d6 d7 d8 gk gl gt gp gck gcp gcs hco hcn gn gs gb hb0; revert HK; generalize (w.alloc (.cells (rcA a (.slice a1 a.ts.length cap1) (.slice a2 a.ds.length cap2)) 45)).alloc (.cells (rcA b (.slice b1 b.ts.length dap1) (.slice b2 b.ds.length dap2)) 45) = x0; intro HK; by_cases ht : a.ts = b.ts
  case neg =>
    obtain rfl := HF.out (fun h => ht (by rw [h])); refine (eqtx_at _ _ a.ts b.ts x0 false (Qc ⟨fun h => (nomatch h), fun h => absurd h ht⟩) (HA.out.below HK.out.2).1 (HB.out.below HK.out.2).1 HFA.out.ts HFB.out.ts HFA.out.tl).mono ?_; rintro e w1 ⟨rfl, hb1⟩; have e1 := HK.out.2.trans (hb1.mono HK.out.2.size); clear HF HT HA HB HFA HFB HK hb1 ht; go_wp2; go_ret; exact ⟨rfl, e1⟩
  refine (eqtx_at _ _ a.ts b.ts x0 true (Qc ⟨fun _ => ht, fun _ => rfl⟩) (HA.out.below HK.out.2).1 (HB.out.below HK.out.2).1 HFA.out.ts HFB.out.ts HFA.out.tl).mono ?_; rintro e w1 ⟨rfl, hb1⟩; have K1 := HK.out.later hb1; have HTS := Qc ht; clear hb1 HK ht; obtain ⟨-, -, -, -, -, -, -, -, c13⟩ := Qda K1.1.2.1; obtain ⟨-, -, -, -, -, -, -, -, d13⟩ := Qda K1.1.1; have HK1 := Qc K1; clear K1; go_wp2_with fail
  have HQ2 : Hid (q = true ↔ a.ds = b.ds) := by
    constructor
    · intro h
      by_cases hd : a.ds = b.ds
      · exact hd
      · rw [HF.out (fun h => hd (by rw [h]))] at h; cases h
    · intro hd; exact HT.out (rec_ext Hk.out (Int.ofNat_inj.1 Hl.out) Ht.out (Int.ofNat_inj.1 Hp.out) ((Qjm _ _).1 ⟨Hck.out, Hcp.out, Hcs.out, Qom Hco.out, Qom Hcn.out⟩) (Int.ofNat_inj.1 Hn.out) Hs.out (Int.ofNat_inj.1 Hb.out) HTS.out hd)
  refine (eqdi_at _ _ a.ds b.ds w1 q HQ2 (HA.out.below HK1.out.2).2 (HB.out.below HK1.out.2).2 HFA.out.ds HFB.out.ds HFA.out.dl).mono ?_; rintro e w2 ⟨rfl, hb2⟩; have e2 := HK1.out.2.trans (hb2.mono HK1.out.2.size); clear HF HT HA HB HFA HFB HK1 hb2 HTS HQ2; go_wp2; go_ret; exact ⟨rfl, e2⟩
end Go.Proofs.Ytdjhcbiejpjkmaa
