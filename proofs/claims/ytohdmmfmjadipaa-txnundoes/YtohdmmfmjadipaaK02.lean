/-
  Texts that lean on one another, one behind the other: each opens with its own remark.
-/
import Derived.Test.YtohdmmfmjadipaaK01

namespace Go.Proofs.Ytohdmmfmjadipaa
open Go.RowKit
set_option linter.unusedVariables false
set_option maxRecDepth 8000
set_option maxHeartbeats 25600000
theorem Qcv {a b : Int} (h : ¬ a = b) : (a != b) = true := by rw [bne, Qkf h]; rfl
theorem Qbv {a b : Int} (h : a = b) : (a != b) = false := by rw [bne, Qyd h]; rfl
def Rec.flat (a b : Rec) : Prop := a.k = b.k /\ a.l = b.l /\ a.t = b.t /\ a.p = b.p /\ a.c = b.c /\ a.n = b.n /\ a.s = b.s /\ a.b = b.b
theorem rsame_no (a b : Rec) (va vb ua ub : Value) (w : World) (hn : ¬ Rec.flat a b) (ha : Qhd w a va vb) (hb : Qhd w b ua ub) :
    Calls Try.prog 12 #[.agg (rcA a va vb), .agg (rcA b ua ub)] w fun e w' => e = .returned (.bool false) /\ Below w.heap.size w w' := by
  have HN := Qd hn; clear hn; have HA := Qd ha; have HB := Qd hb; obtain ⟨⟨a1, cap1, rfl, -⟩, ⟨a2, cap2, rfl, -⟩⟩ := ha; obtain ⟨⟨b1, dap1, rfl, -⟩, ⟨b2, dap2, rfl, -⟩⟩ := hb; have K0 := Qu.two w 30 30 (rcA a (.slice a1 a.ts.length cap1) (.slice a2 a.ds.length cap2)) (rcA b (.slice b1 b.ts.length dap1) (.slice b2 b.ds.length dap2)); have HK := Qd K0; obtain ⟨c0, c1, c2, c3, c9, c10, c11, c12, c13⟩ := Qbh K0.1.2.1; obtain ⟨d0, d1, d2, d3, d9, d10, d11, d12, d13⟩ := Qbh K0.1.1; obtain ⟨c4, c5, c6, c7, c8⟩ := Qfs K0.1.2.1; obtain ⟨d4, d5, d6, d7, d8⟩ := Qfs K0.1.1; have hb0 := K0.2; clear K0; clear HK HA HB; by_cases hk : a.k = b.k
  case neg =>
    have gk := Qkf hk; have kk := Qcv hk; clear hk; clear HN; go_enter Try.func12, Try.ntmps12; go_wp2; go_ret; exact ⟨rfl, hb0⟩
  have Hk := Qd hk; have gk := Qyd hk; have kk := Qbv hk; clear hk; by_cases hl : (a.l : Int) = (b.l : Int)
  case neg =>
    have gl := Qkf hl; have kl := Qcv hl; clear hl; clear HN; go_enter Try.func12, Try.ntmps12; go_wp2; go_ret; exact ⟨rfl, hb0⟩
  have Hl := Qd hl; have gl := Qyd hl; have kl := Qbv hl; clear hl; by_cases ht : a.t = b.t
  case neg =>
    have gt := Qkf ht; have kt := Qcv ht; clear ht; clear HN; go_enter Try.func12, Try.ntmps12; go_wp2; go_ret; exact ⟨rfl, hb0⟩
  have Ht := Qd ht; have gt := Qyd ht; have kt := Qbv ht; clear ht; by_cases hp : (a.p : Int) = (b.p : Int)
  case neg =>
    have gp := Qkf hp; have kp := Qcv hp; clear hp; clear HN; go_enter Try.func12, Try.ntmps12; go_wp2; go_ret; exact ⟨rfl, hb0⟩
  have Hp := Qd hp; have gp := Qyd hp; have kp := Qbv hp; clear hp; by_cases hck : a.c.k = b.c.k
  case neg =>
    have gck := Qkf hck; have kck := Qcv hck; clear hck; clear HN; go_enter Try.func12, Try.ntmps12; go_wp2; go_ret; exact ⟨rfl, hb0⟩
  have Hck := Qd hck; have gck := Qyd hck; have kck := Qbv hck; clear hck; by_cases hcp : a.c.pg = b.c.pg
  case neg =>
    have gcp := Qkf hcp; have kcp := Qcv hcp; clear hcp; clear HN; go_enter Try.func12, Try.ntmps12; go_wp2; go_ret; exact ⟨rfl, hb0⟩
  have Hcp := Qd hcp; have gcp := Qyd hcp; have kcp := Qbv hcp; clear hcp; by_cases hcs : a.c.sl = b.c.sl
  case neg =>
    have gcs := Qkf hcs; have kcs := Qcv hcs; clear hcs; clear HN; go_enter Try.func12, Try.ntmps12; go_wp2; go_ret; exact ⟨rfl, hb0⟩
  have Hcs := Qd hcs; have gcs := Qyd hcs; have kcs := Qbv hcs; clear hcs; by_cases hco : a.c.o.toList = b.c.o.toList
  case neg =>
    clear HN; go_enter Try.func12, Try.ntmps12; go_wp2; go_ret; exact ⟨rfl, hb0⟩
  have Hco := Qd hco; by_cases hcn : a.c.n.toList = b.c.n.toList
  case neg =>
    clear HN; go_enter Try.func12, Try.ntmps12; go_wp2; go_ret; exact ⟨rfl, hb0⟩
  have Hcn := Qd hcn; by_cases hn : (a.n : Int) = (b.n : Int)
  case neg =>
    have gn := Qkf hn; have kn := Qcv hn; clear hn; clear HN; go_enter Try.func12, Try.ntmps12; go_wp2; go_ret; exact ⟨rfl, hb0⟩
  have Hn := Qd hn; have gn := Qyd hn; have kn := Qbv hn; clear hn; by_cases hs : a.s = b.s
  case neg =>
    have gs := Qkf hs; have ks := Qcv hs; clear hs; clear HN; go_enter Try.func12, Try.ntmps12; go_wp2; go_ret; exact ⟨rfl, hb0⟩
  have Hs := Qd hs; have gs := Qyd hs; have ks := Qbv hs; clear hs; by_cases hb : (a.b : Int) = (b.b : Int)
  case neg =>
    have gb := Qkf hb; have kb := Qcv hb; clear hb; clear HN; go_enter Try.func12, Try.ntmps12; go_wp2; go_ret; exact ⟨rfl, hb0⟩
  have Hb := Qd hb; have gb := Qyd hb; have kb := Qbv hb; clear hb; exact absurd ⟨Hk.out, Int.ofNat_inj.1 Hl.out, Ht.out, Int.ofNat_inj.1 Hp.out, (Qym _ _).1 ⟨Hck.out, Hcp.out, Hcs.out, Qat Hco.out, Qat Hcn.out⟩, Int.ofNat_inj.1 Hn.out, Hs.out, Int.ofNat_inj.1 Hb.out⟩ HN.out
end Go.Proofs.Ytohdmmfmjadipaa
