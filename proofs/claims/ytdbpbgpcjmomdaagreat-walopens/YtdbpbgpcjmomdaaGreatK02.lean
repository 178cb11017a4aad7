/-
  Texts that lean on one another, one behind the other: each opens with its own remark.
-/
import Derived.Test.YtdbpbgpcjmomdaaGreatK01

namespace Go.Proofs.YtdbpbgpcjmomdaaGreat
open Go.RowKit
set_option linter.unusedVariables false
set_option maxRecDepth 8000
set_option maxHeartbeats 25600000
theorem Qpd {a b : Int} (h : ¬ a = b) : (a != b) = true := by rw [bne, Qgc h]; rfl
theorem Qkc {a b : Int} (h : a = b) : (a != b) = false := by rw [bne, Qsa h]; rfl
def Rec.flat (a b : Rec) : Prop := a.k = b.k /\ a.l = b.l /\ a.t = b.t /\ a.p = b.p /\ a.c = b.c /\ a.n = b.n /\ a.s = b.s /\ a.b = b.b
theorem rsame_no (a b : Rec) (va vb ua ub : Value) (w : World) (hn : ¬ Rec.flat a b) (ha : Qjb w a va vb) (hb : Qjb w b ua ub) :
    Calls Tryz.prog 32 #[.agg (rcA a va vb), .agg (rcA b ua ub)] w fun e w' => e = .returned (.bool false) /\ Below w.heap.size w w' := by
  have HN := Qa hn; clear hn; have HA := Qa ha; have HB := Qa hb; obtain ⟨⟨a1, cap1, rfl, -⟩, ⟨a2, cap2, rfl, -⟩⟩ := ha; obtain ⟨⟨b1, dap1, rfl, -⟩, ⟨b2, dap2, rfl, -⟩⟩ := hb; have K0 := Qp.two w 34 34 (rcA a (.slice a1 a.ts.length cap1) (.slice a2 a.ds.length cap2)) (rcA b (.slice b1 b.ts.length dap1) (.slice b2 b.ds.length dap2)); have HK := Qa K0; obtain ⟨c0, c1, c2, c3, c9, c10, c11, c12, c13⟩ := Qz K0.1.2.1; obtain ⟨d0, d1, d2, d3, d9, d10, d11, d12, d13⟩ := Qz K0.1.1; obtain ⟨c4, c5, c6, c7, c8⟩ := Qke K0.1.2.1; obtain ⟨d4, d5, d6, d7, d8⟩ := Qke K0.1.1; have hb0 := K0.2; clear K0; clear HK HA HB; by_cases hk : a.k = b.k
  case neg =>
    have gk := Qgc hk; have kk := Qpd hk; clear hk; clear HN; go_enter Tryz.func32, Tryz.ntmps32; go_wp2; go_ret; exact ⟨rfl, hb0⟩
  have Hk := Qa hk; have gk := Qsa hk; have kk := Qkc hk; clear hk; by_cases hl : (a.l : Int) = (b.l : Int)
  case neg =>
    have gl := Qgc hl; have kl := Qpd hl; clear hl; clear HN; go_enter Tryz.func32, Tryz.ntmps32; go_wp2; go_ret; exact ⟨rfl, hb0⟩
  have Hl := Qa hl; have gl := Qsa hl; have kl := Qkc hl; clear hl; by_cases ht : a.t = b.t
  case neg =>
    have gt := Qgc ht; have kt := Qpd ht; clear ht; clear HN; go_enter Tryz.func32, Tryz.ntmps32; go_wp2; go_ret; exact ⟨rfl, hb0⟩
  have Ht := Qa ht; have gt := Qsa ht; have kt := Qkc ht; clear ht; by_cases hp : (a.p : Int) = (b.p : Int)
  case neg =>
    have gp := Qgc hp; have kp := Qpd hp; clear hp; clear HN; go_enter Tryz.func32, Tryz.ntmps32; go_wp2; go_ret; exact ⟨rfl, hb0⟩
  have Hp := Qa hp; have gp := Qsa hp; have kp := Qkc hp; clear hp; by_cases hck : a.c.k = b.c.k
  case neg =>
    have gck := Qgc hck; have kck := Qpd hck; clear hck; clear HN; go_enter Tryz.func32, Tryz.ntmps32; go_wp2; go_ret; exact ⟨rfl, hb0⟩
  have Hck := Qa hck; have gck := Qsa hck; have kck := Qkc hck; clear hck; by_cases hcp : a.c.pg = b.c.pg
  case neg =>
    have gcp := Qgc hcp; have kcp := Qpd hcp; clear hcp; clear HN; go_enter Tryz.func32, Tryz.ntmps32; go_wp2; go_ret; exact ⟨rfl, hb0⟩
  have Hcp := Qa hcp; have gcp := Qsa hcp; have kcp := Qkc hcp; clear hcp; by_cases hcs : a.c.sl = b.c.sl
  case neg =>
    have gcs := Qgc hcs; have kcs := Qpd hcs; clear hcs; clear HN; go_enter Tryz.func32, Tryz.ntmps32; go_wp2; go_ret; exact ⟨rfl, hb0⟩
  have Hcs := Qa hcs; have gcs := Qsa hcs; have kcs := Qkc hcs; clear hcs; by_cases hco : a.c.o.toList = b.c.o.toList
  case neg =>
    clear HN; go_enter Tryz.func32, Tryz.ntmps32; go_wp2; go_ret; exact ⟨rfl, hb0⟩
  have Hco := Qa hco; by_cases hcn : a.c.n.toList = b.c.n.toList
  case neg =>
    clear HN; go_enter Tryz.func32, Tryz.ntmps32; go_wp2; go_ret; exact ⟨rfl, hb0⟩
  have Hcn := Qa hcn; by_cases hn : (a.n : Int) = (b.n : Int)
  case neg =>
    have gn := Qgc hn; have kn := Qpd hn; clear hn; clear HN; go_enter Tryz.func32, Tryz.ntmps32; go_wp2; go_ret; exact ⟨rfl, hb0⟩
  have Hn := Qa hn; have gn := Qsa hn; have kn := Qkc hn; clear hn; by_cases hs : a.s = b.s
  case neg =>
    have gs := Qgc hs; have ks := Qpd hs; clear hs; clear HN; go_enter Tryz.func32, Tryz.ntmps32; go_wp2; go_ret; exact ⟨rfl, hb0⟩
  have Hs := Qa hs; have gs := Qsa hs; have ks := Qkc hs; clear hs; by_cases hb : (a.b : Int) = (b.b : Int)
  case neg =>
    have gb := Qgc hb; have kb := Qpd hb; clear hb; clear HN; go_enter Tryz.func32, Tryz.ntmps32; go_wp2; go_ret; exact ⟨rfl, hb0⟩
  have Hb := Qa hb; have gb := Qsa hb; have kb := Qkc hb; clear hb; exact absurd ⟨Hk.out, Int.ofNat_inj.1 Hl.out, Ht.out, Int.ofNat_inj.1 Hp.out, (Qss _ _).1 ⟨Hck.out, Hcp.out, Hcs.out, Qri Hco.out, Qri Hcn.out⟩, Int.ofNat_inj.1 Hn.out, Hs.out, Int.ofNat_inj.1 Hb.out⟩ HN.out
end Go.Proofs.YtdbpbgpcjmomdaaGreat
