/-
  Texts that lean on one another, one behind the other: each opens with its own remark.
-/
import Derived.Test.YtohdmmfmjadipaaK01

/-
  The contract of quaysideref06.Same: all but the lists.
-/
namespace Go.Proofs.Ytohdmmfmjadipaa
open Go.RowKit
set_option linter.unusedVariables false

theorem bne_yes {a b : Int} (h : ¬ a = b) : (a != b) = true := by rw [bne, beq_no h]; rfl
theorem bne_no {a b : Int} (h : a = b) : (a != b) = false := by rw [bne, beq_yes h]; rfl
/-- All is alike but the lists. -/
def Rec.flat (a b : Rec) : Prop := a.k = b.k ∧ a.l = b.l ∧ a.t = b.t ∧ a.p = b.p ∧ a.c = b.c ∧ a.n = b.n ∧ a.s = b.s ∧ a.b = b.b

set_option maxRecDepth 4000 in
set_option maxHeartbeats 6400000 in
theorem rsame_no (a b : Rec) (va vb ua ub : Value) (w : World) (hn : ¬ Rec.flat a b) (ha : RcIn w a va vb) (hb : RcIn w b ua ub) :
    Calls Try.prog 12 #[.agg (rcA a va vb), .agg (rcA b ua ub)] w fun e w' => e = .returned (.bool false) ∧ Below w.heap.size w w' := by
  have HN := hide hn
  clear hn
  have HA := hide ha
  have HB := hide hb
  obtain ⟨⟨a1, cap1, rfl, -⟩, ⟨a2, cap2, rfl, -⟩⟩ := ha
  obtain ⟨⟨b1, dap1, rfl, -⟩, ⟨b2, dap2, rfl, -⟩⟩ := hb
  have K0 := Keeps.two w 30 30 (rcA a (.slice a1 a.ts.length cap1) (.slice a2 a.ds.length cap2)) (rcA b (.slice b1 b.ts.length dap1) (.slice b2 b.ds.length dap2))
  have HK := hide K0
  obtain ⟨c0, c1, c2, c3, c9, c10, c11, c12, c13⟩ := rc_cells K0.1.2.1
  obtain ⟨d0, d1, d2, d3, d9, d10, d11, d12, d13⟩ := rc_cells K0.1.1
  obtain ⟨c4, c5, c6, c7, c8⟩ := rc_chg K0.1.2.1
  obtain ⟨d4, d5, d6, d7, d8⟩ := rc_chg K0.1.1
  have hb0 := K0.2
  clear K0
  clear HK HA HB
  by_cases hk : a.k = b.k
  case neg =>
    have gk := beq_no hk
    have kk := bne_yes hk
    clear hk
    clear HN
    go_enter Try.func12, Try.ntmps12
    go_wp2
    go_ret
    exact ⟨rfl, hb0⟩
  have Hk := hide hk
  have gk := beq_yes hk
  have kk := bne_no hk
  clear hk
  by_cases hl : (a.l : Int) = (b.l : Int)
  case neg =>
    have gl := beq_no hl
    have kl := bne_yes hl
    clear hl
    clear HN
    go_enter Try.func12, Try.ntmps12
    go_wp2
    go_ret
    exact ⟨rfl, hb0⟩
  have Hl := hide hl
  have gl := beq_yes hl
  have kl := bne_no hl
  clear hl
  by_cases ht : a.t = b.t
  case neg =>
    have gt := beq_no ht
    have kt := bne_yes ht
    clear ht
    clear HN
    go_enter Try.func12, Try.ntmps12
    go_wp2
    go_ret
    exact ⟨rfl, hb0⟩
  have Ht := hide ht
  have gt := beq_yes ht
  have kt := bne_no ht
  clear ht
  by_cases hp : (a.p : Int) = (b.p : Int)
  case neg =>
    have gp := beq_no hp
    have kp := bne_yes hp
    clear hp
    clear HN
    go_enter Try.func12, Try.ntmps12
    go_wp2
    go_ret
    exact ⟨rfl, hb0⟩
  have Hp := hide hp
  have gp := beq_yes hp
  have kp := bne_no hp
  clear hp
  by_cases hck : a.c.k = b.c.k
  case neg =>
    have gck := beq_no hck
    have kck := bne_yes hck
    clear hck
    clear HN
    go_enter Try.func12, Try.ntmps12
    go_wp2
    go_ret
    exact ⟨rfl, hb0⟩
  have Hck := hide hck
  have gck := beq_yes hck
  have kck := bne_no hck
  clear hck
  by_cases hcp : a.c.pg = b.c.pg
  case neg =>
    have gcp := beq_no hcp
    have kcp := bne_yes hcp
    clear hcp
    clear HN
    go_enter Try.func12, Try.ntmps12
    go_wp2
    go_ret
    exact ⟨rfl, hb0⟩
  have Hcp := hide hcp
  have gcp := beq_yes hcp
  have kcp := bne_no hcp
  clear hcp
  by_cases hcs : a.c.sl = b.c.sl
  case neg =>
    have gcs := beq_no hcs
    have kcs := bne_yes hcs
    clear hcs
    clear HN
    go_enter Try.func12, Try.ntmps12
    go_wp2
    go_ret
    exact ⟨rfl, hb0⟩
  have Hcs := hide hcs
  have gcs := beq_yes hcs
  have kcs := bne_no hcs
  clear hcs
  by_cases hco : a.c.o.toList = b.c.o.toList
  case neg =>
    clear HN
    go_enter Try.func12, Try.ntmps12
    go_wp2
    go_ret
    exact ⟨rfl, hb0⟩
  have Hco := hide hco
  by_cases hcn : a.c.n.toList = b.c.n.toList
  case neg =>
    clear HN
    go_enter Try.func12, Try.ntmps12
    go_wp2
    go_ret
    exact ⟨rfl, hb0⟩
  have Hcn := hide hcn
  by_cases hn : (a.n : Int) = (b.n : Int)
  case neg =>
    have gn := beq_no hn
    have kn := bne_yes hn
    clear hn
    clear HN
    go_enter Try.func12, Try.ntmps12
    go_wp2
    go_ret
    exact ⟨rfl, hb0⟩
  have Hn := hide hn
  have gn := beq_yes hn
  have kn := bne_no hn
  clear hn
  by_cases hs : a.s = b.s
  case neg =>
    have gs := beq_no hs
    have ks := bne_yes hs
    clear hs
    clear HN
    go_enter Try.func12, Try.ntmps12
    go_wp2
    go_ret
    exact ⟨rfl, hb0⟩
  have Hs := hide hs
  have gs := beq_yes hs
  have ks := bne_no hs
  clear hs
  by_cases hb : (a.b : Int) = (b.b : Int)
  case neg =>
    have gb := beq_no hb
    have kb := bne_yes hb
    clear hb
    clear HN
    go_enter Try.func12, Try.ntmps12
    go_wp2
    go_ret
    exact ⟨rfl, hb0⟩
  have Hb := hide hb
  have gb := beq_yes hb
  have kb := bne_no hb
  clear hb
  exact absurd ⟨Hk.out, Int.ofNat_inj.1 Hl.out, Ht.out, Int.ofNat_inj.1 Hp.out, (like_iff _ _).1 ⟨Hck.out, Hcp.out, Hcs.out, str_same Hco.out, str_same Hcn.out⟩, Int.ofNat_inj.1 Hn.out, Hs.out, Int.ofNat_inj.1 Hb.out⟩ HN.out
end Go.Proofs.Ytohdmmfmjadipaa
