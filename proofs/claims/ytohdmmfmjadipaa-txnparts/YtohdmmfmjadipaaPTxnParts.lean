/-
  In what is played of any acts, a node's plan for a transaction as far as a number is the first part of its whole plan, and the rest is what lies behind. TxnParts returns true for every input, and its arguments read as before.
  Condition: none but those that the form of every such statement bears by itself (each string within the reach).
-/
import Derived.Test.YtohdmmfmjadipaaRows
import Derived.ProofKit
import Derived.OpenShut
import Derived.ShutString
import Derived.SizedLaws
import Derived.JoinedCond
import Derived.Test.YtohdmmfmjadipaaK09
import Derived.Test.YtohdmmfmjadipaaK10
import Derived.Test.YtohdmmfmjadipaaK06

/-
  The walk of TxnParts.
-/
namespace Go.Proofs.Ytohdmmfmjadipaa.txnParts
open Go.RowKit
set_option linter.unusedVariables false

theorem u8_nat15 {i : Int} (h : (Lit.int .u8 i).wf = true) : ∃ n : Nat, i = (n : Int) ∧ n < 256 := by
  have h2 : 0 ≤ i ∧ i ≤ 255 := by simpa [Lit.wf, IntKind.min, IntKind.max, IntKind.signed, IntKind.bits] using h
  exact ⟨i.toNat, by omega, by omega⟩
theorem rs_part {w : World} {a : Option Addr} {len c : Nat} {ms : List (Rec × Value × Value)} (h : RsIn w (.slice a len c) ms) {k : Nat} (hk : k ≤ ms.length) : RsIn w (.slice a k c) (ms.take k) := by
  obtain ⟨⟨a', cap', h1, h2⟩, h3⟩ := h
  injection h1 with e1 e2 e3
  subst e1
  subst e3
  have hl : (ms.take k).length = k := by rw [List.length_take]; omega
  refine ⟨⟨a, c, by rw [hl], fun hp => ?_⟩, fun m hm => h3 m (List.mem_of_mem_take hm)⟩
  rw [hl] at hp ⊢
  obtain ⟨b, off, e, hb, hr⟩ := h2 (by omega)
  refine ⟨b, off, e, hb, fun i hi => ?_⟩
  rw [List.getD_eq_getElem?_getD, List.getElem?_take, if_pos hi, ← List.getD_eq_getElem?_getD]
  exact hr i (by omega)
theorem own_cap {w : World} {B n c : Nat} {e : TypeId} {sz : Nat} {a : Option Addr} {xs : List Value} (h : w.ownsRow B e sz (.slice a n c) n xs) : n ≤ c := by
  rcases h.2 with ⟨e1, rfl⟩ | ⟨g, cap, cur, e1, _, _, h1, _⟩
  · exact Nat.zero_le _
  · injection e1 with _ _ e3
    rw [e3]
    exact h1
set_option maxRecDepth 8000 in
set_option maxHeartbeats 1600000 in
theorem walk (v0 : Value) (l : List Ac) (a1 t a3 : Int) (W : World) (ha : AcsIn W v0 l) (hw1 : (Lit.int .u8 a1).wf = true) (hw2 : (Lit.int .i64 t).wf = true) (hw3 : (Lit.int .u64 a3).wf = true) :
    Calls Try.prog 7 #[v0, .int .u8 a1, .int .i64 t, .int .u64 a3] W fun e w' => e = .returned (.bool true) ∧ Below W.heap.size W w' := by
  obtain ⟨m, rfl, hm⟩ := u8_nat15 hw1
  obtain ⟨u, rfl⟩ := u64_nat hw3
  clear hw1 hw2 hw3
  have HAW := hide (fun w => awake15 w)
  have HA := hide ha
  obtain ⟨⟨aa, ca, rfl, -⟩, hmx, -, -⟩ := ha
  have hb' : l.length ≤ 9223372036854775807 := hmx
  clear hmx
  by_cases hbig : 300 < l.length
  · obtain ⟨ln, hln⟩ : ∃ ln, ln = l.length := ⟨_, rfl⟩
    rw [← hln] at hbig hb' HA ⊢
    clear hln
    have i1 : (ln : Int) > 300 := by omega
    go_enter Try.func7, Try.ntmps7
    go_wp2_with fail
    refine (HAW.out W).mono ?_
    rintro e w1 ⟨rfl, hb1⟩
    have H1 := hide hb1
    clear hb1
    go_wp2_with fail
    refine (HAW.out w1).mono ?_
    rintro e w2 ⟨rfl, hb2⟩
    have H2 := hide (H1.out.trans (hb2.mono H1.out.size))
    clear hb2 H1
    go_wp2
    go_ret
    exact ⟨rfl, H2.out⟩
  · have HPL := hide (fun w (h : Below W.heap.size W w) => hplay15 w aa l.length ca l (HA.out.below h) (by omega))
    have hok := Hs.play_ok l (by omega)
    obtain ⟨h, hh⟩ : ∃ h, h = Hs.play l := ⟨_, rfl⟩
    rw [← hh] at HPL hok
    obtain ⟨n, hn0⟩ : ∃ n, n = m % 3 := ⟨_, rfl⟩
    have hn : n < 3 := by omega
    have in3 : (n : Int) < 3 := by omega
    have hmod : ((m : Int)).tmod 3 = (n : Int) := by
      rw [Int.tmod_eq_emod_of_nonneg (by omega)]
      omega
    have hR := hok.rise n hn
    have hlen : (h.lg n).length ≤ 600 := Nat.le_trans (hok.len hn) (by omega)
    obtain ⟨lg, hlg⟩ : ∃ lg, lg = h.lg n := ⟨_, rfl⟩
    have HLG := hide hlg
    rw [← hlg] at hR hlen
    have hp : Part15 (nextT lg (lastT lg t)) u (planT lg t 0) (planT lg t u) := parts15 hR u _ _ (Nat.le_refl _) (nextT_again hR _)
    have hfew : (planT lg t 0).length ≤ 1000 := by
      have h1 := plan_few hR 0 _ (nextT lg (lastT lg t)) (Nat.le_refl _) (nextT_again hR _)
      unfold planT
      omega
    have HR : Hid (Rise 0 (msR (bareMs lg))) := by show Rise 0 _; rw [bareMs_R]; exact hR
    obtain ⟨p, hpp⟩ : ∃ p, p = planT lg t 0 := ⟨_, rfl⟩
    obtain ⟨q, hqq⟩ : ∃ q, q = planT lg t u := ⟨_, rfl⟩
    rw [← hpp] at hp hfew
    rw [← hqq] at hp
    have HPQ := hide (And.intro hpp hqq)
    have HPT := hide hp
    obtain ⟨ln, hln⟩ : ∃ ln, ln = l.length := ⟨_, rfl⟩
    rw [← hln] at hbig hb' HA HPL ⊢
    clear hln hh hok hlg hR hpp hqq hp hn0 HA
    have i1 : ¬ (ln : Int) > 300 := by omega
    go_enter Try.func7, Try.ntmps7
    go_wp2_with fail
    refine (HAW.out W).mono ?_
    rintro e w1 ⟨rfl, hb1⟩
    have H1 := hide hb1
    clear hb1 HAW
    go_wp2_with fail
    refine (HPL.out w1 H1.out).mono ?_
    rintro e w2 ⟨g, F, rfl, hHB, hb2⟩
    have H2 := hide (H1.out.trans (hb2.mono H1.out.size))
    obtain ⟨gl, a, c, c0, c1, hlog⟩ := hHB.logs hn (by rw [← HLG.out]; omega)
    rw [← HLG.out] at c1 hlog
    have HLO := hide hlog
    have HP0 := hide (fun w (h : Below w2.heap.size w2 w) => Plan15 _ (bareMs lg) t 0 w (HLO.out.below h))
    have HPU := hide (fun w (h : Below w2.heap.size w2 w) => Plan15 _ (bareMs lg) t u w (HLO.out.below h))
    have HLA := hide (fun w (h : Below w2.heap.size w2 w) => last15 _ (bareMs lg) t w (HLO.out.below h))
    have HNX := hide (fun w k (h : Below w2.heap.size w2 w) => Next15 _ (bareMs lg) k w (HLO.out.below h))
    rw [show ((0 : Nat) : Int) = 0 from rfl, bareMs_R] at HP0
    rw [bareMs_R] at HPU HLA
    simp only [bareMs_R] at HNX HP0 HPU HLA HR
    obtain ⟨lgn, hlgn⟩ : ∃ k, k = lg.length := ⟨_, rfl⟩
    rw [← hlgn] at c1 hlen HP0 HPU HLA HNX
    clear hHB hb2 hlog H1 HPL HLG HLO hlgn
    go_wp2_with fail
    refine (HP0.out w2 (Below.refl _ _)).mono ?_
    rintro e w3 ⟨hcase, hb3⟩
    rcases hcase with ⟨-, vp, rfl, hown⟩ | ⟨hr, -⟩
    rotate_left
    · exact absurd HR.out hr
    rw [← HPQ.out.1] at hown
    have H3 : Hid (OwnL w3 w2.heap.size vp p ∧ Below w2.heap.size w2 w3) := ⟨hown, hb3⟩
    clear hown hb3 HP0 c0 c1
    go_wp2_with fail
    refine (HPU.out w3 H3.out.2).mono ?_
    rintro e w4 ⟨hcase, hb4⟩
    rcases hcase with ⟨-, vq, rfl, hown⟩ | ⟨hr, -⟩
    rotate_left
    · exact absurd HR.out hr
    rw [← HPQ.out.2] at hown
    obtain ⟨ap, cp, rfl⟩ := own_slot15 H3.out.1.1
    obtain ⟨aq, cq, rfl⟩ := own_slot15 hown.1
    have hcp := own_cap H3.out.1.1
    have H4 : Hid (OwnL w4 w2.heap.size (.slice ap p.length cp) p ∧ OwnL w4 w3.heap.size (.slice aq q.length cq) q ∧ Below w2.heap.size w2 w4) := ⟨H3.out.1.later hb4, hown, H3.out.2.trans (hb4.mono H3.out.2.size)⟩
    have hle := HPT.out.len
    have HSM := hide (rlist_any (.slice aq q.length cq) (.slice ap q.length cp) (bareMs q) ((bareMs p).take q.length) w4 H4.out.2.1.rs (rs_part H4.out.1.rs (by rw [bareMs_len]; exact hle)) (by
      rw [msR_take, bareMs_R, bareMs_R]
      exact HPT.out.pre) (by rw [bareMs_len]; omega))
    obtain ⟨lp, hlp⟩ : ∃ k, k = p.length := ⟨_, rfl⟩
    obtain ⟨lq, hlq⟩ : ∃ k, k = q.length := ⟨_, rfl⟩
    have HLL := hide (And.intro hlp hlq)
    rw [← hlp] at hcp hle H4 hfew ⊢
    rw [← hlq] at hle HSM H4 ⊢
    clear hown hb4 HPU H3 hlp hlq
    have i2 : ¬ (lq : Int) > (lp : Int) := by omega
    have i3 : (lq : Int) ≤ (cp : Int) := by omega
    have i4 : (0 : Int) ≤ (lq : Int) := by omega
    go_wp2_with fail
    refine HSM.out.mono ?_
    rintro e w5 ⟨rfl, hb5⟩
    have H5 : Hid (OwnL w5 w2.heap.size (.slice ap lp cp) p ∧ Below w2.heap.size w2 w5) := ⟨H4.out.1.later hb5, H4.out.2.2.trans (hb5.mono H4.out.2.2.size)⟩
    clear hb5 H4 HSM i3
    go_wp2_with fail
    refine (HLA.out w5 H5.out.2).mono ?_
    rintro e w6 ⟨rfl, hb6⟩
    have H6 : Hid (OwnL w6 w2.heap.size (.slice ap lp cp) p ∧ Below w2.heap.size w2 w6) := ⟨H5.out.1.later hb6, H5.out.2.trans (hb6.mono H5.out.2.size)⟩
    clear hb6 H5 HLA
    go_wp2_with fail
    refine (HNX.out w6 _ H6.out.2).mono ?_
    rintro e w7 ⟨hcase, hb7⟩
    rcases hcase with ⟨-, rfl⟩ | ⟨hr, -⟩
    rotate_left
    · exact absurd HR.out hr
    have HPI := hide (H6.out.1.log (by rw [← HLL.out.1]; exact hfew))
    have H7 : Hid (LogIn w7 (.slice ap lp cp) (bareMs p) ∧ Below W.heap.size W w7) := ⟨HPI.out.below hb7, H2.out.trans ((H6.out.2.trans (hb7.mono H6.out.2.size)).mono H2.out.size)⟩
    obtain ⟨n0, hn0⟩ : ∃ k, k = nextT lg (lastT lg t) := ⟨_, rfl⟩
    rw [← hn0] at HPT ⊢
    clear hb7 H6 HNX HPI hn0 H2 HR
    go_wp2
    go_loopw [80, 14] (fun i at0 wr => ∃ j : Nat, j ≤ lp ∧ i = .int .i64 (j : Int) ∧ at0 = .int .u64 (atOf n0 p j : Int) ∧ Hid (Below w7.heap.size w7 wr)) (fun i _ _ => lp - (intOf i).toNat)
    case atStart => exact ⟨0, Nat.zero_le _, rfl, rfl, Below.refl _ _⟩
    case round =>
      obtain ⟨j, hj, rfl, rfl, HBR⟩ := hrel
      by_cases hlt : j < lp
      · have i5 : (j : Int) < (lp : Int) := by omega
        have i6 : (0 : Int) ≤ (j : Int) := by omega
        have hjl : j < p.length := by rw [← HLL.out.1]; exact hlt
        have hpos := HPT.out.pos j hjl
        have hcut := HPT.out.cut j hjl
        rw [← HLL.out.2] at hcut
        obtain ⟨b, off, rfl, hf, he, hx⟩ := H7.out.1.mid (show j < (bareMs p).length by rw [bareMs_len]; exact hjl)
        have hc := (hx wr HBR.out).1 9 (.int .u64 (((bareMs p).getD j rcZ).1.n : Int)) rfl
        rw [he, bareMs_R, ← atOf_next n0] at hc
        clear hf he hx
        obtain ⟨x, hx⟩ : ∃ x, x = atOf n0 p j := ⟨_, rfl⟩
        obtain ⟨y, hy⟩ : ∃ y, y = atOf n0 p (j + 1) := ⟨_, rfl⟩
        rw [← hx] at hpos hcut ⊢
        rw [← hy] at hc
        have HY := hide hy
        clear hx hy
        have e1 : ((x : Int) == 0) = false := by simpa using hpos
        have j9 : j < 1000 := by omega
        by_cases hu : u < x
        · have hjq : j < lq := hcut.1 hu
          have i7 : (x : Int) > (u : Int) := by omega
          have i8 : (j : Int) < (lq : Int) := by omega
          clear hcut hpos
          go_wp2
          go_roundw
          case rel => exact ⟨j + 1, by omega, by go_num, by rw [← HY.out], HBR.out⟩
          case measure => simp [intOf] <;> omega
        · have hjq : ¬ j < lq := fun q => hu (hcut.2 q)
          have i7 : ¬ (x : Int) > (u : Int) := by omega
          have i8 : ¬ (j : Int) < (lq : Int) := by omega
          clear hcut hpos
          go_wp2
          go_roundw
          case rel => exact ⟨j + 1, by omega, by go_num, by rw [← HY.out], HBR.out⟩
          case measure => simp [intOf] <;> omega
      · have i5 : ¬ (j : Int) < (lp : Int) := by omega
        have hj2 : j = p.length := by rw [← HLL.out.1]; omega
        have e0 : atOf n0 p j = 0 := by rw [hj2]; exact HPT.out.fin
        rw [e0]
        have HE := hide (H7.out.2.trans (HBR.out.mono H7.out.2.size))
        clear e0 hj2
        go_wp2
        go_ret
        exact ⟨rfl, HE.out⟩
end Go.Proofs.Ytohdmmfmjadipaa.txnParts

namespace Go.Proofs.Ytohdmmfmjadipaa.txnParts
open Go.ChangeShapes Go.WideShapes Go.ChangeAt Go.RowKit
open Go.ChangeMaps (open_string shut_string)
set_option linter.unusedVariables false

theorem laidOut : laidOutB Try.prog = true := by kernel_rfl
theorem own : ownKnob Try.prog.godebug = none := by kernel_rfl

set_option maxRecDepth 100000 in
theorem lifted (os : Os) (started : os.Started) (H : Type) (enc : TypeId × Value → H) :
    ReturnsInHanded {} Try.checked os 7 .any (Rows.txnPartsSpec.pre6 enc Try.prog Try.f7 Rows.txnPartsRow.domain false) (Rows.txnPartsSpec.post enc Try.prog Try.f7 false true false false) := by
  refine returnsInHanded_of_change_sized (C := Try.checked) own started (by kernel_rfl) Try.func7
    (ChangeSpec.witness6 (enc := enc) (C := Try.checked) false ⟨#[], #[.slice none 0 0, .int .u8 0, .int .i64 0, .int .u64 0], []⟩ 8 (by kernel_rfl) (by kernel_rfl) (by kernel_rfl) (by kernel_rfl)) ?_
  intro W base args ds gs before hval0 hW hcnd hsz0 _
  have hval : ∀ (j : Nat) t v, Try.f7.params[j]? = some t → args[j]? = some v → Value.okWide Try.prog W .any base t v := hval0
  have hsz : (DataW.weightsEach Try.prog (Try.f7.params.toList ++ Rows.txnPartsSpec.plain.varTypes Try.prog) (ds ++ gs)).all (· ≤ reachBytes) = true := hsz0
  have hW' := hW
  obtain ⟨p, q, hA0, hV, rfl, hfz, hnd⟩ := hW
  have hA : DataW.TrodAll enc Try.prog W 0 (fun _ => true) true Try.f7.params.toList args.toList ds p := hA0
  rw [Try.params7] at hA hval hsz
  obtain ⟨v0, vs0, d0, ds0, p0, q0, hargs, rfl, rfl, h0, r0⟩ := trodAll_cons hA
  obtain ⟨v1, vs1, d1, ds1, p1, q1, rfl, rfl, rfl, h1, r1⟩ := trodAll_cons r0
  obtain ⟨v2, vs2, d2, ds2, p2, q2, rfl, rfl, rfl, h2, r2⟩ := trodAll_cons r1
  obtain ⟨v3, vs3, d3, ds3, p3, q3, rfl, rfl, rfl, h3, r3⟩ := trodAll_cons r2
  obtain ⟨rfl, rfl, rfl⟩ := trodAll_nil r3
  obtain rfl : args = #[v0, v1, v2, v3] := by cases args; simp_all
  obtain ⟨rfl, rfl⟩ := trodVars_none hV
  have k0 := h0
  have lt0 := trod_places h0
  obtain ⟨a1, rfl, rfl, rfl, w1⟩ := open_int Try.underlying5 (hval 1 5 v1 rfl rfl) h1
  obtain ⟨a2, rfl, rfl, rfl, w2⟩ := open_int Try.underlying3 (hval 2 3 v2 rfl rfl) h2
  obtain ⟨a3, rfl, rfl, rfl, w3⟩ := open_int Try.underlying23 (hval 3 23 v3 rfl rfl) h3
  obtain ⟨m0, w0⟩ := op_acs (hval 0 51 v0 rfl rfl) h0
  clear hA0 hval0 hsz0 hsz
  refine (walk v0 m0 a1 a2 a3 W w0 w1 w2 w3).mono fun e W' ⟨he, bel⟩ => ?_
  subst he
  exact ⟨_, rfl, _, _, _, [], _, [], hW', trodAll_mk1 (shut_bool Try.underlying4 _), (trodAll_cons_mk (Below.trod laidOut (by kernel_rfl) (of_decide_eq_true (by kernel_rfl)) k0 bel lt0) (trodAll_cons_mk (shut_int Try.underlying5 w1) (trodAll_cons_mk (shut_int Try.underlying3 w2) (trodAll_cons_mk (shut_int Try.underlying23 w3) trodAll_mk0)))), rfl, bel.frame _, fun h => by cases h⟩

theorem over : Rows.txnPartsRow.holds Try.pinned (OpenSpec.ofChange Rows.txnPartsSpec) :=
  OpenClaim.holds_of_wide 7 Try.f7 rfl rfl rfl rfl rfl rfl rfl ⟨rfl, rfl, rfl, rfl, rfl⟩ rfl rfl rfl rfl rfl (by kernel_rfl) Try.func7 (by kernel_rfl)
    (of_decide_eq_true (by kernel_rfl)) (by unfold Func.isWrapper; first | (rw [if_pos (by decide +kernel)]; kernel_rfl) | (rw [if_neg (by decide +kernel)]; exact ⟨rfl, rfl⟩))
    (fun os started H enc _ => lifted os started H enc)

/-- THE STATEMENT. -/
theorem proved : Rows.TxnPartsSaid := over
end Go.Proofs.Ytohdmmfmjadipaa.txnParts
namespace Go.Proofs.Ytohdmmfmjadipaa
theorem txnParts_proved : Rows.TxnPartsSaid := txnParts.proved
end Go.Proofs.Ytohdmmfmjadipaa
