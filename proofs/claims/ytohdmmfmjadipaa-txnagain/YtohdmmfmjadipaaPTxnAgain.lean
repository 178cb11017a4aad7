/-
  In what is played of any acts, with the first records of a transaction's plan behind a node's log its plan is just the rest, and wholly taken back it is nothing. TxnAgain returns true for every input, and its arguments read as before.
  Condition: none but those that the form of every such statement bears by itself (each string within the reach).
-/
import Derived.Test.YtohdmmfmjadipaaRows
import Derived.ProofKit
import Derived.OpenShut
import Derived.ShutString
import Derived.SizedLaws
import Derived.JoinedCond
import Derived.Test.YtohdmmfmjadipaaK09
import Derived.Test.YtohdmmfmjadipaaK10
import Derived.Test.YtohdmmfmjadipaaK17
import Derived.Test.YtohdmmfmjadipaaK06

/-
  The walk of TxnAgain.
-/
namespace Go.Proofs.Ytohdmmfmjadipaa.txnAgain
open Go.RowKit
set_option linter.unusedVariables false

theorem u8_nat15 {i : Int} (h : (Lit.int .u8 i).wf = true) : ∃ n : Nat, i = (n : Int) ∧ n < 256 := by
  have h2 : 0 ≤ i ∧ i ≤ 255 := by simpa [Lit.wf, IntKind.min, IntKind.max, IntKind.signed, IntKind.bits] using h
  exact ⟨i.toNat, by omega, by omega⟩
theorem msR_drop (ms : List (Rec × Value × Value)) (i : Nat) : msR (ms.drop i) = (msR ms).drop i := by simp [msR, List.map_drop]
/-- What the walk wants of a history's log and a plan of it. -/
structure Ag (lg p : List Rec) (t : Int) : Prop where
  few : lg.length ≤ 300
  pfew : p.length ≤ 300
  bare : ∀ j, j < p.length → (bhR (behR lg p j) (p.getD j Rec.zero)).bare
  most : ∀ j, j < p.length → lastL 0 (behR lg p j) ≤ 100000
  again : ∀ k, k ≤ p.length → Rise 0 (behR lg p k) ∧ planT (behR lg p k) t 0 = p.drop k
  len : ∀ k, k ≤ p.length → (behR lg p k).length ≤ 600
theorem ag_of {h : Hs} {n N : Nat} (ok : h.ok N) (hN : N ≤ 1000) (hn : n < 3) (t : Int) (hlen : (h.lg n).length ≤ 300) : Ag (h.lg n) (planT (h.lg n) t 0) t := by
  have hR := ok.rise n hn
  have ch := ok.chain n hn
  have hm : lastL 0 (h.lg n) ≤ 1000 := by
    by_cases h0 : h.lg n = []
    · rw [h0]
      exact Nat.zero_le _
    · obtain ⟨r, h1, h2⟩ := lastL_mem (h.lg n) 0 h0
      have h3 := ok.last n hn r h1
      have h4 := ok.ck n hn
      omega
  have pf : (planT (h.lg n) t 0).length ≤ (h.lg n).length := plan_few hR 0 _ (nextT (h.lg n) (lastT (h.lg n) t)) (Nat.le_refl _) (nextT_again hR _)
  have wants : ∀ j, j < (planT (h.lg n) t 0).length → (bhR (behR (h.lg n) (planT (h.lg n) t 0) j) ((planT (h.lg n) t 0).getD j Rec.zero)).bare ∧ lastL 0 (behR (h.lg n) (planT (h.lg n) t 0) j) ≤ 100000 := by
    intro j hj
    by_cases ht : 1 ≤ t
    · exact beh_wants hR ch (by omega) t ht (by omega) j hj
    · have e : planT (h.lg n) t 0 = [] := by
        unfold planT
        rw [lastT_none _ _ (fun r hr x => ht x.1), nextT_zero hR]
        exact planL_zero hR 0
      rw [e] at hj
      exact absurd hj (by simp)
  exact ⟨hlen, by omega, fun j hj => (wants j hj).1, fun j hj => (wants j hj).2, fun k hk => again15 hR ch (by omega) t k hk (by omega), fun k hk => by rw [behR_len _ _ k hk]; omega⟩
set_option maxRecDepth 8000 in
set_option maxHeartbeats 1600000 in
theorem walk (v0 : Value) (l : List Ac) (a1 t a3 : Int) (W : World) (ha : AcsIn W v0 l) (hw1 : (Lit.int .u8 a1).wf = true) (hw2 : (Lit.int .i64 t).wf = true) (hw3 : (Lit.int .u64 a3).wf = true) :
    Calls Try.prog 6 #[v0, .int .u8 a1, .int .i64 t, .int .u64 a3] W fun e w' => e = .returned (.bool true) ∧ Below W.heap.size W w' := by
  obtain ⟨m, rfl, hm⟩ := u8_nat15 hw1
  obtain ⟨u, rfl⟩ := u64_nat hw3
  clear hw1 hw2 hw3
  have HAW := hide (fun w => awake15 w)
  have HA := hide ha
  obtain ⟨⟨aa, ca, rfl, -⟩, hmx, -, -⟩ := ha
  have hb' : l.length ≤ 9223372036854775807 := hmx
  clear hmx
  by_cases hbig : 300 < l.length
  · obtain ⟨ln, hln⟩ : ∃ ln, ln = l.length := ⟨_, rfl⟩
    rw [← hln] at hbig hb' HA ⊢
    clear hln
    have i1 : (ln : Int) > 300 := by omega
    go_enter Try.func6, Try.ntmps6
    go_wp2_with fail
    refine (HAW.out W).mono ?_
    rintro e w1 ⟨rfl, hb1⟩
    have H1 := hide hb1
    clear hb1
    go_wp2_with fail
    refine (HAW.out w1).mono ?_
    rintro e w2 ⟨rfl, hb2⟩
    have H2 := hide (H1.out.trans (hb2.mono H1.out.size))
    clear hb2 H1
    go_wp2
    go_ret
    exact ⟨rfl, H2.out⟩
  · have HPL := hide (fun w (h : Below W.heap.size W w) => hplay15 w aa l.length ca l (HA.out.below h) (by omega))
    have hok := Hs.play_ok l (by omega)
    have hln0 := play_lens l
    obtain ⟨h, hh⟩ : ∃ h, h = Hs.play l := ⟨_, rfl⟩
    rw [← hh] at HPL hok hln0
    obtain ⟨n, hn0⟩ : ∃ n, n = m % 3 := ⟨_, rfl⟩
    have hn : n < 3 := by omega
    have in3 : (n : Int) < 3 := by omega
    have hmod : ((m : Int)).tmod 3 = (n : Int) := by
      rw [Int.tmod_eq_emod_of_nonneg (by omega)]
      omega
    have hR := hok.rise n hn
    have hag := ag_of hok (by omega) hn t (by have := hln0 n; omega)
    obtain ⟨lg, hlg⟩ : ∃ lg, lg = h.lg n := ⟨_, rfl⟩
    have HLG := hide hlg
    rw [← hlg] at hR hag
    have HR : Hid (Rise 0 (msR (bareMs lg))) := by show Rise 0 _; rw [bareMs_R]; exact hR
    obtain ⟨p, hpp⟩ : ∃ p, p = planT lg t 0 := ⟨_, rfl⟩
    rw [← hpp] at hag
    have HPP := hide hpp
    have HAG := hide hag
    have hlf := hag.few
    have hpf := hag.pfew
    obtain ⟨ln, hln⟩ : ∃ ln, ln = l.length := ⟨_, rfl⟩
    rw [← hln] at hbig hb' HA HPL ⊢
    clear hln hh hok hlg hR hpp hag hn0 HA hln0
    have i1 : ¬ (ln : Int) > 300 := by omega
    go_enter Try.func6, Try.ntmps6
    go_wp2_with fail
    refine (HAW.out W).mono ?_
    rintro e w1 ⟨rfl, hb1⟩
    have H1 := hide hb1
    clear hb1 HAW
    go_wp2_with fail
    refine (HPL.out w1 H1.out).mono ?_
    rintro e w2 ⟨g, F, rfl, hHB, hb2⟩
    have H2 := hide (H1.out.trans (hb2.mono H1.out.size))
    obtain ⟨gl, a, c, c0, c1, hlog⟩ := hHB.logOwn hn
    rw [← HLG.out] at c1 hlog
    have hin := hlog.log (by omega)
    have HLO := hide hlog
    have HP0 := hide (fun w (h : Below w2.heap.size w2 w) => Plan15 _ (bareMs lg) t 0 w (hin.below h))
    have HPX := hide (fun (v : Value) (q : List Rec) w (h : LogIn w v (bareMs q)) => Plan15 v (bareMs q) t 0 w h)
    rw [show ((0 : Nat) : Int) = 0 from rfl, bareMs_R] at HP0
    simp only [bareMs_R] at HPX HP0 HR
    rw [show ((0 : Nat) : Int) = 0 from rfl] at HPX
    obtain ⟨lgn, hlgn⟩ : ∃ k, k = lg.length := ⟨_, rfl⟩
    rw [← hlgn] at c1 HLO HP0 hlf
    clear hHB hb2 hlog H1 HPL HLG hlgn
    have HIN := hide hin
    clear hin
    go_wp2_with fail
    refine (HP0.out w2 (Below.refl _ _)).mono ?_
    rintro e w3 ⟨hcase, hb3⟩
    rcases hcase with ⟨-, vp, rfl, hown⟩ | ⟨hr, -⟩
    rotate_left
    · exact absurd HR.out hr
    rw [← HPP.out] at hown
    have HBH := hide (fun (k : Nat) w (h : Below w3.heap.size w3 w) (hk : k ≤ p.length) => behind15 _ _ lg p k _ _ w ((HLO.out.later hb3).later h) (hown.later h) hk (by have := HAG.out.pfew; omega) (by have := HAG.out.few; omega) HAG.out.bare HAG.out.most)
    have H3 := hide (H2.out.trans (hb3.mono H2.out.size))
    obtain ⟨ap, cp, rfl⟩ := own_slot15 hown.1
    have HOP := hide hown
    obtain ⟨lp, hlp⟩ : ∃ k, k = p.length := ⟨_, rfl⟩
    have HLP := hide hlp
    rw [← hlp] at HBH HOP hpf ⊢
    clear hown hb3 H2 HP0 c0 c1 hlp HLO HR
    obtain ⟨l1, hl1⟩ : ∃ l1 : Nat, l1 = lp + 1 := ⟨_, rfl⟩
    have e1 : (lp : Int) + 1 = (l1 : Int) := by omega
    obtain ⟨k, hk⟩ : ∃ k : Nat, k = u % l1 := ⟨_, rfl⟩
    have hkl : k ≤ lp := by
      have : u % l1 < l1 := Nat.mod_lt _ (by omega)
      omega
    have e2 : (u : Int) % (l1 : Int) = (k : Int) := by
      rw [hk]
      exact (Int.natCast_emod u l1).symm
    have e3 : ¬ (l1 : Int) = 0 := by omega
    have hl1b : l1 ≤ 200000 := by omega
    clear hl1 hk
    go_wp2_with fail
    refine (HBH.out k w3 (Below.refl _ _) hkl).mono ?_
    rintro e w4 ⟨⟨vo, rfl, ho4⟩, hb4⟩
    have a4 := HAG.out.again k (by rw [← HLP.out]; exact hkl)
    have c4 := HAG.out.len k (by rw [← HLP.out]; exact hkl)
    have HPL4 := hide (HPX.out vo (behR lg p k) w4 (ho4.log (by omega)))
    have A4 := hide a4
    have HB4 := hide hb4
    clear ho4 hb4 c4 a4
    go_wp2_with fail
    refine HPL4.out.mono ?_
    rintro e w5 ⟨hcase, hb5⟩
    rcases hcase with ⟨-, vr, rfl, hown5⟩ | ⟨hr, -⟩
    rotate_left
    · exact absurd A4.out.1 hr
    rw [A4.out.2] at hown5
    have H35 : Hid (Below w3.heap.size w3 w5) := HB4.out.trans (hb5.mono HB4.out.size)
    have HR5 := hide hown5
    clear hown5 hb5 HB4 A4 HPL4
    go_wp2_with fail
    refine (HBH.out lp w5 H35.out (Nat.le_refl _)).mono ?_
    rintro e w6 ⟨⟨vo2, rfl, ho6⟩, hb6⟩
    have a6 := HAG.out.again lp (by rw [← HLP.out]; exact Nat.le_refl _)
    have c6 := HAG.out.len lp (by rw [← HLP.out]; exact Nat.le_refl _)
    have HPL6 := hide (HPX.out vo2 (behR lg p lp) w6 (ho6.log (by omega)))
    have A6 := hide a6
    have HR6 := hide (HR5.out.later hb6)
    have H36 : Hid (Below w3.heap.size w3 w6) := H35.out.trans (hb6.mono H35.out.size)
    clear ho6 hb6 c6 a6 HPX HBH HR5 H35
    go_wp2_with fail
    refine HPL6.out.mono ?_
    rintro e w7 ⟨hcase, hb7⟩
    rcases hcase with ⟨-, vz, rfl, hown7⟩ | ⟨hr, -⟩
    rotate_left
    · exact absurd A6.out.1 hr
    rw [A6.out.2] at hown7
    have h0 : (p.drop lp).length = 0 := by rw [List.length_drop, HLP.out, Nat.sub_self]
    obtain ⟨az, cz, rfl⟩ := own_slot15 hown7.1
    rw [h0]
    have H37 : Hid (Below w3.heap.size w3 w7) := H36.out.trans (hb7.mono H36.out.size)
    have HR7 := hide (HR6.out.later hb7)
    have HP7 := hide (HOP.out.later H37.out)
    have HE := hide (H3.out.trans (H37.out.mono H3.out.size))
    clear hown7 hb7 A6 HR6 H36 H37 HPL6 h0 HOP H3
    have HLN := HLP
    rcases HP7.out.1.2 with ⟨e, -⟩ | ⟨gq, cap, cur, e, -, -, hcap, -⟩
    · injection e with q1 q2 q3
      subst q1 q3
      have hp0 : p = [] := List.eq_nil_of_length_eq_zero (by rw [← HLP.out, q2])
      have hk0 : k = 0 := by omega
      have HSM := hide (rlist_any vr (.slice none 0 0) (bareMs (p.drop k)) [] w7 HR7.out.rs (RsIn.empty _ _ _) (by rw [hp0, List.drop_nil]; rfl) (by rw [hp0, List.drop_nil]; exact Nat.zero_le _))
      have z0 : (0 : Int) ≤ (k : Int) := by omega
      clear HP7 HR7 HLN HLP e1 e2 e3 hl1b HAG HPP hp0
      subst q2 hk0
      go_wp2_with fail
      refine HSM.out.mono ?_
      rintro e w8 ⟨rfl, hb8⟩
      have H8 := hide (HE.out.trans (hb8.mono HE.out.size))
      clear hb8 HSM HE
      go_wp2
      go_ret
      exact ⟨rfl, H8.out⟩
    · injection e with q1 q2 q3
      subst q1 q3
      rw [← HLP.out] at hcap
      have i2 : (k : Int) ≤ (lp : Int) := by omega
      have i3 : (lp : Int) ≤ (cp : Int) := by omega
      have i4 : (0 : Int) ≤ (k : Int) := by omega
      have hdl : (p.drop k).length = lp - k := by rw [List.length_drop, HLP.out]
      clear e1 e2 e3 hl1b q2 hcap
      by_cases hc : cp = k
      · have HSM := hide (rlist_any vr (.slice (some ⟨gq, 0, none⟩) (lp - k) 0) (bareMs (p.drop k)) [] w7 HR7.out.rs ⟨⟨_, _, by rw [show lp - k = 0 by omega]; rfl, fun h => absurd h (by simp)⟩, fun m hm => (nomatch hm)⟩ (by rw [List.eq_nil_of_length_eq_zero (show (p.drop k).length = 0 by omega)]; rfl) (by rw [bareMs_len]; omega))
        clear hdl
        go_wp2_with fail
        refine HSM.out.mono ?_
        rintro e w8 ⟨rfl, hb8⟩
        have H8 := hide (HE.out.trans (hb8.mono HE.out.size))
        clear hb8 HSM HE
        go_wp2
        go_ret
        exact ⟨rfl, H8.out⟩
      · have hrs := rs_rest HP7.out.rs (k := k) (by rw [bareMs_len, ← HLP.out]; exact hkl) (cp - k)
        rw [bareMs_len, ← HLP.out, Nat.zero_add] at hrs
        have HSM := hide (rlist_any vr (.slice (some ⟨gq, k * 14, none⟩) (lp - k) (cp - k)) (bareMs (p.drop k)) ((bareMs p).drop k) w7 HR7.out.rs hrs (by rw [msR_drop, bareMs_R, bareMs_R]) (by rw [bareMs_len]; omega))
        clear hdl hrs
        go_wp2_with fail
        refine HSM.out.mono ?_
        rintro e w8 ⟨rfl, hb8⟩
        have H8 := hide (HE.out.trans (hb8.mono HE.out.size))
        clear hb8 HSM HE
        go_wp2
        go_ret
        exact ⟨rfl, H8.out⟩
end Go.Proofs.Ytohdmmfmjadipaa.txnAgain

namespace Go.Proofs.Ytohdmmfmjadipaa.txnAgain
open Go.ChangeShapes Go.WideShapes Go.ChangeAt Go.RowKit
open Go.ChangeMaps (open_string shut_string)
set_option linter.unusedVariables false

theorem laidOut : laidOutB Try.prog = true := by kernel_rfl
theorem own : ownKnob Try.prog.godebug = none := by kernel_rfl

set_option maxRecDepth 100000 in
theorem lifted (os : Os) (started : os.Started) (H : Type) (enc : TypeId × Value → H) :
    ReturnsInHanded {} Try.checked os 6 .any (Rows.txnAgainSpec.pre6 enc Try.prog Try.f6 Rows.txnAgainRow.domain false) (Rows.txnAgainSpec.post enc Try.prog Try.f6 false true false false) := by
  refine returnsInHanded_of_change_sized (C := Try.checked) own started (by kernel_rfl) Try.func6
    (ChangeSpec.witness6 (enc := enc) (C := Try.checked) false ⟨#[], #[.slice none 0 0, .int .u8 0, .int .i64 0, .int .u64 0], []⟩ 8 (by kernel_rfl) (by kernel_rfl) (by kernel_rfl) (by kernel_rfl)) ?_
  intro W base args ds gs before hval0 hW hcnd hsz0 _
  have hval : ∀ (j : Nat) t v, Try.f6.params[j]? = some t → args[j]? = some v → Value.okWide Try.prog W .any base t v := hval0
  have hsz : (DataW.weightsEach Try.prog (Try.f6.params.toList ++ Rows.txnAgainSpec.plain.varTypes Try.prog) (ds ++ gs)).all (· ≤ reachBytes) = true := hsz0
  have hW' := hW
  obtain ⟨p, q, hA0, hV, rfl, hfz, hnd⟩ := hW
  have hA : DataW.TrodAll enc Try.prog W 0 (fun _ => true) true Try.f6.params.toList args.toList ds p := hA0
  rw [Try.params6] at hA hval hsz
  obtain ⟨v0, vs0, d0, ds0, p0, q0, hargs, rfl, rfl, h0, r0⟩ := trodAll_cons hA
  obtain ⟨v1, vs1, d1, ds1, p1, q1, rfl, rfl, rfl, h1, r1⟩ := trodAll_cons r0
  obtain ⟨v2, vs2, d2, ds2, p2, q2, rfl, rfl, rfl, h2, r2⟩ := trodAll_cons r1
  obtain ⟨v3, vs3, d3, ds3, p3, q3, rfl, rfl, rfl, h3, r3⟩ := trodAll_cons r2
  obtain ⟨rfl, rfl, rfl⟩ := trodAll_nil r3
  obtain rfl : args = #[v0, v1, v2, v3] := by cases args; simp_all
  obtain ⟨rfl, rfl⟩ := trodVars_none hV
  have k0 := h0
  have lt0 := trod_places h0
  obtain ⟨a1, rfl, rfl, rfl, w1⟩ := open_int Try.underlying5 (hval 1 5 v1 rfl rfl) h1
  obtain ⟨a2, rfl, rfl, rfl, w2⟩ := open_int Try.underlying3 (hval 2 3 v2 rfl rfl) h2
  obtain ⟨a3, rfl, rfl, rfl, w3⟩ := open_int Try.underlying52 (hval 3 52 v3 rfl rfl) h3
  obtain ⟨m0, w0⟩ := op_acs (hval 0 51 v0 rfl rfl) h0
  clear hA0 hval0 hsz0 hsz
  refine (walk v0 m0 a1 a2 a3 W w0 w1 w2 w3).mono fun e W' ⟨he, bel⟩ => ?_
  subst he
  exact ⟨_, rfl, _, _, _, [], _, [], hW', trodAll_mk1 (shut_bool Try.underlying4 _), (trodAll_cons_mk (Below.trod laidOut (by kernel_rfl) (of_decide_eq_true (by kernel_rfl)) k0 bel lt0) (trodAll_cons_mk (shut_int Try.underlying5 w1) (trodAll_cons_mk (shut_int Try.underlying3 w2) (trodAll_cons_mk (shut_int Try.underlying52 w3) trodAll_mk0)))), rfl, bel.frame _, fun h => by cases h⟩

theorem over : Rows.txnAgainRow.holds Try.pinned (OpenSpec.ofChange Rows.txnAgainSpec) :=
  OpenClaim.holds_of_wide 6 Try.f6 rfl rfl rfl rfl rfl rfl rfl ⟨rfl, rfl, rfl, rfl, rfl⟩ rfl rfl rfl rfl rfl (by kernel_rfl) Try.func6 (by kernel_rfl)
    (of_decide_eq_true (by kernel_rfl)) (by unfold Func.isWrapper; first | (rw [if_pos (by decide +kernel)]; kernel_rfl) | (rw [if_neg (by decide +kernel)]; exact ⟨rfl, rfl⟩))
    (fun os started H enc _ => lifted os started H enc)

/-- THE STATEMENT. -/
theorem proved : Rows.TxnAgainSaid := over
end Go.Proofs.Ytohdmmfmjadipaa.txnAgain
namespace Go.Proofs.Ytohdmmfmjadipaa
theorem txnAgain_proved : Rows.TxnAgainSaid := txnAgain.proved
end Go.Proofs.Ytohdmmfmjadipaa
