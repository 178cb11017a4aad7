/-
  A Write that is cut off and mended is done as a whole, if a sector of its place was written, else not at all. StoreCut returns true for every input, and its arguments read as before.
  Condition: none but those that the form of every such statement bears by itself (each string within the reach).
-/
import Derived.OpenShut
import Derived.Test.YtmoagpedkgjkoaaRows
import Derived.ProofKit
import Derived.ShutString
import Derived.SizedLaws
import Derived.JoinedCond
import Derived.Test.YtmoagpedkgjkoaaK02

/-
  The walk of StoreCut: it returns true, and turns nothing that was there.
-/
namespace Go.Proofs.Ytmoagpedkgjkoaa.storeCut
open Go.RowKit
set_option linter.unusedVariables false

theorem n32 : npg 32 = 32 := by decide
/-- What lies there in the end. -/
def fin (mask : Int) (p : Pg) : Pg := if 3 < mask then p else Pg.zero
theorem fin_right (mask : Int) (p : Pg) (h : p.right) : (fin mask p).right := by
  unfold fin
  split
  · exact h
  · exact zero_right
/-- The page i, cut off or not, while only the node n is out. -/
structure Inv (n i : Nat) (p : Pg) (mask : Int) (s : Sc) (old : Nat → Pg) (tr : Nat → Option (Pg × Bool)) : Prop where
  n32 : s.n = 32
  out : ∀ m, m ≠ n → s.out m = false
  at_ : (∃ b, 3 < mask ∧ tr i = some (p, b)) ∨ (tr i = none ∧ old i = fin mask p)
theorem Inv.mend {n i : Nat} {p : Pg} {mask : Int} {s : Sc} {old old' : Nat → Pg} {tr tr' : Nat → Option (Pg × Bool)} (h : Inv n i p mask s old tr) (hc : Came old old' tr tr') (mk : Int) : Inv n i p mask (s.mS (n : Int) mk) old' tr' := by
  refine ⟨by rw [Sc.mS_n]; exact h.n32, fun m hm => by rw [Sc.mS_other _ _ _ _ (by simpa using hm)]; exact h.out m hm, ?_⟩
  rcases hc i with ⟨h1, h2⟩ | ⟨b, h1, h2⟩
  · rw [h1, h2]
    exact h.at_
  · rcases h.at_ with ⟨b', h3, h4⟩ | ⟨h4, _⟩
    · rw [h1] at h4
      injection h4 with h4
      injection h4 with h4 _
      exact .inr ⟨h2, by unfold fin; rw [if_pos h3, h4]⟩
    · rw [h1] at h4
      cases h4
section
variable (n i : Nat) (p : Pg) (mask : Int) (hn : n < 8) (hi : i < 32) (hm : maskOk mask) (h15 : mask ≠ 15) (hp : p.right) (hl : 0 < p.l)
theorem new_free2 (k nd i : Nat) : ∀ m, m < 8 → (Sc.new k).out m = true → m ≠ nd ∧ (Sc.new k).id m ≠ (i : Int) := fun m _ h => absurd h (by show ¬ false = true; decide)
include hn hi hm h15 hp hl in
theorem cut_first : (Sc.new 32).wE n i p mask = 9 ∧ ((Sc.new 32).wS n i p mask).out n = true ∧ ((Sc.new 32).wS n i p mask).id n = (i : Int) ∧ Inv n i p mask ((Sc.new 32).wS n i p mask) (wO (Sc.new 32) (fun _ => Pg.zero) n i p mask) (wT (Sc.new 32) (fun _ => none) n i p mask) ∧ (∀ k, wO (Sc.new 32) (fun _ => Pg.zero) n i p mask k = Pg.zero) ∧ (∀ k, k ≠ i → wT (Sc.new 32) (fun _ => none) n i p mask k = none) := by
  have e9 : (Sc.new 32).wE n i p mask = 9 := by
    rw [wE_new (Sc.new 32) (fun _ => Pg.zero) (fun _ => none) (Sc.new_ok 32 (by omega)) n i p mask hn hi hm hp (new_free2 32 n i) rfl hl, if_neg h15]
  have eS : (Sc.new 32).wS n i p mask = (Sc.new 32).wGo n i p mask.toNat := by
    unfold Sc.wS
    rw [if_pos (.inr e9), Int.toNat_natCast, Int.toNat_natCast]
  have h15' : mask.toNat ≠ 15 := by omega
  have eO : wO (Sc.new 32) (fun _ => Pg.zero) n i p mask = fun _ => Pg.zero := by
    unfold wO
    rw [if_pos (.inr e9)]
    unfold wOld
    rw [if_neg h15]
  have eT : wT (Sc.new 32) (fun _ => none) n i p mask = wTr (fun _ => none) i p mask := by
    unfold wT
    rw [if_pos (.inr e9), Int.toNat_natCast]
  rw [eS, eO, eT]
  have eo : ((Sc.new 32).wGo n i p mask.toNat).out = put1 (fun _ => false) n true := if_neg h15'
  have ei : ((Sc.new 32).wGo n i p mask.toNat).id = put1 (fun _ => 0) n (i : Int) := if_neg h15'
  refine ⟨e9, by rw [eo, put1_same], by rw [ei, put1_same], ⟨rfl, fun m hmn => by rw [eo, put1_other _ _ _ _ hmn], ?_⟩, fun _ => rfl, fun k hk => ?_⟩
  · unfold wTr fin
    rcases hm with rfl | rfl | rfl | rfl | rfl | rfl | rfl
    · exact .inr ⟨rfl, rfl⟩
    · exact .inr ⟨rfl, rfl⟩
    · exact .inr ⟨rfl, rfl⟩
    · exact .inr ⟨rfl, rfl⟩
    · exact .inl ⟨false, by omega, by rw [if_pos rfl, put1_same]⟩
    · exact .inl ⟨true, by omega, by rw [if_neg (by omega), if_pos rfl, put1_same]⟩
    · exact absurd rfl h15
  · unfold wTr
    split
    · exact put1_other _ _ _ _ hk
    · split
      · exact put1_other _ _ _ _ hk
      · rfl
end
theorem later_right (p : Pg) (h : p.right) : (⟨4611686018427387904, p.u, p.s⟩ : Pg).right := ⟨by unfold maxP; exact Nat.le_refl _, h.2⟩
theorem load_ms {W x : World} {a : Option Addr} {len cap : Nat} {ms : List Int} (h : RowsIn i64A 0 1 W (.slice a len cap) ms) (p : Below W.heap.size W x) {j : Nat} (hj : j < ms.length) : ∃ b off, a = some ⟨b, off, none⟩ ∧ x.cell? ⟨b, off + j, none⟩ = some (.int .i64 (ms.getD j 0)) := by
  obtain ⟨a', cap', e, h2⟩ := h
  injection e with e1 e2 e3
  subst e1
  obtain ⟨b, off, h3, h4, h5⟩ := h2 (by omega)
  refine ⟨b, off, h3, ?_⟩
  have h6 := (rangeAt_below (h5 j hj) p h4) 0 (.int .i64 (ms.getD j 0)) rfl
  rw [Nat.mul_one, Nat.add_zero] at h6
  exact h6
/-- What is kept. -/
structure T (w : World) (gs n i : Nat) (p q : Pg) (mask : Int) (s : Sc) (old : Nat → Pg) (tr : Nat → Option (Pg × Bool)) (x : World) : Prop where
  k : K10 w x gs s old tr
  pa : PgAt x w.heap.size p
  qa : PgAt x (w.heap.size + 1) q
  inv : Inv n i p mask s old tr
theorem T.later {w x y : World} {gs n i : Nat} {p q : Pg} {mask : Int} {s : Sc} {old : Nat → Pg} {tr : Nat → Option (Pg × Bool)} (h : T w gs n i p q mask s old tr x) (hb : Below x.heap.size x y) : T w gs n i p q mask s old tr y := ⟨h.k.later hb, h.pa.below hb h.pa.lt, h.qa.below hb h.qa.lt, h.inv⟩
/-- Behind a Write that was refused. -/
theorem K10.refused {w x y : World} {gs : Nat} {s : Sc} {old : Nat → Pg} {tr : Nat → Option (Pg × Bool)} {node id : Int} {p : Pg} {mask : Int} (h : K10 w y gs (s.wS node id p mask) (wO s old node id p mask) (wT s tr node id p mask)) (hn : ¬ (s.wE node id p mask = 0 ∨ s.wE node id p mask = 9)) : K10 w y gs s old tr := by
  have e1 := Sc.wS_no hn
  have e2 : wO s old node id p mask = old := if_neg hn
  have e3 : wT s tr node id p mask = tr := if_neg hn
  rw [e1, e2, e3] at h
  exact h

set_option maxRecDepth 8000 in
set_option maxHeartbeats 12800000 in
theorem walk (a0 a1 a2 a3 : Int) (p q : Pg) (mask : Int) (v : Value) (ms : List Int) (w : World) (h0 : (Lit.int .u8 a0).wf = true) (h1 : (Lit.int .u8 a1).wf = true) (h2 : (Lit.int .u8 a2).wf = true) (h3 : (Lit.int .u8 a3).wf = true) (hpf : p.fits) (hqf : q.fits) (hmk : (Lit.int .i64 mask).wf = true) (hr : RowsIn i64A 0 1 w v ms) (hml : ms.length ≤ maxLen) (hf : ∀ c ∈ ms, (Lit.int .i64 c).wf = true) (hcap : ∀ a len cap, v = .slice a len cap → len ≤ cap) :
    Calls Try.prog 5 #[.int .u8 a0, .int .u8 a1, .int .u8 a2, .int .u8 a3, .agg (pgA p), .agg (pgA q), .int .i64 mask, v] w fun e w' => e = .returned (.bool true) ∧ Below w.heap.size w w' := by
  have b0 := bounds_u8 h0
  have b1 := bounds_u8 h1
  have b2 := bounds_u8 h2
  have b3 := bounds_u8 h3
  have HRI := hide hr
  obtain ⟨a, cap, rfl, -⟩ := hr
  have hcap := hcap _ _ _ rfl
  obtain ⟨ln, hln⟩ : ∃ ln, ln = ms.length := ⟨_, rfl⟩
  rw [← hln] at HRI hml hcap ⊢
  have HLN := hide hln
  have hml2 : ln ≤ 9223372036854775807 := by unfold maxLen at hml; omega
  have HF := hide (And.intro hpf hqf)
  have HP0 := hide (Pair.new w p q)
  clear hln hml hf h0 h1 h2 h3 hpf hqf hmk
  go_enter Try.func5, Try.ntmps5
  go_wp2_with fail
  refine gen_calls (fun x => Hid (Pair w w.heap.size (w.heap.size + 1) p q x)) HP0 ?_
  clear HP0
  intro w0 HP0
  refine (awake10 _).mono ?_
  rintro e w1 ⟨rfl, hb1⟩
  have HP1 := hide (HP0.out.later hb1)
  clear hb1 HP0
  go_wp2_with (refine wpList_load_page rfl _ rfl w.heap.size rfl p HP1.out.1 ?_)
  refine (rright_any p w1).mono ?_
  rintro e w2 ⟨rfl, hb2⟩
  have HP2 := hide (HP1.out.later hb2)
  clear hb2 HP1
  have cl := HP2.out.1.lsn
  by_cases hr : p.right
  · rw [decide_eq_true hr]
    by_cases hl : p.l = 0
    · have hl2 : ((p.l : Int) == 0) = true := by simp; omega
      go_wp2_with fail
      refine (awake10 _).mono ?_
      rintro e w3 ⟨rfl, hb3⟩
      have d3 := (HP2.out.later hb3).2.2.1
      clear hb3 HP2
      go_wp2
      go_ret
      exact ⟨rfl, d3⟩
    · have hl2 : ((p.l : Int) == 0) = false := by simp; omega
      have HM := hide (rmask10 mask w2)
      go_wp2_with fail
      refine HM.out.mono ?_
      rintro e w3 ⟨rfl, rfl⟩
      clear HM
      by_cases hm : maskOk mask
      · rw [decide_eq_true hm]
        by_cases h15 : mask = 15
        · have hm2 : (mask == 15) = true := by simpa using h15
          clear h15 hm
          go_wp2_with fail
          refine (awake10 _).mono ?_
          rintro e w3 ⟨rfl, hb3⟩
          have d3 := (HP2.out.later hb3).2.2.1
          clear hb3 HP2
          go_wp2
          go_ret
          exact ⟨rfl, d3⟩
        · have hm2 : (mask == 15) = false := by simpa using h15
          by_cases h100 : 100 < ln
          · have i0 : (100 : Int) < (ln : Int) := by omega
            clear hm h15
            go_wp2_with fail
            refine (awake10 _).mono ?_
            rintro e w3 ⟨rfl, hb3⟩
            have d3 := (HP2.out.later hb3).2.2.1
            clear hb3 HP2
            go_wp2
            go_ret
            exact ⟨rfl, d3⟩
          · have i0 : ¬ (100 : Int) < (ln : Int) := by omega
            obtain ⟨n, hn0⟩ := Int.eq_ofNat_of_zero_le (show 0 ≤ a0 % 8 by omega)
            have hn1 : a0 % 8 = (n : Int) := hn0
            have hn8 : n < 8 := by omega
            have tn : Int.tmod a0 8 = (n : Int) := by rw [Int.tmod_eq_emod_of_nonneg b0.1]; exact hn1
            clear hn0 hn1
            obtain ⟨m, hm0⟩ := Int.eq_ofNat_of_zero_le (show 0 ≤ a1 % 8 by omega)
            have hm1 : a1 % 8 = (m : Int) := hm0
            have hm8 : m < 8 := by omega
            have tm : Int.tmod a1 8 = (m : Int) := by rw [Int.tmod_eq_emod_of_nonneg b1.1]; exact hm1
            clear hm0 hm1
            obtain ⟨i, hi0⟩ := Int.eq_ofNat_of_zero_le (show 0 ≤ a2 % 32 by omega)
            have hi1 : a2 % 32 = (i : Int) := hi0
            have hi8 : i < 32 := by omega
            have ti : Int.tmod a2 32 = (i : Int) := by rw [Int.tmod_eq_emod_of_nonneg b2.1]; exact hi1
            clear hi0 hi1
            obtain ⟨j, hj0⟩ := Int.eq_ofNat_of_zero_le (show 0 ≤ a3 % 32 by omega)
            have hj1 : a3 % 32 = (j : Int) := hj0
            have hj8 : j < 32 := by omega
            have tj : Int.tmod a3 32 = (j : Int) := by rw [Int.tmod_eq_emod_of_nonneg b3.1]; exact hj1
            clear hj0 hj1
            have hn := hn8
            have hi := hi8
            have hj := hj8
            have hlp : 0 < p.l := by omega
            obtain ⟨e9, o1, d1, v1, z1, r1⟩ := cut_first n i p mask hn hi hm h15 hr hlp
            have HC := hide (And.intro e9 (And.intro o1 (And.intro d1 (And.intro v1 (And.intro z1 r1)))))
            have HM := hide (And.intro hm h15)
            clear e9 o1 d1 v1 z1 r1 hm h15 hl hl2
            go_wp2_with fail
            refine (knew10 32 w w2 HP2.out.2.2.1).mono ?_
            rintro e w3 ⟨gs, rfl, h3, hb3⟩
            rw [n32] at h3
            have H3 := hide (And.intro h3 (HP2.out.later hb3))
            clear h3 hb3 HP2 cl
            go_wp2_with (refine wpList_load_page rfl _ rfl w.heap.size rfl p H3.out.2.1 ?_)
            refine (H3.out.1.write (n : Int) (i : Int) p mask).mono ?_
            rintro e w4 ⟨rfl, h4, hs4⟩
            rw [HC.out.1]
            have H4 := hide (show T w gs n i p q mask _ _ _ w4 from ⟨h4, hs4.page H3.out.2.1, hs4.page H3.out.2.2.1, HC.out.2.2.2.1⟩)
            have HO := hide HC.out.2.1
            have HD := hide HC.out.2.2.1
            have HZ := hide HC.out.2.2.2.2.1
            have HY := hide HC.out.2.2.2.2.2
            obtain ⟨s1, hs1⟩ : ∃ s1, (Sc.new 32).wS n i p mask = s1 := ⟨_, rfl⟩
            obtain ⟨old1, ho1⟩ : ∃ o, wO (Sc.new 32) (fun _ => Pg.zero) n i p mask = o := ⟨_, rfl⟩
            obtain ⟨tr1, ht1⟩ : ∃ o, wT (Sc.new 32) (fun _ => none) n i p mask = o := ⟨_, rfl⟩
            rw [hs1, ho1, ht1] at H4
            rw [hs1] at HO HD
            rw [ho1] at HZ
            rw [ht1] at HY
            clear h4 hs4 H3 HC hs1 ho1 ht1
            have hout := H4.out.k.out (n : Int)
            have ho2 : s1.outB (n : Int) = true := by
              unfold Sc.outB
              rw [decide_eq_true (by omega), Int.toNat_natCast, HO.out]
              rfl
            rw [ho2] at hout
            have HOut := hide hout
            clear hout ho2
            go_wp2_with fail
            refine HOut.out.mono ?_
            rintro e w5 ⟨rfl, rfl⟩
            clear HOut
            go_wp2_with (first | (refine wpList_load_page rfl _ rfl w.heap.size rfl p H4.out.pa ?_) | (refine wpList_store_page rfl _ _ rfl w4.heap.size Pg.zero p rfl rfl (heap_alloc_new w4 _) ?_; intro w6 hP6 hk6; refine stop10 ?_))
            have hb6 := hk6 _ _ ((Below.refl _ _).alloc (Nat.le_refl _) _) (Nat.le_refl _)
            obtain ⟨g6, hg6⟩ : ∃ g6, g6 = w4.heap.size := ⟨_, rfl⟩
            have H6 := hide (H4.out.later hb6)
            have hlow6 : w.heap.size + 1 < g6 := by have := H4.out.qa.lt; omega
            rw [← hg6] at hP6 ⊢
            obtain ⟨pl, hpl⟩ : ∃ pl : Pg, pl = ⟨4611686018427387904, p.u, p.s⟩ := ⟨_, rfl⟩
            have hplr : pl.right := by rw [hpl]; exact later_right p hr
            have hP7 : PgAt (w6.setCell ⟨g6, 0, none⟩ (.int .u64 4611686018427387904)) g6 pl := by
              have h7 := RowAt.set (show RowAt w6 g6 35 (pgA p) from hP6) 0 (.int .u64 4611686018427387904)
              rw [hpl]
              exact h7
            have H7 := hide (And.intro (show T w gs n i p q mask s1 old1 tr1 (w6.setCell ⟨g6, 0, none⟩ (.int .u64 4611686018427387904)) from ⟨H6.out.k.set (show RowAt w6 g6 35 (pgA p) from hP6) (by decide) (by decide) (by omega) 0 _, H6.out.pa.other _ _ (by show w.heap.size ≠ g6; omega), H6.out.qa.other _ _ (by show w.heap.size + 1 ≠ g6; omega), H6.out.inv⟩) hP7)
            have cs6 := hP6.lsn
            have fs6 := hP6.free 0
            have HPR := hide (And.intro hplr hr)
            clear hP6 hk6 hb6 hg6 H4 hP7 hpl hplr hr H6
            refine unstop10 ?_
            obtain ⟨w7, hw7⟩ : ∃ w7, w7 = w6.setCell ⟨g6, 0, none⟩ (.int .u64 4611686018427387904) := ⟨_, rfl⟩
            rw [← hw7] at H7
            have HW7 := hide hw7
            clear hw7
            go_wp2_with (rw [← HW7.out]; refine wpList_load_page rfl _ rfl g6 rfl pl H7.out.2 ?_)
            clear cs6 fs6 HW7
            have hbusy : s1.busy (i : Int) = true := (s1.busy_iff (i : Int)).2 ⟨n, hn, HO.out, HD.out⟩
            have e13 := s1.wE_out n j pl hn (by rw [H7.out.1.inv.n32]; exact hj) HPR.out.1 (.inl HO.out)
            have f13 := s1.wE_out m i pl hm8 (by rw [H7.out.1.inv.n32]; exact hi) HPR.out.1 (.inr hbusy)
            have HE13 := hide (And.intro e13 f13)
            clear e13 f13 hbusy
            refine (H7.out.1.k.write (n : Int) (j : Int) pl 15).mono ?_
            rintro e w8 ⟨rfl, h8, hs8⟩
            have h8' := K10.refused (x := w7) h8 (by rw [HE13.out.1]; omega)
            rw [HE13.out.1]
            have H8 := hide (And.intro (show T w gs n i p q mask s1 old1 tr1 w8 from ⟨h8', hs8.page H7.out.1.pa, hs8.page H7.out.1.qa, H7.out.1.inv⟩) (hs8.page H7.out.2))
            clear h8 h8' hs8 H7
            go_wp2_with (refine wpList_load_page rfl _ rfl g6 rfl pl H8.out.2 ?_)
            refine (H8.out.1.k.write (m : Int) (i : Int) pl 15).mono ?_
            rintro e w9 ⟨rfl, h9, hs9⟩
            have h9' := K10.refused (x := w8) h9 (by rw [HE13.out.2]; omega)
            rw [HE13.out.2]
            have H9 := hide (show T w gs n i p q mask s1 old1 tr1 w9 from ⟨h9', hs9.page H8.out.1.pa, hs9.page H8.out.1.qa, H8.out.1.inv⟩)
            clear h9 h9' hs9 H8 HE13
            by_cases hmn : m = n
            · have x1 : ((m : Int) != (n : Int)) = false := by simp; omega
              have x2 : ((m : Int) == (n : Int)) = true := by simp; omega
              clear hmn
              go_wp2_with fail
              go_loopw [151] (fun i' wr => ∃ k : Nat, k ≤ ln ∧ i' = .int .i64 (k : Int) ∧ ∃ s old tr, Hid (T w gs n i p q mask s old tr wr)) (fun i' _ => ln - (intOf i').toNat)
              case atStart => exact ⟨0, Nat.zero_le _, rfl, _, _, _, H9⟩
              case round =>
                obtain ⟨k, hk, rfl, s5, old5, tr5, HQ⟩ := hrel
                clear H9
                by_cases hkl : k < ln
                · have ik : (k : Int) < (ln : Int) := by omega
                  obtain ⟨b, off, rfl, cm⟩ := load_ms HRI.out HQ.out.k.bel (j := k) (by have := HLN.out; omega)
                  generalize ms.getD k 0 = mk at cm
                  go_wp2_with fail
                  refine (HQ.out.k.mend (n : Int) mk).mono ?_
                  rintro e w6 ⟨rfl, ⟨old6, tr6, h6, hc6⟩, hs6⟩
                  have H6 := hide (show T w gs n i p q mask (s5.mS (n : Int) mk) old6 tr6 w6 from ⟨h6, hs6.page HQ.out.pa, hs6.page HQ.out.qa, HQ.out.inv.mend hc6 mk⟩)
                  generalize s5.mE (n : Int) mk = er
                  clear h6 hc6 hs6 HQ cm
                  go_wp2
                  go_roundw
                  case rel => exact ⟨k + 1, by omega, by go_num, _, _, _, H6⟩
                  case measure => simp [intOf]; omega
                · obtain rfl : k = ln := by omega
                  have hma := s5.mend_all n hn (by rw [HQ.out.inv.n32]; omega)
                  go_wp2_with fail
                  refine (HQ.out.k.mend (n : Int) 3).mono ?_
                  rintro e w6 ⟨rfl, ⟨old6, tr6, h6, hc6⟩, hs6⟩
                  rw [hma.1]
                  have hi6 := HQ.out.inv.mend hc6 3
                  have hno : ∀ m', m' < 8 → (s5.mS (n : Int) 3).out m' = false := fun m' _ => by
                    by_cases e : m' = n
                    · rw [e]
                      exact hma.2.2.1
                    · exact hi6.out m' e
                  have ht6 := h6.ok.done hno i (by rw [hi6.n32]; exact hi)
                  have ho6 : old6 i = fin mask p := by
                    rcases hi6.at_ with ⟨b, _, h⟩ | ⟨_, h⟩
                    · rw [ht6] at h
                      cases h
                    · exact h
                  obtain ⟨s6, hs6'⟩ : ∃ s6, s5.mS (n : Int) 3 = s6 := ⟨_, rfl⟩
                  rw [hs6'] at h6 hi6 hno
                  have hob : s6.outB (n : Int) = false := by
                    unfold Sc.outB
                    rw [Int.toNat_natCast, hno n hn, Bool.and_false]
                  have hout := h6.out (n : Int)
                  rw [hob] at hout
                  have hrd := fun x (hb : Below w6.heap.size w6 x) => (h6.later hb).read i (by rw [hi6.n32]; exact hi) ht6
                  rw [ho6] at hrd
                  have HOut := hide hout
                  have HRd := hide hrd
                  have H6 := hide (And.intro h6.bel (hs6.page HQ.out.pa))
                  clear hma h6 hc6 hs6 hi6 hno ht6 ho6 hs6' hob hout hrd HQ
                  go_wp2_with fail
                  refine HOut.out.mono ?_
                  rintro e w7 ⟨rfl, rfl⟩
                  clear HOut
                  go_wp2_with (refine wpList_store_page rfl _ _ rfl w6.heap.size Pg.zero Pg.zero rfl rfl (heap_alloc_new w6 _) ?_; intro w8 hP8 hk8; refine stop10 ?_)
                  have hb8 := hk8 _ _ ((Below.refl _ _).alloc (Nat.le_refl _) _) (Nat.le_refl _)
                  obtain ⟨g8, hg8⟩ : ∃ g8, g8 = w6.heap.size := ⟨_, rfl⟩
                  have hlow8 : w.heap.size < g8 := by have := H6.out.2.lt; omega
                  have H8 := hide (And.intro (H6.out.1.trans (hb8.mono H6.out.1.size)) (And.intro (H6.out.2.below hb8 H6.out.2.lt) hP8))
                  have HB8 := hide hb8
                  rw [← hg8] at H8 ⊢
                  have HG8 := hide hg8
                  clear hP8 hk8 hb8 hg8 H6
                  have hfinr := fin_right mask p HPR.out.2
                  by_cases hm3 : 3 < mask
                  · have efin : fin mask p = p := if_pos hm3
                    rw [efin] at HRd
                    clear hfinr efin
                    refine unstop10 ?_
                    go_wp2_with (first | (refine wpList_load_page rfl _ rfl w.heap.size rfl p H8.out.2.1 ?_) | (refine wpList_store_page rfl _ _ rfl g8 Pg.zero p rfl rfl H8.out.2.2 ?_; intro w9 hP9 hk9; refine stop10 ?_))
                    have hb9 := hk9 _ _ HB8.out (by rw [HG8.out]; exact Nat.le_refl _)
                    have hb9' := hk9 _ _ H8.out.1 (by omega)
                    have H9 := hide (And.intro hb9' (And.intro hP9 hb9))
                    have HRd9 := hide (HRd.out w9 hb9)
                    clear hP9 hk9 hb9 hb9' H8 HRd
                    refine unstop10 ?_
                    go_wp2_with fail
                    refine HRd9.out.mono ?_
                    rintro e w10 ⟨rfl, hb10⟩
                    have H10 := hide (And.intro (H9.out.1.trans (hb10.mono H9.out.1.size)) (And.intro (H9.out.2.1.below hb10 H9.out.2.1.lt) hb10.size))
                    clear hb10 HRd9 H9
                    go_wp2_with (refine wpList_store_page rfl _ _ rfl w10.heap.size Pg.zero p rfl rfl (heap_alloc_new w10 _) ?_; intro w11 hP11 hk11; refine stop10 ?_)
                    have hb11 := hk11 _ _ ((Below.refl _ _).alloc (Nat.le_refl _) _) (Nat.le_refl _)
                    have H11 := hide (And.intro (H10.out.1.trans (hb11.mono H10.out.1.size)) (And.intro (H10.out.2.1.below hb11 H10.out.2.1.lt) hP11))
                    have heq := run_page_eql p p (HF.out.1) (HF.out.1) w11
                    rw [decide_eq_true (Pg.same.refl p)] at heq
                    clear hP11 hk11 hb11 H10
                    refine unstop10 ?_
                    go_wp2_with (first | (refine wpList_load_page rfl _ rfl w10.heap.size rfl p H11.out.2.2 ?_) | (refine wpList_load_page rfl _ rfl g8 rfl p H11.out.2.1 ?_) | (refine wpList_binop rfl .eql 35 _ _ _ rfl (.agg (pgA p)) (.agg (pgA p)) _ rfl rfl (page_guard _ _ _ p p _) heq ?_))
                    go_ret
                    exact ⟨rfl, H11.out.1⟩
                  · have efin : fin mask p = Pg.zero := if_neg hm3
                    rw [efin] at HRd
                    clear hfinr efin
                    have H9 := hide (And.intro H8.out.1 (And.intro H8.out.2.2 HB8.out))
                    have HRd9 := hide (HRd.out w8 HB8.out)
                    obtain ⟨w9, hw9⟩ : ∃ w9, w9 = w8 := ⟨_, rfl⟩
                    rw [← hw9] at H9 HRd9 ⊢
                    clear H8 HRd hw9
                    refine unstop10 ?_
                    go_wp2_with fail
                    refine HRd9.out.mono ?_
                    rintro e w10 ⟨rfl, hb10⟩
                    have H10 := hide (And.intro (H9.out.1.trans (hb10.mono H9.out.1.size)) (And.intro (H9.out.2.1.below hb10 H9.out.2.1.lt) hb10.size))
                    clear hb10 HRd9 H9
                    go_wp2_with (refine wpList_store_page rfl _ _ rfl w10.heap.size Pg.zero Pg.zero rfl rfl (heap_alloc_new w10 _) ?_; intro w11 hP11 hk11; refine stop10 ?_)
                    have hb11 := hk11 _ _ ((Below.refl _ _).alloc (Nat.le_refl _) _) (Nat.le_refl _)
                    have H11 := hide (And.intro (H10.out.1.trans (hb11.mono H10.out.1.size)) (And.intro (H10.out.2.1.below hb11 H10.out.2.1.lt) hP11))
                    have heq := run_page_eql Pg.zero Pg.zero (zero_right.fits) (zero_right.fits) w11
                    rw [decide_eq_true (Pg.same.refl Pg.zero)] at heq
                    clear hP11 hk11 hb11 H10
                    refine unstop10 ?_
                    go_wp2_with (first | (refine wpList_load_page rfl _ rfl w10.heap.size rfl Pg.zero H11.out.2.2 ?_) | (refine wpList_load_page rfl _ rfl g8 rfl Pg.zero H11.out.2.1 ?_) | (refine wpList_binop rfl .eql 35 _ _ _ rfl (.agg (pgA Pg.zero)) (.agg (pgA Pg.zero)) _ rfl rfl (page_guard _ _ _ Pg.zero Pg.zero _) heq ?_))
                    go_ret
                    exact ⟨rfl, H11.out.1⟩
            · have x1 : ((m : Int) != (n : Int)) = true := by simp; omega
              have x2 : ((m : Int) == (n : Int)) = false := by simp; omega
              by_cases hji : j = i
              · have x3 : ((j : Int) != (i : Int)) = false := by simp; omega
                have x4 : ((j : Int) == (i : Int)) = true := by simp; omega
                clear hmn hji
                go_wp2_with fail
                go_loopw [151] (fun i' wr => ∃ k : Nat, k ≤ ln ∧ i' = .int .i64 (k : Int) ∧ ∃ s old tr, Hid (T w gs n i p q mask s old tr wr)) (fun i' _ => ln - (intOf i').toNat)
                case atStart => exact ⟨0, Nat.zero_le _, rfl, _, _, _, H9⟩
                case round =>
                  obtain ⟨k, hk, rfl, s5, old5, tr5, HQ⟩ := hrel
                  clear H9
                  by_cases hkl : k < ln
                  · have ik : (k : Int) < (ln : Int) := by omega
                    obtain ⟨b, off, rfl, cm⟩ := load_ms HRI.out HQ.out.k.bel (j := k) (by have := HLN.out; omega)
                    generalize ms.getD k 0 = mk at cm
                    go_wp2_with fail
                    refine (HQ.out.k.mend (n : Int) mk).mono ?_
                    rintro e w6 ⟨rfl, ⟨old6, tr6, h6, hc6⟩, hs6⟩
                    have H6 := hide (show T w gs n i p q mask (s5.mS (n : Int) mk) old6 tr6 w6 from ⟨h6, hs6.page HQ.out.pa, hs6.page HQ.out.qa, HQ.out.inv.mend hc6 mk⟩)
                    generalize s5.mE (n : Int) mk = er
                    clear h6 hc6 hs6 HQ cm
                    go_wp2
                    go_roundw
                    case rel => exact ⟨k + 1, by omega, by go_num, _, _, _, H6⟩
                    case measure => simp [intOf]; omega
                  · obtain rfl : k = ln := by omega
                    have hma := s5.mend_all n hn (by rw [HQ.out.inv.n32]; omega)
                    go_wp2_with fail
                    refine (HQ.out.k.mend (n : Int) 3).mono ?_
                    rintro e w6 ⟨rfl, ⟨old6, tr6, h6, hc6⟩, hs6⟩
                    rw [hma.1]
                    have hi6 := HQ.out.inv.mend hc6 3
                    have hno : ∀ m', m' < 8 → (s5.mS (n : Int) 3).out m' = false := fun m' _ => by
                      by_cases e : m' = n
                      · rw [e]
                        exact hma.2.2.1
                      · exact hi6.out m' e
                    have ht6 := h6.ok.done hno i (by rw [hi6.n32]; exact hi)
                    have ho6 : old6 i = fin mask p := by
                      rcases hi6.at_ with ⟨b, _, h⟩ | ⟨_, h⟩
                      · rw [ht6] at h
                        cases h
                      · exact h
                    obtain ⟨s6, hs6'⟩ : ∃ s6, s5.mS (n : Int) 3 = s6 := ⟨_, rfl⟩
                    rw [hs6'] at h6 hi6 hno
                    have hob : s6.outB (n : Int) = false := by
                      unfold Sc.outB
                      rw [Int.toNat_natCast, hno n hn, Bool.and_false]
                    have hout := h6.out (n : Int)
                    rw [hob] at hout
                    have hrd := fun x (hb : Below w6.heap.size w6 x) => (h6.later hb).read i (by rw [hi6.n32]; exact hi) ht6
                    rw [ho6] at hrd
                    have HOut := hide hout
                    have HRd := hide hrd
                    have H6 := hide (And.intro h6.bel (hs6.page HQ.out.pa))
                    clear hma h6 hc6 hs6 hi6 hno ht6 ho6 hs6' hob hout hrd HQ
                    go_wp2_with fail
                    refine HOut.out.mono ?_
                    rintro e w7 ⟨rfl, rfl⟩
                    clear HOut
                    go_wp2_with (refine wpList_store_page rfl _ _ rfl w6.heap.size Pg.zero Pg.zero rfl rfl (heap_alloc_new w6 _) ?_; intro w8 hP8 hk8; refine stop10 ?_)
                    have hb8 := hk8 _ _ ((Below.refl _ _).alloc (Nat.le_refl _) _) (Nat.le_refl _)
                    obtain ⟨g8, hg8⟩ : ∃ g8, g8 = w6.heap.size := ⟨_, rfl⟩
                    have hlow8 : w.heap.size < g8 := by have := H6.out.2.lt; omega
                    have H8 := hide (And.intro (H6.out.1.trans (hb8.mono H6.out.1.size)) (And.intro (H6.out.2.below hb8 H6.out.2.lt) hP8))
                    have HB8 := hide hb8
                    rw [← hg8] at H8 ⊢
                    have HG8 := hide hg8
                    clear hP8 hk8 hb8 hg8 H6
                    have hfinr := fin_right mask p HPR.out.2
                    by_cases hm3 : 3 < mask
                    · have efin : fin mask p = p := if_pos hm3
                      rw [efin] at HRd
                      clear hfinr efin
                      refine unstop10 ?_
                      go_wp2_with (first | (refine wpList_load_page rfl _ rfl w.heap.size rfl p H8.out.2.1 ?_) | (refine wpList_store_page rfl _ _ rfl g8 Pg.zero p rfl rfl H8.out.2.2 ?_; intro w9 hP9 hk9; refine stop10 ?_))
                      have hb9 := hk9 _ _ HB8.out (by rw [HG8.out]; exact Nat.le_refl _)
                      have hb9' := hk9 _ _ H8.out.1 (by omega)
                      have H9 := hide (And.intro hb9' (And.intro hP9 hb9))
                      have HRd9 := hide (HRd.out w9 hb9)
                      clear hP9 hk9 hb9 hb9' H8 HRd
                      refine unstop10 ?_
                      go_wp2_with fail
                      refine HRd9.out.mono ?_
                      rintro e w10 ⟨rfl, hb10⟩
                      have H10 := hide (And.intro (H9.out.1.trans (hb10.mono H9.out.1.size)) (And.intro (H9.out.2.1.below hb10 H9.out.2.1.lt) hb10.size))
                      clear hb10 HRd9 H9
                      go_wp2_with (refine wpList_store_page rfl _ _ rfl w10.heap.size Pg.zero p rfl rfl (heap_alloc_new w10 _) ?_; intro w11 hP11 hk11; refine stop10 ?_)
                      have hb11 := hk11 _ _ ((Below.refl _ _).alloc (Nat.le_refl _) _) (Nat.le_refl _)
                      have H11 := hide (And.intro (H10.out.1.trans (hb11.mono H10.out.1.size)) (And.intro (H10.out.2.1.below hb11 H10.out.2.1.lt) hP11))
                      have heq := run_page_eql p p (HF.out.1) (HF.out.1) w11
                      rw [decide_eq_true (Pg.same.refl p)] at heq
                      clear hP11 hk11 hb11 H10
                      refine unstop10 ?_
                      go_wp2_with (first | (refine wpList_load_page rfl _ rfl w10.heap.size rfl p H11.out.2.2 ?_) | (refine wpList_load_page rfl _ rfl g8 rfl p H11.out.2.1 ?_) | (refine wpList_binop rfl .eql 35 _ _ _ rfl (.agg (pgA p)) (.agg (pgA p)) _ rfl rfl (page_guard _ _ _ p p _) heq ?_))
                      go_ret
                      exact ⟨rfl, H11.out.1⟩
                    · have efin : fin mask p = Pg.zero := if_neg hm3
                      rw [efin] at HRd
                      clear hfinr efin
                      have H9 := hide (And.intro H8.out.1 (And.intro H8.out.2.2 HB8.out))
                      have HRd9 := hide (HRd.out w8 HB8.out)
                      obtain ⟨w9, hw9⟩ : ∃ w9, w9 = w8 := ⟨_, rfl⟩
                      rw [← hw9] at H9 HRd9 ⊢
                      clear H8 HRd hw9
                      refine unstop10 ?_
                      go_wp2_with fail
                      refine HRd9.out.mono ?_
                      rintro e w10 ⟨rfl, hb10⟩
                      have H10 := hide (And.intro (H9.out.1.trans (hb10.mono H9.out.1.size)) (And.intro (H9.out.2.1.below hb10 H9.out.2.1.lt) hb10.size))
                      clear hb10 HRd9 H9
                      go_wp2_with (refine wpList_store_page rfl _ _ rfl w10.heap.size Pg.zero Pg.zero rfl rfl (heap_alloc_new w10 _) ?_; intro w11 hP11 hk11; refine stop10 ?_)
                      have hb11 := hk11 _ _ ((Below.refl _ _).alloc (Nat.le_refl _) _) (Nat.le_refl _)
                      have H11 := hide (And.intro (H10.out.1.trans (hb11.mono H10.out.1.size)) (And.intro (H10.out.2.1.below hb11 H10.out.2.1.lt) hP11))
                      have heq := run_page_eql Pg.zero Pg.zero (zero_right.fits) (zero_right.fits) w11
                      rw [decide_eq_true (Pg.same.refl Pg.zero)] at heq
                      clear hP11 hk11 hb11 H10
                      refine unstop10 ?_
                      go_wp2_with (first | (refine wpList_load_page rfl _ rfl w10.heap.size rfl Pg.zero H11.out.2.2 ?_) | (refine wpList_load_page rfl _ rfl g8 rfl Pg.zero H11.out.2.1 ?_) | (refine wpList_binop rfl .eql 35 _ _ _ rfl (.agg (pgA Pg.zero)) (.agg (pgA Pg.zero)) _ rfl rfl (page_guard _ _ _ Pg.zero Pg.zero _) heq ?_))
                      go_ret
                      exact ⟨rfl, H11.out.1⟩
              · have x3 : ((j : Int) != (i : Int)) = true := by simp; omega
                have x4 : ((j : Int) == (i : Int)) = false := by simp; omega
                go_wp2_with (refine wpList_load_page rfl _ rfl (w.heap.size + 1) rfl q H9.out.qa ?_)
                refine (rright_any q w9).mono ?_
                rintro e w10 ⟨rfl, hb10⟩
                have H10 := hide (H9.out.later hb10)
                clear hb10 H9
                have cq := H10.out.qa.lsn
                by_cases hgood : q.right ∧ 0 < q.l
                · have e0 : s1.wE m j q 15 = 0 := by
                    rw [wE_new s1 old1 tr1 H10.out.k.ok m j q 15 hm8 (by rw [H10.out.inv.n32]; exact hj) (by omega) hgood.1 (fun m' _ ho => by
                      have : m' = n := Classical.byContradiction fun e => by rw [H10.out.inv.out m' e] at ho; cases ho
                      subst this
                      exact ⟨fun e => hmn e.symm, by rw [HD.out]; omega⟩) (HY.out j hji) (by rw [HZ.out]; exact hgood.2), if_pos rfl]
                  have hql : (0 : Int) < (q.l : Int) := by omega
                  rw [decide_eq_true hgood.1]
                  go_wp2_with (refine wpList_load_page rfl _ rfl (w.heap.size + 1) rfl q H10.out.qa ?_)
                  refine (H10.out.k.write (m : Int) (j : Int) q 15).mono ?_
                  rintro e w11 ⟨rfl, h11, hs11⟩
                  have eO : wO s1 old1 m j q 15 = put1 old1 j q := by
                    unfold wO
                    rw [if_pos (.inl e0)]
                    unfold wOld
                    rw [if_pos rfl, Int.toNat_natCast]
                  have eT : wT s1 tr1 m j q 15 = tr1 := by
                    unfold wT
                    rw [if_pos (.inl e0)]
                    rfl
                  have eU := s1.wS_out15 m j q
                  have eN := s1.wS_n m j q 15
                  rw [eO, eT] at h11
                  rw [e0]
                  generalize s1.wS m j q 15 = s2 at h11 eU eN
                  have H11 := hide (show T w gs n i p q mask s2 (put1 old1 j q) tr1 w11 from ⟨h11, hs11.page H10.out.pa, hs11.page H10.out.qa, ⟨eN.trans H10.out.inv.n32, fun m' hm' => by rw [eU]; exact H10.out.inv.out m' hm', by rw [put1_other _ _ _ _ (fun e => hji e.symm)]; exact H10.out.inv.at_⟩⟩)
                  have hrd := h11.read j (by rw [eN, H10.out.inv.n32]; exact hj) (HY.out j hji)
                  rw [put1_same] at hrd
                  have HRq := hide hrd
                  clear h11 hs11 eO eT eU eN e0 hrd H10 hgood hmn hji x1 x2 x3 x4
                  go_wp2_with fail
                  refine HRq.out.mono ?_
                  rintro e w12 ⟨rfl, hb12⟩
                  have H12 := hide (H11.out.later hb12)
                  clear hb12 H11 HRq
                  go_wp2_with (refine wpList_store_page rfl _ _ rfl w12.heap.size Pg.zero q rfl rfl (heap_alloc_new w12 _) ?_; intro w13 hP13 hk13; refine stop10 ?_)
                  have hb13 := hk13 _ _ ((Below.refl _ _).alloc (Nat.le_refl _) _) (Nat.le_refl _)
                  have H13 := hide (And.intro (H12.out.later hb13) hP13)
                  obtain ⟨g13, hg13⟩ : ∃ g13, g13 = w12.heap.size := ⟨_, rfl⟩
                  rw [← hg13] at H13 ⊢
                  have hne0 := run_page_neq q q HF.out.2 HF.out.2 w13
                  rw [decide_eq_true (Pg.same.refl q)] at hne0
                  have hne : (binOp .neq 35 (.agg (pgA q)) (.agg (pgA q))).run Try.prog w13 = .ok (.bool false) w13 := hne0
                  have HNE := hide hne
                  clear hP13 hk13 hb13 hg13 H12 hne0 hne cq
                  refine unstop10 ?_
                  refine lst_val (some 25) (.int .i64 0) rfl rfl (by go_simp) ?_
                  try simp only [Act.put, List.setIfInBounds_toArray, List.set_cons_zero, List.set_cons_succ]
                  refine lst_nil ?_
                  rename_i hK
                  refine hK _ _ ?_
                  clear hK
                  refine wp_seq ?_
                  refine wp_region_lit ?_
                  refine lst_val (some 130) (.int .i64 0) rfl rfl (by go_simp) ?_
                  try simp only [Act.put, List.setIfInBounds_toArray, List.set_cons_zero, List.set_cons_succ]
                  refine lst_val (some 131) (.bool false) rfl rfl (by go_simp) ?_
                  try simp only [Act.put, List.setIfInBounds_toArray, List.set_cons_zero, List.set_cons_succ]
                  refine lst_val (some 132) (.bool false) rfl rfl (by go_simp) ?_
                  try simp only [Act.put, List.setIfInBounds_toArray, List.set_cons_zero, List.set_cons_succ]
                  refine lst_val (some 133) (.bool true) rfl rfl (by go_simp) ?_
                  try simp only [Act.put, List.setIfInBounds_toArray, List.set_cons_zero, List.set_cons_succ]
                  refine lst_val (some 134) (.bool true) rfl rfl (by go_simp) ?_
                  try simp only [Act.put, List.setIfInBounds_toArray, List.set_cons_zero, List.set_cons_succ]
                  refine lst_load (some 135) (.agg (pgA q)) rfl rfl 35 _ rfl (.pointer (some ⟨g13, 0, none⟩)) rfl (load_page w13 H13.out.2) ?_
                  try simp only [Act.put, List.setIfInBounds_toArray, List.set_cons_zero, List.set_cons_succ]
                  refine lst_load (some 136) (.agg (pgA q)) rfl rfl 35 _ rfl (.pointer (some ⟨w.heap.size + 1, 0, none⟩)) rfl (load_page w13 H13.out.1.qa) ?_
                  try simp only [Act.put, List.setIfInBounds_toArray, List.set_cons_zero, List.set_cons_succ]
                  refine lst_bin (some 137) (.bool false) rfl rfl .neq 35 _ _ _ rfl (.agg (pgA q)) (.agg (pgA q)) rfl rfl (page_guard _ _ _ q q _) (HNE.out) ?_
                  try simp only [Act.put, List.setIfInBounds_toArray, List.set_cons_zero, List.set_cons_succ]
                  refine lst_val (some 138) (.bool false) rfl rfl (by go_simp) ?_
                  try simp only [Act.put, List.setIfInBounds_toArray, List.set_cons_zero, List.set_cons_succ]
                  refine lst_val (some 139) (.bool false) rfl rfl (by go_simp) ?_
                  try simp only [Act.put, List.setIfInBounds_toArray, List.set_cons_zero, List.set_cons_succ]
                  refine lst_val (some 140) (.bool false) rfl rfl (by go_simp) ?_
                  try simp only [Act.put, List.setIfInBounds_toArray, List.set_cons_zero, List.set_cons_succ]
                  refine lst_val (some 141) (.bool true) rfl rfl (by go_simp) ?_
                  try simp only [Act.put, List.setIfInBounds_toArray, List.set_cons_zero, List.set_cons_succ]
                  refine lst_val (some 142) (.bool false) rfl rfl (by go_simp) ?_
                  try simp only [Act.put, List.setIfInBounds_toArray, List.set_cons_zero, List.set_cons_succ]
                  refine lst_val (some 143) (.bool false) rfl rfl (by go_simp) ?_
                  try simp only [Act.put, List.setIfInBounds_toArray, List.set_cons_zero, List.set_cons_succ]
                  refine lst_skip (some 144) rfl rfl ?_
                  try simp only [Act.put, List.setIfInBounds_toArray, List.set_cons_zero, List.set_cons_succ]
                  refine lst_skip (some 145) rfl rfl ?_
                  try simp only [Act.put, List.setIfInBounds_toArray, List.set_cons_zero, List.set_cons_succ]
                  refine lst_skip (some 146) rfl rfl ?_
                  try simp only [Act.put, List.setIfInBounds_toArray, List.set_cons_zero, List.set_cons_succ]
                  refine lst_val (some 147) (.bool false) rfl rfl (by go_simp) ?_
                  try simp only [Act.put, List.setIfInBounds_toArray, List.set_cons_zero, List.set_cons_succ]
                  refine lst_val (some 148) (.bool false) rfl rfl (by go_simp) ?_
                  try simp only [Act.put, List.setIfInBounds_toArray, List.set_cons_zero, List.set_cons_succ]
                  have H14 := hide H13.out.1
                  clear H13 HNE
                  go_wp2_with fail
                  go_loopw [151] (fun i' wr => ∃ k : Nat, k ≤ ln ∧ i' = .int .i64 (k : Int) ∧ ∃ s old tr, Hid (T w gs n i p q mask s old tr wr)) (fun i' _ => ln - (intOf i').toNat)
                  case atStart => exact ⟨0, Nat.zero_le _, rfl, _, _, _, H14⟩
                  case round =>
                    obtain ⟨k, hk, rfl, s5, old5, tr5, HQ⟩ := hrel
                    clear H14
                    by_cases hkl : k < ln
                    · have ik : (k : Int) < (ln : Int) := by omega
                      obtain ⟨b, off, rfl, cm⟩ := load_ms HRI.out HQ.out.k.bel (j := k) (by have := HLN.out; omega)
                      generalize ms.getD k 0 = mk at cm
                      go_wp2_with fail
                      refine (HQ.out.k.mend (n : Int) mk).mono ?_
                      rintro e w6 ⟨rfl, ⟨old6, tr6, h6, hc6⟩, hs6⟩
                      have H6 := hide (show T w gs n i p q mask (s5.mS (n : Int) mk) old6 tr6 w6 from ⟨h6, hs6.page HQ.out.pa, hs6.page HQ.out.qa, HQ.out.inv.mend hc6 mk⟩)
                      generalize s5.mE (n : Int) mk = er
                      clear h6 hc6 hs6 HQ cm
                      go_wp2
                      go_roundw
                      case rel => exact ⟨k + 1, by omega, by go_num, _, _, _, H6⟩
                      case measure => simp [intOf]; omega
                    · obtain rfl : k = ln := by omega
                      have hma := s5.mend_all n hn (by rw [HQ.out.inv.n32]; omega)
                      go_wp2_with fail
                      refine (HQ.out.k.mend (n : Int) 3).mono ?_
                      rintro e w6 ⟨rfl, ⟨old6, tr6, h6, hc6⟩, hs6⟩
                      rw [hma.1]
                      have hi6 := HQ.out.inv.mend hc6 3
                      have hno : ∀ m', m' < 8 → (s5.mS (n : Int) 3).out m' = false := fun m' _ => by
                        by_cases e : m' = n
                        · rw [e]
                          exact hma.2.2.1
                        · exact hi6.out m' e
                      have ht6 := h6.ok.done hno i (by rw [hi6.n32]; exact hi)
                      have ho6 : old6 i = fin mask p := by
                        rcases hi6.at_ with ⟨b, _, h⟩ | ⟨_, h⟩
                        · rw [ht6] at h
                          cases h
                        · exact h
                      obtain ⟨s6, hs6'⟩ : ∃ s6, s5.mS (n : Int) 3 = s6 := ⟨_, rfl⟩
                      rw [hs6'] at h6 hi6 hno
                      have hob : s6.outB (n : Int) = false := by
                        unfold Sc.outB
                        rw [Int.toNat_natCast, hno n hn, Bool.and_false]
                      have hout := h6.out (n : Int)
                      rw [hob] at hout
                      have hrd := fun x (hb : Below w6.heap.size w6 x) => (h6.later hb).read i (by rw [hi6.n32]; exact hi) ht6
                      rw [ho6] at hrd
                      have HOut := hide hout
                      have HRd := hide hrd
                      have H6 := hide (And.intro h6.bel (hs6.page HQ.out.pa))
                      clear hma h6 hc6 hs6 hi6 hno ht6 ho6 hs6' hob hout hrd HQ
                      go_wp2_with fail
                      refine HOut.out.mono ?_
                      rintro e w7 ⟨rfl, rfl⟩
                      clear HOut
                      go_wp2_with (refine wpList_store_page rfl _ _ rfl w6.heap.size Pg.zero Pg.zero rfl rfl (heap_alloc_new w6 _) ?_; intro w8 hP8 hk8; refine stop10 ?_)
                      have hb8 := hk8 _ _ ((Below.refl _ _).alloc (Nat.le_refl _) _) (Nat.le_refl _)
                      obtain ⟨g8, hg8⟩ : ∃ g8, g8 = w6.heap.size := ⟨_, rfl⟩
                      have hlow8 : w.heap.size < g8 := by have := H6.out.2.lt; omega
                      have H8 := hide (And.intro (H6.out.1.trans (hb8.mono H6.out.1.size)) (And.intro (H6.out.2.below hb8 H6.out.2.lt) hP8))
                      have HB8 := hide hb8
                      rw [← hg8] at H8 ⊢
                      have HG8 := hide hg8
                      clear hP8 hk8 hb8 hg8 H6
                      have hfinr := fin_right mask p HPR.out.2
                      by_cases hm3 : 3 < mask
                      · have efin : fin mask p = p := if_pos hm3
                        rw [efin] at HRd
                        clear hfinr efin
                        refine unstop10 ?_
                        go_wp2_with (first | (refine wpList_load_page rfl _ rfl w.heap.size rfl p H8.out.2.1 ?_) | (refine wpList_store_page rfl _ _ rfl g8 Pg.zero p rfl rfl H8.out.2.2 ?_; intro w9 hP9 hk9; refine stop10 ?_))
                        have hb9 := hk9 _ _ HB8.out (by rw [HG8.out]; exact Nat.le_refl _)
                        have hb9' := hk9 _ _ H8.out.1 (by omega)
                        have H9 := hide (And.intro hb9' (And.intro hP9 hb9))
                        have HRd9 := hide (HRd.out w9 hb9)
                        clear hP9 hk9 hb9 hb9' H8 HRd
                        refine unstop10 ?_
                        go_wp2_with fail
                        refine HRd9.out.mono ?_
                        rintro e w10 ⟨rfl, hb10⟩
                        have H10 := hide (And.intro (H9.out.1.trans (hb10.mono H9.out.1.size)) (And.intro (H9.out.2.1.below hb10 H9.out.2.1.lt) hb10.size))
                        clear hb10 HRd9 H9
                        go_wp2_with (refine wpList_store_page rfl _ _ rfl w10.heap.size Pg.zero p rfl rfl (heap_alloc_new w10 _) ?_; intro w11 hP11 hk11; refine stop10 ?_)
                        have hb11 := hk11 _ _ ((Below.refl _ _).alloc (Nat.le_refl _) _) (Nat.le_refl _)
                        have H11 := hide (And.intro (H10.out.1.trans (hb11.mono H10.out.1.size)) (And.intro (H10.out.2.1.below hb11 H10.out.2.1.lt) hP11))
                        have heq := run_page_eql p p (HF.out.1) (HF.out.1) w11
                        rw [decide_eq_true (Pg.same.refl p)] at heq
                        clear hP11 hk11 hb11 H10
                        refine unstop10 ?_
                        go_wp2_with (first | (refine wpList_load_page rfl _ rfl w10.heap.size rfl p H11.out.2.2 ?_) | (refine wpList_load_page rfl _ rfl g8 rfl p H11.out.2.1 ?_) | (refine wpList_binop rfl .eql 35 _ _ _ rfl (.agg (pgA p)) (.agg (pgA p)) _ rfl rfl (page_guard _ _ _ p p _) heq ?_))
                        go_ret
                        exact ⟨rfl, H11.out.1⟩
                      · have efin : fin mask p = Pg.zero := if_neg hm3
                        rw [efin] at HRd
                        clear hfinr efin
                        have H9 := hide (And.intro H8.out.1 (And.intro H8.out.2.2 HB8.out))
                        have HRd9 := hide (HRd.out w8 HB8.out)
                        obtain ⟨w9, hw9⟩ : ∃ w9, w9 = w8 := ⟨_, rfl⟩
                        rw [← hw9] at H9 HRd9 ⊢
                        clear H8 HRd hw9
                        refine unstop10 ?_
                        go_wp2_with fail
                        refine HRd9.out.mono ?_
                        rintro e w10 ⟨rfl, hb10⟩
                        have H10 := hide (And.intro (H9.out.1.trans (hb10.mono H9.out.1.size)) (And.intro (H9.out.2.1.below hb10 H9.out.2.1.lt) hb10.size))
                        clear hb10 HRd9 H9
                        go_wp2_with (refine wpList_store_page rfl _ _ rfl w10.heap.size Pg.zero Pg.zero rfl rfl (heap_alloc_new w10 _) ?_; intro w11 hP11 hk11; refine stop10 ?_)
                        have hb11 := hk11 _ _ ((Below.refl _ _).alloc (Nat.le_refl _) _) (Nat.le_refl _)
                        have H11 := hide (And.intro (H10.out.1.trans (hb11.mono H10.out.1.size)) (And.intro (H10.out.2.1.below hb11 H10.out.2.1.lt) hP11))
                        have heq := run_page_eql Pg.zero Pg.zero (zero_right.fits) (zero_right.fits) w11
                        rw [decide_eq_true (Pg.same.refl Pg.zero)] at heq
                        clear hP11 hk11 hb11 H10
                        refine unstop10 ?_
                        go_wp2_with (first | (refine wpList_load_page rfl _ rfl w10.heap.size rfl Pg.zero H11.out.2.2 ?_) | (refine wpList_load_page rfl _ rfl g8 rfl Pg.zero H11.out.2.1 ?_) | (refine wpList_binop rfl .eql 35 _ _ _ rfl (.agg (pgA Pg.zero)) (.agg (pgA Pg.zero)) _ rfl rfl (page_guard _ _ _ Pg.zero Pg.zero _) heq ?_))
                        go_ret
                        exact ⟨rfl, H11.out.1⟩
                · have hno : ¬ (s1.wE m j q 15 = 0 ∨ s1.wE m j q 15 = 9) := fun g => by
                    obtain ⟨g1, g2, g3, g4⟩ := Sc.wE_go g
                    exact hgood ⟨g1.2.2.2.2.2, by omega⟩
                  obtain ⟨er, her⟩ : ∃ er, s1.wE m j q 15 = er := ⟨_, rfl⟩
                  have her0 : (er == 0) = false := by
                    rw [← her]
                    simpa using fun g => hno (.inl g)
                  have HER := hide (And.intro her hno)
                  obtain ⟨r, hrr⟩ : ∃ r, decide q.right = r := ⟨_, rfl⟩
                  have hrl : (r && decide ((0 : Int) < (q.l : Int))) = false := by
                    rw [← hrr]
                    by_cases g1 : q.right
                    · have g2 : ¬ (0 : Int) < (q.l : Int) := fun g => hgood ⟨g1, by omega⟩
                      rw [decide_eq_false g2, Bool.and_false]
                    · rw [decide_eq_false g1, Bool.false_and]
                  clear hno her hgood
                  rw [hrr]
                  clear hrr
                  cases r with
                  | true =>
                    have g2 : ¬ (0 : Int) < (q.l : Int) := by simpa using hrl
                    clear hrl
                    go_wp2_with (refine wpList_load_page rfl _ rfl (w.heap.size + 1) rfl q H10.out.qa ?_)
                    refine (H10.out.k.write (m : Int) (j : Int) q 15).mono ?_
                    rintro e w11 ⟨rfl, h11, hs11⟩
                    have h11' := K10.refused (x := w10) h11 HER.out.2
                    rw [HER.out.1]
                    have H11 := hide (show T w gs n i p q mask s1 old1 tr1 w11 from ⟨h11', hs11.page H10.out.pa, hs11.page H10.out.qa, H10.out.inv⟩)
                    have hrd := h11'.read j (by rw [H10.out.inv.n32]; exact hj) (HY.out j hji)
                    rw [HZ.out] at hrd
                    have HRq := hide hrd
                    clear h11 h11' hs11 hrd H10 hmn hji x1 x2 x3 x4
                    go_wp2_with fail
                    refine HRq.out.mono ?_
                    rintro e w12 ⟨rfl, hb12⟩
                    have H12 := hide (H11.out.later hb12)
                    clear hb12 H11 HRq
                    go_wp2_with (refine wpList_store_page rfl _ _ rfl w12.heap.size Pg.zero Pg.zero rfl rfl (heap_alloc_new w12 _) ?_; intro w13 hP13 hk13; refine stop10 ?_)
                    have hb13 := hk13 _ _ ((Below.refl _ _).alloc (Nat.le_refl _) _) (Nat.le_refl _)
                    have H13 := hide (And.intro (H12.out.later hb13) hP13)
                    obtain ⟨g13, hg13⟩ : ∃ g13, g13 = w12.heap.size := ⟨_, rfl⟩
                    rw [← hg13] at H13 ⊢
                    have hne0 := run_page_neq Pg.zero Pg.zero zero_right.fits zero_right.fits w13
                    rw [decide_eq_true (Pg.same.refl Pg.zero)] at hne0
                    have hne : (binOp .neq 35 (.agg (pgA Pg.zero)) (.agg (pgA Pg.zero))).run Try.prog w13 = .ok (.bool false) w13 := hne0
                    have HNE := hide hne
                    clear hP13 hk13 hb13 hg13 H12 hne0 hne cq
                    refine unstop10 ?_
                    refine lst_val (some 25) (.int .i64 0) rfl rfl (by go_simp) ?_
                    try simp only [Act.put, List.setIfInBounds_toArray, List.set_cons_zero, List.set_cons_succ]
                    refine lst_nil ?_
                    rename_i hK
                    refine hK _ _ ?_
                    clear hK
                    refine wp_seq ?_
                    refine wp_region_lit ?_
                    refine lst_val (some 130) (.int .i64 0) rfl rfl (by go_simp) ?_
                    try simp only [Act.put, List.setIfInBounds_toArray, List.set_cons_zero, List.set_cons_succ]
                    refine lst_val (some 131) (.bool false) rfl rfl (by go_simp) ?_
                    try simp only [Act.put, List.setIfInBounds_toArray, List.set_cons_zero, List.set_cons_succ]
                    refine lst_val (some 132) (.bool false) rfl rfl (by go_simp) ?_
                    try simp only [Act.put, List.setIfInBounds_toArray, List.set_cons_zero, List.set_cons_succ]
                    refine lst_val (some 133) (.bool false) rfl rfl (by go_simp) ?_
                    try simp only [Act.put, List.setIfInBounds_toArray, List.set_cons_zero, List.set_cons_succ]
                    refine lst_val (some 134) (.bool false) rfl rfl (by go_simp) ?_
                    try simp only [Act.put, List.setIfInBounds_toArray, List.set_cons_zero, List.set_cons_succ]
                    refine lst_skip (some 135) rfl rfl ?_
                    try simp only [Act.put, List.setIfInBounds_toArray, List.set_cons_zero, List.set_cons_succ]
                    refine lst_skip (some 136) rfl rfl ?_
                    try simp only [Act.put, List.setIfInBounds_toArray, List.set_cons_zero, List.set_cons_succ]
                    refine lst_skip (some 137) rfl rfl ?_
                    try simp only [Act.put, List.setIfInBounds_toArray, List.set_cons_zero, List.set_cons_succ]
                    refine lst_val (some 138) (.bool false) rfl rfl (by go_simp) ?_
                    try simp only [Act.put, List.setIfInBounds_toArray, List.set_cons_zero, List.set_cons_succ]
                    refine lst_val (some 139) (.bool false) rfl rfl (by go_simp) ?_
                    try simp only [Act.put, List.setIfInBounds_toArray, List.set_cons_zero, List.set_cons_succ]
                    refine lst_val (some 140) (.bool false) rfl rfl (by go_simp) ?_
                    try simp only [Act.put, List.setIfInBounds_toArray, List.set_cons_zero, List.set_cons_succ]
                    refine lst_val (some 141) (.bool false) rfl rfl (by go_simp) ?_
                    try simp only [Act.put, List.setIfInBounds_toArray, List.set_cons_zero, List.set_cons_succ]
                    refine lst_val (some 142) (.bool true) rfl rfl (by go_simp) ?_
                    try simp only [Act.put, List.setIfInBounds_toArray, List.set_cons_zero, List.set_cons_succ]
                    refine lst_val (some 143) (.bool true) rfl rfl (by go_simp) ?_
                    try simp only [Act.put, List.setIfInBounds_toArray, List.set_cons_zero, List.set_cons_succ]
                    refine lst_load (some 144) (.agg (pgA Pg.zero)) rfl rfl 35 _ rfl (.pointer (some ⟨g13, 0, none⟩)) rfl (load_page w13 H13.out.2) ?_
                    try simp only [Act.put, List.setIfInBounds_toArray, List.set_cons_zero, List.set_cons_succ]
                    refine lst_val (some 145) (.agg (pgA Pg.zero)) rfl rfl (by first | (go_simp; done) | (go_simp; rfl)) ?_
                    try simp only [Act.put, List.setIfInBounds_toArray, List.set_cons_zero, List.set_cons_succ]
                    refine lst_bin (some 146) (.bool false) rfl rfl .neq 35 _ _ _ rfl (.agg (pgA Pg.zero)) (.agg (pgA Pg.zero)) rfl rfl (page_guard _ _ _ Pg.zero Pg.zero _) (HNE.out) ?_
                    try simp only [Act.put, List.setIfInBounds_toArray, List.set_cons_zero, List.set_cons_succ]
                    refine lst_val (some 147) (.bool false) rfl rfl (by go_simp) ?_
                    try simp only [Act.put, List.setIfInBounds_toArray, List.set_cons_zero, List.set_cons_succ]
                    refine lst_val (some 148) (.bool false) rfl rfl (by go_simp) ?_
                    try simp only [Act.put, List.setIfInBounds_toArray, List.set_cons_zero, List.set_cons_succ]
                    have H14 := hide H13.out.1
                    clear H13 HNE
                    go_wp2_with fail
                    go_loopw [151] (fun i' wr => ∃ k : Nat, k ≤ ln ∧ i' = .int .i64 (k : Int) ∧ ∃ s old tr, Hid (T w gs n i p q mask s old tr wr)) (fun i' _ => ln - (intOf i').toNat)
                    case atStart => exact ⟨0, Nat.zero_le _, rfl, _, _, _, H14⟩
                    case round =>
                      obtain ⟨k, hk, rfl, s5, old5, tr5, HQ⟩ := hrel
                      clear H14
                      by_cases hkl : k < ln
                      · have ik : (k : Int) < (ln : Int) := by omega
                        obtain ⟨b, off, rfl, cm⟩ := load_ms HRI.out HQ.out.k.bel (j := k) (by have := HLN.out; omega)
                        generalize ms.getD k 0 = mk at cm
                        go_wp2_with fail
                        refine (HQ.out.k.mend (n : Int) mk).mono ?_
                        rintro e w6 ⟨rfl, ⟨old6, tr6, h6, hc6⟩, hs6⟩
                        have H6 := hide (show T w gs n i p q mask (s5.mS (n : Int) mk) old6 tr6 w6 from ⟨h6, hs6.page HQ.out.pa, hs6.page HQ.out.qa, HQ.out.inv.mend hc6 mk⟩)
                        generalize s5.mE (n : Int) mk = er
                        clear h6 hc6 hs6 HQ cm
                        go_wp2
                        go_roundw
                        case rel => exact ⟨k + 1, by omega, by go_num, _, _, _, H6⟩
                        case measure => simp [intOf]; omega
                      · obtain rfl : k = ln := by omega
                        have hma := s5.mend_all n hn (by rw [HQ.out.inv.n32]; omega)
                        go_wp2_with fail
                        refine (HQ.out.k.mend (n : Int) 3).mono ?_
                        rintro e w6 ⟨rfl, ⟨old6, tr6, h6, hc6⟩, hs6⟩
                        rw [hma.1]
                        have hi6 := HQ.out.inv.mend hc6 3
                        have hno : ∀ m', m' < 8 → (s5.mS (n : Int) 3).out m' = false := fun m' _ => by
                          by_cases e : m' = n
                          · rw [e]
                            exact hma.2.2.1
                          · exact hi6.out m' e
                        have ht6 := h6.ok.done hno i (by rw [hi6.n32]; exact hi)
                        have ho6 : old6 i = fin mask p := by
                          rcases hi6.at_ with ⟨b, _, h⟩ | ⟨_, h⟩
                          · rw [ht6] at h
                            cases h
                          · exact h
                        obtain ⟨s6, hs6'⟩ : ∃ s6, s5.mS (n : Int) 3 = s6 := ⟨_, rfl⟩
                        rw [hs6'] at h6 hi6 hno
                        have hob : s6.outB (n : Int) = false := by
                          unfold Sc.outB
                          rw [Int.toNat_natCast, hno n hn, Bool.and_false]
                        have hout := h6.out (n : Int)
                        rw [hob] at hout
                        have hrd := fun x (hb : Below w6.heap.size w6 x) => (h6.later hb).read i (by rw [hi6.n32]; exact hi) ht6
                        rw [ho6] at hrd
                        have HOut := hide hout
                        have HRd := hide hrd
                        have H6 := hide (And.intro h6.bel (hs6.page HQ.out.pa))
                        clear hma h6 hc6 hs6 hi6 hno ht6 ho6 hs6' hob hout hrd HQ
                        go_wp2_with fail
                        refine HOut.out.mono ?_
                        rintro e w7 ⟨rfl, rfl⟩
                        clear HOut
                        go_wp2_with (refine wpList_store_page rfl _ _ rfl w6.heap.size Pg.zero Pg.zero rfl rfl (heap_alloc_new w6 _) ?_; intro w8 hP8 hk8; refine stop10 ?_)
                        have hb8 := hk8 _ _ ((Below.refl _ _).alloc (Nat.le_refl _) _) (Nat.le_refl _)
                        obtain ⟨g8, hg8⟩ : ∃ g8, g8 = w6.heap.size := ⟨_, rfl⟩
                        have hlow8 : w.heap.size < g8 := by have := H6.out.2.lt; omega
                        have H8 := hide (And.intro (H6.out.1.trans (hb8.mono H6.out.1.size)) (And.intro (H6.out.2.below hb8 H6.out.2.lt) hP8))
                        have HB8 := hide hb8
                        rw [← hg8] at H8 ⊢
                        have HG8 := hide hg8
                        clear hP8 hk8 hb8 hg8 H6
                        have hfinr := fin_right mask p HPR.out.2
                        by_cases hm3 : 3 < mask
                        · have efin : fin mask p = p := if_pos hm3
                          rw [efin] at HRd
                          clear hfinr efin
                          refine unstop10 ?_
                          go_wp2_with (first | (refine wpList_load_page rfl _ rfl w.heap.size rfl p H8.out.2.1 ?_) | (refine wpList_store_page rfl _ _ rfl g8 Pg.zero p rfl rfl H8.out.2.2 ?_; intro w9 hP9 hk9; refine stop10 ?_))
                          have hb9 := hk9 _ _ HB8.out (by rw [HG8.out]; exact Nat.le_refl _)
                          have hb9' := hk9 _ _ H8.out.1 (by omega)
                          have H9 := hide (And.intro hb9' (And.intro hP9 hb9))
                          have HRd9 := hide (HRd.out w9 hb9)
                          clear hP9 hk9 hb9 hb9' H8 HRd
                          refine unstop10 ?_
                          go_wp2_with fail
                          refine HRd9.out.mono ?_
                          rintro e w10 ⟨rfl, hb10⟩
                          have H10 := hide (And.intro (H9.out.1.trans (hb10.mono H9.out.1.size)) (And.intro (H9.out.2.1.below hb10 H9.out.2.1.lt) hb10.size))
                          clear hb10 HRd9 H9
                          go_wp2_with (refine wpList_store_page rfl _ _ rfl w10.heap.size Pg.zero p rfl rfl (heap_alloc_new w10 _) ?_; intro w11 hP11 hk11; refine stop10 ?_)
                          have hb11 := hk11 _ _ ((Below.refl _ _).alloc (Nat.le_refl _) _) (Nat.le_refl _)
                          have H11 := hide (And.intro (H10.out.1.trans (hb11.mono H10.out.1.size)) (And.intro (H10.out.2.1.below hb11 H10.out.2.1.lt) hP11))
                          have heq := run_page_eql p p (HF.out.1) (HF.out.1) w11
                          rw [decide_eq_true (Pg.same.refl p)] at heq
                          clear hP11 hk11 hb11 H10
                          refine unstop10 ?_
                          go_wp2_with (first | (refine wpList_load_page rfl _ rfl w10.heap.size rfl p H11.out.2.2 ?_) | (refine wpList_load_page rfl _ rfl g8 rfl p H11.out.2.1 ?_) | (refine wpList_binop rfl .eql 35 _ _ _ rfl (.agg (pgA p)) (.agg (pgA p)) _ rfl rfl (page_guard _ _ _ p p _) heq ?_))
                          go_ret
                          exact ⟨rfl, H11.out.1⟩
                        · have efin : fin mask p = Pg.zero := if_neg hm3
                          rw [efin] at HRd
                          clear hfinr efin
                          have H9 := hide (And.intro H8.out.1 (And.intro H8.out.2.2 HB8.out))
                          have HRd9 := hide (HRd.out w8 HB8.out)
                          obtain ⟨w9, hw9⟩ : ∃ w9, w9 = w8 := ⟨_, rfl⟩
                          rw [← hw9] at H9 HRd9 ⊢
                          clear H8 HRd hw9
                          refine unstop10 ?_
                          go_wp2_with fail
                          refine HRd9.out.mono ?_
                          rintro e w10 ⟨rfl, hb10⟩
                          have H10 := hide (And.intro (H9.out.1.trans (hb10.mono H9.out.1.size)) (And.intro (H9.out.2.1.below hb10 H9.out.2.1.lt) hb10.size))
                          clear hb10 HRd9 H9
                          go_wp2_with (refine wpList_store_page rfl _ _ rfl w10.heap.size Pg.zero Pg.zero rfl rfl (heap_alloc_new w10 _) ?_; intro w11 hP11 hk11; refine stop10 ?_)
                          have hb11 := hk11 _ _ ((Below.refl _ _).alloc (Nat.le_refl _) _) (Nat.le_refl _)
                          have H11 := hide (And.intro (H10.out.1.trans (hb11.mono H10.out.1.size)) (And.intro (H10.out.2.1.below hb11 H10.out.2.1.lt) hP11))
                          have heq := run_page_eql Pg.zero Pg.zero (zero_right.fits) (zero_right.fits) w11
                          rw [decide_eq_true (Pg.same.refl Pg.zero)] at heq
                          clear hP11 hk11 hb11 H10
                          refine unstop10 ?_
                          go_wp2_with (first | (refine wpList_load_page rfl _ rfl w10.heap.size rfl Pg.zero H11.out.2.2 ?_) | (refine wpList_load_page rfl _ rfl g8 rfl Pg.zero H11.out.2.1 ?_) | (refine wpList_binop rfl .eql 35 _ _ _ rfl (.agg (pgA Pg.zero)) (.agg (pgA Pg.zero)) _ rfl rfl (page_guard _ _ _ Pg.zero Pg.zero _) heq ?_))
                          go_ret
                          exact ⟨rfl, H11.out.1⟩
                  | false =>
                    clear hrl
                    go_wp2_with (refine wpList_load_page rfl _ rfl (w.heap.size + 1) rfl q H10.out.qa ?_)
                    refine (H10.out.k.write (m : Int) (j : Int) q 15).mono ?_
                    rintro e w11 ⟨rfl, h11, hs11⟩
                    have h11' := K10.refused (x := w10) h11 HER.out.2
                    rw [HER.out.1]
                    have H11 := hide (show T w gs n i p q mask s1 old1 tr1 w11 from ⟨h11', hs11.page H10.out.pa, hs11.page H10.out.qa, H10.out.inv⟩)
                    have hrd := h11'.read j (by rw [H10.out.inv.n32]; exact hj) (HY.out j hji)
                    rw [HZ.out] at hrd
                    have HRq := hide hrd
                    clear h11 h11' hs11 hrd H10 hmn hji x1 x2 x3 x4
                    go_wp2_with fail
                    refine HRq.out.mono ?_
                    rintro e w12 ⟨rfl, hb12⟩
                    have H12 := hide (H11.out.later hb12)
                    clear hb12 H11 HRq
                    go_wp2_with (refine wpList_store_page rfl _ _ rfl w12.heap.size Pg.zero Pg.zero rfl rfl (heap_alloc_new w12 _) ?_; intro w13 hP13 hk13; refine stop10 ?_)
                    have hb13 := hk13 _ _ ((Below.refl _ _).alloc (Nat.le_refl _) _) (Nat.le_refl _)
                    have H13 := hide (And.intro (H12.out.later hb13) hP13)
                    obtain ⟨g13, hg13⟩ : ∃ g13, g13 = w12.heap.size := ⟨_, rfl⟩
                    rw [← hg13] at H13 ⊢
                    have hne0 := run_page_neq Pg.zero Pg.zero zero_right.fits zero_right.fits w13
                    rw [decide_eq_true (Pg.same.refl Pg.zero)] at hne0
                    have hne : (binOp .neq 35 (.agg (pgA Pg.zero)) (.agg (pgA Pg.zero))).run Try.prog w13 = .ok (.bool false) w13 := hne0
                    have HNE := hide hne
                    clear hP13 hk13 hb13 hg13 H12 hne0 hne cq
                    refine unstop10 ?_
                    refine lst_val (some 25) (.int .i64 0) rfl rfl (by go_simp) ?_
                    try simp only [Act.put, List.setIfInBounds_toArray, List.set_cons_zero, List.set_cons_succ]
                    refine lst_nil ?_
                    rename_i hK
                    refine hK _ _ ?_
                    clear hK
                    refine wp_seq ?_
                    refine wp_region_lit ?_
                    refine lst_val (some 130) (.int .i64 0) rfl rfl (by go_simp) ?_
                    try simp only [Act.put, List.setIfInBounds_toArray, List.set_cons_zero, List.set_cons_succ]
                    refine lst_val (some 131) (.bool false) rfl rfl (by go_simp) ?_
                    try simp only [Act.put, List.setIfInBounds_toArray, List.set_cons_zero, List.set_cons_succ]
                    refine lst_val (some 132) (.bool false) rfl rfl (by go_simp) ?_
                    try simp only [Act.put, List.setIfInBounds_toArray, List.set_cons_zero, List.set_cons_succ]
                    refine lst_val (some 133) (.bool false) rfl rfl (by go_simp) ?_
                    try simp only [Act.put, List.setIfInBounds_toArray, List.set_cons_zero, List.set_cons_succ]
                    refine lst_val (some 134) (.bool false) rfl rfl (by go_simp) ?_
                    try simp only [Act.put, List.setIfInBounds_toArray, List.set_cons_zero, List.set_cons_succ]
                    refine lst_skip (some 135) rfl rfl ?_
                    try simp only [Act.put, List.setIfInBounds_toArray, List.set_cons_zero, List.set_cons_succ]
                    refine lst_skip (some 136) rfl rfl ?_
                    try simp only [Act.put, List.setIfInBounds_toArray, List.set_cons_zero, List.set_cons_succ]
                    refine lst_skip (some 137) rfl rfl ?_
                    try simp only [Act.put, List.setIfInBounds_toArray, List.set_cons_zero, List.set_cons_succ]
                    refine lst_val (some 138) (.bool false) rfl rfl (by go_simp) ?_
                    try simp only [Act.put, List.setIfInBounds_toArray, List.set_cons_zero, List.set_cons_succ]
                    refine lst_val (some 139) (.bool false) rfl rfl (by go_simp) ?_
                    try simp only [Act.put, List.setIfInBounds_toArray, List.set_cons_zero, List.set_cons_succ]
                    refine lst_val (some 140) (.bool false) rfl rfl (by go_simp) ?_
                    try simp only [Act.put, List.setIfInBounds_toArray, List.set_cons_zero, List.set_cons_succ]
                    refine lst_val (some 141) (.bool false) rfl rfl (by go_simp) ?_
                    try simp only [Act.put, List.setIfInBounds_toArray, List.set_cons_zero, List.set_cons_succ]
                    refine lst_val (some 142) (.bool true) rfl rfl (by go_simp) ?_
                    try simp only [Act.put, List.setIfInBounds_toArray, List.set_cons_zero, List.set_cons_succ]
                    refine lst_val (some 143) (.bool true) rfl rfl (by go_simp) ?_
                    try simp only [Act.put, List.setIfInBounds_toArray, List.set_cons_zero, List.set_cons_succ]
                    refine lst_load (some 144) (.agg (pgA Pg.zero)) rfl rfl 35 _ rfl (.pointer (some ⟨g13, 0, none⟩)) rfl (load_page w13 H13.out.2) ?_
                    try simp only [Act.put, List.setIfInBounds_toArray, List.set_cons_zero, List.set_cons_succ]
                    refine lst_val (some 145) (.agg (pgA Pg.zero)) rfl rfl (by first | (go_simp; done) | (go_simp; rfl)) ?_
                    try simp only [Act.put, List.setIfInBounds_toArray, List.set_cons_zero, List.set_cons_succ]
                    refine lst_bin (some 146) (.bool false) rfl rfl .neq 35 _ _ _ rfl (.agg (pgA Pg.zero)) (.agg (pgA Pg.zero)) rfl rfl (page_guard _ _ _ Pg.zero Pg.zero _) (HNE.out) ?_
                    try simp only [Act.put, List.setIfInBounds_toArray, List.set_cons_zero, List.set_cons_succ]
                    refine lst_val (some 147) (.bool false) rfl rfl (by go_simp) ?_
                    try simp only [Act.put, List.setIfInBounds_toArray, List.set_cons_zero, List.set_cons_succ]
                    refine lst_val (some 148) (.bool false) rfl rfl (by go_simp) ?_
                    try simp only [Act.put, List.setIfInBounds_toArray, List.set_cons_zero, List.set_cons_succ]
                    have H14 := hide H13.out.1
                    clear H13 HNE
                    go_wp2_with fail
                    go_loopw [151] (fun i' wr => ∃ k : Nat, k ≤ ln ∧ i' = .int .i64 (k : Int) ∧ ∃ s old tr, Hid (T w gs n i p q mask s old tr wr)) (fun i' _ => ln - (intOf i').toNat)
                    case atStart => exact ⟨0, Nat.zero_le _, rfl, _, _, _, H14⟩
                    case round =>
                      obtain ⟨k, hk, rfl, s5, old5, tr5, HQ⟩ := hrel
                      clear H14
                      by_cases hkl : k < ln
                      · have ik : (k : Int) < (ln : Int) := by omega
                        obtain ⟨b, off, rfl, cm⟩ := load_ms HRI.out HQ.out.k.bel (j := k) (by have := HLN.out; omega)
                        generalize ms.getD k 0 = mk at cm
                        go_wp2_with fail
                        refine (HQ.out.k.mend (n : Int) mk).mono ?_
                        rintro e w6 ⟨rfl, ⟨old6, tr6, h6, hc6⟩, hs6⟩
                        have H6 := hide (show T w gs n i p q mask (s5.mS (n : Int) mk) old6 tr6 w6 from ⟨h6, hs6.page HQ.out.pa, hs6.page HQ.out.qa, HQ.out.inv.mend hc6 mk⟩)
                        generalize s5.mE (n : Int) mk = er
                        clear h6 hc6 hs6 HQ cm
                        go_wp2
                        go_roundw
                        case rel => exact ⟨k + 1, by omega, by go_num, _, _, _, H6⟩
                        case measure => simp [intOf]; omega
                      · obtain rfl : k = ln := by omega
                        have hma := s5.mend_all n hn (by rw [HQ.out.inv.n32]; omega)
                        go_wp2_with fail
                        refine (HQ.out.k.mend (n : Int) 3).mono ?_
                        rintro e w6 ⟨rfl, ⟨old6, tr6, h6, hc6⟩, hs6⟩
                        rw [hma.1]
                        have hi6 := HQ.out.inv.mend hc6 3
                        have hno : ∀ m', m' < 8 → (s5.mS (n : Int) 3).out m' = false := fun m' _ => by
                          by_cases e : m' = n
                          · rw [e]
                            exact hma.2.2.1
                          · exact hi6.out m' e
                        have ht6 := h6.ok.done hno i (by rw [hi6.n32]; exact hi)
                        have ho6 : old6 i = fin mask p := by
                          rcases hi6.at_ with ⟨b, _, h⟩ | ⟨_, h⟩
                          · rw [ht6] at h
                            cases h
                          · exact h
                        obtain ⟨s6, hs6'⟩ : ∃ s6, s5.mS (n : Int) 3 = s6 := ⟨_, rfl⟩
                        rw [hs6'] at h6 hi6 hno
                        have hob : s6.outB (n : Int) = false := by
                          unfold Sc.outB
                          rw [Int.toNat_natCast, hno n hn, Bool.and_false]
                        have hout := h6.out (n : Int)
                        rw [hob] at hout
                        have hrd := fun x (hb : Below w6.heap.size w6 x) => (h6.later hb).read i (by rw [hi6.n32]; exact hi) ht6
                        rw [ho6] at hrd
                        have HOut := hide hout
                        have HRd := hide hrd
                        have H6 := hide (And.intro h6.bel (hs6.page HQ.out.pa))
                        clear hma h6 hc6 hs6 hi6 hno ht6 ho6 hs6' hob hout hrd HQ
                        go_wp2_with fail
                        refine HOut.out.mono ?_
                        rintro e w7 ⟨rfl, rfl⟩
                        clear HOut
                        go_wp2_with (refine wpList_store_page rfl _ _ rfl w6.heap.size Pg.zero Pg.zero rfl rfl (heap_alloc_new w6 _) ?_; intro w8 hP8 hk8; refine stop10 ?_)
                        have hb8 := hk8 _ _ ((Below.refl _ _).alloc (Nat.le_refl _) _) (Nat.le_refl _)
                        obtain ⟨g8, hg8⟩ : ∃ g8, g8 = w6.heap.size := ⟨_, rfl⟩
                        have hlow8 : w.heap.size < g8 := by have := H6.out.2.lt; omega
                        have H8 := hide (And.intro (H6.out.1.trans (hb8.mono H6.out.1.size)) (And.intro (H6.out.2.below hb8 H6.out.2.lt) hP8))
                        have HB8 := hide hb8
                        rw [← hg8] at H8 ⊢
                        have HG8 := hide hg8
                        clear hP8 hk8 hb8 hg8 H6
                        have hfinr := fin_right mask p HPR.out.2
                        by_cases hm3 : 3 < mask
                        · have efin : fin mask p = p := if_pos hm3
                          rw [efin] at HRd
                          clear hfinr efin
                          refine unstop10 ?_
                          go_wp2_with (first | (refine wpList_load_page rfl _ rfl w.heap.size rfl p H8.out.2.1 ?_) | (refine wpList_store_page rfl _ _ rfl g8 Pg.zero p rfl rfl H8.out.2.2 ?_; intro w9 hP9 hk9; refine stop10 ?_))
                          have hb9 := hk9 _ _ HB8.out (by rw [HG8.out]; exact Nat.le_refl _)
                          have hb9' := hk9 _ _ H8.out.1 (by omega)
                          have H9 := hide (And.intro hb9' (And.intro hP9 hb9))
                          have HRd9 := hide (HRd.out w9 hb9)
                          clear hP9 hk9 hb9 hb9' H8 HRd
                          refine unstop10 ?_
                          go_wp2_with fail
                          refine HRd9.out.mono ?_
                          rintro e w10 ⟨rfl, hb10⟩
                          have H10 := hide (And.intro (H9.out.1.trans (hb10.mono H9.out.1.size)) (And.intro (H9.out.2.1.below hb10 H9.out.2.1.lt) hb10.size))
                          clear hb10 HRd9 H9
                          go_wp2_with (refine wpList_store_page rfl _ _ rfl w10.heap.size Pg.zero p rfl rfl (heap_alloc_new w10 _) ?_; intro w11 hP11 hk11; refine stop10 ?_)
                          have hb11 := hk11 _ _ ((Below.refl _ _).alloc (Nat.le_refl _) _) (Nat.le_refl _)
                          have H11 := hide (And.intro (H10.out.1.trans (hb11.mono H10.out.1.size)) (And.intro (H10.out.2.1.below hb11 H10.out.2.1.lt) hP11))
                          have heq := run_page_eql p p (HF.out.1) (HF.out.1) w11
                          rw [decide_eq_true (Pg.same.refl p)] at heq
                          clear hP11 hk11 hb11 H10
                          refine unstop10 ?_
                          go_wp2_with (first | (refine wpList_load_page rfl _ rfl w10.heap.size rfl p H11.out.2.2 ?_) | (refine wpList_load_page rfl _ rfl g8 rfl p H11.out.2.1 ?_) | (refine wpList_binop rfl .eql 35 _ _ _ rfl (.agg (pgA p)) (.agg (pgA p)) _ rfl rfl (page_guard _ _ _ p p _) heq ?_))
                          go_ret
                          exact ⟨rfl, H11.out.1⟩
                        · have efin : fin mask p = Pg.zero := if_neg hm3
                          rw [efin] at HRd
                          clear hfinr efin
                          have H9 := hide (And.intro H8.out.1 (And.intro H8.out.2.2 HB8.out))
                          have HRd9 := hide (HRd.out w8 HB8.out)
                          obtain ⟨w9, hw9⟩ : ∃ w9, w9 = w8 := ⟨_, rfl⟩
                          rw [← hw9] at H9 HRd9 ⊢
                          clear H8 HRd hw9
                          refine unstop10 ?_
                          go_wp2_with fail
                          refine HRd9.out.mono ?_
                          rintro e w10 ⟨rfl, hb10⟩
                          have H10 := hide (And.intro (H9.out.1.trans (hb10.mono H9.out.1.size)) (And.intro (H9.out.2.1.below hb10 H9.out.2.1.lt) hb10.size))
                          clear hb10 HRd9 H9
                          go_wp2_with (refine wpList_store_page rfl _ _ rfl w10.heap.size Pg.zero Pg.zero rfl rfl (heap_alloc_new w10 _) ?_; intro w11 hP11 hk11; refine stop10 ?_)
                          have hb11 := hk11 _ _ ((Below.refl _ _).alloc (Nat.le_refl _) _) (Nat.le_refl _)
                          have H11 := hide (And.intro (H10.out.1.trans (hb11.mono H10.out.1.size)) (And.intro (H10.out.2.1.below hb11 H10.out.2.1.lt) hP11))
                          have heq := run_page_eql Pg.zero Pg.zero (zero_right.fits) (zero_right.fits) w11
                          rw [decide_eq_true (Pg.same.refl Pg.zero)] at heq
                          clear hP11 hk11 hb11 H10
                          refine unstop10 ?_
                          go_wp2_with (first | (refine wpList_load_page rfl _ rfl w10.heap.size rfl Pg.zero H11.out.2.2 ?_) | (refine wpList_load_page rfl _ rfl g8 rfl Pg.zero H11.out.2.1 ?_) | (refine wpList_binop rfl .eql 35 _ _ _ rfl (.agg (pgA Pg.zero)) (.agg (pgA Pg.zero)) _ rfl rfl (page_guard _ _ _ Pg.zero Pg.zero _) heq ?_))
                          go_ret
                          exact ⟨rfl, H11.out.1⟩
      · rw [decide_eq_false hm]
        clear hm
        go_wp2_with fail
        refine (awake10 _).mono ?_
        rintro e w3 ⟨rfl, hb3⟩
        have d3 := (HP2.out.later hb3).2.2.1
        clear hb3 HP2
        go_wp2
        go_ret
        exact ⟨rfl, d3⟩
  · rw [decide_eq_false hr]
    go_wp2_with fail
    refine (awake10 _).mono ?_
    rintro e w3 ⟨rfl, hb3⟩
    have d3 := (HP2.out.later hb3).2.2.1
    clear hb3 HP2
    go_wp2
    go_ret
    exact ⟨rfl, d3⟩
end Go.Proofs.Ytmoagpedkgjkoaa.storeCut

namespace Go.Proofs.Ytmoagpedkgjkoaa.storeCut
open Go.ChangeShapes Go.WideShapes Go.ChangeAt Go.RowKit
open Go.ChangeMaps (open_string shut_string)
set_option linter.unusedVariables false

theorem laidOut : laidOutB Try.prog = true := by kernel_rfl
theorem own : ownKnob Try.prog.godebug = none := by kernel_rfl

set_option maxRecDepth 100000 in
theorem lifted (os : Os) (started : os.Started) (H : Type) (enc : TypeId × Value → H) :
    ReturnsInHanded {} Try.checked os 5 .any (Rows.storeCutSpec.pre6 enc Try.prog Try.f5 Rows.storeCutRow.domain false) (Rows.storeCutSpec.post enc Try.prog Try.f5 false true false false) := by
  refine returnsInHanded_of_change_sized (C := Try.checked) own started (by kernel_rfl) Try.func5
    (ChangeSpec.witness6 (enc := enc) (C := Try.checked) false ⟨#[], #[.int .u8 0, .int .u8 0, .int .u8 0, .int .u8 0, .agg #[.int .u64 0, .bool false, .string ByteArray.empty, .bool false, .string ByteArray.empty, .bool false, .string ByteArray.empty, .bool false, .string ByteArray.empty, .bool false, .string ByteArray.empty, .bool false, .string ByteArray.empty, .bool false, .string ByteArray.empty, .bool false, .string ByteArray.empty], .agg #[.int .u64 0, .bool false, .string ByteArray.empty, .bool false, .string ByteArray.empty, .bool false, .string ByteArray.empty, .bool false, .string ByteArray.empty, .bool false, .string ByteArray.empty, .bool false, .string ByteArray.empty, .bool false, .string ByteArray.empty, .bool false, .string ByteArray.empty], .int .i64 0, .slice none 0 0], []⟩ 8 (by kernel_rfl) (by kernel_rfl) (by kernel_rfl) (by kernel_rfl)) ?_
  intro W base args ds gs before hval0 hW hcnd hsz0 _
  have hval : ∀ (j : Nat) t v, Try.f5.params[j]? = some t → args[j]? = some v → Value.okWide Try.prog W .any base t v := hval0
  have hsz : (DataW.weightsEach Try.prog (Try.f5.params.toList ++ Rows.storeCutSpec.plain.varTypes Try.prog) (ds ++ gs)).all (· ≤ reachBytes) = true := hsz0
  have hW' := hW
  obtain ⟨p, q, hA0, hV, rfl, hfz, hnd⟩ := hW
  have hA : DataW.TrodAll enc Try.prog W 0 (fun _ => true) true Try.f5.params.toList args.toList ds p := hA0
  rw [Try.params5] at hA hval hsz
  obtain ⟨v0, vs0, d0, ds0, p0, q0, hargs, rfl, rfl, h0, r0⟩ := trodAll_cons hA
  obtain ⟨v1, vs1, d1, ds1, p1, q1, rfl, rfl, rfl, h1, r1⟩ := trodAll_cons r0
  obtain ⟨v2, vs2, d2, ds2, p2, q2, rfl, rfl, rfl, h2, r2⟩ := trodAll_cons r1
  obtain ⟨v3, vs3, d3, ds3, p3, q3, rfl, rfl, rfl, h3, r3⟩ := trodAll_cons r2
  obtain ⟨v4, vs4, d4, ds4, p4, q4, rfl, rfl, rfl, h4, r4⟩ := trodAll_cons r3
  obtain ⟨v5, vs5, d5, ds5, p5, q5, rfl, rfl, rfl, h5, r5⟩ := trodAll_cons r4
  obtain ⟨v6, vs6, d6, ds6, p6, q6, rfl, rfl, rfl, h6, r6⟩ := trodAll_cons r5
  obtain ⟨v7, vs7, d7, ds7, p7, q7, rfl, rfl, rfl, h7, r7⟩ := trodAll_cons r6
  obtain ⟨rfl, rfl, rfl⟩ := trodAll_nil r7
  obtain rfl : args = #[v0, v1, v2, v3, v4, v5, v6, v7] := by cases args; simp_all
  obtain ⟨rfl, rfl⟩ := trodVars_none hV
  obtain ⟨a0, rfl, rfl, rfl, w0⟩ := open_int Try.underlying5 (hval 0 5 v0 rfl rfl) h0
  obtain ⟨a1, rfl, rfl, rfl, w1⟩ := open_int Try.underlying5 (hval 1 5 v1 rfl rfl) h1
  obtain ⟨a2, rfl, rfl, rfl, w2⟩ := open_int Try.underlying5 (hval 2 5 v2 rfl rfl) h2
  obtain ⟨a3, rfl, rfl, rfl, w3⟩ := open_int Try.underlying5 (hval 3 5 v3 rfl rfl) h3
  have k4 := h4
  have lt4 := trod_places h4
  have k5 := h5
  have lt5 := trod_places h5
  obtain ⟨a6, rfl, rfl, rfl, w6⟩ := open_int Try.underlying3 (hval 6 3 v6 rfl rfl) h6
  have k7 := h7
  have lt7 := trod_places h7
  obtain ⟨m4, rfl, w4⟩ := op_page (hval 4 35 v4 rfl rfl) h4
  obtain ⟨m5, rfl, w5⟩ := op_page (hval 5 35 v5 rfl rfl) h5
  obtain ⟨m7, w7a, w7b, w7c, w7d⟩ := op_ints (hval 7 48 v7 rfl rfl) h7
  clear hA0 hval0 hsz0 hsz
  refine (walk a0 a1 a2 a3 m4 m5 a6 v7 m7 W w0 w1 w2 w3 w4 w5 w6 w7a w7b w7c w7d).mono fun e W' ⟨he, bel⟩ => ?_
  subst he
  exact ⟨_, rfl, _, _, _, [], _, [], hW', trodAll_mk1 (shut_bool Try.underlying4 _), (trodAll_cons_mk (shut_int Try.underlying5 w0) (trodAll_cons_mk (shut_int Try.underlying5 w1) (trodAll_cons_mk (shut_int Try.underlying5 w2) (trodAll_cons_mk (shut_int Try.underlying5 w3) (trodAll_cons_mk (Below.trod laidOut (by kernel_rfl) (of_decide_eq_true (by kernel_rfl)) k4 bel lt4) (trodAll_cons_mk (Below.trod laidOut (by kernel_rfl) (of_decide_eq_true (by kernel_rfl)) k5 bel lt5) (trodAll_cons_mk (shut_int Try.underlying3 w6) (trodAll_cons_mk (Below.trod laidOut (by kernel_rfl) (of_decide_eq_true (by kernel_rfl)) k7 bel lt7) trodAll_mk0)))))))), rfl, bel.frame _, fun h => by cases h⟩

theorem over : Rows.storeCutRow.holds Try.pinned (OpenSpec.ofChange Rows.storeCutSpec) :=
  OpenClaim.holds_of_wide 5 Try.f5 rfl rfl rfl rfl rfl rfl rfl ⟨rfl, rfl, rfl, rfl, rfl⟩ rfl rfl rfl rfl rfl (by kernel_rfl) Try.func5 (by kernel_rfl)
    (of_decide_eq_true (by kernel_rfl)) (by unfold Func.isWrapper; first | (rw [if_pos (by decide +kernel)]; kernel_rfl) | (rw [if_neg (by decide +kernel)]; exact ⟨rfl, rfl⟩))
    (fun os started H enc _ => lifted os started H enc)

/-- THE STATEMENT. -/
theorem proved : Rows.StoreCutSaid := over
end Go.Proofs.Ytmoagpedkgjkoaa.storeCut
namespace Go.Proofs.Ytmoagpedkgjkoaa
theorem storeCut_proved : Rows.StoreCutSaid := storeCut.proved
end Go.Proofs.Ytmoagpedkgjkoaa
