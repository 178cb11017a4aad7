/-
  The walk of PoolVictims: it returns true, and turns nothing that was there. (gen11/second.py)
-/
import Derived.Test.YthigibgokbmehaaPoolAwake
import Derived.Test.YthigibgokbmehaaPoolPlayed
import Derived.Test.YthigibgokbmehaaPoolFacts
namespace Go.Proofs.Ythigibgokbmehaa.poolVictims
open Go.RowKit
set_option linter.unusedVariables false

set_option maxRecDepth 4000 in
set_option maxHeartbeats 1600000 in
theorem walk (f : Int) (v : Value) (cs : List Pc) (w : World) (wf : (Lit.int .i64 f).wf = true) (h1 : RowsIn pcA Pc.zero 4 w v cs) (h2 : cs.length ≤ maxLen) (h3 : ∀ c ∈ cs, c.fits) (h4 : ∀ a len cap, v = .slice a len cap → len ≤ cap) :
    Calls Try.prog 5 #[.int .i64 f, v] w fun e w' => e = .returned (.bool true) ∧ Below w.heap.size w w' := by
  have h' := h1
  obtain ⟨a, cap, rfl, -⟩ := h'
  have hs : Scr11 w (.slice a cs.length cap) cs := ⟨h1, h3, h4⟩
  obtain ⟨ln, hln⟩ : ∃ ln, cs.length = ln := ⟨_, rfl⟩
  rw [hln] at hs h2 ⊢
  have HS := hide hs
  clear h1 h3 h4 hs hln
  go_enter Try.func5, Try.ntmps5
  go_wp2_with fail
  refine (awake11_any _).mono ?_
  rintro e w1 ⟨rfl, hb1⟩
  by_cases hl : 300 < ln
  · have hl2 : (300 : Int) < (ln : Int) := by omega
    go_wp2_with fail
    refine (awake11_any _).mono ?_
    rintro e w2 ⟨rfl, hb2⟩
    go_wp2
    go_ret
    exact ⟨rfl, hb1.trans (hb2.mono hb1.size)⟩
  have hl2 : ¬ (300 : Int) < (ln : Int) := by omega
  have HB1 := hide hb1
  clear hb1
  go_wp2_with fail
  refine (played11 (w0 := w) f HS.out (by omega) HB1.out).mono ?_
  rintro e w2 ⟨g, gr, p, rfl, h⟩
  have H2 := hide h
  clear h HB1 HS
  go_wp2
  go_loopw [25] (fun v wr => ∃ (j : Nat) (q : Po), j + q.mays ≤ 16 ∧ v = .int .i64 j ∧ Hid (K11 w wr g gr q 300)) (fun v _ => 17 - (intOf v).toNat)
  case atStart => exact ⟨0, p, by have := Po.mays_le H2.out.ok; omega, rfl, H2⟩
  case round =>
    obtain ⟨j, q, hj, rfl, HK⟩ := hrel
    clear H2
    have i1 : (j : Int) < 17 := by omega
    go_wp2_with fail
    by_cases z0 : q.vicE = 0
    · have HG := hide (HK.out.ok.gone z0)
      have T := kvic11 HK.out
      rw [z0] at T
      clear z0
      refine T.mono ?_
      rintro e w3 ⟨rfl, h, -⟩
      have H3 := hide h
      clear h T HK
      go_wp2_with fail
      have T := kunfix11 q.vicI (by omega) H3.out
      rw [HG.out.1, HG.out.2.1] at T
      refine T.mono ?_
      rintro e w4 ⟨rfl, h, -⟩
      have H4 := hide h
      clear h T H3
      go_wp2_with fail
      have T := kdrop11 q.vicI H4.out
      rw [HG.out.2.2.1] at T
      refine T.mono ?_
      rintro e w5 ⟨rfl, h, -⟩
      have H5 := hide h
      clear h T H4
      go_wp2
      go_roundw
      case rel => exact ⟨j + 1, _, by have := HG.out.2.2.2; omega, by go_num, H5⟩
      case measure => simp [intOf]; omega
    · have HN := hide (q.vic_not HK.out.ok z0)
      have HX := hide (HK.out.ok.fixed HN.out.1)
      have T := kvic11 HK.out
      rw [HN.out.2.1, HN.out.2.2] at T
      clear z0 hj i1
      refine T.mono ?_
      rintro e w3 ⟨rfl, h, -⟩
      have H3 := hide h
      clear h T HK
      go_wp2_with fail
      have T := kvic11 H3.out
      rw [HN.out.2.1, HN.out.2.2] at T
      refine T.mono ?_
      rintro e w4 ⟨rfl, h, -⟩
      have H4 := hide h
      clear h T H3
      go_wp2_with fail
      refine (kpages11 H4.out).mono ?_
      rintro e w5 ⟨v, rfl, ho, h, -⟩
      have HG := hide (show ∀ k, FP g gr k → k < w4.heap.size from fun k hk => by
        rcases hk with rfl | rfl
        · exact H4.out.ps.lt.1
        · exact H4.out.ps.lt.2)
      have HM := hide (fun x hx => HX.out x (q.idsTo_mem 32 x hx).2)
      have HR := hide (q.idsTo_rise 32)
      have hL := q.idsTo_len 32
      generalize q.idsTo 32 = ids at *
      obtain ⟨n, hn⟩ : ∃ n, ids.length = n := ⟨_, rfl⟩
      rw [hn] at ho hL
      have HL := hide hn
      obtain ⟨a5, c5, rfl, hc5⟩ : ∃ a5 c5, v = .slice a5 n c5 ∧ n ≤ c5 := by
        rcases ho.2 with ⟨rfl, h0⟩ | ⟨g, cap, cur, rfl, _, _, h1, _⟩
        · exact ⟨none, 0, by rw [h0], by omega⟩
        · exact ⟨_, _, rfl, h1⟩
      have H5 := hide (And.intro h (And.intro ho (fun m (h1 : 0 ≤ m) (h2 : m < n) => HM.out (ids.getD m 0) (by
        rw [List.getD_eq_getElem?_getD, List.getElem?_eq_getElem (by rw [HL.out]; exact h2)]
        exact List.getElem_mem _))))
      clear h ho H4 HM HX HN hn
      go_wp2
      go_loopw [54] (fun v wr => ∃ (i : Nat) (r : Po), i ≤ n ∧ v = .int .i64 i ∧ Hid (K11 w wr g gr r 300 ∧ wr.ownsRow w4.heap.size 3 1 (.slice a5 n c5) n (intsV ids) ∧ ∀ m, i ≤ m → m < n → r.unfixE (ids.getD m 0) = 0)) (fun v _ => n - (intOf v).toNat)
      case atStart => exact ⟨0, q, Nat.zero_le _, rfl, H5⟩
      case round =>
        obtain ⟨i, r, hi, rfl, HK⟩ := hrel
        clear H5
        by_cases hlt : i < n
        · have i2 : (i : Int) < n := by omega
          obtain ⟨b, rfl⟩ : ∃ b, a5 = some ⟨b, 0, none⟩ := by
            rcases HK.out.2.1.2 with ⟨h, h0⟩ | ⟨g, cap, cur, h, _⟩
            · omega
            · injection h with h
              exact ⟨g, h⟩
          have c0 := HK.out.2.1.cellAt i (by omega)
          rw [intsV_get _ _ (by rw [HL.out]; exact hlt)] at c0
          go_wp2_with fail
          have T := kunfix11 (ids.getD i 0) (by omega) HK.out.1
          rw [HK.out.2.2 i (Nat.le_refl _) hlt] at T
          refine T.mono ?_
          rintro e w6 ⟨rfl, h, ht⟩
          have H6 := hide (And.intro h (And.intro (own11_turn HK.out.2.1 ht HG.out) (show ∀ m, i + 1 ≤ m → m < n → (r.unfix (ids.getD i 0)).unfixE (ids.getD m 0) = 0 from fun m h1 h2 => by
            rw [Po.unfix_other _ _ _ ?_]
            · exact HK.out.2.2 m (by omega) h2
            · have hp := List.pairwise_iff_getElem.1 HR.out i m (by rw [HL.out]; omega) (by rw [HL.out]; exact h2) (by omega)
              rw [List.getD_eq_getElem?_getD, List.getD_eq_getElem?_getD, List.getElem?_eq_getElem (by rw [HL.out]; exact h2), List.getElem?_eq_getElem (by rw [HL.out]; exact hlt)]
              simp only [Option.getD_some]
              omega)))
          clear h ht T HK c0
          go_wp2
          go_roundw
          case rel => exact ⟨i + 1, _, by omega, by go_num, H6⟩
          case measure => simp [intOf]; omega
        · have i2 : ¬ (i : Int) < n := by omega
          go_wp2
          go_ret
          exact ⟨rfl, HK.out.1.bel⟩
end Go.Proofs.Ythigibgokbmehaa.poolVictims
