/-
  The walk of OwnerPlays: it returns true, and turns nothing that was there.
-/
import Derived.Test.YtpbdachbefafiaaOwDoes2
import Derived.Test.YtpbdachbefafiaaListHand
namespace Go.Proofs.Ytpbdachbefafiaa.ownerPlays
open Go.RowKit
set_option linter.unusedVariables false

theorem step8 (d : Dr) (p : Int) : d.step ⟨8, p, 0, 0⟩ = d := rfl
theorem knews {w0 w : World} (hb : Below w0.heap.size w0 w) (p : Int) {w2 : World} {g gr : Nat} (h : K14 w0 w2 g gr (Dr.new p)) : Calls Try.prog 10 #[.int .i64 p] w2 fun e w' => ∃ k kr, e = .returned (.pointer (some ⟨k, 0, none⟩)) ∧ D14 w0 w' g gr k kr (Dr.new p) := by
  refine (rnew14 p w2).mono ?_
  rintro e w' ⟨k, kr, rfl, h1, h2, h3, h4⟩
  exact ⟨k, kr, rfl, (h.later h4).at_, h1, ⟨h.new.1, h.new.2, Nat.le_trans h.bel.size h2, Nat.le_trans h.bel.size h3⟩, (h.later h4).bel, h.ok⟩
set_option maxRecDepth 8000 in
set_option maxHeartbeats 6400000 in
theorem walk (p : Int) (v : Value) (cs : List Od) (w : World) (hp : (Lit.int .i64 p).wf = true) (h1 : RowsIn odA Od.zero 4 w v cs) (h2 : cs.length ≤ maxLen) (h3 : ∀ c ∈ cs, c.fits) (h4 : ∀ a len cap, v = .slice a len cap → len ≤ cap) :
    Calls Try.prog 3 #[.int .i64 p, v] w fun e w' => e = .returned (.bool true) ∧ Below w.heap.size w w' := by
  have h' := h1
  obtain ⟨a, cap, rfl, -⟩ := h'
  have hs : Scr14 w (.slice a cs.length cap) cs := ⟨h1, h3, h4⟩
  have hcap := h4 _ _ _ rfl
  obtain ⟨ln, hln⟩ : ∃ ln, cs.length = ln := ⟨_, rfl⟩
  rw [hln] at hs h2 hcap ⊢
  have HS := hide hs
  have HLN := hide hln
  clear h1 h3 h4 hs hln hp
  go_enter Try.func3, Try.ntmps3
  go_wp2_with fail
  refine (awake14 _).mono ?_
  rintro e w1 ⟨rfl, hb1⟩
  by_cases hl : 1000 < ln
  · have hl2 : (1000 : Int) < (ln : Int) := by omega
    go_wp2_with fail
    refine (awake14 _).mono ?_
    rintro e w2 ⟨rfl, hb2⟩
    go_wp2
    go_ret
    exact ⟨rfl, hb1.trans (hb2.mono hb1.size)⟩
  have hl2 : ¬ (1000 : Int) < (ln : Int) := by omega
  have HB1 := hide hb1
  clear hb1
  go_wp2_with fail
  refine (knew14 HB1.out p).mono ?_
  rintro e w2 ⟨g, gr, rfl, hK⟩
  have HK := hide hK
  clear hK
  go_wp2_with fail
  refine (knews HB1.out p HK.out).mono ?_
  rintro e w3 ⟨k, kr, rfl, hD⟩
  have HD := hide (show D14 w w3 g gr k kr (playD p (cs.take 0)) from hD)
  clear hD HK HB1
  go_wp2
  go_loopw [25] (fun q wr => ∃ j : Nat, j ≤ ln ∧ q = .int .i64 j ∧ Hid (D14 w wr g gr k kr (playD p (cs.take j)))) (fun q _ => ln - (intOf q).toNat)
  case atStart => exact ⟨0, Nat.zero_le _, rfl, HD⟩
  case round =>
    obtain ⟨j, hj, rfl, HR⟩ := hrel
    by_cases hlt : j < ln
    · have i1 : (j : Int) < (ln : Int) := by omega
      obtain ⟨b, off, rfl, -, c, hc, hld, -, hfit⟩ := HS.out.at HR.out.bel (j := j) (by rw [HLN.out]; exact hlt)
      have HST := hide (playD_snoc p cs j c hc)
      have HLD := hide hld
      clear hld hc hfit
      go_wp2_with (with_reducible refine stop_at 33 rfl ?_)
      refine unstop10 ?_
      refine lst_load (some 33) (.agg (odA c)) rfl rfl 30 (.tmp 32) rfl _ rfl HLD.out ?_
      simp only [Act.put, Array.setIfInBounds, List.size_toArray, List.length_cons, List.length_nil, Nat.reduceAdd, Nat.reduceLT, ↓reduceDIte, List.set_toArray, List.set_cons_succ, List.set_cons_zero]
      clear HLD
      go_wp2_with fail
      refine (does14 HR.out c).mono ?_
      rintro e w4 ⟨rfl, hq⟩
      rw [← HST.out] at hq
      have HQ := hide hq
      clear hq HR HST
      go_wp2
      go_roundw
      case rel => exact ⟨j + 1, by omega, by go_num, HQ⟩
      case measure => simp [intOf]; omega
    · have i1 : ¬ (j : Int) < (ln : Int) := by omega
      generalize playD p (cs.take j) = D at *
      clear HS HLN HD
      go_wp2
      go_loopw [8] (fun q wr => ∃ j : Nat, j ≤ 34 ∧ q = .int .i64 ((j : Int) - 1) ∧ Hid (D14 w wr g gr k kr D)) (fun q _ => 34 - (intOf q + 1).toNat)
      case atStart => exact ⟨0, by omega, rfl, HR⟩
      case round =>
        obtain ⟨i, hi, rfl, HE⟩ := hrel
        by_cases hlt2 : i < 34
        · have i2 : ((i : Int) - 1) ≤ 32 := by omega
          have T := does14 HE.out ⟨8, (i : Int) - 1, 0, 0⟩
          rw [step8] at T
          have HT := hide T
          clear T
          go_wp2_with fail
          refine HT.out.mono ?_
          rintro e w5 ⟨rfl, hq⟩
          have HQ := hide hq
          clear hq HE HT
          go_wp2
          go_roundw
          case rel => exact ⟨i + 1, by omega, by go_num, HQ⟩
          case measure => simp [intOf]; omega
        · have i2 : ¬ ((i : Int) - 1) ≤ 32 := by omega
          have HX := hide HE.out.bel
          clear HE
          go_wp2
          go_ret
          exact ⟨rfl, HX.out⟩
end Go.Proofs.Ytpbdachbefafiaa.ownerPlays
