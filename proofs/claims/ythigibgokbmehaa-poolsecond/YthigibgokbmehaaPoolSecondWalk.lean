/-
  The walk of PoolSecond: it returns true, and turns nothing that was there. (gen11/second.py)
-/
import Derived.Test.YthigibgokbmehaaPoolAwake
import Derived.Test.YthigibgokbmehaaPoolPlayed
import Derived.Test.YthigibgokbmehaaPoolFacts
namespace Go.Proofs.Ythigibgokbmehaa.poolSecond
open Go.RowKit
set_option linter.unusedVariables false

set_option maxRecDepth 4000 in
set_option maxHeartbeats 1600000 in
theorem walk (f id : Int) (v : Value) (cs : List Pc) (w : World) (wf : (Lit.int .i64 f).wf = true) (wi : (Lit.int .i64 id).wf = true) (h1 : RowsIn pcA Pc.zero 4 w v cs) (h2 : cs.length ≤ maxLen) (h3 : ∀ c ∈ cs, c.fits) (h4 : ∀ a len cap, v = .slice a len cap → len ≤ cap) :
    Calls Try.prog 6 #[.int .i64 f, .int .i64 id, v] w fun e w' => e = .returned (.bool true) ∧ Below w.heap.size w w' := by
  have h' := h1
  obtain ⟨a, cap, rfl, -⟩ := h'
  have hs : Scr11 w (.slice a cs.length cap) cs := ⟨h1, h3, h4⟩
  obtain ⟨ln, hln⟩ : ∃ ln, cs.length = ln := ⟨_, rfl⟩
  rw [hln] at hs h2 ⊢
  have HS := hide hs
  clear h1 h3 h4 hs hln
  go_enter Try.func6, Try.ntmps6
  go_wp2_with fail
  refine (awake11_any _).mono ?_
  rintro e w1 ⟨rfl, hb1⟩
  by_cases hl : 300 < ln
  · have hl2 : (300 : Int) < (ln : Int) := by omega
    go_wp2_with fail
    refine (awake11_any _).mono ?_
    rintro e w2 ⟨rfl, hb2⟩
    go_wp2
    go_ret
    exact ⟨rfl, hb1.trans (hb2.mono hb1.size)⟩
  have hl2 : ¬ (300 : Int) < (ln : Int) := by omega
  have HB1 := hide hb1
  clear hb1
  go_wp2_with fail
  refine (played11 (w0 := w) f HS.out (by omega) HB1.out).mono ?_
  rintro e w2 ⟨g, gr, p, rfl, h⟩
  have H2 := hide h
  clear h HB1 HS
  have HF := hide (H2.out.ok.second id)
  go_wp2_with fail
  refine (kvic11 H2.out).mono ?_
  rintro e w3 ⟨rfl, h, -⟩
  have H3 := hide h
  clear h
  go_wp2_with fail
  refine (kvic11 H3.out).mono ?_
  rintro e w4 ⟨rfl, h, -⟩
  have H4 := hide h
  clear h
  generalize hE : p.vicE = e0 at *
  generalize hE1 : p.vic.1.vicE = e1 at *
  generalize hI : p.vicI = i0 at *
  generalize hI1 : p.vic.1.vicI = i1 at *
  have HE := hide (And.intro hE (And.intro hE1 hI1))
  clear hE hE1 hI hI1 H2 H3
  by_cases z0 : e0 = 0
  · have z1 : e1 = 0 := HF.out.1.1 z0
    have b0 : (e0 == 0) = true := by simpa using z0
    have b1 : (e1 == 0) = true := by simpa using z1
    have HF2 := hide (HF.out.2 z0)
    subst z0 z1
    clear HF
    go_wp2_with fail
    refine (kget11 id H4.out).mono ?_
    rintro e w5 ⟨s, rfl, -, h, -⟩
    have H5 := hide h
    clear h H4
    cases hh : p.vic.1.vic.1.has id with
    | false =>
      have HH := hide hh
      clear hh
      go_wp2
      go_ret
      exact ⟨rfl, H5.out.bel⟩
    | true =>
      by_cases hn : i1 = id
      · have bn : (i1 == id) = true := by simpa using hn
        have HN := hide hn
        have HH := hide hh
        clear hh hn
        go_wp2
        go_ret
        exact ⟨rfl, H5.out.bel⟩
      · have bn : (i1 == id) = false := by simpa using hn
        have HV := hide (HF2.out hh hn)
        have HH := hide hh
        have HN := hide hn
        clear hh hn HF2
        go_wp2_with fail
        have T := kget11 id H5.out
        rw [Po.get_get] at T
        refine T.mono ?_
        rintro e w6 ⟨s2, rfl, -, h, -⟩
        have H6 := hide h
        clear h T H5
        go_wp2_with fail
        have T := kvic11 H6.out
        rw [HV.out.1] at T
        refine T.mono ?_
        rintro e w7 ⟨rfl, h, -⟩
        have H7 := hide h
        clear h T
        generalize hI2 : (p.vic.1.vic.1.get id).vicI = i2 at *
        have hv2 : (i2 == id) = false := by
          have := HV.out.2
          simpa using this
        have hv3 : (i2 != id) = true := by
          have := HV.out.2
          simpa using this
        clear hI2 HV H6
        go_wp2
        go_ret
        exact ⟨rfl, H7.out.bel⟩
  · have z1 : ¬ e1 = 0 := fun c => z0 (HF.out.1.2 c)
    have b0 : (e0 == 0) = false := by simpa using z0
    have b1 : (e1 == 0) = false := by simpa using z1
    have b2 : (e0 != 0) = true := by simpa using z0
    have Z := hide (And.intro z0 z1)
    clear z0 z1 HF
    go_wp2_with fail
    refine (kget11 id H4.out).mono ?_
    rintro e w5 ⟨s, rfl, -, h, -⟩
    have H5 := hide h
    clear h H4
    go_wp2
    go_ret
    exact ⟨rfl, H5.out.bel⟩
end Go.Proofs.Ythigibgokbmehaa.poolSecond
