/-
  The walk of PoolPlays: it returns true, and turns nothing that was there.
-/
import Derived.Test.YthigibgokbmehaaPoolAwake
import Derived.Test.YthigibgokbmehaaPoolMoves
import Derived.Test.YthigibgokbmehaaPoolAsks
import Derived.Test.YthigibgokbmehaaPoolScr
namespace Go.Proofs.Ythigibgokbmehaa.poolPlays
open Go.RowKit
set_option linter.unusedVariables false

set_option maxRecDepth 4000 in
set_option maxHeartbeats 1600000 in
theorem walk (f : Int) (v : Value) (cs : List Pc) (w : World) (wf : (Lit.int .i64 f).wf = true) (h1 : RowsIn pcA Pc.zero 4 w v cs) (h2 : cs.length ≤ maxLen) (h3 : ∀ c ∈ cs, c.fits) (h4 : ∀ a len cap, v = .slice a len cap → len ≤ cap) :
    Calls Try.prog 3 #[.int .i64 f, v] w fun e w' => e = .returned (.bool true) ∧ Below w.heap.size w w' := by
  have h' := h1
  obtain ⟨a, cap, rfl, -⟩ := h'
  have hs : Scr11 w (.slice a cs.length cap) cs := ⟨h1, h3, h4⟩
  have hcap := h4 _ _ _ rfl
  obtain ⟨ln, hln⟩ : ∃ ln, cs.length = ln := ⟨_, rfl⟩
  rw [hln] at hs h2 hcap ⊢
  have HS := hide hs
  have HL := hide hln
  clear h1 h3 h4 hs hln
  go_enter Try.func3, Try.ntmps3
  go_wp2_with fail
  refine (awake11_any _).mono ?_
  rintro e w1 ⟨rfl, hb1⟩
  by_cases hl : 300 < ln
  · have hl2 : (300 : Int) < (ln : Int) := by omega
    go_wp2_with fail
    refine (awake11_any _).mono ?_
    rintro e w2 ⟨rfl, hb2⟩
    go_wp2
    go_ret
    exact ⟨rfl, hb1.trans (hb2.mono hb1.size)⟩
  have hl2 : ¬ (300 : Int) < (ln : Int) := by omega
  have HB1 := hide hb1
  clear hb1
  go_wp2_with fail
  refine (knew11 (w0 := w) f HB1.out).mono ?_
  rintro e w2 ⟨g, gr, rfl, h, -⟩
  have H2 := hide h
  clear h
  go_wp2_with fail
  refine (rnew11 f w2).mono ?_
  rintro e w3 ⟨k, kr, rfl, h, hk, hkr, hbl⟩
  have H3 := hide (show D11 w w3 g gr k kr (Po.new (.string ⟨#[]⟩) f) 0 from ⟨H2.out.later hbl, h, fun c h1 h2 => by
    have g1 := H2.out.ps.lt
    rcases h1 with rfl | rfl <;> rcases h2 with rfl | rfl <;> omega, Nat.le_trans H2.out.bel.size hk, Nat.le_trans H2.out.bel.size hkr⟩)
  clear h hk hkr hbl H2 HB1
  go_wp2
  go_loopw [26] (fun v wr => ∃ (j : Nat) (p : Po), j ≤ ln ∧ v = .int .i64 j ∧ Hid (D11 w wr g gr k kr p j)) (fun v _ => ln - (intOf v).toNat)
  case atStart => exact ⟨0, _, Nat.zero_le _, rfl, H3⟩
  case round =>
    obtain ⟨j, p, hj, rfl, HK⟩ := hrel
    clear H3
    by_cases hlt : j < ln
    · have i1 : (j : Int) < ln := by omega
      have hjc : j < cs.length := by rw [HL.out]; exact hlt
      obtain ⟨b, off, rfl, hbl, ck, i, s, n, hc, hld, -, hci, hsz, -, -⟩ := HS.out.at HK.out.l.bel (j := j) hjc
      have HLD := hide hld
      clear HS hc hld hci hbl hjc
      have hN := RowAt.new wr 30 #[.int .i64 ck, .int .i64 i, .string s, .int .u64 n]
      have hbN : Below wr.heap.size wr (wr.alloc (.cells #[.int .i64 ck, .int .i64 i, .string s, .int .u64 n] 30)) := (Below.refl _ _).alloc (Nat.le_refl _) _
      have HB := hide (HK.out.ob #[.int .i64 ck, .int .i64 i, .string s, .int .u64 n] 30)
      have HD := hide (HK.out.later hbN)
      have HN := hide hN
      clear HK hN hbN
      go_wp2_with (refine wpList_load_run11 rfl 30 _ rfl _ _ rfl HLD.out ?_)
      refine (moves11 ck i s n (by omega) HD.out).mono ?_
      rintro e w4 ⟨rfl, ⟨q, h4⟩, t4⟩
      have hR := t4.row HN.out (fun e => by
        rcases e with e | e
        · exact HB.out.l e
        · exact HB.out.r e)
      have c0 := hR.cell 0 _ rfl
      have c1 := hR.cell 1 _ rfl
      have H4 := hide h4
      clear hR h4 t4 HB HN HLD HD
      go_wp2_with fail
      refine (asks11 ck i H4.out).mono ?_
      rintro e w5 ⟨rfl, h5, -⟩
      have H5 := hide h5
      clear h5 H4 c0 c1
      go_wp2
      go_roundw
      case rel => exact ⟨j + 1, _, by omega, by go_num, H5⟩
      case measure => simp [intOf]; omega
    · have i1 : ¬ (j : Int) < ln := by omega
      go_wp2
      go_loopw [9] (fun v wz => ∃ m : Nat, 10 ≤ m ∧ m ≤ 13 ∧ v = .int .i64 m ∧ Hid (D11 w wz g gr k kr p j)) (fun v _ => 13 - (intOf v).toNat)
      case atStart => exact ⟨10, by omega, by omega, rfl, HK⟩
      case round =>
        obtain ⟨m, hm1, hm2, rfl, HK2⟩ := hrel
        clear HK
        by_cases hlt2 : m ≤ 12
        · have i2 : (m : Int) ≤ 12 := by omega
          go_wp2_with fail
          refine (asks11 (m : Int) 0 HK2.out).mono ?_
          rintro e w5 ⟨rfl, h5, -⟩
          have H5 := hide h5
          clear h5 HK2
          go_wp2
          go_roundw
          case rel => exact ⟨m + 1, by omega, by omega, by go_num, H5⟩
          case measure => simp [intOf]; omega
        · have i2 : ¬ (m : Int) ≤ 12 := by omega
          go_wp2
          go_ret
          exact ⟨rfl, HK2.out.l.bel⟩
end Go.Proofs.Ythigibgokbmehaa.poolPlays
