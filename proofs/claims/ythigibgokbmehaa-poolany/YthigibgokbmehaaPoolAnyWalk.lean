/-
  The walk of PoolAny: it returns true, and turns nothing that was there.
-/
import Derived.Test.YthigibgokbmehaaPoolAwake
import Derived.Test.YthigibgokbmehaaPoolTextsT
import Derived.Test.YthigibgokbmehaaPoolTextsL
import Derived.Test.YthigibgokbmehaaPoolScr
import Derived.Test.YthigibgokbmehaaPoolNum
import Derived.Test.YthigibgokbmehaaPoolSame
namespace Go.Proofs.Ythigibgokbmehaa.poolAny
open Go.RowKit
set_option linter.unusedVariables false

/-- Both pools. -/
structure B11 (w0 x : World) (g gr k kr : Nat) (p : Po) (b : Nat) : Prop where
  l : K11 w0 x g gr p b
  r : K11i w0 x k kr p.num b
  off : ∀ c, FP g gr c → ¬ FP k kr c
theorem B11.left {w0 x y : World} {g gr k kr b c : Nat} {p q : Po} (h : B11 w0 x g gr k kr p b) (h1 : K11 w0 y g gr q c) (h2 : Tn (FP g gr) x y) : K11i w0 y k kr p.num b :=
  h.r.turn h2 (fun e => h.off _ e (.inl rfl)) (fun e => h.off _ e (.inr rfl)) (fun m hm => by
    rcases hm with rfl | rfl
    · exact h.l.lo.1
    · exact h.l.lo.2)
theorem two11 {w0 x y : World} {g gr k kr b c : Nat} {p q : Po} (h1 : K11 w0 x g gr p b) (h2 : K11i w0 x k kr q c) (hf : ∀ c, FP g gr c → ¬ FP k kr c) (h3 : Tn (FP k kr) x y) : K11 w0 y g gr p b :=
  h1.turn h3 (fun e => hf _ (.inl rfl) e) (fun e => hf _ (.inr rfl) e) (fun m hm => by
    rcases hm with rfl | rfl
    · exact h2.lo.1
    · exact h2.lo.2)
set_option maxRecDepth 4000 in
set_option maxHeartbeats 1600000 in
theorem walk (f : Int) (v : Value) (cs : List Pc) (w : World) (wf : (Lit.int .i64 f).wf = true) (h1 : RowsIn pcA Pc.zero 4 w v cs) (h2 : cs.length ≤ maxLen) (h3 : ∀ c ∈ cs, c.fits) (h4 : ∀ a len cap, v = .slice a len cap → len ≤ cap) :
    Calls Try.prog 4 #[.int .i64 f, v] w fun e w' => e = .returned (.bool true) ∧ Below w.heap.size w w' := by
  have h' := h1
  obtain ⟨a, cap, rfl, -⟩ := h'
  have hs : Scr11 w (.slice a cs.length cap) cs := ⟨h1, h3, h4⟩
  have hcap := h4 _ _ _ rfl
  obtain ⟨ln, hln⟩ : ∃ ln, cs.length = ln := ⟨_, rfl⟩
  rw [hln] at hs h2 hcap ⊢
  have HS := hide hs
  have HL := hide hln
  clear h1 h3 h4 hs hln
  go_enter Try.func4, Try.ntmps4
  go_wp2_with fail
  refine (awake11_any _).mono ?_
  rintro e w1 ⟨rfl, hb1⟩
  by_cases hl : 300 < ln
  · have hl2 : (300 : Int) < (ln : Int) := by omega
    go_wp2_with fail
    refine (awake11_any _).mono ?_
    rintro e w2 ⟨rfl, hb2⟩
    go_wp2
    go_ret
    exact ⟨rfl, hb1.trans (hb2.mono hb1.size)⟩
  have hl2 : ¬ (300 : Int) < (ln : Int) := by omega
  have HB1 := hide hb1
  clear hb1
  go_wp2_with fail
  refine (knew11 (w0 := w) f HB1.out).mono ?_
  rintro e w2 ⟨g, gr, rfl, h, -⟩
  have H2 := hide h
  clear h
  go_wp2_with fail
  refine (knew11i (w0 := w) f H2.out.bel).mono ?_
  rintro e w3 ⟨k, kr, rfl, h, hk, hkr, hbl⟩
  have H3 := hide (show B11 w w3 g gr k kr (Po.new (.string ⟨#[]⟩) f) 0 from ⟨H2.out.later hbl, h, fun c h1 h2 => by
    have g1 := H2.out.ps.lt
    rcases h1 with rfl | rfl <;> rcases h2 with rfl | rfl <;> omega⟩)
  clear h hk hkr hbl H2 HB1
  go_wp2
  go_loopw [36] (fun v wr => ∃ (j : Nat) (p : Po), j ≤ ln ∧ v = .int .i64 j ∧ Hid (B11 w wr g gr k kr p j)) (fun v _ => ln - (intOf v).toNat)
  case atStart => exact ⟨0, _, Nat.zero_le _, rfl, H3⟩
  case round =>
    obtain ⟨j, p, hj, rfl, HK⟩ := hrel
    clear H3
    by_cases hlt : j < ln
    · have i1 : (j : Int) < ln := by omega
      have hjc : j < cs.length := by rw [HL.out]; exact hlt
      obtain ⟨b, off, rfl, hbl, ck, i, s, n, hc, hld, -, hci, hsz, -, -⟩ := HS.out.at HK.out.l.bel (j := j) hjc
      have HA := hide (show ∀ y, Below w.heap.size w y → (Instr.loadAt 30 (.pointer (some ⟨b, off + j * 4, none⟩))).run Try.prog y = .ok (.agg #[.int .i64 ck, .int .i64 i, .string s, .int .u64 n]) y ∧ y.cell? ⟨b, off + j * 4 + 1, none⟩ = some (.int .i64 i) from fun y hy => by
        obtain ⟨b', off', e1, _, ck', i', s', n', hc', hld', _, hci', _⟩ := HS.out.at hy (j := j) hjc
        injection e1 with e1
        injection e1 with e2 e3
        subst e2 e3
        rw [hc] at hc'
        injection hc' with q1 q2 q3 q4
        subst q1 q2 q3 q4
        exact ⟨hld', hci'⟩)
      clear HS hc hld hci hbl hjc
      have HLD := hide (HA.out _ HK.out.l.bel).1
      go_wp2_with (refine wpList_load_run11 rfl 30 _ rfl _ _ rfl HLD.out ?_)
      refine (texts11 ck i s n hsz (by omega) HK.out.l).mono ?_
      rintro e w4 ⟨rfl, h4, ht⟩
      have HR := hide (HK.out.left h4 ht)
      have HO := hide HK.out.off
      have H4 := hide h4
      have HLD2 := hide (HA.out _ h4.bel).1
      clear h4 ht HK HLD
      go_wp2_with (refine wpList_load_run11 rfl 30 _ rfl _ _ rfl HLD2.out ?_)
      have T := lengths11 ck i s n hsz (by omega) HR.out
      rw [num_didI, num_didE, show Value.int .i64 (s.size : Int) = lenV (.string s) from rfl, ← num_did] at T
      refine T.mono ?_
      rintro e w5 ⟨rfl, h5, ht⟩
      have H5 := hide h5
      have H5l := hide (two11 H4.out HR.out HO.out ht)
      have c1 := (HA.out _ h5.bel).2
      clear h5 ht T H4 HR HLD2
      generalize p.did ck i (.string s) n = q at *
      generalize p.didI ck = z1 at *
      generalize p.didE ck i = z2 at *
      go_wp2_with fail
      refine (kget11 i H5l.out).mono ?_
      rintro e w6 ⟨x, rfl, hx, h6, ht⟩
      have HB6 := hide (show B11 w w5 g gr k kr q (j + 1) from ⟨H5l.out, H5.out, HO.out⟩)
      have H6 := hide h6
      have H6r := hide (HB6.out.left h6 ht)
      have HX := hide hx
      have c1' := (HA.out _ h6.bel).2
      clear h6 ht hx HB6 H5 H5l c1
      go_wp2_with fail
      have T := kget11i i H6r.out
      rw [num_has, ← num_get] at T
      refine T.mono ?_
      rintro e w7 ⟨y, rfl, hy, h7, ht⟩
      have hy2 : (x.size : Int) = y := by
        rw [num_getX, HX.out] at hy
        injection hy
      subst hy2
      have H7 := hide (show B11 w w7 g gr k kr (q.get i) (j + 1) from ⟨two11 H6.out H6r.out HO.out ht, h7, HO.out⟩)
      clear h7 ht T H6 H6r HX hy c1' HA HO
      generalize q.has i = z3 at *
      go_wp2
      go_roundw
      case rel => exact ⟨j + 1, _, by omega, by go_num, H7⟩
      case measure => simp [intOf]; omega
    · have i1 : ¬ (j : Int) < ln := by omega
      go_wp2_with fail
      refine (kpages11 HK.out.l).mono ?_
      rintro e w4 ⟨v4, rfl, o4, h4, hb4⟩
      have H4 := hide (And.intro o4 (And.intro h4 (HK.out.r.later hb4)))
      clear o4 h4 hb4 HK
      go_wp2_with fail
      have T := kpages11i H4.out.2.2
      rw [num_ids] at T
      refine T.mono ?_
      rintro e w5 ⟨v5, rfl, o5, h5, hb5⟩
      have H5 := hide (And.intro (own11_later H4.out.1 hb5) (And.intro o5 (And.intro (H4.out.2.1.later hb5) h5)))
      clear o5 h5 hb5 H4 T
      obtain ⟨a4, c4, rfl, -⟩ := own11_shape H5.out.1
      obtain ⟨a5, c5, rfl, -⟩ := own11_shape H5.out.2.1
      go_wp2_with fail
      refine (ints11 _ (p.idsTo_len 32) H5.out.1 H5.out.2.1).mono ?_
      rintro e w6 ⟨rfl, hb6⟩
      have H6 := hide (And.intro (H5.out.2.2.1.later hb6) (H5.out.2.2.2.later hb6))
      clear hb6 H5
      go_wp2_with fail
      refine (kdirty11 H6.out.1).mono ?_
      rintro e w7 ⟨v7, rfl, o7, h7, hb7⟩
      have H7 := hide (And.intro o7 (And.intro h7 (H6.out.2.later hb7)))
      clear o7 h7 hb7 H6
      obtain ⟨a7, c7, rfl, -⟩ := own11_shape H7.out.1
      go_wp2_with fail
      have T := kdirty11i H7.out.2.2
      rw [num_dir] at T
      refine T.mono ?_
      rintro e w8 ⟨v8, rfl, o8, h8, hb8⟩
      have H8 := hide (And.intro (own11_later H7.out.1 hb8) (And.intro o8 (H7.out.2.1.later hb8)))
      clear o8 h8 hb8 H7 T
      obtain ⟨a8, c8, rfl, -⟩ := own11_shape H8.out.2.1
      go_wp2_with fail
      refine (rows11 _ (p.dirTo_len 32) H8.out.1 H8.out.2.1).mono ?_
      rintro e w9 ⟨rfl, hb9⟩
      have H9 := hide (H8.out.2.2.later hb9)
      clear hb9 H8
      go_wp2
      go_ret
      exact ⟨rfl, H9.out.bel⟩
end Go.Proofs.Ythigibgokbmehaa.poolAny
