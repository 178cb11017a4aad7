/-
  Texts that lean on one another, one behind the other: each opens with its own remark.
-/
import Derived.Test.YthamodoedlpmdaaProg
import Derived.RegionTactic
import Derived.BigRegion
import Derived.WalkSpells
import Derived.Test.YthamodoedlpmdaaK12
import Derived.Test.YthamodoedlpmdaaK03
import Derived.Test.YthamodoedlpmdaaK00
import Derived.Test.YthamodoedlpmdaaK06
import Derived.Test.YthamodoedlpmdaaK04
import Derived.Test.YthamodoedlpmdaaK05

/-
  The contracts of quaysidelaw09.commit and awake.
-/
namespace Go.Proofs.Ythamodoedlpmdaa
open Go.RowKit
set_option linter.unusedVariables false

/-- The smallest record there is. -/
def cmR : Rec := ⟨3, 0, 1, 0, Ch.zero, 0, 0, 0, [], []⟩
theorem cmR_fits : cmR.fits := ⟨zero_fits, Nat.zero_le _, Nat.zero_le _, fun x hx => (nomatch hx), fun x hx => (nomatch hx)⟩
theorem cmR_right (n : Nat) (h1 : 1 ≤ n) (h2 : n ≤ maxP) : (cmR.put n).right := by
  have ek : (cmR.put n).k = 3 := rfl
  have et : (cmR.put n).t = 1 := rfl
  refine ⟨by rw [ek]; decide, by rw [ek]; decide, h1, h2, fun _ => ⟨by rw [et]; decide, by rw [et]; decide, h1⟩, fun h => ?_, fun h => ?_, fun _ => rfl, fun h => ?_, fun _ => rfl, fun h => ?_, fun _ => rfl, fun h => ?_, fun _ => ⟨rfl, rfl, rfl⟩⟩
  all_goals
    rw [ek] at h
    exact absurd h (by decide)
theorem cmR_len (n : Nat) : (frameB (cmR.put n)).length = 27 := by
  rw [frameB_length]
  simp [recB, cmR, Rec.put, beB_length, mayB]
theorem cmA : rcA cmR (.slice none 0 0) (.slice none 0 0) = #[.int .i64 3, .int .u64 0, .int .i64 1, .int .u64 0, .int .i64 0, .int .i64 0, .int .i64 0, .string ⟨#[]⟩, .string ⟨#[]⟩, .int .u64 0, .int .i64 0, .int .u64 0, .slice none 0 0, .slice none 0 0] := rfl
set_option maxRecDepth 4000 in
set_option maxHeartbeats 800000 in
theorem commit9_any (w : World) : Calls Try.prog 17 #[] w fun e w' => e = .returned (.agg (rcA cmR (.slice none 0 0) (.slice none 0 0))) ∧ Below w.heap.size w w' := by
  have HZ := hide (And.intro (RowAt.new w 43 zeroA) ((Below.refl w.heap.size w).alloc (Nat.le_refl _) (.cells zeroA 43)))
  go_enter Try.func17, Try.ntmps17
  go_wp2_with (refine wpList_store_at rfl 43 (.tmp 0) (.tmp 1) rfl w.heap.size zeroA (rcA cmR (.slice none 0 0) (.slice none 0 0)) rfl rfl HZ.out.1 infoRc rfl (by simp [rcA, Value.oneCell']) ?_)
  intro w3 hr3 hk3 hrow3
  have hb3 := hk3 _ _ HZ.out.2 (Nat.le_refl _)
  have HR := hide (And.intro hr3 hb3)
  clear hr3 hk3 hrow3 hb3 HZ
  go_wp2
  exact bodyPost_ret (res_one rfl _ _ w.heap.size (rcA cmR (.slice none 0 0) (.slice none 0 0)) _ rfl HR.out.1 Try.underlying43 rfl infoRc) rfl ⟨rfl, HR.out.2⟩
theorem scan_nil9 : scanL [] = ([], 0) := scan_whole [] trivial
/-- The log of awake. -/
def aw9 : Lg := ⟨⟨⟨#[]⟩, 0, 100, 0⟩, 0, [], 0, 0, 0, 0⟩
theorem aw9_open : Lg.open (Tp.new 100) 0 = aw9 := by
  unfold Lg.open
  have e : (Tp.new 100).b.data.toList = [] := rfl
  rw [e, scan_nil9]
  rfl
theorem aw9_used : aw9.used = 0 := rfl
theorem aw9_app : aw9.appE cmR 0 60 = 0 := by
  unfold Lg.appE
  rw [if_neg (by decide), if_neg (by decide), if_neg (fun h => h (cmR_right 1 (by decide) (by decide))), if_neg]
  have e : aw9.num 0 = 1 := rfl
  rw [e, cmR_len]
  decide
def aw9b : Lg := ⟨⟨⟨#[]⟩, 0, 100, 0⟩, 1, [cmR.put 1], 0, 0, 60, 0⟩
theorem aw9_two : aw9.app cmR 0 60 = aw9b ∧ aw9.appN cmR 0 60 = 1 := by
  obtain ⟨h1, h2⟩ := aw9.app_yes cmR 0 60 aw9_app
  rw [h1, h2]
  exact ⟨rfl, rfl⟩
theorem aw9b_used : aw9b.used = 27 := by
  have e : aw9b.used = 0 + (framesB [cmR.put 1]).length := rfl
  rw [e, frames_one, cmR_len]
theorem aw9b_app : aw9b.appE cmR 0 0 = 7 := by
  unfold Lg.appE
  rw [if_neg (by decide), if_neg (by decide), if_neg (fun h => h (cmR_right 2 (by decide) (by decide))), if_pos]
  have e : aw9b.num 0 = 2 := rfl
  rw [e, cmR_len, aw9b_used]
  decide

set_option maxRecDepth 8000 in
set_option maxHeartbeats 1600000 in
theorem awake9_any (w : World) : Calls Try.prog 7 #[] w fun e w' => e = .returned (.bool true) ∧ Below w.heap.size w w' := by
  go_enter Try.func7, Try.ntmps7
  go_wp2_with fail
  refine (knew8 100 w w (Below.refl _ _)).mono ?_
  rintro e w1 ⟨rfl, h1, -⟩
  have H1 := hide h1
  clear h1
  go_wp2_with fail
  have T := kfirst9 w w1 w.heap.size (Tp.new 100) 0 H1.out (by decide)
  rw [aw9_open] at T
  refine T.mono ?_
  rintro e w2 ⟨gl, rfl, h2⟩
  have H2 := hide h2
  clear h2 T H1
  go_wp2_with fail
  refine (commit9_any w2).mono ?_
  rintro e w3 ⟨rfl, hb3⟩
  have H3 := hide (H2.out.later hb3)
  clear hb3 H2
  go_wp2_with fail
  have T := kapp9 H3.out cmR _ _ 0 60 cmR_fits (rckn (w := w3) rfl rfl) (by decide) (by decide)
  rw [aw9_two.1, aw9_two.2, aw9_app] at T
  refine T.mono ?_
  rintro e w4 ⟨rfl, h4⟩
  have H4 := hide h4
  clear h4 T H3
  go_wp2_with fail
  refine (commit9_any w4).mono ?_
  rintro e w5 ⟨rfl, hb5⟩
  have H5 := hide (H4.out.later hb5)
  clear hb5 H4
  go_wp2_with fail
  have T := kapp9 H5.out cmR _ _ 0 0 cmR_fits (rckn (w := w5) rfl rfl) (by decide) (by decide)
  have hno := aw9b.app_no cmR 0 0 (by rw [aw9b_app]; decide)
  rw [hno.1, hno.2, aw9b_app] at T
  refine T.mono ?_
  rintro e w6 ⟨rfl, h6⟩
  have H6 := hide h6
  clear h6 T H5 hno
  go_wp2_with fail
  have T := kleft9 H6.out
  have e1 : (aw9b.t.m : Int) - (aw9b.used : Int) - (aw9b.hd : Int) = 13 := by rw [aw9b_used]; rfl
  rw [e1] at T
  refine T.mono ?_
  rintro e w7 ⟨rfl, h7⟩
  have H7 := hide h7
  clear h7 T H6 e1
  go_wp2_with fail
  refine (krecs9 H7.out).mono ?_
  rintro e w8 ⟨ga, ns, rfl, -, h8⟩
  have e2 : aw9b.l.length = 1 := rfl
  rw [e2]
  have H8 := hide h8
  clear h8 H7 e2
  go_wp2
  go_ret
  exact ⟨rfl, H8.out.bel⟩
end Go.Proofs.Ythamodoedlpmdaa

/-
  The calls of a script of a log, in lists that come in, opened.
-/
namespace Go.Proofs.Ythamodoedlpmdaa
open Go.ChangeShapes Go.WideShapes Go.ChangeAt Go.RowKit Go.Deep Go.Joins
set_option linter.unusedVariables false

set_option maxRecDepth 40000 in
/-- A call of a script. -/
structure Wc where
  k : Int
  m : Rec × Value × Value
  n : Nat
  h : Int
set_option maxRecDepth 40000 in
def wcA (c : Wc) : Array Value := #[.int .i64 c.k, .int .i64 c.m.1.k, .int .u64 (c.m.1.l : Int), .int .i64 c.m.1.t, .int .u64 (c.m.1.p : Int), .int .i64 c.m.1.c.k, .int .i64 c.m.1.c.pg, .int .i64 c.m.1.c.sl, .string c.m.1.c.o, .string c.m.1.c.n, .int .u64 (c.m.1.n : Int), .int .i64 c.m.1.s, .int .u64 (c.m.1.b : Int), c.m.2.1, c.m.2.2, .int .u64 (c.n : Int), .int .i64 c.h]
set_option maxRecDepth 40000 in
def Wc.zero : Wc := ⟨0, rcZ, 0, 0⟩
set_option maxRecDepth 40000 in
def Wc.fits (c : Wc) : Prop := (Lit.int .i64 c.k).wf = true ∧ (Lit.int .u64 (c.n : Int)).wf = true ∧ (Lit.int .i64 c.h).wf = true ∧ c.m.1.fits
section
variable {H : Type} {enc : TypeId × Value → H} {W : World}

set_option maxRecDepth 40000 in
theorem trod_st4 {P : Program} {t : TypeId} {f0 f1 f2 f3 : Field} {fuel : Nat} {cs : List Value} {x : DataW H × List MemPlace} (ht : P.underlying t = some (.struct #[f0, f1, f2, f3])) (h : DataW.trod enc P W 0 (fun _ => true) true fuel t cs = some x) :
    ∃ y0 y1 y2 y3 n, cs.length = P.cellsOf t ∧ DataW.trod enc P W 0 (fun _ => true) true n f0.type ((cs.drop f0.offset).take (P.cellsOf f0.type)) = some y0 ∧ DataW.trod enc P W 0 (fun _ => true) true n f1.type ((cs.drop f1.offset).take (P.cellsOf f1.type)) = some y1 ∧ DataW.trod enc P W 0 (fun _ => true) true n f2.type ((cs.drop f2.offset).take (P.cellsOf f2.type)) = some y2 ∧ DataW.trod enc P W 0 (fun _ => true) true n f3.type ((cs.drop f3.offset).take (P.cellsOf f3.type)) = some y3 := by
  obtain ⟨xs, n, _, rfl, hl, hlen, hf⟩ := DataW.trod_struct ht h
  match xs, hlen with
  | [y0, y1, y2, y3], _ => exact ⟨y0, y1, y2, y3, n, hl, by simpa using hf 0 f0 rfl, by simpa using hf 1 f1 rfl, by simpa using hf 2 f2 rfl, by simpa using hf 3 f3 rfl⟩
set_option maxRecDepth 40000 in
theorem elem_wc (n : Nat) (cs : List Value) (y : DataW H × List MemPlace) (h : DataW.trod enc Try.prog W 0 (fun _ => true) true n 52 cs = some y) : ∃ c : Wc, cs = (wcA c).toList ∧ (c.fits ∧ RcIn W c.m.1 c.m.2.1 c.m.2.2) := by
  obtain ⟨y0, y1, y2, y3, m, hl, h0, h1, h2, h3⟩ := trod_st4 Try.underlying52 h
  have hC : Try.prog.cellsOf 52 = 17 := by kernel_rfl
  rw [hC] at hl
  match cs, hl with
  | [c0, c1, c2, c3, c4, c5, c6, c7, c8, c9, c10, c11, c12, c13, c14, c15, c16], _ =>
    have e0 : Try.prog.cellsOf 3 = 1 := by kernel_rfl
    have e1 : Try.prog.cellsOf 31 = 1 := by kernel_rfl
    have e2 : Try.prog.cellsOf 43 = 14 := by kernel_rfl
    simp only [e0, e1, e2, List.drop_zero, List.drop_succ_cons, List.take_succ_cons, List.take_zero] at h0 h1 h2 h3
    obtain ⟨i0, g0, _, w0⟩ := DataW.trod_int Try.underlying3 h0
    obtain ⟨r, g1, w1, u1⟩ := elem_rec _ _ _ h1
    obtain ⟨i2, g2, _, w2⟩ := DataW.trod_int Try.underlying31 h2
    obtain ⟨i3, g3, _, w3⟩ := DataW.trod_int Try.underlying3 h3
    simp only [rcF, rcA, List.cons.injEq, and_true] at g0 g1 g2 g3
    obtain ⟨a1, a2, a3, a4, a5, a6, a7, a8, a9, a10, a11, a12, a13, a14⟩ := g1
    subst g0 a1 a2 a3 a4 a5 a6 a7 a8 a9 a10 a11 a12 a13 a14 g2 g3
    obtain ⟨j2, rfl⟩ := u64_nat w2
    exact ⟨⟨i0, r, j2, i3⟩, rfl, ⟨w0, w2, w3, w1⟩, u1⟩
set_option maxRecDepth 40000 in
/-- A script. -/
theorem op_wcs {v : Value} {d : DataW H} {p : List MemPlace} {r : Reach} {b0 : Nat} (hv : Value.okWide Try.prog W r b0 22 v) (h : DataW.Trod enc Try.prog W 0 (fun _ => true) true 22 v d p) :
    ∃ cs : List Wc, RowsIn wcA Wc.zero 17 W v cs ∧ cs.length ≤ maxLen ∧ (∀ c ∈ cs, c.fits ∧ RcIn W c.m.1 c.m.2.1 c.m.2.2) ∧ ∀ a len cap, v = .slice a len cap → len ≤ cap := by
  obtain ⟨fuel, hf⟩ := h
  obtain ⟨a, len, cap, rfl⟩ := okWide_slice Try.underlying22 hv
  have hf2 : DataW.trod enc Try.prog W 0 (fun _ => true) true fuel 22 [.slice a len cap] = some (d, p) := hf
  obtain ⟨cs, h1, h2, h3⟩ := op_rows (sz := 17) wcA Wc.zero (fun c => c.fits ∧ RcIn W c.m.1 c.m.2.1 c.m.2.2) elem_wc Try.underlying22 (by kernel_rfl) (fun _ => rfl) (by decide) hf2
  exact ⟨cs, h1, h2, h3, fun a' l' c' e => (op_cap Try.underlying22 hf2 e).1⟩
set_option maxRecDepth 40000 in
/-- One call by value. -/
theorem op_wc {v : Value} {d : DataW H} {p : List MemPlace} {r : Reach} {b0 : Nat} (hv : Value.okWide Try.prog W r b0 52 v) (h : DataW.Trod enc Try.prog W 0 (fun _ => true) true 52 v d p) :
    ∃ c : Wc, v = .agg (wcA c) ∧ c.fits ∧ RcIn W c.m.1 c.m.2.1 c.m.2.2 := by
  obtain ⟨cs, rfl, hsz⟩ := okWide_struct Try.underlying52 hv
  obtain ⟨fuel, hf⟩ := h
  obtain ⟨l⟩ := cs
  obtain ⟨c, hc, hft⟩ := elem_wc _ _ _ hf
  have hc2 : l = (wcA c).toList := hc
  subst hc2
  exact ⟨c, rfl, hft⟩
end
end Go.Proofs.Ythamodoedlpmdaa

/-
  The contract of quaysidelaw09.few.
-/
namespace Go.Proofs.Ythamodoedlpmdaa
open Go.RowKit
set_option linter.unusedVariables false

/-- A call of a script that lies there. -/
theorem wcs_cell {w : World} {a : Option Addr} {cap : Nat} {cs : List Wc} (h : RowsIn wcA Wc.zero 17 w (.slice a cs.length cap) cs) (hp : 0 < cs.length) :
    ∃ b off, a = some ⟨b, off, none⟩ ∧ b < w.heap.size ∧ ∀ i, i < cs.length → w.rangeAt b (off + i * 17) (wcA (cs.getD i Wc.zero)).toList := by
  obtain ⟨a', cap', e, h2⟩ := h
  injection e with e1 e2 e3
  subst e1
  exact h2 hp
/-- A record's lists are slices of their lengths. -/
theorem rc_slices {w : World} {r : Rec} {va vb : Value} (h : RcIn w r va vb) : ∃ a c b d, va = .slice a r.ts.length c ∧ vb = .slice b r.ds.length d := by
  obtain ⟨⟨a, c, e1, _⟩, ⟨b, d, e2, _⟩⟩ := h
  exact ⟨a, c, b, d, e1, e2⟩

set_option maxRecDepth 4000 in
set_option maxHeartbeats 400000 in
theorem few9_long (a : Option Addr) (len cap : Nat) (w : World) (h : 100 < len) :
    Calls Try.prog 8 #[.slice a len cap] w fun e w' => e = .returned (.bool false) ∧ w = w' := by
  have h1 : (100 : Int) < (len : Int) := by omega
  go_enter Try.func8, Try.ntmps8
  go_wp2
  go_ret
  exact ⟨rfl, rfl⟩

/-- What few tells. -/
def Few9 (cs : List Wc) (w : World) (e : Ending) (w' : World) : Prop := ∃ q, e = .returned (.bool q) ∧ ((q = true → cs.length ≤ 100 ∧ ∀ i, i < cs.length → (cs.getD i Wc.zero).m.1.ts.length ≤ 100 ∧ (cs.getD i Wc.zero).m.1.ds.length ≤ 100) ∧ ((cs.length ≤ 100 ∧ ∀ i, i < cs.length → (cs.getD i Wc.zero).m.1.ts.length ≤ 100 ∧ (cs.getD i Wc.zero).m.1.ds.length ≤ 100) → q = true)) ∧ w = w'
set_option maxRecDepth 4000 in
set_option maxHeartbeats 800000 in
theorem few9_any (v : Value) (cs : List Wc) (w : World) (h : RowsIn wcA Wc.zero 17 w v cs) (hr : ∀ c ∈ cs, RcIn w c.m.1 c.m.2.1 c.m.2.2) (hc : ∀ a len cap, v = .slice a len cap → len ≤ cap) :
    Calls Try.prog 8 #[v] w (Few9 cs w) := by
  have h' := h
  obtain ⟨a, cap, rfl, -⟩ := h'
  have hcap := hc _ _ _ rfl
  by_cases hl : 100 < cs.length
  · exact (few9_long a cs.length cap w hl).mono fun e w' he => ⟨false, he.1, ⟨fun h => (nomatch h), fun hq => absurd hq.1 (by omega)⟩, he.2⟩
  have h1 : ¬ (100 : Int) < (cs.length : Int) := by omega
  have HC := hide (wcs_cell h)
  have HRR := hide (fun i (hi : i < cs.length) => rc_slices (hr (cs.getD i Wc.zero) (by
    rw [List.getD_eq_getElem?_getD, List.getElem?_eq_getElem hi]
    exact List.getElem_mem hi)))
  obtain ⟨ln, hln⟩ : ∃ ln, cs.length = ln := ⟨_, rfl⟩
  rw [hln] at HC HRR h1 hl hcap ⊢
  have HLN := hide hln
  clear h hc hln hr
  go_enter Try.func8, Try.ntmps8
  go_wp2
  go_loopw [9] (fun i wr => ∃ j : Nat, j ≤ ln ∧ i = .int .i64 j ∧ w = wr ∧ ∀ i, i < j → (cs.getD i Wc.zero).m.1.ts.length ≤ 100 ∧ (cs.getD i Wc.zero).m.1.ds.length ≤ 100) (fun i _ => ln - (intOf i).toNat)
  case atStart => exact ⟨0, Nat.zero_le _, rfl, rfl, fun i hi => absurd hi (Nat.not_lt_zero _)⟩
  case round =>
    obtain ⟨j, hj, rfl, rfl, hall⟩ := hrel
    by_cases hlt : j < ln
    · obtain ⟨b, off, rfl, -, hcell⟩ := HC.out (by omega)
      obtain ⟨a1, c1, a2, c2, ht, hd⟩ := HRR.out j hlt
      have d1 := hcell j hlt 13 _ rfl
      have d2 := hcell j hlt 14 _ rfl
      rw [ht] at d1
      rw [hd] at d2
      have hjc : (j : Int) < (ln : Int) := by omega
      have HA := hide hall
      clear hcell HC hall HRR ht hd
      obtain ⟨T, hT⟩ : ∃ T, T = (cs.getD j Wc.zero).m.1.ts.length := ⟨_, rfl⟩
      obtain ⟨D, hD⟩ : ∃ D, D = (cs.getD j Wc.zero).m.1.ds.length := ⟨_, rfl⟩
      rw [← hT] at d1
      rw [← hD] at d2
      have HT := hide (And.intro hT hD)
      clear hT hD
      by_cases hs : T ≤ 100 ∧ D ≤ 100
      · have hs1 : ¬ (100 : Int) < (T : Int) := by omega
        have hs2 : ¬ (100 : Int) < (D : Int) := by omega
        clear hs
        go_wp2
        go_roundw
        case rel =>
          refine ⟨j + 1, by omega, by go_num, by first | rfl | trivial, fun i hi => ?_⟩
          by_cases e : i = j
          · rw [e, ← HT.out.1, ← HT.out.2]
            omega
          · exact HA.out i (by omega)
        case measure => simp [intOf]; omega
      · by_cases hs1 : (100 : Int) < (T : Int)
        · clear hs
          go_wp2
          go_ret
          exact ⟨false, rfl, ⟨fun h => (nomatch h), fun hq => absurd (hq.2 j (by have := HLN.out; omega)) (by rw [← HT.out.1, ← HT.out.2]; omega)⟩, rfl⟩
        · have hs2 : (100 : Int) < (D : Int) := by omega
          clear hs
          go_wp2
          go_ret
          exact ⟨false, rfl, ⟨fun h => (nomatch h), fun hq => absurd (hq.2 j (by have := HLN.out; omega)) (by rw [← HT.out.1, ← HT.out.2]; omega)⟩, rfl⟩
    · obtain rfl : j = ln := by omega
      go_wp2
      go_ret
      exact ⟨true, rfl, ⟨fun _ => ⟨by have := HLN.out; omega, fun i hi => hall i (by have := HLN.out; omega)⟩, fun _ => rfl⟩, rfl⟩
theorem few9_yes (v : Value) (cs : List Wc) (w : World) (h : RowsIn wcA Wc.zero 17 w v cs) (hr : ∀ c ∈ cs, RcIn w c.m.1 c.m.2.1 c.m.2.2) (hc : ∀ a len cap, v = .slice a len cap → len ≤ cap) (hq : cs.length ≤ 100 ∧ ∀ i, i < cs.length → (cs.getD i Wc.zero).m.1.ts.length ≤ 100 ∧ (cs.getD i Wc.zero).m.1.ds.length ≤ 100) :
    Calls Try.prog 8 #[v] w fun e w' => e = .returned (.bool true) ∧ w = w' := (few9_any v cs w h hr hc).mono fun e w' ⟨q, h1, h2, h3⟩ => by
  rw [h2.2 hq] at h1
  exact ⟨h1, h3⟩
end Go.Proofs.Ythamodoedlpmdaa

/-
  The contract of quaysidelaw09.played.
-/
namespace Go.Proofs.Ythamodoedlpmdaa
open Go.RowKit
set_option linter.unusedVariables false

theorem infoWc : (Try.prog.info? 52).map (·.size) = some 17 := by kernel_rfl
def wcZ : Array Value := #[.int .i64 0, .int .i64 0, .int .u64 0, .int .i64 0, .int .u64 0, .int .i64 0, .int .i64 0, .int .i64 0, .string ⟨#[]⟩, .string ⟨#[]⟩, .int .u64 0, .int .i64 0, .int .u64 0, .slice none 0 0, .slice none 0 0, .int .u64 0, .int .i64 0]
/-- A script's call, loaded. -/
theorem load_wc (y : World) (b k : Nat) (c : Wc) (h : y.rangeAt b k (wcA c).toList) : (Instr.loadAt 52 (.pointer (some ⟨b, k, none⟩))).run Try.prog y = .ok (.agg (wcA c)) y := by
  have h1 := run_loadAt_mid (P := Try.prog) y b k 52 (wcA c).toList _ h Try.underlying52 rfl (by rw [infoWc]; rfl)
  rwa [Array.toArray_toList] at h1
/-- Its record. -/
theorem load_wr (y : World) (b : Nat) (c : Wc) (h : RowAt y b 52 (wcA c)) : (Instr.loadAt 43 (.pointer (some ⟨b, 1, none⟩))).run Try.prog y = .ok (.agg (rcA c.m.1 c.m.2.1 c.m.2.2)) y := by
  refine load_mid y b 1 c.m (fun j u hu => ?_)
  have hj : j < 14 := (List.getElem?_eq_some_iff.1 hu).1
  have e : (wcA c)[1 + j]? = some u := by
    rw [← hu]
    have h3 : j = 0 ∨ j = 1 ∨ j = 2 ∨ j = 3 ∨ j = 4 ∨ j = 5 ∨ j = 6 ∨ j = 7 ∨ j = 8 ∨ j = 9 ∨ j = 10 ∨ j = 11 ∨ j = 12 ∨ j = 13 := by omega
    rcases h3 with rfl | rfl | rfl | rfl | rfl | rfl | rfl | rfl | rfl | rfl | rfl | rfl | rfl | rfl <;> rfl
  exact h.cell (1 + j) u e
theorem wcA_all (c : Wc) (h1 : ∃ a n d, c.m.2.1 = .slice a n d) (h2 : ∃ a n d, c.m.2.2 = .slice a n d) : (wcA c).all (·.oneCell') = true := by
  obtain ⟨a, n, d, h1⟩ := h1
  obtain ⟨b, m, e, h2⟩ := h2
  simp [wcA, h1, h2, Value.oneCell']
/-- A script that came in. -/
structure Scr (w0 : World) (v : Value) (cs : List Wc) : Prop where
  rows : RowsIn wcA Wc.zero 17 w0 v cs
  fits : ∀ c ∈ cs, c.fits ∧ RcIn w0 c.m.1 c.m.2.1 c.m.2.2
  cap : ∀ a len cap, v = .slice a len cap → len ≤ cap
theorem Scr.at {w0 x : World} {a : Option Addr} {len cap : Nat} {cs : List Wc} (h : Scr w0 (.slice a len cap) cs) (p : Below w0.heap.size w0 x) {j : Nat} (hj : j < cs.length) : ∃ b off, a = some ⟨b, off, none⟩ ∧ (Instr.loadAt 52 (.pointer (some ⟨b, off + j * 17, none⟩))).run Try.prog x = .ok (.agg (wcA (cs.getD j Wc.zero))) x ∧ (cs.getD j Wc.zero).fits ∧ RcIn w0 (cs.getD j Wc.zero).m.1 (cs.getD j Wc.zero).m.2.1 (cs.getD j Wc.zero).m.2.2 := by
  obtain ⟨a', cap', e, h2⟩ := h.rows
  injection e with e1 e2 e3
  subst e1
  obtain ⟨b, off, h3, h4, h5⟩ := h2 (by omega)
  have hm : cs.getD j Wc.zero ∈ cs := by
    rw [List.getD_eq_getElem?_getD, List.getElem?_eq_getElem hj]
    exact List.getElem_mem hj
  exact ⟨b, off, h3, load_wc x b _ _ (rangeAt_below (h5 j hj) p h4), h.fits _ hm⟩
theorem Scr.len {w0 : World} {a : Option Addr} {len cap : Nat} {cs : List Wc} (h : Scr w0 (.slice a len cap) cs) : len = cs.length := by
  obtain ⟨a', cap', e, h2⟩ := h.rows
  injection e
theorem wf_u64 {n : Nat} (h : (Lit.int .u64 (n : Int)).wf = true) : n < 18446744073709551616 := by
  have := (bounds_u64 h).2
  omega
set_option maxRecDepth 8000 in
set_option maxHeartbeats 3200000 in
theorem played9_at (room : Int) (v : Value) (cs : List Wc) (w0 w : World) (hs : Scr w0 v cs) (hl : cs.length ≤ 100) (hbw : Below w0.heap.size w0 w) :
    Calls Try.prog 9 #[.int .i64 room, v] w fun e w' => ∃ gt gl g, e = .returned (.tuple #[.pointer (some ⟨gt, 0, none⟩), .pointer (some ⟨gl, 0, none⟩)]) ∧ K9 NoP w0 w0 w' gt gl g := by
  have hs' := hs
  obtain ⟨⟨a, cap, rfl, -⟩, -, hcap⟩ := hs'
  have hcap := hcap _ _ _ rfl
  have HS := hide hs
  have HBW := hide hbw
  clear hs hbw
  obtain ⟨ln, hln⟩ : ∃ ln, ln = cs.length := ⟨_, rfl⟩
  rw [← hln] at HS hl hcap ⊢
  have HLN := hide hln
  clear hln
  go_enter Try.func9, Try.ntmps9
  go_wp2_with fail
  refine (knew8 room w0 w HBW.out).mono ?_
  rintro e w1 ⟨rfl, h1, -⟩
  have H1 := hide h1
  clear h1
  obtain ⟨gt, hgt⟩ : ∃ gt, gt = w.heap.size := ⟨_, rfl⟩
  rw [← hgt] at H1 ⊢
  clear hgt
  go_wp2_with fail
  refine (kfirst9 w0 w1 gt (Tp.new room) 0 H1.out (by decide)).mono ?_
  rintro e w2 ⟨gl, rfl, h2⟩
  have H2 := hide h2
  clear h2 H1
  go_wp2
  go_loopw [26] (fun i wr => ∃ j : Nat, j ≤ ln ∧ i = .int .i64 (j : Int) ∧ ∃ g, Hid (K9 NoP w0 w0 wr gt gl g)) (fun i _ => ln - (intOf i).toNat)
  case atStart => exact ⟨0, Nat.zero_le _, rfl, _, H2⟩
  case round =>
    obtain ⟨j, hj, rfl, g, HK⟩ := hrel
    clear H2
    by_cases hlt : j < ln
    · have ij : (j : Int) < (ln : Int) := by omega
      obtain ⟨b, off, rfl, hld, hft, hin⟩ := HS.out.at HK.out.bel (j := j) (by have := HLN.out; omega)
      obtain ⟨c, hc⟩ : ∃ c, c = cs.getD j Wc.zero := ⟨_, rfl⟩
      rw [← hc] at hld hft hin
      clear hc
      have HLD := hide hld
      have hb1 : Below wr.heap.size wr (wr.alloc (.cells wcZ 52)) := (Below.refl _ _).alloc (Nat.le_refl _) _
      have HZ := hide (And.intro (RowAt.new wr 52 wcZ) hb1)
      obtain ⟨⟨a1, c1, h1⟩, a2, c2, h2⟩ := rcF_slices hin
      have HFT := hide (And.intro hft hin)
      have HAL := hide (wcA_all c ⟨a1, _, c1, h1⟩ ⟨a2, _, c2, h2⟩)
      clear hld hb1 hft hin h1 h2
      go_wp2_with (first | (refine wpList_load_val rfl 52 (.tmp 31) rfl _ _ rfl HLD.out ?_) | (refine wpList_store_at rfl 52 (.tmp 10) (.tmp 32) rfl wr.heap.size wcZ (wcA c) rfl rfl HZ.out.1 infoWc rfl HAL.out ?_; intro w3 hr3 hk3 hrow3; refine stop9 ?_))
      have hb3 := hk3 _ _ HZ.out.2 (Nat.le_refl _)
      have H3 := hide (And.intro hr3 (HK.out.later hb3))
      obtain ⟨go, hgo⟩ : ∃ go, go = wr.heap.size := ⟨_, rfl⟩
      rw [← hgo] at H3 ⊢
      clear hr3 hk3 hrow3 hb3 HZ HLD HAL HK hgo
      have HWR := hide (load_wr w3 go c H3.out.1)
      have z0 := H3.out.1.cell 0 (.int .i64 c.k) rfl
      have z15 := H3.out.1.cell 15 (.int .u64 (c.n : Int)) rfl
      have z16 := H3.out.1.cell 16 (.int .i64 c.h) rfl
      have HN := hide (wf_u64 HFT.out.1.2.1)
      have b1 : (c.k == 1) = decide (c.k = 1) := by rw [Bool.eq_iff_iff]; simp
      have b2 : (c.k == 2) = decide (c.k = 2) := by rw [Bool.eq_iff_iff]; simp
      have b3 : (c.k == 3) = decide (c.k = 3) := by rw [Bool.eq_iff_iff]; simp
      have b4 : (c.k == 4) = decide (c.k = 4) := by rw [Bool.eq_iff_iff]; simp
      have b5 : (c.k == 5) = decide (c.k = 5) := by rw [Bool.eq_iff_iff]; simp
      obtain ⟨k, hk⟩ : ∃ k, k = c.k := ⟨_, rfl⟩
      rw [← hk] at b1 b2 b3 b4 b5 z0
      clear hk
      refine unstop9 ?_
      by_cases k1 : k = 1
      · subst k1
        clear b1 b2 b3 b4 b5
        go_wp2_with (refine wpList_load_val rfl 43 (.tmp 38) rfl _ _ rfl HWR.out ?_)
        refine (kapp9 H3.out.2 c.m.1 c.m.2.1 c.m.2.2 c.n c.h HFT.out.1.2.2.2 (rck9 HFT.out.2 H3.out.2.bel) HN.out HFT.out.1.2.2.1).mono ?_
        rintro e w4 ⟨rfl, h4⟩
        have H4 := hide h4
        clear h4 H3 HWR z0 z15 z16
        go_wp2
        go_roundw
        case rel => exact ⟨j + 1, by omega, by go_num, _, H4⟩
        case measure => simp [intOf]; omega
      all_goals by_cases k2 : k = 2
      · subst k2
        clear b1 b2 b3 b4 b5 k1
        go_wp2_with fail
        refine (kwrite9 H3.out.2).mono ?_
        rintro e w4 ⟨rfl, h4⟩
        have H4 := hide h4
        clear h4 H3 HWR z0 z15 z16
        go_wp2
        go_roundw
        case rel => exact ⟨j + 1, by omega, by go_num, _, H4⟩
        case measure => simp [intOf]; omega
      all_goals by_cases k3 : k = 3
      · subst k3
        clear b1 b2 b3 b4 b5 k1 k2
        go_wp2_with fail
        refine (ksync9 H3.out.2).mono ?_
        rintro e w4 ⟨rfl, h4⟩
        have H4 := hide h4
        clear h4 H3 HWR z0 z15 z16
        go_wp2
        go_roundw
        case rel => exact ⟨j + 1, by omega, by go_num, _, H4⟩
        case measure => simp [intOf]; omega
      all_goals by_cases k4 : k = 4
      · subst k4
        clear b1 b2 b3 b4 b5 k1 k2 k3
        go_wp2_with fail
        refine (ktrim9 H3.out.2 c.n HN.out).mono ?_
        rintro e w4 ⟨rfl, h4⟩
        have H4 := hide h4
        clear h4 H3 HWR z0 z15 z16
        go_wp2
        go_roundw
        case rel => exact ⟨j + 1, by omega, by go_num, _, H4⟩
        case measure => simp [intOf]; omega
      all_goals by_cases k5 : k = 5
      · subst k5
        clear b1 b2 b3 b4 b5 k1 k2 k3 k4
        go_wp2_with fail
        refine (ksee9 H3.out.2 c.n HN.out).mono ?_
        rintro e w4 ⟨rfl, h4⟩
        have H4 := hide h4
        clear h4 H3 HWR z0 z15 z16
        go_wp2
        go_roundw
        case rel => exact ⟨j + 1, by omega, by go_num, _, H4⟩
        case measure => simp [intOf]; omega
      · simp only [k1, k2, k3, k4, k5, decide_false] at b1 b2 b3 b4 b5
        have HK2 := hide H3.out.2
        go_wp2
        go_roundw
        case rel => exact ⟨j + 1, by omega, by go_num, _, HK2⟩
        case measure => simp [intOf]; omega
    · go_wp2
      go_ret2
      exact ⟨gt, gl, g, rfl, HK.out⟩
/-- .. behind what was made since the beginning. -/
theorem Scr.later {w0 x : World} {v : Value} {cs : List Wc} (h : Scr w0 v cs) (p : Below w0.heap.size w0 x) : Scr x v cs :=
  ⟨h.rows.below p, fun c hc => ⟨(h.fits c hc).1, (h.fits c hc).2.below p⟩, h.cap⟩
theorem K9.from {P : Nat → Prop} {wp w0 w1 w : World} {gt gl : Nat} {g : Lg} (h : K9 P wp w1 w gt gl g) (p : Below w0.heap.size w0 w1) : Below w0.heap.size w0 w := p.trans (h.bel.mono p.size)
/-- few answers yes or no, in every world behind the beginning. -/
theorem few9_two (v : Value) (cs : List Wc) (w : World) (hs : Scr w v cs) :
    (cs.length ≤ 100 ∧ ∀ x, Below w.heap.size w x → Calls Try.prog 8 #[v] x (fun e w' => e = .returned (.bool true) ∧ x = w')) ∨ (∀ x, Below w.heap.size w x → Calls Try.prog 8 #[v] x (fun e w' => e = .returned (.bool false) ∧ x = w')) := by
  by_cases hq : cs.length ≤ 100 ∧ ∀ i, i < cs.length → (cs.getD i Wc.zero).m.1.ts.length ≤ 100 ∧ (cs.getD i Wc.zero).m.1.ds.length ≤ 100
  · exact .inl ⟨hq.1, fun x p => few9_yes v cs x (hs.later p).rows (fun c hc => ((hs.later p).fits c hc).2) hs.cap hq⟩
  · exact .inr fun x p => (few9_any v cs x (hs.later p).rows (fun c hc => ((hs.later p).fits c hc).2) hs.cap).mono fun e w' ⟨q, h1, h2, h3⟩ => by
      cases q with
      | false => exact ⟨h1, h3⟩
      | true => exact absurd (h2.1 rfl) hq
end Go.Proofs.Ythamodoedlpmdaa

/-
  The document's clock inside a log: See, at a cell.
-/
namespace Go.Proofs.Ythamodoedlpmdaa
open Go.RowKit
set_option linter.unusedVariables false

end Go.Proofs.Ythamodoedlpmdaa

/-
  The contracts of quaysideref08's functions: the document's tape.
-/
namespace Go.Proofs.Ythamodoedlpmdaa
open Go.RowKit
set_option linter.unusedVariables false

theorem load8_s {b j : Nat} (x : World) (v : ByteArray) (h : x.cell? ⟨b, j, none⟩ = some (.string v)) : (Instr.loadAt 9 (.pointer (some ⟨b, j, none⟩))).run Try.prog x = .ok (.string v) x := by
  go_simp
theorem load8_i {b j : Nat} (x : World) (v : Int) (h : x.cell? ⟨b, j, none⟩ = some (.int .i64 v)) : (Instr.loadAt 3 (.pointer (some ⟨b, j, none⟩))).run Try.prog x = .ok (.int .i64 v) x := by
  go_simp

/-! ### The contracts -/
end Go.Proofs.Ythamodoedlpmdaa

/-
  The document's log in memory.
-/
namespace Go.Proofs.Ythamodoedlpmdaa
open Go.RowKit
set_option linter.unusedVariables false

def rlA (gr : Nat) (a : Option Addr) (cap : Nat) (g : Lg) : Array Value := #[.pointer (some ⟨gr, 0, none⟩), .int .u64 (g.c : Int), .slice a g.l.length cap, .int .i64 (g.on : Int), .int .i64 (g.fa : Int), .int .i64 (g.hd : Int), .int .u64 (g.du : Int)]
/-- Its blocks. -/
def FL (gw gr : Nat) (a : Option Addr) (k : Nat) : Prop := k = gw ∨ k = gr ∨ blk a k
/-- A record's LSN. -/
theorem RB.lsn {B : Nat} {w : World} {a : Option Addr} {cap : Nat} {ms : List Rm} (h : RB B w a cap ms) {i : Nat} (hi : i < ms.length) : ∃ b off, a = some ⟨b, off, none⟩ ∧ w.cell? ⟨b, off + i * 14 + 1, none⟩ = some (.int .u64 ((ms.getD i rcZ).1.l : Int)) := by
  rcases h.1 with ⟨_, rfl, _⟩ | ⟨b, off, cs, rfl, _, _, _, _, h5⟩
  · exact absurd hi (by simp)
  · exact ⟨b, off, rfl, h5 i hi 1 _ rfl⟩

/-! ### stands, Pending, Sync -/
end Go.Proofs.Ythamodoedlpmdaa

/-
  The contracts of quaysideref02's run, Of and Seal.
-/
namespace Go.Proofs.Ythamodoedlpmdaa
open Go.RowKit
set_option linter.unusedVariables false

theorem bit_form (s : ByteArray) (j : Nat) (h : j / 8 < s.size) : (IntKind.u64.wrap (s[j / 8].toNat : Int) / 2 ^ (j % 8)).tmod 2 = ((bitAt s.data.toList j).toNat : Int) := by
  have hb : s[j / 8].toNat < 256 := s[j / 8].toNat_lt
  have e : IntKind.u64.wrap (s[j / 8].toNat : Int) = (s[j / 8].toNat : Int) := by rw [IntKind.wrap_u64]; omega
  rw [e, bitAt, getD_str s (j / 8) h, bit_mod]
  have e2 : (s[j / 8].toNat : Int) / 2 ^ (j % 8) = ((s[j / 8].toNat / 2 ^ (j % 8) : Nat) : Int) := by simp
  rw [e2]
  generalize s[j / 8].toNat / 2 ^ (j % 8) = q
  rw [Int.tmod_eq_emod_of_nonneg (by omega)]
  omega

theorem rr_yes (s : ByteArray) (q j : Nat) (hq : q < 2 ^ 32) (h : j / 8 < s.size) (ht : ((q : Int) % 2 != (IntKind.u64.wrap (s[j / 8].toNat : Int) / 2 ^ (j % 8)).tmod 2) = true) :
    bits .xor .u64 ((q : Int) / 2) 3988292384 = ((bst q (bitAt s.data.toList j) : Nat) : Int) := by
  rw [bit_form s j h, bne_iff_ne] at ht
  have e : ((q : Int) / 2) = ((q / 2 : Nat) : Int) := by omega
  have e2 : (3988292384 : Int) = ((3988292384 : Nat) : Int) := rfl
  rw [e, e2, u64_xor_nat (q / 2) 3988292384 (by omega) (by omega), bst_if, if_neg (by omega)]
  rfl

theorem rr_no (s : ByteArray) (q j : Nat) (h : j / 8 < s.size) (ht : ((q : Int) % 2 != (IntKind.u64.wrap (s[j / 8].toNat : Int) / 2 ^ (j % 8)).tmod 2) = false) :
    (q : Int) / 2 = ((bst q (bitAt s.data.toList j) : Nat) : Int) := by
  rw [bit_form s j h, bne_eq_false_iff_eq] at ht
  rw [bst_if, if_pos (by omega)]
  omega

set_option maxRecDepth 4000 in
set_option maxHeartbeats 400000 in
theorem rrun_any (s : ByteArray) (r : Nat) (w : World) (hs : s.size ≤ 140737488355328) (hr : r < 2 ^ 32) :
    Calls Try.prog 85 #[.int .u64 r, .string s] w fun e w' => e = .returned (.int .u64 (crun r s.data.toList : Nat)) ∧ w = w' := by
  go_enter Try.func85, Try.ntmps85
  go_wp2
  go_loop [0, 5] (fun q i => ∃ j : Nat, j ≤ 8 * s.size ∧ i = .int .i64 j ∧ q = .int .u64 (bruns r (bitAt s.data.toList) j : Nat)) (fun _ i => 8 * s.size - (intOf i).toNat)
  case atStart => exact ⟨0, Nat.zero_le _, rfl, rfl⟩
  case round =>
    obtain ⟨j, hj, rfl, rfl⟩ := hrel
    by_cases hlt : j < 8 * s.size
    · have hq := bruns_lt r (bitAt s.data.toList) hr j
      have hjs : j / 8 < s.size := by omega
      go_wp2
      · go_round
        case rel => exact ⟨j + 1, by omega, by go_num, congrArg (Value.int .u64) (rr_yes s _ j hq hjs (by assumption))⟩
        case measure => simp [intOf]; omega
      · go_round
        case rel => exact ⟨j + 1, by omega, by go_num, congrArg (Value.int .u64) (rr_no s _ j hjs (by assumption))⟩
        case measure => simp [intOf]; omega
    · go_wp2
      go_ret
      obtain rfl : j = 8 * s.size := by omega
      have e := crun_bruns r s.data.toList
      rw [data_length] at e
      rw [e]
      exact ⟨rfl, rfl⟩

set_option maxRecDepth 4000 in
set_option maxHeartbeats 400000 in
theorem rof_any (s : ByteArray) (w : World) (hs : s.size ≤ 140737488355328) :
    Calls Try.prog 75 #[.string s] w fun e w' => e = .returned (.int .u32 (crc s.data.toList : Nat)) ∧ w = w' := by
  have hc := crun_lt s.data.toList 4294967295 (by decide)
  have R := rrun_any s 4294967295 w hs (by decide)
  have HR := hide R
  clear R
  go_enter Try.func75, Try.ntmps75
  go_wp2_with fail
  refine HR.out.mono ?_
  rintro e w1 ⟨rfl, rfl⟩
  go_wp2
  go_ret
  exact ⟨congrArg (fun x => Ending.returned (Value.int .u32 x)) (ones_subI _ hc), rfl⟩

set_option maxRecDepth 4000 in
set_option maxHeartbeats 400000 in
theorem rseal_any (s : ByteArray) (w : World) (hs : s.size ≤ 140737488355328) :
    Calls Try.prog 58 #[.string s] w fun e w' => e = .returned (.string ⟨(s.data.toList ++ leB (crc s.data.toList)).toArray⟩) ∧ Below w.heap.size w w' := by
  have hx := crc_lt s.data.toList
  have R := rof_any s w hs
  obtain ⟨x, ex⟩ : ∃ x, x = crc s.data.toList := ⟨_, rfl⟩
  rw [← ex] at R hx
  rw [← ex]
  have HR := hide R
  clear R ex
  go_enter Try.func58, Try.ntmps58
  go_wp2_with fail
  refine HR.out.mono ?_
  rintro e w1 ⟨rfl, rfl⟩
  go_wp2
  go_loopw [3, 4, 5] (fun v o i wr => ∃ j : Nat, j ≤ 4 ∧ i = .int .i64 j ∧ v = .int .u32 (sh x j : Nat) ∧ o = .string ⟨(s.data.toList ++ (leB x).take j).toArray⟩ ∧ Below w.heap.size w wr) (fun _ _ i _ => 4 - (intOf i).toNat)
  case atStart => exact ⟨0, Nat.zero_le _, rfl, by rw [sh_zero], by rw [List.take_zero, List.append_nil, mk_self], Below.refl _ _⟩
  case round =>
    obtain ⟨j, hj, rfl, rfl, rfl, hbr⟩ := hrel
    have hsh : sh x j < 4294967296 := Nat.lt_of_le_of_lt (sh_le x j) hx
    by_cases hlt : j < 4
    · have hcv := run_oneByte (P := Try.prog) wr 60 9 5 Try.underlying60 Try.underlying5 Try.underlying9 (((sh x j : Nat) : Int) % 256) (UInt8.ofNat (sh x j)) (by rw [toNat_ofNat]; omega)
      have hln : ByteArray.size ⟨(s.data.toList ++ (leB x).take j).toArray⟩ + 1 ≤ 9223372036854775807 := by
        have e := size_mk (s.data.toList ++ (leB x).take j)
        rw [List.length_append, data_length, List.length_take] at e
        omega
      have hl1 : ByteArray.size ⟨#[UInt8.ofNat (sh x j)]⟩ = 1 := rfl
      go_wp2
      go_roundw
      case rel => exact ⟨j + 1, by omega, by go_num, by rw [← sh_succ x j]; go_num, by rw [leB_take x j hlt, ← List.append_assoc]; exact congrArg Value.string (mk_append _ [UInt8.ofNat (sh x j)]), hbr.alloc hbr.size _⟩
      case measure => simp [intOf]; omega
    · go_wp2
      go_ret
      obtain rfl : j = 4 := by omega
      exact ⟨rfl, hbr⟩
end Go.Proofs.Ythamodoedlpmdaa

/-
  The contracts of quaysideref02's functions: the document's answer, by definition.
-/
namespace Go.Proofs.Ythamodoedlpmdaa
open Go.RowKit
set_option linter.unusedVariables false

theorem mk_list (s : ByteArray) (l : List UInt8) (h : l = s.data.toList) : (⟨l.toArray⟩ : ByteArray) = s := by
  subst h
  exact mk_self s

theorem ne_list (s : ByteArray) (l : List UInt8) (h : l ≠ s.data.toList) : ((⟨l.toArray⟩ : ByteArray).toList == s.toList) = false := by
  rw [beq_eq_false_iff_ne]
  intro e
  apply h
  have e1 : ∀ b : ByteArray, b.toList = b.data.toList := fun b => ByteArray.toList_eq b
  rw [e1, e1] at e
  exact e

end Go.Proofs.Ythamodoedlpmdaa

/-
  The contracts of quaysideref07.Frame and Put.
-/
namespace Go.Proofs.Ythamodoedlpmdaa
open Go.RowKit
set_option linter.unusedVariables false

set_option maxRecDepth 4000 in
set_option maxHeartbeats 1600000 in
theorem rframe_any (r : Rec) (va vb : Value) (w : World) (hr : r.right) (hin : RcIn w r va vb) :
    Calls Try.prog 47 #[.agg (rcA r va vb)] w fun e w' => e = .returned (.string (mkS (frameB r))) ∧ Below w.heap.size w w' := by
  have HIN := hide hin
  have HBY := hide (fun w h => bytes_any r va vb w hr h)
  have HFB : Hid (frameB r = sealB (beB 2 (recB r).length ++ recB r)) := rfl
  have hfew := rec_few r hr
  have HK0 := hide (Keeps.one w 43 (rcA r va vb))
  clear hin hr
  generalize frameB r = FB at *
  generalize recB r = L at *
  obtain ⟨A, hA⟩ : ∃ A, A = rcA r va vb := ⟨_, rfl⟩
  rw [← hA] at HK0 HBY ⊢
  have HIA : Hid ((Try.prog.info? 43).map (·.size) = some A.size) := by
    rw [hA]
    exact infoRc
  clear hA
  have hz := mkS_size L
  generalize hS : mkS L = S at *
  have HSS := hide hS
  clear hS
  obtain ⟨ln, hln⟩ : ∃ ln, ln = L.length := ⟨_, rfl⟩
  rw [← hln] at hfew HFB hz
  have HLN := hide hln
  clear hln
  have ewl : IntKind.u64.wrap (ln : Int) = (ln : Int) := by rw [IntKind.wrap_u64]; omega
  have HZ2 := hide (mkS_size (beB 2 ln))
  have HAD := hide (fun x => run_add_s (mkS (beB 2 ln)) S (by rw [HZ2.out, beB_length, hz]; omega) x)
  go_enter Try.func47, Try.ntmps47
  go_wp2_with (refine wpList_load_at rfl 43 (.tmp 1) rfl w.heap.size rfl A HK0.out.1.1 _ Try.underlying43 rfl HIA.out ?_)
  refine (HBY.out _ (HIN.out.below HK0.out.2)).mono ?_
  rintro e w1 ⟨rfl, hb1⟩
  have HD1 := hide (HK0.out.later hb1).2
  clear HK0 HBY hb1
  go_wp2_with fail
  refine (number_any 2 ln w1 (by omega) (by omega)).mono ?_
  rintro e w2 ⟨rfl, hb2⟩
  have HD2 := hide (HD1.out.trans (hb2.mono HD1.out.size))
  clear HD1 hb2
  have hadd := HAD.out w2
  have he9 : (⟨(beB 2 ln).toArray⟩ : ByteArray) = mkS (beB 2 ln) := rfl
  rw [he9]
  generalize hN : mkS (beB 2 ln) = N at *
  have HNN := hide hN
  clear hN he9
  go_wp2_with (refine wpList_binop rfl .add 9 _ _ _ rfl _ _ _ rfl rfl rfl hadd ?_)
  have e1 : (N ++ S).data.toList = beB 2 ln ++ L := by
    rw [← HNN.out, ← HSS.out]
    simp [mkS]
  have e2 : (⟨((N ++ S).data.toList ++ leB (crc (N ++ S).data.toList)).toArray⟩ : ByteArray) = mkS FB := by
    rw [HFB.out, e1]
    rfl
  have HSE := hide (rseal_any (N ++ S) w2 (by rw [ByteArray.size_append, HZ2.out, beB_length, hz]; omega))
  rw [e2] at HSE
  generalize hFS : mkS FB = FS at HSE
  have HFS := hide hFS
  clear e1 e2 hFS
  refine HSE.out.mono ?_
  rintro e w3 ⟨rfl, hb3⟩
  have d3 := HD2.out.trans (hb3.mono HD2.out.size)
  clear HD2 hb3
  go_wp2
  go_ret
  exact ⟨by rw [HFS.out]; rfl, d3⟩

end Go.Proofs.Ythamodoedlpmdaa

/-
  The contracts of quaysideref09.room, Used; quaysideref07.All.
-/
namespace Go.Proofs.Ythamodoedlpmdaa
open Go.RowKit
set_option linter.unusedVariables false

theorem frames_few' (rs : List Rec) (h : ∀ r ∈ rs, r.right) : (framesB rs).length ≤ rs.length * 1006 := by
  induction rs with
  | nil => exact Nat.le_refl _
  | cons r rs ih =>
    have h1 := ih (fun q hq => h q (List.mem_cons_of_mem _ hq))
    have h2 := rec_few r (h r (List.mem_cons_self ..))
    rw [framesB_cons, List.length_append, frameB_length, List.length_cons]
    omega
theorem msR_take' (ms : List Rm) (i : Nat) : msR (ms.take i) = (msR ms).take i := by simp [msR, List.map_take]
theorem taken_more (ms : List Rm) (j : Nat) (h : j < ms.length) : framesB (msR (ms.take (j + 1))) = framesB (msR (ms.take j)) ++ frameB (ms.getD j rcZ).1 := by
  have e : ms.take (j + 1) = ms.take j ++ [ms.getD j rcZ] := by
    rw [List.take_add_one, List.getD_eq_getElem?_getD, List.getElem?_eq_getElem h]
    rfl
  rw [e, msR_snoc, framesB_append]
  simp [framesB]
end Go.Proofs.Ythamodoedlpmdaa

/-
  The contract of quaysideref07.All.
-/
namespace Go.Proofs.Ythamodoedlpmdaa
open Go.RowKit
set_option linter.unusedVariables false

set_option maxRecDepth 8000 in
set_option maxHeartbeats 800000 in
theorem rall7_any (a : Option Addr) (cap : Nat) (ms : List Rm) (w : World) (h : RsIn w (.slice a ms.length cap) ms) (hr : ∀ r ∈ msR ms, r.right) (hl : ms.length ≤ 20000) (hc : ms.length ≤ cap) (hz : (framesB (msR ms)).length ≤ 70000) :
    Calls Try.prog 28 #[.slice a ms.length cap] w fun e w' => e = .returned (.string (mkS (framesB (msR ms)))) ∧ Below w.heap.size w w' := by
  have HI := hide h
  have HR := hide hr
  have HZ := hide hz
  obtain ⟨ln, hln⟩ : ∃ ln, ln = ms.length := ⟨_, rfl⟩
  rw [← hln] at HI hl hc ⊢
  have HLN := hide hln
  clear h hr hln hz
  go_enter Try.func28, Try.ntmps28
  go_wp2
  go_loopw [7, 3] (fun i v wr => ∃ j : Nat, j ≤ ln ∧ i = .int .i64 j ∧ v = .string (mkS (framesB (msR (ms.take j)))) ∧ Below w.heap.size w wr) (fun i _ _ => ln - (intOf i).toNat)
  case atStart => exact ⟨0, Nat.zero_le _, rfl, rfl, Below.refl _ _⟩
  case round =>
    obtain ⟨j, hj, rfl, rfl, hbr⟩ := hrel
    have HB := hide hbr
    clear hbr
    by_cases hlt : j < ln
    · have hlm : j < ms.length := by have := HLN.out; omega
      obtain ⟨b, off, rfl, hbl, hrg, hft, hin⟩ := HI.out.at (i := j) hlm
      have hrt : (ms.getD j rcZ).1.right := by
        rw [← msR_get]
        refine HR.out _ ?_
        rw [List.getD_eq_getElem?_getD, List.getElem?_eq_getElem (by simpa [msR] using hlm)]
        exact List.getElem_mem _
      have hmore := taken_more ms j hlm
      have hmo : (framesB (msR (ms.take (j + 1)))).length ≤ 70000 := by
        have h1 := frames_mono (msR ms) (j + 1) ms.length (by omega)
        rw [msR_take']
        have h2 : (msR ms).take ms.length = msR ms := List.take_of_length_le (by simp [msR])
        rw [h2] at h1
        exact Nat.le_trans h1 HZ.out
      obtain ⟨m, hm⟩ : ∃ m, m = ms.getD j rcZ := ⟨_, rfl⟩
      rw [← hm] at hrg hft hin hrt hmore
      rw [hmore, List.length_append] at hmo
      clear hm
      have HLD := hide (load_mid wr b (off + j * 14) m (rangeAt_below hrg HB.out hbl))
      have HFR : Hid (∀ y, Below w.heap.size w y → Calls Try.prog 47 #[.agg (rcF m)] y fun e w' => e = .returned (.string (mkS (frameB m.1))) ∧ Below y.heap.size y w') := hide (fun y hy => rframe_any m.1 m.2.1 m.2.2 y hrt (hin.below hy))
      have hjI : (j : Int) < (ln : Int) := by omega
      have HN : Hid (mkS (framesB (msR (ms.take (j + 1)))) = mkS (framesB (msR (ms.take j))) ++ mkS (frameB m.1)) := by
        rw [hmore, mkS_append]
        exact rfl
      have z1 := mkS_size (frameB m.1)
      have z2 := mkS_size (framesB (msR (ms.take j)))
      have hadd := run_add_s (mkS (framesB (msR (ms.take j)))) (mkS (frameB m.1)) (by omega)
      clear hrg hft hin hrt hmore
      generalize mkS (frameB m.1) = S at *
      generalize mkS (framesB (msR (ms.take j))) = T at *
      go_wp2_with (refine wpList_load_val rfl 43 (.tmp 13) rfl _ _ rfl HLD.out ?_)
      refine (HFR.out wr HB.out).mono ?_
      rintro e w1 ⟨rfl, hb1⟩
      have HB1 := hide (HB.out.trans (hb1.mono HB.out.size))
      clear hb1 HB HFR HLD
      go_wp2
      go_roundw
      case rel => exact ⟨j + 1, by omega, by go_num, by rw [HN.out], HB1.out⟩
      case measure => simp [intOf]; omega
    · obtain rfl : j = ln := by omega
      have e : ms.take j = ms := by rw [HLN.out, List.take_length]
      rw [e]
      go_wp2
      go_ret
      exact ⟨rfl, HB.out⟩
end Go.Proofs.Ythamodoedlpmdaa
