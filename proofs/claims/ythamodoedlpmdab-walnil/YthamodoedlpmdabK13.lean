/-
  Texts that lean on one another, one behind the other: each opens with its own remark.
-/
import Derived.Test.YthamodoedlpmdabProg
import Derived.Test.YthamodoedlpmdabRows
import Derived.Test.YthamodoedlpmdabK12
import Derived.Test.YthamodoedlpmdabK03
import Derived.Test.YthamodoedlpmdabK00

/-
  The contracts of quaysidelaw09.commit and awake.
-/
namespace Go.Proofs.Ythamodoedlpmdab
open Go.RowKit
set_option linter.unusedVariables false

/-- The smallest record there is. -/
def cmR : Rec := ⟨3, 0, 1, 0, Ch.zero, 0, 0, 0, [], []⟩
theorem cmR_fits : cmR.fits := ⟨zero_fits, Nat.zero_le _, Nat.zero_le _, fun x hx => (nomatch hx), fun x hx => (nomatch hx)⟩
theorem cmR_right (n : Nat) (h1 : 1 ≤ n) (h2 : n ≤ maxP) : (cmR.put n).right := by
  have ek : (cmR.put n).k = 3 := rfl
  have et : (cmR.put n).t = 1 := rfl
  refine ⟨by rw [ek]; decide, by rw [ek]; decide, h1, h2, fun _ => ⟨by rw [et]; decide, by rw [et]; decide, h1⟩, fun h => ?_, fun h => ?_, fun _ => rfl, fun h => ?_, fun _ => rfl, fun h => ?_, fun _ => rfl, fun h => ?_, fun _ => ⟨rfl, rfl, rfl⟩⟩
  all_goals
    rw [ek] at h
    exact absurd h (by decide)
theorem cmR_len (n : Nat) : (frameB (cmR.put n)).length = 27 := by
  rw [frameB_length]
  simp [recB, cmR, Rec.put, beB_length, mayB]
theorem cmA : rcA cmR (.slice none 0 0) (.slice none 0 0) = #[.int .i64 3, .int .u64 0, .int .i64 1, .int .u64 0, .int .i64 0, .int .i64 0, .int .i64 0, .string ⟨#[]⟩, .string ⟨#[]⟩, .int .u64 0, .int .i64 0, .int .u64 0, .slice none 0 0, .slice none 0 0] := rfl
set_option maxRecDepth 4000 in
set_option maxHeartbeats 800000 in
theorem commit9_any (w : World) : Calls Try.prog 31 #[] w fun e w' => e = .returned (.agg (rcA cmR (.slice none 0 0) (.slice none 0 0))) ∧ Below w.heap.size w w' := by
  have HZ := hide (And.intro (RowAt.new w 28 zeroA) ((Below.refl w.heap.size w).alloc (Nat.le_refl _) (.cells zeroA 28)))
  go_enter Try.func31, Try.ntmps31
  go_wp2_with (refine wpList_store_at rfl 28 (.tmp 0) (.tmp 1) rfl w.heap.size zeroA (rcA cmR (.slice none 0 0) (.slice none 0 0)) rfl rfl HZ.out.1 infoRc rfl (by simp [rcA, Value.oneCell']) ?_)
  intro w3 hr3 hk3 hrow3
  have hb3 := hk3 _ _ HZ.out.2 (Nat.le_refl _)
  have HR := hide (And.intro hr3 hb3)
  clear hr3 hk3 hrow3 hb3 HZ
  go_wp2
  exact bodyPost_ret (res_one rfl _ _ w.heap.size (rcA cmR (.slice none 0 0) (.slice none 0 0)) _ rfl HR.out.1 Try.underlying28 rfl infoRc) rfl ⟨rfl, HR.out.2⟩
theorem scan_nil9 : scanL [] = ([], 0) := scan_whole [] trivial
/-- The log of awake. -/
def aw9 : Lg := ⟨⟨⟨#[]⟩, 0, 100, 0⟩, 0, [], 0, 0, 0, 0⟩
theorem aw9_open : Lg.open (Tp.new 100) 0 = aw9 := by
  unfold Lg.open
  have e : (Tp.new 100).b.data.toList = [] := rfl
  rw [e, scan_nil9]
  rfl
theorem aw9_used : aw9.used = 0 := rfl
theorem aw9_app : aw9.appE cmR 0 60 = 0 := by
  unfold Lg.appE
  rw [if_neg (by decide), if_neg (by decide), if_neg (fun h => h (cmR_right 1 (by decide) (by decide))), if_neg]
  have e : aw9.num 0 = 1 := rfl
  rw [e, cmR_len]
  decide
def aw9b : Lg := ⟨⟨⟨#[]⟩, 0, 100, 0⟩, 1, [cmR.put 1], 0, 0, 60, 0⟩
theorem aw9_two : aw9.app cmR 0 60 = aw9b ∧ aw9.appN cmR 0 60 = 1 := by
  obtain ⟨h1, h2⟩ := aw9.app_yes cmR 0 60 aw9_app
  rw [h1, h2]
  exact ⟨rfl, rfl⟩
theorem aw9b_used : aw9b.used = 27 := by
  have e : aw9b.used = 0 + (framesB [cmR.put 1]).length := rfl
  rw [e, frames_one, cmR_len]
theorem aw9b_app : aw9b.appE cmR 0 0 = 7 := by
  unfold Lg.appE
  rw [if_neg (by decide), if_neg (by decide), if_neg (fun h => h (cmR_right 2 (by decide) (by decide))), if_pos]
  have e : aw9b.num 0 = 2 := rfl
  rw [e, cmR_len, aw9b_used]
  decide

set_option maxRecDepth 8000 in
set_option maxHeartbeats 1600000 in
theorem awake9_any (w : World) : Calls Try.prog 7 #[] w fun e w' => e = .returned (.bool true) ∧ Below w.heap.size w w' := by
  go_enter Try.func7, Try.ntmps7
  go_wp2_with fail
  refine (knew8 100 w w (Below.refl _ _)).mono ?_
  rintro e w1 ⟨rfl, h1, -⟩
  have H1 := hide h1
  clear h1
  go_wp2_with fail
  have T := kfirst9 w w1 w.heap.size (Tp.new 100) 0 H1.out (by decide)
  rw [aw9_open] at T
  refine T.mono ?_
  rintro e w2 ⟨gl, rfl, h2⟩
  have H2 := hide h2
  clear h2 T H1
  go_wp2_with fail
  refine (commit9_any w2).mono ?_
  rintro e w3 ⟨rfl, hb3⟩
  have H3 := hide (H2.out.later hb3)
  clear hb3 H2
  go_wp2_with fail
  have T := kapp9 H3.out cmR _ _ 0 60 cmR_fits (rckn (w := w3) rfl rfl) (by decide) (by decide)
  rw [aw9_two.1, aw9_two.2, aw9_app] at T
  refine T.mono ?_
  rintro e w4 ⟨rfl, h4⟩
  have H4 := hide h4
  clear h4 T H3
  go_wp2_with fail
  refine (commit9_any w4).mono ?_
  rintro e w5 ⟨rfl, hb5⟩
  have H5 := hide (H4.out.later hb5)
  clear hb5 H4
  go_wp2_with fail
  have T := kapp9 H5.out cmR _ _ 0 0 cmR_fits (rckn (w := w5) rfl rfl) (by decide) (by decide)
  have hno := aw9b.app_no cmR 0 0 (by rw [aw9b_app]; decide)
  rw [hno.1, hno.2, aw9b_app] at T
  refine T.mono ?_
  rintro e w6 ⟨rfl, h6⟩
  have H6 := hide h6
  clear h6 T H5 hno
  go_wp2_with fail
  have T := kleft9 H6.out
  have e1 : (aw9b.t.m : Int) - (aw9b.used : Int) - (aw9b.hd : Int) = 13 := by rw [aw9b_used]; rfl
  rw [e1] at T
  refine T.mono ?_
  rintro e w7 ⟨rfl, h7⟩
  have H7 := hide h7
  clear h7 T H6 e1
  go_wp2_with fail
  refine (krecs9 H7.out).mono ?_
  rintro e w8 ⟨ga, ns, rfl, -, h8⟩
  have e2 : aw9b.l.length = 1 := rfl
  rw [e2]
  have H8 := hide h8
  clear h8 H7 e2
  go_wp2
  go_ret
  exact ⟨rfl, H8.out.bel⟩
end Go.Proofs.Ythamodoedlpmdab

/-
  The calls of a script of a log, in lists that come in, opened.
-/
namespace Go.Proofs.Ythamodoedlpmdab
open Go.ChangeShapes Go.WideShapes Go.ChangeAt Go.RowKit Go.Deep Go.Joins
set_option linter.unusedVariables false

set_option maxRecDepth 40000 in
/-- A call of a script. -/
structure Wc where
  k : Int
  m : Rec × Value × Value
  n : Nat
  h : Int
set_option maxRecDepth 40000 in
def wcA (c : Wc) : Array Value := #[.int .i64 c.k, .int .i64 c.m.1.k, .int .u64 (c.m.1.l : Int), .int .i64 c.m.1.t, .int .u64 (c.m.1.p : Int), .int .i64 c.m.1.c.k, .int .i64 c.m.1.c.pg, .int .i64 c.m.1.c.sl, .string c.m.1.c.o, .string c.m.1.c.n, .int .u64 (c.m.1.n : Int), .int .i64 c.m.1.s, .int .u64 (c.m.1.b : Int), c.m.2.1, c.m.2.2, .int .u64 (c.n : Int), .int .i64 c.h]
set_option maxRecDepth 40000 in
def Wc.zero : Wc := ⟨0, rcZ, 0, 0⟩
set_option maxRecDepth 40000 in
def Wc.fits (c : Wc) : Prop := (Lit.int .i64 c.k).wf = true ∧ (Lit.int .u64 (c.n : Int)).wf = true ∧ (Lit.int .i64 c.h).wf = true ∧ c.m.1.fits
section
variable {H : Type} {enc : TypeId × Value → H} {W : World}

set_option maxRecDepth 40000 in
theorem trod_st4 {P : Program} {t : TypeId} {f0 f1 f2 f3 : Field} {fuel : Nat} {cs : List Value} {x : DataW H × List MemPlace} (ht : P.underlying t = some (.struct #[f0, f1, f2, f3])) (h : DataW.trod enc P W 0 (fun _ => true) true fuel t cs = some x) :
    ∃ y0 y1 y2 y3 n, cs.length = P.cellsOf t ∧ DataW.trod enc P W 0 (fun _ => true) true n f0.type ((cs.drop f0.offset).take (P.cellsOf f0.type)) = some y0 ∧ DataW.trod enc P W 0 (fun _ => true) true n f1.type ((cs.drop f1.offset).take (P.cellsOf f1.type)) = some y1 ∧ DataW.trod enc P W 0 (fun _ => true) true n f2.type ((cs.drop f2.offset).take (P.cellsOf f2.type)) = some y2 ∧ DataW.trod enc P W 0 (fun _ => true) true n f3.type ((cs.drop f3.offset).take (P.cellsOf f3.type)) = some y3 := by
  obtain ⟨xs, n, _, rfl, hl, hlen, hf⟩ := DataW.trod_struct ht h
  match xs, hlen with
  | [y0, y1, y2, y3], _ => exact ⟨y0, y1, y2, y3, n, hl, by simpa using hf 0 f0 rfl, by simpa using hf 1 f1 rfl, by simpa using hf 2 f2 rfl, by simpa using hf 3 f3 rfl⟩
set_option maxRecDepth 40000 in
theorem elem_wc (n : Nat) (cs : List Value) (y : DataW H × List MemPlace) (h : DataW.trod enc Try.prog W 0 (fun _ => true) true n 49 cs = some y) : ∃ c : Wc, cs = (wcA c).toList ∧ (c.fits ∧ RcIn W c.m.1 c.m.2.1 c.m.2.2) := by
  obtain ⟨y0, y1, y2, y3, m, hl, h0, h1, h2, h3⟩ := trod_st4 Try.underlying49 h
  have hC : Try.prog.cellsOf 49 = 17 := by kernel_rfl
  rw [hC] at hl
  match cs, hl with
  | [c0, c1, c2, c3, c4, c5, c6, c7, c8, c9, c10, c11, c12, c13, c14, c15, c16], _ =>
    have e0 : Try.prog.cellsOf 3 = 1 := by kernel_rfl
    have e1 : Try.prog.cellsOf 22 = 1 := by kernel_rfl
    have e2 : Try.prog.cellsOf 28 = 14 := by kernel_rfl
    simp only [e0, e1, e2, List.drop_zero, List.drop_succ_cons, List.take_succ_cons, List.take_zero] at h0 h1 h2 h3
    obtain ⟨i0, g0, _, w0⟩ := DataW.trod_int Try.underlying3 h0
    obtain ⟨r, g1, w1, u1⟩ := elem_rec _ _ _ h1
    obtain ⟨i2, g2, _, w2⟩ := DataW.trod_int Try.underlying22 h2
    obtain ⟨i3, g3, _, w3⟩ := DataW.trod_int Try.underlying3 h3
    simp only [rcF, rcA, List.cons.injEq, and_true] at g0 g1 g2 g3
    obtain ⟨a1, a2, a3, a4, a5, a6, a7, a8, a9, a10, a11, a12, a13, a14⟩ := g1
    subst g0 a1 a2 a3 a4 a5 a6 a7 a8 a9 a10 a11 a12 a13 a14 g2 g3
    obtain ⟨j2, rfl⟩ := u64_nat w2
    exact ⟨⟨i0, r, j2, i3⟩, rfl, ⟨w0, w2, w3, w1⟩, u1⟩
set_option maxRecDepth 40000 in
/-- A script. -/
theorem op_wcs {v : Value} {d : DataW H} {p : List MemPlace} {r : Reach} {b0 : Nat} (hv : Value.okWide Try.prog W r b0 57 v) (h : DataW.Trod enc Try.prog W 0 (fun _ => true) true 57 v d p) :
    ∃ cs : List Wc, RowsIn wcA Wc.zero 17 W v cs ∧ cs.length ≤ maxLen ∧ (∀ c ∈ cs, c.fits ∧ RcIn W c.m.1 c.m.2.1 c.m.2.2) ∧ ∀ a len cap, v = .slice a len cap → len ≤ cap := by
  obtain ⟨fuel, hf⟩ := h
  obtain ⟨a, len, cap, rfl⟩ := okWide_slice Try.underlying57 hv
  have hf2 : DataW.trod enc Try.prog W 0 (fun _ => true) true fuel 57 [.slice a len cap] = some (d, p) := hf
  obtain ⟨cs, h1, h2, h3⟩ := op_rows (sz := 17) wcA Wc.zero (fun c => c.fits ∧ RcIn W c.m.1 c.m.2.1 c.m.2.2) elem_wc Try.underlying57 (by kernel_rfl) (fun _ => rfl) (by decide) hf2
  exact ⟨cs, h1, h2, h3, fun a' l' c' e => (op_cap Try.underlying57 hf2 e).1⟩
set_option maxRecDepth 40000 in
/-- One call by value. -/
theorem op_wc {v : Value} {d : DataW H} {p : List MemPlace} {r : Reach} {b0 : Nat} (hv : Value.okWide Try.prog W r b0 49 v) (h : DataW.Trod enc Try.prog W 0 (fun _ => true) true 49 v d p) :
    ∃ c : Wc, v = .agg (wcA c) ∧ c.fits ∧ RcIn W c.m.1 c.m.2.1 c.m.2.2 := by
  obtain ⟨cs, rfl, hsz⟩ := okWide_struct Try.underlying49 hv
  obtain ⟨fuel, hf⟩ := h
  obtain ⟨l⟩ := cs
  obtain ⟨c, hc, hft⟩ := elem_wc _ _ _ hf
  have hc2 : l = (wcA c).toList := hc
  subst hc2
  exact ⟨c, rfl, hft⟩
end
end Go.Proofs.Ythamodoedlpmdab

/-
  The contract of quaysidelaw09.few.
-/
namespace Go.Proofs.Ythamodoedlpmdab
open Go.RowKit
set_option linter.unusedVariables false

/-- A call of a script that lies there. -/
theorem wcs_cell {w : World} {a : Option Addr} {cap : Nat} {cs : List Wc} (h : RowsIn wcA Wc.zero 17 w (.slice a cs.length cap) cs) (hp : 0 < cs.length) :
    ∃ b off, a = some ⟨b, off, none⟩ ∧ b < w.heap.size ∧ ∀ i, i < cs.length → w.rangeAt b (off + i * 17) (wcA (cs.getD i Wc.zero)).toList := by
  obtain ⟨a', cap', e, h2⟩ := h
  injection e with e1 e2 e3
  subst e1
  exact h2 hp
/-- A record's lists are slices of their lengths. -/
theorem rc_slices {w : World} {r : Rec} {va vb : Value} (h : RcIn w r va vb) : ∃ a c b d, va = .slice a r.ts.length c ∧ vb = .slice b r.ds.length d := by
  obtain ⟨⟨a, c, e1, _⟩, ⟨b, d, e2, _⟩⟩ := h
  exact ⟨a, c, b, d, e1, e2⟩

set_option maxRecDepth 4000 in
set_option maxHeartbeats 400000 in
theorem few9_long (a : Option Addr) (len cap : Nat) (w : World) (h : 100 < len) :
    Calls Try.prog 23 #[.slice a len cap] w fun e w' => e = .returned (.bool false) ∧ w = w' := by
  have h1 : (100 : Int) < (len : Int) := by omega
  go_enter Try.func23, Try.ntmps23
  go_wp2
  go_ret
  exact ⟨rfl, rfl⟩

/-- What few tells. -/
def Few9 (cs : List Wc) (w : World) (e : Ending) (w' : World) : Prop := ∃ q, e = .returned (.bool q) ∧ ((q = true → cs.length ≤ 100 ∧ ∀ i, i < cs.length → (cs.getD i Wc.zero).m.1.ts.length ≤ 100 ∧ (cs.getD i Wc.zero).m.1.ds.length ≤ 100) ∧ ((cs.length ≤ 100 ∧ ∀ i, i < cs.length → (cs.getD i Wc.zero).m.1.ts.length ≤ 100 ∧ (cs.getD i Wc.zero).m.1.ds.length ≤ 100) → q = true)) ∧ w = w'
set_option maxRecDepth 4000 in
set_option maxHeartbeats 800000 in
theorem few9_any (v : Value) (cs : List Wc) (w : World) (h : RowsIn wcA Wc.zero 17 w v cs) (hr : ∀ c ∈ cs, RcIn w c.m.1 c.m.2.1 c.m.2.2) (hc : ∀ a len cap, v = .slice a len cap → len ≤ cap) :
    Calls Try.prog 23 #[v] w (Few9 cs w) := by
  have h' := h
  obtain ⟨a, cap, rfl, -⟩ := h'
  have hcap := hc _ _ _ rfl
  by_cases hl : 100 < cs.length
  · exact (few9_long a cs.length cap w hl).mono fun e w' he => ⟨false, he.1, ⟨fun h => (nomatch h), fun hq => absurd hq.1 (by omega)⟩, he.2⟩
  have h1 : ¬ (100 : Int) < (cs.length : Int) := by omega
  have HC := hide (wcs_cell h)
  have HRR := hide (fun i (hi : i < cs.length) => rc_slices (hr (cs.getD i Wc.zero) (by
    rw [List.getD_eq_getElem?_getD, List.getElem?_eq_getElem hi]
    exact List.getElem_mem hi)))
  obtain ⟨ln, hln⟩ : ∃ ln, cs.length = ln := ⟨_, rfl⟩
  rw [hln] at HC HRR h1 hl hcap ⊢
  have HLN := hide hln
  clear h hc hln hr
  go_enter Try.func23, Try.ntmps23
  go_wp2
  go_loopw [9] (fun i wr => ∃ j : Nat, j ≤ ln ∧ i = .int .i64 j ∧ w = wr ∧ ∀ i, i < j → (cs.getD i Wc.zero).m.1.ts.length ≤ 100 ∧ (cs.getD i Wc.zero).m.1.ds.length ≤ 100) (fun i _ => ln - (intOf i).toNat)
  case atStart => exact ⟨0, Nat.zero_le _, rfl, rfl, fun i hi => absurd hi (Nat.not_lt_zero _)⟩
  case round =>
    obtain ⟨j, hj, rfl, rfl, hall⟩ := hrel
    by_cases hlt : j < ln
    · obtain ⟨b, off, rfl, -, hcell⟩ := HC.out (by omega)
      obtain ⟨a1, c1, a2, c2, ht, hd⟩ := HRR.out j hlt
      have d1 := hcell j hlt 13 _ rfl
      have d2 := hcell j hlt 14 _ rfl
      rw [ht] at d1
      rw [hd] at d2
      have hjc : (j : Int) < (ln : Int) := by omega
      have HA := hide hall
      clear hcell HC hall HRR ht hd
      obtain ⟨T, hT⟩ : ∃ T, T = (cs.getD j Wc.zero).m.1.ts.length := ⟨_, rfl⟩
      obtain ⟨D, hD⟩ : ∃ D, D = (cs.getD j Wc.zero).m.1.ds.length := ⟨_, rfl⟩
      rw [← hT] at d1
      rw [← hD] at d2
      have HT := hide (And.intro hT hD)
      clear hT hD
      by_cases hs : T ≤ 100 ∧ D ≤ 100
      · have hs1 : ¬ (100 : Int) < (T : Int) := by omega
        have hs2 : ¬ (100 : Int) < (D : Int) := by omega
        clear hs
        go_wp2
        go_roundw
        case rel =>
          refine ⟨j + 1, by omega, by go_num, by first | rfl | trivial, fun i hi => ?_⟩
          by_cases e : i = j
          · rw [e, ← HT.out.1, ← HT.out.2]
            omega
          · exact HA.out i (by omega)
        case measure => simp [intOf]; omega
      · by_cases hs1 : (100 : Int) < (T : Int)
        · clear hs
          go_wp2
          go_ret
          exact ⟨false, rfl, ⟨fun h => (nomatch h), fun hq => absurd (hq.2 j (by have := HLN.out; omega)) (by rw [← HT.out.1, ← HT.out.2]; omega)⟩, rfl⟩
        · have hs2 : (100 : Int) < (D : Int) := by omega
          clear hs
          go_wp2
          go_ret
          exact ⟨false, rfl, ⟨fun h => (nomatch h), fun hq => absurd (hq.2 j (by have := HLN.out; omega)) (by rw [← HT.out.1, ← HT.out.2]; omega)⟩, rfl⟩
    · obtain rfl : j = ln := by omega
      go_wp2
      go_ret
      exact ⟨true, rfl, ⟨fun _ => ⟨by have := HLN.out; omega, fun i hi => hall i (by have := HLN.out; omega)⟩, fun _ => rfl⟩, rfl⟩
theorem few9_yes (v : Value) (cs : List Wc) (w : World) (h : RowsIn wcA Wc.zero 17 w v cs) (hr : ∀ c ∈ cs, RcIn w c.m.1 c.m.2.1 c.m.2.2) (hc : ∀ a len cap, v = .slice a len cap → len ≤ cap) (hq : cs.length ≤ 100 ∧ ∀ i, i < cs.length → (cs.getD i Wc.zero).m.1.ts.length ≤ 100 ∧ (cs.getD i Wc.zero).m.1.ds.length ≤ 100) :
    Calls Try.prog 23 #[v] w fun e w' => e = .returned (.bool true) ∧ w = w' := (few9_any v cs w h hr hc).mono fun e w' ⟨q, h1, h2, h3⟩ => by
  rw [h2.2 hq] at h1
  exact ⟨h1, h3⟩
end Go.Proofs.Ythamodoedlpmdab

/-
  The contract of quaysidelaw09.played.
-/
namespace Go.Proofs.Ythamodoedlpmdab
open Go.RowKit
set_option linter.unusedVariables false

theorem infoWc : (Try.prog.info? 49).map (·.size) = some 17 := by kernel_rfl
def wcZ : Array Value := #[.int .i64 0, .int .i64 0, .int .u64 0, .int .i64 0, .int .u64 0, .int .i64 0, .int .i64 0, .int .i64 0, .string ⟨#[]⟩, .string ⟨#[]⟩, .int .u64 0, .int .i64 0, .int .u64 0, .slice none 0 0, .slice none 0 0, .int .u64 0, .int .i64 0]
/-- A script's call, loaded. -/
theorem load_wc (y : World) (b k : Nat) (c : Wc) (h : y.rangeAt b k (wcA c).toList) : (Instr.loadAt 49 (.pointer (some ⟨b, k, none⟩))).run Try.prog y = .ok (.agg (wcA c)) y := by
  have h1 := run_loadAt_mid (P := Try.prog) y b k 49 (wcA c).toList _ h Try.underlying49 rfl (by rw [infoWc]; rfl)
  rwa [Array.toArray_toList] at h1
/-- Its record. -/
theorem load_wr (y : World) (b : Nat) (c : Wc) (h : RowAt y b 49 (wcA c)) : (Instr.loadAt 28 (.pointer (some ⟨b, 1, none⟩))).run Try.prog y = .ok (.agg (rcA c.m.1 c.m.2.1 c.m.2.2)) y := by
  refine load_mid y b 1 c.m (fun j u hu => ?_)
  have hj : j < 14 := (List.getElem?_eq_some_iff.1 hu).1
  have e : (wcA c)[1 + j]? = some u := by
    rw [← hu]
    have h3 : j = 0 ∨ j = 1 ∨ j = 2 ∨ j = 3 ∨ j = 4 ∨ j = 5 ∨ j = 6 ∨ j = 7 ∨ j = 8 ∨ j = 9 ∨ j = 10 ∨ j = 11 ∨ j = 12 ∨ j = 13 := by omega
    rcases h3 with rfl | rfl | rfl | rfl | rfl | rfl | rfl | rfl | rfl | rfl | rfl | rfl | rfl | rfl <;> rfl
  exact h.cell (1 + j) u e
theorem wcA_all (c : Wc) (h1 : ∃ a n d, c.m.2.1 = .slice a n d) (h2 : ∃ a n d, c.m.2.2 = .slice a n d) : (wcA c).all (·.oneCell') = true := by
  obtain ⟨a, n, d, h1⟩ := h1
  obtain ⟨b, m, e, h2⟩ := h2
  simp [wcA, h1, h2, Value.oneCell']
/-- A script that came in. -/
structure Scr (w0 : World) (v : Value) (cs : List Wc) : Prop where
  rows : RowsIn wcA Wc.zero 17 w0 v cs
  fits : ∀ c ∈ cs, c.fits ∧ RcIn w0 c.m.1 c.m.2.1 c.m.2.2
  cap : ∀ a len cap, v = .slice a len cap → len ≤ cap
theorem Scr.at {w0 x : World} {a : Option Addr} {len cap : Nat} {cs : List Wc} (h : Scr w0 (.slice a len cap) cs) (p : Below w0.heap.size w0 x) {j : Nat} (hj : j < cs.length) : ∃ b off, a = some ⟨b, off, none⟩ ∧ (Instr.loadAt 49 (.pointer (some ⟨b, off + j * 17, none⟩))).run Try.prog x = .ok (.agg (wcA (cs.getD j Wc.zero))) x ∧ (cs.getD j Wc.zero).fits ∧ RcIn w0 (cs.getD j Wc.zero).m.1 (cs.getD j Wc.zero).m.2.1 (cs.getD j Wc.zero).m.2.2 := by
  obtain ⟨a', cap', e, h2⟩ := h.rows
  injection e with e1 e2 e3
  subst e1
  obtain ⟨b, off, h3, h4, h5⟩ := h2 (by omega)
  have hm : cs.getD j Wc.zero ∈ cs := by
    rw [List.getD_eq_getElem?_getD, List.getElem?_eq_getElem hj]
    exact List.getElem_mem hj
  exact ⟨b, off, h3, load_wc x b _ _ (rangeAt_below (h5 j hj) p h4), h.fits _ hm⟩
theorem Scr.len {w0 : World} {a : Option Addr} {len cap : Nat} {cs : List Wc} (h : Scr w0 (.slice a len cap) cs) : len = cs.length := by
  obtain ⟨a', cap', e, h2⟩ := h.rows
  injection e
theorem wf_u64 {n : Nat} (h : (Lit.int .u64 (n : Int)).wf = true) : n < 18446744073709551616 := by
  have := (bounds_u64 h).2
  omega
/-- .. behind what was made since the beginning. -/
theorem Scr.later {w0 x : World} {v : Value} {cs : List Wc} (h : Scr w0 v cs) (p : Below w0.heap.size w0 x) : Scr x v cs :=
  ⟨h.rows.below p, fun c hc => ⟨(h.fits c hc).1, (h.fits c hc).2.below p⟩, h.cap⟩
theorem K9.from {P : Nat → Prop} {wp w0 w1 w : World} {gt gl : Nat} {g : Lg} (h : K9 P wp w1 w gt gl g) (p : Below w0.heap.size w0 w1) : Below w0.heap.size w0 w := p.trans (h.bel.mono p.size)
/-- few answers yes or no, in every world behind the beginning. -/
theorem few9_two (v : Value) (cs : List Wc) (w : World) (hs : Scr w v cs) :
    (cs.length ≤ 100 ∧ ∀ x, Below w.heap.size w x → Calls Try.prog 23 #[v] x (fun e w' => e = .returned (.bool true) ∧ x = w')) ∨ (∀ x, Below w.heap.size w x → Calls Try.prog 23 #[v] x (fun e w' => e = .returned (.bool false) ∧ x = w')) := by
  by_cases hq : cs.length ≤ 100 ∧ ∀ i, i < cs.length → (cs.getD i Wc.zero).m.1.ts.length ≤ 100 ∧ (cs.getD i Wc.zero).m.1.ds.length ≤ 100
  · exact .inl ⟨hq.1, fun x p => few9_yes v cs x (hs.later p).rows (fun c hc => ((hs.later p).fits c hc).2) hs.cap hq⟩
  · exact .inr fun x p => (few9_any v cs x (hs.later p).rows (fun c hc => ((hs.later p).fits c hc).2) hs.cap).mono fun e w' ⟨q, h1, h2, h3⟩ => by
      cases q with
      | false => exact ⟨h1, h3⟩
      | true => exact absurd (h2.1 rfl) hq
end Go.Proofs.Ythamodoedlpmdab

/-
  Two logs of the code's, side by side.
-/
namespace Go.Proofs.Ythamodoedlpmdab
open Go.RowKit
set_option linter.unusedVariables false

structure K92 (w0 w : World) (gs ga gt gb : Nat) (g1 g2 : Lg) : Prop where
  ok1 : g1.ok
  ok2 : g2.ok
  la : ∃ F1 F2, LAc w0.heap.size gs ga w F1 g1 ∧ LAc w0.heap.size gt gb w F2 g2 ∧ ∀ k, F1 k → ¬ F2 k
  bel : Below w0.heap.size w0 w
section
variable {w0 w x : World} {gs ga gt gb : Nat} {g1 g2 g' : Lg}
theorem K92.swap (h : K92 w0 w gs ga gt gb g1 g2) : K92 w0 w gt gb gs ga g2 g1 := by
  obtain ⟨F1, F2, h1, h2, h3⟩ := h.la
  exact ⟨h.ok2, h.ok1, ⟨F2, F1, h2, h1, fun k hk hk2 => h3 k hk2 hk⟩, h.bel⟩
theorem K92.later (h : K92 w0 w gs ga gt gb g1 g2) (p : Below w.heap.size w x) : K92 w0 x gs ga gt gb g1 g2 := by
  obtain ⟨F1, F2, h1, h2, h3⟩ := h.la
  exact ⟨h.ok1, h.ok2, ⟨F1, F2, (base9 _).keep _ _ _ _ _ _ _ h1 (loose_none _ w) (Tn.of_below p) (fun _ _ h => h), (base9 _).keep _ _ _ _ _ _ _ h2 (loose_none _ w) (Tn.of_below p) (fun _ _ h => h), h3⟩, h.bel.trans (p.mono h.bel.size)⟩
theorem K92.drew (h : K92 w0 w gs ga gt gb g1 g2) : K92 w0 w.drew gs ga gt gb g1 g2 := h.later ⟨rfl, rfl, rfl, Nat.le_refl _, fun _ _ => rfl⟩
/-- A call of the first one. -/
theorem K92.call (h : K92 w0 w gs ga gt gb g1 g2) (hok : g'.ok) {Pe : Ending → Prop} {f : FuncId} {args : Array Value} (hc : ∀ F, LAc w0.heap.size gs ga w F g1 → Calls Try.prog f args w fun e x' => Pe e ∧ Aft (LAc w0.heap.size) gs ga w F g' x') : Calls Try.prog f args w fun e x' => Pe e ∧ K92 w0 x' gs ga gt gb g' g2 := by
  obtain ⟨F1, F2, h1, h2, h3⟩ := h.la
  have l1 := (base9 _).loose _ _ _ _ _ h1
  have l2 := (base9 _).loose _ _ _ _ _ h2
  refine (hc F1 h1).mono ?_
  rintro e x' ⟨hp, F', q1, q2, q3⟩
  refine ⟨hp, hok, h.ok2, ⟨F', F2, q1, (base9 _).keep _ _ _ _ _ _ _ h2 l1 q2 (fun k hk hk1 => h3 k hk1 hk), fun k hk hk2 => ?_⟩, h.bel.trans (q2.below (fun k hk => (l1 k hk).1) h.bel.size)⟩
  rcases q3 k hk with h6 | h6
  · exact h3 k h6 hk2
  · have := (l2 k hk2).2.1
    omega
theorem K92.look (h : K92 w0 w gs ga gt gb g1 g2) {Pe : Ending → World → Prop} {f : FuncId} {args : Array Value} (hc : ∀ F, LAc w0.heap.size gs ga w F g1 → Calls Try.prog f args w fun e x' => Pe e x' ∧ Below w.heap.size w x') : Calls Try.prog f args w fun e x' => Pe e x' ∧ Below w.heap.size w x' ∧ K92 w0 x' gs ga gt gb g1 g2 := by
  obtain ⟨F1, F2, h1, h2, h3⟩ := h.la
  exact (hc F1 h1).mono fun e x' hh => ⟨hh.1, hh.2, h.later hh.2⟩
theorem K92.one (h : K92 w0 w gs ga gt gb g1 g2) : K9 NoP w0 w0 w gs ga g1 := by
  obtain ⟨F1, F2, h1, h2, h3⟩ := h.la
  exact ⟨h.ok1, ⟨F1, h1, fun k _ h => h⟩, fun k hk => hk.elim, h.bel⟩
theorem k2app (h : K92 w0 w gs ga gt gb g1 g2) (r : Rec) (va vb : Value) (f : Nat) (hd : Int) (hft : r.fits) (hin : RcK w0.heap.size w r va vb) (hf : f < 18446744073709551616) (hh : (Lit.int .i64 hd).wf = true) :
    Calls Try.prog 10 #[.pointer (some ⟨ga, 0, none⟩), .agg (rcA r va vb), .int .u64 (f : Int), .int .i64 hd] w fun e w' => e = .returned (.tuple #[.int .u64 (g1.appN r f hd : Int), .int .i64 (g1.appE r f hd)]) ∧ K92 w0 w' gs ga gt gb (g1.app r f hd) g2 :=
  h.call (g1.app_ok h.ok1 r f hd) (fun F hF => append9 _ gs ga w F g1 r va vb f hd hF h.ok1 hft hin hf hh)
theorem k2write (h : K92 w0 w gs ga gt gb g1 g2) :
    Calls Try.prog 16 #[.pointer (some ⟨ga, 0, none⟩)] w fun e w' => e = .returned (.int .i64 0) ∧ K92 w0 w' gs ga gt gb g1.write g2 :=
  h.call (g1.write_ok h.ok1) (fun F hF => write9 _ gs ga w F g1 hF h.ok1)
theorem k2left (h : K92 w0 w gs ga gt gb g1 g2) :
    Calls Try.prog 22 #[.pointer (some ⟨ga, 0, none⟩)] w fun e w' => e = .returned (.int .i64 ((g1.t.m : Int) - (g1.used : Int) - (g1.hd : Int))) ∧ Below w.heap.size w w' ∧ K92 w0 w' gs ga gt gb g1 g2 :=
  h.look (Pe := fun e _ => e = .returned (.int .i64 ((g1.t.m : Int) - (g1.used : Int) - (g1.hd : Int)))) (fun F hF => left9 _ gs ga w F g1 hF h.ok1)
theorem k2recs (h : K92 w0 w gs ga gt gb g1 g2) :
    Calls Try.prog 11 #[.pointer (some ⟨ga, 0, none⟩)] w fun e w' => ∃ gr ns, e = .returned (.slice (some ⟨gr, 0, none⟩) g1.l.length g1.l.length) ∧ RI w w' gr g1.l.length g1 g1.l.length ns ∧ Below w.heap.size w w' ∧ K92 w0 w' gs ga gt gb g1 g2 := by
  obtain ⟨F, ⟨gc, gb', a, cap, ms, wa, wc, hL, hF⟩, _⟩ := h.one.la
  refine (recs9_any w hL h.ok1).mono ?_
  rintro e w' ⟨gr, ns, rfl, hr⟩
  exact ⟨gr, ns, rfl, hr, hr.bel, h.later hr.bel⟩
theorem k2bytes (h : K92 w0 w gs ga gt gb g1 g2) :
    Calls Try.prog 25 #[.pointer (some ⟨gs, 0, none⟩)] w fun e w' => ∃ a c, e = .returned (.slice a g1.t.b.size c) ∧ IsB w' a g1.t.b.size g1.t.b.data.toList ∧ Below w.heap.size w w' ∧ K92 w0 w' gs ga gt gb g1 g2 := by
  obtain ⟨gtb, ht, _⟩ := h.one.tape
  refine (bytes8_any gs gtb g1.t w ht h.ok1.tok).mono ?_
  rintro e w' ⟨v, rfl, ho, hb⟩
  obtain ⟨a, c, rfl, _, hB⟩ := shape_isB ho
  exact ⟨a, c, rfl, hB, hb, h.later hb⟩
end
/-- Two new tapes, opened one behind the other. -/
theorem two_open {w0 w2 w3 : World} {gs gt : Nat} {t1 t2 : Tp} (ht : K8 w0 w3 gt t2) (hs : K8 w0 w3 gs t1) (hne : gs ≠ gt) (hgt : gt = w2.heap.size) (hs2 : K8 w0 w2 gs t1) (htb : TpAt w3 gt gt t2) (hsb : ∃ gsb, w0.heap.size ≤ gsb ∧ TpAt w3 gs gsb t1 ∧ gsb ≠ gt) :
    Calls Try.prog 8 #[.pointer (some ⟨gs, 0, none⟩), .int .u64 0] w3 fun e w4 => ∃ ga, e = .returned (.tuple #[.pointer (some ⟨ga, 0, none⟩), .int .i64 0]) ∧
      Calls Try.prog 8 #[.pointer (some ⟨gt, 0, none⟩), .int .u64 0] w4 fun e w5 => ∃ gb, e = .returned (.tuple #[.pointer (some ⟨gb, 0, none⟩), .int .i64 0]) ∧ K92 w0 w5 gs ga gt gb (Lg.open t1 0) (Lg.open t2 0) := by
  obtain ⟨gsb, h1, h2, h3⟩ := hsb
  refine (kopen9 (Is gt) w3 w0 w3 gs gsb t1 0 h2 hs.ok hs.low h1 ⟨fun e => hne e, fun e => h3 e⟩ (fun k hk => ⟨by rw [show k = gt from hk]; exact htb.lt.1, rfl⟩) hs.bel (by decide)).mono ?_
  rintro e w4 ⟨ga, rfl, h4⟩
  refine ⟨ga, rfl, ?_⟩
  have ht4 : TpAt w4 gt gt t2 := htb.keep (h4.stay gt rfl).2 (h4.stay gt rfl).2
  refine (open9_any w0.heap.size gt gt w4 t2 0 ht4 ht.ok ht.low ht.low (by decide)).mono ?_
  rintro e w5 ⟨gb, F2, rfl, q1, q2, q3, q4⟩
  obtain ⟨F1, p1, p2⟩ := h4.la
  have l1 := (base9 _).loose _ _ _ _ _ p1
  have hlo : Loose w0.heap.size w4 (fun k => k = gt ∨ k = gt) := fun k hk => by
    have hk' : k = gt := by rcases hk with h | h <;> exact h
    obtain ⟨⟨c1, t1'⟩, _⟩ := ht4.kind
    rw [hk']
    exact ⟨ht.low, t1'.lt, fun ty cs hrow => by rw [row_kind hrow t1']; decide⟩
  refine ⟨gb, rfl, h4.ok, Lg.open_ok t2 ht.ok 0, ⟨F1, F2, (base9 _).keep _ _ _ _ _ _ _ p1 hlo q2 (fun k hk e => p2 k hk (by rcases e with e | e <;> exact e)), q1, fun k hk hk2 => ?_⟩, h4.bel.trans (q2.below (fun k hk => by rcases hk with h | h <;> (rw [h]; exact ht.low)) h4.bel.size)⟩
  rcases q3 k hk2 with h | h | h
  · exact p2 k hk h
  · exact p2 k hk h
  · have := (l1 k hk).2.1
    omega
/-- Two logs that differ in what is on the tape alone. -/
structure Sim (g1 g2 : Lg) : Prop where
  c : g1.c = g2.c
  l : g1.l = g2.l
  hd : g1.hd = g2.hd
  m : g1.t.m = g2.t.m
theorem Sim.used {g1 g2 : Lg} (h : Sim g1 g2) (h1 : g1.ok) (h2 : g2.ok) : g1.used = g2.used := by rw [g1.used_all h1, g2.used_all h2, h.l]
theorem Sim.appE {g1 g2 : Lg} (h : Sim g1 g2) (h1 : g1.ok) (h2 : g2.ok) (r : Rec) (f : Nat) (hd : Int) : g1.appE r f hd = g2.appE r f hd := by
  unfold Lg.appE Lg.num Lg.hold
  rw [h.c, h.hd, h.m, h.used h1 h2]
theorem Sim.app {g1 g2 : Lg} (h : Sim g1 g2) (h1 : g1.ok) (h2 : g2.ok) (r : Rec) (f : Nat) (hd : Int) : g1.appN r f hd = g2.appN r f hd ∧ Sim (g1.app r f hd) (g2.app r f hd) := by
  have e := h.appE h1 h2 r f hd
  have hn : g1.num f = g2.num f := by unfold Lg.num; rw [h.c]
  have hh : g1.hold hd = g2.hold hd := by unfold Lg.hold; rw [h.hd]
  by_cases h0 : g1.appE r f hd = 0
  · have h0' := e ▸ h0
    obtain ⟨a1, a2⟩ := g1.app_yes r f hd h0
    obtain ⟨b1, b2⟩ := g2.app_yes r f hd h0'
    rw [a1, a2, b1, b2, hn]
    exact ⟨rfl, ⟨rfl, by show g1.l ++ _ = g2.l ++ _; rw [h.l], hh, h.m⟩⟩
  · have h0' : ¬ g2.appE r f hd = 0 := e ▸ h0
    obtain ⟨a1, a2⟩ := g1.app_no r f hd h0
    obtain ⟨b1, b2⟩ := g2.app_no r f hd h0'
    rw [a1, a2, b1, b2]
    exact ⟨rfl, h⟩
theorem write_m (g : Lg) (ok : g.ok) : g.write.t.m = g.t.m := by
  unfold Lg.write
  rw [g.write_app ok]
theorem Sim.write {g1 g2 : Lg} (h : Sim g1 g2) (h1 : g1.ok) : Sim g1.write g2 := ⟨h.c, h.l, h.hd, (write_m g1 h1).trans h.m⟩
theorem Sim.swap {g1 g2 : Lg} (h : Sim g1 g2) : Sim g2 g1 := ⟨h.c.symm, h.l.symm, h.hd.symm, h.m.symm⟩
theorem write_bytes (g : Lg) (ok : g.ok) : g.write.t.b.data.toList = framesB g.l := by
  have h := (g.write_ok ok).bytes
  have e : g.write.on = g.l.length := rfl
  have e2 : g.write.l = g.l := rfl
  rw [e, e2, List.take_length] at h
  exact h
end Go.Proofs.Ythamodoedlpmdab

/-
  The arguments of layer 3's statements, opened.
-/
namespace Go.Proofs.Ythamodoedlpmdab
open Go.ChangeShapes Go.WideShapes Go.ChangeAt Go.RowKit Go.Deep Go.Joins
set_option linter.unusedVariables false

set_option maxRecDepth 40000 in
/-- A script's cells. -/
def opV (x : Int × Int × Bool) (c : Nat) : Value := if c = 0 then .int .i64 x.1 else if c = 1 then .int .u64 x.2.1 else .bool x.2.2

section
variable {H : Type} {enc : TypeId × Value → H} {W : World}

set_option maxRecDepth 40000 in
theorem op_bools {v : Value} {d : DataW H} {p : List MemPlace} {r : Reach} {b0 : Nat} (hv : Value.okWide Try.prog W r b0 58 v) (h : DataW.Trod enc Try.prog W 0 (fun _ => true) true 58 v d p)
    (hs : ∀ n ∈ d.weights Try.prog 58, n ≤ reachBytes) : ∃ m : Option Addr × Nat × Nat × (Nat → Bool), v = .slice m.1 m.2.1 m.2.2.1 ∧ m.2.1 ≤ 140737488355328 ∧ IsRow W m.1 m.2.1 1 (fun i _ => .bool (m.2.2.2 i)) := by
  obtain ⟨a, len, cap, f, rfl, fm, _, _, _, hr⟩ := open_rows_all (fun (x : Bool) _ => Value.bool x) (fun _ => True) trivial (elem_bool Try.underlying4) Try.underlying58 (by kernel_rfl) (by decide) hv h
  have z := fm.sized Try.underlying58 (of_decide_eq_true (by kernel_rfl)) hs
  exact ⟨(a, len, cap, f), rfl, by show len ≤ _; omega, hr⟩

set_option maxRecDepth 40000 in
theorem bulk_pos (d : DataW H) : 1 ≤ Rows.uptoBulk d := by
  cases d with
  | lit l => cases l <;> simp [Rows.uptoBulk]
  | _ => simp [Rows.uptoBulk]
set_option maxRecDepth 40000 in
theorem bulk_all : ∀ (l : List (DataW H)), l.length ≤ Rows.uptoBulkAll l
  | [] => by simp
  | d :: l => by
    have h1 := bulk_pos d
    have h2 := bulk_all l
    simp only [Rows.uptoBulkAll, List.length_cons]
    omega
set_option maxRecDepth 40000 in
theorem SlForm.small {d : DataW H} {len cap : Nat} (h : SlForm d len cap) : len ≤ Rows.uptoBulk d := by
  rcases h with ⟨_, rfl, _⟩ | ⟨es, sp, rfl, h1, h2⟩
  · omega
  · have := bulk_all es
    simp only [Rows.uptoBulk]
    omega

set_option maxRecDepth 40000 in
theorem op_u64s {v : Value} {d : DataW H} {p : List MemPlace} {r : Reach} {b0 : Nat} (hv : Value.okWide Try.prog W r b0 94 v) (h : DataW.Trod enc Try.prog W 0 (fun _ => true) true 94 v d p)
    (hs : Rows.uptoBulk d ≤ 1048576) : ∃ m : Option Addr × Nat × Nat × List Nat, v = .slice m.1 m.2.1 m.2.2.1 ∧ m.2.1 ≤ 1048576 ∧ (m.1 = none → m.2.2.1 = 0) ∧ IsU W m.1 m.2.1 m.2.2.2 := by
  obtain ⟨a, len, cap, f, rfl, fm, _, hn, hG, hr⟩ := open_rows_all (fun (x : Int) _ => Value.int .u64 x) (fun x => (Lit.int .u64 x).wf = true) (by decide) (elem_int Try.underlying22) Try.underlying94 (by kernel_rfl) (by decide) hv h
  have z := fm.small
  refine ⟨(a, len, cap, (List.range len).map fun i => (f i).toNat), rfl, by show len ≤ _; omega, hn, by simp, fun z hz => ?_, fun hp => ?_⟩
  · obtain ⟨i, _, rfl⟩ := List.mem_map.1 hz
    have := bounds_u64 (hG i)
    omega
  · obtain ⟨b, off, ha, hb, hc⟩ := hr hp
    refine ⟨b, off, ha, hb, fun j hj => ?_⟩
    have h1 := hc j 0 hj (by omega)
    rw [Nat.mul_one, Nat.add_zero] at h1
    rw [h1]
    have h2 := bounds_u64 (hG j)
    have h3 : (List.map (fun i => (f i).toNat) (List.range len)).getD j 0 = (f j).toNat := by simp [List.getD, hj]
    rw [h3]
    have h4 : (((f j).toNat : Nat) : Int) = f j := Int.toNat_of_nonneg h2.1
    rw [h4]
end
end Go.Proofs.Ythamodoedlpmdab
