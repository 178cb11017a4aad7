/-
  Just as many bytes are taken as there is room; what was cut or chopped off gives room again. TapeRoom returns true for every input, and its arguments read as before.
  Condition: none but those that the form of every such statement bears by itself (each string within the reach).
-/
import Derived.Test.YtkmlgfmpcglfeaaRows
import Derived.ProofKit
import Derived.OpenShut
import Derived.ShutString
import Derived.SizedLaws
import Derived.JoinedCond
import Derived.Test.YtkmlgfmpcglfeaaK00

/-
  The walk of TapeRoom: it returns true, and turns nothing that was there.
-/
namespace Go.Proofs.Ytkmlgfmpcglfeaa.tapeRoom
open Go.RowKit
set_option linter.unusedVariables false

/-- Zeros, made. -/
theorem made_isB (w : World) (e : TypeId) (n : Nat) : IsB (w.alloc (.cells (zrow n).toArray e)) (some ⟨w.heap.size, 0, none⟩) n (List.replicate n 0) := isB_lit w _ e (0, 0) _ n (by simp [zrow, toV]) (by simp)
theorem zsize (n : Nat) : (⟨(List.replicate n (0 : UInt8)).toArray⟩ : ByteArray).size = n := (size_mk _).trans (List.length_replicate ..)

set_option maxRecDepth 4000 in
set_option maxHeartbeats 1600000 in
theorem out (r n cut : Int) (ch : Bool) (w : World) (h : r < 0 ∨ 3000 < r ∨ n < 0 ∨ 4000 < n) :
    Calls Try.prog 6 #[.int .i64 r, .int .i64 n, .int .i64 cut, .bool ch] w fun e w' => e = .returned (.bool true) ∧ Below w.heap.size w w' := by
  by_cases h1 : r < 0
  all_goals by_cases h2 : 3000 < r
  all_goals by_cases h3 : n < 0
  all_goals by_cases h4 : 4000 < n
  all_goals first | (exfalso; omega) | skip
  all_goals
    clear h
    go_enter Try.func6, Try.ntmps6
    go_wp2_with fail
    refine (awake8_any _).mono ?_
    rintro e w1 ⟨rfl, hb1⟩
    go_wp2_with fail
    refine (awake8_any _).mono ?_
    rintro e w2 ⟨rfl, hb2⟩
    have HB := hide (hb1.trans (hb2.mono hb1.size))
    clear hb1 hb2
    go_wp2
    go_ret
    exact ⟨rfl, HB.out⟩

set_option maxRecDepth 4000 in
set_option maxHeartbeats 3200000 in
theorem full (r n : Nat) (cut : Int) (ch : Bool) (hn : r < n) (w : World) (h1 : r ≤ 3000) (h2 : n ≤ 4000) :
    Calls Try.prog 6 #[.int .i64 (r : Int), .int .i64 (n : Int), .int .i64 cut, .bool ch] w fun e w' => e = .returned (.bool true) ∧ Below w.heap.size w w' := by
  have e1 : ¬ (r : Int) < 0 := by omega
  have e2 : ¬ (3000 : Int) < (r : Int) := by omega
  have e3 : ¬ (n : Int) < 0 := by omega
  have e4 : ¬ (4000 : Int) < (n : Int) := by omega
  have hmk := fun w => run_mkn (P := Try.prog) 29 5 Try.underlying29 info8 n (by omega) w
  have e5 : (r : Int) < (n : Int) := by omega
  go_enter Try.func6, Try.ntmps6
  go_wp2_with fail
  refine (awake8_any _).mono ?_
  rintro e w1 ⟨rfl, hb1⟩
  have HB1 := hide hb1
  clear hb1
  go_wp2_with fail
  refine (knew8 r w w1 HB1.out).mono ?_
  rintro e w2 ⟨rfl, hk2, -⟩
  obtain ⟨gt, hgt⟩ : ∃ gt, gt = w1.heap.size := ⟨_, rfl⟩
  have H2 := hide hk2
  rw [← hgt] at H2 ⊢
  clear hk2 HB1 hgt
  have HM := hide (show (Tp.new (r : Int)).m = r ∧ (Tp.new (r : Int)).b.size = 0 by unfold Tp.new; simp only; refine ⟨by omega, rfl⟩)
  generalize Tp.new (r : Int) = t0 at H2 HM
  go_wp2_with fail
  have T := kapp8 w _ gt t0 (H2.out.alloc (.cells (zrow n).toArray 5)) _ n n _ (made_isB w2 5 n) (fun h => nomatch h) (by omega)
  have ha : t0.app ⟨(List.replicate n (0 : UInt8)).toArray⟩ = (t0, 7) := by
    unfold Tp.app
    rw [zsize, if_pos (by have := HM.out; omega)]
  rw [ha] at T
  refine T.mono ?_
  clear T
  rintro e w3 ⟨rfl, hk3⟩
  have H3 := hide hk3
  clear hk3 H2 ha
  go_wp2_with fail
  refine (klen8 w w3 gt t0 H3.out).mono ?_
  rintro e w4 ⟨rfl, rfl⟩
  rw [HM.out.2]
  go_wp2
  go_ret
  exact ⟨rfl, H3.out.bel⟩

set_option maxRecDepth 4000 in
set_option maxHeartbeats 3200000 in
theorem way_vc (r n c : Nat) (hn : n ≤ r) (hc : c ≤ n) (w : World) (h1 : r ≤ 3000) (h2 : n ≤ 4000) :
    Calls Try.prog 6 #[.int .i64 (r : Int), .int .i64 (n : Int), .int .i64 (c : Int), .bool true] w fun e w' => e = .returned (.bool true) ∧ Below w.heap.size w w' := by
  have e1 : ¬ (r : Int) < 0 := by omega
  have e2 : ¬ (3000 : Int) < (r : Int) := by omega
  have e3 : ¬ (n : Int) < 0 := by omega
  have e4 : ¬ (4000 : Int) < (n : Int) := by omega
  have hmk := fun w => run_mkn (P := Try.prog) 29 5 Try.underlying29 info8 n (by omega) w
  have e5 : ¬ (r : Int) < (n : Int) := by omega
  obtain ⟨L, hL, e8⟩ : ∃ L : Nat, L = n - c ∧ (n : Int) - (c : Int) = (L : Int) := ⟨n - c, rfl, by omega⟩
  have e6 : ¬ (c : Int) < 0 := by omega
  have e7 : (c : Int) ≤ (n : Int) := by omega
  obtain ⟨M, hM, e9⟩ : ∃ M : Nat, M ≤ L ∧ (L : Int) / 2 = (M : Int) := ⟨L / 2, by omega, by omega⟩
  obtain ⟨K, hK, e10⟩ : ∃ K : Nat, M + K = r ∧ (r : Int) - (M : Int) = (K : Int) := ⟨r - M, by omega, by omega⟩
  have hmk2 := fun w => run_mkn (P := Try.prog) 29 5 Try.underlying29 info8 (K + 1) (by omega) w
  have hmk3 := fun w => run_mkn (P := Try.prog) 29 5 Try.underlying29 info8 K (by omega) w
  rw [Int.natCast_add, Int.natCast_one] at hmk2
  have e11 : IntKind.i64.wrap ((K : Int) + 1) = (K : Int) + 1 := by rw [IntKind.wrap_i64]; omega
  have HL := hide (And.intro hL (And.intro hM hK))
  have hK3 : K ≤ 3000 := by omega
  clear hL hM hK
  go_enter Try.func6, Try.ntmps6
  go_wp2_with fail
  refine (awake8_any _).mono ?_
  rintro e w1 ⟨rfl, hb1⟩
  have HB1 := hide hb1
  clear hb1
  go_wp2_with fail
  refine (knew8 r w w1 HB1.out).mono ?_
  rintro e w2 ⟨rfl, hk2, -⟩
  obtain ⟨gt, hgt⟩ : ∃ gt, gt = w1.heap.size := ⟨_, rfl⟩
  have H2 := hide hk2
  rw [← hgt] at H2 ⊢
  clear hk2 HB1 hgt
  have HM := hide (show (Tp.new (r : Int)).m = r ∧ (Tp.new (r : Int)).b.size = 0 by unfold Tp.new; simp only; refine ⟨by omega, rfl⟩)
  generalize Tp.new (r : Int) = t0 at H2 HM
  go_wp2_with fail
  have T := kapp8 w _ gt t0 (H2.out.alloc (.cells (zrow n).toArray 5)) _ n n _ (made_isB w2 5 n) (fun h => nomatch h) (by omega)
  have ha : ∃ u : Tp, t0.app ⟨(List.replicate n (0 : UInt8)).toArray⟩ = (u, 0) ∧ u.m = r ∧ u.b.size = n := by
    unfold Tp.app
    rw [zsize, if_neg (by have := HM.out; omega)]
    refine ⟨_, rfl, HM.out.1, ?_⟩
    show (t0.b ++ _).size = n
    rw [ByteArray.size_append, zsize, HM.out.2, Nat.zero_add]
  obtain ⟨u, hu, hum, hub⟩ := ha
  rw [hu] at T
  refine T.mono ?_
  clear T
  rintro e w3 ⟨rfl, hk3⟩
  have H3 := hide hk3
  have HU := hide (And.intro hum hub)
  clear hk3 H2 hu HM hum hub
  go_wp2_with fail
  refine (ksync8 w w3 gt u H3.out).mono ?_
  rintro e w4 ⟨rfl, hk4⟩
  have H4 := hide hk4
  clear hk4 H3
  go_wp2_with fail
  obtain ⟨x, hx, hxm, hxb⟩ : ∃ x : Tp, u.sync.cut (c : Int) = (x, 0) ∧ x.m = r ∧ x.b.size = L := by
    unfold Tp.cut
    rw [if_neg (by show ¬ ((c : Int) < 0 ∨ (u.b.size : Int) < (c : Int)); have := HU.out.2; omega)]
    refine ⟨_, rfl, HU.out.1, ?_⟩
    show (u.b.extract _ u.b.size).size = L
    rw [ByteArray.size_extract, Int.toNat_natCast]
    have := HU.out.2
    have := HL.out.1
    omega
  have T := kcut8 w w4 gt u.sync H4.out (c : Int)
  rw [hx] at T
  refine T.mono ?_
  clear T
  rintro e w5 ⟨rfl, hk5⟩
  have H5 := hide hk5
  have HX := hide (And.intro hxm hxb)
  clear hk5 H4 hx hxm hxb HU
  go_wp2_with fail
  refine (klen8 w w5 gt x H5.out).mono ?_
  rintro e w6 ⟨rfl, rfl⟩
  rw [HX.out.2]
  go_wp2_with fail
  obtain ⟨y, hy, hym, hyb⟩ : ∃ y : Tp, x.chop (M : Int) = (y, 0) ∧ y.m = r ∧ y.b.size = M := by
    unfold Tp.chop
    rw [if_neg (by have := HX.out.2; have := HL.out.2.1; omega)]
    refine ⟨_, rfl, HX.out.1, ?_⟩
    show (x.b.extract 0 _).size = M
    rw [ByteArray.size_extract, Int.toNat_natCast]
    have := HX.out.2
    have := HL.out.2.1
    omega
  have T := kchop8 w w5 gt x H5.out (M : Int)
  rw [hy] at T
  refine T.mono ?_
  clear T
  rintro e w6 ⟨rfl, hk6⟩
  have H6 := hide hk6
  have HY := hide (And.intro hym hyb)
  clear hk6 H5 hy hym hyb HX
  go_wp2_with fail
  have T := kapp8 w _ gt y (H6.out.alloc (.cells (zrow (K + 1)).toArray 5)) _ (K + 1) (K + 1) _ (made_isB w6 5 (K + 1)) (fun h => nomatch h) (by omega)
  have ha : y.app ⟨(List.replicate (K + 1) (0 : UInt8)).toArray⟩ = (y, 7) := by
    unfold Tp.app
    rw [zsize, if_pos (by have := HY.out; have := HL.out; omega)]
  rw [ha] at T
  refine T.mono ?_
  clear T
  rintro e w7 ⟨rfl, hk7⟩
  have H7 := hide hk7
  clear hk7 H6 ha
  go_wp2_with fail
  have T := kapp8 w _ gt y (H7.out.alloc (.cells (zrow K).toArray 5)) _ K K _ (made_isB w7 5 K) (fun h => nomatch h) (by omega)
  obtain ⟨z, hz, hzb⟩ : ∃ z : Tp, y.app ⟨(List.replicate K (0 : UInt8)).toArray⟩ = (z, 0) ∧ z.b.size = r := by
    unfold Tp.app
    rw [zsize, if_neg (by have := HY.out; have := HL.out; omega)]
    refine ⟨_, rfl, ?_⟩
    show (y.b ++ _).size = r
    rw [ByteArray.size_append, zsize, HY.out.2]
    exact HL.out.2.2
  rw [hz] at T
  refine T.mono ?_
  clear T
  rintro e w8 ⟨rfl, hk8⟩
  have H8 := hide hk8
  have HZ := hide hzb
  clear hk8 H7 hz hzb
  go_wp2_with fail
  refine (klen8 w w8 gt z H8.out).mono ?_
  rintro e w9 ⟨rfl, rfl⟩
  rw [HZ.out]
  go_wp2
  go_ret
  exact ⟨rfl, H8.out.bel⟩

set_option maxRecDepth 4000 in
set_option maxHeartbeats 3200000 in
theorem way_vn (r n c : Nat) (hn : n ≤ r) (hc : c ≤ n) (w : World) (h1 : r ≤ 3000) (h2 : n ≤ 4000) :
    Calls Try.prog 6 #[.int .i64 (r : Int), .int .i64 (n : Int), .int .i64 (c : Int), .bool false] w fun e w' => e = .returned (.bool true) ∧ Below w.heap.size w w' := by
  have e1 : ¬ (r : Int) < 0 := by omega
  have e2 : ¬ (3000 : Int) < (r : Int) := by omega
  have e3 : ¬ (n : Int) < 0 := by omega
  have e4 : ¬ (4000 : Int) < (n : Int) := by omega
  have hmk := fun w => run_mkn (P := Try.prog) 29 5 Try.underlying29 info8 n (by omega) w
  have e5 : ¬ (r : Int) < (n : Int) := by omega
  obtain ⟨L, hL, e8⟩ : ∃ L : Nat, L = n - c ∧ (n : Int) - (c : Int) = (L : Int) := ⟨n - c, rfl, by omega⟩
  have e6 : ¬ (c : Int) < 0 := by omega
  have e7 : (c : Int) ≤ (n : Int) := by omega
  obtain ⟨M, hM⟩ : ∃ M : Nat, M = L := ⟨L, rfl⟩
  obtain ⟨K, hK, e10⟩ : ∃ K : Nat, M + K = r ∧ (r : Int) - (L : Int) = (K : Int) := ⟨r - M, by omega, by omega⟩
  have hmk2 := fun w => run_mkn (P := Try.prog) 29 5 Try.underlying29 info8 (K + 1) (by omega) w
  have hmk3 := fun w => run_mkn (P := Try.prog) 29 5 Try.underlying29 info8 K (by omega) w
  rw [Int.natCast_add, Int.natCast_one] at hmk2
  have e11 : IntKind.i64.wrap ((K : Int) + 1) = (K : Int) + 1 := by rw [IntKind.wrap_i64]; omega
  have HL := hide (And.intro hL (And.intro hM hK))
  have hK3 : K ≤ 3000 := by omega
  clear hL hM hK
  go_enter Try.func6, Try.ntmps6
  go_wp2_with fail
  refine (awake8_any _).mono ?_
  rintro e w1 ⟨rfl, hb1⟩
  have HB1 := hide hb1
  clear hb1
  go_wp2_with fail
  refine (knew8 r w w1 HB1.out).mono ?_
  rintro e w2 ⟨rfl, hk2, -⟩
  obtain ⟨gt, hgt⟩ : ∃ gt, gt = w1.heap.size := ⟨_, rfl⟩
  have H2 := hide hk2
  rw [← hgt] at H2 ⊢
  clear hk2 HB1 hgt
  have HM := hide (show (Tp.new (r : Int)).m = r ∧ (Tp.new (r : Int)).b.size = 0 by unfold Tp.new; simp only; refine ⟨by omega, rfl⟩)
  generalize Tp.new (r : Int) = t0 at H2 HM
  go_wp2_with fail
  have T := kapp8 w _ gt t0 (H2.out.alloc (.cells (zrow n).toArray 5)) _ n n _ (made_isB w2 5 n) (fun h => nomatch h) (by omega)
  have ha : ∃ u : Tp, t0.app ⟨(List.replicate n (0 : UInt8)).toArray⟩ = (u, 0) ∧ u.m = r ∧ u.b.size = n := by
    unfold Tp.app
    rw [zsize, if_neg (by have := HM.out; omega)]
    refine ⟨_, rfl, HM.out.1, ?_⟩
    show (t0.b ++ _).size = n
    rw [ByteArray.size_append, zsize, HM.out.2, Nat.zero_add]
  obtain ⟨u, hu, hum, hub⟩ := ha
  rw [hu] at T
  refine T.mono ?_
  clear T
  rintro e w3 ⟨rfl, hk3⟩
  have H3 := hide hk3
  have HU := hide (And.intro hum hub)
  clear hk3 H2 hu HM hum hub
  go_wp2_with fail
  refine (ksync8 w w3 gt u H3.out).mono ?_
  rintro e w4 ⟨rfl, hk4⟩
  have H4 := hide hk4
  clear hk4 H3
  go_wp2_with fail
  obtain ⟨x, hx, hxm, hxb⟩ : ∃ x : Tp, u.sync.cut (c : Int) = (x, 0) ∧ x.m = r ∧ x.b.size = L := by
    unfold Tp.cut
    rw [if_neg (by show ¬ ((c : Int) < 0 ∨ (u.b.size : Int) < (c : Int)); have := HU.out.2; omega)]
    refine ⟨_, rfl, HU.out.1, ?_⟩
    show (u.b.extract _ u.b.size).size = L
    rw [ByteArray.size_extract, Int.toNat_natCast]
    have := HU.out.2
    have := HL.out.1
    omega
  have T := kcut8 w w4 gt u.sync H4.out (c : Int)
  rw [hx] at T
  refine T.mono ?_
  clear T
  rintro e w5 ⟨rfl, hk5⟩
  have H5 := hide hk5
  have HX := hide (And.intro hxm hxb)
  clear hk5 H4 hx hxm hxb HU
  go_wp2_with fail
  refine (klen8 w w5 gt x H5.out).mono ?_
  rintro e w6 ⟨rfl, rfl⟩
  rw [HX.out.2]
  obtain ⟨y, hyx⟩ : ∃ y : Tp, y = x := ⟨_, rfl⟩
  have HY : Hid (y.m = r ∧ y.b.size = M) := hide (by rw [hyx]; exact ⟨HX.out.1, HX.out.2.trans HL.out.2.1.symm⟩)
  have H6 : Hid (K8 w w5 gt y) := hide (by rw [hyx]; exact H5.out)
  obtain ⟨w6, hw6⟩ : ∃ w6 : World, w6 = w5 := ⟨_, rfl⟩
  rw [← hw6] at H6 ⊢
  clear H5 HX hyx hw6
  go_wp2_with fail
  have T := kapp8 w _ gt y (H6.out.alloc (.cells (zrow (K + 1)).toArray 5)) _ (K + 1) (K + 1) _ (made_isB w6 5 (K + 1)) (fun h => nomatch h) (by omega)
  have ha : y.app ⟨(List.replicate (K + 1) (0 : UInt8)).toArray⟩ = (y, 7) := by
    unfold Tp.app
    rw [zsize, if_pos (by have := HY.out; have := HL.out; omega)]
  rw [ha] at T
  refine T.mono ?_
  clear T
  rintro e w7 ⟨rfl, hk7⟩
  have H7 := hide hk7
  clear hk7 H6 ha
  go_wp2_with fail
  have T := kapp8 w _ gt y (H7.out.alloc (.cells (zrow K).toArray 5)) _ K K _ (made_isB w7 5 K) (fun h => nomatch h) (by omega)
  obtain ⟨z, hz, hzb⟩ : ∃ z : Tp, y.app ⟨(List.replicate K (0 : UInt8)).toArray⟩ = (z, 0) ∧ z.b.size = r := by
    unfold Tp.app
    rw [zsize, if_neg (by have := HY.out; have := HL.out; omega)]
    refine ⟨_, rfl, ?_⟩
    show (y.b ++ _).size = r
    rw [ByteArray.size_append, zsize, HY.out.2]
    exact HL.out.2.2
  rw [hz] at T
  refine T.mono ?_
  clear T
  rintro e w8 ⟨rfl, hk8⟩
  have H8 := hide hk8
  have HZ := hide hzb
  clear hk8 H7 hz hzb
  go_wp2_with fail
  refine (klen8 w w8 gt z H8.out).mono ?_
  rintro e w9 ⟨rfl, rfl⟩
  rw [HZ.out]
  go_wp2
  go_ret
  exact ⟨rfl, H8.out.bel⟩

set_option maxRecDepth 4000 in
set_option maxHeartbeats 3200000 in
theorem way_ac (r n : Nat) (cut : Int) (hn : n ≤ r) (hc : cut < 0 ∨ (n : Int) < cut) (e6 : cut < 0) (w : World) (h1 : r ≤ 3000) (h2 : n ≤ 4000) :
    Calls Try.prog 6 #[.int .i64 (r : Int), .int .i64 (n : Int), .int .i64 cut, .bool true] w fun e w' => e = .returned (.bool true) ∧ Below w.heap.size w w' := by
  have e1 : ¬ (r : Int) < 0 := by omega
  have e2 : ¬ (3000 : Int) < (r : Int) := by omega
  have e3 : ¬ (n : Int) < 0 := by omega
  have e4 : ¬ (4000 : Int) < (n : Int) := by omega
  have hmk := fun w => run_mkn (P := Try.prog) 29 5 Try.underlying29 info8 n (by omega) w
  have e5 : ¬ (r : Int) < (n : Int) := by omega
  obtain ⟨L, hL⟩ : ∃ L : Nat, L = n := ⟨n, rfl⟩
  have HC := hide hc
  obtain ⟨M, hM, e9⟩ : ∃ M : Nat, M ≤ L ∧ (n : Int) / 2 = (M : Int) := ⟨L / 2, by omega, by omega⟩
  obtain ⟨K, hK, e10⟩ : ∃ K : Nat, M + K = r ∧ (r : Int) - (M : Int) = (K : Int) := ⟨r - M, by omega, by omega⟩
  have hmk2 := fun w => run_mkn (P := Try.prog) 29 5 Try.underlying29 info8 (K + 1) (by omega) w
  have hmk3 := fun w => run_mkn (P := Try.prog) 29 5 Try.underlying29 info8 K (by omega) w
  rw [Int.natCast_add, Int.natCast_one] at hmk2
  have e11 : IntKind.i64.wrap ((K : Int) + 1) = (K : Int) + 1 := by rw [IntKind.wrap_i64]; omega
  have HL := hide (And.intro hL (And.intro hM hK))
  have hK3 : K ≤ 3000 := by omega
  clear hL hM hK
  clear hc
  go_enter Try.func6, Try.ntmps6
  go_wp2_with fail
  refine (awake8_any _).mono ?_
  rintro e w1 ⟨rfl, hb1⟩
  have HB1 := hide hb1
  clear hb1
  go_wp2_with fail
  refine (knew8 r w w1 HB1.out).mono ?_
  rintro e w2 ⟨rfl, hk2, -⟩
  obtain ⟨gt, hgt⟩ : ∃ gt, gt = w1.heap.size := ⟨_, rfl⟩
  have H2 := hide hk2
  rw [← hgt] at H2 ⊢
  clear hk2 HB1 hgt
  have HM := hide (show (Tp.new (r : Int)).m = r ∧ (Tp.new (r : Int)).b.size = 0 by unfold Tp.new; simp only; refine ⟨by omega, rfl⟩)
  generalize Tp.new (r : Int) = t0 at H2 HM
  go_wp2_with fail
  have T := kapp8 w _ gt t0 (H2.out.alloc (.cells (zrow n).toArray 5)) _ n n _ (made_isB w2 5 n) (fun h => nomatch h) (by omega)
  have ha : ∃ u : Tp, t0.app ⟨(List.replicate n (0 : UInt8)).toArray⟩ = (u, 0) ∧ u.m = r ∧ u.b.size = n := by
    unfold Tp.app
    rw [zsize, if_neg (by have := HM.out; omega)]
    refine ⟨_, rfl, HM.out.1, ?_⟩
    show (t0.b ++ _).size = n
    rw [ByteArray.size_append, zsize, HM.out.2, Nat.zero_add]
  obtain ⟨u, hu, hum, hub⟩ := ha
  rw [hu] at T
  refine T.mono ?_
  clear T
  rintro e w3 ⟨rfl, hk3⟩
  have H3 := hide hk3
  have HU := hide (And.intro hum hub)
  clear hk3 H2 hu HM hum hub
  go_wp2_with fail
  refine (ksync8 w w3 gt u H3.out).mono ?_
  rintro e w4 ⟨rfl, hk4⟩
  have H4 := hide hk4
  clear hk4 H3
  go_wp2_with fail
  obtain ⟨x, hx, hxm, hxb⟩ : ∃ x : Tp, u.sync.cut cut = (x, 1) ∧ x.m = r ∧ x.b.size = L := by
    unfold Tp.cut
    rw [if_pos (by show cut < 0 ∨ (u.b.size : Int) < cut; have := HU.out.2; have := HC.out; omega)]
    exact ⟨_, rfl, HU.out.1, HU.out.2.trans HL.out.1.symm⟩
  have T := kcut8 w w4 gt u.sync H4.out cut
  rw [hx] at T
  refine T.mono ?_
  clear T
  rintro e w5 ⟨rfl, hk5⟩
  have H5 := hide hk5
  have HX := hide (And.intro hxm hxb)
  clear hk5 H4 hx hxm hxb HU
  go_wp2_with fail
  refine (klen8 w w5 gt x H5.out).mono ?_
  rintro e w6 ⟨rfl, rfl⟩
  rw [HX.out.2, HL.out.1]
  go_wp2_with fail
  obtain ⟨y, hy, hym, hyb⟩ : ∃ y : Tp, x.chop (M : Int) = (y, 0) ∧ y.m = r ∧ y.b.size = M := by
    unfold Tp.chop
    rw [if_neg (by have := HX.out.2; have := HL.out.2.1; omega)]
    refine ⟨_, rfl, HX.out.1, ?_⟩
    show (x.b.extract 0 _).size = M
    rw [ByteArray.size_extract, Int.toNat_natCast]
    have := HX.out.2
    have := HL.out.2.1
    omega
  have T := kchop8 w w5 gt x H5.out (M : Int)
  rw [hy] at T
  refine T.mono ?_
  clear T
  rintro e w6 ⟨rfl, hk6⟩
  have H6 := hide hk6
  have HY := hide (And.intro hym hyb)
  clear hk6 H5 hy hym hyb HX
  go_wp2_with fail
  have T := kapp8 w _ gt y (H6.out.alloc (.cells (zrow (K + 1)).toArray 5)) _ (K + 1) (K + 1) _ (made_isB w6 5 (K + 1)) (fun h => nomatch h) (by omega)
  have ha : y.app ⟨(List.replicate (K + 1) (0 : UInt8)).toArray⟩ = (y, 7) := by
    unfold Tp.app
    rw [zsize, if_pos (by have := HY.out; have := HL.out; omega)]
  rw [ha] at T
  refine T.mono ?_
  clear T
  rintro e w7 ⟨rfl, hk7⟩
  have H7 := hide hk7
  clear hk7 H6 ha
  go_wp2_with fail
  have T := kapp8 w _ gt y (H7.out.alloc (.cells (zrow K).toArray 5)) _ K K _ (made_isB w7 5 K) (fun h => nomatch h) (by omega)
  obtain ⟨z, hz, hzb⟩ : ∃ z : Tp, y.app ⟨(List.replicate K (0 : UInt8)).toArray⟩ = (z, 0) ∧ z.b.size = r := by
    unfold Tp.app
    rw [zsize, if_neg (by have := HY.out; have := HL.out; omega)]
    refine ⟨_, rfl, ?_⟩
    show (y.b ++ _).size = r
    rw [ByteArray.size_append, zsize, HY.out.2]
    exact HL.out.2.2
  rw [hz] at T
  refine T.mono ?_
  clear T
  rintro e w8 ⟨rfl, hk8⟩
  have H8 := hide hk8
  have HZ := hide hzb
  clear hk8 H7 hz hzb
  go_wp2_with fail
  refine (klen8 w w8 gt z H8.out).mono ?_
  rintro e w9 ⟨rfl, rfl⟩
  rw [HZ.out]
  go_wp2
  go_ret
  exact ⟨rfl, H8.out.bel⟩

set_option maxRecDepth 4000 in
set_option maxHeartbeats 3200000 in
theorem way_an (r n : Nat) (cut : Int) (hn : n ≤ r) (hc : cut < 0 ∨ (n : Int) < cut) (e6 : cut < 0) (w : World) (h1 : r ≤ 3000) (h2 : n ≤ 4000) :
    Calls Try.prog 6 #[.int .i64 (r : Int), .int .i64 (n : Int), .int .i64 cut, .bool false] w fun e w' => e = .returned (.bool true) ∧ Below w.heap.size w w' := by
  have e1 : ¬ (r : Int) < 0 := by omega
  have e2 : ¬ (3000 : Int) < (r : Int) := by omega
  have e3 : ¬ (n : Int) < 0 := by omega
  have e4 : ¬ (4000 : Int) < (n : Int) := by omega
  have hmk := fun w => run_mkn (P := Try.prog) 29 5 Try.underlying29 info8 n (by omega) w
  have e5 : ¬ (r : Int) < (n : Int) := by omega
  obtain ⟨L, hL⟩ : ∃ L : Nat, L = n := ⟨n, rfl⟩
  have HC := hide hc
  obtain ⟨M, hM⟩ : ∃ M : Nat, M = L := ⟨L, rfl⟩
  obtain ⟨K, hK, e10⟩ : ∃ K : Nat, M + K = r ∧ (r : Int) - (n : Int) = (K : Int) := ⟨r - M, by omega, by omega⟩
  have hmk2 := fun w => run_mkn (P := Try.prog) 29 5 Try.underlying29 info8 (K + 1) (by omega) w
  have hmk3 := fun w => run_mkn (P := Try.prog) 29 5 Try.underlying29 info8 K (by omega) w
  rw [Int.natCast_add, Int.natCast_one] at hmk2
  have e11 : IntKind.i64.wrap ((K : Int) + 1) = (K : Int) + 1 := by rw [IntKind.wrap_i64]; omega
  have HL := hide (And.intro hL (And.intro hM hK))
  have hK3 : K ≤ 3000 := by omega
  clear hL hM hK
  clear hc
  go_enter Try.func6, Try.ntmps6
  go_wp2_with fail
  refine (awake8_any _).mono ?_
  rintro e w1 ⟨rfl, hb1⟩
  have HB1 := hide hb1
  clear hb1
  go_wp2_with fail
  refine (knew8 r w w1 HB1.out).mono ?_
  rintro e w2 ⟨rfl, hk2, -⟩
  obtain ⟨gt, hgt⟩ : ∃ gt, gt = w1.heap.size := ⟨_, rfl⟩
  have H2 := hide hk2
  rw [← hgt] at H2 ⊢
  clear hk2 HB1 hgt
  have HM := hide (show (Tp.new (r : Int)).m = r ∧ (Tp.new (r : Int)).b.size = 0 by unfold Tp.new; simp only; refine ⟨by omega, rfl⟩)
  generalize Tp.new (r : Int) = t0 at H2 HM
  go_wp2_with fail
  have T := kapp8 w _ gt t0 (H2.out.alloc (.cells (zrow n).toArray 5)) _ n n _ (made_isB w2 5 n) (fun h => nomatch h) (by omega)
  have ha : ∃ u : Tp, t0.app ⟨(List.replicate n (0 : UInt8)).toArray⟩ = (u, 0) ∧ u.m = r ∧ u.b.size = n := by
    unfold Tp.app
    rw [zsize, if_neg (by have := HM.out; omega)]
    refine ⟨_, rfl, HM.out.1, ?_⟩
    show (t0.b ++ _).size = n
    rw [ByteArray.size_append, zsize, HM.out.2, Nat.zero_add]
  obtain ⟨u, hu, hum, hub⟩ := ha
  rw [hu] at T
  refine T.mono ?_
  clear T
  rintro e w3 ⟨rfl, hk3⟩
  have H3 := hide hk3
  have HU := hide (And.intro hum hub)
  clear hk3 H2 hu HM hum hub
  go_wp2_with fail
  refine (ksync8 w w3 gt u H3.out).mono ?_
  rintro e w4 ⟨rfl, hk4⟩
  have H4 := hide hk4
  clear hk4 H3
  go_wp2_with fail
  obtain ⟨x, hx, hxm, hxb⟩ : ∃ x : Tp, u.sync.cut cut = (x, 1) ∧ x.m = r ∧ x.b.size = L := by
    unfold Tp.cut
    rw [if_pos (by show cut < 0 ∨ (u.b.size : Int) < cut; have := HU.out.2; have := HC.out; omega)]
    exact ⟨_, rfl, HU.out.1, HU.out.2.trans HL.out.1.symm⟩
  have T := kcut8 w w4 gt u.sync H4.out cut
  rw [hx] at T
  refine T.mono ?_
  clear T
  rintro e w5 ⟨rfl, hk5⟩
  have H5 := hide hk5
  have HX := hide (And.intro hxm hxb)
  clear hk5 H4 hx hxm hxb HU
  go_wp2_with fail
  refine (klen8 w w5 gt x H5.out).mono ?_
  rintro e w6 ⟨rfl, rfl⟩
  rw [HX.out.2, HL.out.1]
  obtain ⟨y, hyx⟩ : ∃ y : Tp, y = x := ⟨_, rfl⟩
  have HY : Hid (y.m = r ∧ y.b.size = M) := hide (by rw [hyx]; exact ⟨HX.out.1, HX.out.2.trans HL.out.2.1.symm⟩)
  have H6 : Hid (K8 w w5 gt y) := hide (by rw [hyx]; exact H5.out)
  obtain ⟨w6, hw6⟩ : ∃ w6 : World, w6 = w5 := ⟨_, rfl⟩
  rw [← hw6] at H6 ⊢
  clear H5 HX hyx hw6
  go_wp2_with fail
  have T := kapp8 w _ gt y (H6.out.alloc (.cells (zrow (K + 1)).toArray 5)) _ (K + 1) (K + 1) _ (made_isB w6 5 (K + 1)) (fun h => nomatch h) (by omega)
  have ha : y.app ⟨(List.replicate (K + 1) (0 : UInt8)).toArray⟩ = (y, 7) := by
    unfold Tp.app
    rw [zsize, if_pos (by have := HY.out; have := HL.out; omega)]
  rw [ha] at T
  refine T.mono ?_
  clear T
  rintro e w7 ⟨rfl, hk7⟩
  have H7 := hide hk7
  clear hk7 H6 ha
  go_wp2_with fail
  have T := kapp8 w _ gt y (H7.out.alloc (.cells (zrow K).toArray 5)) _ K K _ (made_isB w7 5 K) (fun h => nomatch h) (by omega)
  obtain ⟨z, hz, hzb⟩ : ∃ z : Tp, y.app ⟨(List.replicate K (0 : UInt8)).toArray⟩ = (z, 0) ∧ z.b.size = r := by
    unfold Tp.app
    rw [zsize, if_neg (by have := HY.out; have := HL.out; omega)]
    refine ⟨_, rfl, ?_⟩
    show (y.b ++ _).size = r
    rw [ByteArray.size_append, zsize, HY.out.2]
    exact HL.out.2.2
  rw [hz] at T
  refine T.mono ?_
  clear T
  rintro e w8 ⟨rfl, hk8⟩
  have H8 := hide hk8
  have HZ := hide hzb
  clear hk8 H7 hz hzb
  go_wp2_with fail
  refine (klen8 w w8 gt z H8.out).mono ?_
  rintro e w9 ⟨rfl, rfl⟩
  rw [HZ.out]
  go_wp2
  go_ret
  exact ⟨rfl, H8.out.bel⟩

set_option maxRecDepth 4000 in
set_option maxHeartbeats 3200000 in
theorem way_bc (r n : Nat) (cut : Int) (hn : n ≤ r) (hc : cut < 0 ∨ (n : Int) < cut) (e6 : ¬ cut < 0) (e7 : (n : Int) < cut) (w : World) (h1 : r ≤ 3000) (h2 : n ≤ 4000) :
    Calls Try.prog 6 #[.int .i64 (r : Int), .int .i64 (n : Int), .int .i64 cut, .bool true] w fun e w' => e = .returned (.bool true) ∧ Below w.heap.size w w' := by
  have e1 : ¬ (r : Int) < 0 := by omega
  have e2 : ¬ (3000 : Int) < (r : Int) := by omega
  have e3 : ¬ (n : Int) < 0 := by omega
  have e4 : ¬ (4000 : Int) < (n : Int) := by omega
  have hmk := fun w => run_mkn (P := Try.prog) 29 5 Try.underlying29 info8 n (by omega) w
  have e5 : ¬ (r : Int) < (n : Int) := by omega
  obtain ⟨L, hL⟩ : ∃ L : Nat, L = n := ⟨n, rfl⟩
  have HC := hide hc
  obtain ⟨M, hM, e9⟩ : ∃ M : Nat, M ≤ L ∧ (n : Int) / 2 = (M : Int) := ⟨L / 2, by omega, by omega⟩
  obtain ⟨K, hK, e10⟩ : ∃ K : Nat, M + K = r ∧ (r : Int) - (M : Int) = (K : Int) := ⟨r - M, by omega, by omega⟩
  have hmk2 := fun w => run_mkn (P := Try.prog) 29 5 Try.underlying29 info8 (K + 1) (by omega) w
  have hmk3 := fun w => run_mkn (P := Try.prog) 29 5 Try.underlying29 info8 K (by omega) w
  rw [Int.natCast_add, Int.natCast_one] at hmk2
  have e11 : IntKind.i64.wrap ((K : Int) + 1) = (K : Int) + 1 := by rw [IntKind.wrap_i64]; omega
  have HL := hide (And.intro hL (And.intro hM hK))
  have hK3 : K ≤ 3000 := by omega
  clear hL hM hK
  clear hc
  go_enter Try.func6, Try.ntmps6
  go_wp2_with fail
  refine (awake8_any _).mono ?_
  rintro e w1 ⟨rfl, hb1⟩
  have HB1 := hide hb1
  clear hb1
  go_wp2_with fail
  refine (knew8 r w w1 HB1.out).mono ?_
  rintro e w2 ⟨rfl, hk2, -⟩
  obtain ⟨gt, hgt⟩ : ∃ gt, gt = w1.heap.size := ⟨_, rfl⟩
  have H2 := hide hk2
  rw [← hgt] at H2 ⊢
  clear hk2 HB1 hgt
  have HM := hide (show (Tp.new (r : Int)).m = r ∧ (Tp.new (r : Int)).b.size = 0 by unfold Tp.new; simp only; refine ⟨by omega, rfl⟩)
  generalize Tp.new (r : Int) = t0 at H2 HM
  go_wp2_with fail
  have T := kapp8 w _ gt t0 (H2.out.alloc (.cells (zrow n).toArray 5)) _ n n _ (made_isB w2 5 n) (fun h => nomatch h) (by omega)
  have ha : ∃ u : Tp, t0.app ⟨(List.replicate n (0 : UInt8)).toArray⟩ = (u, 0) ∧ u.m = r ∧ u.b.size = n := by
    unfold Tp.app
    rw [zsize, if_neg (by have := HM.out; omega)]
    refine ⟨_, rfl, HM.out.1, ?_⟩
    show (t0.b ++ _).size = n
    rw [ByteArray.size_append, zsize, HM.out.2, Nat.zero_add]
  obtain ⟨u, hu, hum, hub⟩ := ha
  rw [hu] at T
  refine T.mono ?_
  clear T
  rintro e w3 ⟨rfl, hk3⟩
  have H3 := hide hk3
  have HU := hide (And.intro hum hub)
  clear hk3 H2 hu HM hum hub
  go_wp2_with fail
  refine (ksync8 w w3 gt u H3.out).mono ?_
  rintro e w4 ⟨rfl, hk4⟩
  have H4 := hide hk4
  clear hk4 H3
  go_wp2_with fail
  obtain ⟨x, hx, hxm, hxb⟩ : ∃ x : Tp, u.sync.cut cut = (x, 1) ∧ x.m = r ∧ x.b.size = L := by
    unfold Tp.cut
    rw [if_pos (by show cut < 0 ∨ (u.b.size : Int) < cut; have := HU.out.2; have := HC.out; omega)]
    exact ⟨_, rfl, HU.out.1, HU.out.2.trans HL.out.1.symm⟩
  have T := kcut8 w w4 gt u.sync H4.out cut
  rw [hx] at T
  refine T.mono ?_
  clear T
  rintro e w5 ⟨rfl, hk5⟩
  have H5 := hide hk5
  have HX := hide (And.intro hxm hxb)
  clear hk5 H4 hx hxm hxb HU
  go_wp2_with fail
  refine (klen8 w w5 gt x H5.out).mono ?_
  rintro e w6 ⟨rfl, rfl⟩
  rw [HX.out.2, HL.out.1]
  go_wp2_with fail
  obtain ⟨y, hy, hym, hyb⟩ : ∃ y : Tp, x.chop (M : Int) = (y, 0) ∧ y.m = r ∧ y.b.size = M := by
    unfold Tp.chop
    rw [if_neg (by have := HX.out.2; have := HL.out.2.1; omega)]
    refine ⟨_, rfl, HX.out.1, ?_⟩
    show (x.b.extract 0 _).size = M
    rw [ByteArray.size_extract, Int.toNat_natCast]
    have := HX.out.2
    have := HL.out.2.1
    omega
  have T := kchop8 w w5 gt x H5.out (M : Int)
  rw [hy] at T
  refine T.mono ?_
  clear T
  rintro e w6 ⟨rfl, hk6⟩
  have H6 := hide hk6
  have HY := hide (And.intro hym hyb)
  clear hk6 H5 hy hym hyb HX
  go_wp2_with fail
  have T := kapp8 w _ gt y (H6.out.alloc (.cells (zrow (K + 1)).toArray 5)) _ (K + 1) (K + 1) _ (made_isB w6 5 (K + 1)) (fun h => nomatch h) (by omega)
  have ha : y.app ⟨(List.replicate (K + 1) (0 : UInt8)).toArray⟩ = (y, 7) := by
    unfold Tp.app
    rw [zsize, if_pos (by have := HY.out; have := HL.out; omega)]
  rw [ha] at T
  refine T.mono ?_
  clear T
  rintro e w7 ⟨rfl, hk7⟩
  have H7 := hide hk7
  clear hk7 H6 ha
  go_wp2_with fail
  have T := kapp8 w _ gt y (H7.out.alloc (.cells (zrow K).toArray 5)) _ K K _ (made_isB w7 5 K) (fun h => nomatch h) (by omega)
  obtain ⟨z, hz, hzb⟩ : ∃ z : Tp, y.app ⟨(List.replicate K (0 : UInt8)).toArray⟩ = (z, 0) ∧ z.b.size = r := by
    unfold Tp.app
    rw [zsize, if_neg (by have := HY.out; have := HL.out; omega)]
    refine ⟨_, rfl, ?_⟩
    show (y.b ++ _).size = r
    rw [ByteArray.size_append, zsize, HY.out.2]
    exact HL.out.2.2
  rw [hz] at T
  refine T.mono ?_
  clear T
  rintro e w8 ⟨rfl, hk8⟩
  have H8 := hide hk8
  have HZ := hide hzb
  clear hk8 H7 hz hzb
  go_wp2_with fail
  refine (klen8 w w8 gt z H8.out).mono ?_
  rintro e w9 ⟨rfl, rfl⟩
  rw [HZ.out]
  go_wp2
  go_ret
  exact ⟨rfl, H8.out.bel⟩

set_option maxRecDepth 4000 in
set_option maxHeartbeats 3200000 in
theorem way_bn (r n : Nat) (cut : Int) (hn : n ≤ r) (hc : cut < 0 ∨ (n : Int) < cut) (e6 : ¬ cut < 0) (e7 : (n : Int) < cut) (w : World) (h1 : r ≤ 3000) (h2 : n ≤ 4000) :
    Calls Try.prog 6 #[.int .i64 (r : Int), .int .i64 (n : Int), .int .i64 cut, .bool false] w fun e w' => e = .returned (.bool true) ∧ Below w.heap.size w w' := by
  have e1 : ¬ (r : Int) < 0 := by omega
  have e2 : ¬ (3000 : Int) < (r : Int) := by omega
  have e3 : ¬ (n : Int) < 0 := by omega
  have e4 : ¬ (4000 : Int) < (n : Int) := by omega
  have hmk := fun w => run_mkn (P := Try.prog) 29 5 Try.underlying29 info8 n (by omega) w
  have e5 : ¬ (r : Int) < (n : Int) := by omega
  obtain ⟨L, hL⟩ : ∃ L : Nat, L = n := ⟨n, rfl⟩
  have HC := hide hc
  obtain ⟨M, hM⟩ : ∃ M : Nat, M = L := ⟨L, rfl⟩
  obtain ⟨K, hK, e10⟩ : ∃ K : Nat, M + K = r ∧ (r : Int) - (n : Int) = (K : Int) := ⟨r - M, by omega, by omega⟩
  have hmk2 := fun w => run_mkn (P := Try.prog) 29 5 Try.underlying29 info8 (K + 1) (by omega) w
  have hmk3 := fun w => run_mkn (P := Try.prog) 29 5 Try.underlying29 info8 K (by omega) w
  rw [Int.natCast_add, Int.natCast_one] at hmk2
  have e11 : IntKind.i64.wrap ((K : Int) + 1) = (K : Int) + 1 := by rw [IntKind.wrap_i64]; omega
  have HL := hide (And.intro hL (And.intro hM hK))
  have hK3 : K ≤ 3000 := by omega
  clear hL hM hK
  clear hc
  go_enter Try.func6, Try.ntmps6
  go_wp2_with fail
  refine (awake8_any _).mono ?_
  rintro e w1 ⟨rfl, hb1⟩
  have HB1 := hide hb1
  clear hb1
  go_wp2_with fail
  refine (knew8 r w w1 HB1.out).mono ?_
  rintro e w2 ⟨rfl, hk2, -⟩
  obtain ⟨gt, hgt⟩ : ∃ gt, gt = w1.heap.size := ⟨_, rfl⟩
  have H2 := hide hk2
  rw [← hgt] at H2 ⊢
  clear hk2 HB1 hgt
  have HM := hide (show (Tp.new (r : Int)).m = r ∧ (Tp.new (r : Int)).b.size = 0 by unfold Tp.new; simp only; refine ⟨by omega, rfl⟩)
  generalize Tp.new (r : Int) = t0 at H2 HM
  go_wp2_with fail
  have T := kapp8 w _ gt t0 (H2.out.alloc (.cells (zrow n).toArray 5)) _ n n _ (made_isB w2 5 n) (fun h => nomatch h) (by omega)
  have ha : ∃ u : Tp, t0.app ⟨(List.replicate n (0 : UInt8)).toArray⟩ = (u, 0) ∧ u.m = r ∧ u.b.size = n := by
    unfold Tp.app
    rw [zsize, if_neg (by have := HM.out; omega)]
    refine ⟨_, rfl, HM.out.1, ?_⟩
    show (t0.b ++ _).size = n
    rw [ByteArray.size_append, zsize, HM.out.2, Nat.zero_add]
  obtain ⟨u, hu, hum, hub⟩ := ha
  rw [hu] at T
  refine T.mono ?_
  clear T
  rintro e w3 ⟨rfl, hk3⟩
  have H3 := hide hk3
  have HU := hide (And.intro hum hub)
  clear hk3 H2 hu HM hum hub
  go_wp2_with fail
  refine (ksync8 w w3 gt u H3.out).mono ?_
  rintro e w4 ⟨rfl, hk4⟩
  have H4 := hide hk4
  clear hk4 H3
  go_wp2_with fail
  obtain ⟨x, hx, hxm, hxb⟩ : ∃ x : Tp, u.sync.cut cut = (x, 1) ∧ x.m = r ∧ x.b.size = L := by
    unfold Tp.cut
    rw [if_pos (by show cut < 0 ∨ (u.b.size : Int) < cut; have := HU.out.2; have := HC.out; omega)]
    exact ⟨_, rfl, HU.out.1, HU.out.2.trans HL.out.1.symm⟩
  have T := kcut8 w w4 gt u.sync H4.out cut
  rw [hx] at T
  refine T.mono ?_
  clear T
  rintro e w5 ⟨rfl, hk5⟩
  have H5 := hide hk5
  have HX := hide (And.intro hxm hxb)
  clear hk5 H4 hx hxm hxb HU
  go_wp2_with fail
  refine (klen8 w w5 gt x H5.out).mono ?_
  rintro e w6 ⟨rfl, rfl⟩
  rw [HX.out.2, HL.out.1]
  obtain ⟨y, hyx⟩ : ∃ y : Tp, y = x := ⟨_, rfl⟩
  have HY : Hid (y.m = r ∧ y.b.size = M) := hide (by rw [hyx]; exact ⟨HX.out.1, HX.out.2.trans HL.out.2.1.symm⟩)
  have H6 : Hid (K8 w w5 gt y) := hide (by rw [hyx]; exact H5.out)
  obtain ⟨w6, hw6⟩ : ∃ w6 : World, w6 = w5 := ⟨_, rfl⟩
  rw [← hw6] at H6 ⊢
  clear H5 HX hyx hw6
  go_wp2_with fail
  have T := kapp8 w _ gt y (H6.out.alloc (.cells (zrow (K + 1)).toArray 5)) _ (K + 1) (K + 1) _ (made_isB w6 5 (K + 1)) (fun h => nomatch h) (by omega)
  have ha : y.app ⟨(List.replicate (K + 1) (0 : UInt8)).toArray⟩ = (y, 7) := by
    unfold Tp.app
    rw [zsize, if_pos (by have := HY.out; have := HL.out; omega)]
  rw [ha] at T
  refine T.mono ?_
  clear T
  rintro e w7 ⟨rfl, hk7⟩
  have H7 := hide hk7
  clear hk7 H6 ha
  go_wp2_with fail
  have T := kapp8 w _ gt y (H7.out.alloc (.cells (zrow K).toArray 5)) _ K K _ (made_isB w7 5 K) (fun h => nomatch h) (by omega)
  obtain ⟨z, hz, hzb⟩ : ∃ z : Tp, y.app ⟨(List.replicate K (0 : UInt8)).toArray⟩ = (z, 0) ∧ z.b.size = r := by
    unfold Tp.app
    rw [zsize, if_neg (by have := HY.out; have := HL.out; omega)]
    refine ⟨_, rfl, ?_⟩
    show (y.b ++ _).size = r
    rw [ByteArray.size_append, zsize, HY.out.2]
    exact HL.out.2.2
  rw [hz] at T
  refine T.mono ?_
  clear T
  rintro e w8 ⟨rfl, hk8⟩
  have H8 := hide hk8
  have HZ := hide hzb
  clear hk8 H7 hz hzb
  go_wp2_with fail
  refine (klen8 w w8 gt z H8.out).mono ?_
  rintro e w9 ⟨rfl, rfl⟩
  rw [HZ.out]
  go_wp2
  go_ret
  exact ⟨rfl, H8.out.bel⟩

theorem walk (r n cut : Int) (ch : Bool) (h1 : (Lit.int .i64 r).wf = true) (h2 : (Lit.int .i64 n).wf = true) (h3 : (Lit.int .i64 cut).wf = true) (w : World) :
    Calls Try.prog 6 #[.int .i64 r, .int .i64 n, .int .i64 cut, .bool ch] w fun e w' => e = .returned (.bool true) ∧ Below w.heap.size w w' := by
  by_cases h : r < 0 ∨ 3000 < r ∨ n < 0 ∨ 4000 < n
  · exact out r n cut ch w h
  obtain ⟨r, rfl⟩ := Int.eq_ofNat_of_zero_le (show 0 ≤ r by omega)
  obtain ⟨n, rfl⟩ := Int.eq_ofNat_of_zero_le (show 0 ≤ n by omega)
  by_cases hn : r < n
  · exact full r n cut ch hn w (by omega) (by omega)
  by_cases hc : cut < 0 ∨ (n : Int) < cut
  · by_cases e6 : cut < 0
    · cases ch with
      | true => exact way_ac r n cut (by omega) hc e6 w (by omega) (by omega)
      | false => exact way_an r n cut (by omega) hc e6 w (by omega) (by omega)
    · cases ch with
      | true => exact way_bc r n cut (by omega) hc e6 (by omega) w (by omega) (by omega)
      | false => exact way_bn r n cut (by omega) hc e6 (by omega) w (by omega) (by omega)
  · obtain ⟨c, rfl⟩ := Int.eq_ofNat_of_zero_le (show 0 ≤ cut by omega)
    cases ch with
    | true => exact way_vc r n c (by omega) (by omega) w (by omega) (by omega)
    | false => exact way_vn r n c (by omega) (by omega) w (by omega) (by omega)
end Go.Proofs.Ytkmlgfmpcglfeaa.tapeRoom

namespace Go.Proofs.Ytkmlgfmpcglfeaa.tapeRoom
open Go.ChangeShapes Go.WideShapes Go.ChangeAt Go.RowKit
open Go.ChangeMaps (open_string shut_string)
set_option linter.unusedVariables false

theorem own : ownKnob Try.prog.godebug = none := by kernel_rfl

set_option maxRecDepth 100000 in
theorem lifted (os : Os) (started : os.Started) (H : Type) (enc : TypeId × Value → H) :
    ReturnsInHanded {} Try.checked os 6 .any (Rows.tapeRoomSpec.pre6 enc Try.prog Try.f6 Rows.tapeRoomRow.domain false) (Rows.tapeRoomSpec.post enc Try.prog Try.f6 false true false false) := by
  refine returnsInHanded_of_change_sized (C := Try.checked) own started (by kernel_rfl) Try.func6
    (ChangeSpec.witness6 (enc := enc) (C := Try.checked) false ⟨#[], #[.int .i64 0, .int .i64 0, .int .i64 0, .bool false], []⟩ 8 (by kernel_rfl) (by kernel_rfl) (by kernel_rfl) (by kernel_rfl)) ?_
  intro W base args ds gs before hval0 hW hcnd hsz0 _
  have hval : ∀ (j : Nat) t v, Try.f6.params[j]? = some t → args[j]? = some v → Value.okWide Try.prog W .any base t v := hval0
  have hsz : (DataW.weightsEach Try.prog (Try.f6.params.toList ++ Rows.tapeRoomSpec.plain.varTypes Try.prog) (ds ++ gs)).all (· ≤ reachBytes) = true := hsz0
  have hW' := hW
  obtain ⟨p, q, hA0, hV, rfl, hfz, hnd⟩ := hW
  have hA : DataW.TrodAll enc Try.prog W 0 (fun _ => true) true Try.f6.params.toList args.toList ds p := hA0
  rw [Try.params6] at hA hval hsz
  obtain ⟨v0, vs0, d0, ds0, p0, q0, hargs, rfl, rfl, h0, r0⟩ := trodAll_cons hA
  obtain ⟨v1, vs1, d1, ds1, p1, q1, rfl, rfl, rfl, h1, r1⟩ := trodAll_cons r0
  obtain ⟨v2, vs2, d2, ds2, p2, q2, rfl, rfl, rfl, h2, r2⟩ := trodAll_cons r1
  obtain ⟨v3, vs3, d3, ds3, p3, q3, rfl, rfl, rfl, h3, r3⟩ := trodAll_cons r2
  obtain ⟨rfl, rfl, rfl⟩ := trodAll_nil r3
  obtain rfl : args = #[v0, v1, v2, v3] := by cases args; simp_all
  obtain ⟨rfl, rfl⟩ := trodVars_none hV
  obtain ⟨a0, rfl, rfl, rfl, w0⟩ := open_int Try.underlying3 (hval 0 3 v0 rfl rfl) h0
  obtain ⟨a1, rfl, rfl, rfl, w1⟩ := open_int Try.underlying3 (hval 1 3 v1 rfl rfl) h1
  obtain ⟨a2, rfl, rfl, rfl, w2⟩ := open_int Try.underlying3 (hval 2 3 v2 rfl rfl) h2
  obtain ⟨a3, rfl, rfl, rfl⟩ := open_bool Try.underlying4 (hval 3 4 v3 rfl rfl) h3
  clear hA0 hval0 hsz0 hsz
  refine (walk a0 a1 a2 a3 w0 w1 w2 W).mono fun e W' ⟨he, bel⟩ => ?_
  subst he
  exact ⟨_, rfl, _, _, _, [], _, [], hW', trodAll_mk1 (shut_bool Try.underlying4 _), (trodAll_cons_mk (shut_int Try.underlying3 w0) (trodAll_cons_mk (shut_int Try.underlying3 w1) (trodAll_cons_mk (shut_int Try.underlying3 w2) (trodAll_cons_mk (shut_bool Try.underlying4 a3) trodAll_mk0)))), rfl, bel.frame _, fun h => by cases h⟩

theorem over : Rows.tapeRoomRow.holds Try.pinned (OpenSpec.ofChange Rows.tapeRoomSpec) :=
  OpenClaim.holds_of_wide 6 Try.f6 rfl rfl rfl rfl rfl rfl rfl ⟨rfl, rfl, rfl, rfl, rfl⟩ rfl rfl rfl rfl rfl (by kernel_rfl) Try.func6 (by kernel_rfl)
    (of_decide_eq_true (by kernel_rfl)) (by unfold Func.isWrapper; first | (rw [if_pos (by decide +kernel)]; kernel_rfl) | (rw [if_neg (by decide +kernel)]; exact ⟨rfl, rfl⟩))
    (fun os started H enc _ => lifted os started H enc)

/-- THE STATEMENT. -/
theorem proved : Rows.TapeRoomSaid := over
end Go.Proofs.Ytkmlgfmpcglfeaa.tapeRoom
namespace Go.Proofs.Ytkmlgfmpcglfeaa
theorem tapeRoom_proved : Rows.TapeRoomSaid := tapeRoom.proved
end Go.Proofs.Ytkmlgfmpcglfeaa
