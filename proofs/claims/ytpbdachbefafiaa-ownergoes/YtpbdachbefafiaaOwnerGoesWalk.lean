/-
  The walk of OwnerGoes: it returns true, and turns nothing that was there. (gen14/goes.py)
-/
import Derived.Test.YtpbdachbefafiaaOwKept
namespace Go.Proofs.Ytpbdachbefafiaa.ownerGoes
open Go.RowKit
set_option linter.unusedVariables false

theorem rem_in (z m : Int) (h0 : 0 ≤ z) (h1 : z ≤ 255) (h2 : 0 < m) (h3 : m ≤ 255) : ∃ i : Nat, wrap64 (z.tmod m) = (i : Int) ∧ (i : Int) < m := by
  have e : z.tmod m = z % m := Int.tmod_eq_emod_of_nonneg h0
  have b0 := Int.emod_nonneg z (by omega : m ≠ 0)
  have b1 := Int.emod_lt_of_pos z h2
  rw [e]
  generalize z % m = r at *
  refine ⟨r.toNat, ?_, by omega⟩
  unfold wrap64
  omega
theorem u8_nat {i : Int} (h : (Lit.int .u8 i).wf = true) : ∃ n : Nat, i = (n : Int) ∧ n < 256 := by
  have h2 : 0 ≤ i ∧ i ≤ 255 := by simpa [Lit.wf, IntKind.min, IntKind.max, IntKind.signed, IntKind.bits] using h
  exact ⟨i.toNat, by omega, by omega⟩
theorem facts (i : Nat) (hi : i < 32) (x y : Int) (hx : isNd x = true) (hy : isNd y = true) (hne : ¬ x = y) :
    ∃ d0 d1 d2 d3 d4 : Dr, d0 = Dr.new 32 ∧ (d0.askN i x = -1 ∧ d0.askE i x = 0 ∧ d0.ask i x = d1) ∧ (d1.askN i y = x ∧ d1.askE i y = 12 ∧ d1.ask i y = d1) ∧ (d1.laE i y = 13 ∧ d1.la i y = d1) ∧ (d1.shE i y x = 13 ∧ d1.sh i y x = d1) ∧ (d1.shE i x y = 0 ∧ d1.sh i x y = d2) ∧ (d2.leE i x = 13 ∧ d2.le i x = d2) ∧ (d2.leE i y = 13 ∧ d2.le i y = d2) ∧ (d2.laE i x = 13 ∧ d2.la i x = d2) ∧ (d2.askN i x = y ∧ d2.askE i x = 12 ∧ d2.ask i x = d2) ∧ (d2.laE i y = 0 ∧ d2.la i y = d3) ∧ (d3.askN i y = y ∧ d3.askE i y = 0 ∧ d3.ask i y = d3) ∧ (d3.leE i y = 0 ∧ d3.le i y = d4) ∧ (d4.heE i = 13 ∧ d4.he i = d4) := by
  have hne' : ¬ y = x := fun e => hne e.symm
  have q0 : (Dr.new 32).ix (i : Int) = some i := Dr.ix_lt (Dr.new 32) (show i < 32 from hi)
  have qs : ∀ (d : Dr) (j : Nat) (s : Sp) (p : Int), (d.set j s).ix p = d.ix p := fun _ _ _ _ => rfl
  have qh : ((Dr.new 32).sp i) = ⟨0, 0⟩ := rfl
  have e1 : (Dr.new 32).ask i x = (Dr.new 32).set i ⟨1, x⟩ := by simp only [Dr.ask, q0, hx, qh, if_true]
  have e2 : ((Dr.new 32).set i ⟨1, x⟩).sh i x y = ((Dr.new 32).set i ⟨1, x⟩).set i ⟨2, y⟩ := by simp only [Dr.sh, Dr.mv, Dr.is, qs, q0, hx, hy, hne, if_true, if_false, Dr.set_same, and_self]
  have e3 : (((Dr.new 32).set i ⟨1, x⟩).set i ⟨2, y⟩).la i y = (((Dr.new 32).set i ⟨1, x⟩).set i ⟨2, y⟩).set i ⟨1, y⟩ := by simp only [Dr.la, Dr.mv, Dr.is, qs, q0, hy, if_true, Dr.set_same, and_self]
  have e4 : ((((Dr.new 32).set i ⟨1, x⟩).set i ⟨2, y⟩).set i ⟨1, y⟩).le i y = ((((Dr.new 32).set i ⟨1, x⟩).set i ⟨2, y⟩).set i ⟨1, y⟩).set i ⟨0, 0⟩ := by simp only [Dr.le, Dr.mv, Dr.is, qs, q0, hy, if_true, Dr.set_same, and_self, Sp.home]
  refine ⟨_, _, _, _, _, rfl, ⟨?_, ?_, e1⟩, ⟨?_, ?_, ?_⟩, ⟨?_, ?_⟩, ⟨?_, ?_⟩, ⟨?_, e2⟩, ⟨?_, ?_⟩, ⟨?_, ?_⟩, ⟨?_, ?_⟩, ⟨?_, ?_, ?_⟩, ⟨?_, e3⟩, ⟨?_, ?_, ?_⟩, ⟨?_, e4⟩, ⟨?_, ?_⟩⟩ <;>
  simp [Dr.askN, Dr.askE, Dr.ask, Dr.sh, Dr.shE, Dr.la, Dr.laE, Dr.le, Dr.leE, Dr.he, Dr.heE, Dr.mv, Dr.mvE, Dr.is, qs, q0, qh, hx, hy, hne, hne', Dr.set_same]
set_option maxRecDepth 8000 in
set_option maxHeartbeats 3200000 in
theorem walk (pg a b : Int) (h1 : (Lit.int .u8 pg).wf = true) (h2 : (Lit.int .u8 a).wf = true) (h3 : (Lit.int .u8 b).wf = true) (w : World) :
    Calls Try.prog 6 #[.int .u8 pg, .int .u8 a, .int .u8 b] w fun e w' => e = .returned (.bool true) ∧ Below w.heap.size w w' := by
  have r1 : ∃ i : Nat, wrap64 (pg.tmod 32) = (i : Int) ∧ (i : Int) < 32 := by
    obtain ⟨n, hn, hn2⟩ := u8_nat h1
    exact rem_in pg 32 (by omega) (by omega) (by omega) (by omega)
  have r2 : ∃ i : Nat, wrap64 (a.tmod 8) = (i : Int) ∧ (i : Int) < 8 := by
    obtain ⟨n, hn, hn2⟩ := u8_nat h2
    exact rem_in a 8 (by omega) (by omega) (by omega) (by omega)
  have r3 : ∃ i : Nat, wrap64 (b.tmod 8) = (i : Int) ∧ (i : Int) < 8 := by
    obtain ⟨n, hn, hn2⟩ := u8_nat h3
    exact rem_in b 8 (by omega) (by omega) (by omega) (by omega)
  obtain ⟨i, ei, hi⟩ := r1
  obtain ⟨xn, ex, hx⟩ := r2
  obtain ⟨yn, ey, hy⟩ := r3
  obtain ⟨x, hxn⟩ : ∃ x : Int, x = (xn : Int) := ⟨_, rfl⟩
  obtain ⟨y, hyn⟩ : ∃ y : Int, y = (yn : Int) := ⟨_, rfl⟩
  rw [← hxn] at ex hx
  rw [← hyn] at ey hy
  have nx : isNd x = true := isNd_iff.2 ⟨by omega, by omega⟩
  have ny : isNd y = true := isNd_iff.2 ⟨by omega, by omega⟩
  clear hxn hyn hx hy h1 h2 h3
  have HB := hide (Below.refl w.heap.size w)
  go_enter Try.func6, Try.ntmps6
  go_wp2_with fail
  refine (awake14 _).mono ?_
  rintro e w1 ⟨rfl, hb1⟩
  have HN := hide (knew14 hb1 32)
  clear hb1
  go_wp2_with fail
  simp only [ei, ex, ey]
  clear ei ex ey
  refine HN.out.mono ?_
  rintro e w2 ⟨g, gr, rfl, hK⟩
  by_cases hne : x = y
  · have HE := hide hK.bel
    have e1 : (x == y) = true := by rw [beq_iff_eq]; exact hne
    clear hK HN hne
    go_wp2
    go_ret
    exact ⟨rfl, HE.out⟩
  obtain ⟨d0, d1, d2, d3, d4, q0, f1, f2, f3, f4, f5, f6, f7, f8, f9, f10, f11, f12, f13⟩ := facts i (by omega) x y nx ny hne
  have e1 : (x == y) = false := by rw [beq_eq_false_iff_ne]; exact hne
  have e2 : (y == x) = false := by rw [beq_eq_false_iff_ne]; exact fun e => hne e.symm
  rw [← q0] at hK
  have HF := hide (And.intro f1 (And.intro f2 (And.intro f3 (And.intro f4 (And.intro f5 (And.intro f6 (And.intro f7 (And.intro f8 (And.intro f9 (And.intro f10 (And.intro f11 (And.intro f12 f13))))))))))))
  have HK := hide hK
  clear hK q0 f1 f2 f3 f4 f5 f6 f7 f8 f9 f10 f11 f12 f13 HN nx ny hne
  have hq := kask14 HK.out i x
  rw [HF.out.1.1, HF.out.1.2.1, HF.out.1.2.2] at hq
  have HQ := hide hq
  clear hq
  go_wp2_with fail
  refine HQ.out.mono ?_
  rintro e w3 ⟨rfl, hK, -⟩
  clear HK HQ
  have HK := hide hK
  clear hK
  have hq := kask14 HK.out i y
  rw [HF.out.2.1.1, HF.out.2.1.2.1, HF.out.2.1.2.2] at hq
  have HQ := hide hq
  clear hq
  go_wp2_with fail
  refine HQ.out.mono ?_
  rintro e w4 ⟨rfl, hK, -⟩
  clear HK HQ
  have HK := hide hK
  clear hK
  have hq := kland14 HK.out i y
  rw [HF.out.2.2.1.1, HF.out.2.2.1.2] at hq
  have HQ := hide hq
  clear hq
  go_wp2_with fail
  refine HQ.out.mono ?_
  rintro e w5 ⟨rfl, hK, -⟩
  clear HK HQ
  have HK := hide hK
  clear hK
  have hq := kship14 HK.out i y x
  rw [HF.out.2.2.2.1.1, HF.out.2.2.2.1.2] at hq
  have HQ := hide hq
  clear hq
  go_wp2_with fail
  refine HQ.out.mono ?_
  rintro e w6 ⟨rfl, hK, -⟩
  clear HK HQ
  have HK := hide hK
  clear hK
  have hq := kship14 HK.out i x y
  rw [HF.out.2.2.2.2.1.1, HF.out.2.2.2.2.1.2] at hq
  have HQ := hide hq
  clear hq
  go_wp2_with fail
  refine HQ.out.mono ?_
  rintro e w7 ⟨rfl, hK, -⟩
  clear HK HQ
  have HK := hide hK
  clear hK
  have hq := kleave14 HK.out i x
  rw [HF.out.2.2.2.2.2.1.1, HF.out.2.2.2.2.2.1.2] at hq
  have HQ := hide hq
  clear hq
  go_wp2_with fail
  refine HQ.out.mono ?_
  rintro e w8 ⟨rfl, hK, -⟩
  clear HK HQ
  have HK := hide hK
  clear hK
  have hq := kleave14 HK.out i y
  rw [HF.out.2.2.2.2.2.2.1.1, HF.out.2.2.2.2.2.2.1.2] at hq
  have HQ := hide hq
  clear hq
  go_wp2_with fail
  refine HQ.out.mono ?_
  rintro e w9 ⟨rfl, hK, -⟩
  clear HK HQ
  have HK := hide hK
  clear hK
  have hq := kland14 HK.out i x
  rw [HF.out.2.2.2.2.2.2.2.1.1, HF.out.2.2.2.2.2.2.2.1.2] at hq
  have HQ := hide hq
  clear hq
  go_wp2_with fail
  refine HQ.out.mono ?_
  rintro e w10 ⟨rfl, hK, -⟩
  clear HK HQ
  have HK := hide hK
  clear hK
  have hq := kask14 HK.out i x
  rw [HF.out.2.2.2.2.2.2.2.2.1.1, HF.out.2.2.2.2.2.2.2.2.1.2.1, HF.out.2.2.2.2.2.2.2.2.1.2.2] at hq
  have HQ := hide hq
  clear hq
  go_wp2_with fail
  refine HQ.out.mono ?_
  rintro e w11 ⟨rfl, hK, -⟩
  clear HK HQ
  have HK := hide hK
  clear hK
  have hq := kland14 HK.out i y
  rw [HF.out.2.2.2.2.2.2.2.2.2.1.1, HF.out.2.2.2.2.2.2.2.2.2.1.2] at hq
  have HQ := hide hq
  clear hq
  go_wp2_with fail
  refine HQ.out.mono ?_
  rintro e w12 ⟨rfl, hK, -⟩
  clear HK HQ
  have HK := hide hK
  clear hK
  have hq := kask14 HK.out i y
  rw [HF.out.2.2.2.2.2.2.2.2.2.2.1.1, HF.out.2.2.2.2.2.2.2.2.2.2.1.2.1, HF.out.2.2.2.2.2.2.2.2.2.2.1.2.2] at hq
  have HQ := hide hq
  clear hq
  go_wp2_with fail
  refine HQ.out.mono ?_
  rintro e w13 ⟨rfl, hK, -⟩
  clear HK HQ
  have HK := hide hK
  clear hK
  have hq := kleave14 HK.out i y
  rw [HF.out.2.2.2.2.2.2.2.2.2.2.2.1.1, HF.out.2.2.2.2.2.2.2.2.2.2.2.1.2] at hq
  have HQ := hide hq
  clear hq
  go_wp2_with fail
  refine HQ.out.mono ?_
  rintro e w14 ⟨rfl, hK, -⟩
  clear HK HQ
  have HK := hide hK
  clear hK
  have hq := kheal14 HK.out i
  rw [HF.out.2.2.2.2.2.2.2.2.2.2.2.2.1, HF.out.2.2.2.2.2.2.2.2.2.2.2.2.2] at hq
  have HQ := hide hq
  clear hq
  go_wp2_with fail
  refine HQ.out.mono ?_
  rintro e w15 ⟨rfl, hK, -⟩
  clear HK HQ
  have HK := hide hK
  clear hK
  have HE := hide HK.out.bel
  clear HK
  go_wp2
  go_ret
  exact ⟨rfl, HE.out⟩
end Go.Proofs.Ytpbdachbefafiaa.ownerGoes
