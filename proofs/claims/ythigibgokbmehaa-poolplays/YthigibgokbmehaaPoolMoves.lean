/-
  The contract of quaysidelaw11.moves. (gen11/moves.py)
-/
import Derived.Test.YthigibgokbmehaaPoolDuo
import Derived.Test.YthigibgokbmehaaPoolTexts
import Derived.Deep.RegionHeld3
namespace Go.Proofs.Ythigibgokbmehaa
open Go.RowKit
set_option linter.unusedVariables false
theorem Tn.cellAt {F : Nat → Prop} {w x : World} {c j : Nat} {v : Value} (q : Tn F w x) (h : w.cell? ⟨c, j, none⟩ = some v) (hc : c < w.heap.size) (hF : ¬ F c) : x.cell? ⟨c, j, none⟩ = some v := (World.cell?_of_block (a := ⟨c, j, none⟩) (q.block c hc hF)).trans h
theorem K11.drewN {w0 x : World} {g gr b : Nat} {p : Po} (h : K11 w0 x g gr p b) (n : Nat) : K11 w0 (x.drewN n) g gr p b := ⟨h.ps.drewN n, h.ok, h.z, h.txt, ⟨h.bel.os, h.bel.tape, h.bel.output, h.bel.size, h.bel.block⟩, h.lo⟩
theorem D11.drewN {w0 x : World} {g gr k kr b : Nat} {p : Po} (h : D11 w0 x g gr k kr p b) (n : Nat) : D11 w0 (x.drewN n) g gr k kr p b := ⟨h.l.drewN n, h.r.drewN n, h.off, h.lo⟩
/-- A block beside both pools. -/
structure Ob (x : World) (g gr k kr o : Nat) : Prop where
  lt : o < x.heap.size
  l : ¬ FP g gr o
  r : ¬ FP k kr o
def FQ (g gr k kr c : Nat) : Prop := FP g gr c ∨ FP k kr c
theorem tn_both {x x1 y z : World} {g gr k kr : Nat} (hb : Below x.heap.size x x1) (t1 : Tn (FP g gr) x1 y) (t2 : Tn (FP k kr) y z) : Tn (FQ g gr k kr) x z := ((Tn.of_below hb).then (t1.weak fun _ h => .inl h)).then (t2.weak fun _ h => .inr h)
section
variable {w0 x : World} {g gr k kr b : Nat} {p : Po}
theorem D11.ob (h : D11 w0 x g gr k kr p b) (v : Array Value) (t : TypeId) : Ob (x.alloc (.cells v t)) g gr k kr x.heap.size := by
  have h1 := h.l.ps.lt
  have h2 := h.r.lt
  refine ⟨by rw [World.size_alloc]; omega, fun e => ?_, fun e => ?_⟩
  · rcases e with e | e <;> omega
  · rcases e with e | e <;> omega
theorem Ob.next {y : World} {F : Nat → Prop} {o : Nat} (h : Ob x g gr k kr o) (q : Tn F x y) : Ob y g gr k kr o := ⟨Nat.lt_of_lt_of_le h.lt q.size, h.l, h.r⟩
set_option maxRecDepth 4000 in
set_option maxHeartbeats 1600000 in
theorem moves11_2 (i : Int) (s : ByteArray) (n : Int) (hb : b ≤ 100000) (h : D11 w0 x g gr k kr p b) : Calls Try.prog 12 #[.pointer (some ⟨g, 0, none⟩), .pointer (some ⟨k, 0, none⟩), .agg #[.int .i64 2, .int .i64 i, .string s, .int .u64 n]] x fun e y => e = .returned (.bool true) ∧ D11 w0 y g gr k kr (p.put i (.string s)) (b + 1) ∧ Tn (FQ g gr k kr) x y := by
  have hN := RowAt.new x 30 #[.int .i64 2, .int .i64 i, .string s, .int .u64 n]
  have hbN : Below x.heap.size x (x.alloc (.cells #[.int .i64 2, .int .i64 i, .string s, .int .u64 n] 30)) := (Below.refl _ _).alloc (Nat.le_refl _) _
  have c0 := hN.cell 0 _ rfl
  have c1 := hN.cell 1 _ rfl
  have c2 := hN.cell 2 _ rfl
  have c3 := hN.cell 3 _ rfl
  have HB := hide (show Ob ((x.alloc (.cells #[.int .i64 2, .int .i64 i, .string s, .int .u64 n] 30)).drewN 1) g gr k kr x.heap.size from ⟨(h.ob _ _).lt, (h.ob #[] 30).l, (h.ob #[] 30).r⟩)
  have HD := hide ((h.later hbN).drewN 1)
  have HBL := hide (below_dn hbN 1)
  clear h hbN hN
  go_enter Try.func12, Try.ntmps12
  go_wp2_with fail
  go_region_held3 (fun y => y.cell? ⟨x.heap.size, 1, none⟩ = some (.int .i64 i) ∧ y.cell? ⟨x.heap.size, 2, none⟩ = some (.string s)) (go_keep)
    (first
      | (go_at_call 30; refine (kput11 i s HD.out.l).mono ?_; rintro e w2 ⟨rfl, q1, t1⟩; have m1 := t1.cellAt c1 HB.out.lt HB.out.l; have m2 := t1.cellAt c2 HB.out.lt HB.out.l; have HB2 := hide (HB.out.next t1); have HR := hide (HD.out.code t1); have HL := hide q1; have HOF := hide HD.out; have HT1 := hide t1; clear q1 t1 HD)
      | (go_at_call 37; refine (rput11 i s HOF.out.l.ok HR.out).mono ?_; rintro e w3 ⟨rfl, q2, t2⟩; have n1 := t2.cellAt m1 HB2.out.lt HB2.out.r; have n2 := t2.cellAt m2 HB2.out.lt HB2.out.r; have HF := hide (show D11 w0 w3 g gr k kr (p.put i (.string s)) (b) from ⟨HOF.out.doc HL.out t2, q2, HOF.out.off, HOF.out.lo⟩); have HT2 := hide (tn_both HBL.out HT1.out t2); clear q2 t2))
  go_wp2
  go_ret
  exact ⟨rfl, HF.out.mono (by omega), HT2.out⟩
set_option maxRecDepth 4000 in
set_option maxHeartbeats 1600000 in
theorem moves11_3 (i : Int) (s : ByteArray) (n : Int) (hb : b ≤ 100000) (h : D11 w0 x g gr k kr p b) : Calls Try.prog 12 #[.pointer (some ⟨g, 0, none⟩), .pointer (some ⟨k, 0, none⟩), .agg #[.int .i64 3, .int .i64 i, .string s, .int .u64 n]] x fun e y => e = .returned (.bool true) ∧ D11 w0 y g gr k kr (p.setP i (.string s) n) (b + 1) ∧ Tn (FQ g gr k kr) x y := by
  have hN := RowAt.new x 30 #[.int .i64 3, .int .i64 i, .string s, .int .u64 n]
  have hbN : Below x.heap.size x (x.alloc (.cells #[.int .i64 3, .int .i64 i, .string s, .int .u64 n] 30)) := (Below.refl _ _).alloc (Nat.le_refl _) _
  have c0 := hN.cell 0 _ rfl
  have c1 := hN.cell 1 _ rfl
  have c2 := hN.cell 2 _ rfl
  have c3 := hN.cell 3 _ rfl
  have HB := hide (show Ob ((x.alloc (.cells #[.int .i64 3, .int .i64 i, .string s, .int .u64 n] 30)).drewN 1) g gr k kr x.heap.size from ⟨(h.ob _ _).lt, (h.ob #[] 30).l, (h.ob #[] 30).r⟩)
  have HD := hide ((h.later hbN).drewN 1)
  have HBL := hide (below_dn hbN 1)
  clear h hbN hN
  go_enter Try.func12, Try.ntmps12
  go_wp2_with fail
  go_region_held3 (fun y => y.cell? ⟨x.heap.size, 1, none⟩ = some (.int .i64 i) ∧ y.cell? ⟨x.heap.size, 2, none⟩ = some (.string s) ∧ y.cell? ⟨x.heap.size, 3, none⟩ = some (.int .u64 n)) (go_keep)
    (first
      | (go_at_call 32; refine (kset11 i s n HD.out.l).mono ?_; rintro e w2 ⟨rfl, q1, t1⟩; have m1 := t1.cellAt c1 HB.out.lt HB.out.l; have m2 := t1.cellAt c2 HB.out.lt HB.out.l; have m3 := t1.cellAt c3 HB.out.lt HB.out.l; have HB2 := hide (HB.out.next t1); have HR := hide (HD.out.code t1); have HL := hide q1; have HOF := hide HD.out; have HT1 := hide t1; clear q1 t1 HD)
      | (go_at_call 38; refine (rset11 i s n HOF.out.l.ok HR.out).mono ?_; rintro e w3 ⟨rfl, q2, t2⟩; have n1 := t2.cellAt m1 HB2.out.lt HB2.out.r; have n2 := t2.cellAt m2 HB2.out.lt HB2.out.r; have n3 := t2.cellAt m3 HB2.out.lt HB2.out.r; have HF := hide (show D11 w0 w3 g gr k kr (p.setP i (.string s) n) (b) from ⟨HOF.out.doc HL.out t2, q2, HOF.out.off, HOF.out.lo⟩); have HT2 := hide (tn_both HBL.out HT1.out t2); clear q2 t2))
  go_wp2
  go_ret
  exact ⟨rfl, HF.out.mono (by omega), HT2.out⟩
set_option maxRecDepth 4000 in
set_option maxHeartbeats 1600000 in
theorem moves11_4 (i : Int) (s : ByteArray) (n : Int) (hb : b ≤ 100000) (h : D11 w0 x g gr k kr p b) : Calls Try.prog 12 #[.pointer (some ⟨g, 0, none⟩), .pointer (some ⟨k, 0, none⟩), .agg #[.int .i64 4, .int .i64 i, .string s, .int .u64 n]] x fun e y => e = .returned (.bool true) ∧ D11 w0 y g gr k kr (p.clean i) (b + 1) ∧ Tn (FQ g gr k kr) x y := by
  have hN := RowAt.new x 30 #[.int .i64 4, .int .i64 i, .string s, .int .u64 n]
  have hbN : Below x.heap.size x (x.alloc (.cells #[.int .i64 4, .int .i64 i, .string s, .int .u64 n] 30)) := (Below.refl _ _).alloc (Nat.le_refl _) _
  have c0 := hN.cell 0 _ rfl
  have c1 := hN.cell 1 _ rfl
  have c2 := hN.cell 2 _ rfl
  have c3 := hN.cell 3 _ rfl
  have HB := hide (show Ob ((x.alloc (.cells #[.int .i64 4, .int .i64 i, .string s, .int .u64 n] 30)).drewN 1) g gr k kr x.heap.size from ⟨(h.ob _ _).lt, (h.ob #[] 30).l, (h.ob #[] 30).r⟩)
  have HD := hide ((h.later hbN).drewN 1)
  have HBL := hide (below_dn hbN 1)
  clear h hbN hN
  go_enter Try.func12, Try.ntmps12
  go_wp2_with fail
  go_region_held3 (fun y => y.cell? ⟨x.heap.size, 1, none⟩ = some (.int .i64 i)) (go_keep)
    (first
      | (go_at_call 31; refine (kclean11 i HD.out.l).mono ?_; rintro e w2 ⟨rfl, q1, t1⟩; have m1 := t1.cellAt c1 HB.out.lt HB.out.l; have HB2 := hide (HB.out.next t1); have HR := hide (HD.out.code t1); have HL := hide q1; have HOF := hide HD.out; have HT1 := hide t1; clear q1 t1 HD)
      | (go_at_call 39; refine (rclean11 i HOF.out.l.ok HR.out).mono ?_; rintro e w3 ⟨rfl, q2, t2⟩; have n1 := t2.cellAt m1 HB2.out.lt HB2.out.r; have HF := hide (show D11 w0 w3 g gr k kr (p.clean i) (b) from ⟨HOF.out.doc HL.out t2, q2, HOF.out.off, HOF.out.lo⟩); have HT2 := hide (tn_both HBL.out HT1.out t2); clear q2 t2))
  go_wp2
  go_ret
  exact ⟨rfl, HF.out.mono (by omega), HT2.out⟩
set_option maxRecDepth 4000 in
set_option maxHeartbeats 1600000 in
theorem moves11_5 (i : Int) (s : ByteArray) (n : Int) (hb : b ≤ 100000) (h : D11 w0 x g gr k kr p b) : Calls Try.prog 12 #[.pointer (some ⟨g, 0, none⟩), .pointer (some ⟨k, 0, none⟩), .agg #[.int .i64 5, .int .i64 i, .string s, .int .u64 n]] x fun e y => e = .returned (.bool true) ∧ D11 w0 y g gr k kr (p.fix i) (b + 1) ∧ Tn (FQ g gr k kr) x y := by
  have hN := RowAt.new x 30 #[.int .i64 5, .int .i64 i, .string s, .int .u64 n]
  have hbN : Below x.heap.size x (x.alloc (.cells #[.int .i64 5, .int .i64 i, .string s, .int .u64 n] 30)) := (Below.refl _ _).alloc (Nat.le_refl _) _
  have c0 := hN.cell 0 _ rfl
  have c1 := hN.cell 1 _ rfl
  have c2 := hN.cell 2 _ rfl
  have c3 := hN.cell 3 _ rfl
  have HB := hide (show Ob ((x.alloc (.cells #[.int .i64 5, .int .i64 i, .string s, .int .u64 n] 30)).drewN 1) g gr k kr x.heap.size from ⟨(h.ob _ _).lt, (h.ob #[] 30).l, (h.ob #[] 30).r⟩)
  have HD := hide ((h.later hbN).drewN 1)
  have HBL := hide (below_dn hbN 1)
  clear h hbN hN
  go_enter Try.func12, Try.ntmps12
  go_wp2_with fail
  go_region_held3 (fun y => y.cell? ⟨x.heap.size, 1, none⟩ = some (.int .i64 i)) (go_keep)
    (first
      | (go_at_call 34; refine (kfix11 i hb HD.out.l).mono ?_; rintro e w2 ⟨rfl, q1, t1⟩; have m1 := t1.cellAt c1 HB.out.lt HB.out.l; have HB2 := hide (HB.out.next t1); have HR := hide (HD.out.code t1); have HL := hide q1; have HOF := hide HD.out; have HT1 := hide t1; clear q1 t1 HD)
      | (go_at_call 40; refine (rfix11 i (fun i hi => Nat.le_trans (HOF.out.l.ok.few i hi) hb) HOF.out.l.ok HR.out).mono ?_; rintro e w3 ⟨rfl, q2, t2⟩; have n1 := t2.cellAt m1 HB2.out.lt HB2.out.r; have HF := hide (show D11 w0 w3 g gr k kr (p.fix i) (b + 1) from ⟨HOF.out.doc HL.out t2, q2, HOF.out.off, HOF.out.lo⟩); have HT2 := hide (tn_both HBL.out HT1.out t2); clear q2 t2))
  go_wp2
  go_ret
  exact ⟨rfl, HF.out.mono (by omega), HT2.out⟩
set_option maxRecDepth 4000 in
set_option maxHeartbeats 1600000 in
theorem moves11_6 (i : Int) (s : ByteArray) (n : Int) (hb : b ≤ 100000) (h : D11 w0 x g gr k kr p b) : Calls Try.prog 12 #[.pointer (some ⟨g, 0, none⟩), .pointer (some ⟨k, 0, none⟩), .agg #[.int .i64 6, .int .i64 i, .string s, .int .u64 n]] x fun e y => e = .returned (.bool true) ∧ D11 w0 y g gr k kr (p.unfix i) (b + 1) ∧ Tn (FQ g gr k kr) x y := by
  have hN := RowAt.new x 30 #[.int .i64 6, .int .i64 i, .string s, .int .u64 n]
  have hbN : Below x.heap.size x (x.alloc (.cells #[.int .i64 6, .int .i64 i, .string s, .int .u64 n] 30)) := (Below.refl _ _).alloc (Nat.le_refl _) _
  have c0 := hN.cell 0 _ rfl
  have c1 := hN.cell 1 _ rfl
  have c2 := hN.cell 2 _ rfl
  have c3 := hN.cell 3 _ rfl
  have HB := hide (show Ob ((x.alloc (.cells #[.int .i64 6, .int .i64 i, .string s, .int .u64 n] 30)).drewN 1) g gr k kr x.heap.size from ⟨(h.ob _ _).lt, (h.ob #[] 30).l, (h.ob #[] 30).r⟩)
  have HD := hide ((h.later hbN).drewN 1)
  have HBL := hide (below_dn hbN 1)
  clear h hbN hN
  go_enter Try.func12, Try.ntmps12
  go_wp2_with fail
  go_region_held3 (fun y => y.cell? ⟨x.heap.size, 1, none⟩ = some (.int .i64 i)) (go_keep)
    (first
      | (go_at_call 27; refine (kunfix11 i hb HD.out.l).mono ?_; rintro e w2 ⟨rfl, q1, t1⟩; have m1 := t1.cellAt c1 HB.out.lt HB.out.l; have HB2 := hide (HB.out.next t1); have HR := hide (HD.out.code t1); have HL := hide q1; have HOF := hide HD.out; have HT1 := hide t1; clear q1 t1 HD)
      | (go_at_call 40; refine (runfix11 i (fun i hi => Nat.le_trans (HOF.out.l.ok.few i hi) hb) HOF.out.l.ok HR.out).mono ?_; rintro e w3 ⟨rfl, q2, t2⟩; have n1 := t2.cellAt m1 HB2.out.lt HB2.out.r; have HF := hide (show D11 w0 w3 g gr k kr (p.unfix i) (b) from ⟨HOF.out.doc HL.out t2, q2, HOF.out.off, HOF.out.lo⟩); have HT2 := hide (tn_both HBL.out HT1.out t2); clear q2 t2))
  go_wp2
  go_ret
  exact ⟨rfl, HF.out.mono (by omega), HT2.out⟩
set_option maxRecDepth 4000 in
set_option maxHeartbeats 1600000 in
theorem moves11_8 (i : Int) (s : ByteArray) (n : Int) (hb : b ≤ 100000) (h : D11 w0 x g gr k kr p b) : Calls Try.prog 12 #[.pointer (some ⟨g, 0, none⟩), .pointer (some ⟨k, 0, none⟩), .agg #[.int .i64 8, .int .i64 i, .string s, .int .u64 n]] x fun e y => e = .returned (.bool true) ∧ D11 w0 y g gr k kr (p.drop i) (b + 1) ∧ Tn (FQ g gr k kr) x y := by
  have hN := RowAt.new x 30 #[.int .i64 8, .int .i64 i, .string s, .int .u64 n]
  have hbN : Below x.heap.size x (x.alloc (.cells #[.int .i64 8, .int .i64 i, .string s, .int .u64 n] 30)) := (Below.refl _ _).alloc (Nat.le_refl _) _
  have c0 := hN.cell 0 _ rfl
  have c1 := hN.cell 1 _ rfl
  have c2 := hN.cell 2 _ rfl
  have c3 := hN.cell 3 _ rfl
  have HB := hide (show Ob ((x.alloc (.cells #[.int .i64 8, .int .i64 i, .string s, .int .u64 n] 30)).drewN 1) g gr k kr x.heap.size from ⟨(h.ob _ _).lt, (h.ob #[] 30).l, (h.ob #[] 30).r⟩)
  have HD := hide ((h.later hbN).drewN 1)
  have HBL := hide (below_dn hbN 1)
  clear h hbN hN
  go_enter Try.func12, Try.ntmps12
  go_wp2_with fail
  go_region_held3 (fun y => y.cell? ⟨x.heap.size, 1, none⟩ = some (.int .i64 i)) (go_keep)
    (first
      | (go_at_call 28; refine (kdrop11 i HD.out.l).mono ?_; rintro e w2 ⟨rfl, q1, t1⟩; have m1 := t1.cellAt c1 HB.out.lt HB.out.l; have HB2 := hide (HB.out.next t1); have HR := hide (HD.out.code t1); have HL := hide q1; have HOF := hide HD.out; have HT1 := hide t1; clear q1 t1 HD)
      | (go_at_call 42; refine (rdrop11 i HOF.out.l.z HOF.out.l.ok HR.out).mono ?_; rintro e w3 ⟨rfl, q2, t2⟩; have n1 := t2.cellAt m1 HB2.out.lt HB2.out.r; have HF := hide (show D11 w0 w3 g gr k kr (p.drop i) (b) from ⟨HOF.out.doc HL.out t2, q2, HOF.out.off, HOF.out.lo⟩); have HT2 := hide (tn_both HBL.out HT1.out t2); clear q2 t2))
  go_wp2
  go_ret
  exact ⟨rfl, HF.out.mono (by omega), HT2.out⟩
set_option maxRecDepth 4000 in
set_option maxHeartbeats 1600000 in
theorem moves11_1 (i : Int) (s : ByteArray) (n : Int) (hb : b ≤ 100000) (h : D11 w0 x g gr k kr p b) : Calls Try.prog 12 #[.pointer (some ⟨g, 0, none⟩), .pointer (some ⟨k, 0, none⟩), .agg #[.int .i64 1, .int .i64 i, .string s, .int .u64 n]] x fun e y => e = .returned (.bool true) ∧ D11 w0 y g gr k kr (p.get i) (b + 1) ∧ Tn (FQ g gr k kr) x y := by
  have hN := RowAt.new x 30 #[.int .i64 1, .int .i64 i, .string s, .int .u64 n]
  have hbN : Below x.heap.size x (x.alloc (.cells #[.int .i64 1, .int .i64 i, .string s, .int .u64 n] 30)) := (Below.refl _ _).alloc (Nat.le_refl _) _
  have c0 := hN.cell 0 _ rfl
  have c1 := hN.cell 1 _ rfl
  have HB := hide (h.ob #[.int .i64 1, .int .i64 i, .string s, .int .u64 n] 30)
  have HD := hide (h.later hbN)
  have HBL := hide hbN
  clear h hbN hN
  go_enter Try.func12, Try.ntmps12
  go_wp2_with fail
  refine (kget11 i HD.out.l).mono ?_
  rintro e w2 ⟨v, rfl, hv, q1, t1⟩
  have c1' := t1.cellAt c1 HB.out.lt HB.out.l
  have HR := hide (HD.out.code t1)
  have HL := hide q1
  have HT1 := hide t1
  clear q1 t1 c0 c1 HB
  go_wp2_with fail
  have T := rget11 i HD.out.l.z HD.out.l.ok HR.out
  rw [hv] at T
  refine T.mono ?_
  rintro e w3 ⟨rfl, q2, t2⟩
  have HF := hide (show D11 w0 w3 g gr k kr (p.get i) b from ⟨HD.out.doc HL.out t2, q2, HD.out.off, HD.out.lo⟩)
  have HT2 := hide (tn_both HBL.out HT1.out t2)
  clear q2 t2 T HL HR hv c1' HD
  generalize p.has i = z at *
  go_wp2
  go_ret
  exact ⟨rfl, HF.out.mono (by omega), HT2.out⟩
set_option maxRecDepth 4000 in
set_option maxHeartbeats 1600000 in
theorem moves11_7 (i : Int) (s : ByteArray) (n : Int) (hb : b ≤ 100000) (h : D11 w0 x g gr k kr p b) : Calls Try.prog 12 #[.pointer (some ⟨g, 0, none⟩), .pointer (some ⟨k, 0, none⟩), .agg #[.int .i64 7, .int .i64 i, .string s, .int .u64 n]] x fun e y => e = .returned (.bool true) ∧ D11 w0 y g gr k kr (p.vic.1) (b + 1) ∧ Tn (FQ g gr k kr) x y := by
  have hN := RowAt.new x 30 #[.int .i64 7, .int .i64 i, .string s, .int .u64 n]
  have hbN : Below x.heap.size x (x.alloc (.cells #[.int .i64 7, .int .i64 i, .string s, .int .u64 n] 30)) := (Below.refl _ _).alloc (Nat.le_refl _) _
  have c0 := hN.cell 0 _ rfl
  have c1 := hN.cell 1 _ rfl
  have HB := hide (h.ob #[.int .i64 7, .int .i64 i, .string s, .int .u64 n] 30)
  have HD := hide (h.later hbN)
  have HBL := hide hbN
  clear h hbN hN
  go_enter Try.func12, Try.ntmps12
  go_wp2_with fail
  refine (kvic11 HD.out.l).mono ?_
  rintro e w2 ⟨rfl, q1, t1⟩
  have HR := hide (HD.out.code t1)
  have HL := hide q1
  have HT1 := hide t1
  clear q1 t1 c0 c1 HB
  go_wp2_with fail
  refine (rvic11 HD.out.l.ok HD.out.l.txt HR.out).mono ?_
  rintro e w3 ⟨rfl, q2, t2⟩
  have HF := hide (show D11 w0 w3 g gr k kr p.vic.1 b from ⟨HD.out.doc HL.out t2, q2, HD.out.off, HD.out.lo⟩)
  have HT2 := hide (tn_both HBL.out HT1.out t2)
  clear q2 t2 HL HR HD
  generalize p.vicI = z1 at *
  generalize p.vicE = z2 at *
  go_wp2
  go_ret
  exact ⟨rfl, HF.out.mono (by omega), HT2.out⟩
set_option maxRecDepth 4000 in
set_option maxHeartbeats 1600000 in
theorem moves11_0 (kk : Int) (i : Int) (s : ByteArray) (n : Int) (k1 : ¬ kk = 1) (k2 : ¬ kk = 2) (k3 : ¬ kk = 3) (k4 : ¬ kk = 4) (k5 : ¬ kk = 5) (k6 : ¬ kk = 6) (k7 : ¬ kk = 7) (k8 : ¬ kk = 8) (hb : b ≤ 100000) (h : D11 w0 x g gr k kr p b) : Calls Try.prog 12 #[.pointer (some ⟨g, 0, none⟩), .pointer (some ⟨k, 0, none⟩), .agg #[.int .i64 kk, .int .i64 i, .string s, .int .u64 n]] x fun e y => e = .returned (.bool true) ∧ D11 w0 y g gr k kr (p) (b + 1) ∧ Tn (FQ g gr k kr) x y := by
  have hN := RowAt.new x 30 #[.int .i64 kk, .int .i64 i, .string s, .int .u64 n]
  have hbN : Below x.heap.size x (x.alloc (.cells #[.int .i64 kk, .int .i64 i, .string s, .int .u64 n] 30)) := (Below.refl _ _).alloc (Nat.le_refl _) _
  have c0 := hN.cell 0 _ rfl
  have c1 := hN.cell 1 _ rfl
  have HB := hide (h.ob #[.int .i64 kk, .int .i64 i, .string s, .int .u64 n] 30)
  have HD := hide (h.later hbN)
  have HBL := hide hbN
  clear h hbN hN
  go_enter Try.func12, Try.ntmps12
  go_wp2
  go_ret
  exact ⟨rfl, HD.out.mono (by omega), Tn.of_below HBL.out⟩
theorem moves11 (kk i : Int) (s : ByteArray) (n : Int) (hb : b ≤ 100000) (h : D11 w0 x g gr k kr p b) : Calls Try.prog 12 #[.pointer (some ⟨g, 0, none⟩), .pointer (some ⟨k, 0, none⟩), .agg #[.int .i64 kk, .int .i64 i, .string s, .int .u64 n]] x fun e y => e = .returned (.bool true) ∧ (∃ q, D11 w0 y g gr k kr q (b + 1)) ∧ Tn (FQ g gr k kr) x y := by
  by_cases k1 : kk = 1
  · subst k1
    exact (moves11_1 i s n hb h).mono fun e y he => ⟨he.1, ⟨_, he.2.1⟩, he.2.2⟩
  by_cases k2 : kk = 2
  · subst k2
    exact (moves11_2 i s n hb h).mono fun e y he => ⟨he.1, ⟨_, he.2.1⟩, he.2.2⟩
  by_cases k3 : kk = 3
  · subst k3
    exact (moves11_3 i s n hb h).mono fun e y he => ⟨he.1, ⟨_, he.2.1⟩, he.2.2⟩
  by_cases k4 : kk = 4
  · subst k4
    exact (moves11_4 i s n hb h).mono fun e y he => ⟨he.1, ⟨_, he.2.1⟩, he.2.2⟩
  by_cases k5 : kk = 5
  · subst k5
    exact (moves11_5 i s n hb h).mono fun e y he => ⟨he.1, ⟨_, he.2.1⟩, he.2.2⟩
  by_cases k6 : kk = 6
  · subst k6
    exact (moves11_6 i s n hb h).mono fun e y he => ⟨he.1, ⟨_, he.2.1⟩, he.2.2⟩
  by_cases k7 : kk = 7
  · subst k7
    exact (moves11_7 i s n hb h).mono fun e y he => ⟨he.1, ⟨_, he.2.1⟩, he.2.2⟩
  by_cases k8 : kk = 8
  · subst k8
    exact (moves11_8 i s n hb h).mono fun e y he => ⟨he.1, ⟨_, he.2.1⟩, he.2.2⟩
  exact (moves11_0 kk i s n k1 k2 k3 k4 k5 k6 k7 k8 hb h).mono fun e y he => ⟨he.1, ⟨_, he.2.1⟩, he.2.2⟩
end
end Go.Proofs.Ythigibgokbmehaa
