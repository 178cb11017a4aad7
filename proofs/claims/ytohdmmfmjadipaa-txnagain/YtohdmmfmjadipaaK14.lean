/-
  Texts that lean on one another, one behind the other: each opens with its own remark.
-/
import Derived.Test.YtohdmmfmjadipaaK00
import Derived.Test.YtohdmmfmjadipaaK13
import Derived.Test.YtohdmmfmjadipaaK11
import Derived.Test.YtohdmmfmjadipaaK12
import Derived.Test.YtohdmmfmjadipaaK06

/-
  The contract of quaysideref06.Right, of checkpoints.
-/
namespace Go.Proofs.Ytohdmmfmjadipaa
open Go.RowKit
set_option linter.unusedVariables false

set_option maxRecDepth 8000 in
set_option maxHeartbeats 3200000 in
theorem rright6_7 (r : Rec) (va vb : Value) (w : World) (q : Bool) (Hq : Hid (q = true ↔ r.right)) (hk : r.k = 7) (hf : r.c.fits) (hin : RcIn w r va vb) :
    Calls Try.prog 29 #[.agg (rcA r va vb)] w fun e w' => e = .returned (.bool q) ∧ Below w.heap.size w w' := by
  have HIN := hide hin
  obtain ⟨⟨e1, cap1, rfl, -⟩, ⟨e2, cap2, rfl, -⟩⟩ := hin
  have HFI := hide hf
  clear hf
  have HK0 := hide (Keeps.one w 30 (rcA r (.slice e1 r.ts.length cap1) (.slice e2 r.ds.length cap2)))
  have HF : Hid (¬ r.right → q = false) := fun h => by
    cases q
    · rfl
    · exact absurd (Hq.out.1 rfl) h
  have HT : Hid (r.right → q = true) := fun h => Hq.out.2 h
  have HOW := hide (fun w => own_at r.k w false (hide (decide_eq_false (by omega))))
  rw [hk] at HOW
  by_cases l1 : (r.l : Int) < 1
  case pos =>
    obtain rfl := HF.out (fun h => by have := h.l1; omega)
    clear HF HT Hq HFI HIN
    obtain ⟨c0, c1, -⟩ := rc_cells HK0.out.1.1
    rw [hk] at c0
    have hb0 := HK0.out.2
    clear HK0 HOW
    go_enter Try.func29, Try.ntmps29
    go_wp2
    go_ret
    exact ⟨rfl, hb0⟩
  by_cases l2 : (4611686018427387904 : Int) < (r.l : Int)
  case pos =>
    obtain rfl := HF.out (fun h => by have := h.lm; unfold maxP at this; omega)
    clear HF HT Hq HFI HIN
    obtain ⟨c0, c1, -⟩ := rc_cells HK0.out.1.1
    rw [hk] at c0
    have hb0 := HK0.out.2
    clear HK0 HOW
    go_enter Try.func29, Try.ntmps29
    go_wp2
    go_ret
    exact ⟨rfl, hb0⟩
  obtain ⟨c0, c1, -⟩ := rc_cells HK0.out.1.1
  rw [hk] at c0
  go_enter Try.func29, Try.ntmps29
  go_wp2_with fail
  refine gen_calls (fun x => Hid (Keeps w x [(w.heap.size, 30, rcA r (.slice e1 r.ts.length cap1) (.slice e2 r.ds.length cap2))])) HK0 ?_
  clear HK0 c0 c1
  intro w0 HK0
  obtain ⟨c0, c1, c2, c3, c9, c10, c11, c12, c13⟩ := rc_cells HK0.out.1.1
  rw [hk] at c0
  have hb0 := HK0.out.2
  refine (HOW.out _).mono ?_
  rintro e w1 ⟨rfl, rfl⟩
  go_wp2_with fail
  refine (HOW.out _).mono ?_
  rintro e w1 ⟨rfl, rfl⟩
  clear HOW
  by_cases t1 : ¬ r.t = 0
  case pos =>
    obtain rfl := HF.out (fun h => t1 (h.none (by omega)).1)
    have t1e : (r.t == 0) = false := by rw [beq_eq_false_iff_ne]; exact t1
    have t1f : (r.t != 0) = true := by rw [bne, t1e]; rfl
    clear HF HT Hq HFI HIN
    clear HK0 c9 c10 c11 c12 c13
    go_wp2
    go_ret
    exact ⟨rfl, hb0⟩
  have t1e : r.t = 0 := Decidable.of_not_not t1
  by_cases p1 : ¬ (r.p : Int) = 0
  case pos =>
    obtain rfl := HF.out (fun h => by have := h.none (by omega); omega)
    have p1e : ((r.p : Int) == 0) = false := by rw [beq_eq_false_iff_ne]; exact p1
    have p1f : ((r.p : Int) != 0) = true := by rw [bne, p1e]; rfl
    clear HF HT Hq HFI HIN
    clear HK0 c9 c10 c11 c12 c13
    go_wp2
    go_ret
    exact ⟨rfl, hb0⟩
  have p1e : (r.p : Int) = 0 := Decidable.of_not_not p1
  obtain ⟨d4, d5, d6, d7, d8⟩ := rc_chg HK0.out.1.1
  by_cases f1 : r.c.k = 0
  case neg =>
    obtain rfl := HF.out (fun h => f1 (by rw [h.noch (by omega)]; rfl))
    clear HF HT Hq HFI HIN HK0
    go_wp2
    go_ret
    exact ⟨rfl, hb0⟩
  by_cases f2 : r.c.pg = 0
  case neg =>
    obtain rfl := HF.out (fun h => f2 (by rw [h.noch (by omega)]; rfl))
    clear HF HT Hq HFI HIN HK0
    go_wp2
    go_ret
    exact ⟨rfl, hb0⟩
  by_cases f3 : r.c.sl = 0
  case neg =>
    obtain rfl := HF.out (fun h => f3 (by rw [h.noch (by omega)]; rfl))
    clear HF HT Hq HFI HIN HK0
    go_wp2
    go_ret
    exact ⟨rfl, hb0⟩
  by_cases f4 : r.c.o.toList = []
  case neg =>
    obtain rfl := HF.out (fun h => f4 (by rw [h.noch (by omega)]; exact zero_list))
    clear HF HT Hq HFI HIN HK0
    go_wp2
    go_ret
    exact ⟨rfl, hb0⟩
  by_cases f5 : r.c.n.toList = []
  case neg =>
    obtain rfl := HF.out (fun h => f5 (by rw [h.noch (by omega)]; exact zero_list))
    clear HF HT Hq HFI HIN HK0
    go_wp2
    go_ret
    exact ⟨rfl, hb0⟩
  have HCC := hide (ch_zero r.c f1 f2 f3 f4 f5)
  by_cases n1 : ¬ (r.n : Int) = 0
  case pos =>
    obtain rfl := HF.out (fun h => by have := h.nonext (by omega); omega)
    have n1e : ((r.n : Int) == 0) = false := by rw [beq_eq_false_iff_ne]; exact n1
    have n1f : ((r.n : Int) != 0) = true := by rw [bne, n1e]; rfl
    clear HF HT Hq HFI HIN
    go_wp2
    go_ret
    exact ⟨rfl, hb0⟩
  have n1e : (r.n : Int) = 0 := Decidable.of_not_not n1
  by_cases s1 : ¬ r.s = 0
  case pos =>
    obtain rfl := HF.out (fun h => s1 (h.nosave (by omega)))
    have s1e : (r.s == 0) = false := by rw [beq_eq_false_iff_ne]; exact s1
    have s1f : (r.s != 0) = true := by rw [bne, s1e]; rfl
    clear HF HT Hq HFI HIN
    go_wp2
    go_ret
    exact ⟨rfl, hb0⟩
  have s1e : r.s = 0 := Decidable.of_not_not s1
  by_cases b1 : ¬ (r.b : Int) = 0
  case pos =>
    obtain rfl := HF.out (fun h => by have := h.nocheck (by omega); omega)
    have b1e : ((r.b : Int) == 0) = false := by rw [beq_eq_false_iff_ne]; exact b1
    have b1f : ((r.b : Int) != 0) = true := by rw [bne, b1e]; rfl
    clear HF HT Hq HFI HIN
    go_wp2
    go_ret
    exact ⟨rfl, hb0⟩
  have b1e : (r.b : Int) = 0 := Decidable.of_not_not b1
  by_cases z1 : ¬ (r.ts.length : Int) = 0
  case pos =>
    obtain rfl := HF.out (fun h => by have := (h.nocheck (by omega)).2.1; rw [this] at z1; exact z1 rfl)
    have z1e : ((r.ts.length : Int) == 0) = false := by rw [beq_eq_false_iff_ne]; exact z1
    have z1f : ((r.ts.length : Int) != 0) = true := by rw [bne, z1e]; rfl
    clear HF HT Hq HFI HIN
    go_wp2
    go_ret
    exact ⟨rfl, hb0⟩
  have z1e : (r.ts.length : Int) = 0 := Decidable.of_not_not z1
  by_cases z2 : ¬ (r.ds.length : Int) = 0
  case pos =>
    obtain rfl := HF.out (fun h => by have := (h.nocheck (by omega)).2.2; rw [this] at z2; exact z2 rfl)
    have z2e : ((r.ds.length : Int) == 0) = false := by rw [beq_eq_false_iff_ne]; exact z2
    have z2f : ((r.ds.length : Int) != 0) = true := by rw [bne, z2e]; rfl
    clear HF HT Hq HFI HIN
    go_wp2
    go_ret
    exact ⟨rfl, hb0⟩
  have z2e : (r.ds.length : Int) = 0 := Decidable.of_not_not z2
  obtain rfl := HT.out ⟨by omega, by omega, by omega, by unfold maxP; omega, fun h => absurd h (by omega), fun _ => ⟨by omega, by omega⟩, fun h => absurd h (by omega), fun _ => HCC.out, fun h => absurd h (by omega), fun _ => by omega, fun h => absurd h (by omega), fun _ => by omega, fun h => absurd h (by omega), fun _ => ⟨by omega, List.eq_nil_of_length_eq_zero (by omega), List.eq_nil_of_length_eq_zero (by omega)⟩⟩
  clear HF HT Hq HFI HIN HCC
  go_wp2
  go_ret
  exact ⟨rfl, hb0⟩

set_option maxRecDepth 8000 in
set_option maxHeartbeats 3200000 in
theorem rright6_8 (r : Rec) (va vb : Value) (w : World) (q : Bool) (Hq : Hid (q = true ↔ r.right)) (hk : r.k = 8) (hf : r.c.fits) (hin : RcIn w r va vb) :
    Calls Try.prog 29 #[.agg (rcA r va vb)] w fun e w' => e = .returned (.bool q) ∧ Below w.heap.size w w' := by
  have HIN := hide hin
  obtain ⟨⟨e1, cap1, rfl, -⟩, ⟨e2, cap2, rfl, -⟩⟩ := hin
  have HFI := hide hf
  clear hf
  have HK0 := hide (Keeps.one w 30 (rcA r (.slice e1 r.ts.length cap1) (.slice e2 r.ds.length cap2)))
  have HF : Hid (¬ r.right → q = false) := fun h => by
    cases q
    · rfl
    · exact absurd (Hq.out.1 rfl) h
  have HT : Hid (r.right → q = true) := fun h => Hq.out.2 h
  have HOW := hide (fun w => own_at r.k w false (hide (decide_eq_false (by omega))))
  rw [hk] at HOW
  by_cases l1 : (r.l : Int) < 1
  case pos =>
    obtain rfl := HF.out (fun h => by have := h.l1; omega)
    clear HF HT Hq HFI HIN
    obtain ⟨c0, c1, -⟩ := rc_cells HK0.out.1.1
    rw [hk] at c0
    have hb0 := HK0.out.2
    clear HK0 HOW
    go_enter Try.func29, Try.ntmps29
    go_wp2
    go_ret
    exact ⟨rfl, hb0⟩
  by_cases l2 : (4611686018427387904 : Int) < (r.l : Int)
  case pos =>
    obtain rfl := HF.out (fun h => by have := h.lm; unfold maxP at this; omega)
    clear HF HT Hq HFI HIN
    obtain ⟨c0, c1, -⟩ := rc_cells HK0.out.1.1
    rw [hk] at c0
    have hb0 := HK0.out.2
    clear HK0 HOW
    go_enter Try.func29, Try.ntmps29
    go_wp2
    go_ret
    exact ⟨rfl, hb0⟩
  obtain ⟨c0, c1, -⟩ := rc_cells HK0.out.1.1
  rw [hk] at c0
  go_enter Try.func29, Try.ntmps29
  go_wp2_with fail
  refine gen_calls (fun x => Hid (Keeps w x [(w.heap.size, 30, rcA r (.slice e1 r.ts.length cap1) (.slice e2 r.ds.length cap2))])) HK0 ?_
  clear HK0 c0 c1
  intro w0 HK0
  obtain ⟨c0, c1, c2, c3, c9, c10, c11, c12, c13⟩ := rc_cells HK0.out.1.1
  rw [hk] at c0
  have hb0 := HK0.out.2
  refine (HOW.out _).mono ?_
  rintro e w1 ⟨rfl, rfl⟩
  go_wp2_with fail
  refine (HOW.out _).mono ?_
  rintro e w1 ⟨rfl, rfl⟩
  clear HOW
  by_cases t1 : ¬ r.t = 0
  case pos =>
    obtain rfl := HF.out (fun h => t1 (h.none (by omega)).1)
    have t1e : (r.t == 0) = false := by rw [beq_eq_false_iff_ne]; exact t1
    have t1f : (r.t != 0) = true := by rw [bne, t1e]; rfl
    clear HF HT Hq HFI HIN
    clear HK0 c9 c10 c11 c12 c13
    go_wp2
    go_ret
    exact ⟨rfl, hb0⟩
  have t1e : r.t = 0 := Decidable.of_not_not t1
  by_cases p1 : ¬ (r.p : Int) = 0
  case pos =>
    obtain rfl := HF.out (fun h => by have := h.none (by omega); omega)
    have p1e : ((r.p : Int) == 0) = false := by rw [beq_eq_false_iff_ne]; exact p1
    have p1f : ((r.p : Int) != 0) = true := by rw [bne, p1e]; rfl
    clear HF HT Hq HFI HIN
    clear HK0 c9 c10 c11 c12 c13
    go_wp2
    go_ret
    exact ⟨rfl, hb0⟩
  have p1e : (r.p : Int) = 0 := Decidable.of_not_not p1
  obtain ⟨d4, d5, d6, d7, d8⟩ := rc_chg HK0.out.1.1
  by_cases f1 : r.c.k = 0
  case neg =>
    obtain rfl := HF.out (fun h => f1 (by rw [h.noch (by omega)]; rfl))
    clear HF HT Hq HFI HIN HK0
    go_wp2
    go_ret
    exact ⟨rfl, hb0⟩
  by_cases f2 : r.c.pg = 0
  case neg =>
    obtain rfl := HF.out (fun h => f2 (by rw [h.noch (by omega)]; rfl))
    clear HF HT Hq HFI HIN HK0
    go_wp2
    go_ret
    exact ⟨rfl, hb0⟩
  by_cases f3 : r.c.sl = 0
  case neg =>
    obtain rfl := HF.out (fun h => f3 (by rw [h.noch (by omega)]; rfl))
    clear HF HT Hq HFI HIN HK0
    go_wp2
    go_ret
    exact ⟨rfl, hb0⟩
  by_cases f4 : r.c.o.toList = []
  case neg =>
    obtain rfl := HF.out (fun h => f4 (by rw [h.noch (by omega)]; exact zero_list))
    clear HF HT Hq HFI HIN HK0
    go_wp2
    go_ret
    exact ⟨rfl, hb0⟩
  by_cases f5 : r.c.n.toList = []
  case neg =>
    obtain rfl := HF.out (fun h => f5 (by rw [h.noch (by omega)]; exact zero_list))
    clear HF HT Hq HFI HIN HK0
    go_wp2
    go_ret
    exact ⟨rfl, hb0⟩
  have HCC := hide (ch_zero r.c f1 f2 f3 f4 f5)
  by_cases n1 : ¬ (r.n : Int) = 0
  case pos =>
    obtain rfl := HF.out (fun h => by have := h.nonext (by omega); omega)
    have n1e : ((r.n : Int) == 0) = false := by rw [beq_eq_false_iff_ne]; exact n1
    have n1f : ((r.n : Int) != 0) = true := by rw [bne, n1e]; rfl
    clear HF HT Hq HFI HIN
    go_wp2
    go_ret
    exact ⟨rfl, hb0⟩
  have n1e : (r.n : Int) = 0 := Decidable.of_not_not n1
  by_cases s1 : ¬ r.s = 0
  case pos =>
    obtain rfl := HF.out (fun h => s1 (h.nosave (by omega)))
    have s1e : (r.s == 0) = false := by rw [beq_eq_false_iff_ne]; exact s1
    have s1f : (r.s != 0) = true := by rw [bne, s1e]; rfl
    clear HF HT Hq HFI HIN
    go_wp2
    go_ret
    exact ⟨rfl, hb0⟩
  have s1e : r.s = 0 := Decidable.of_not_not s1
  have HRW := hide (fun w hin => rows_at r (.slice e1 r.ts.length cap1) (.slice e2 r.ds.length cap2) w q (hide ⟨fun h => (Hq.out.1 h).check hk, fun h => HT.out ⟨by omega, by omega, by omega, by unfold maxP; omega, fun h => absurd h (by omega), fun _ => ⟨by omega, by omega⟩, fun h => absurd h (by omega), fun _ => HCC.out, fun h => absurd h (by omega), fun _ => by omega, fun h => absurd h (by omega), fun _ => by omega, fun _ => h, fun h2 => absurd hk h2⟩⟩) hin)
  clear HF HT Hq HFI HCC
  have hA : rcA r (.slice e1 r.ts.length cap1) (.slice e2 r.ds.length cap2) = #[.int .i64 8, .int .u64 (r.l : Int), .int .i64 0, .int .u64 0, .int .i64 0, .int .i64 0, .int .i64 0, .string r.c.o, .string r.c.n, .int .u64 0, .int .i64 0, .int .u64 (r.b : Int), .slice e1 r.ts.length cap1, .slice e2 r.ds.length cap2] := by
    unfold rcA
    rw [hk, t1e, p1e, f1, f2, f3, n1e, s1e]
  rw [hA] at HRW
  clear hA
  go_wp2_with fail
  refine (HRW.out _ (HIN.out.below HK0.out.2)).mono ?_
  rintro e w2 ⟨rfl, hb2⟩
  have d2 := hb0.trans (hb2.mono hb0.size)
  clear hb2 HK0 HIN c0 c1 c2 c3 c9 c10 c11 c12 c13
  go_wp2
  go_ret
  exact ⟨rfl, d2⟩

end Go.Proofs.Ytohdmmfmjadipaa

/-
  The contract of quaysideref06.Right, whole.
-/
namespace Go.Proofs.Ytohdmmfmjadipaa
open Go.RowKit
set_option linter.unusedVariables false

set_option maxRecDepth 8000 in
set_option maxHeartbeats 1600000 in
theorem rright6_no (r : Rec) (va vb : Value) (w : World) (hk : r.k < 1 ∨ 8 < r.k) :
    Calls Try.prog 29 #[.agg (rcA r va vb)] w fun e w' => e = .returned (.bool false) ∧ Below w.heap.size w w' := by
  have HK0 := hide (Keeps.one w 30 (rcA r va vb))
  obtain ⟨c0, -⟩ := rc_cells HK0.out.1.1
  have hb0 := HK0.out.2
  clear HK0
  generalize r.k = k at *
  by_cases h1 : k < 1
  · clear hk
    go_enter Try.func29, Try.ntmps29
    go_wp2
    go_ret
    exact ⟨rfl, hb0⟩
  · have h8 : 8 < k := by omega
    clear hk
    go_enter Try.func29, Try.ntmps29
    go_wp2
    go_ret
    exact ⟨rfl, hb0⟩

/-- THE CONTRACT. -/
theorem rright6_any (r : Rec) (va vb : Value) (w : World) (hf : r.c.fits) (hin : RcIn w r va vb) :
    Calls Try.prog 29 #[.agg (rcA r va vb)] w fun e w' => e = .returned (.bool r.rightB) ∧ Below w.heap.size w w' := by
  by_cases hk : r.k < 1 ∨ 8 < r.k
  · rw [rightB_no (fun h => by have := h.k1; have := h.k8; omega)]
    exact rright6_no r va vb w hk
  · have hq : Hid (r.rightB = true ↔ r.right) := rightB_iff
    by_cases h1 : r.k = 1
    · exact rright6_1 r va vb w _ hq h1 hf hin
    by_cases h2 : r.k = 2
    · exact rright6_2 r va vb w _ hq h2 hf hin
    by_cases h5 : r.k ≤ 5
    · exact rright6_345 r va vb w _ hq (by omega) h5 hf hin
    by_cases h6 : r.k = 6
    · exact rright6_6 r va vb w _ hq h6 hf hin
    by_cases h7 : r.k = 7
    · exact rright6_7 r va vb w _ hq h7 hf hin
    exact rright6_8 r va vb w _ hq (by omega) hf hin
end Go.Proofs.Ytohdmmfmjadipaa

/-
  The document's Decode: the reader, the record that is read, the answer.
-/
namespace Go.Proofs.Ytohdmmfmjadipaa
open Go.RowKit
set_option linter.unusedVariables false

def zrA : Array Value := #[.int .i64 0, .int .u64 0, .int .i64 0, .int .u64 0, .int .i64 0, .int .i64 0, .int .i64 0, .string ⟨#[]⟩, .string ⟨#[]⟩, .int .u64 0, .int .i64 0, .int .u64 0, .slice none 0 0, .slice none 0 0]
/-- Where these lie. -/
structure Lie (w : World) (gr g gx : Nat) : Prop where
  a : w.heap.size ≤ gr
  b : w.heap.size ≤ g
  c : w.heap.size ≤ gx
  d : gr ≠ g
  e : gx ≠ g
  f : gr ≠ gx
theorem own_type {y : World} {base n sz k : Nat} {e t : TypeId} {v : Value} {xs : List Value} {cs : Array Value} (h : y.ownsRow base e sz v n xs) (hr : RowAt y k t cs) (ht : t ≠ e) : v.ownBlock ≠ some k := fun hk => by
  rcases h.2 with ⟨h1, _⟩ | ⟨g, cap, cur, h1, h2, h3, -⟩
  · subst h1
    cases hk
  · subst h1
    simp only [Value.ownBlock, Option.some.injEq] at hk
    subst hk
    have h5 := hr.symm.trans h3
    simp only [Option.some.injEq, Obj.cells.injEq] at h5
    exact ht h5.2.1
theorem below_grown {w y z : World} {g : Nat} (h : Below w.heap.size w y) (hg : y.grownBy z (some g)) (hge : w.heap.size ≤ g) : Below w.heap.size w z :=
  ⟨hg.os.trans h.os, hg.tape.trans h.tape, hg.output.trans h.output, Nat.le_trans h.size hg.size, fun k hk => (hg.block k (Nat.lt_of_lt_of_le hk h.size) (fun e => by cases e; omega)).trans (h.block k hk)⟩
theorem has_other {y : World} {k j : Nat} {u : Value} : ∀ {l : List (Nat × TypeId × Array Value)}, Off k l → Has y l → Has (y.setCell ⟨k, j, none⟩ u) l
  | [], _, _ => trivial
  | e :: l, ha, hh => ⟨hh.1.other _ _ (ha e (by simp)), has_other (fun e he => ha e (by simp [he])) hh.2⟩
/-- What the answer is. -/
def Ans (w : World) (bs : List UInt8) (e : Ending) (w' : World) : Prop := (∃ va vb, e = .returned (.tuple #[.agg (rcA (decR bs).1 va vb), .int .i64 (decR bs).2]) ∧ GotIn w.heap.size w' (decR bs).1 va vb) ∧ Below w.heap.size w w'
theorem rright6_at' (r : Rec) (va vb : Value) (w : World) (q : Bool) (Hq : Hid (q = true ↔ r.right)) (hf : r.c.fits) (hin : RcIn w r va vb) :
    Calls Try.prog 29 #[.agg (rcA r va vb)] w fun e w' => e = .returned (.bool q) ∧ Below w.heap.size w w' := by
  have e : r.rightB = q := by
    have h1 := Hq.out
    have h2 := rightB_iff (r := r)
    cases q
    · cases h : r.rightB
      · rfl
      · exact absurd (h1.2 (h2.1 h)) (by simp)
    · exact h2.2 (h1.1 rfl)
  rw [← e]
  exact rright6_any r va vb w hf hin
theorem itS_add {α : Type} (p : St → α × St) : ∀ m n s, itS p (m + n) s = itS p n (itS p m s)
  | 0, n, s => by rw [Nat.zero_add]; rfl
  | m + 1, n, s => by
    rw [show m + 1 + n = (m + n) + 1 by omega]
    exact itS_add p m n (p s).2
theorem pin_good {s : St} (h : ¬ ((pNum 1 s).2.e = 0 ∧ ((pNum 1 s).1 < 1 ∨ 8 < (pNum 1 s).1))) : pIn 1 8 s = pNum 1 s := by
  unfold pIn
  rw [if_neg h]
/-- The cells of a row of zeros, and that none is frozen. -/
theorem row14 {y : World} {g : Nat} {t : TypeId} (h : RowAt y g t #[.int .i64 0, .int .u64 0, .int .i64 0, .int .u64 0, .int .i64 0, .int .i64 0, .int .i64 0, .string ⟨#[]⟩, .string ⟨#[]⟩, .int .u64 0, .int .i64 0, .int .u64 0, .slice none 0 0, .slice none 0 0]) : y.cell? ⟨g, 0, none⟩ = some (.int .i64 0) ∧ y.frozen? ⟨g, 0, none⟩ = false ∧ y.cell? ⟨g, 1, none⟩ = some (.int .u64 0) ∧ y.frozen? ⟨g, 1, none⟩ = false ∧ y.cell? ⟨g, 2, none⟩ = some (.int .i64 0) ∧ y.frozen? ⟨g, 2, none⟩ = false ∧ y.cell? ⟨g, 3, none⟩ = some (.int .u64 0) ∧ y.frozen? ⟨g, 3, none⟩ = false ∧ y.cell? ⟨g, 4, none⟩ = some (.int .i64 0) ∧ y.frozen? ⟨g, 4, none⟩ = false ∧ y.cell? ⟨g, 5, none⟩ = some (.int .i64 0) ∧ y.frozen? ⟨g, 5, none⟩ = false ∧ y.cell? ⟨g, 6, none⟩ = some (.int .i64 0) ∧ y.frozen? ⟨g, 6, none⟩ = false ∧ y.cell? ⟨g, 7, none⟩ = some (.string ⟨#[]⟩) ∧ y.frozen? ⟨g, 7, none⟩ = false ∧ y.cell? ⟨g, 8, none⟩ = some (.string ⟨#[]⟩) ∧ y.frozen? ⟨g, 8, none⟩ = false ∧ y.cell? ⟨g, 9, none⟩ = some (.int .u64 0) ∧ y.frozen? ⟨g, 9, none⟩ = false ∧ y.cell? ⟨g, 10, none⟩ = some (.int .i64 0) ∧ y.frozen? ⟨g, 10, none⟩ = false ∧ y.cell? ⟨g, 11, none⟩ = some (.int .u64 0) ∧ y.frozen? ⟨g, 11, none⟩ = false ∧ y.cell? ⟨g, 12, none⟩ = some (.slice none 0 0) ∧ y.frozen? ⟨g, 12, none⟩ = false ∧ y.cell? ⟨g, 13, none⟩ = some (.slice none 0 0) ∧ y.frozen? ⟨g, 13, none⟩ = false :=
  ⟨h.cell 0 _ rfl, h.free 0, h.cell 1 _ rfl, h.free 1, h.cell 2 _ rfl, h.free 2, h.cell 3 _ rfl, h.free 3, h.cell 4 _ rfl, h.free 4, h.cell 5 _ rfl, h.free 5, h.cell 6 _ rfl, h.free 6, h.cell 7 _ rfl, h.free 7, h.cell 8 _ rfl, h.free 8, h.cell 9 _ rfl, h.free 9, h.cell 10 _ rfl, h.free 10, h.cell 11 _ rfl, h.free 11, h.cell 12 _ rfl, h.free 12, h.cell 13 _ rfl, h.free 13⟩
theorem zero14 {w y : World} {gr B : Nat} {t : TypeId} (h : RowAt y gr t #[.int .i64 0, .int .u64 0, .int .i64 0, .int .u64 0, .int .i64 0, .int .i64 0, .int .i64 0, .string ⟨#[]⟩, .string ⟨#[]⟩, .int .u64 0, .int .i64 0, .int .u64 0, .slice none 0 0, .slice none 0 0]) (hb : Below B w y) (hB : B ≤ gr) : Hid (RowAt ((((((((((((((y.setCell ⟨gr, 0, none⟩ (.int .i64 0)).setCell ⟨gr, 1, none⟩ (.int .u64 0)).setCell ⟨gr, 2, none⟩ (.int .i64 0)).setCell ⟨gr, 3, none⟩ (.int .u64 0)).setCell ⟨gr, 4, none⟩ (.int .i64 0)).setCell ⟨gr, 5, none⟩ (.int .i64 0)).setCell ⟨gr, 6, none⟩ (.int .i64 0)).setCell ⟨gr, 7, none⟩ (.string ⟨#[]⟩)).setCell ⟨gr, 8, none⟩ (.string ⟨#[]⟩)).setCell ⟨gr, 9, none⟩ (.int .u64 0)).setCell ⟨gr, 10, none⟩ (.int .i64 0)).setCell ⟨gr, 11, none⟩ (.int .u64 0)).setCell ⟨gr, 12, none⟩ (.slice none 0 0)).setCell ⟨gr, 13, none⟩ (.slice none 0 0)) gr t #[.int .i64 0, .int .u64 0, .int .i64 0, .int .u64 0, .int .i64 0, .int .i64 0, .int .i64 0, .string ⟨#[]⟩, .string ⟨#[]⟩, .int .u64 0, .int .i64 0, .int .u64 0, .slice none 0 0, .slice none 0 0]) ∧ Hid (Below B w ((((((((((((((y.setCell ⟨gr, 0, none⟩ (.int .i64 0)).setCell ⟨gr, 1, none⟩ (.int .u64 0)).setCell ⟨gr, 2, none⟩ (.int .i64 0)).setCell ⟨gr, 3, none⟩ (.int .u64 0)).setCell ⟨gr, 4, none⟩ (.int .i64 0)).setCell ⟨gr, 5, none⟩ (.int .i64 0)).setCell ⟨gr, 6, none⟩ (.int .i64 0)).setCell ⟨gr, 7, none⟩ (.string ⟨#[]⟩)).setCell ⟨gr, 8, none⟩ (.string ⟨#[]⟩)).setCell ⟨gr, 9, none⟩ (.int .u64 0)).setCell ⟨gr, 10, none⟩ (.int .i64 0)).setCell ⟨gr, 11, none⟩ (.int .u64 0)).setCell ⟨gr, 12, none⟩ (.slice none 0 0)).setCell ⟨gr, 13, none⟩ (.slice none 0 0))) :=
  ⟨hide ((((((((((((((h.setSame 0 (.int .i64 0) rfl).setSame 1 (.int .u64 0) rfl).setSame 2 (.int .i64 0) rfl).setSame 3 (.int .u64 0) rfl).setSame 4 (.int .i64 0) rfl).setSame 5 (.int .i64 0) rfl).setSame 6 (.int .i64 0) rfl).setSame 7 (.string ⟨#[]⟩) rfl).setSame 8 (.string ⟨#[]⟩) rfl).setSame 9 (.int .u64 0) rfl).setSame 10 (.int .i64 0) rfl).setSame 11 (.int .u64 0) rfl).setSame 12 (.slice none 0 0) rfl).setSame 13 (.slice none 0 0) rfl), hide ((((((((((((((hb.set1 hB 0 (.int .i64 0)).set1 hB 1 (.int .u64 0)).set1 hB 2 (.int .i64 0)).set1 hB 3 (.int .u64 0)).set1 hB 4 (.int .i64 0)).set1 hB 5 (.int .i64 0)).set1 hB 6 (.int .i64 0)).set1 hB 7 (.string ⟨#[]⟩)).set1 hB 8 (.string ⟨#[]⟩)).set1 hB 9 (.int .u64 0)).set1 hB 10 (.int .i64 0)).set1 hB 11 (.int .u64 0)).set1 hB 12 (.slice none 0 0)).set1 hB 13 (.slice none 0 0))⟩
theorem genz {Q : World → Prop} {x w : World} {g B : Nat} {t : TypeId} {L : Array Value} (h1 : Hid (RowAt x g t L)) (h2 : Hid (Below B w x)) (k : ∀ y, Hid (RowAt y g t L) ∧ Hid (Below B w y) → Q y) : Q x := k x ⟨h1, h2⟩
end Go.Proofs.Ytohdmmfmjadipaa

/-
  The document's Decode: how its walk is cut.
-/
namespace Go.Proofs.Ytohdmmfmjadipaa
open Go.RowKit
set_option linter.unusedVariables false

/-- A place at which a walk halts. -/
def Halt (p : Prop) : Prop := p
theorem halt {p : Prop} (h : Halt p) : p := h
theorem unhalt {p : Prop} (h : p) : Halt p := h
/-- A store of one cell. -/
theorem wpList_store_one {P : Program} {ops : Array Oper} {rest : List Oper} {o : Oper} {a : Act} {w : World} {Q : Exit → Act → World → Prop} (hgd : o.guard = none) (t : TypeId) (x y : Operand) (ho : o.op = .store t x y) (b j : Nat) (u : Value) (hx : a.eval x = .pointer (some ⟨b, j, none⟩)) (hy : a.eval y = u)
    (hr : (Instr.storeAt t (.pointer (some ⟨b, j, none⟩)) u).run P w = .ok () (w.setCell ⟨b, j, none⟩ u)) (h : wpList P ops Q rest (a.put o.dst undef) (w.setCell ⟨b, j, none⟩ u)) : wpList P ops Q (o :: rest) a w :=
  wpList_plain hgd fun K hK => by
    unfold Oper.wp execOp
    simp only [ho, hx, hy, Sem.run_bind, hr, Result.andThen_ok, Sem.run_pure]
    exact hK _ _ h
end Go.Proofs.Ytohdmmfmjadipaa

/-
  The document's Decode: kinds 3, 4, 5, 7.
-/
namespace Go.Proofs.Ytohdmmfmjadipaa
open Go.RowKit
set_option linter.unusedVariables false

end Go.Proofs.Ytohdmmfmjadipaa
