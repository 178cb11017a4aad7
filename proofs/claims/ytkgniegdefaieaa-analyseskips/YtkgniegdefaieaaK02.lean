/-
  Texts that lean on one another, one behind the other: each opens with its own remark.
-/
import Derived.Test.YtkgniegdefaieaaProg
import Derived.WalkSpells
import Derived.Test.YtkgniegdefaieaaK00

namespace Go.Proofs.Ytkgniegdefaieaa
open Go.RowKit
set_option linter.unusedVariables false
set_option maxRecDepth 8000
set_option maxHeartbeats 25600000
theorem Qui (t : Int) (w : World) (q : Bool) (Hq : Hid (decide (1 <= t /\ t <= 1048575) = q)) :
    Calls Try.prog 92 #[.int .i64 t] w fun e w' => e = .returned (.bool q) /\ w = w' := by
  by_cases h1 : 1 <= t
  case neg =>
    obtain rfl : q = false := by rw [<- Hq.out]; exact decide_eq_false (fun h => by omega)
    clear Hq; go_enter Try.func92, Try.ntmps92; go_wp2; go_ret; exact ⟨by (first | rfl | (apply congrArg Ending.returned; apply congrArg Value.bool; first | (apply decide_eq_false; omega) | (apply decide_eq_true; omega))), rfl⟩
  by_cases h2 : t <= 1048575
  case neg =>
    obtain rfl : q = false := by rw [<- Hq.out]; exact decide_eq_false (fun h => by omega)
    clear Hq; go_enter Try.func92, Try.ntmps92; go_wp2; go_ret; exact ⟨by (first | rfl | (apply congrArg Ending.returned; apply congrArg Value.bool; first | (apply decide_eq_false; omega) | (apply decide_eq_true; omega))), rfl⟩
  obtain rfl : q = true := by rw [<- Hq.out]; exact decide_eq_true (by omega)
  clear Hq; go_enter Try.func92, Try.ntmps92; go_wp2; go_ret; exact ⟨by (first | rfl | (apply congrArg Ending.returned; apply congrArg Value.bool; first | (apply decide_eq_false; omega) | (apply decide_eq_true; omega))), rfl⟩
theorem Qvg (n l : Nat) (w : World) (q : Bool) (Hq : Hid (decide (1 <= n /\ n < l) = q)) :
    Calls Try.prog 79 #[.int .u64 (n : Int), .int .u64 (l : Int)] w fun e w' => e = .returned (.bool q) /\ w = w' := by
  by_cases h1 : (1 : Int) <= (n : Int)
  case neg =>
    obtain rfl : q = false := by rw [<- Hq.out]; exact decide_eq_false (fun h => by omega)
    clear Hq; go_enter Try.func79, Try.ntmps79; go_wp2; go_ret; exact ⟨by (first | rfl | (apply congrArg Ending.returned; apply congrArg Value.bool; first | (apply decide_eq_false; omega) | (apply decide_eq_true; omega))), rfl⟩
  by_cases h2 : (n : Int) < (l : Int)
  case neg =>
    obtain rfl : q = false := by rw [<- Hq.out]; exact decide_eq_false (fun h => by omega)
    clear Hq; go_enter Try.func79, Try.ntmps79; go_wp2; go_ret; exact ⟨by (first | rfl | (apply congrArg Ending.returned; apply congrArg Value.bool; first | (apply decide_eq_false; omega) | (apply decide_eq_true; omega))), rfl⟩
  obtain rfl : q = true := by rw [<- Hq.out]; exact decide_eq_true (by omega)
  clear Hq; go_enter Try.func79, Try.ntmps79; go_wp2; go_ret; exact ⟨by (first | rfl | (apply congrArg Ending.returned; apply congrArg Value.bool; first | (apply decide_eq_false; omega) | (apply decide_eq_true; omega))), rfl⟩
theorem Qad (r : Rec) (va vb : Value) (w : World) (q : Bool) (Hq : Hid (decide (1 <= r.t /\ r.t <= 1048575 /\ r.p < r.l) = q)) :
    Calls Try.prog 77 #[.agg (rcA r va vb)] w fun e w' => e = .returned (.bool q) /\ Below w.heap.size w w' := by
  have K0 := Qj.one w 46 (rcA r va vb); obtain ⟨-, c1, c2, c3, -⟩ := Qo K0.1.1; have hb0 := K0.2; clear K0; by_cases ht : 1 <= r.t /\ r.t <= 1048575
  case neg =>
    have H := Qb (fun w => Qui r.t w false (Qb (decide_eq_false ht))); obtain rfl : q = false := by rw [<- Hq.out]; exact decide_eq_false (fun h => ht ⟨h.1, h.2.1⟩)
    clear Hq ht; go_enter Try.func77, Try.ntmps77; go_wp2_with fail; refine (H.out _).mono ?_; rintro e w1 ⟨rfl, rfl⟩; clear H; go_wp2; go_ret; exact ⟨by (first | rfl | (apply congrArg Ending.returned; apply congrArg Value.bool; first | (apply decide_eq_false; omega) | (apply decide_eq_true; omega))), hb0⟩
  have H := Qb (fun w => Qui r.t w true (Qb (decide_eq_true ht))); by_cases h3 : (r.p : Int) < (r.l : Int)
  case neg =>
    obtain rfl : q = false := by rw [<- Hq.out]; exact decide_eq_false (fun h => by omega)
    clear Hq ht; go_enter Try.func77, Try.ntmps77; go_wp2_with fail; refine (H.out _).mono ?_; rintro e w1 ⟨rfl, rfl⟩; clear H; go_wp2; go_ret; exact ⟨by (first | rfl | (apply congrArg Ending.returned; apply congrArg Value.bool; first | (apply decide_eq_false; omega) | (apply decide_eq_true; omega))), hb0⟩
  obtain rfl : q = true := by rw [<- Hq.out]; exact decide_eq_true ⟨ht.1, ht.2, by omega⟩
  clear Hq ht; go_enter Try.func77, Try.ntmps77; go_wp2_with fail; refine (H.out _).mono ?_; rintro e w1 ⟨rfl, rfl⟩; clear H; go_wp2; go_ret; exact ⟨by (first | rfl | (apply congrArg Ending.returned; apply congrArg Value.bool; first | (apply decide_eq_false; omega) | (apply decide_eq_true; omega))), hb0⟩
def txOkB (l : Nat) (x : Tx) : Bool := @decide (Qav l x) (txOkD l x)
theorem txOkB_iff {l : Nat} {x : Tx} : txOkB l x = true ↔ Qav l x := by
  unfold txOkB; exact @decide_eq_true_iff _ (txOkD l x)
theorem Qrn (x : Tx) (l : Nat) (w : World) (q : Bool) (Hq : Hid (q = true ↔ Qav l x)) :
    Calls Try.prog 95 #[.agg (txA x), .int .u64 (l : Int)] w fun e w' => e = .returned (.bool q) /\ Below w.heap.size w w' := by
  have K0 := Qj.one w 42 (txA x); have c0 := K0.1.1.cell 0 (.int .i64 x.t) rfl; have c1 := K0.1.1.cell 1 (.int .i64 x.s) rfl; have c2 := K0.1.1.cell 2 (.int .u64 (x.f : Int)) rfl; have c3 := K0.1.1.cell 3 (.int .u64 (x.l : Int)) rfl; have c4 := K0.1.1.cell 4 (.int .u64 (x.n : Int)) rfl; have hb0 := K0.2; clear K0
  have HF : Hid (¬ Qav l x -> q = false) := fun h => by
    cases q
    · rfl
    · exact absurd (Hq.out.1 rfl) h
  have HT : Hid (Qav l x -> q = true) := fun h => Hq.out.2 h
  clear Hq; by_cases ht : 1 <= x.t /\ x.t <= 1048575
  case neg =>
    have H := Qb (fun w => Qui x.t w false (Qb (decide_eq_false ht))); obtain rfl := HF.out (fun h => ht ⟨h.1, h.2.1⟩); clear HF HT ht; generalize x.t = xt at *; generalize x.s = xs at *; generalize x.f = xf at *; generalize x.l = xl at *; generalize x.n = xn at *; go_enter Try.func95, Try.ntmps95; go_wp2_with fail; refine (H.out _).mono ?_; rintro e w1 ⟨rfl, rfl⟩; clear H; go_wp2; go_ret; exact ⟨by (first | rfl | (apply congrArg Ending.returned; apply congrArg Value.bool; first | (apply decide_eq_false; omega) | (apply decide_eq_true; omega))), hb0⟩
  have H := Qb (fun w => Qui x.t w true (Qb (decide_eq_true ht))); by_cases s1 : 1 <= x.s
  case neg =>
    obtain rfl := HF.out (fun h => by obtain ⟨h1, h2, h3, h4, h5, h6, h7, h8⟩ := h; omega); clear HF HT ht; generalize x.t = xt at *; generalize x.s = xs at *; generalize x.f = xf at *; generalize x.l = xl at *; generalize x.n = xn at *; go_enter Try.func95, Try.ntmps95; go_wp2_with fail; refine (H.out _).mono ?_; rintro e w1 ⟨rfl, rfl⟩; clear H; go_wp2; go_ret; exact ⟨by (first | rfl | (apply congrArg Ending.returned; apply congrArg Value.bool; first | (apply decide_eq_false; omega) | (apply decide_eq_true; omega))), hb0⟩
  by_cases s2 : x.s <= 3
  case neg =>
    obtain rfl := HF.out (fun h => by obtain ⟨h1, h2, h3, h4, h5, h6, h7, h8⟩ := h; omega); clear HF HT ht; generalize x.t = xt at *; generalize x.s = xs at *; generalize x.f = xf at *; generalize x.l = xl at *; generalize x.n = xn at *; go_enter Try.func95, Try.ntmps95; go_wp2_with fail; refine (H.out _).mono ?_; rintro e w1 ⟨rfl, rfl⟩; clear H; go_wp2; go_ret; exact ⟨by (first | rfl | (apply congrArg Ending.returned; apply congrArg Value.bool; first | (apply decide_eq_false; omega) | (apply decide_eq_true; omega))), hb0⟩
  by_cases f1 : (1 : Int) <= (x.f : Int)
  case neg =>
    obtain rfl := HF.out (fun h => by obtain ⟨h1, h2, h3, h4, h5, h6, h7, h8⟩ := h; omega); clear HF HT ht; generalize x.t = xt at *; generalize x.s = xs at *; generalize x.f = xf at *; generalize x.l = xl at *; generalize x.n = xn at *; go_enter Try.func95, Try.ntmps95; go_wp2_with fail; refine (H.out _).mono ?_; rintro e w1 ⟨rfl, rfl⟩; clear H; go_wp2; go_ret; exact ⟨by (first | rfl | (apply congrArg Ending.returned; apply congrArg Value.bool; first | (apply decide_eq_false; omega) | (apply decide_eq_true; omega))), hb0⟩
  by_cases f2 : (x.f : Int) <= (x.l : Int)
  case neg =>
    obtain rfl := HF.out (fun h => by obtain ⟨h1, h2, h3, h4, h5, h6, h7, h8⟩ := h; omega); clear HF HT ht; generalize x.t = xt at *; generalize x.s = xs at *; generalize x.f = xf at *; generalize x.l = xl at *; generalize x.n = xn at *; go_enter Try.func95, Try.ntmps95; go_wp2_with fail; refine (H.out _).mono ?_; rintro e w1 ⟨rfl, rfl⟩; clear H; go_wp2; go_ret; exact ⟨by (first | rfl | (apply congrArg Ending.returned; apply congrArg Value.bool; first | (apply decide_eq_false; omega) | (apply decide_eq_true; omega))), hb0⟩
  by_cases l1 : (x.l : Int) < (l : Int)
  case neg =>
    obtain rfl := HF.out (fun h => by obtain ⟨h1, h2, h3, h4, h5, h6, h7, h8⟩ := h; omega); clear HF HT ht; generalize x.t = xt at *; generalize x.s = xs at *; generalize x.f = xf at *; generalize x.l = xl at *; generalize x.n = xn at *; go_enter Try.func95, Try.ntmps95; go_wp2_with fail; refine (H.out _).mono ?_; rintro e w1 ⟨rfl, rfl⟩; clear H; go_wp2; go_ret; exact ⟨by (first | rfl | (apply congrArg Ending.returned; apply congrArg Value.bool; first | (apply decide_eq_false; omega) | (apply decide_eq_true; omega))), hb0⟩
  by_cases n1 : (x.n : Int) <= (x.l : Int)
  case neg =>
    obtain rfl := HF.out (fun h => by obtain ⟨h1, h2, h3, h4, h5, h6, h7, h8⟩ := h; omega); clear HF HT ht; generalize x.t = xt at *; generalize x.s = xs at *; generalize x.f = xf at *; generalize x.l = xl at *; generalize x.n = xn at *; go_enter Try.func95, Try.ntmps95; go_wp2_with fail; refine (H.out _).mono ?_; rintro e w1 ⟨rfl, rfl⟩; clear H; go_wp2; go_ret; exact ⟨by (first | rfl | (apply congrArg Ending.returned; apply congrArg Value.bool; first | (apply decide_eq_false; omega) | (apply decide_eq_true; omega))), hb0⟩
  obtain rfl := HT.out ⟨ht.1, ht.2, s1, s2, by omega, by omega, by omega, by omega⟩; clear HF HT ht; generalize x.t = xt at *; generalize x.s = xs at *; generalize x.f = xf at *; generalize x.l = xl at *; generalize x.n = xn at *; go_enter Try.func95, Try.ntmps95; go_wp2_with fail; refine (H.out _).mono ?_; rintro e w1 ⟨rfl, rfl⟩; clear H; go_wp2; go_ret; exact ⟨by (first | rfl | (apply congrArg Ending.returned; apply congrArg Value.bool; first | (apply decide_eq_false; omega) | (apply decide_eq_true; omega))), hb0⟩
theorem Qpr (va : Value) (xs : List Tx) (l : Nat) (w : World) (q : Bool) (Hq : Hid (q = true ↔ xs.length <= 16 /\ ∀ i, i < xs.length -> txAt l xs i)) (hin : Qxb w va xs) :
    Calls Try.prog 80 #[va, .int .u64 (l : Int)] w fun e w' => e = .returned (.bool q) /\ Below w.heap.size w w' := by
  have HIN := Qb hin; obtain ⟨a1, cap1, rfl, -⟩ := hin; have hb0 := Below.refl w.heap.size w
  have HF : Hid (¬ (xs.length <= 16 /\ ∀ i, i < xs.length -> txAt l xs i) -> q = false) := fun h => by
    cases q
    · rfl
    · exact absurd (Hq.out.1 rfl) h
  have HT : Hid (xs.length <= 16 /\ (∀ i, i < xs.length -> txAt l xs i) -> q = true) := fun h => Hq.out.2 h
  clear Hq; by_cases hm : 16 < xs.length
  case pos =>
    obtain rfl := HF.out (fun h => by have := h.1; omega); have i1 : (16 : Int) < (xs.length : Int) := by omega
    clear HF HT HIN; generalize xs.length = n1 at *; go_enter Try.func80, Try.ntmps80; go_wp2; go_ret; exact ⟨rfl, hb0⟩
  have i1 : ¬ (16 : Int) < (xs.length : Int) := by omega
  go_enter Try.func80, Try.ntmps80; go_wp2; go_loopw [13, 5] (fun v u wr => ∃ j : Nat, j <= xs.length /\ v = .int .i64 j /\ (∃ p : Int, u = .int .i64 p /\ (j = 0 -> p = 0) /\ (0 < j -> p = (xs.getD (j - 1) Tx.zero).t)) /\ Below w.heap.size w wr /\ ∀ i, i < j -> txAt l xs i) (fun v _ _ => xs.length - (intOf v).toNat)
  case atStart => exact ⟨0, Nat.zero_le _, rfl, ⟨0, rfl, fun _ => rfl, fun h => absurd h (by omega)⟩, Below.refl _ _, fun i hi => absurd hi (by omega)⟩
  case round =>
    obtain ⟨j, hj, rfl, ⟨p, rfl, hp0, hp1⟩, hb, hat⟩ := hrel; have HAT := Qb hat; have HB := Qb hb; have HP0 := Qb hp0; have HP1 := Qb hp1; clear hat hb hb0 hp0 hp1; by_cases hlt : j < xs.length
    case neg =>
      obtain rfl : j = xs.length := by omega
      obtain rfl := HT.out ⟨by omega, HAT.out⟩; have d3 := HB.out; clear HF HT HAT HIN HB HP0 HP1; go_wp2; go_ret; exact ⟨rfl, d3⟩
    have jlt : (j : Int) < (xs.length : Int) := by omega
    obtain ⟨u1, k1, e1, hrow1⟩ := HIN.out.below HB.out; cases e1; obtain ⟨b, off, rfl, -, hc⟩ := hrow1 (by omega); have HRG := Qb (hc j hlt); clear hrow1 hc; obtain ⟨x, hx⟩ : ∃ x, x = xs.getD j Tx.zero := ⟨_, rfl⟩; have HX := Qb hx; rw [<- hx] at HRG; clear hx; go_wp2_with (first | (refine Qlb rfl 42 (.tmp 15) rfl b (off + j * 5) (txA x) rfl HRG.out _ Try.underlying42 rfl Qno ?_) | (refine Qh rfl 42 (.tmp 7) (.tmp 16) rfl wr.heap.size (txA Tx.zero) (txA x) rfl rfl (Qa.new wr 42 (txA Tx.zero)) Qno rfl (Qrm _) ?_)); intro w2 hr2 hk2 _; have HB2 := Qb (HB.out.trans ((hk2 _ _ ((Below.refl wr.heap.size wr).alloc (Nat.le_refl _) _) (Nat.le_refl _)).mono HB.out.size)); have HR2 := Qb hr2; clear hr2 hk2 HB HRG; generalize wr.heap.size = g at *; have c0 := HR2.out.cell 0 (.int .i64 x.t) rfl; by_cases t1 : x.t <= p
    case pos =>
      obtain rfl := HF.out (fun h => by
        have h2 := h.2 j hlt; unfold txAt at h2; rw [<- HX.out] at h2
        by_cases h0 : j = 0
        · have := HP0.out h0; have := h2.1.1; omega
        · have := HP1.out (by omega); have := h2.2 (by omega)
          omega)
      have d3 := HB2.out; clear HF HT HAT HIN HB2 HP0 HP1 HX HR2; generalize x.t = xt at *; go_wp2; go_ret; exact ⟨rfl, d3⟩
    have c1 := HR2.out.cell 1 (.int .i64 x.s) rfl; have c2 := HR2.out.cell 2 (.int .u64 (x.f : Int)) rfl; have c3 := HR2.out.cell 3 (.int .u64 (x.l : Int)) rfl; have c4 := HR2.out.cell 4 (.int .u64 (x.n : Int)) rfl; by_cases ok : Qav l x
    case neg =>
      obtain rfl := HF.out (fun h => ok (by have h2 := (h.2 j hlt).1; rwa [<- HX.out] at h2)); have H := Qb (fun w => Qrn x l w false (Qb ⟨fun h => (nomatch h), fun h => absurd h ok⟩)); have d3 := HB2.out; clear HF HT HAT HIN HB2 HP0 HP1 HX HR2 ok; go_wp2_with fail; refine (H.out _).mono ?_; rintro e w3 ⟨rfl, hb3⟩; have d4 := d3.trans (hb3.mono d3.size); clear hb3 d3 H c0 c1 c2 c3 c4; go_wp2; go_ret; exact ⟨rfl, d4⟩
    have H := Qb (fun w => Qrn x l w true (Qb ⟨fun _ => ok, fun _ => rfl⟩)); have HOK := Qb ok; clear ok; go_wp2_with fail; refine (H.out _).mono ?_; rintro e w3 ⟨rfl, hb3⟩; have HB3 := Qb (HB2.out.trans (hb3.mono HB2.out.size)); have d0 := (HR2.out.later hb3).cell 0 (.int .i64 x.t) rfl; clear hb3 H c0 c1 c2 c3 c4 HR2 HB2; go_wp2; go_roundw
    case rel =>
      refine ⟨j + 1, by omega, by go_num, ⟨x.t, rfl, fun h => absurd h (by omega), fun _ => by rw [HX.out]; rfl⟩, HB3.out, Qxd HAT.out ⟨by rw [<- HX.out]; exact HOK.out, fun h => ?_⟩⟩; rw [<- HX.out, <- HP1.out h]; omega
    case measure => simp [intOf]; omega
theorem rdirty_at (va : Value) (xs : List Di) (l : Nat) (w : World) (q : Bool) (Hq : Hid (q = true ↔ xs.length <= 32 /\ ∀ i, i < xs.length -> Qhv l xs i)) (hin : Qxc w va xs) :
    Calls Try.prog 81 #[va, .int .u64 (l : Int)] w fun e w' => e = .returned (.bool q) /\ Below w.heap.size w w' := by
  have HIN := Qb hin; obtain ⟨a1, cap1, rfl, -⟩ := hin; have hb0 := Below.refl w.heap.size w
  have HF : Hid (¬ (xs.length <= 32 /\ ∀ i, i < xs.length -> Qhv l xs i) -> q = false) := fun h => by
    cases q
    · rfl
    · exact absurd (Hq.out.1 rfl) h
  have HT : Hid (xs.length <= 32 /\ (∀ i, i < xs.length -> Qhv l xs i) -> q = true) := fun h => Hq.out.2 h
  clear Hq; by_cases hm : 32 < xs.length
  case pos =>
    obtain rfl := HF.out (fun h => by have := h.1; omega); have i1 : (32 : Int) < (xs.length : Int) := by omega
    clear HF HT HIN; generalize xs.length = n1 at *; go_enter Try.func81, Try.ntmps81; go_wp2; go_ret; exact ⟨rfl, hb0⟩
  have i1 : ¬ (32 : Int) < (xs.length : Int) := by omega
  go_enter Try.func81, Try.ntmps81; go_wp2; go_loopw [13, 5] (fun v u wr => ∃ j : Nat, j <= xs.length /\ v = .int .i64 j /\ (∃ p : Int, u = .int .i64 p /\ (j = 0 -> p = -1) /\ (0 < j -> p = (xs.getD (j - 1) Di.zero).p)) /\ Below w.heap.size w wr /\ ∀ i, i < j -> Qhv l xs i) (fun v _ _ => xs.length - (intOf v).toNat)
  case atStart => exact ⟨0, Nat.zero_le _, rfl, ⟨-1, rfl, fun _ => rfl, fun h => absurd h (by omega)⟩, Below.refl _ _, fun i hi => absurd hi (by omega)⟩
  case round =>
    obtain ⟨j, hj, rfl, ⟨p, rfl, hp0, hp1⟩, hb, hat⟩ := hrel; have HAT := Qb hat; have HB := Qb hb; have HP0 := Qb hp0; have HP1 := Qb hp1; clear hat hb hb0 hp0 hp1; by_cases hlt : j < xs.length
    case neg =>
      obtain rfl : j = xs.length := by omega
      obtain rfl := HT.out ⟨by omega, HAT.out⟩; have d3 := HB.out; clear HF HT HAT HIN HB HP0 HP1; go_wp2; go_ret; exact ⟨rfl, d3⟩
    have jlt : (j : Int) < (xs.length : Int) := by omega
    obtain ⟨u1, k1, e1, hrow1⟩ := HIN.out.below HB.out; cases e1; obtain ⟨b, off, rfl, -, hc⟩ := hrow1 (by omega); have HRG := Qb (hc j hlt); clear hrow1 hc; obtain ⟨x, hx⟩ : ∃ x, x = xs.getD j Di.zero := ⟨_, rfl⟩; have HX := Qb hx; rw [<- hx] at HRG; clear hx; go_wp2_with (first | (refine Qlb rfl 81 (.tmp 15) rfl b (off + j * 2) (diA x) rfl HRG.out _ Try.underlying81 rfl Qpn ?_) | (refine Qh rfl 81 (.tmp 7) (.tmp 16) rfl wr.heap.size (diA Di.zero) (diA x) rfl rfl (Qa.new wr 81 (diA Di.zero)) Qpn rfl (Qqq _) ?_)); intro w2 hr2 hk2 _; have HB2 := Qb (HB.out.trans ((hk2 _ _ ((Below.refl wr.heap.size wr).alloc (Nat.le_refl _) _) (Nat.le_refl _)).mono HB.out.size)); have HR2 := Qb hr2; clear hr2 hk2 HB HRG; generalize wr.heap.size = g at *; have c0 := HR2.out.cell 0 (.int .i64 x.p) rfl; have c1 := HR2.out.cell 1 (.int .u64 (x.r : Int)) rfl; by_cases t1 : x.p <= p
    case pos =>
      obtain rfl := HF.out (fun h => by
        have h2 := h.2 j hlt; unfold Qhv at h2; rw [<- HX.out] at h2
        by_cases h0 : j = 0
        · have := HP0.out h0; have := h2.1.1; omega
        · have := HP1.out (by omega); have := h2.2 (by omega)
          omega)
      have d3 := HB2.out; clear HF HT HAT HIN HB2 HP0 HP1 HX HR2; generalize x.p = xp at *; generalize x.r = xr at *; go_wp2; go_ret; exact ⟨rfl, d3⟩
    by_cases t2 : 32 <= x.p
    case pos =>
      obtain rfl := HF.out (fun h => by
        have h2 := (h.2 j hlt).1.2.1; rw [<- HX.out] at h2
        omega)
      have d3 := HB2.out; clear HF HT HAT HIN HB2 HP0 HP1 HX HR2; generalize x.p = xp at *; generalize x.r = xr at *; go_wp2; go_ret; exact ⟨rfl, d3⟩
    by_cases ok : 1 <= x.r /\ x.r < l
    case neg =>
      obtain rfl := HF.out (fun h => ok (by have h2 := (h.2 j hlt).1.2.2; rwa [<- HX.out] at h2)); have H := Qb (fun w => Qvg x.r l w false (Qb (decide_eq_false ok))); have d3 := HB2.out; clear HF HT HAT HIN HB2 HP0 HP1 HX HR2 ok; go_wp2_with fail; refine (H.out _).mono ?_; rintro e w3 ⟨rfl, rfl⟩; clear H c0 c1; go_wp2; go_ret; exact ⟨rfl, d3⟩
    have H := Qb (fun w => Qvg x.r l w true (Qb (decide_eq_true ok))); have HOK := Qb ok; clear ok; go_wp2_with fail; refine (H.out _).mono ?_; rintro e w3 ⟨rfl, rfl⟩; clear H HR2 c1; go_wp2; go_roundw
    case rel =>
      have hp : 0 <= x.p := by
        by_cases h0 : j = 0
        · have := HP0.out h0; omega
        · have h1 := (HAT.out (j - 1) (by omega)).1.1; rw [<- HP1.out (by omega)] at h1; omega
      refine ⟨j + 1, by omega, by go_num, ⟨x.p, rfl, fun h => absurd h (by omega), fun _ => by rw [HX.out]; rfl⟩, HB2.out, Qxd HAT.out ⟨by rw [<- HX.out]; exact ⟨hp, by omega, HOK.out⟩, fun h => ?_⟩⟩; rw [<- HX.out, <- HP1.out h]; omega
    case measure => simp [intOf]; omega
abbrev Qer (pg sl : Int) : Prop := 0 <= pg /\ pg <= 31 /\ 0 <= sl /\ sl <= 7
theorem Qbm (pg sl : Int) (w : World) (r : Bool) (Hr : Hid (decide (Qer pg sl) = r)) :
    Calls Try.prog 93 #[.int .i64 pg, .int .i64 sl] w fun e w' => e = .returned (.bool r) /\ w = w' := by
  by_cases h1 : 0 <= pg
  · by_cases h2 : pg < 32
    · by_cases h3 : 0 <= sl
      · by_cases h4 : sl < 8
        · obtain rfl : r = true := by rw [<- Hr.out]; exact decide_eq_true ⟨h1, by omega, h3, by omega⟩
          clear Hr; go_enter Try.func93, Try.ntmps93; go_wp2; go_ret; exact ⟨rfl, rfl⟩
        · obtain rfl : r = false := by rw [<- Hr.out]; exact decide_eq_false (fun h => by omega)
          clear Hr; go_enter Try.func93, Try.ntmps93; go_wp2; go_ret; exact ⟨rfl, rfl⟩
      · obtain rfl : r = false := by rw [<- Hr.out]; exact decide_eq_false (fun h => by omega)
        clear Hr; go_enter Try.func93, Try.ntmps93; go_wp2; go_ret; exact ⟨rfl, rfl⟩
    · obtain rfl : r = false := by rw [<- Hr.out]; exact decide_eq_false (fun h => by omega)
      clear Hr; go_enter Try.func93, Try.ntmps93; go_wp2; go_ret; exact ⟨rfl, rfl⟩
  · obtain rfl : r = false := by rw [<- Hr.out]; exact decide_eq_false (fun h => by omega)
    clear Hr; go_enter Try.func93, Try.ntmps93; go_wp2; go_ret; exact ⟨rfl, rfl⟩
theorem place_any (pg sl : Int) (w : World) :
    Calls Try.prog 93 #[.int .i64 pg, .int .i64 sl] w fun e w' => e = .returned (.bool (decide (Qer pg sl))) /\ w = w' := Qbm pg sl w _ (Qb rfl)
theorem kind_at (c : Ch) (w : World) (r : Bool) (Hr : Hid (decide c.kindOk = r)) :
    Calls Try.prog 94 #[.agg (chA c)] w fun e w' => e = .returned (.bool r) /\ Below w.heap.size w w' := by
  have hb0 : Below w.heap.size w (w.alloc (.cells (chA c) 44)) := (Below.refl _ _).alloc (Nat.le_refl _) _; obtain ⟨a0, a1, a2, a3, a4⟩ := Qve.all (show Qve (w.alloc (.cells (chA c) 44)) w.heap.size c from heap_alloc_new w _); clear a1 a2
  by_cases k1 : c.k = 1
  · obtain rfl : c.o.toList.isEmpty = r := by
      rw [<- Hr.out, Bool.eq_iff_iff, Qkd, decide_eq_true_eq]; exact ⟨fun h => .inl ⟨k1, h⟩, fun h => by rcases h with h | h | h <;> omega⟩
    rw [k1] at a0; clear Hr k1; go_enter Try.func94, Try.ntmps94; generalize c.o = o at *; go_wp2; go_ret; exact ⟨rfl, hb0⟩
  · by_cases k3 : c.k = 3
    · obtain rfl : c.n.toList.isEmpty = r := by
        rw [<- Hr.out, Bool.eq_iff_iff, Qkd, decide_eq_true_eq]; exact ⟨fun h => .inr (.inr ⟨k3, h⟩), fun h => by rcases h with h | h | h <;> omega⟩
      rw [k3] at a0; clear Hr k1 k3; go_enter Try.func94, Try.ntmps94; generalize c.n = n at *; go_wp2; go_ret; exact ⟨rfl, hb0⟩
    · by_cases k2 : c.k = 2
      · obtain rfl : r = true := by rw [<- Hr.out]; exact decide_eq_true (.inr (.inl k2))
        rw [k2] at a0; clear Hr k1 k2 k3; go_enter Try.func94, Try.ntmps94; go_wp2; go_ret; exact ⟨rfl, hb0⟩
      · obtain rfl : r = false := by
          rw [<- Hr.out]; exact decide_eq_false (fun h => by rcases h with h | h | h <;> omega)
        have j1 : (c.k == 1) = false := by simpa using k1
        have j2 : (c.k == 2) = false := by simpa using k2
        have j3 : (c.k == 3) = false := by simpa using k3
        clear Hr k1 k2 k3; go_enter Try.func94, Try.ntmps94; generalize c.k = k at *; go_wp2; go_ret; exact ⟨rfl, hb0⟩
theorem kind_any (c : Ch) (w : World) :
    Calls Try.prog 94 #[.agg (chA c)] w fun e w' => e = .returned (.bool (decide c.kindOk)) /\ Below w.heap.size w w' := kind_at c w _ (Qb rfl)
theorem Qmg (c : Ch) (w : World) (r : Bool) (Hr : Hid (decide c.right = r)) :
    Calls Try.prog 78 #[.agg (chA c)] w fun e w' => e = .returned (.bool r) /\ Below w.heap.size w w' := by
  have hb0 : Below w.heap.size w (w.alloc (.cells (chA c) 44)) := (Below.refl _ _).alloc (Nat.le_refl _) _; have hc0 : Qve (w.alloc (.cells (chA c) 44)) w.heap.size c := heap_alloc_new w _; obtain ⟨a0, a1, a2, a3, a4⟩ := hc0.all; have HC := Qb hc0; clear a0 hc0
  by_cases hpl : Qer c.pg c.sl
  · have HP := Qb (fun w => Qbm c.pg c.sl w true (Qb (decide_eq_true hpl)))
    by_cases h1 : (c.o.size : Int) <= 20
    · by_cases h2 : (c.n.size : Int) <= 20
      · have HK := Qb (fun w => kind_at c w r (Qb (by
          rw [<- Hr.out]
          exact decide_eq_decide.2 ⟨fun h => ⟨⟨hpl.1, hpl.2.1, hpl.2.2.1, hpl.2.2.2, by omega, by omega⟩, h⟩, fun h => h.2⟩)))
        clear Hr hpl; go_enter Try.func78, Try.ntmps78; go_wp2_with fail; refine (HP.out _).mono ?_; rintro e w1 ⟨rfl, rfl⟩; go_wp2_with (refine Qd rfl 44 (.tmp 1) rfl w.heap.size rfl (chA c) HC.out _ Try.underlying44 rfl Qdi ?_); refine (HK.out _).mono ?_; rintro e w2 ⟨rfl, hb2⟩; have d2 := hb0.trans (hb2.mono hb0.size); clear hb2 HC HK HP a1 a2 a3 a4 hb0 h1 h2; go_wp2; go_ret; exact ⟨rfl, d2⟩
      · obtain rfl : r = false := by rw [<- Hr.out]; exact decide_eq_false (fun h => by have := h.1; omega)
        clear Hr hpl; go_enter Try.func78, Try.ntmps78; go_wp2_with fail; refine (HP.out _).mono ?_; rintro e w1 ⟨rfl, rfl⟩; clear HP; go_wp2; go_ret; exact ⟨rfl, hb0⟩
    · obtain rfl : r = false := by rw [<- Hr.out]; exact decide_eq_false (fun h => by have := h.1; omega)
      clear Hr hpl; go_enter Try.func78, Try.ntmps78; go_wp2_with fail; refine (HP.out _).mono ?_; rintro e w1 ⟨rfl, rfl⟩; clear HP; go_wp2; go_ret; exact ⟨rfl, hb0⟩
  · have HP := Qb (fun w => Qbm c.pg c.sl w false (Qb (decide_eq_false hpl))); obtain rfl : r = false := by rw [<- Hr.out]; exact decide_eq_false (fun h => hpl ⟨h.1.1, h.1.2.1, h.1.2.2.1, h.1.2.2.2.1⟩)
    clear Hr hpl; go_enter Try.func78, Try.ntmps78; go_wp2_with fail; refine (HP.out _).mono ?_; rintro e w1 ⟨rfl, rfl⟩; clear HP; go_wp2; go_ret; exact ⟨rfl, hb0⟩
theorem cright_any (c : Ch) (w : World) :
    Calls Try.prog 78 #[.agg (chA c)] w fun e w' => e = .returned (.bool (decide c.right)) /\ Below w.heap.size w w' := Qmg c w _ (Qb rfl)
def Rec.uses (r : Rec) : Prop := 1 <= r.k /\ r.k <= 8 /\ (r.k <= 6 -> 1 <= r.t /\ r.t <= 1048575 /\ r.p < r.l) /\ (r.k <= 2 -> r.c.right) /\ (r.k = 2 -> r.n < r.l) /\ (r.k = 6 -> 1 <= r.s /\ r.s <= 8) /\ (r.k = 8 -> r.rows)
def Rec.used (r : Rec) : Rec := ⟨r.k, r.l, if r.k <= 6 then r.t else 0, if r.k <= 6 then r.p else 0, if r.k <= 2 then r.c else Ch.zero, if r.k = 2 then r.n else 0, if r.k = 6 then r.s else 0, if r.k = 8 then r.b else 0, if r.k = 8 then r.ts else [], if r.k = 8 then r.ds else []⟩
theorem Qqh {r : Rec} : r.right ↔ 1 <= r.l /\ r.l <= Qtd /\ r.uses /\ r = r.used := by
  constructor
  · intro h; refine ⟨h.l1, h.lm, ⟨h.k1, h.k8, h.own, h.ch, h.next, h.save, h.check⟩, ?_⟩; have h1 := h.none; have h2 := h.noch; have h3 := h.nonext; have h4 := h.nosave; have h5 := h.nocheck; obtain ⟨k, l, t, p, c, n, s, b, ts, ds⟩ := r; simp only at h1 h2 h3 h4 h5; unfold Rec.used; simp only [Rec.mk.injEq, true_and]
    refine ⟨?_, ?_, ?_, ?_, ?_, ?_, ?_, ?_⟩
    · by_cases hk : k <= 6
      · rw [if_pos hk]
      · rw [if_neg hk]; exact (h1 (by omega)).1
    · by_cases hk : k <= 6
      · rw [if_pos hk]
      · rw [if_neg hk]; exact (h1 (by omega)).2
    · by_cases hk : k <= 2
      · rw [if_pos hk]
      · rw [if_neg hk]; exact h2 (by omega)
    · by_cases hk : k = 2
      · rw [if_pos hk]
      · rw [if_neg hk]; exact h3 hk
    · by_cases hk : k = 6
      · rw [if_pos hk]
      · rw [if_neg hk]; exact h4 hk
    · by_cases hk : k = 8
      · rw [if_pos hk]
      · rw [if_neg hk]; exact (h5 hk).1
    · by_cases hk : k = 8
      · rw [if_pos hk]
      · rw [if_neg hk]; exact (h5 hk).2.1
    · by_cases hk : k = 8
      · rw [if_pos hk]
      · rw [if_neg hk]; exact (h5 hk).2.2
  · rintro ⟨h1, h2, ⟨u1, u2, u3, u4, u5, u6, u7⟩, he⟩
    refine ⟨u1, u2, h1, h2, u3, fun hk => ?_, u4, fun hk => ?_, u5, fun hk => ?_, u6, fun hk => ?_, u7, fun hk => ?_⟩
    · constructor
      · rw [he]; show (if r.k <= 6 then r.t else 0) = 0; rw [if_neg (by omega)]
      · rw [he]; show (if r.k <= 6 then r.p else 0) = 0; rw [if_neg (by omega)]
    · rw [he]; show (if r.k <= 2 then r.c else Ch.zero) = Ch.zero; rw [if_neg (by omega)]
    · rw [he]; show (if r.k = 2 then r.n else 0) = 0; rw [if_neg hk]
    · rw [he]; show (if r.k = 6 then r.s else 0) = 0; rw [if_neg hk]
    · refine ⟨?_, ?_, ?_⟩
      · rw [he]; show (if r.k = 8 then r.b else 0) = 0; rw [if_neg hk]
      · rw [he]; show (if r.k = 8 then r.ts else []) = []; rw [if_neg hk]
      · rw [he]; show (if r.k = 8 then r.ds else []) = []; rw [if_neg hk]
theorem Qdf {a b : Int} (h : ¬ a = b) : (a == b) = false := by rw [beq_eq_false_iff_ne]; exact h
theorem uses_1 (r : Rec) (va vb : Value) (w : World) (q : Bool) (Hq : Hid (q = true ↔ r.uses)) (hin : Qwb w r va vb) (hk : r.k = 1) :
    Calls Try.prog 61 #[.agg (rcA r va vb)] w fun e w' => e = .returned (.bool q) /\ Below w.heap.size w w' := by
  have HIN := Qb hin; obtain ⟨⟨e1, cap1, rfl, -⟩, ⟨e2, cap2, rfl, -⟩⟩ := hin; have HK0 := Qb (Qj.one w 46 (rcA r (.slice e1 r.ts.length cap1) (.slice e2 r.ds.length cap2)))
  have HF : Hid (¬ r.uses -> q = false) := fun h => by
    cases q
    · rfl
    · exact absurd (Hq.out.1 rfl) h
  have HT : Hid (r.uses -> q = true) := fun h => Hq.out.2 h
  clear Hq; have c0 := HK0.out.1.1.cell 0 (.int .i64 r.k) rfl; rw [hk] at c0; by_cases ho : 1 <= r.t /\ r.t <= 1048575 /\ r.p < r.l
  case neg =>
    have HO := Qb (fun w => Qad r (.slice e1 r.ts.length cap1) (.slice e2 r.ds.length cap2) w false (Qb (decide_eq_false ho))); obtain rfl := HF.out (fun h => ho (h.2.2.1 (by omega))); clear ho; go_enter Try.func61, Try.ntmps61; go_wp2_with (refine Qd rfl 46 (.tmp 1) rfl w.heap.size rfl _ HK0.out.1.1 _ Try.underlying46 rfl Qaa ?_); refine (HO.out _).mono ?_; rintro e w1 ⟨rfl, hb1⟩; have HK1 := Qb (HK0.out.later hb1); clear HO HK0 hb1 c0; have d := HK1.out.2; clear HK1 HF HT HIN; go_wp2; go_ret; exact ⟨by first | rfl | (apply congrArg Ending.returned; apply congrArg Value.bool; first | (apply decide_eq_false; omega) | (apply decide_eq_true; omega)), d⟩
  have HO := Qb (fun w => Qad r (.slice e1 r.ts.length cap1) (.slice e2 r.ds.length cap2) w true (Qb (decide_eq_true ho))); have HOW := Qb ho; clear ho; go_enter Try.func61, Try.ntmps61; go_wp2_with (refine Qd rfl 46 (.tmp 1) rfl w.heap.size rfl _ HK0.out.1.1 _ Try.underlying46 rfl Qaa ?_); refine (HO.out _).mono ?_; rintro e w1 ⟨rfl, hb1⟩; have HK1 := Qb (HK0.out.later hb1); clear HO HK0 hb1 c0; obtain ⟨d4, d5, d6, d7, d8⟩ := Qwd HK1.out.1.1
  have HR := Qb (fun w => Qmg r.c w q (Qb (by
    by_cases hc : r.c.right
    · rw [HT.out ⟨by omega, by omega, fun _ => HOW.out, fun _ => hc, fun h => absurd h (by omega), fun h => absurd h (by omega), fun h => absurd h (by omega)⟩]; exact decide_eq_true hc
    · rw [HF.out (fun h => hc (h.2.2.2.1 (by omega)))]
      exact decide_eq_false hc)))
  go_wp2_with fail; refine (HR.out _).mono ?_; rintro e w2 ⟨rfl, hb2⟩; have d := (HK1.out.later hb2).2; clear HR HK1 HF HT HIN hb2 HOW d4 d5 d6 d7 d8; go_wp2; go_ret; exact ⟨rfl, d⟩
theorem uses_2 (r : Rec) (va vb : Value) (w : World) (q : Bool) (Hq : Hid (q = true ↔ r.uses)) (hin : Qwb w r va vb) (hk : r.k = 2) :
    Calls Try.prog 61 #[.agg (rcA r va vb)] w fun e w' => e = .returned (.bool q) /\ Below w.heap.size w w' := by
  have HIN := Qb hin; obtain ⟨⟨e1, cap1, rfl, -⟩, ⟨e2, cap2, rfl, -⟩⟩ := hin; have HK0 := Qb (Qj.one w 46 (rcA r (.slice e1 r.ts.length cap1) (.slice e2 r.ds.length cap2)))
  have HF : Hid (¬ r.uses -> q = false) := fun h => by
    cases q
    · rfl
    · exact absurd (Hq.out.1 rfl) h
  have HT : Hid (r.uses -> q = true) := fun h => Hq.out.2 h
  clear Hq; have c0 := HK0.out.1.1.cell 0 (.int .i64 r.k) rfl; rw [hk] at c0; by_cases ho : 1 <= r.t /\ r.t <= 1048575 /\ r.p < r.l
  case neg =>
    have HO := Qb (fun w => Qad r (.slice e1 r.ts.length cap1) (.slice e2 r.ds.length cap2) w false (Qb (decide_eq_false ho))); obtain rfl := HF.out (fun h => ho (h.2.2.1 (by omega))); clear ho; go_enter Try.func61, Try.ntmps61; go_wp2_with (refine Qd rfl 46 (.tmp 1) rfl w.heap.size rfl _ HK0.out.1.1 _ Try.underlying46 rfl Qaa ?_); refine (HO.out _).mono ?_; rintro e w1 ⟨rfl, hb1⟩; have HK1 := Qb (HK0.out.later hb1); clear HO HK0 hb1 c0; have d := HK1.out.2; clear HK1 HF HT HIN; go_wp2; go_ret; exact ⟨by first | rfl | (apply congrArg Ending.returned; apply congrArg Value.bool; first | (apply decide_eq_false; omega) | (apply decide_eq_true; omega)), d⟩
  have HO := Qb (fun w => Qad r (.slice e1 r.ts.length cap1) (.slice e2 r.ds.length cap2) w true (Qb (decide_eq_true ho))); have HOW := Qb ho; clear ho; go_enter Try.func61, Try.ntmps61; go_wp2_with (refine Qd rfl 46 (.tmp 1) rfl w.heap.size rfl _ HK0.out.1.1 _ Try.underlying46 rfl Qaa ?_); refine (HO.out _).mono ?_; rintro e w1 ⟨rfl, hb1⟩; have HK1 := Qb (HK0.out.later hb1); clear HO HK0 hb1 c0; obtain ⟨d4, d5, d6, d7, d8⟩ := Qwd HK1.out.1.1; by_cases hc : r.c.right
  case neg =>
    have HR := Qb (fun w => Qmg r.c w false (Qb (decide_eq_false hc))); obtain rfl := HF.out (fun h => hc (h.2.2.2.1 (by omega))); clear hc; go_wp2_with fail; refine (HR.out _).mono ?_; rintro e w2 ⟨rfl, hb2⟩; have d := (HK1.out.later hb2).2; clear HR HK1 HF HT HIN hb2 HOW d4 d5 d6 d7 d8; go_wp2; go_ret; exact ⟨rfl, d⟩
  have HR := Qb (fun w => Qmg r.c w true (Qb (decide_eq_true hc))); have HC := Qb hc; clear hc; go_wp2_with fail; refine (HR.out _).mono ?_; rintro e w2 ⟨rfl, hb2⟩; have HK2 := Qb (HK1.out.later hb2); clear HR HK1 hb2 d4 d5 d6 d7 d8; have c1 := HK2.out.1.1.cell 1 (.int .u64 (r.l : Int)) rfl; have c9 := HK2.out.1.1.cell 9 (.int .u64 (r.n : Int)) rfl; have d := HK2.out.2; by_cases hn : (r.n : Int) < (r.l : Int)
  case neg =>
    obtain rfl := HF.out (fun h => by have := h.2.2.2.2.1 hk; omega); clear HK2 HF HT HIN HOW HC; go_wp2; go_ret; exact ⟨by first | rfl | (apply congrArg Ending.returned; apply congrArg Value.bool; apply decide_eq_false; omega), d⟩
  obtain rfl := HT.out ⟨by omega, by omega, fun _ => HOW.out, fun _ => HC.out, fun _ => by omega, fun h => absurd h (by omega), fun h => absurd h (by omega)⟩; clear HK2 HF HT HIN HOW HC; go_wp2; go_ret; exact ⟨by first | rfl | (apply congrArg Ending.returned; apply congrArg Value.bool; apply decide_eq_true; omega), d⟩
theorem uses_3 (r : Rec) (va vb : Value) (w : World) (q : Bool) (Hq : Hid (q = true ↔ r.uses)) (hin : Qwb w r va vb) (hk : r.k = 3) :
    Calls Try.prog 61 #[.agg (rcA r va vb)] w fun e w' => e = .returned (.bool q) /\ Below w.heap.size w w' := by
  have HIN := Qb hin; obtain ⟨⟨e1, cap1, rfl, -⟩, ⟨e2, cap2, rfl, -⟩⟩ := hin; have HK0 := Qb (Qj.one w 46 (rcA r (.slice e1 r.ts.length cap1) (.slice e2 r.ds.length cap2)))
  have HF : Hid (¬ r.uses -> q = false) := fun h => by
    cases q
    · rfl
    · exact absurd (Hq.out.1 rfl) h
  have HT : Hid (r.uses -> q = true) := fun h => Hq.out.2 h
  clear Hq; have c0 := HK0.out.1.1.cell 0 (.int .i64 r.k) rfl; rw [hk] at c0; by_cases ho : 1 <= r.t /\ r.t <= 1048575 /\ r.p < r.l
  case neg =>
    have HO := Qb (fun w => Qad r (.slice e1 r.ts.length cap1) (.slice e2 r.ds.length cap2) w false (Qb (decide_eq_false ho))); obtain rfl := HF.out (fun h => ho (h.2.2.1 (by omega))); clear ho; go_enter Try.func61, Try.ntmps61; go_wp2_with (refine Qd rfl 46 (.tmp 1) rfl w.heap.size rfl _ HK0.out.1.1 _ Try.underlying46 rfl Qaa ?_); refine (HO.out _).mono ?_; rintro e w1 ⟨rfl, hb1⟩; have HK1 := Qb (HK0.out.later hb1); clear HO HK0 hb1 c0; have d := HK1.out.2; clear HK1 HF HT HIN; go_wp2; go_ret; exact ⟨by first | rfl | (apply congrArg Ending.returned; apply congrArg Value.bool; first | (apply decide_eq_false; omega) | (apply decide_eq_true; omega)), d⟩
  have HO := Qb (fun w => Qad r (.slice e1 r.ts.length cap1) (.slice e2 r.ds.length cap2) w true (Qb (decide_eq_true ho))); have HOW := Qb ho; clear ho; obtain rfl := HT.out ⟨by omega, by omega, fun _ => HOW.out, fun h => absurd h (by omega), fun h => absurd h (by omega), fun h => absurd h (by omega), fun h => absurd h (by omega)⟩; go_enter Try.func61, Try.ntmps61; go_wp2_with (refine Qd rfl 46 (.tmp 1) rfl w.heap.size rfl _ HK0.out.1.1 _ Try.underlying46 rfl Qaa ?_); refine (HO.out _).mono ?_; rintro e w1 ⟨rfl, hb1⟩; have HK1 := Qb (HK0.out.later hb1); clear HO HK0 hb1 c0; have d := HK1.out.2; clear HK1 HF HT HIN; go_wp2; go_ret; exact ⟨by first | rfl | (apply congrArg Ending.returned; apply congrArg Value.bool; first | (apply decide_eq_false; omega) | (apply decide_eq_true; omega)), d⟩
theorem uses_4 (r : Rec) (va vb : Value) (w : World) (q : Bool) (Hq : Hid (q = true ↔ r.uses)) (hin : Qwb w r va vb) (hk : r.k = 4) :
    Calls Try.prog 61 #[.agg (rcA r va vb)] w fun e w' => e = .returned (.bool q) /\ Below w.heap.size w w' := by
  have HIN := Qb hin; obtain ⟨⟨e1, cap1, rfl, -⟩, ⟨e2, cap2, rfl, -⟩⟩ := hin; have HK0 := Qb (Qj.one w 46 (rcA r (.slice e1 r.ts.length cap1) (.slice e2 r.ds.length cap2)))
  have HF : Hid (¬ r.uses -> q = false) := fun h => by
    cases q
    · rfl
    · exact absurd (Hq.out.1 rfl) h
  have HT : Hid (r.uses -> q = true) := fun h => Hq.out.2 h
  clear Hq; have c0 := HK0.out.1.1.cell 0 (.int .i64 r.k) rfl; rw [hk] at c0; by_cases ho : 1 <= r.t /\ r.t <= 1048575 /\ r.p < r.l
  case neg =>
    have HO := Qb (fun w => Qad r (.slice e1 r.ts.length cap1) (.slice e2 r.ds.length cap2) w false (Qb (decide_eq_false ho))); obtain rfl := HF.out (fun h => ho (h.2.2.1 (by omega))); clear ho; go_enter Try.func61, Try.ntmps61; go_wp2_with (refine Qd rfl 46 (.tmp 1) rfl w.heap.size rfl _ HK0.out.1.1 _ Try.underlying46 rfl Qaa ?_); refine (HO.out _).mono ?_; rintro e w1 ⟨rfl, hb1⟩; have HK1 := Qb (HK0.out.later hb1); clear HO HK0 hb1 c0; have d := HK1.out.2; clear HK1 HF HT HIN; go_wp2; go_ret; exact ⟨by first | rfl | (apply congrArg Ending.returned; apply congrArg Value.bool; first | (apply decide_eq_false; omega) | (apply decide_eq_true; omega)), d⟩
  have HO := Qb (fun w => Qad r (.slice e1 r.ts.length cap1) (.slice e2 r.ds.length cap2) w true (Qb (decide_eq_true ho))); have HOW := Qb ho; clear ho; obtain rfl := HT.out ⟨by omega, by omega, fun _ => HOW.out, fun h => absurd h (by omega), fun h => absurd h (by omega), fun h => absurd h (by omega), fun h => absurd h (by omega)⟩; go_enter Try.func61, Try.ntmps61; go_wp2_with (refine Qd rfl 46 (.tmp 1) rfl w.heap.size rfl _ HK0.out.1.1 _ Try.underlying46 rfl Qaa ?_); refine (HO.out _).mono ?_; rintro e w1 ⟨rfl, hb1⟩; have HK1 := Qb (HK0.out.later hb1); clear HO HK0 hb1 c0; have d := HK1.out.2; clear HK1 HF HT HIN; go_wp2; go_ret; exact ⟨by first | rfl | (apply congrArg Ending.returned; apply congrArg Value.bool; first | (apply decide_eq_false; omega) | (apply decide_eq_true; omega)), d⟩
theorem uses_5 (r : Rec) (va vb : Value) (w : World) (q : Bool) (Hq : Hid (q = true ↔ r.uses)) (hin : Qwb w r va vb) (hk : r.k = 5) :
    Calls Try.prog 61 #[.agg (rcA r va vb)] w fun e w' => e = .returned (.bool q) /\ Below w.heap.size w w' := by
  have HIN := Qb hin; obtain ⟨⟨e1, cap1, rfl, -⟩, ⟨e2, cap2, rfl, -⟩⟩ := hin; have HK0 := Qb (Qj.one w 46 (rcA r (.slice e1 r.ts.length cap1) (.slice e2 r.ds.length cap2)))
  have HF : Hid (¬ r.uses -> q = false) := fun h => by
    cases q
    · rfl
    · exact absurd (Hq.out.1 rfl) h
  have HT : Hid (r.uses -> q = true) := fun h => Hq.out.2 h
  clear Hq; have c0 := HK0.out.1.1.cell 0 (.int .i64 r.k) rfl; rw [hk] at c0; by_cases ho : 1 <= r.t /\ r.t <= 1048575 /\ r.p < r.l
  case neg =>
    have HO := Qb (fun w => Qad r (.slice e1 r.ts.length cap1) (.slice e2 r.ds.length cap2) w false (Qb (decide_eq_false ho))); obtain rfl := HF.out (fun h => ho (h.2.2.1 (by omega))); clear ho; go_enter Try.func61, Try.ntmps61; go_wp2_with (refine Qd rfl 46 (.tmp 1) rfl w.heap.size rfl _ HK0.out.1.1 _ Try.underlying46 rfl Qaa ?_); refine (HO.out _).mono ?_; rintro e w1 ⟨rfl, hb1⟩; have HK1 := Qb (HK0.out.later hb1); clear HO HK0 hb1 c0; have d := HK1.out.2; clear HK1 HF HT HIN; go_wp2; go_ret; exact ⟨by first | rfl | (apply congrArg Ending.returned; apply congrArg Value.bool; first | (apply decide_eq_false; omega) | (apply decide_eq_true; omega)), d⟩
  have HO := Qb (fun w => Qad r (.slice e1 r.ts.length cap1) (.slice e2 r.ds.length cap2) w true (Qb (decide_eq_true ho))); have HOW := Qb ho; clear ho; obtain rfl := HT.out ⟨by omega, by omega, fun _ => HOW.out, fun h => absurd h (by omega), fun h => absurd h (by omega), fun h => absurd h (by omega), fun h => absurd h (by omega)⟩; go_enter Try.func61, Try.ntmps61; go_wp2_with (refine Qd rfl 46 (.tmp 1) rfl w.heap.size rfl _ HK0.out.1.1 _ Try.underlying46 rfl Qaa ?_); refine (HO.out _).mono ?_; rintro e w1 ⟨rfl, hb1⟩; have HK1 := Qb (HK0.out.later hb1); clear HO HK0 hb1 c0; have d := HK1.out.2; clear HK1 HF HT HIN; go_wp2; go_ret; exact ⟨by first | rfl | (apply congrArg Ending.returned; apply congrArg Value.bool; first | (apply decide_eq_false; omega) | (apply decide_eq_true; omega)), d⟩
theorem uses_6 (r : Rec) (va vb : Value) (w : World) (q : Bool) (Hq : Hid (q = true ↔ r.uses)) (hin : Qwb w r va vb) (hk : r.k = 6) :
    Calls Try.prog 61 #[.agg (rcA r va vb)] w fun e w' => e = .returned (.bool q) /\ Below w.heap.size w w' := by
  have HIN := Qb hin; obtain ⟨⟨e1, cap1, rfl, -⟩, ⟨e2, cap2, rfl, -⟩⟩ := hin; have HK0 := Qb (Qj.one w 46 (rcA r (.slice e1 r.ts.length cap1) (.slice e2 r.ds.length cap2)))
  have HF : Hid (¬ r.uses -> q = false) := fun h => by
    cases q
    · rfl
    · exact absurd (Hq.out.1 rfl) h
  have HT : Hid (r.uses -> q = true) := fun h => Hq.out.2 h
  clear Hq; have c0 := HK0.out.1.1.cell 0 (.int .i64 r.k) rfl; rw [hk] at c0; by_cases ho : 1 <= r.t /\ r.t <= 1048575 /\ r.p < r.l
  case neg =>
    have HO := Qb (fun w => Qad r (.slice e1 r.ts.length cap1) (.slice e2 r.ds.length cap2) w false (Qb (decide_eq_false ho))); obtain rfl := HF.out (fun h => ho (h.2.2.1 (by omega))); clear ho; go_enter Try.func61, Try.ntmps61; go_wp2_with (refine Qd rfl 46 (.tmp 1) rfl w.heap.size rfl _ HK0.out.1.1 _ Try.underlying46 rfl Qaa ?_); refine (HO.out _).mono ?_; rintro e w1 ⟨rfl, hb1⟩; have HK1 := Qb (HK0.out.later hb1); clear HO HK0 hb1 c0; have d := HK1.out.2; clear HK1 HF HT HIN; go_wp2; go_ret; exact ⟨by first | rfl | (apply congrArg Ending.returned; apply congrArg Value.bool; first | (apply decide_eq_false; omega) | (apply decide_eq_true; omega)), d⟩
  have HO := Qb (fun w => Qad r (.slice e1 r.ts.length cap1) (.slice e2 r.ds.length cap2) w true (Qb (decide_eq_true ho))); have HOW := Qb ho; clear ho; go_enter Try.func61, Try.ntmps61; go_wp2_with (refine Qd rfl 46 (.tmp 1) rfl w.heap.size rfl _ HK0.out.1.1 _ Try.underlying46 rfl Qaa ?_); refine (HO.out _).mono ?_; rintro e w1 ⟨rfl, hb1⟩; have HK1 := Qb (HK0.out.later hb1); clear HO HK0 hb1 c0; have c10 := HK1.out.1.1.cell 10 (.int .i64 r.s) rfl; by_cases s1 : 1 <= r.s
  case neg =>
    obtain rfl := HF.out (fun h => by have := h.2.2.2.2.2.1 hk; omega); have d := HK1.out.2; clear HK1 HF HT HIN; go_wp2; go_ret; exact ⟨by first | rfl | (apply congrArg Ending.returned; apply congrArg Value.bool; first | (apply decide_eq_false; omega) | (apply decide_eq_true; omega)), d⟩
  by_cases s2 : r.s <= 8
  case neg =>
    obtain rfl := HF.out (fun h => by have := h.2.2.2.2.2.1 hk; omega); have d := HK1.out.2; clear HK1 HF HT HIN; go_wp2; go_ret; exact ⟨by first | rfl | (apply congrArg Ending.returned; apply congrArg Value.bool; first | (apply decide_eq_false; omega) | (apply decide_eq_true; omega)), d⟩
  obtain rfl := HT.out ⟨by omega, by omega, fun _ => HOW.out, fun h => absurd h (by omega), fun h => absurd h (by omega), fun _ => ⟨s1, s2⟩, fun h => absurd h (by omega)⟩; have d := HK1.out.2; clear HK1 HF HT HIN; go_wp2; go_ret; exact ⟨by first | rfl | (apply congrArg Ending.returned; apply congrArg Value.bool; first | (apply decide_eq_false; omega) | (apply decide_eq_true; omega)), d⟩
theorem uses_7 (r : Rec) (va vb : Value) (w : World) (q : Bool) (Hq : Hid (q = true ↔ r.uses)) (hin : Qwb w r va vb) (hk : r.k = 7) :
    Calls Try.prog 61 #[.agg (rcA r va vb)] w fun e w' => e = .returned (.bool q) /\ Below w.heap.size w w' := by
  have HIN := Qb hin; obtain ⟨⟨e1, cap1, rfl, -⟩, ⟨e2, cap2, rfl, -⟩⟩ := hin; have HK0 := Qb (Qj.one w 46 (rcA r (.slice e1 r.ts.length cap1) (.slice e2 r.ds.length cap2)))
  have HF : Hid (¬ r.uses -> q = false) := fun h => by
    cases q
    · rfl
    · exact absurd (Hq.out.1 rfl) h
  have HT : Hid (r.uses -> q = true) := fun h => Hq.out.2 h
  clear Hq; have c0 := HK0.out.1.1.cell 0 (.int .i64 r.k) rfl; rw [hk] at c0; obtain rfl := HT.out ⟨by omega, by omega, fun h => absurd h (by omega), fun h => absurd h (by omega), fun h => absurd h (by omega), fun h => absurd h (by omega), fun h => absurd h (by omega)⟩; have d := HK0.out.2; clear HK0 HF HT HIN; go_enter Try.func61, Try.ntmps61; go_wp2; go_ret; exact ⟨rfl, d⟩
theorem uses_8 (r : Rec) (va vb : Value) (w : World) (q : Bool) (Hq : Hid (q = true ↔ r.uses)) (hin : Qwb w r va vb) (hk : r.k = 8) :
    Calls Try.prog 61 #[.agg (rcA r va vb)] w fun e w' => e = .returned (.bool q) /\ Below w.heap.size w w' := by
  have HIN := Qb hin; obtain ⟨⟨e1, cap1, rfl, -⟩, ⟨e2, cap2, rfl, -⟩⟩ := hin; have HK0 := Qb (Qj.one w 46 (rcA r (.slice e1 r.ts.length cap1) (.slice e2 r.ds.length cap2)))
  have HF : Hid (¬ r.uses -> q = false) := fun h => by
    cases q
    · rfl
    · exact absurd (Hq.out.1 rfl) h
  have HT : Hid (r.uses -> q = true) := fun h => Hq.out.2 h
  clear Hq; have c0 := HK0.out.1.1.cell 0 (.int .i64 r.k) rfl; rw [hk] at c0; have c1 := HK0.out.1.1.cell 1 (.int .u64 (r.l : Int)) rfl; have c11 := HK0.out.1.1.cell 11 (.int .u64 (r.b : Int)) rfl; by_cases hb : 1 <= r.b /\ r.b < r.l
  case neg =>
    have HW := Qb (fun w => Qvg r.b r.l w false (Qb (decide_eq_false hb))); obtain rfl := HF.out (fun h => hb ((h.2.2.2.2.2.2 hk).2.2.2.2)); clear hb; go_enter Try.func61, Try.ntmps61; go_wp2_with fail; refine (HW.out _).mono ?_; rintro e w1 ⟨rfl, rfl⟩; have d := HK0.out.2; clear HK0 HF HT HIN HW; go_wp2; go_ret; exact ⟨rfl, d⟩
  have HW := Qb (fun w => Qvg r.b r.l w true (Qb (decide_eq_true hb))); have HBG := Qb hb; clear hb; have c12 := HK0.out.1.1.cell 12 (.slice e1 r.ts.length cap1) rfl; go_enter Try.func61, Try.ntmps61; go_wp2_with fail; refine (HW.out _).mono ?_; rintro e w1 ⟨rfl, rfl⟩; clear HW; go_wp2_with fail; refine Qwc (fun x => Hid (Qj w x [(w.heap.size, 46, rcA r (.slice e1 r.ts.length cap1) (.slice e2 r.ds.length cap2))])) HK0 ?_; clear HK0 c0 c1 c11 c12; intro x0 HK0; by_cases ht : r.ts.length <= 16 /\ ∀ i, i < r.ts.length -> txAt r.l r.ts i
  case neg =>
    obtain rfl := HF.out (fun h => ht ⟨(h.2.2.2.2.2.2 hk).1, (h.2.2.2.2.2.2 hk).2.2.1⟩); refine (Qpr _ r.ts r.l x0 false (Qb ⟨fun h => (nomatch h), fun h => absurd h ht⟩) (HIN.out.below HK0.out.2).1).mono ?_; rintro e w2 ⟨rfl, hb2⟩; have d := (HK0.out.later hb2).2; clear HK0 HF HT HIN hb2 ht HBG; go_wp2; go_ret; exact ⟨rfl, d⟩
  refine (Qpr _ r.ts r.l x0 true (Qb ⟨fun _ => ht, fun _ => rfl⟩) (HIN.out.below HK0.out.2).1).mono ?_; rintro e w2 ⟨rfl, hb2⟩; have HK2 := Qb (HK0.out.later hb2); have HTX := Qb ht; clear HK0 hb2 ht; have c1 := HK2.out.1.1.cell 1 (.int .u64 (r.l : Int)) rfl; have c13 := HK2.out.1.1.cell 13 (.slice e2 r.ds.length cap2) rfl
  have HQ2 : Hid (q = true ↔ r.ds.length <= 32 /\ ∀ i, i < r.ds.length -> Qhv r.l r.ds i) := by
    constructor
    · intro h
      by_cases hd : r.ds.length <= 32 /\ ∀ i, i < r.ds.length -> Qhv r.l r.ds i
      · exact hd
      · rw [HF.out (fun h => hd ⟨(h.2.2.2.2.2.2 hk).2.1, (h.2.2.2.2.2.2 hk).2.2.2.1⟩)] at h; cases h
    · intro hd; exact HT.out ⟨by omega, by omega, fun h => absurd h (by omega), fun h => absurd h (by omega), fun h => absurd h (by omega), fun h => absurd h (by omega), fun _ => ⟨HTX.out.1, hd.1, HTX.out.2, hd.2, HBG.out.1, HBG.out.2⟩⟩
  go_wp2_with fail; refine (rdirty_at _ r.ds r.l w2 q HQ2 (HIN.out.below HK2.out.2).2).mono ?_; rintro e w3 ⟨rfl, hb3⟩; have d := (HK2.out.later hb3).2; clear HK2 HF HT HIN hb3 HTX HBG HQ2 c1 c13; go_wp2; go_ret; exact ⟨rfl, d⟩
theorem uses_no (r : Rec) (va vb : Value) (w : World) (q : Bool) (Hq : Hid (q = true ↔ r.uses)) (hin : Qwb w r va vb) (hk : r.k < 1 ∨ 8 < r.k) :
    Calls Try.prog 61 #[.agg (rcA r va vb)] w fun e w' => e = .returned (.bool q) /\ Below w.heap.size w w' := by
  have HIN := Qb hin; obtain ⟨⟨e1, cap1, rfl, -⟩, ⟨e2, cap2, rfl, -⟩⟩ := hin; have HK0 := Qb (Qj.one w 46 (rcA r (.slice e1 r.ts.length cap1) (.slice e2 r.ds.length cap2)))
  have HF : Hid (¬ r.uses -> q = false) := fun h => by
    cases q
    · rfl
    · exact absurd (Hq.out.1 rfl) h
  have HT : Hid (r.uses -> q = true) := fun h => Hq.out.2 h
  clear Hq; have c0 := HK0.out.1.1.cell 0 (.int .i64 r.k) rfl; have n1 := Qdf (a := r.k) (b := 1) (by omega); have n2 := Qdf (a := r.k) (b := 2) (by omega); have n3 := Qdf (a := r.k) (b := 3) (by omega); have n4 := Qdf (a := r.k) (b := 4) (by omega); have n5 := Qdf (a := r.k) (b := 5) (by omega); have n6 := Qdf (a := r.k) (b := 6) (by omega); have n7 := Qdf (a := r.k) (b := 7) (by omega); have n8 := Qdf (a := r.k) (b := 8) (by omega); obtain rfl := HF.out (fun h => by have := h.1; have := h.2.1; omega); have d := HK0.out.2; clear HK0 HF HT HIN hk; go_enter Try.func61, Try.ntmps61; go_wp2; go_ret; exact ⟨rfl, d⟩
theorem Qds (r : Rec) (va vb : Value) (w : World) (q : Bool) (Hq : Hid (q = true ↔ r.uses)) (hin : Qwb w r va vb) :
    Calls Try.prog 61 #[.agg (rcA r va vb)] w fun e w' => e = .returned (.bool q) /\ Below w.heap.size w w' := by
  by_cases hk : r.k < 1 ∨ 8 < r.k
  · exact uses_no r va vb w q Hq hin hk
  by_cases h1 : r.k = 1
  · exact uses_1 r va vb w q Hq hin h1
  by_cases h2 : r.k = 2
  · exact uses_2 r va vb w q Hq hin h2
  by_cases h3 : r.k = 3
  · exact uses_3 r va vb w q Hq hin h3
  by_cases h4 : r.k = 4
  · exact uses_4 r va vb w q Hq hin h4
  by_cases h5 : r.k = 5
  · exact uses_5 r va vb w q Hq hin h5
  by_cases h6 : r.k = 6
  · exact uses_6 r va vb w q Hq hin h6
  by_cases h7 : r.k = 7
  · exact uses_7 r va vb w q Hq hin h7
  exact uses_8 r va vb w q Hq hin (by omega)
section
section
variable {P : Program}
theorem Qgq {fn : Func} {p : Tmp} {t : TypeId} (h : fn.results = #[.cell p t]) (tmps : Array Value) (P : Program) (w : World) :
    (results fn tmps).run P w = ((asAddr (tmps.getD p undef)).run P w).andThen fun a w₁ => (loadVar t a).run P w₁ := by
  simp only [results, h]; simp [Sem.run_bind, Result.andThen]
theorem Qdb {fn : Func} {p : Tmp} {t : TypeId} (h : fn.results = #[.cell p t]) (tmps : Array Value) (w : World) (g : Nat) (cs : Array Value) (d : TypeDesc) (hp : tmps.getD p undef = .pointer (some ⟨g, 0, none⟩)) (hg : Qa w g t cs)
    (hu : P.underlying t = some d) (hd : (match d with | .struct _ | .array _ _ => true | _ => false) = true) (hi : (P.info? t).map (·.size) = some cs.size) :
    (results fn tmps).run P w = .ok (.agg cs) w := by
  have h1 := run_loadVar_row (P := P) w g t t cs (0, 0) d hg hu hd hi; rw [Qgq h, hp]; simp only [asAddr, Sem.run_pure, Result.andThen_ok, h1]
end
end
theorem Qj.setTop {w x : World} {g : Nat} {t : TypeId} {cs : Array Value} {l : List (Nat × TypeId × Array Value)} (h : Qj w x ((g, t, cs) :: l)) (hg : w.heap.size <= g) (hl : ∀ e ∈ l, e.1 ≠ g) (j : Nat) (v : Value) : Qj w (x.setCell ⟨g, j, none⟩ v) ((g, t, cs.setIfInBounds j v) :: l) := by
  refine ⟨⟨h.1.1.set j v, ?_⟩, h.2.setCell hg v⟩
  have : ∀ l : List (Nat × TypeId × Array Value), (∀ e ∈ l, e.1 ≠ g) -> Has x l -> Has (x.setCell ⟨g, j, none⟩ v) l := by
    intro l
    induction l with
    | nil => exact fun _ _ => trivial
    | cons e l ih => exact fun hl hh => ⟨hh.1.other _ _ (hl e (by simp)), ih (fun e he => hl e (by simp [he])) hh.2⟩
  exact this l hl h.1.2
theorem row_there {w : World} {g : Nat} {t : TypeId} {cs : Array Value} (h : Qa w g t cs) (o n : Nat) (hn : o + n <= cs.size) : w.there g o n := fun j hj => ⟨by rw [h.cell (o + j) _ (Array.getElem?_eq_getElem (by omega))]; rfl, h.free _⟩
def uV (r : Rec) (v : Value) : Value := if r.k = 8 then v else .slice none 0 0
theorem _root_.Go.RowKit.Below.set1 {B : Nat} {w w' : World} (h : Below B w w') {g : Nat} (hg : B <= g) (j : Nat) (v : Value) : Below B w (w'.setCell ⟨g, j, none⟩ v) := h.setCell hg v
theorem used_1 (r : Rec) (va vb : Value) (w : World) (hk : r.k = 1) (hin : Qwb w r va vb) :
    Calls Try.prog 63 #[.agg (rcA r va vb)] w fun e w' => e = .returned (.agg (rcA r.used (uV r va) (uV r vb))) /\ Below w.heap.size w w' := by
  have HIN := Qb hin; obtain ⟨⟨e1, cap1, rfl, -⟩, ⟨e2, cap2, rfl, -⟩⟩ := hin; have HK0 := Qb (Qj.two w 46 46 (rcA r (.slice e1 r.ts.length cap1) (.slice e2 r.ds.length cap2)) #[.int .i64 0, .int .u64 0, .int .i64 0, .int .u64 0, .int .i64 0, .int .i64 0, .int .i64 0, .string ⟨#[]⟩, .string ⟨#[]⟩, .int .u64 0, .int .i64 0, .int .u64 0, .slice none 0 0, .slice none 0 0]); have c0 := HK0.out.1.2.1.cell 0 (.int .i64 r.k) rfl; have c1 := HK0.out.1.2.1.cell 1 (.int .u64 (r.l : Int)) rfl; rw [hk] at c0; obtain ⟨A, hA⟩ : ∃ A, A = rcA r (.slice e1 r.ts.length cap1) (.slice e2 r.ds.length cap2) := ⟨_, rfl⟩; rw [<- hA] at HK0 c0 c1 |-; have HA := Qb hA; clear hA; have HK3 := Qb (Qj.three w 46 46 46 A #[.int .i64 0, .int .u64 0, .int .i64 0, .int .u64 0, .int .i64 0, .int .i64 0, .int .i64 0, .string ⟨#[]⟩, .string ⟨#[]⟩, .int .u64 0, .int .i64 0, .int .u64 0, .slice none 0 0, .slice none 0 0] #[.int .i64 1, .int .u64 (r.l : Int), .int .i64 0, .int .u64 0, .int .i64 0, .int .i64 0, .int .i64 0, .string ⟨#[]⟩, .string ⟨#[]⟩, .int .u64 0, .int .i64 0, .int .u64 0, .slice none 0 0, .slice none 0 0]); have c03 := HK3.out.1.2.2.1.cell 0 (.int .i64 1) (by rw [HA.out, <- hk]; rfl); go_enter Try.func63, Try.ntmps63; go_wp2_with fail; refine Qyh (fun x => Hid (Qj w x [(w.heap.size + 1 + 1, 46, #[.int .i64 1, .int .u64 (r.l : Int), .int .i64 0, .int .u64 0, .int .i64 0, .int .i64 0, .int .i64 0, .string ⟨#[]⟩, .string ⟨#[]⟩, .int .u64 0, .int .i64 0, .int .u64 0, .slice none 0 0, .slice none 0 0]), (w.heap.size + 1, 46, #[.int .i64 0, .int .u64 0, .int .i64 0, .int .u64 0, .int .i64 0, .int .i64 0, .int .i64 0, .string ⟨#[]⟩, .string ⟨#[]⟩, .int .u64 0, .int .i64 0, .int .u64 0, .slice none 0 0, .slice none 0 0]), (w.heap.size, 46, A)])) HK3 ?_; clear HK3 HK0 c0 c1 c03; intro x0 HK; have HGE : Hid (w.heap.size <= w.heap.size + 1 + 1 /\ w.heap.size + 1 ≠ w.heap.size + 1 + 1 /\ w.heap.size ≠ w.heap.size + 1 + 1 /\ w.heap.size <= w.heap.size + 1) := ⟨by omega, by omega, by omega, by omega⟩; revert HK HGE; generalize w.heap.size + 1 + 1 = g2; generalize w.heap.size + 1 = g1; intro HK HGE; have c2 := HK.out.1.2.2.1.cell 2 (.int .i64 r.t) (by rw [HA.out]; rfl); have c3 := HK.out.1.2.2.1.cell 3 (.int .u64 (r.p : Int)) (by rw [HA.out]; rfl); have f2 := HK.out.1.1.free 2; have d2 := HK.out.1.1.cell 2 (.int .i64 0) rfl; have f3 := HK.out.1.1.free 3; have d3 := HK.out.1.1.cell 3 (.int .u64 0) rfl; have n2 := HGE.out.2.2.1; go_region
  have hl : ∀ e ∈ [(g1, 46, #[.int .i64 0, .int .u64 0, .int .i64 0, .int .u64 0, .int .i64 0, .int .i64 0, .int .i64 0, .string ⟨#[]⟩, .string ⟨#[]⟩, .int .u64 0, .int .i64 0, .int .u64 0, .slice none 0 0, .slice none 0 0]), (w.heap.size, 46, A)], e.1 ≠ g2 := by
    intro e he; simp only [List.mem_cons, List.not_mem_nil, or_false] at he
    rcases he with rfl | rfl
    · exact HGE.out.2.1
    · exact HGE.out.2.2.1
  have HK2 : Hid (Qj w ((x0.setCell ⟨g2, 2, none⟩ (.int .i64 r.t)).setCell ⟨g2, 3, none⟩ (.int .u64 (r.p : Int))).drew [(g2, 46, #[.int .i64 1, .int .u64 (r.l : Int), .int .i64 r.t, .int .u64 (r.p : Int), .int .i64 0, .int .i64 0, .int .i64 0, .string ⟨#[]⟩, .string ⟨#[]⟩, .int .u64 0, .int .i64 0, .int .u64 0, .slice none 0 0, .slice none 0 0]), (g1, 46, #[.int .i64 0, .int .u64 0, .int .i64 0, .int .u64 0, .int .i64 0, .int .i64 0, .int .i64 0, .string ⟨#[]⟩, .string ⟨#[]⟩, .int .u64 0, .int .i64 0, .int .u64 0, .slice none 0 0, .slice none 0 0]), (w.heap.size, 46, A)]) := ((HK.out.setTop HGE.out.1 hl 2 (.int .i64 r.t)).setTop HGE.out.1 hl 3 (.int .u64 (r.p : Int))).drew; refine Qbn (fun x => Hid (Qj w x [(g2, 46, #[.int .i64 1, .int .u64 (r.l : Int), .int .i64 r.t, .int .u64 (r.p : Int), .int .i64 0, .int .i64 0, .int .i64 0, .string ⟨#[]⟩, .string ⟨#[]⟩, .int .u64 0, .int .i64 0, .int .u64 0, .slice none 0 0, .slice none 0 0]), (g1, 46, #[.int .i64 0, .int .u64 0, .int .i64 0, .int .u64 0, .int .i64 0, .int .i64 0, .int .i64 0, .string ⟨#[]⟩, .string ⟨#[]⟩, .int .u64 0, .int .i64 0, .int .u64 0, .slice none 0 0, .slice none 0 0]), (w.heap.size, 46, A)])) HK2 ?_; clear HK2 HK hl n2 c2 f2 d2 c3 f3 d3; intro x1 HK; have c0 := HK.out.1.2.2.1.cell 0 (.int .i64 1) (by rw [HA.out, <- hk]; rfl)
  have hl : ∀ e ∈ [(g1, 46, #[.int .i64 0, .int .u64 0, .int .i64 0, .int .u64 0, .int .i64 0, .int .i64 0, .int .i64 0, .string ⟨#[]⟩, .string ⟨#[]⟩, .int .u64 0, .int .i64 0, .int .u64 0, .slice none 0 0, .slice none 0 0]), (w.heap.size, 46, A)], e.1 ≠ g2 := by
    intro e he; simp only [List.mem_cons, List.not_mem_nil, or_false] at he
    rcases he with rfl | rfl
    · exact HGE.out.2.1
    · exact HGE.out.2.2.1
  have HKC : Hid (Qj w (x1.setCells g2 4 (chA r.c).toList) [(g2, 46, #[.int .i64 1, .int .u64 (r.l : Int), .int .i64 r.t, .int .u64 (r.p : Int), .int .i64 r.c.k, .int .i64 r.c.pg, .int .i64 r.c.sl, .string r.c.o, .string r.c.n, .int .u64 0, .int .i64 0, .int .u64 0, .slice none 0 0, .slice none 0 0]), (g1, 46, #[.int .i64 0, .int .u64 0, .int .i64 0, .int .u64 0, .int .i64 0, .int .i64 0, .int .i64 0, .string ⟨#[]⟩, .string ⟨#[]⟩, .int .u64 0, .int .i64 0, .int .u64 0, .slice none 0 0, .slice none 0 0]), (w.heap.size, 46, A)]) := (((((HK.out.setTop HGE.out.1 hl 4 (.int .i64 r.c.k)).setTop HGE.out.1 hl 5 (.int .i64 r.c.pg)).setTop HGE.out.1 hl 6 (.int .i64 r.c.sl)).setTop HGE.out.1 hl 7 (.string r.c.o)).setTop HGE.out.1 hl 8 (.string r.c.n)); have HCH : Hid (x1.rangeAt w.heap.size 4 (chA r.c).toList) := rc_change (show Qa x1 w.heap.size 46 (rcA r (.slice e1 r.ts.length cap1) (.slice e2 r.ds.length cap2)) from by rw [<- HA.out]; exact HK.out.1.2.2.1); have HTH : Hid (x1.there g2 4 5) := row_there HK.out.1.1 4 5 (by show 4 + 5 <= 14; omega); clear hl; go_wp2_with (first | (refine Qlb rfl 44 (.tmp 27) rfl w.heap.size 4 (chA r.c) rfl HCH.out _ Try.underlying44 rfl Qdi ?_) | (refine wpList_store_mid rfl 44 (.tmp 29) (.tmp 28) rfl g2 4 (chA r.c) rfl rfl HTH.out Qdi (chA_one _) ?_; refine Qbn (fun x => Hid (Qj w x [(g2, 46, #[.int .i64 1, .int .u64 (r.l : Int), .int .i64 r.t, .int .u64 (r.p : Int), .int .i64 r.c.k, .int .i64 r.c.pg, .int .i64 r.c.sl, .string r.c.o, .string r.c.n, .int .u64 0, .int .i64 0, .int .u64 0, .slice none 0 0, .slice none 0 0]), (g1, 46, #[.int .i64 0, .int .u64 0, .int .i64 0, .int .u64 0, .int .i64 0, .int .i64 0, .int .i64 0, .string ⟨#[]⟩, .string ⟨#[]⟩, .int .u64 0, .int .i64 0, .int .u64 0, .slice none 0 0, .slice none 0 0]), (w.heap.size, 46, A)])) HKC ?_; clear HKC HTH HCH HK c0; intro x9 HK) | (refine Qd rfl 46 (.tmp 3) rfl g2 rfl #[.int .i64 1, .int .u64 (r.l : Int), .int .i64 r.t, .int .u64 (r.p : Int), .int .i64 r.c.k, .int .i64 r.c.pg, .int .i64 r.c.sl, .string r.c.o, .string r.c.n, .int .u64 0, .int .i64 0, .int .u64 0, .slice none 0 0, .slice none 0 0] HK.out.1.1 _ Try.underlying46 rfl Qaa ?_) | (refine Qh rfl 46 (.tmp 2) (.tmp 54) rfl g1 _ #[.int .i64 1, .int .u64 (r.l : Int), .int .i64 r.t, .int .u64 (r.p : Int), .int .i64 r.c.k, .int .i64 r.c.pg, .int .i64 r.c.sl, .string r.c.o, .string r.c.n, .int .u64 0, .int .i64 0, .int .u64 0, .slice none 0 0, .slice none 0 0] rfl rfl HK.out.1.2.1 Qaa rfl (by simp [Value.oneCell']) ?_))
  intro w9 hr9 hk9 _; have HB := Qb (hk9 _ _ HK.out.2 HGE.out.2.2.2); have HROW := Qb hr9; clear hr9 hk9 HK; go_wp2; (try simp only [Exit.inBlock, Exit.then]); refine bodyPost_ret (Qdb rfl _ _ g1 #[.int .i64 1, .int .u64 (r.l : Int), .int .i64 r.t, .int .u64 (r.p : Int), .int .i64 r.c.k, .int .i64 r.c.pg, .int .i64 r.c.sl, .string r.c.o, .string r.c.n, .int .u64 0, .int .i64 0, .int .u64 0, .slice none 0 0, .slice none 0 0] _ rfl HROW.out Try.underlying46 rfl Qaa) rfl ?_; refine ⟨?_, HB.out⟩; apply congrArg Ending.returned; apply congrArg Value.agg; unfold rcA Rec.used uV; simp [hk]
theorem used_3 (r : Rec) (va vb : Value) (w : World) (hk : r.k = 3) (hin : Qwb w r va vb) :
    Calls Try.prog 63 #[.agg (rcA r va vb)] w fun e w' => e = .returned (.agg (rcA r.used (uV r va) (uV r vb))) /\ Below w.heap.size w w' := by
  have HIN := Qb hin; obtain ⟨⟨e1, cap1, rfl, -⟩, ⟨e2, cap2, rfl, -⟩⟩ := hin; have HK0 := Qb (Qj.two w 46 46 (rcA r (.slice e1 r.ts.length cap1) (.slice e2 r.ds.length cap2)) #[.int .i64 0, .int .u64 0, .int .i64 0, .int .u64 0, .int .i64 0, .int .i64 0, .int .i64 0, .string ⟨#[]⟩, .string ⟨#[]⟩, .int .u64 0, .int .i64 0, .int .u64 0, .slice none 0 0, .slice none 0 0]); have c0 := HK0.out.1.2.1.cell 0 (.int .i64 r.k) rfl; have c1 := HK0.out.1.2.1.cell 1 (.int .u64 (r.l : Int)) rfl; rw [hk] at c0; obtain ⟨A, hA⟩ : ∃ A, A = rcA r (.slice e1 r.ts.length cap1) (.slice e2 r.ds.length cap2) := ⟨_, rfl⟩; rw [<- hA] at HK0 c0 c1 |-; have HA := Qb hA; clear hA; have HK3 := Qb (Qj.three w 46 46 46 A #[.int .i64 0, .int .u64 0, .int .i64 0, .int .u64 0, .int .i64 0, .int .i64 0, .int .i64 0, .string ⟨#[]⟩, .string ⟨#[]⟩, .int .u64 0, .int .i64 0, .int .u64 0, .slice none 0 0, .slice none 0 0] #[.int .i64 3, .int .u64 (r.l : Int), .int .i64 0, .int .u64 0, .int .i64 0, .int .i64 0, .int .i64 0, .string ⟨#[]⟩, .string ⟨#[]⟩, .int .u64 0, .int .i64 0, .int .u64 0, .slice none 0 0, .slice none 0 0]); have c03 := HK3.out.1.2.2.1.cell 0 (.int .i64 3) (by rw [HA.out, <- hk]; rfl); go_enter Try.func63, Try.ntmps63; go_wp2_with fail; refine Qyh (fun x => Hid (Qj w x [(w.heap.size + 1 + 1, 46, #[.int .i64 3, .int .u64 (r.l : Int), .int .i64 0, .int .u64 0, .int .i64 0, .int .i64 0, .int .i64 0, .string ⟨#[]⟩, .string ⟨#[]⟩, .int .u64 0, .int .i64 0, .int .u64 0, .slice none 0 0, .slice none 0 0]), (w.heap.size + 1, 46, #[.int .i64 0, .int .u64 0, .int .i64 0, .int .u64 0, .int .i64 0, .int .i64 0, .int .i64 0, .string ⟨#[]⟩, .string ⟨#[]⟩, .int .u64 0, .int .i64 0, .int .u64 0, .slice none 0 0, .slice none 0 0]), (w.heap.size, 46, A)])) HK3 ?_; clear HK3 HK0 c0 c1 c03; intro x0 HK; have HGE : Hid (w.heap.size <= w.heap.size + 1 + 1 /\ w.heap.size + 1 ≠ w.heap.size + 1 + 1 /\ w.heap.size ≠ w.heap.size + 1 + 1 /\ w.heap.size <= w.heap.size + 1) := ⟨by omega, by omega, by omega, by omega⟩; revert HK HGE; generalize w.heap.size + 1 + 1 = g2; generalize w.heap.size + 1 = g1; intro HK HGE; have c2 := HK.out.1.2.2.1.cell 2 (.int .i64 r.t) (by rw [HA.out]; rfl); have c3 := HK.out.1.2.2.1.cell 3 (.int .u64 (r.p : Int)) (by rw [HA.out]; rfl); have f2 := HK.out.1.1.free 2; have d2 := HK.out.1.1.cell 2 (.int .i64 0) rfl; have f3 := HK.out.1.1.free 3; have d3 := HK.out.1.1.cell 3 (.int .u64 0) rfl; have n2 := HGE.out.2.2.1; go_region
  have hl : ∀ e ∈ [(g1, 46, #[.int .i64 0, .int .u64 0, .int .i64 0, .int .u64 0, .int .i64 0, .int .i64 0, .int .i64 0, .string ⟨#[]⟩, .string ⟨#[]⟩, .int .u64 0, .int .i64 0, .int .u64 0, .slice none 0 0, .slice none 0 0]), (w.heap.size, 46, A)], e.1 ≠ g2 := by
    intro e he; simp only [List.mem_cons, List.not_mem_nil, or_false] at he
    rcases he with rfl | rfl
    · exact HGE.out.2.1
    · exact HGE.out.2.2.1
  have HK2 : Hid (Qj w ((x0.setCell ⟨g2, 2, none⟩ (.int .i64 r.t)).setCell ⟨g2, 3, none⟩ (.int .u64 (r.p : Int))).drew [(g2, 46, #[.int .i64 3, .int .u64 (r.l : Int), .int .i64 r.t, .int .u64 (r.p : Int), .int .i64 0, .int .i64 0, .int .i64 0, .string ⟨#[]⟩, .string ⟨#[]⟩, .int .u64 0, .int .i64 0, .int .u64 0, .slice none 0 0, .slice none 0 0]), (g1, 46, #[.int .i64 0, .int .u64 0, .int .i64 0, .int .u64 0, .int .i64 0, .int .i64 0, .int .i64 0, .string ⟨#[]⟩, .string ⟨#[]⟩, .int .u64 0, .int .i64 0, .int .u64 0, .slice none 0 0, .slice none 0 0]), (w.heap.size, 46, A)]) := ((HK.out.setTop HGE.out.1 hl 2 (.int .i64 r.t)).setTop HGE.out.1 hl 3 (.int .u64 (r.p : Int))).drew; refine Qbn (fun x => Hid (Qj w x [(g2, 46, #[.int .i64 3, .int .u64 (r.l : Int), .int .i64 r.t, .int .u64 (r.p : Int), .int .i64 0, .int .i64 0, .int .i64 0, .string ⟨#[]⟩, .string ⟨#[]⟩, .int .u64 0, .int .i64 0, .int .u64 0, .slice none 0 0, .slice none 0 0]), (g1, 46, #[.int .i64 0, .int .u64 0, .int .i64 0, .int .u64 0, .int .i64 0, .int .i64 0, .int .i64 0, .string ⟨#[]⟩, .string ⟨#[]⟩, .int .u64 0, .int .i64 0, .int .u64 0, .slice none 0 0, .slice none 0 0]), (w.heap.size, 46, A)])) HK2 ?_; clear HK2 HK hl n2 c2 f2 d2 c3 f3 d3; intro x1 HK; have c0 := HK.out.1.2.2.1.cell 0 (.int .i64 3) (by rw [HA.out, <- hk]; rfl); have d0 := HK.out.1.1.cell 0 (.int .i64 3) rfl; have d1 := HK.out.1.1.cell 1 (.int .u64 (r.l : Int)) rfl; have d2 := HK.out.1.1.cell 2 (.int .i64 r.t) rfl; have d3 := HK.out.1.1.cell 3 (.int .u64 (r.p : Int)) rfl; have d4 := HK.out.1.1.cell 4 (.int .i64 0) rfl; have d5 := HK.out.1.1.cell 5 (.int .i64 0) rfl; have d6 := HK.out.1.1.cell 6 (.int .i64 0) rfl; have d7 := HK.out.1.1.cell 7 (.string ⟨#[]⟩) rfl; have d8 := HK.out.1.1.cell 8 (.string ⟨#[]⟩) rfl; have d9 := HK.out.1.1.cell 9 (.int .u64 0) rfl; have d10 := HK.out.1.1.cell 10 (.int .i64 0) rfl; have d11 := HK.out.1.1.cell 11 (.int .u64 0) rfl; have d12 := HK.out.1.1.cell 12 (.slice none 0 0) rfl; have d13 := HK.out.1.1.cell 13 (.slice none 0 0) rfl; have n1 := HGE.out.2.1; have n2 := HGE.out.2.2.1; have HZ := Qb HK.out.1.2.1; have HBB := Qb HK.out.2; go_wp2_with (refine Qh rfl 46 (.tmp 2) (.tmp 54) rfl g1 _ #[.int .i64 3, .int .u64 (r.l : Int), .int .i64 r.t, .int .u64 (r.p : Int), .int .i64 0, .int .i64 0, .int .i64 0, .string ⟨#[]⟩, .string ⟨#[]⟩, .int .u64 0, .int .i64 0, .int .u64 0, .slice none 0 0, .slice none 0 0] rfl rfl HZ.out Qaa rfl (by simp [Value.oneCell']) ?_); intro w9 hr9 hk9 _
  have HB := Qb (hk9 _ _ HBB.out HGE.out.2.2.2); have HROW := Qb hr9; clear hr9 hk9 HZ HBB HK d0 d1 d2 d3 d4 d5 d6 d7 d8 d9 d10 d11 d12 d13 c0 ; go_wp2; (try simp only [Exit.inBlock, Exit.then]); refine bodyPost_ret (Qdb rfl _ _ g1 #[.int .i64 3, .int .u64 (r.l : Int), .int .i64 r.t, .int .u64 (r.p : Int), .int .i64 0, .int .i64 0, .int .i64 0, .string ⟨#[]⟩, .string ⟨#[]⟩, .int .u64 0, .int .i64 0, .int .u64 0, .slice none 0 0, .slice none 0 0] _ rfl HROW.out Try.underlying46 rfl Qaa) rfl ?_; refine ⟨?_, HB.out⟩; apply congrArg Ending.returned; apply congrArg Value.agg; unfold rcA Rec.used uV; simp [hk, Ch.zero]
theorem used_4 (r : Rec) (va vb : Value) (w : World) (hk : r.k = 4) (hin : Qwb w r va vb) :
    Calls Try.prog 63 #[.agg (rcA r va vb)] w fun e w' => e = .returned (.agg (rcA r.used (uV r va) (uV r vb))) /\ Below w.heap.size w w' := by
  have HIN := Qb hin; obtain ⟨⟨e1, cap1, rfl, -⟩, ⟨e2, cap2, rfl, -⟩⟩ := hin; have HK0 := Qb (Qj.two w 46 46 (rcA r (.slice e1 r.ts.length cap1) (.slice e2 r.ds.length cap2)) #[.int .i64 0, .int .u64 0, .int .i64 0, .int .u64 0, .int .i64 0, .int .i64 0, .int .i64 0, .string ⟨#[]⟩, .string ⟨#[]⟩, .int .u64 0, .int .i64 0, .int .u64 0, .slice none 0 0, .slice none 0 0]); have c0 := HK0.out.1.2.1.cell 0 (.int .i64 r.k) rfl; have c1 := HK0.out.1.2.1.cell 1 (.int .u64 (r.l : Int)) rfl; rw [hk] at c0; obtain ⟨A, hA⟩ : ∃ A, A = rcA r (.slice e1 r.ts.length cap1) (.slice e2 r.ds.length cap2) := ⟨_, rfl⟩; rw [<- hA] at HK0 c0 c1 |-; have HA := Qb hA; clear hA; have HK3 := Qb (Qj.three w 46 46 46 A #[.int .i64 0, .int .u64 0, .int .i64 0, .int .u64 0, .int .i64 0, .int .i64 0, .int .i64 0, .string ⟨#[]⟩, .string ⟨#[]⟩, .int .u64 0, .int .i64 0, .int .u64 0, .slice none 0 0, .slice none 0 0] #[.int .i64 4, .int .u64 (r.l : Int), .int .i64 0, .int .u64 0, .int .i64 0, .int .i64 0, .int .i64 0, .string ⟨#[]⟩, .string ⟨#[]⟩, .int .u64 0, .int .i64 0, .int .u64 0, .slice none 0 0, .slice none 0 0]); have c03 := HK3.out.1.2.2.1.cell 0 (.int .i64 4) (by rw [HA.out, <- hk]; rfl); go_enter Try.func63, Try.ntmps63; go_wp2_with fail; refine Qyh (fun x => Hid (Qj w x [(w.heap.size + 1 + 1, 46, #[.int .i64 4, .int .u64 (r.l : Int), .int .i64 0, .int .u64 0, .int .i64 0, .int .i64 0, .int .i64 0, .string ⟨#[]⟩, .string ⟨#[]⟩, .int .u64 0, .int .i64 0, .int .u64 0, .slice none 0 0, .slice none 0 0]), (w.heap.size + 1, 46, #[.int .i64 0, .int .u64 0, .int .i64 0, .int .u64 0, .int .i64 0, .int .i64 0, .int .i64 0, .string ⟨#[]⟩, .string ⟨#[]⟩, .int .u64 0, .int .i64 0, .int .u64 0, .slice none 0 0, .slice none 0 0]), (w.heap.size, 46, A)])) HK3 ?_; clear HK3 HK0 c0 c1 c03; intro x0 HK; have HGE : Hid (w.heap.size <= w.heap.size + 1 + 1 /\ w.heap.size + 1 ≠ w.heap.size + 1 + 1 /\ w.heap.size ≠ w.heap.size + 1 + 1 /\ w.heap.size <= w.heap.size + 1) := ⟨by omega, by omega, by omega, by omega⟩; revert HK HGE; generalize w.heap.size + 1 + 1 = g2; generalize w.heap.size + 1 = g1; intro HK HGE; have c2 := HK.out.1.2.2.1.cell 2 (.int .i64 r.t) (by rw [HA.out]; rfl); have c3 := HK.out.1.2.2.1.cell 3 (.int .u64 (r.p : Int)) (by rw [HA.out]; rfl); have f2 := HK.out.1.1.free 2; have d2 := HK.out.1.1.cell 2 (.int .i64 0) rfl; have f3 := HK.out.1.1.free 3; have d3 := HK.out.1.1.cell 3 (.int .u64 0) rfl; have n2 := HGE.out.2.2.1; go_region
  have hl : ∀ e ∈ [(g1, 46, #[.int .i64 0, .int .u64 0, .int .i64 0, .int .u64 0, .int .i64 0, .int .i64 0, .int .i64 0, .string ⟨#[]⟩, .string ⟨#[]⟩, .int .u64 0, .int .i64 0, .int .u64 0, .slice none 0 0, .slice none 0 0]), (w.heap.size, 46, A)], e.1 ≠ g2 := by
    intro e he; simp only [List.mem_cons, List.not_mem_nil, or_false] at he
    rcases he with rfl | rfl
    · exact HGE.out.2.1
    · exact HGE.out.2.2.1
  have HK2 : Hid (Qj w ((x0.setCell ⟨g2, 2, none⟩ (.int .i64 r.t)).setCell ⟨g2, 3, none⟩ (.int .u64 (r.p : Int))).drew [(g2, 46, #[.int .i64 4, .int .u64 (r.l : Int), .int .i64 r.t, .int .u64 (r.p : Int), .int .i64 0, .int .i64 0, .int .i64 0, .string ⟨#[]⟩, .string ⟨#[]⟩, .int .u64 0, .int .i64 0, .int .u64 0, .slice none 0 0, .slice none 0 0]), (g1, 46, #[.int .i64 0, .int .u64 0, .int .i64 0, .int .u64 0, .int .i64 0, .int .i64 0, .int .i64 0, .string ⟨#[]⟩, .string ⟨#[]⟩, .int .u64 0, .int .i64 0, .int .u64 0, .slice none 0 0, .slice none 0 0]), (w.heap.size, 46, A)]) := ((HK.out.setTop HGE.out.1 hl 2 (.int .i64 r.t)).setTop HGE.out.1 hl 3 (.int .u64 (r.p : Int))).drew; refine Qbn (fun x => Hid (Qj w x [(g2, 46, #[.int .i64 4, .int .u64 (r.l : Int), .int .i64 r.t, .int .u64 (r.p : Int), .int .i64 0, .int .i64 0, .int .i64 0, .string ⟨#[]⟩, .string ⟨#[]⟩, .int .u64 0, .int .i64 0, .int .u64 0, .slice none 0 0, .slice none 0 0]), (g1, 46, #[.int .i64 0, .int .u64 0, .int .i64 0, .int .u64 0, .int .i64 0, .int .i64 0, .int .i64 0, .string ⟨#[]⟩, .string ⟨#[]⟩, .int .u64 0, .int .i64 0, .int .u64 0, .slice none 0 0, .slice none 0 0]), (w.heap.size, 46, A)])) HK2 ?_; clear HK2 HK hl n2 c2 f2 d2 c3 f3 d3; intro x1 HK; have c0 := HK.out.1.2.2.1.cell 0 (.int .i64 4) (by rw [HA.out, <- hk]; rfl); have d0 := HK.out.1.1.cell 0 (.int .i64 4) rfl; have d1 := HK.out.1.1.cell 1 (.int .u64 (r.l : Int)) rfl; have d2 := HK.out.1.1.cell 2 (.int .i64 r.t) rfl; have d3 := HK.out.1.1.cell 3 (.int .u64 (r.p : Int)) rfl; have d4 := HK.out.1.1.cell 4 (.int .i64 0) rfl; have d5 := HK.out.1.1.cell 5 (.int .i64 0) rfl; have d6 := HK.out.1.1.cell 6 (.int .i64 0) rfl; have d7 := HK.out.1.1.cell 7 (.string ⟨#[]⟩) rfl; have d8 := HK.out.1.1.cell 8 (.string ⟨#[]⟩) rfl; have d9 := HK.out.1.1.cell 9 (.int .u64 0) rfl; have d10 := HK.out.1.1.cell 10 (.int .i64 0) rfl; have d11 := HK.out.1.1.cell 11 (.int .u64 0) rfl; have d12 := HK.out.1.1.cell 12 (.slice none 0 0) rfl; have d13 := HK.out.1.1.cell 13 (.slice none 0 0) rfl; have n1 := HGE.out.2.1; have n2 := HGE.out.2.2.1; have HZ := Qb HK.out.1.2.1; have HBB := Qb HK.out.2; go_wp2_with (refine Qh rfl 46 (.tmp 2) (.tmp 54) rfl g1 _ #[.int .i64 4, .int .u64 (r.l : Int), .int .i64 r.t, .int .u64 (r.p : Int), .int .i64 0, .int .i64 0, .int .i64 0, .string ⟨#[]⟩, .string ⟨#[]⟩, .int .u64 0, .int .i64 0, .int .u64 0, .slice none 0 0, .slice none 0 0] rfl rfl HZ.out Qaa rfl (by simp [Value.oneCell']) ?_); intro w9 hr9 hk9 _
  have HB := Qb (hk9 _ _ HBB.out HGE.out.2.2.2); have HROW := Qb hr9; clear hr9 hk9 HZ HBB HK d0 d1 d2 d3 d4 d5 d6 d7 d8 d9 d10 d11 d12 d13 c0 ; go_wp2; (try simp only [Exit.inBlock, Exit.then]); refine bodyPost_ret (Qdb rfl _ _ g1 #[.int .i64 4, .int .u64 (r.l : Int), .int .i64 r.t, .int .u64 (r.p : Int), .int .i64 0, .int .i64 0, .int .i64 0, .string ⟨#[]⟩, .string ⟨#[]⟩, .int .u64 0, .int .i64 0, .int .u64 0, .slice none 0 0, .slice none 0 0] _ rfl HROW.out Try.underlying46 rfl Qaa) rfl ?_; refine ⟨?_, HB.out⟩; apply congrArg Ending.returned; apply congrArg Value.agg; unfold rcA Rec.used uV; simp [hk, Ch.zero]
theorem used_5 (r : Rec) (va vb : Value) (w : World) (hk : r.k = 5) (hin : Qwb w r va vb) :
    Calls Try.prog 63 #[.agg (rcA r va vb)] w fun e w' => e = .returned (.agg (rcA r.used (uV r va) (uV r vb))) /\ Below w.heap.size w w' := by
  have HIN := Qb hin; obtain ⟨⟨e1, cap1, rfl, -⟩, ⟨e2, cap2, rfl, -⟩⟩ := hin; have HK0 := Qb (Qj.two w 46 46 (rcA r (.slice e1 r.ts.length cap1) (.slice e2 r.ds.length cap2)) #[.int .i64 0, .int .u64 0, .int .i64 0, .int .u64 0, .int .i64 0, .int .i64 0, .int .i64 0, .string ⟨#[]⟩, .string ⟨#[]⟩, .int .u64 0, .int .i64 0, .int .u64 0, .slice none 0 0, .slice none 0 0]); have c0 := HK0.out.1.2.1.cell 0 (.int .i64 r.k) rfl; have c1 := HK0.out.1.2.1.cell 1 (.int .u64 (r.l : Int)) rfl; rw [hk] at c0; obtain ⟨A, hA⟩ : ∃ A, A = rcA r (.slice e1 r.ts.length cap1) (.slice e2 r.ds.length cap2) := ⟨_, rfl⟩; rw [<- hA] at HK0 c0 c1 |-; have HA := Qb hA; clear hA; have HK3 := Qb (Qj.three w 46 46 46 A #[.int .i64 0, .int .u64 0, .int .i64 0, .int .u64 0, .int .i64 0, .int .i64 0, .int .i64 0, .string ⟨#[]⟩, .string ⟨#[]⟩, .int .u64 0, .int .i64 0, .int .u64 0, .slice none 0 0, .slice none 0 0] #[.int .i64 5, .int .u64 (r.l : Int), .int .i64 0, .int .u64 0, .int .i64 0, .int .i64 0, .int .i64 0, .string ⟨#[]⟩, .string ⟨#[]⟩, .int .u64 0, .int .i64 0, .int .u64 0, .slice none 0 0, .slice none 0 0]); have c03 := HK3.out.1.2.2.1.cell 0 (.int .i64 5) (by rw [HA.out, <- hk]; rfl); go_enter Try.func63, Try.ntmps63; go_wp2_with fail; refine Qyh (fun x => Hid (Qj w x [(w.heap.size + 1 + 1, 46, #[.int .i64 5, .int .u64 (r.l : Int), .int .i64 0, .int .u64 0, .int .i64 0, .int .i64 0, .int .i64 0, .string ⟨#[]⟩, .string ⟨#[]⟩, .int .u64 0, .int .i64 0, .int .u64 0, .slice none 0 0, .slice none 0 0]), (w.heap.size + 1, 46, #[.int .i64 0, .int .u64 0, .int .i64 0, .int .u64 0, .int .i64 0, .int .i64 0, .int .i64 0, .string ⟨#[]⟩, .string ⟨#[]⟩, .int .u64 0, .int .i64 0, .int .u64 0, .slice none 0 0, .slice none 0 0]), (w.heap.size, 46, A)])) HK3 ?_; clear HK3 HK0 c0 c1 c03; intro x0 HK; have HGE : Hid (w.heap.size <= w.heap.size + 1 + 1 /\ w.heap.size + 1 ≠ w.heap.size + 1 + 1 /\ w.heap.size ≠ w.heap.size + 1 + 1 /\ w.heap.size <= w.heap.size + 1) := ⟨by omega, by omega, by omega, by omega⟩; revert HK HGE; generalize w.heap.size + 1 + 1 = g2; generalize w.heap.size + 1 = g1; intro HK HGE; have c2 := HK.out.1.2.2.1.cell 2 (.int .i64 r.t) (by rw [HA.out]; rfl); have c3 := HK.out.1.2.2.1.cell 3 (.int .u64 (r.p : Int)) (by rw [HA.out]; rfl); have f2 := HK.out.1.1.free 2; have d2 := HK.out.1.1.cell 2 (.int .i64 0) rfl; have f3 := HK.out.1.1.free 3; have d3 := HK.out.1.1.cell 3 (.int .u64 0) rfl; have n2 := HGE.out.2.2.1; go_region
  have hl : ∀ e ∈ [(g1, 46, #[.int .i64 0, .int .u64 0, .int .i64 0, .int .u64 0, .int .i64 0, .int .i64 0, .int .i64 0, .string ⟨#[]⟩, .string ⟨#[]⟩, .int .u64 0, .int .i64 0, .int .u64 0, .slice none 0 0, .slice none 0 0]), (w.heap.size, 46, A)], e.1 ≠ g2 := by
    intro e he; simp only [List.mem_cons, List.not_mem_nil, or_false] at he
    rcases he with rfl | rfl
    · exact HGE.out.2.1
    · exact HGE.out.2.2.1
  have HK2 : Hid (Qj w ((x0.setCell ⟨g2, 2, none⟩ (.int .i64 r.t)).setCell ⟨g2, 3, none⟩ (.int .u64 (r.p : Int))).drew [(g2, 46, #[.int .i64 5, .int .u64 (r.l : Int), .int .i64 r.t, .int .u64 (r.p : Int), .int .i64 0, .int .i64 0, .int .i64 0, .string ⟨#[]⟩, .string ⟨#[]⟩, .int .u64 0, .int .i64 0, .int .u64 0, .slice none 0 0, .slice none 0 0]), (g1, 46, #[.int .i64 0, .int .u64 0, .int .i64 0, .int .u64 0, .int .i64 0, .int .i64 0, .int .i64 0, .string ⟨#[]⟩, .string ⟨#[]⟩, .int .u64 0, .int .i64 0, .int .u64 0, .slice none 0 0, .slice none 0 0]), (w.heap.size, 46, A)]) := ((HK.out.setTop HGE.out.1 hl 2 (.int .i64 r.t)).setTop HGE.out.1 hl 3 (.int .u64 (r.p : Int))).drew; refine Qbn (fun x => Hid (Qj w x [(g2, 46, #[.int .i64 5, .int .u64 (r.l : Int), .int .i64 r.t, .int .u64 (r.p : Int), .int .i64 0, .int .i64 0, .int .i64 0, .string ⟨#[]⟩, .string ⟨#[]⟩, .int .u64 0, .int .i64 0, .int .u64 0, .slice none 0 0, .slice none 0 0]), (g1, 46, #[.int .i64 0, .int .u64 0, .int .i64 0, .int .u64 0, .int .i64 0, .int .i64 0, .int .i64 0, .string ⟨#[]⟩, .string ⟨#[]⟩, .int .u64 0, .int .i64 0, .int .u64 0, .slice none 0 0, .slice none 0 0]), (w.heap.size, 46, A)])) HK2 ?_; clear HK2 HK hl n2 c2 f2 d2 c3 f3 d3; intro x1 HK; have c0 := HK.out.1.2.2.1.cell 0 (.int .i64 5) (by rw [HA.out, <- hk]; rfl); have d0 := HK.out.1.1.cell 0 (.int .i64 5) rfl; have d1 := HK.out.1.1.cell 1 (.int .u64 (r.l : Int)) rfl; have d2 := HK.out.1.1.cell 2 (.int .i64 r.t) rfl; have d3 := HK.out.1.1.cell 3 (.int .u64 (r.p : Int)) rfl; have d4 := HK.out.1.1.cell 4 (.int .i64 0) rfl; have d5 := HK.out.1.1.cell 5 (.int .i64 0) rfl; have d6 := HK.out.1.1.cell 6 (.int .i64 0) rfl; have d7 := HK.out.1.1.cell 7 (.string ⟨#[]⟩) rfl; have d8 := HK.out.1.1.cell 8 (.string ⟨#[]⟩) rfl; have d9 := HK.out.1.1.cell 9 (.int .u64 0) rfl; have d10 := HK.out.1.1.cell 10 (.int .i64 0) rfl; have d11 := HK.out.1.1.cell 11 (.int .u64 0) rfl; have d12 := HK.out.1.1.cell 12 (.slice none 0 0) rfl; have d13 := HK.out.1.1.cell 13 (.slice none 0 0) rfl; have n1 := HGE.out.2.1; have n2 := HGE.out.2.2.1; have HZ := Qb HK.out.1.2.1; have HBB := Qb HK.out.2; go_wp2_with (refine Qh rfl 46 (.tmp 2) (.tmp 54) rfl g1 _ #[.int .i64 5, .int .u64 (r.l : Int), .int .i64 r.t, .int .u64 (r.p : Int), .int .i64 0, .int .i64 0, .int .i64 0, .string ⟨#[]⟩, .string ⟨#[]⟩, .int .u64 0, .int .i64 0, .int .u64 0, .slice none 0 0, .slice none 0 0] rfl rfl HZ.out Qaa rfl (by simp [Value.oneCell']) ?_); intro w9 hr9 hk9 _
  have HB := Qb (hk9 _ _ HBB.out HGE.out.2.2.2); have HROW := Qb hr9; clear hr9 hk9 HZ HBB HK d0 d1 d2 d3 d4 d5 d6 d7 d8 d9 d10 d11 d12 d13 c0 ; go_wp2; (try simp only [Exit.inBlock, Exit.then]); refine bodyPost_ret (Qdb rfl _ _ g1 #[.int .i64 5, .int .u64 (r.l : Int), .int .i64 r.t, .int .u64 (r.p : Int), .int .i64 0, .int .i64 0, .int .i64 0, .string ⟨#[]⟩, .string ⟨#[]⟩, .int .u64 0, .int .i64 0, .int .u64 0, .slice none 0 0, .slice none 0 0] _ rfl HROW.out Try.underlying46 rfl Qaa) rfl ?_; refine ⟨?_, HB.out⟩; apply congrArg Ending.returned; apply congrArg Value.agg; unfold rcA Rec.used uV; simp [hk, Ch.zero]
theorem used_6 (r : Rec) (va vb : Value) (w : World) (hk : r.k = 6) (hin : Qwb w r va vb) :
    Calls Try.prog 63 #[.agg (rcA r va vb)] w fun e w' => e = .returned (.agg (rcA r.used (uV r va) (uV r vb))) /\ Below w.heap.size w w' := by
  have HIN := Qb hin; obtain ⟨⟨e1, cap1, rfl, -⟩, ⟨e2, cap2, rfl, -⟩⟩ := hin; have HK0 := Qb (Qj.two w 46 46 (rcA r (.slice e1 r.ts.length cap1) (.slice e2 r.ds.length cap2)) #[.int .i64 0, .int .u64 0, .int .i64 0, .int .u64 0, .int .i64 0, .int .i64 0, .int .i64 0, .string ⟨#[]⟩, .string ⟨#[]⟩, .int .u64 0, .int .i64 0, .int .u64 0, .slice none 0 0, .slice none 0 0]); have c0 := HK0.out.1.2.1.cell 0 (.int .i64 r.k) rfl; have c1 := HK0.out.1.2.1.cell 1 (.int .u64 (r.l : Int)) rfl; rw [hk] at c0; obtain ⟨A, hA⟩ : ∃ A, A = rcA r (.slice e1 r.ts.length cap1) (.slice e2 r.ds.length cap2) := ⟨_, rfl⟩; rw [<- hA] at HK0 c0 c1 |-; have HA := Qb hA; clear hA; have HK3 := Qb (Qj.three w 46 46 46 A #[.int .i64 0, .int .u64 0, .int .i64 0, .int .u64 0, .int .i64 0, .int .i64 0, .int .i64 0, .string ⟨#[]⟩, .string ⟨#[]⟩, .int .u64 0, .int .i64 0, .int .u64 0, .slice none 0 0, .slice none 0 0] #[.int .i64 6, .int .u64 (r.l : Int), .int .i64 0, .int .u64 0, .int .i64 0, .int .i64 0, .int .i64 0, .string ⟨#[]⟩, .string ⟨#[]⟩, .int .u64 0, .int .i64 0, .int .u64 0, .slice none 0 0, .slice none 0 0]); have c03 := HK3.out.1.2.2.1.cell 0 (.int .i64 6) (by rw [HA.out, <- hk]; rfl); go_enter Try.func63, Try.ntmps63; go_wp2_with fail; refine Qyh (fun x => Hid (Qj w x [(w.heap.size + 1 + 1, 46, #[.int .i64 6, .int .u64 (r.l : Int), .int .i64 0, .int .u64 0, .int .i64 0, .int .i64 0, .int .i64 0, .string ⟨#[]⟩, .string ⟨#[]⟩, .int .u64 0, .int .i64 0, .int .u64 0, .slice none 0 0, .slice none 0 0]), (w.heap.size + 1, 46, #[.int .i64 0, .int .u64 0, .int .i64 0, .int .u64 0, .int .i64 0, .int .i64 0, .int .i64 0, .string ⟨#[]⟩, .string ⟨#[]⟩, .int .u64 0, .int .i64 0, .int .u64 0, .slice none 0 0, .slice none 0 0]), (w.heap.size, 46, A)])) HK3 ?_; clear HK3 HK0 c0 c1 c03; intro x0 HK; have HGE : Hid (w.heap.size <= w.heap.size + 1 + 1 /\ w.heap.size + 1 ≠ w.heap.size + 1 + 1 /\ w.heap.size ≠ w.heap.size + 1 + 1 /\ w.heap.size <= w.heap.size + 1) := ⟨by omega, by omega, by omega, by omega⟩; revert HK HGE; generalize w.heap.size + 1 + 1 = g2; generalize w.heap.size + 1 = g1; intro HK HGE; have c2 := HK.out.1.2.2.1.cell 2 (.int .i64 r.t) (by rw [HA.out]; rfl); have c3 := HK.out.1.2.2.1.cell 3 (.int .u64 (r.p : Int)) (by rw [HA.out]; rfl); have f2 := HK.out.1.1.free 2; have d2 := HK.out.1.1.cell 2 (.int .i64 0) rfl; have f3 := HK.out.1.1.free 3; have d3 := HK.out.1.1.cell 3 (.int .u64 0) rfl; have n2 := HGE.out.2.2.1; go_region
  have hl : ∀ e ∈ [(g1, 46, #[.int .i64 0, .int .u64 0, .int .i64 0, .int .u64 0, .int .i64 0, .int .i64 0, .int .i64 0, .string ⟨#[]⟩, .string ⟨#[]⟩, .int .u64 0, .int .i64 0, .int .u64 0, .slice none 0 0, .slice none 0 0]), (w.heap.size, 46, A)], e.1 ≠ g2 := by
    intro e he; simp only [List.mem_cons, List.not_mem_nil, or_false] at he
    rcases he with rfl | rfl
    · exact HGE.out.2.1
    · exact HGE.out.2.2.1
  have HK2 : Hid (Qj w ((x0.setCell ⟨g2, 2, none⟩ (.int .i64 r.t)).setCell ⟨g2, 3, none⟩ (.int .u64 (r.p : Int))).drew [(g2, 46, #[.int .i64 6, .int .u64 (r.l : Int), .int .i64 r.t, .int .u64 (r.p : Int), .int .i64 0, .int .i64 0, .int .i64 0, .string ⟨#[]⟩, .string ⟨#[]⟩, .int .u64 0, .int .i64 0, .int .u64 0, .slice none 0 0, .slice none 0 0]), (g1, 46, #[.int .i64 0, .int .u64 0, .int .i64 0, .int .u64 0, .int .i64 0, .int .i64 0, .int .i64 0, .string ⟨#[]⟩, .string ⟨#[]⟩, .int .u64 0, .int .i64 0, .int .u64 0, .slice none 0 0, .slice none 0 0]), (w.heap.size, 46, A)]) := ((HK.out.setTop HGE.out.1 hl 2 (.int .i64 r.t)).setTop HGE.out.1 hl 3 (.int .u64 (r.p : Int))).drew; refine Qbn (fun x => Hid (Qj w x [(g2, 46, #[.int .i64 6, .int .u64 (r.l : Int), .int .i64 r.t, .int .u64 (r.p : Int), .int .i64 0, .int .i64 0, .int .i64 0, .string ⟨#[]⟩, .string ⟨#[]⟩, .int .u64 0, .int .i64 0, .int .u64 0, .slice none 0 0, .slice none 0 0]), (g1, 46, #[.int .i64 0, .int .u64 0, .int .i64 0, .int .u64 0, .int .i64 0, .int .i64 0, .int .i64 0, .string ⟨#[]⟩, .string ⟨#[]⟩, .int .u64 0, .int .i64 0, .int .u64 0, .slice none 0 0, .slice none 0 0]), (w.heap.size, 46, A)])) HK2 ?_; clear HK2 HK hl n2 c2 f2 d2 c3 f3 d3; intro x1 HK; have c0 := HK.out.1.2.2.1.cell 0 (.int .i64 6) (by rw [HA.out, <- hk]; rfl); have c10 := HK.out.1.2.2.1.cell 10 (.int .i64 r.s) (by rw [HA.out]; rfl); have f10 := HK.out.1.1.free 10; have d0 := HK.out.1.1.cell 0 (.int .i64 6) rfl; have d1 := HK.out.1.1.cell 1 (.int .u64 (r.l : Int)) rfl; have d2 := HK.out.1.1.cell 2 (.int .i64 r.t) rfl; have d3 := HK.out.1.1.cell 3 (.int .u64 (r.p : Int)) rfl; have d4 := HK.out.1.1.cell 4 (.int .i64 0) rfl; have d5 := HK.out.1.1.cell 5 (.int .i64 0) rfl; have d6 := HK.out.1.1.cell 6 (.int .i64 0) rfl; have d7 := HK.out.1.1.cell 7 (.string ⟨#[]⟩) rfl; have d8 := HK.out.1.1.cell 8 (.string ⟨#[]⟩) rfl; have d9 := HK.out.1.1.cell 9 (.int .u64 0) rfl; have d10 := HK.out.1.1.cell 10 (.int .i64 0) rfl; have d11 := HK.out.1.1.cell 11 (.int .u64 0) rfl; have d12 := HK.out.1.1.cell 12 (.slice none 0 0) rfl; have d13 := HK.out.1.1.cell 13 (.slice none 0 0) rfl; have n1 := HGE.out.2.1; have n2 := HGE.out.2.2.1; have HZ := Qb (HK.out.1.2.1.other ⟨g2, 10, none⟩ (.int .i64 r.s) HGE.out.2.1); have HBB := Qb (HK.out.2.set1 HGE.out.1 10 (.int .i64 r.s)); go_wp2_with (refine Qh rfl 46 (.tmp 2) (.tmp 54) rfl g1 _ #[.int .i64 6, .int .u64 (r.l : Int), .int .i64 r.t, .int .u64 (r.p : Int), .int .i64 0, .int .i64 0, .int .i64 0, .string ⟨#[]⟩, .string ⟨#[]⟩, .int .u64 0, .int .i64 r.s, .int .u64 0, .slice none 0 0, .slice none 0 0] rfl rfl HZ.out Qaa rfl (by simp [Value.oneCell']) ?_)
  intro w9 hr9 hk9 _; have HB := Qb (hk9 _ _ HBB.out HGE.out.2.2.2); have HROW := Qb hr9; clear hr9 hk9 HZ HBB HK d0 d1 d2 d3 d4 d5 d6 d7 d8 d9 d10 d11 d12 d13 c0 c10 f10; go_wp2; (try simp only [Exit.inBlock, Exit.then]); refine bodyPost_ret (Qdb rfl _ _ g1 #[.int .i64 6, .int .u64 (r.l : Int), .int .i64 r.t, .int .u64 (r.p : Int), .int .i64 0, .int .i64 0, .int .i64 0, .string ⟨#[]⟩, .string ⟨#[]⟩, .int .u64 0, .int .i64 r.s, .int .u64 0, .slice none 0 0, .slice none 0 0] _ rfl HROW.out Try.underlying46 rfl Qaa) rfl ?_; refine ⟨?_, HB.out⟩; apply congrArg Ending.returned; apply congrArg Value.agg; unfold rcA Rec.used uV; simp [hk, Ch.zero]
theorem used_8 (r : Rec) (va vb : Value) (w : World) (hk : r.k = 8) (hin : Qwb w r va vb) :
    Calls Try.prog 63 #[.agg (rcA r va vb)] w fun e w' => e = .returned (.agg (rcA r.used (uV r va) (uV r vb))) /\ Below w.heap.size w w' := by
  have HIN := Qb hin; obtain ⟨⟨e1, cap1, rfl, -⟩, ⟨e2, cap2, rfl, -⟩⟩ := hin; have HK0 := Qb (Qj.two w 46 46 (rcA r (.slice e1 r.ts.length cap1) (.slice e2 r.ds.length cap2)) #[.int .i64 0, .int .u64 0, .int .i64 0, .int .u64 0, .int .i64 0, .int .i64 0, .int .i64 0, .string ⟨#[]⟩, .string ⟨#[]⟩, .int .u64 0, .int .i64 0, .int .u64 0, .slice none 0 0, .slice none 0 0]); have c0 := HK0.out.1.2.1.cell 0 (.int .i64 r.k) rfl; have c1 := HK0.out.1.2.1.cell 1 (.int .u64 (r.l : Int)) rfl; rw [hk] at c0; obtain ⟨A, hA⟩ : ∃ A, A = rcA r (.slice e1 r.ts.length cap1) (.slice e2 r.ds.length cap2) := ⟨_, rfl⟩; rw [<- hA] at HK0 c0 c1 |-; have HA := Qb hA; clear hA; have HK3 := Qb (Qj.three w 46 46 46 A #[.int .i64 0, .int .u64 0, .int .i64 0, .int .u64 0, .int .i64 0, .int .i64 0, .int .i64 0, .string ⟨#[]⟩, .string ⟨#[]⟩, .int .u64 0, .int .i64 0, .int .u64 0, .slice none 0 0, .slice none 0 0] #[.int .i64 8, .int .u64 (r.l : Int), .int .i64 0, .int .u64 0, .int .i64 0, .int .i64 0, .int .i64 0, .string ⟨#[]⟩, .string ⟨#[]⟩, .int .u64 0, .int .i64 0, .int .u64 0, .slice none 0 0, .slice none 0 0]); have c03 := HK3.out.1.2.2.1.cell 0 (.int .i64 8) (by rw [HA.out, <- hk]; rfl); go_enter Try.func63, Try.ntmps63; go_wp2_with fail; refine Qyh (fun x => Hid (Qj w x [(w.heap.size + 1 + 1, 46, #[.int .i64 8, .int .u64 (r.l : Int), .int .i64 0, .int .u64 0, .int .i64 0, .int .i64 0, .int .i64 0, .string ⟨#[]⟩, .string ⟨#[]⟩, .int .u64 0, .int .i64 0, .int .u64 0, .slice none 0 0, .slice none 0 0]), (w.heap.size + 1, 46, #[.int .i64 0, .int .u64 0, .int .i64 0, .int .u64 0, .int .i64 0, .int .i64 0, .int .i64 0, .string ⟨#[]⟩, .string ⟨#[]⟩, .int .u64 0, .int .i64 0, .int .u64 0, .slice none 0 0, .slice none 0 0]), (w.heap.size, 46, A)])) HK3 ?_; clear HK3 HK0 c0 c1 c03; intro x0 HK; have HGE : Hid (w.heap.size <= w.heap.size + 1 + 1 /\ w.heap.size + 1 ≠ w.heap.size + 1 + 1 /\ w.heap.size ≠ w.heap.size + 1 + 1 /\ w.heap.size <= w.heap.size + 1) := ⟨by omega, by omega, by omega, by omega⟩; revert HK HGE; generalize w.heap.size + 1 + 1 = g2; generalize w.heap.size + 1 = g1; intro HK HGE; have c11 := HK.out.1.2.2.1.cell 11 (.int .u64 (r.b : Int)) (by rw [HA.out]; rfl); have c12 := HK.out.1.2.2.1.cell 12 (.slice e1 r.ts.length cap1) (by rw [HA.out]; rfl); have c13 := HK.out.1.2.2.1.cell 13 (.slice e2 r.ds.length cap2) (by rw [HA.out]; rfl); have f11 := HK.out.1.1.free 11; have d11 := HK.out.1.1.cell 11 (.int .u64 0) rfl; have f12 := HK.out.1.1.free 12; have d12 := HK.out.1.1.cell 12 (.slice none 0 0) rfl
  have f13 := HK.out.1.1.free 13; have d13 := HK.out.1.1.cell 13 (.slice none 0 0) rfl; have n2 := HGE.out.2.2.1; go_region
  have hl : ∀ e ∈ [(g1, 46, #[.int .i64 0, .int .u64 0, .int .i64 0, .int .u64 0, .int .i64 0, .int .i64 0, .int .i64 0, .string ⟨#[]⟩, .string ⟨#[]⟩, .int .u64 0, .int .i64 0, .int .u64 0, .slice none 0 0, .slice none 0 0]), (w.heap.size, 46, A)], e.1 ≠ g2 := by
    intro e he; simp only [List.mem_cons, List.not_mem_nil, or_false] at he
    rcases he with rfl | rfl
    · exact HGE.out.2.1
    · exact HGE.out.2.2.1
  have HK2 : Hid (Qj w (((x0.setCell ⟨g2, 11, none⟩ (.int .u64 (r.b : Int))).setCell ⟨g2, 12, none⟩ (.slice e1 r.ts.length cap1)).setCell ⟨g2, 13, none⟩ (.slice e2 r.ds.length cap2)).drew [(g2, 46, #[.int .i64 8, .int .u64 (r.l : Int), .int .i64 0, .int .u64 0, .int .i64 0, .int .i64 0, .int .i64 0, .string ⟨#[]⟩, .string ⟨#[]⟩, .int .u64 0, .int .i64 0, .int .u64 (r.b : Int), .slice e1 r.ts.length cap1, .slice e2 r.ds.length cap2]), (g1, 46, #[.int .i64 0, .int .u64 0, .int .i64 0, .int .u64 0, .int .i64 0, .int .i64 0, .int .i64 0, .string ⟨#[]⟩, .string ⟨#[]⟩, .int .u64 0, .int .i64 0, .int .u64 0, .slice none 0 0, .slice none 0 0]), (w.heap.size, 46, A)]) := (((HK.out.setTop HGE.out.1 hl 11 (.int .u64 (r.b : Int))).setTop HGE.out.1 hl 12 (.slice e1 r.ts.length cap1)).setTop HGE.out.1 hl 13 (.slice e2 r.ds.length cap2)).drew; refine Qbn (fun x => Hid (Qj w x [(g2, 46, #[.int .i64 8, .int .u64 (r.l : Int), .int .i64 0, .int .u64 0, .int .i64 0, .int .i64 0, .int .i64 0, .string ⟨#[]⟩, .string ⟨#[]⟩, .int .u64 0, .int .i64 0, .int .u64 (r.b : Int), .slice e1 r.ts.length cap1, .slice e2 r.ds.length cap2]), (g1, 46, #[.int .i64 0, .int .u64 0, .int .i64 0, .int .u64 0, .int .i64 0, .int .i64 0, .int .i64 0, .string ⟨#[]⟩, .string ⟨#[]⟩, .int .u64 0, .int .i64 0, .int .u64 0, .slice none 0 0, .slice none 0 0]), (w.heap.size, 46, A)])) HK2 ?_; clear HK2 HK hl n2 c11 f11 d11 c12 f12 d12 c13 f13 d13; intro x1 HK; have c0 := HK.out.1.2.2.1.cell 0 (.int .i64 8) (by rw [HA.out, <- hk]; rfl); have d0 := HK.out.1.1.cell 0 (.int .i64 8) rfl; have d1 := HK.out.1.1.cell 1 (.int .u64 (r.l : Int)) rfl; have d2 := HK.out.1.1.cell 2 (.int .i64 0) rfl; have d3 := HK.out.1.1.cell 3 (.int .u64 0) rfl; have d4 := HK.out.1.1.cell 4 (.int .i64 0) rfl; have d5 := HK.out.1.1.cell 5 (.int .i64 0) rfl; have d6 := HK.out.1.1.cell 6 (.int .i64 0) rfl; have d7 := HK.out.1.1.cell 7 (.string ⟨#[]⟩) rfl; have d8 := HK.out.1.1.cell 8 (.string ⟨#[]⟩) rfl; have d9 := HK.out.1.1.cell 9 (.int .u64 0) rfl; have d10 := HK.out.1.1.cell 10 (.int .i64 0) rfl; have d11 := HK.out.1.1.cell 11 (.int .u64 (r.b : Int)) rfl; have d12 := HK.out.1.1.cell 12 (.slice e1 r.ts.length cap1) rfl; have d13 := HK.out.1.1.cell 13 (.slice e2 r.ds.length cap2) rfl; have n1 := HGE.out.2.1; have n2 := HGE.out.2.2.1; have HZ := Qb HK.out.1.2.1; have HBB := Qb HK.out.2; go_wp2_with (refine Qh rfl 46 (.tmp 2) (.tmp 54) rfl g1 _ #[.int .i64 8, .int .u64 (r.l : Int), .int .i64 0, .int .u64 0, .int .i64 0, .int .i64 0, .int .i64 0, .string ⟨#[]⟩, .string ⟨#[]⟩, .int .u64 0, .int .i64 0, .int .u64 (r.b : Int), .slice e1 r.ts.length cap1, .slice e2 r.ds.length cap2] rfl rfl HZ.out Qaa rfl (by simp [Value.oneCell']) ?_)
  intro w9 hr9 hk9 _; have HB := Qb (hk9 _ _ HBB.out HGE.out.2.2.2); have HROW := Qb hr9; clear hr9 hk9 HZ HBB HK d0 d1 d2 d3 d4 d5 d6 d7 d8 d9 d10 d11 d12 d13 c0 ; go_wp2; (try simp only [Exit.inBlock, Exit.then]); refine bodyPost_ret (Qdb rfl _ _ g1 #[.int .i64 8, .int .u64 (r.l : Int), .int .i64 0, .int .u64 0, .int .i64 0, .int .i64 0, .int .i64 0, .string ⟨#[]⟩, .string ⟨#[]⟩, .int .u64 0, .int .i64 0, .int .u64 (r.b : Int), .slice e1 r.ts.length cap1, .slice e2 r.ds.length cap2] _ rfl HROW.out Try.underlying46 rfl Qaa) rfl ?_; refine ⟨?_, HB.out⟩; apply congrArg Ending.returned; apply congrArg Value.agg; unfold rcA Rec.used uV; simp [hk, Ch.zero]
theorem used_7 (r : Rec) (va vb : Value) (w : World) (hk : r.k = 7) (hin : Qwb w r va vb) :
    Calls Try.prog 63 #[.agg (rcA r va vb)] w fun e w' => e = .returned (.agg (rcA r.used (uV r va) (uV r vb))) /\ Below w.heap.size w w' := by
  have HIN := Qb hin; obtain ⟨⟨e1, cap1, rfl, -⟩, ⟨e2, cap2, rfl, -⟩⟩ := hin; have HK0 := Qb (Qj.two w 46 46 (rcA r (.slice e1 r.ts.length cap1) (.slice e2 r.ds.length cap2)) #[.int .i64 0, .int .u64 0, .int .i64 0, .int .u64 0, .int .i64 0, .int .i64 0, .int .i64 0, .string ⟨#[]⟩, .string ⟨#[]⟩, .int .u64 0, .int .i64 0, .int .u64 0, .slice none 0 0, .slice none 0 0]); have c0 := HK0.out.1.2.1.cell 0 (.int .i64 r.k) rfl; have c1 := HK0.out.1.2.1.cell 1 (.int .u64 (r.l : Int)) rfl; rw [hk] at c0; obtain ⟨A, hA⟩ : ∃ A, A = rcA r (.slice e1 r.ts.length cap1) (.slice e2 r.ds.length cap2) := ⟨_, rfl⟩; rw [<- hA] at HK0 c0 c1 |-; have HA := Qb hA; clear hA; have HK3 := Qb (Qj.three w 46 46 46 A #[.int .i64 0, .int .u64 0, .int .i64 0, .int .u64 0, .int .i64 0, .int .i64 0, .int .i64 0, .string ⟨#[]⟩, .string ⟨#[]⟩, .int .u64 0, .int .i64 0, .int .u64 0, .slice none 0 0, .slice none 0 0] #[.int .i64 7, .int .u64 (r.l : Int), .int .i64 0, .int .u64 0, .int .i64 0, .int .i64 0, .int .i64 0, .string ⟨#[]⟩, .string ⟨#[]⟩, .int .u64 0, .int .i64 0, .int .u64 0, .slice none 0 0, .slice none 0 0]); have HGE : Hid (w.heap.size <= w.heap.size + 1 + 1 /\ w.heap.size + 1 ≠ w.heap.size + 1 + 1 /\ w.heap.size ≠ w.heap.size + 1 + 1 /\ w.heap.size <= w.heap.size + 1) := ⟨by omega, by omega, by omega, by omega⟩; have c03 := HK3.out.1.2.2.1.cell 0 (.int .i64 7) (by rw [HA.out, <- hk]; rfl); have d0 := HK3.out.1.1.cell 0 (.int .i64 7) rfl; have d1 := HK3.out.1.1.cell 1 (.int .u64 (r.l : Int)) rfl; have d2 := HK3.out.1.1.cell 2 (.int .i64 0) rfl; have d3 := HK3.out.1.1.cell 3 (.int .u64 0) rfl; have d4 := HK3.out.1.1.cell 4 (.int .i64 0) rfl; have d5 := HK3.out.1.1.cell 5 (.int .i64 0) rfl; have d6 := HK3.out.1.1.cell 6 (.int .i64 0) rfl; have d7 := HK3.out.1.1.cell 7 (.string ⟨#[]⟩) rfl; have d8 := HK3.out.1.1.cell 8 (.string ⟨#[]⟩) rfl; have d9 := HK3.out.1.1.cell 9 (.int .u64 0) rfl; have d10 := HK3.out.1.1.cell 10 (.int .i64 0) rfl; have d11 := HK3.out.1.1.cell 11 (.int .u64 0) rfl; have d12 := HK3.out.1.1.cell 12 (.slice none 0 0) rfl; have d13 := HK3.out.1.1.cell 13 (.slice none 0 0) rfl; have n1 := HGE.out.2.1; have n2 := HGE.out.2.2.1; have HZ := Qb HK3.out.1.2.1; have HBB := Qb HK3.out.2; go_enter Try.func63, Try.ntmps63; go_wp2_with (refine Qh rfl 46 (.tmp 2) (.tmp 54) rfl (w.heap.size + 1) _ #[.int .i64 7, .int .u64 (r.l : Int), .int .i64 0, .int .u64 0, .int .i64 0, .int .i64 0, .int .i64 0, .string ⟨#[]⟩, .string ⟨#[]⟩, .int .u64 0, .int .i64 0, .int .u64 0, .slice none 0 0, .slice none 0 0] rfl rfl HZ.out Qaa rfl (by simp [Value.oneCell']) ?_)
  intro w9 hr9 hk9 _; have HB := Qb (hk9 _ _ HBB.out HGE.out.2.2.2); have HROW := Qb hr9; clear hr9 hk9 HZ HBB HK3 d0 d1 d2 d3 d4 d5 d6 d7 d8 d9 d10 d11 d12 d13 c03 ; go_wp2; (try simp only [Exit.inBlock, Exit.then]); refine bodyPost_ret (Qdb rfl _ _ (w.heap.size + 1) #[.int .i64 7, .int .u64 (r.l : Int), .int .i64 0, .int .u64 0, .int .i64 0, .int .i64 0, .int .i64 0, .string ⟨#[]⟩, .string ⟨#[]⟩, .int .u64 0, .int .i64 0, .int .u64 0, .slice none 0 0, .slice none 0 0] _ rfl HROW.out Try.underlying46 rfl Qaa) rfl ?_; refine ⟨?_, HB.out⟩; apply congrArg Ending.returned; apply congrArg Value.agg; unfold rcA Rec.used uV; simp [hk, Ch.zero]
theorem used_2 (r : Rec) (va vb : Value) (w : World) (hk : r.k = 2) (hin : Qwb w r va vb) :
    Calls Try.prog 63 #[.agg (rcA r va vb)] w fun e w' => e = .returned (.agg (rcA r.used (uV r va) (uV r vb))) /\ Below w.heap.size w w' := by
  have HIN := Qb hin; obtain ⟨⟨e1, cap1, rfl, -⟩, ⟨e2, cap2, rfl, -⟩⟩ := hin; have HK0 := Qb (Qj.two w 46 46 (rcA r (.slice e1 r.ts.length cap1) (.slice e2 r.ds.length cap2)) #[.int .i64 0, .int .u64 0, .int .i64 0, .int .u64 0, .int .i64 0, .int .i64 0, .int .i64 0, .string ⟨#[]⟩, .string ⟨#[]⟩, .int .u64 0, .int .i64 0, .int .u64 0, .slice none 0 0, .slice none 0 0]); have c0 := HK0.out.1.2.1.cell 0 (.int .i64 r.k) rfl; have c1 := HK0.out.1.2.1.cell 1 (.int .u64 (r.l : Int)) rfl; rw [hk] at c0; obtain ⟨A, hA⟩ : ∃ A, A = rcA r (.slice e1 r.ts.length cap1) (.slice e2 r.ds.length cap2) := ⟨_, rfl⟩; rw [<- hA] at HK0 c0 c1 |-; have HA := Qb hA; clear hA; have HK3 := Qb (Qj.three w 46 46 46 A #[.int .i64 0, .int .u64 0, .int .i64 0, .int .u64 0, .int .i64 0, .int .i64 0, .int .i64 0, .string ⟨#[]⟩, .string ⟨#[]⟩, .int .u64 0, .int .i64 0, .int .u64 0, .slice none 0 0, .slice none 0 0] #[.int .i64 2, .int .u64 (r.l : Int), .int .i64 0, .int .u64 0, .int .i64 0, .int .i64 0, .int .i64 0, .string ⟨#[]⟩, .string ⟨#[]⟩, .int .u64 0, .int .i64 0, .int .u64 0, .slice none 0 0, .slice none 0 0]); have c03 := HK3.out.1.2.2.1.cell 0 (.int .i64 2) (by rw [HA.out, <- hk]; rfl); go_enter Try.func63, Try.ntmps63; go_wp2_with fail; refine Qyh (fun x => Hid (Qj w x [(w.heap.size + 1 + 1, 46, #[.int .i64 2, .int .u64 (r.l : Int), .int .i64 0, .int .u64 0, .int .i64 0, .int .i64 0, .int .i64 0, .string ⟨#[]⟩, .string ⟨#[]⟩, .int .u64 0, .int .i64 0, .int .u64 0, .slice none 0 0, .slice none 0 0]), (w.heap.size + 1, 46, #[.int .i64 0, .int .u64 0, .int .i64 0, .int .u64 0, .int .i64 0, .int .i64 0, .int .i64 0, .string ⟨#[]⟩, .string ⟨#[]⟩, .int .u64 0, .int .i64 0, .int .u64 0, .slice none 0 0, .slice none 0 0]), (w.heap.size, 46, A)])) HK3 ?_; clear HK3 HK0 c0 c1 c03; intro x0 HK; have HGE : Hid (w.heap.size <= w.heap.size + 1 + 1 /\ w.heap.size + 1 ≠ w.heap.size + 1 + 1 /\ w.heap.size ≠ w.heap.size + 1 + 1 /\ w.heap.size <= w.heap.size + 1) := ⟨by omega, by omega, by omega, by omega⟩; revert HK HGE; generalize w.heap.size + 1 + 1 = g2; generalize w.heap.size + 1 = g1; intro HK HGE; have c2 := HK.out.1.2.2.1.cell 2 (.int .i64 r.t) (by rw [HA.out]; rfl); have c3 := HK.out.1.2.2.1.cell 3 (.int .u64 (r.p : Int)) (by rw [HA.out]; rfl); have f2 := HK.out.1.1.free 2; have d2 := HK.out.1.1.cell 2 (.int .i64 0) rfl; have f3 := HK.out.1.1.free 3; have d3 := HK.out.1.1.cell 3 (.int .u64 0) rfl; have n2 := HGE.out.2.2.1; go_region
  have hl : ∀ e ∈ [(g1, 46, #[.int .i64 0, .int .u64 0, .int .i64 0, .int .u64 0, .int .i64 0, .int .i64 0, .int .i64 0, .string ⟨#[]⟩, .string ⟨#[]⟩, .int .u64 0, .int .i64 0, .int .u64 0, .slice none 0 0, .slice none 0 0]), (w.heap.size, 46, A)], e.1 ≠ g2 := by
    intro e he; simp only [List.mem_cons, List.not_mem_nil, or_false] at he
    rcases he with rfl | rfl
    · exact HGE.out.2.1
    · exact HGE.out.2.2.1
  have HK2 : Hid (Qj w ((x0.setCell ⟨g2, 2, none⟩ (.int .i64 r.t)).setCell ⟨g2, 3, none⟩ (.int .u64 (r.p : Int))).drew [(g2, 46, #[.int .i64 2, .int .u64 (r.l : Int), .int .i64 r.t, .int .u64 (r.p : Int), .int .i64 0, .int .i64 0, .int .i64 0, .string ⟨#[]⟩, .string ⟨#[]⟩, .int .u64 0, .int .i64 0, .int .u64 0, .slice none 0 0, .slice none 0 0]), (g1, 46, #[.int .i64 0, .int .u64 0, .int .i64 0, .int .u64 0, .int .i64 0, .int .i64 0, .int .i64 0, .string ⟨#[]⟩, .string ⟨#[]⟩, .int .u64 0, .int .i64 0, .int .u64 0, .slice none 0 0, .slice none 0 0]), (w.heap.size, 46, A)]) := ((HK.out.setTop HGE.out.1 hl 2 (.int .i64 r.t)).setTop HGE.out.1 hl 3 (.int .u64 (r.p : Int))).drew; refine Qbn (fun x => Hid (Qj w x [(g2, 46, #[.int .i64 2, .int .u64 (r.l : Int), .int .i64 r.t, .int .u64 (r.p : Int), .int .i64 0, .int .i64 0, .int .i64 0, .string ⟨#[]⟩, .string ⟨#[]⟩, .int .u64 0, .int .i64 0, .int .u64 0, .slice none 0 0, .slice none 0 0]), (g1, 46, #[.int .i64 0, .int .u64 0, .int .i64 0, .int .u64 0, .int .i64 0, .int .i64 0, .int .i64 0, .string ⟨#[]⟩, .string ⟨#[]⟩, .int .u64 0, .int .i64 0, .int .u64 0, .slice none 0 0, .slice none 0 0]), (w.heap.size, 46, A)])) HK2 ?_; clear HK2 HK hl n2 c2 f2 d2 c3 f3 d3; intro x1 HK; have c0 := HK.out.1.2.2.1.cell 0 (.int .i64 2) (by rw [HA.out, <- hk]; rfl); go_wp2_with fail; clear c0; have c4 := HK.out.1.2.2.1.cell 4 (.int .i64 r.c.k) (by rw [HA.out]; rfl); have c5 := HK.out.1.2.2.1.cell 5 (.int .i64 r.c.pg) (by rw [HA.out]; rfl); have c6 := HK.out.1.2.2.1.cell 6 (.int .i64 r.c.sl) (by rw [HA.out]; rfl); have c7 := HK.out.1.2.2.1.cell 7 (.string r.c.o) (by rw [HA.out]; rfl); have c8 := HK.out.1.2.2.1.cell 8 (.string r.c.n) (by rw [HA.out]; rfl); have c9 := HK.out.1.2.2.1.cell 9 (.int .u64 (r.n : Int)) (by rw [HA.out]; rfl); have f4 := HK.out.1.1.free 4; have d4 := HK.out.1.1.cell 4 (.int .i64 0) rfl; have f5 := HK.out.1.1.free 5; have d5 := HK.out.1.1.cell 5 (.int .i64 0) rfl; have f6 := HK.out.1.1.free 6; have d6 := HK.out.1.1.cell 6 (.int .i64 0) rfl; have f7 := HK.out.1.1.free 7; have d7 := HK.out.1.1.cell 7 (.string ⟨#[]⟩) rfl; have f8 := HK.out.1.1.free 8; have d8 := HK.out.1.1.cell 8 (.string ⟨#[]⟩) rfl; have f9 := HK.out.1.1.free 9; have d9 := HK.out.1.1.cell 9 (.int .u64 0) rfl; have n2 := HGE.out.2.2.1; go_region
  have hl : ∀ e ∈ [(g1, 46, #[.int .i64 0, .int .u64 0, .int .i64 0, .int .u64 0, .int .i64 0, .int .i64 0, .int .i64 0, .string ⟨#[]⟩, .string ⟨#[]⟩, .int .u64 0, .int .i64 0, .int .u64 0, .slice none 0 0, .slice none 0 0]), (w.heap.size, 46, A)], e.1 ≠ g2 := by
    intro e he; simp only [List.mem_cons, List.not_mem_nil, or_false] at he
    rcases he with rfl | rfl
    · exact HGE.out.2.1
    · exact HGE.out.2.2.1
  have HK2 : Hid (Qj w ((((((x1.setCell ⟨g2, 4, none⟩ (.int .i64 r.c.k)).setCell ⟨g2, 5, none⟩ (.int .i64 r.c.pg)).setCell ⟨g2, 6, none⟩ (.int .i64 r.c.sl)).setCell ⟨g2, 7, none⟩ (.string r.c.o)).setCell ⟨g2, 8, none⟩ (.string r.c.n)).setCell ⟨g2, 9, none⟩ (.int .u64 (r.n : Int))).drew [(g2, 46, #[.int .i64 2, .int .u64 (r.l : Int), .int .i64 r.t, .int .u64 (r.p : Int), .int .i64 r.c.k, .int .i64 r.c.pg, .int .i64 r.c.sl, .string r.c.o, .string r.c.n, .int .u64 (r.n : Int), .int .i64 0, .int .u64 0, .slice none 0 0, .slice none 0 0]), (g1, 46, #[.int .i64 0, .int .u64 0, .int .i64 0, .int .u64 0, .int .i64 0, .int .i64 0, .int .i64 0, .string ⟨#[]⟩, .string ⟨#[]⟩, .int .u64 0, .int .i64 0, .int .u64 0, .slice none 0 0, .slice none 0 0]), (w.heap.size, 46, A)]) := ((((((HK.out.setTop HGE.out.1 hl 4 (.int .i64 r.c.k)).setTop HGE.out.1 hl 5 (.int .i64 r.c.pg)).setTop HGE.out.1 hl 6 (.int .i64 r.c.sl)).setTop HGE.out.1 hl 7 (.string r.c.o)).setTop HGE.out.1 hl 8 (.string r.c.n)).setTop HGE.out.1 hl 9 (.int .u64 (r.n : Int))).drew; refine Qbn (fun x => Hid (Qj w x [(g2, 46, #[.int .i64 2, .int .u64 (r.l : Int), .int .i64 r.t, .int .u64 (r.p : Int), .int .i64 r.c.k, .int .i64 r.c.pg, .int .i64 r.c.sl, .string r.c.o, .string r.c.n, .int .u64 (r.n : Int), .int .i64 0, .int .u64 0, .slice none 0 0, .slice none 0 0]), (g1, 46, #[.int .i64 0, .int .u64 0, .int .i64 0, .int .u64 0, .int .i64 0, .int .i64 0, .int .i64 0, .string ⟨#[]⟩, .string ⟨#[]⟩, .int .u64 0, .int .i64 0, .int .u64 0, .slice none 0 0, .slice none 0 0]), (w.heap.size, 46, A)])) HK2 ?_; clear HK2 HK hl n2 c4 f4 d4 c5 f5 d5 c6 f6 d6 c7 f7 d7 c8 f8 d8 c9 f9 d9; intro x2 HK; have c0 := HK.out.1.2.2.1.cell 0 (.int .i64 2) (by rw [HA.out, <- hk]; rfl); have d0 := HK.out.1.1.cell 0 (.int .i64 2) rfl; have d1 := HK.out.1.1.cell 1 (.int .u64 (r.l : Int)) rfl; have d2 := HK.out.1.1.cell 2 (.int .i64 r.t) rfl; have d3 := HK.out.1.1.cell 3 (.int .u64 (r.p : Int)) rfl; have d4 := HK.out.1.1.cell 4 (.int .i64 r.c.k) rfl; have d5 := HK.out.1.1.cell 5 (.int .i64 r.c.pg) rfl; have d6 := HK.out.1.1.cell 6 (.int .i64 r.c.sl) rfl; have d7 := HK.out.1.1.cell 7 (.string r.c.o) rfl; have d8 := HK.out.1.1.cell 8 (.string r.c.n) rfl; have d9 := HK.out.1.1.cell 9 (.int .u64 (r.n : Int)) rfl; have d10 := HK.out.1.1.cell 10 (.int .i64 0) rfl; have d11 := HK.out.1.1.cell 11 (.int .u64 0) rfl; have d12 := HK.out.1.1.cell 12 (.slice none 0 0) rfl; have d13 := HK.out.1.1.cell 13 (.slice none 0 0) rfl; have n1 := HGE.out.2.1
  have n2 := HGE.out.2.2.1; have HZ := Qb HK.out.1.2.1; have HBB := Qb HK.out.2; go_wp2_with (refine Qh rfl 46 (.tmp 2) (.tmp 54) rfl g1 _ #[.int .i64 2, .int .u64 (r.l : Int), .int .i64 r.t, .int .u64 (r.p : Int), .int .i64 r.c.k, .int .i64 r.c.pg, .int .i64 r.c.sl, .string r.c.o, .string r.c.n, .int .u64 (r.n : Int), .int .i64 0, .int .u64 0, .slice none 0 0, .slice none 0 0] rfl rfl HZ.out Qaa rfl (by simp [Value.oneCell']) ?_); intro w9 hr9 hk9 _; have HB := Qb (hk9 _ _ HBB.out HGE.out.2.2.2); have HROW := Qb hr9; clear hr9 hk9 HZ HBB HK d0 d1 d2 d3 d4 d5 d6 d7 d8 d9 d10 d11 d12 d13 c0 ; go_wp2; (try simp only [Exit.inBlock, Exit.then]); refine bodyPost_ret (Qdb rfl _ _ g1 #[.int .i64 2, .int .u64 (r.l : Int), .int .i64 r.t, .int .u64 (r.p : Int), .int .i64 r.c.k, .int .i64 r.c.pg, .int .i64 r.c.sl, .string r.c.o, .string r.c.n, .int .u64 (r.n : Int), .int .i64 0, .int .u64 0, .slice none 0 0, .slice none 0 0] _ rfl HROW.out Try.underlying46 rfl Qaa) rfl ?_; refine ⟨?_, HB.out⟩; apply congrArg Ending.returned; apply congrArg Value.agg; unfold rcA Rec.used uV; simp [hk]
theorem uV_in {w : World} {r : Rec} {va vb : Value} (h : Qwb w r va vb) : Qwb w r.used (uV r va) (uV r vb) := by
  by_cases hk : r.k = 8
  · have e1 : r.used.ts = r.ts := by unfold Rec.used; simp [hk]
    have e2 : r.used.ds = r.ds := by unfold Rec.used; simp [hk]
    have e3 : ∀ v, uV r v = v := fun v => by unfold uV; rw [if_pos hk]
    unfold Qwb at h |-; rw [e1, e2, e3, e3]; exact h
  · have e1 : r.used.ts = [] := by unfold Rec.used; simp [hk]
    have e2 : r.used.ds = [] := by unfold Rec.used; simp [hk]
    have e3 : ∀ v, uV r v = .slice none 0 0 := fun v => by unfold uV; rw [if_neg hk]
    unfold Qwb; rw [e1, e2, e3, e3]; exact ⟨⟨none, 0, rfl, fun h => absurd h (by simp)⟩, ⟨none, 0, rfl, fun h => absurd h (by simp)⟩⟩
theorem used_any (r : Rec) (va vb : Value) (w : World) (hk : 1 <= r.k /\ r.k <= 8) (hin : Qwb w r va vb) :
    Calls Try.prog 63 #[.agg (rcA r va vb)] w fun e w' => e = .returned (.agg (rcA r.used (uV r va) (uV r vb))) /\ Below w.heap.size w w' := by
  by_cases h1 : r.k = 1
  · exact used_1 r va vb w h1 hin
  by_cases h2 : r.k = 2
  · exact used_2 r va vb w h2 hin
  by_cases h3 : r.k = 3
  · exact used_3 r va vb w h3 hin
  by_cases h4 : r.k = 4
  · exact used_4 r va vb w h4 hin
  by_cases h5 : r.k = 5
  · exact used_5 r va vb w h5 hin
  by_cases h6 : r.k = 6
  · exact used_6 r va vb w h6 hin
  by_cases h7 : r.k = 7
  · exact used_7 r va vb w h7 hin
  exact used_8 r va vb w (by omega) hin
set_option linter.unusedVariables false
def mkS (l : List UInt8) : ByteArray := ⟨l.toArray⟩
theorem mkS_append (a b : List UInt8) : mkS a ++ mkS b = mkS (a ++ b) := Qdk a b
theorem mkS_size (l : List UInt8) : (mkS l).size = l.length := size_mk l
theorem run_add_s (a b : ByteArray) (h : a.size + b.size <= 100000) (x : World) : (binOp .add 9 (.string a) (.string b)).run Try.prog x = .ok (.string (a ++ b)) x := by
  simp [binOp, Op.stringOp]; omega
theorem add_guard (x y : Operand) (a b : ByteArray) (w : World) : (eqGuard .add 9 x y (.string a) (.string b)).run Try.prog w = .ok () w := by
  simp [eqGuard]
end Go.Proofs.Ytkgniegdefaieaa
