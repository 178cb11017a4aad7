/-
  Texts that lean on one another, one behind the other: each opens with its own remark.
-/
import Derived.Test.YtdjhcbiejpjkmaaProg
import Derived.WalkSpells
import Derived.ArgAppend
import Derived.Deep.RegionLawGrows
import Derived.Laws.AppendOwn
import Derived.Laws.AppendOwnNone
import Derived.Lib.AppendStr
import Derived.Lib.AppendZerosOnto
import Derived.Laws.CopyOwn
import Derived.Room.AppendFits
import Derived.Laws.OwnMore
import Derived.Laws.CopyRow
import Derived.Deep.MidRow
import Derived.Deep.RegionHeld3
import Derived.Test.YtdjhcbiejpjkmaaK00
import Derived.Test.YtdjhcbiejpjkmaaK01

namespace Go.Proofs.Ytdjhcbiejpjkmaa
open Go.RowKit
set_option linter.unusedVariables false
set_option maxRecDepth 8000
set_option maxHeartbeats 25600000
theorem Qwl (t : Int) (w : World) (q : Bool) (Hq : Hid (decide (1 <= t /\ t <= 1048575) = q)) :
    Calls Try.prog 80 #[.int .i64 t] w fun e w' => e = .returned (.bool q) /\ w = w' := by
  by_cases h1 : 1 <= t
  case neg =>
    obtain rfl : q = false := by rw [<- Hq.out]; exact decide_eq_false (fun h => by omega)
    clear Hq; go_enter Try.func80, Try.ntmps80; go_wp2; go_ret; exact ⟨by (first | rfl | (apply congrArg Ending.returned; apply congrArg Value.bool; first | (apply decide_eq_false; omega) | (apply decide_eq_true; omega))), rfl⟩
  by_cases h2 : t <= 1048575
  case neg =>
    obtain rfl : q = false := by rw [<- Hq.out]; exact decide_eq_false (fun h => by omega)
    clear Hq; go_enter Try.func80, Try.ntmps80; go_wp2; go_ret; exact ⟨by (first | rfl | (apply congrArg Ending.returned; apply congrArg Value.bool; first | (apply decide_eq_false; omega) | (apply decide_eq_true; omega))), rfl⟩
  obtain rfl : q = true := by rw [<- Hq.out]; exact decide_eq_true (by omega)
  clear Hq; go_enter Try.func80, Try.ntmps80; go_wp2; go_ret; exact ⟨by (first | rfl | (apply congrArg Ending.returned; apply congrArg Value.bool; first | (apply decide_eq_false; omega) | (apply decide_eq_true; omega))), rfl⟩
theorem Qnj (n l : Nat) (w : World) (q : Bool) (Hq : Hid (decide (1 <= n /\ n < l) = q)) :
    Calls Try.prog 71 #[.int .u64 (n : Int), .int .u64 (l : Int)] w fun e w' => e = .returned (.bool q) /\ w = w' := by
  by_cases h1 : (1 : Int) <= (n : Int)
  case neg =>
    obtain rfl : q = false := by rw [<- Hq.out]; exact decide_eq_false (fun h => by omega)
    clear Hq; go_enter Try.func71, Try.ntmps71; go_wp2; go_ret; exact ⟨by (first | rfl | (apply congrArg Ending.returned; apply congrArg Value.bool; first | (apply decide_eq_false; omega) | (apply decide_eq_true; omega))), rfl⟩
  by_cases h2 : (n : Int) < (l : Int)
  case neg =>
    obtain rfl : q = false := by rw [<- Hq.out]; exact decide_eq_false (fun h => by omega)
    clear Hq; go_enter Try.func71, Try.ntmps71; go_wp2; go_ret; exact ⟨by (first | rfl | (apply congrArg Ending.returned; apply congrArg Value.bool; first | (apply decide_eq_false; omega) | (apply decide_eq_true; omega))), rfl⟩
  obtain rfl : q = true := by rw [<- Hq.out]; exact decide_eq_true (by omega)
  clear Hq; go_enter Try.func71, Try.ntmps71; go_wp2; go_ret; exact ⟨by (first | rfl | (apply congrArg Ending.returned; apply congrArg Value.bool; first | (apply decide_eq_false; omega) | (apply decide_eq_true; omega))), rfl⟩
theorem Qbf (r : Rec) (va vb : Value) (w : World) (q : Bool) (Hq : Hid (decide (1 <= r.t /\ r.t <= 1048575 /\ r.p < r.l) = q)) :
    Calls Try.prog 69 #[.agg (rcA r va vb)] w fun e w' => e = .returned (.bool q) /\ Below w.heap.size w w' := by
  have K0 := Qx.one w 45 (rcA r va vb); obtain ⟨-, c1, c2, c3, -⟩ := Qda K0.1.1; have hb0 := K0.2; clear K0; by_cases ht : 1 <= r.t /\ r.t <= 1048575
  case neg =>
    have H := Qc (fun w => Qwl r.t w false (Qc (decide_eq_false ht))); obtain rfl : q = false := by rw [<- Hq.out]; exact decide_eq_false (fun h => ht ⟨h.1, h.2.1⟩)
    clear Hq ht; go_enter Try.func69, Try.ntmps69; go_wp2_with fail; refine (H.out _).mono ?_; rintro e w1 ⟨rfl, rfl⟩; clear H; go_wp2; go_ret; exact ⟨by (first | rfl | (apply congrArg Ending.returned; apply congrArg Value.bool; first | (apply decide_eq_false; omega) | (apply decide_eq_true; omega))), hb0⟩
  have H := Qc (fun w => Qwl r.t w true (Qc (decide_eq_true ht))); by_cases h3 : (r.p : Int) < (r.l : Int)
  case neg =>
    obtain rfl : q = false := by rw [<- Hq.out]; exact decide_eq_false (fun h => by omega)
    clear Hq ht; go_enter Try.func69, Try.ntmps69; go_wp2_with fail; refine (H.out _).mono ?_; rintro e w1 ⟨rfl, rfl⟩; clear H; go_wp2; go_ret; exact ⟨by (first | rfl | (apply congrArg Ending.returned; apply congrArg Value.bool; first | (apply decide_eq_false; omega) | (apply decide_eq_true; omega))), hb0⟩
  obtain rfl : q = true := by rw [<- Hq.out]; exact decide_eq_true ⟨ht.1, ht.2, by omega⟩
  clear Hq ht; go_enter Try.func69, Try.ntmps69; go_wp2_with fail; refine (H.out _).mono ?_; rintro e w1 ⟨rfl, rfl⟩; clear H; go_wp2; go_ret; exact ⟨by (first | rfl | (apply congrArg Ending.returned; apply congrArg Value.bool; first | (apply decide_eq_false; omega) | (apply decide_eq_true; omega))), hb0⟩
theorem Qeu (x : Tx) (l : Nat) (w : World) (q : Bool) (Hq : Hid (q = true ↔ txOk l x)) :
    Calls Try.prog 83 #[.agg (txA x), .int .u64 (l : Int)] w fun e w' => e = .returned (.bool q) /\ Below w.heap.size w w' := by
  have K0 := Qx.one w 109 (txA x); have c0 := K0.1.1.cell 0 (.int .i64 x.t) rfl; have c1 := K0.1.1.cell 1 (.int .i64 x.s) rfl; have c2 := K0.1.1.cell 2 (.int .u64 (x.f : Int)) rfl; have c3 := K0.1.1.cell 3 (.int .u64 (x.l : Int)) rfl; have c4 := K0.1.1.cell 4 (.int .u64 (x.n : Int)) rfl; have hb0 := K0.2; clear K0
  have HF : Hid (¬ txOk l x -> q = false) := fun h => by
    cases q
    · rfl
    · exact absurd (Hq.out.1 rfl) h
  have HT : Hid (txOk l x -> q = true) := fun h => Hq.out.2 h
  clear Hq; by_cases ht : 1 <= x.t /\ x.t <= 1048575
  case neg =>
    have H := Qc (fun w => Qwl x.t w false (Qc (decide_eq_false ht))); obtain rfl := HF.out (fun h => ht ⟨h.1, h.2.1⟩); clear HF HT ht; generalize x.t = xt at *; generalize x.s = xs at *; generalize x.f = xf at *; generalize x.l = xl at *; generalize x.n = xn at *; go_enter Try.func83, Try.ntmps83; go_wp2_with fail; refine (H.out _).mono ?_; rintro e w1 ⟨rfl, rfl⟩; clear H; go_wp2; go_ret; exact ⟨by (first | rfl | (apply congrArg Ending.returned; apply congrArg Value.bool; first | (apply decide_eq_false; omega) | (apply decide_eq_true; omega))), hb0⟩
  have H := Qc (fun w => Qwl x.t w true (Qc (decide_eq_true ht))); by_cases s1 : 1 <= x.s
  case neg =>
    obtain rfl := HF.out (fun h => by obtain ⟨h1, h2, h3, h4, h5, h6, h7, h8⟩ := h; omega); clear HF HT ht; generalize x.t = xt at *; generalize x.s = xs at *; generalize x.f = xf at *; generalize x.l = xl at *; generalize x.n = xn at *; go_enter Try.func83, Try.ntmps83; go_wp2_with fail; refine (H.out _).mono ?_; rintro e w1 ⟨rfl, rfl⟩; clear H; go_wp2; go_ret; exact ⟨by (first | rfl | (apply congrArg Ending.returned; apply congrArg Value.bool; first | (apply decide_eq_false; omega) | (apply decide_eq_true; omega))), hb0⟩
  by_cases s2 : x.s <= 3
  case neg =>
    obtain rfl := HF.out (fun h => by obtain ⟨h1, h2, h3, h4, h5, h6, h7, h8⟩ := h; omega); clear HF HT ht; generalize x.t = xt at *; generalize x.s = xs at *; generalize x.f = xf at *; generalize x.l = xl at *; generalize x.n = xn at *; go_enter Try.func83, Try.ntmps83; go_wp2_with fail; refine (H.out _).mono ?_; rintro e w1 ⟨rfl, rfl⟩; clear H; go_wp2; go_ret; exact ⟨by (first | rfl | (apply congrArg Ending.returned; apply congrArg Value.bool; first | (apply decide_eq_false; omega) | (apply decide_eq_true; omega))), hb0⟩
  by_cases f1 : (1 : Int) <= (x.f : Int)
  case neg =>
    obtain rfl := HF.out (fun h => by obtain ⟨h1, h2, h3, h4, h5, h6, h7, h8⟩ := h; omega); clear HF HT ht; generalize x.t = xt at *; generalize x.s = xs at *; generalize x.f = xf at *; generalize x.l = xl at *; generalize x.n = xn at *; go_enter Try.func83, Try.ntmps83; go_wp2_with fail; refine (H.out _).mono ?_; rintro e w1 ⟨rfl, rfl⟩; clear H; go_wp2; go_ret; exact ⟨by (first | rfl | (apply congrArg Ending.returned; apply congrArg Value.bool; first | (apply decide_eq_false; omega) | (apply decide_eq_true; omega))), hb0⟩
  by_cases f2 : (x.f : Int) <= (x.l : Int)
  case neg =>
    obtain rfl := HF.out (fun h => by obtain ⟨h1, h2, h3, h4, h5, h6, h7, h8⟩ := h; omega); clear HF HT ht; generalize x.t = xt at *; generalize x.s = xs at *; generalize x.f = xf at *; generalize x.l = xl at *; generalize x.n = xn at *; go_enter Try.func83, Try.ntmps83; go_wp2_with fail; refine (H.out _).mono ?_; rintro e w1 ⟨rfl, rfl⟩; clear H; go_wp2; go_ret; exact ⟨by (first | rfl | (apply congrArg Ending.returned; apply congrArg Value.bool; first | (apply decide_eq_false; omega) | (apply decide_eq_true; omega))), hb0⟩
  by_cases l1 : (x.l : Int) < (l : Int)
  case neg =>
    obtain rfl := HF.out (fun h => by obtain ⟨h1, h2, h3, h4, h5, h6, h7, h8⟩ := h; omega); clear HF HT ht; generalize x.t = xt at *; generalize x.s = xs at *; generalize x.f = xf at *; generalize x.l = xl at *; generalize x.n = xn at *; go_enter Try.func83, Try.ntmps83; go_wp2_with fail; refine (H.out _).mono ?_; rintro e w1 ⟨rfl, rfl⟩; clear H; go_wp2; go_ret; exact ⟨by (first | rfl | (apply congrArg Ending.returned; apply congrArg Value.bool; first | (apply decide_eq_false; omega) | (apply decide_eq_true; omega))), hb0⟩
  by_cases n1 : (x.n : Int) <= (x.l : Int)
  case neg =>
    obtain rfl := HF.out (fun h => by obtain ⟨h1, h2, h3, h4, h5, h6, h7, h8⟩ := h; omega); clear HF HT ht; generalize x.t = xt at *; generalize x.s = xs at *; generalize x.f = xf at *; generalize x.l = xl at *; generalize x.n = xn at *; go_enter Try.func83, Try.ntmps83; go_wp2_with fail; refine (H.out _).mono ?_; rintro e w1 ⟨rfl, rfl⟩; clear H; go_wp2; go_ret; exact ⟨by (first | rfl | (apply congrArg Ending.returned; apply congrArg Value.bool; first | (apply decide_eq_false; omega) | (apply decide_eq_true; omega))), hb0⟩
  obtain rfl := HT.out ⟨ht.1, ht.2, s1, s2, by omega, by omega, by omega, by omega⟩; clear HF HT ht; generalize x.t = xt at *; generalize x.s = xs at *; generalize x.f = xf at *; generalize x.l = xl at *; generalize x.n = xn at *; go_enter Try.func83, Try.ntmps83; go_wp2_with fail; refine (H.out _).mono ?_; rintro e w1 ⟨rfl, rfl⟩; clear H; go_wp2; go_ret; exact ⟨by (first | rfl | (apply congrArg Ending.returned; apply congrArg Value.bool; first | (apply decide_eq_false; omega) | (apply decide_eq_true; omega))), hb0⟩
theorem Qey (va : Value) (xs : List Tx) (l : Nat) (w : World) (q : Bool) (Hq : Hid (q = true ↔ xs.length <= 16 /\ ∀ i, i < xs.length -> txAt l xs i)) (hin : TxIn w va xs) :
    Calls Try.prog 72 #[va, .int .u64 (l : Int)] w fun e w' => e = .returned (.bool q) /\ Below w.heap.size w w' := by
  have HIN := Qc hin; obtain ⟨a1, cap1, rfl, -⟩ := hin; have hb0 := Below.refl w.heap.size w
  have HF : Hid (¬ (xs.length <= 16 /\ ∀ i, i < xs.length -> txAt l xs i) -> q = false) := fun h => by
    cases q
    · rfl
    · exact absurd (Hq.out.1 rfl) h
  have HT : Hid (xs.length <= 16 /\ (∀ i, i < xs.length -> txAt l xs i) -> q = true) := fun h => Hq.out.2 h
  clear Hq; by_cases hm : 16 < xs.length
  case pos =>
    obtain rfl := HF.out (fun h => by have := h.1; omega); have i1 : (16 : Int) < (xs.length : Int) := by omega
    clear HF HT HIN; generalize xs.length = n1 at *; go_enter Try.func72, Try.ntmps72; go_wp2; go_ret; exact ⟨rfl, hb0⟩
  have i1 : ¬ (16 : Int) < (xs.length : Int) := by omega
  go_enter Try.func72, Try.ntmps72; go_wp2; go_loopw [13, 5] (fun v u wr => ∃ j : Nat, j <= xs.length /\ v = .int .i64 j /\ (∃ p : Int, u = .int .i64 p /\ (j = 0 -> p = 0) /\ (0 < j -> p = (xs.getD (j - 1) Tx.zero).t)) /\ Below w.heap.size w wr /\ ∀ i, i < j -> txAt l xs i) (fun v _ _ => xs.length - (intOf v).toNat)
  case atStart => exact ⟨0, Nat.zero_le _, rfl, ⟨0, rfl, fun _ => rfl, fun h => absurd h (by omega)⟩, Below.refl _ _, fun i hi => absurd hi (by omega)⟩
  case round =>
    obtain ⟨j, hj, rfl, ⟨p, rfl, hp0, hp1⟩, hb, hat⟩ := hrel; have HAT := Qc hat; have HB := Qc hb; have HP0 := Qc hp0; have HP1 := Qc hp1; clear hat hb hb0 hp0 hp1; by_cases hlt : j < xs.length
    case neg =>
      obtain rfl : j = xs.length := by omega
      obtain rfl := HT.out ⟨by omega, HAT.out⟩; have d3 := HB.out; clear HF HT HAT HIN HB HP0 HP1; go_wp2; go_ret; exact ⟨rfl, d3⟩
    have jlt : (j : Int) < (xs.length : Int) := by omega
    obtain ⟨u1, k1, e1, hrow1⟩ := HIN.out.below HB.out; cases e1; obtain ⟨b, off, rfl, -, hc⟩ := hrow1 (by omega); have HRG := Qc (hc j hlt); clear hrow1 hc; obtain ⟨x, hx⟩ : ∃ x, x = xs.getD j Tx.zero := ⟨_, rfl⟩; have HX := Qc hx; rw [<- hx] at HRG; clear hx; go_wp2_with (first | (refine Qec rfl 109 (.tmp 15) rfl b (off + j * 5) (txA x) rfl HRG.out _ Try.underlying109 rfl Qju ?_) | (refine Qe rfl 109 (.tmp 7) (.tmp 16) rfl wr.heap.size (txA Tx.zero) (txA x) rfl rfl (Qb.new wr 109 (txA Tx.zero)) Qju rfl (Qkq _) ?_)); intro w2 hr2 hk2 _; have HB2 := Qc (HB.out.trans ((hk2 _ _ ((Below.refl wr.heap.size wr).alloc (Nat.le_refl _) _) (Nat.le_refl _)).mono HB.out.size)); have HR2 := Qc hr2; clear hr2 hk2 HB HRG; generalize wr.heap.size = g at *; have c0 := HR2.out.cell 0 (.int .i64 x.t) rfl; by_cases t1 : x.t <= p
    case pos =>
      obtain rfl := HF.out (fun h => by
        have h2 := h.2 j hlt; unfold txAt at h2; rw [<- HX.out] at h2
        by_cases h0 : j = 0
        · have := HP0.out h0; have := h2.1.1; omega
        · have := HP1.out (by omega); have := h2.2 (by omega)
          omega)
      have d3 := HB2.out; clear HF HT HAT HIN HB2 HP0 HP1 HX HR2; generalize x.t = xt at *; go_wp2; go_ret; exact ⟨rfl, d3⟩
    have c1 := HR2.out.cell 1 (.int .i64 x.s) rfl; have c2 := HR2.out.cell 2 (.int .u64 (x.f : Int)) rfl; have c3 := HR2.out.cell 3 (.int .u64 (x.l : Int)) rfl; have c4 := HR2.out.cell 4 (.int .u64 (x.n : Int)) rfl; by_cases ok : txOk l x
    case neg =>
      obtain rfl := HF.out (fun h => ok (by have h2 := (h.2 j hlt).1; rwa [<- HX.out] at h2)); have H := Qc (fun w => Qeu x l w false (Qc ⟨fun h => (nomatch h), fun h => absurd h ok⟩)); have d3 := HB2.out; clear HF HT HAT HIN HB2 HP0 HP1 HX HR2 ok; go_wp2_with fail; refine (H.out _).mono ?_; rintro e w3 ⟨rfl, hb3⟩; have d4 := d3.trans (hb3.mono d3.size); clear hb3 d3 H c0 c1 c2 c3 c4; go_wp2; go_ret; exact ⟨rfl, d4⟩
    have H := Qc (fun w => Qeu x l w true (Qc ⟨fun _ => ok, fun _ => rfl⟩)); have HOK := Qc ok; clear ok; go_wp2_with fail; refine (H.out _).mono ?_; rintro e w3 ⟨rfl, hb3⟩; have HB3 := Qc (HB2.out.trans (hb3.mono HB2.out.size)); have d0 := (HR2.out.later hb3).cell 0 (.int .i64 x.t) rfl; clear hb3 H c0 c1 c2 c3 c4 HR2 HB2; go_wp2; go_roundw
    case rel =>
      refine ⟨j + 1, by omega, by go_num, ⟨x.t, rfl, fun h => absurd h (by omega), fun _ => by rw [HX.out]; rfl⟩, HB3.out, Qdg HAT.out ⟨by rw [<- HX.out]; exact HOK.out, fun h => ?_⟩⟩; rw [<- HX.out, <- HP1.out h]; omega
    case measure => simp [intOf]; omega
theorem rdirty_at (va : Value) (xs : List Di) (l : Nat) (w : World) (q : Bool) (Hq : Hid (q = true ↔ xs.length <= 32 /\ ∀ i, i < xs.length -> Qzaa l xs i)) (hin : DiIn w va xs) :
    Calls Try.prog 73 #[va, .int .u64 (l : Int)] w fun e w' => e = .returned (.bool q) /\ Below w.heap.size w w' := by
  have HIN := Qc hin; obtain ⟨a1, cap1, rfl, -⟩ := hin; have hb0 := Below.refl w.heap.size w
  have HF : Hid (¬ (xs.length <= 32 /\ ∀ i, i < xs.length -> Qzaa l xs i) -> q = false) := fun h => by
    cases q
    · rfl
    · exact absurd (Hq.out.1 rfl) h
  have HT : Hid (xs.length <= 32 /\ (∀ i, i < xs.length -> Qzaa l xs i) -> q = true) := fun h => Hq.out.2 h
  clear Hq; by_cases hm : 32 < xs.length
  case pos =>
    obtain rfl := HF.out (fun h => by have := h.1; omega); have i1 : (32 : Int) < (xs.length : Int) := by omega
    clear HF HT HIN; generalize xs.length = n1 at *; go_enter Try.func73, Try.ntmps73; go_wp2; go_ret; exact ⟨rfl, hb0⟩
  have i1 : ¬ (32 : Int) < (xs.length : Int) := by omega
  go_enter Try.func73, Try.ntmps73; go_wp2; go_loopw [13, 5] (fun v u wr => ∃ j : Nat, j <= xs.length /\ v = .int .i64 j /\ (∃ p : Int, u = .int .i64 p /\ (j = 0 -> p = -1) /\ (0 < j -> p = (xs.getD (j - 1) Di.zero).p)) /\ Below w.heap.size w wr /\ ∀ i, i < j -> Qzaa l xs i) (fun v _ _ => xs.length - (intOf v).toNat)
  case atStart => exact ⟨0, Nat.zero_le _, rfl, ⟨-1, rfl, fun _ => rfl, fun h => absurd h (by omega)⟩, Below.refl _ _, fun i hi => absurd hi (by omega)⟩
  case round =>
    obtain ⟨j, hj, rfl, ⟨p, rfl, hp0, hp1⟩, hb, hat⟩ := hrel; have HAT := Qc hat; have HB := Qc hb; have HP0 := Qc hp0; have HP1 := Qc hp1; clear hat hb hb0 hp0 hp1; by_cases hlt : j < xs.length
    case neg =>
      obtain rfl : j = xs.length := by omega
      obtain rfl := HT.out ⟨by omega, HAT.out⟩; have d3 := HB.out; clear HF HT HAT HIN HB HP0 HP1; go_wp2; go_ret; exact ⟨rfl, d3⟩
    have jlt : (j : Int) < (xs.length : Int) := by omega
    obtain ⟨u1, k1, e1, hrow1⟩ := HIN.out.below HB.out; cases e1; obtain ⟨b, off, rfl, -, hc⟩ := hrow1 (by omega); have HRG := Qc (hc j hlt); clear hrow1 hc; obtain ⟨x, hx⟩ : ∃ x, x = xs.getD j Di.zero := ⟨_, rfl⟩; have HX := Qc hx; rw [<- hx] at HRG; clear hx; go_wp2_with (first | (refine Qec rfl 111 (.tmp 15) rfl b (off + j * 2) (diA x) rfl HRG.out _ Try.underlying111 rfl Qfu ?_) | (refine Qe rfl 111 (.tmp 7) (.tmp 16) rfl wr.heap.size (diA Di.zero) (diA x) rfl rfl (Qb.new wr 111 (diA Di.zero)) Qfu rfl (Qbv _) ?_)); intro w2 hr2 hk2 _; have HB2 := Qc (HB.out.trans ((hk2 _ _ ((Below.refl wr.heap.size wr).alloc (Nat.le_refl _) _) (Nat.le_refl _)).mono HB.out.size)); have HR2 := Qc hr2; clear hr2 hk2 HB HRG; generalize wr.heap.size = g at *; have c0 := HR2.out.cell 0 (.int .i64 x.p) rfl; have c1 := HR2.out.cell 1 (.int .u64 (x.r : Int)) rfl; by_cases t1 : x.p <= p
    case pos =>
      obtain rfl := HF.out (fun h => by
        have h2 := h.2 j hlt; unfold Qzaa at h2; rw [<- HX.out] at h2
        by_cases h0 : j = 0
        · have := HP0.out h0; have := h2.1.1; omega
        · have := HP1.out (by omega); have := h2.2 (by omega)
          omega)
      have d3 := HB2.out; clear HF HT HAT HIN HB2 HP0 HP1 HX HR2; generalize x.p = xp at *; generalize x.r = xr at *; go_wp2; go_ret; exact ⟨rfl, d3⟩
    by_cases t2 : 32 <= x.p
    case pos =>
      obtain rfl := HF.out (fun h => by
        have h2 := (h.2 j hlt).1.2.1; rw [<- HX.out] at h2
        omega)
      have d3 := HB2.out; clear HF HT HAT HIN HB2 HP0 HP1 HX HR2; generalize x.p = xp at *; generalize x.r = xr at *; go_wp2; go_ret; exact ⟨rfl, d3⟩
    by_cases ok : 1 <= x.r /\ x.r < l
    case neg =>
      obtain rfl := HF.out (fun h => ok (by have h2 := (h.2 j hlt).1.2.2; rwa [<- HX.out] at h2)); have H := Qc (fun w => Qnj x.r l w false (Qc (decide_eq_false ok))); have d3 := HB2.out; clear HF HT HAT HIN HB2 HP0 HP1 HX HR2 ok; go_wp2_with fail; refine (H.out _).mono ?_; rintro e w3 ⟨rfl, rfl⟩; clear H c0 c1; go_wp2; go_ret; exact ⟨rfl, d3⟩
    have H := Qc (fun w => Qnj x.r l w true (Qc (decide_eq_true ok))); have HOK := Qc ok; clear ok; go_wp2_with fail; refine (H.out _).mono ?_; rintro e w3 ⟨rfl, rfl⟩; clear H HR2 c1; go_wp2; go_roundw
    case rel =>
      have hp : 0 <= x.p := by
        by_cases h0 : j = 0
        · have := HP0.out h0; omega
        · have h1 := (HAT.out (j - 1) (by omega)).1.1; rw [<- HP1.out (by omega)] at h1; omega
      refine ⟨j + 1, by omega, by go_num, ⟨x.p, rfl, fun h => absurd h (by omega), fun _ => by rw [HX.out]; rfl⟩, HB2.out, Qdg HAT.out ⟨by rw [<- HX.out]; exact ⟨hp, by omega, HOK.out⟩, fun h => ?_⟩⟩; rw [<- HX.out, <- HP1.out h]; omega
    case measure => simp [intOf]; omega
abbrev placeOk (pg sl : Int) : Prop := 0 <= pg /\ pg <= 31 /\ 0 <= sl /\ sl <= 7
theorem Qxq (pg sl : Int) (w : World) (r : Bool) (Hr : Hid (decide (placeOk pg sl) = r)) :
    Calls Try.prog 81 #[.int .i64 pg, .int .i64 sl] w fun e w' => e = .returned (.bool r) /\ w = w' := by
  by_cases h1 : 0 <= pg
  · by_cases h2 : pg < 32
    · by_cases h3 : 0 <= sl
      · by_cases h4 : sl < 8
        · obtain rfl : r = true := by rw [<- Hr.out]; exact decide_eq_true ⟨h1, by omega, h3, by omega⟩
          clear Hr; go_enter Try.func81, Try.ntmps81; go_wp2; go_ret; exact ⟨rfl, rfl⟩
        · obtain rfl : r = false := by rw [<- Hr.out]; exact decide_eq_false (fun h => by omega)
          clear Hr; go_enter Try.func81, Try.ntmps81; go_wp2; go_ret; exact ⟨rfl, rfl⟩
      · obtain rfl : r = false := by rw [<- Hr.out]; exact decide_eq_false (fun h => by omega)
        clear Hr; go_enter Try.func81, Try.ntmps81; go_wp2; go_ret; exact ⟨rfl, rfl⟩
    · obtain rfl : r = false := by rw [<- Hr.out]; exact decide_eq_false (fun h => by omega)
      clear Hr; go_enter Try.func81, Try.ntmps81; go_wp2; go_ret; exact ⟨rfl, rfl⟩
  · obtain rfl : r = false := by rw [<- Hr.out]; exact decide_eq_false (fun h => by omega)
    clear Hr; go_enter Try.func81, Try.ntmps81; go_wp2; go_ret; exact ⟨rfl, rfl⟩
theorem kind_at (c : Ch) (w : World) (r : Bool) (Hr : Hid (decide c.kindOk = r)) :
    Calls Try.prog 82 #[.agg (chA c)] w fun e w' => e = .returned (.bool r) /\ Below w.heap.size w w' := by
  have hb0 : Below w.heap.size w (w.alloc (.cells (chA c) 41)) := (Below.refl _ _).alloc (Nat.le_refl _) _; obtain ⟨a0, a1, a2, a3, a4⟩ := Qwe.all (show Qwe (w.alloc (.cells (chA c) 41)) w.heap.size c from heap_alloc_new w _); clear a1 a2
  by_cases k1 : c.k = 1
  · obtain rfl : c.o.toList.isEmpty = r := by
      rw [<- Hr.out, Bool.eq_iff_iff, Qfb, decide_eq_true_eq]; exact ⟨fun h => .inl ⟨k1, h⟩, fun h => by rcases h with h | h | h <;> omega⟩
    rw [k1] at a0; clear Hr k1; go_enter Try.func82, Try.ntmps82; generalize c.o = o at *; go_wp2; go_ret; exact ⟨rfl, hb0⟩
  · by_cases k3 : c.k = 3
    · obtain rfl : c.n.toList.isEmpty = r := by
        rw [<- Hr.out, Bool.eq_iff_iff, Qfb, decide_eq_true_eq]; exact ⟨fun h => .inr (.inr ⟨k3, h⟩), fun h => by rcases h with h | h | h <;> omega⟩
      rw [k3] at a0; clear Hr k1 k3; go_enter Try.func82, Try.ntmps82; generalize c.n = n at *; go_wp2; go_ret; exact ⟨rfl, hb0⟩
    · by_cases k2 : c.k = 2
      · obtain rfl : r = true := by rw [<- Hr.out]; exact decide_eq_true (.inr (.inl k2))
        rw [k2] at a0; clear Hr k1 k2 k3; go_enter Try.func82, Try.ntmps82; go_wp2; go_ret; exact ⟨rfl, hb0⟩
      · obtain rfl : r = false := by
          rw [<- Hr.out]; exact decide_eq_false (fun h => by rcases h with h | h | h <;> omega)
        have j1 : (c.k == 1) = false := by simpa using k1
        have j2 : (c.k == 2) = false := by simpa using k2
        have j3 : (c.k == 3) = false := by simpa using k3
        clear Hr k1 k2 k3; go_enter Try.func82, Try.ntmps82; generalize c.k = k at *; go_wp2; go_ret; exact ⟨rfl, hb0⟩
theorem Qdk (c : Ch) (w : World) (r : Bool) (Hr : Hid (decide c.right = r)) :
    Calls Try.prog 70 #[.agg (chA c)] w fun e w' => e = .returned (.bool r) /\ Below w.heap.size w w' := by
  have hb0 : Below w.heap.size w (w.alloc (.cells (chA c) 41)) := (Below.refl _ _).alloc (Nat.le_refl _) _; have hc0 : Qwe (w.alloc (.cells (chA c) 41)) w.heap.size c := heap_alloc_new w _; obtain ⟨a0, a1, a2, a3, a4⟩ := hc0.all; have HC := Qc hc0; clear a0 hc0
  by_cases hpl : placeOk c.pg c.sl
  · have HP := Qc (fun w => Qxq c.pg c.sl w true (Qc (decide_eq_true hpl)))
    by_cases h1 : (c.o.size : Int) <= 20
    · by_cases h2 : (c.n.size : Int) <= 20
      · have HK := Qc (fun w => kind_at c w r (Qc (by
          rw [<- Hr.out]
          exact decide_eq_decide.2 ⟨fun h => ⟨⟨hpl.1, hpl.2.1, hpl.2.2.1, hpl.2.2.2, by omega, by omega⟩, h⟩, fun h => h.2⟩)))
        clear Hr hpl; go_enter Try.func70, Try.ntmps70; go_wp2_with fail; refine (HP.out _).mono ?_; rintro e w1 ⟨rfl, rfl⟩; go_wp2_with (refine Qd rfl 41 (.tmp 1) rfl w.heap.size rfl (chA c) HC.out _ Try.underlying41 rfl infoCh ?_); refine (HK.out _).mono ?_; rintro e w2 ⟨rfl, hb2⟩; have d2 := hb0.trans (hb2.mono hb0.size); clear hb2 HC HK HP a1 a2 a3 a4 hb0 h1 h2; go_wp2; go_ret; exact ⟨rfl, d2⟩
      · obtain rfl : r = false := by rw [<- Hr.out]; exact decide_eq_false (fun h => by have := h.1; omega)
        clear Hr hpl; go_enter Try.func70, Try.ntmps70; go_wp2_with fail; refine (HP.out _).mono ?_; rintro e w1 ⟨rfl, rfl⟩; clear HP; go_wp2; go_ret; exact ⟨rfl, hb0⟩
    · obtain rfl : r = false := by rw [<- Hr.out]; exact decide_eq_false (fun h => by have := h.1; omega)
      clear Hr hpl; go_enter Try.func70, Try.ntmps70; go_wp2_with fail; refine (HP.out _).mono ?_; rintro e w1 ⟨rfl, rfl⟩; clear HP; go_wp2; go_ret; exact ⟨rfl, hb0⟩
  · have HP := Qc (fun w => Qxq c.pg c.sl w false (Qc (decide_eq_false hpl))); obtain rfl : r = false := by rw [<- Hr.out]; exact decide_eq_false (fun h => hpl ⟨h.1.1, h.1.2.1, h.1.2.2.1, h.1.2.2.2.1⟩)
    clear Hr hpl; go_enter Try.func70, Try.ntmps70; go_wp2_with fail; refine (HP.out _).mono ?_; rintro e w1 ⟨rfl, rfl⟩; clear HP; go_wp2; go_ret; exact ⟨rfl, hb0⟩
def Rec.uses (r : Rec) : Prop := 1 <= r.k /\ r.k <= 8 /\ (r.k <= 6 -> 1 <= r.t /\ r.t <= 1048575 /\ r.p < r.l) /\ (r.k <= 2 -> r.c.right) /\ (r.k = 2 -> r.n < r.l) /\ (r.k = 6 -> 1 <= r.s /\ r.s <= 8) /\ (r.k = 8 -> r.rows)
def Rec.used (r : Rec) : Rec := ⟨r.k, r.l, if r.k <= 6 then r.t else 0, if r.k <= 6 then r.p else 0, if r.k <= 2 then r.c else Ch.zero, if r.k = 2 then r.n else 0, if r.k = 6 then r.s else 0, if r.k = 8 then r.b else 0, if r.k = 8 then r.ts else [], if r.k = 8 then r.ds else []⟩
theorem Qwk {r : Rec} : r.right ↔ 1 <= r.l /\ r.l <= Qve /\ r.uses /\ r = r.used := by
  constructor
  · intro h; refine ⟨h.l1, h.lm, ⟨h.k1, h.k8, h.own, h.ch, h.next, h.save, h.check⟩, ?_⟩; have h1 := h.none; have h2 := h.noch; have h3 := h.nonext; have h4 := h.nosave; have h5 := h.nocheck; obtain ⟨k, l, t, p, c, n, s, b, ts, ds⟩ := r; simp only at h1 h2 h3 h4 h5; unfold Rec.used; simp only [Rec.mk.injEq, true_and]
    refine ⟨?_, ?_, ?_, ?_, ?_, ?_, ?_, ?_⟩
    · by_cases hk : k <= 6
      · rw [if_pos hk]
      · rw [if_neg hk]; exact (h1 (by omega)).1
    · by_cases hk : k <= 6
      · rw [if_pos hk]
      · rw [if_neg hk]; exact (h1 (by omega)).2
    · by_cases hk : k <= 2
      · rw [if_pos hk]
      · rw [if_neg hk]; exact h2 (by omega)
    · by_cases hk : k = 2
      · rw [if_pos hk]
      · rw [if_neg hk]; exact h3 hk
    · by_cases hk : k = 6
      · rw [if_pos hk]
      · rw [if_neg hk]; exact h4 hk
    · by_cases hk : k = 8
      · rw [if_pos hk]
      · rw [if_neg hk]; exact (h5 hk).1
    · by_cases hk : k = 8
      · rw [if_pos hk]
      · rw [if_neg hk]; exact (h5 hk).2.1
    · by_cases hk : k = 8
      · rw [if_pos hk]
      · rw [if_neg hk]; exact (h5 hk).2.2
  · rintro ⟨h1, h2, ⟨u1, u2, u3, u4, u5, u6, u7⟩, he⟩
    refine ⟨u1, u2, h1, h2, u3, fun hk => ?_, u4, fun hk => ?_, u5, fun hk => ?_, u6, fun hk => ?_, u7, fun hk => ?_⟩
    · constructor
      · rw [he]; show (if r.k <= 6 then r.t else 0) = 0; rw [if_neg (by omega)]
      · rw [he]; show (if r.k <= 6 then r.p else 0) = 0; rw [if_neg (by omega)]
    · rw [he]; show (if r.k <= 2 then r.c else Ch.zero) = Ch.zero; rw [if_neg (by omega)]
    · rw [he]; show (if r.k = 2 then r.n else 0) = 0; rw [if_neg hk]
    · rw [he]; show (if r.k = 6 then r.s else 0) = 0; rw [if_neg hk]
    · refine ⟨?_, ?_, ?_⟩
      · rw [he]; show (if r.k = 8 then r.b else 0) = 0; rw [if_neg hk]
      · rw [he]; show (if r.k = 8 then r.ts else []) = []; rw [if_neg hk]
      · rw [he]; show (if r.k = 8 then r.ds else []) = []; rw [if_neg hk]
theorem Qlh {a b : Int} (h : ¬ a = b) : (a == b) = false := by rw [beq_eq_false_iff_ne]; exact h
theorem uses_1 (r : Rec) (va vb : Value) (w : World) (q : Bool) (Hq : Hid (q = true ↔ r.uses)) (hin : Qcd w r va vb) (hk : r.k = 1) :
    Calls Try.prog 61 #[.agg (rcA r va vb)] w fun e w' => e = .returned (.bool q) /\ Below w.heap.size w w' := by
  have HIN := Qc hin; obtain ⟨⟨e1, cap1, rfl, -⟩, ⟨e2, cap2, rfl, -⟩⟩ := hin; have HK0 := Qc (Qx.one w 45 (rcA r (.slice e1 r.ts.length cap1) (.slice e2 r.ds.length cap2)))
  have HF : Hid (¬ r.uses -> q = false) := fun h => by
    cases q
    · rfl
    · exact absurd (Hq.out.1 rfl) h
  have HT : Hid (r.uses -> q = true) := fun h => Hq.out.2 h
  clear Hq; have c0 := HK0.out.1.1.cell 0 (.int .i64 r.k) rfl; rw [hk] at c0; by_cases ho : 1 <= r.t /\ r.t <= 1048575 /\ r.p < r.l
  case neg =>
    have HO := Qc (fun w => Qbf r (.slice e1 r.ts.length cap1) (.slice e2 r.ds.length cap2) w false (Qc (decide_eq_false ho))); obtain rfl := HF.out (fun h => ho (h.2.2.1 (by omega))); clear ho; go_enter Try.func61, Try.ntmps61; go_wp2_with (refine Qd rfl 45 (.tmp 1) rfl w.heap.size rfl _ HK0.out.1.1 _ Try.underlying45 rfl Qia ?_); refine (HO.out _).mono ?_; rintro e w1 ⟨rfl, hb1⟩; have HK1 := Qc (HK0.out.later hb1); clear HO HK0 hb1 c0; have d := HK1.out.2; clear HK1 HF HT HIN; go_wp2; go_ret; exact ⟨by first | rfl | (apply congrArg Ending.returned; apply congrArg Value.bool; first | (apply decide_eq_false; omega) | (apply decide_eq_true; omega)), d⟩
  have HO := Qc (fun w => Qbf r (.slice e1 r.ts.length cap1) (.slice e2 r.ds.length cap2) w true (Qc (decide_eq_true ho))); have HOW := Qc ho; clear ho; go_enter Try.func61, Try.ntmps61; go_wp2_with (refine Qd rfl 45 (.tmp 1) rfl w.heap.size rfl _ HK0.out.1.1 _ Try.underlying45 rfl Qia ?_); refine (HO.out _).mono ?_; rintro e w1 ⟨rfl, hb1⟩; have HK1 := Qc (HK0.out.later hb1); clear HO HK0 hb1 c0; obtain ⟨d4, d5, d6, d7, d8⟩ := Qbg HK1.out.1.1
  have HR := Qc (fun w => Qdk r.c w q (Qc (by
    by_cases hc : r.c.right
    · rw [HT.out ⟨by omega, by omega, fun _ => HOW.out, fun _ => hc, fun h => absurd h (by omega), fun h => absurd h (by omega), fun h => absurd h (by omega)⟩]; exact decide_eq_true hc
    · rw [HF.out (fun h => hc (h.2.2.2.1 (by omega)))]
      exact decide_eq_false hc)))
  go_wp2_with fail; refine (HR.out _).mono ?_; rintro e w2 ⟨rfl, hb2⟩; have d := (HK1.out.later hb2).2; clear HR HK1 HF HT HIN hb2 HOW d4 d5 d6 d7 d8; go_wp2; go_ret; exact ⟨rfl, d⟩
theorem uses_2 (r : Rec) (va vb : Value) (w : World) (q : Bool) (Hq : Hid (q = true ↔ r.uses)) (hin : Qcd w r va vb) (hk : r.k = 2) :
    Calls Try.prog 61 #[.agg (rcA r va vb)] w fun e w' => e = .returned (.bool q) /\ Below w.heap.size w w' := by
  have HIN := Qc hin; obtain ⟨⟨e1, cap1, rfl, -⟩, ⟨e2, cap2, rfl, -⟩⟩ := hin; have HK0 := Qc (Qx.one w 45 (rcA r (.slice e1 r.ts.length cap1) (.slice e2 r.ds.length cap2)))
  have HF : Hid (¬ r.uses -> q = false) := fun h => by
    cases q
    · rfl
    · exact absurd (Hq.out.1 rfl) h
  have HT : Hid (r.uses -> q = true) := fun h => Hq.out.2 h
  clear Hq; have c0 := HK0.out.1.1.cell 0 (.int .i64 r.k) rfl; rw [hk] at c0; by_cases ho : 1 <= r.t /\ r.t <= 1048575 /\ r.p < r.l
  case neg =>
    have HO := Qc (fun w => Qbf r (.slice e1 r.ts.length cap1) (.slice e2 r.ds.length cap2) w false (Qc (decide_eq_false ho))); obtain rfl := HF.out (fun h => ho (h.2.2.1 (by omega))); clear ho; go_enter Try.func61, Try.ntmps61; go_wp2_with (refine Qd rfl 45 (.tmp 1) rfl w.heap.size rfl _ HK0.out.1.1 _ Try.underlying45 rfl Qia ?_); refine (HO.out _).mono ?_; rintro e w1 ⟨rfl, hb1⟩; have HK1 := Qc (HK0.out.later hb1); clear HO HK0 hb1 c0; have d := HK1.out.2; clear HK1 HF HT HIN; go_wp2; go_ret; exact ⟨by first | rfl | (apply congrArg Ending.returned; apply congrArg Value.bool; first | (apply decide_eq_false; omega) | (apply decide_eq_true; omega)), d⟩
  have HO := Qc (fun w => Qbf r (.slice e1 r.ts.length cap1) (.slice e2 r.ds.length cap2) w true (Qc (decide_eq_true ho))); have HOW := Qc ho; clear ho; go_enter Try.func61, Try.ntmps61; go_wp2_with (refine Qd rfl 45 (.tmp 1) rfl w.heap.size rfl _ HK0.out.1.1 _ Try.underlying45 rfl Qia ?_); refine (HO.out _).mono ?_; rintro e w1 ⟨rfl, hb1⟩; have HK1 := Qc (HK0.out.later hb1); clear HO HK0 hb1 c0; obtain ⟨d4, d5, d6, d7, d8⟩ := Qbg HK1.out.1.1; by_cases hc : r.c.right
  case neg =>
    have HR := Qc (fun w => Qdk r.c w false (Qc (decide_eq_false hc))); obtain rfl := HF.out (fun h => hc (h.2.2.2.1 (by omega))); clear hc; go_wp2_with fail; refine (HR.out _).mono ?_; rintro e w2 ⟨rfl, hb2⟩; have d := (HK1.out.later hb2).2; clear HR HK1 HF HT HIN hb2 HOW d4 d5 d6 d7 d8; go_wp2; go_ret; exact ⟨rfl, d⟩
  have HR := Qc (fun w => Qdk r.c w true (Qc (decide_eq_true hc))); have HC := Qc hc; clear hc; go_wp2_with fail; refine (HR.out _).mono ?_; rintro e w2 ⟨rfl, hb2⟩; have HK2 := Qc (HK1.out.later hb2); clear HR HK1 hb2 d4 d5 d6 d7 d8; have c1 := HK2.out.1.1.cell 1 (.int .u64 (r.l : Int)) rfl; have c9 := HK2.out.1.1.cell 9 (.int .u64 (r.n : Int)) rfl; have d := HK2.out.2; by_cases hn : (r.n : Int) < (r.l : Int)
  case neg =>
    obtain rfl := HF.out (fun h => by have := h.2.2.2.2.1 hk; omega); clear HK2 HF HT HIN HOW HC; go_wp2; go_ret; exact ⟨by first | rfl | (apply congrArg Ending.returned; apply congrArg Value.bool; apply decide_eq_false; omega), d⟩
  obtain rfl := HT.out ⟨by omega, by omega, fun _ => HOW.out, fun _ => HC.out, fun _ => by omega, fun h => absurd h (by omega), fun h => absurd h (by omega)⟩; clear HK2 HF HT HIN HOW HC; go_wp2; go_ret; exact ⟨by first | rfl | (apply congrArg Ending.returned; apply congrArg Value.bool; apply decide_eq_true; omega), d⟩
theorem uses_3 (r : Rec) (va vb : Value) (w : World) (q : Bool) (Hq : Hid (q = true ↔ r.uses)) (hin : Qcd w r va vb) (hk : r.k = 3) :
    Calls Try.prog 61 #[.agg (rcA r va vb)] w fun e w' => e = .returned (.bool q) /\ Below w.heap.size w w' := by
  have HIN := Qc hin; obtain ⟨⟨e1, cap1, rfl, -⟩, ⟨e2, cap2, rfl, -⟩⟩ := hin; have HK0 := Qc (Qx.one w 45 (rcA r (.slice e1 r.ts.length cap1) (.slice e2 r.ds.length cap2)))
  have HF : Hid (¬ r.uses -> q = false) := fun h => by
    cases q
    · rfl
    · exact absurd (Hq.out.1 rfl) h
  have HT : Hid (r.uses -> q = true) := fun h => Hq.out.2 h
  clear Hq; have c0 := HK0.out.1.1.cell 0 (.int .i64 r.k) rfl; rw [hk] at c0; by_cases ho : 1 <= r.t /\ r.t <= 1048575 /\ r.p < r.l
  case neg =>
    have HO := Qc (fun w => Qbf r (.slice e1 r.ts.length cap1) (.slice e2 r.ds.length cap2) w false (Qc (decide_eq_false ho))); obtain rfl := HF.out (fun h => ho (h.2.2.1 (by omega))); clear ho; go_enter Try.func61, Try.ntmps61; go_wp2_with (refine Qd rfl 45 (.tmp 1) rfl w.heap.size rfl _ HK0.out.1.1 _ Try.underlying45 rfl Qia ?_); refine (HO.out _).mono ?_; rintro e w1 ⟨rfl, hb1⟩; have HK1 := Qc (HK0.out.later hb1); clear HO HK0 hb1 c0; have d := HK1.out.2; clear HK1 HF HT HIN; go_wp2; go_ret; exact ⟨by first | rfl | (apply congrArg Ending.returned; apply congrArg Value.bool; first | (apply decide_eq_false; omega) | (apply decide_eq_true; omega)), d⟩
  have HO := Qc (fun w => Qbf r (.slice e1 r.ts.length cap1) (.slice e2 r.ds.length cap2) w true (Qc (decide_eq_true ho))); have HOW := Qc ho; clear ho; obtain rfl := HT.out ⟨by omega, by omega, fun _ => HOW.out, fun h => absurd h (by omega), fun h => absurd h (by omega), fun h => absurd h (by omega), fun h => absurd h (by omega)⟩; go_enter Try.func61, Try.ntmps61; go_wp2_with (refine Qd rfl 45 (.tmp 1) rfl w.heap.size rfl _ HK0.out.1.1 _ Try.underlying45 rfl Qia ?_); refine (HO.out _).mono ?_; rintro e w1 ⟨rfl, hb1⟩; have HK1 := Qc (HK0.out.later hb1); clear HO HK0 hb1 c0; have d := HK1.out.2; clear HK1 HF HT HIN; go_wp2; go_ret; exact ⟨by first | rfl | (apply congrArg Ending.returned; apply congrArg Value.bool; first | (apply decide_eq_false; omega) | (apply decide_eq_true; omega)), d⟩
theorem uses_4 (r : Rec) (va vb : Value) (w : World) (q : Bool) (Hq : Hid (q = true ↔ r.uses)) (hin : Qcd w r va vb) (hk : r.k = 4) :
    Calls Try.prog 61 #[.agg (rcA r va vb)] w fun e w' => e = .returned (.bool q) /\ Below w.heap.size w w' := by
  have HIN := Qc hin; obtain ⟨⟨e1, cap1, rfl, -⟩, ⟨e2, cap2, rfl, -⟩⟩ := hin; have HK0 := Qc (Qx.one w 45 (rcA r (.slice e1 r.ts.length cap1) (.slice e2 r.ds.length cap2)))
  have HF : Hid (¬ r.uses -> q = false) := fun h => by
    cases q
    · rfl
    · exact absurd (Hq.out.1 rfl) h
  have HT : Hid (r.uses -> q = true) := fun h => Hq.out.2 h
  clear Hq; have c0 := HK0.out.1.1.cell 0 (.int .i64 r.k) rfl; rw [hk] at c0; by_cases ho : 1 <= r.t /\ r.t <= 1048575 /\ r.p < r.l
  case neg =>
    have HO := Qc (fun w => Qbf r (.slice e1 r.ts.length cap1) (.slice e2 r.ds.length cap2) w false (Qc (decide_eq_false ho))); obtain rfl := HF.out (fun h => ho (h.2.2.1 (by omega))); clear ho; go_enter Try.func61, Try.ntmps61; go_wp2_with (refine Qd rfl 45 (.tmp 1) rfl w.heap.size rfl _ HK0.out.1.1 _ Try.underlying45 rfl Qia ?_); refine (HO.out _).mono ?_; rintro e w1 ⟨rfl, hb1⟩; have HK1 := Qc (HK0.out.later hb1); clear HO HK0 hb1 c0; have d := HK1.out.2; clear HK1 HF HT HIN; go_wp2; go_ret; exact ⟨by first | rfl | (apply congrArg Ending.returned; apply congrArg Value.bool; first | (apply decide_eq_false; omega) | (apply decide_eq_true; omega)), d⟩
  have HO := Qc (fun w => Qbf r (.slice e1 r.ts.length cap1) (.slice e2 r.ds.length cap2) w true (Qc (decide_eq_true ho))); have HOW := Qc ho; clear ho; obtain rfl := HT.out ⟨by omega, by omega, fun _ => HOW.out, fun h => absurd h (by omega), fun h => absurd h (by omega), fun h => absurd h (by omega), fun h => absurd h (by omega)⟩; go_enter Try.func61, Try.ntmps61; go_wp2_with (refine Qd rfl 45 (.tmp 1) rfl w.heap.size rfl _ HK0.out.1.1 _ Try.underlying45 rfl Qia ?_); refine (HO.out _).mono ?_; rintro e w1 ⟨rfl, hb1⟩; have HK1 := Qc (HK0.out.later hb1); clear HO HK0 hb1 c0; have d := HK1.out.2; clear HK1 HF HT HIN; go_wp2; go_ret; exact ⟨by first | rfl | (apply congrArg Ending.returned; apply congrArg Value.bool; first | (apply decide_eq_false; omega) | (apply decide_eq_true; omega)), d⟩
theorem uses_5 (r : Rec) (va vb : Value) (w : World) (q : Bool) (Hq : Hid (q = true ↔ r.uses)) (hin : Qcd w r va vb) (hk : r.k = 5) :
    Calls Try.prog 61 #[.agg (rcA r va vb)] w fun e w' => e = .returned (.bool q) /\ Below w.heap.size w w' := by
  have HIN := Qc hin; obtain ⟨⟨e1, cap1, rfl, -⟩, ⟨e2, cap2, rfl, -⟩⟩ := hin; have HK0 := Qc (Qx.one w 45 (rcA r (.slice e1 r.ts.length cap1) (.slice e2 r.ds.length cap2)))
  have HF : Hid (¬ r.uses -> q = false) := fun h => by
    cases q
    · rfl
    · exact absurd (Hq.out.1 rfl) h
  have HT : Hid (r.uses -> q = true) := fun h => Hq.out.2 h
  clear Hq; have c0 := HK0.out.1.1.cell 0 (.int .i64 r.k) rfl; rw [hk] at c0; by_cases ho : 1 <= r.t /\ r.t <= 1048575 /\ r.p < r.l
  case neg =>
    have HO := Qc (fun w => Qbf r (.slice e1 r.ts.length cap1) (.slice e2 r.ds.length cap2) w false (Qc (decide_eq_false ho))); obtain rfl := HF.out (fun h => ho (h.2.2.1 (by omega))); clear ho; go_enter Try.func61, Try.ntmps61; go_wp2_with (refine Qd rfl 45 (.tmp 1) rfl w.heap.size rfl _ HK0.out.1.1 _ Try.underlying45 rfl Qia ?_); refine (HO.out _).mono ?_; rintro e w1 ⟨rfl, hb1⟩; have HK1 := Qc (HK0.out.later hb1); clear HO HK0 hb1 c0; have d := HK1.out.2; clear HK1 HF HT HIN; go_wp2; go_ret; exact ⟨by first | rfl | (apply congrArg Ending.returned; apply congrArg Value.bool; first | (apply decide_eq_false; omega) | (apply decide_eq_true; omega)), d⟩
  have HO := Qc (fun w => Qbf r (.slice e1 r.ts.length cap1) (.slice e2 r.ds.length cap2) w true (Qc (decide_eq_true ho))); have HOW := Qc ho; clear ho; obtain rfl := HT.out ⟨by omega, by omega, fun _ => HOW.out, fun h => absurd h (by omega), fun h => absurd h (by omega), fun h => absurd h (by omega), fun h => absurd h (by omega)⟩; go_enter Try.func61, Try.ntmps61; go_wp2_with (refine Qd rfl 45 (.tmp 1) rfl w.heap.size rfl _ HK0.out.1.1 _ Try.underlying45 rfl Qia ?_); refine (HO.out _).mono ?_; rintro e w1 ⟨rfl, hb1⟩; have HK1 := Qc (HK0.out.later hb1); clear HO HK0 hb1 c0; have d := HK1.out.2; clear HK1 HF HT HIN; go_wp2; go_ret; exact ⟨by first | rfl | (apply congrArg Ending.returned; apply congrArg Value.bool; first | (apply decide_eq_false; omega) | (apply decide_eq_true; omega)), d⟩
theorem uses_6 (r : Rec) (va vb : Value) (w : World) (q : Bool) (Hq : Hid (q = true ↔ r.uses)) (hin : Qcd w r va vb) (hk : r.k = 6) :
    Calls Try.prog 61 #[.agg (rcA r va vb)] w fun e w' => e = .returned (.bool q) /\ Below w.heap.size w w' := by
  have HIN := Qc hin; obtain ⟨⟨e1, cap1, rfl, -⟩, ⟨e2, cap2, rfl, -⟩⟩ := hin; have HK0 := Qc (Qx.one w 45 (rcA r (.slice e1 r.ts.length cap1) (.slice e2 r.ds.length cap2)))
  have HF : Hid (¬ r.uses -> q = false) := fun h => by
    cases q
    · rfl
    · exact absurd (Hq.out.1 rfl) h
  have HT : Hid (r.uses -> q = true) := fun h => Hq.out.2 h
  clear Hq; have c0 := HK0.out.1.1.cell 0 (.int .i64 r.k) rfl; rw [hk] at c0; by_cases ho : 1 <= r.t /\ r.t <= 1048575 /\ r.p < r.l
  case neg =>
    have HO := Qc (fun w => Qbf r (.slice e1 r.ts.length cap1) (.slice e2 r.ds.length cap2) w false (Qc (decide_eq_false ho))); obtain rfl := HF.out (fun h => ho (h.2.2.1 (by omega))); clear ho; go_enter Try.func61, Try.ntmps61; go_wp2_with (refine Qd rfl 45 (.tmp 1) rfl w.heap.size rfl _ HK0.out.1.1 _ Try.underlying45 rfl Qia ?_); refine (HO.out _).mono ?_; rintro e w1 ⟨rfl, hb1⟩; have HK1 := Qc (HK0.out.later hb1); clear HO HK0 hb1 c0; have d := HK1.out.2; clear HK1 HF HT HIN; go_wp2; go_ret; exact ⟨by first | rfl | (apply congrArg Ending.returned; apply congrArg Value.bool; first | (apply decide_eq_false; omega) | (apply decide_eq_true; omega)), d⟩
  have HO := Qc (fun w => Qbf r (.slice e1 r.ts.length cap1) (.slice e2 r.ds.length cap2) w true (Qc (decide_eq_true ho))); have HOW := Qc ho; clear ho; go_enter Try.func61, Try.ntmps61; go_wp2_with (refine Qd rfl 45 (.tmp 1) rfl w.heap.size rfl _ HK0.out.1.1 _ Try.underlying45 rfl Qia ?_); refine (HO.out _).mono ?_; rintro e w1 ⟨rfl, hb1⟩; have HK1 := Qc (HK0.out.later hb1); clear HO HK0 hb1 c0; have c10 := HK1.out.1.1.cell 10 (.int .i64 r.s) rfl; by_cases s1 : 1 <= r.s
  case neg =>
    obtain rfl := HF.out (fun h => by have := h.2.2.2.2.2.1 hk; omega); have d := HK1.out.2; clear HK1 HF HT HIN; go_wp2; go_ret; exact ⟨by first | rfl | (apply congrArg Ending.returned; apply congrArg Value.bool; first | (apply decide_eq_false; omega) | (apply decide_eq_true; omega)), d⟩
  by_cases s2 : r.s <= 8
  case neg =>
    obtain rfl := HF.out (fun h => by have := h.2.2.2.2.2.1 hk; omega); have d := HK1.out.2; clear HK1 HF HT HIN; go_wp2; go_ret; exact ⟨by first | rfl | (apply congrArg Ending.returned; apply congrArg Value.bool; first | (apply decide_eq_false; omega) | (apply decide_eq_true; omega)), d⟩
  obtain rfl := HT.out ⟨by omega, by omega, fun _ => HOW.out, fun h => absurd h (by omega), fun h => absurd h (by omega), fun _ => ⟨s1, s2⟩, fun h => absurd h (by omega)⟩; have d := HK1.out.2; clear HK1 HF HT HIN; go_wp2; go_ret; exact ⟨by first | rfl | (apply congrArg Ending.returned; apply congrArg Value.bool; first | (apply decide_eq_false; omega) | (apply decide_eq_true; omega)), d⟩
theorem uses_7 (r : Rec) (va vb : Value) (w : World) (q : Bool) (Hq : Hid (q = true ↔ r.uses)) (hin : Qcd w r va vb) (hk : r.k = 7) :
    Calls Try.prog 61 #[.agg (rcA r va vb)] w fun e w' => e = .returned (.bool q) /\ Below w.heap.size w w' := by
  have HIN := Qc hin; obtain ⟨⟨e1, cap1, rfl, -⟩, ⟨e2, cap2, rfl, -⟩⟩ := hin; have HK0 := Qc (Qx.one w 45 (rcA r (.slice e1 r.ts.length cap1) (.slice e2 r.ds.length cap2)))
  have HF : Hid (¬ r.uses -> q = false) := fun h => by
    cases q
    · rfl
    · exact absurd (Hq.out.1 rfl) h
  have HT : Hid (r.uses -> q = true) := fun h => Hq.out.2 h
  clear Hq; have c0 := HK0.out.1.1.cell 0 (.int .i64 r.k) rfl; rw [hk] at c0; obtain rfl := HT.out ⟨by omega, by omega, fun h => absurd h (by omega), fun h => absurd h (by omega), fun h => absurd h (by omega), fun h => absurd h (by omega), fun h => absurd h (by omega)⟩; have d := HK0.out.2; clear HK0 HF HT HIN; go_enter Try.func61, Try.ntmps61; go_wp2; go_ret; exact ⟨rfl, d⟩
theorem uses_8 (r : Rec) (va vb : Value) (w : World) (q : Bool) (Hq : Hid (q = true ↔ r.uses)) (hin : Qcd w r va vb) (hk : r.k = 8) :
    Calls Try.prog 61 #[.agg (rcA r va vb)] w fun e w' => e = .returned (.bool q) /\ Below w.heap.size w w' := by
  have HIN := Qc hin; obtain ⟨⟨e1, cap1, rfl, -⟩, ⟨e2, cap2, rfl, -⟩⟩ := hin; have HK0 := Qc (Qx.one w 45 (rcA r (.slice e1 r.ts.length cap1) (.slice e2 r.ds.length cap2)))
  have HF : Hid (¬ r.uses -> q = false) := fun h => by
    cases q
    · rfl
    · exact absurd (Hq.out.1 rfl) h
  have HT : Hid (r.uses -> q = true) := fun h => Hq.out.2 h
  clear Hq; have c0 := HK0.out.1.1.cell 0 (.int .i64 r.k) rfl; rw [hk] at c0; have c1 := HK0.out.1.1.cell 1 (.int .u64 (r.l : Int)) rfl; have c11 := HK0.out.1.1.cell 11 (.int .u64 (r.b : Int)) rfl; by_cases hb : 1 <= r.b /\ r.b < r.l
  case neg =>
    have HW := Qc (fun w => Qnj r.b r.l w false (Qc (decide_eq_false hb))); obtain rfl := HF.out (fun h => hb ((h.2.2.2.2.2.2 hk).2.2.2.2)); clear hb; go_enter Try.func61, Try.ntmps61; go_wp2_with fail; refine (HW.out _).mono ?_; rintro e w1 ⟨rfl, rfl⟩; have d := HK0.out.2; clear HK0 HF HT HIN HW; go_wp2; go_ret; exact ⟨rfl, d⟩
  have HW := Qc (fun w => Qnj r.b r.l w true (Qc (decide_eq_true hb))); have HBG := Qc hb; clear hb; have c12 := HK0.out.1.1.cell 12 (.slice e1 r.ts.length cap1) rfl; go_enter Try.func61, Try.ntmps61; go_wp2_with fail; refine (HW.out _).mono ?_; rintro e w1 ⟨rfl, rfl⟩; clear HW; go_wp2_with fail; refine Qwa (fun x => Hid (Qx w x [(w.heap.size, 45, rcA r (.slice e1 r.ts.length cap1) (.slice e2 r.ds.length cap2))])) HK0 ?_; clear HK0 c0 c1 c11 c12; intro x0 HK0; by_cases ht : r.ts.length <= 16 /\ ∀ i, i < r.ts.length -> txAt r.l r.ts i
  case neg =>
    obtain rfl := HF.out (fun h => ht ⟨(h.2.2.2.2.2.2 hk).1, (h.2.2.2.2.2.2 hk).2.2.1⟩); refine (Qey _ r.ts r.l x0 false (Qc ⟨fun h => (nomatch h), fun h => absurd h ht⟩) (HIN.out.below HK0.out.2).1).mono ?_; rintro e w2 ⟨rfl, hb2⟩; have d := (HK0.out.later hb2).2; clear HK0 HF HT HIN hb2 ht HBG; go_wp2; go_ret; exact ⟨rfl, d⟩
  refine (Qey _ r.ts r.l x0 true (Qc ⟨fun _ => ht, fun _ => rfl⟩) (HIN.out.below HK0.out.2).1).mono ?_; rintro e w2 ⟨rfl, hb2⟩; have HK2 := Qc (HK0.out.later hb2); have HTX := Qc ht; clear HK0 hb2 ht; have c1 := HK2.out.1.1.cell 1 (.int .u64 (r.l : Int)) rfl; have c13 := HK2.out.1.1.cell 13 (.slice e2 r.ds.length cap2) rfl
  have HQ2 : Hid (q = true ↔ r.ds.length <= 32 /\ ∀ i, i < r.ds.length -> Qzaa r.l r.ds i) := by
    constructor
    · intro h
      by_cases hd : r.ds.length <= 32 /\ ∀ i, i < r.ds.length -> Qzaa r.l r.ds i
      · exact hd
      · rw [HF.out (fun h => hd ⟨(h.2.2.2.2.2.2 hk).2.1, (h.2.2.2.2.2.2 hk).2.2.2.1⟩)] at h; cases h
    · intro hd; exact HT.out ⟨by omega, by omega, fun h => absurd h (by omega), fun h => absurd h (by omega), fun h => absurd h (by omega), fun h => absurd h (by omega), fun _ => ⟨HTX.out.1, hd.1, HTX.out.2, hd.2, HBG.out.1, HBG.out.2⟩⟩
  go_wp2_with fail; refine (rdirty_at _ r.ds r.l w2 q HQ2 (HIN.out.below HK2.out.2).2).mono ?_; rintro e w3 ⟨rfl, hb3⟩; have d := (HK2.out.later hb3).2; clear HK2 HF HT HIN hb3 HTX HBG HQ2 c1 c13; go_wp2; go_ret; exact ⟨rfl, d⟩
theorem uses_no (r : Rec) (va vb : Value) (w : World) (q : Bool) (Hq : Hid (q = true ↔ r.uses)) (hin : Qcd w r va vb) (hk : r.k < 1 ∨ 8 < r.k) :
    Calls Try.prog 61 #[.agg (rcA r va vb)] w fun e w' => e = .returned (.bool q) /\ Below w.heap.size w w' := by
  have HIN := Qc hin; obtain ⟨⟨e1, cap1, rfl, -⟩, ⟨e2, cap2, rfl, -⟩⟩ := hin; have HK0 := Qc (Qx.one w 45 (rcA r (.slice e1 r.ts.length cap1) (.slice e2 r.ds.length cap2)))
  have HF : Hid (¬ r.uses -> q = false) := fun h => by
    cases q
    · rfl
    · exact absurd (Hq.out.1 rfl) h
  have HT : Hid (r.uses -> q = true) := fun h => Hq.out.2 h
  clear Hq; have c0 := HK0.out.1.1.cell 0 (.int .i64 r.k) rfl; have n1 := Qlh (a := r.k) (b := 1) (by omega); have n2 := Qlh (a := r.k) (b := 2) (by omega); have n3 := Qlh (a := r.k) (b := 3) (by omega); have n4 := Qlh (a := r.k) (b := 4) (by omega); have n5 := Qlh (a := r.k) (b := 5) (by omega); have n6 := Qlh (a := r.k) (b := 6) (by omega); have n7 := Qlh (a := r.k) (b := 7) (by omega); have n8 := Qlh (a := r.k) (b := 8) (by omega); obtain rfl := HF.out (fun h => by have := h.1; have := h.2.1; omega); have d := HK0.out.2; clear HK0 HF HT HIN hk; go_enter Try.func61, Try.ntmps61; go_wp2; go_ret; exact ⟨rfl, d⟩
theorem Qax (r : Rec) (va vb : Value) (w : World) (q : Bool) (Hq : Hid (q = true ↔ r.uses)) (hin : Qcd w r va vb) :
    Calls Try.prog 61 #[.agg (rcA r va vb)] w fun e w' => e = .returned (.bool q) /\ Below w.heap.size w w' := by
  by_cases hk : r.k < 1 ∨ 8 < r.k
  · exact uses_no r va vb w q Hq hin hk
  by_cases h1 : r.k = 1
  · exact uses_1 r va vb w q Hq hin h1
  by_cases h2 : r.k = 2
  · exact uses_2 r va vb w q Hq hin h2
  by_cases h3 : r.k = 3
  · exact uses_3 r va vb w q Hq hin h3
  by_cases h4 : r.k = 4
  · exact uses_4 r va vb w q Hq hin h4
  by_cases h5 : r.k = 5
  · exact uses_5 r va vb w q Hq hin h5
  by_cases h6 : r.k = 6
  · exact uses_6 r va vb w q Hq hin h6
  by_cases h7 : r.k = 7
  · exact uses_7 r va vb w q Hq hin h7
  exact uses_8 r va vb w q Hq hin (by omega)
section
section
variable {P : Program}
theorem Qlv {fn : Func} {p : Tmp} {t : TypeId} (h : fn.results = #[.cell p t]) (tmps : Array Value) (P : Program) (w : World) :
    (results fn tmps).run P w = ((asAddr (tmps.getD p undef)).run P w).andThen fun a w₁ => (loadVar t a).run P w₁ := by
  simp only [results, h]; simp [Sem.run_bind, Result.andThen]
theorem Qlc {fn : Func} {p : Tmp} {t : TypeId} (h : fn.results = #[.cell p t]) (tmps : Array Value) (w : World) (g : Nat) (cs : Array Value) (d : TypeDesc) (hp : tmps.getD p undef = .pointer (some ⟨g, 0, none⟩)) (hg : Qb w g t cs)
    (hu : P.underlying t = some d) (hd : (match d with | .struct _ | .array _ _ => true | _ => false) = true) (hi : (P.info? t).map (·.size) = some cs.size) :
    (results fn tmps).run P w = .ok (.agg cs) w := by
  have h1 := run_loadVar_row (P := P) w g t t cs (0, 0) d hg hu hd hi; rw [Qlv h, hp]; simp only [asAddr, Sem.run_pure, Result.andThen_ok, h1]
end
end
theorem Qx.setTop {w x : World} {g : Nat} {t : TypeId} {cs : Array Value} {l : List (Nat × TypeId × Array Value)} (h : Qx w x ((g, t, cs) :: l)) (hg : w.heap.size <= g) (hl : ∀ e ∈ l, e.1 ≠ g) (j : Nat) (v : Value) : Qx w (x.setCell ⟨g, j, none⟩ v) ((g, t, cs.setIfInBounds j v) :: l) := by
  refine ⟨⟨h.1.1.set j v, ?_⟩, h.2.setCell hg v⟩
  have : ∀ l : List (Nat × TypeId × Array Value), (∀ e ∈ l, e.1 ≠ g) -> Has x l -> Has (x.setCell ⟨g, j, none⟩ v) l := by
    intro l
    induction l with
    | nil => exact fun _ _ => trivial
    | cons e l ih => exact fun hl hh => ⟨hh.1.other _ _ (hl e (by simp)), ih (fun e he => hl e (by simp [he])) hh.2⟩
  exact this l hl h.1.2
theorem row_there {w : World} {g : Nat} {t : TypeId} {cs : Array Value} (h : Qb w g t cs) (o n : Nat) (hn : o + n <= cs.size) : w.there g o n := fun j hj => ⟨by rw [h.cell (o + j) _ (Array.getElem?_eq_getElem (by omega))]; rfl, h.free _⟩
def uV (r : Rec) (v : Value) : Value := if r.k = 8 then v else .slice none 0 0
theorem _root_.Go.RowKit.Below.set1 {B : Nat} {w w' : World} (h : Below B w w') {g : Nat} (hg : B <= g) (j : Nat) (v : Value) : Below B w (w'.setCell ⟨g, j, none⟩ v) := h.setCell hg v
theorem used_1 (r : Rec) (va vb : Value) (w : World) (hk : r.k = 1) (hin : Qcd w r va vb) :
    Calls Try.prog 63 #[.agg (rcA r va vb)] w fun e w' => e = .returned (.agg (rcA r.used (uV r va) (uV r vb))) /\ Below w.heap.size w w' := by
  have HIN := Qc hin; obtain ⟨⟨e1, cap1, rfl, -⟩, ⟨e2, cap2, rfl, -⟩⟩ := hin; have HK0 := Qc (Qx.two w 45 45 (rcA r (.slice e1 r.ts.length cap1) (.slice e2 r.ds.length cap2)) #[.int .i64 0, .int .u64 0, .int .i64 0, .int .u64 0, .int .i64 0, .int .i64 0, .int .i64 0, .string ⟨#[]⟩, .string ⟨#[]⟩, .int .u64 0, .int .i64 0, .int .u64 0, .slice none 0 0, .slice none 0 0]); have c0 := HK0.out.1.2.1.cell 0 (.int .i64 r.k) rfl; have c1 := HK0.out.1.2.1.cell 1 (.int .u64 (r.l : Int)) rfl; rw [hk] at c0; obtain ⟨A, hA⟩ : ∃ A, A = rcA r (.slice e1 r.ts.length cap1) (.slice e2 r.ds.length cap2) := ⟨_, rfl⟩; rw [<- hA] at HK0 c0 c1 |-; have HA := Qc hA; clear hA; have HK3 := Qc (Qx.three w 45 45 45 A #[.int .i64 0, .int .u64 0, .int .i64 0, .int .u64 0, .int .i64 0, .int .i64 0, .int .i64 0, .string ⟨#[]⟩, .string ⟨#[]⟩, .int .u64 0, .int .i64 0, .int .u64 0, .slice none 0 0, .slice none 0 0] #[.int .i64 1, .int .u64 (r.l : Int), .int .i64 0, .int .u64 0, .int .i64 0, .int .i64 0, .int .i64 0, .string ⟨#[]⟩, .string ⟨#[]⟩, .int .u64 0, .int .i64 0, .int .u64 0, .slice none 0 0, .slice none 0 0]); have c03 := HK3.out.1.2.2.1.cell 0 (.int .i64 1) (by rw [HA.out, <- hk]; rfl); go_enter Try.func63, Try.ntmps63; go_wp2_with fail; refine Qde (fun x => Hid (Qx w x [(w.heap.size + 1 + 1, 45, #[.int .i64 1, .int .u64 (r.l : Int), .int .i64 0, .int .u64 0, .int .i64 0, .int .i64 0, .int .i64 0, .string ⟨#[]⟩, .string ⟨#[]⟩, .int .u64 0, .int .i64 0, .int .u64 0, .slice none 0 0, .slice none 0 0]), (w.heap.size + 1, 45, #[.int .i64 0, .int .u64 0, .int .i64 0, .int .u64 0, .int .i64 0, .int .i64 0, .int .i64 0, .string ⟨#[]⟩, .string ⟨#[]⟩, .int .u64 0, .int .i64 0, .int .u64 0, .slice none 0 0, .slice none 0 0]), (w.heap.size, 45, A)])) HK3 ?_; clear HK3 HK0 c0 c1 c03; intro x0 HK; have HGE : Hid (w.heap.size <= w.heap.size + 1 + 1 /\ w.heap.size + 1 ≠ w.heap.size + 1 + 1 /\ w.heap.size ≠ w.heap.size + 1 + 1 /\ w.heap.size <= w.heap.size + 1) := ⟨by omega, by omega, by omega, by omega⟩; revert HK HGE; generalize w.heap.size + 1 + 1 = g2; generalize w.heap.size + 1 = g1; intro HK HGE; have c2 := HK.out.1.2.2.1.cell 2 (.int .i64 r.t) (by rw [HA.out]; rfl); have c3 := HK.out.1.2.2.1.cell 3 (.int .u64 (r.p : Int)) (by rw [HA.out]; rfl); have f2 := HK.out.1.1.free 2; have d2 := HK.out.1.1.cell 2 (.int .i64 0) rfl; have f3 := HK.out.1.1.free 3; have d3 := HK.out.1.1.cell 3 (.int .u64 0) rfl; have n2 := HGE.out.2.2.1; go_region
  have hl : ∀ e ∈ [(g1, 45, #[.int .i64 0, .int .u64 0, .int .i64 0, .int .u64 0, .int .i64 0, .int .i64 0, .int .i64 0, .string ⟨#[]⟩, .string ⟨#[]⟩, .int .u64 0, .int .i64 0, .int .u64 0, .slice none 0 0, .slice none 0 0]), (w.heap.size, 45, A)], e.1 ≠ g2 := by
    intro e he; simp only [List.mem_cons, List.not_mem_nil, or_false] at he
    rcases he with rfl | rfl
    · exact HGE.out.2.1
    · exact HGE.out.2.2.1
  have HK2 : Hid (Qx w ((x0.setCell ⟨g2, 2, none⟩ (.int .i64 r.t)).setCell ⟨g2, 3, none⟩ (.int .u64 (r.p : Int))).drew [(g2, 45, #[.int .i64 1, .int .u64 (r.l : Int), .int .i64 r.t, .int .u64 (r.p : Int), .int .i64 0, .int .i64 0, .int .i64 0, .string ⟨#[]⟩, .string ⟨#[]⟩, .int .u64 0, .int .i64 0, .int .u64 0, .slice none 0 0, .slice none 0 0]), (g1, 45, #[.int .i64 0, .int .u64 0, .int .i64 0, .int .u64 0, .int .i64 0, .int .i64 0, .int .i64 0, .string ⟨#[]⟩, .string ⟨#[]⟩, .int .u64 0, .int .i64 0, .int .u64 0, .slice none 0 0, .slice none 0 0]), (w.heap.size, 45, A)]) := ((HK.out.setTop HGE.out.1 hl 2 (.int .i64 r.t)).setTop HGE.out.1 hl 3 (.int .u64 (r.p : Int))).drew; refine Qhd (fun x => Hid (Qx w x [(g2, 45, #[.int .i64 1, .int .u64 (r.l : Int), .int .i64 r.t, .int .u64 (r.p : Int), .int .i64 0, .int .i64 0, .int .i64 0, .string ⟨#[]⟩, .string ⟨#[]⟩, .int .u64 0, .int .i64 0, .int .u64 0, .slice none 0 0, .slice none 0 0]), (g1, 45, #[.int .i64 0, .int .u64 0, .int .i64 0, .int .u64 0, .int .i64 0, .int .i64 0, .int .i64 0, .string ⟨#[]⟩, .string ⟨#[]⟩, .int .u64 0, .int .i64 0, .int .u64 0, .slice none 0 0, .slice none 0 0]), (w.heap.size, 45, A)])) HK2 ?_; clear HK2 HK hl n2 c2 f2 d2 c3 f3 d3; intro x1 HK; have c0 := HK.out.1.2.2.1.cell 0 (.int .i64 1) (by rw [HA.out, <- hk]; rfl)
  have hl : ∀ e ∈ [(g1, 45, #[.int .i64 0, .int .u64 0, .int .i64 0, .int .u64 0, .int .i64 0, .int .i64 0, .int .i64 0, .string ⟨#[]⟩, .string ⟨#[]⟩, .int .u64 0, .int .i64 0, .int .u64 0, .slice none 0 0, .slice none 0 0]), (w.heap.size, 45, A)], e.1 ≠ g2 := by
    intro e he; simp only [List.mem_cons, List.not_mem_nil, or_false] at he
    rcases he with rfl | rfl
    · exact HGE.out.2.1
    · exact HGE.out.2.2.1
  have HKC : Hid (Qx w (x1.setCells g2 4 (chA r.c).toList) [(g2, 45, #[.int .i64 1, .int .u64 (r.l : Int), .int .i64 r.t, .int .u64 (r.p : Int), .int .i64 r.c.k, .int .i64 r.c.pg, .int .i64 r.c.sl, .string r.c.o, .string r.c.n, .int .u64 0, .int .i64 0, .int .u64 0, .slice none 0 0, .slice none 0 0]), (g1, 45, #[.int .i64 0, .int .u64 0, .int .i64 0, .int .u64 0, .int .i64 0, .int .i64 0, .int .i64 0, .string ⟨#[]⟩, .string ⟨#[]⟩, .int .u64 0, .int .i64 0, .int .u64 0, .slice none 0 0, .slice none 0 0]), (w.heap.size, 45, A)]) := (((((HK.out.setTop HGE.out.1 hl 4 (.int .i64 r.c.k)).setTop HGE.out.1 hl 5 (.int .i64 r.c.pg)).setTop HGE.out.1 hl 6 (.int .i64 r.c.sl)).setTop HGE.out.1 hl 7 (.string r.c.o)).setTop HGE.out.1 hl 8 (.string r.c.n)); have HCH : Hid (x1.rangeAt w.heap.size 4 (chA r.c).toList) := rc_change (show Qb x1 w.heap.size 45 (rcA r (.slice e1 r.ts.length cap1) (.slice e2 r.ds.length cap2)) from by rw [<- HA.out]; exact HK.out.1.2.2.1); have HTH : Hid (x1.there g2 4 5) := row_there HK.out.1.1 4 5 (by show 4 + 5 <= 14; omega); clear hl; go_wp2_with (first | (refine Qec rfl 41 (.tmp 27) rfl w.heap.size 4 (chA r.c) rfl HCH.out _ Try.underlying41 rfl infoCh ?_) | (refine wpList_store_mid rfl 41 (.tmp 29) (.tmp 28) rfl g2 4 (chA r.c) rfl rfl HTH.out infoCh (chA_one _) ?_; refine Qhd (fun x => Hid (Qx w x [(g2, 45, #[.int .i64 1, .int .u64 (r.l : Int), .int .i64 r.t, .int .u64 (r.p : Int), .int .i64 r.c.k, .int .i64 r.c.pg, .int .i64 r.c.sl, .string r.c.o, .string r.c.n, .int .u64 0, .int .i64 0, .int .u64 0, .slice none 0 0, .slice none 0 0]), (g1, 45, #[.int .i64 0, .int .u64 0, .int .i64 0, .int .u64 0, .int .i64 0, .int .i64 0, .int .i64 0, .string ⟨#[]⟩, .string ⟨#[]⟩, .int .u64 0, .int .i64 0, .int .u64 0, .slice none 0 0, .slice none 0 0]), (w.heap.size, 45, A)])) HKC ?_; clear HKC HTH HCH HK c0; intro x9 HK) | (refine Qd rfl 45 (.tmp 3) rfl g2 rfl #[.int .i64 1, .int .u64 (r.l : Int), .int .i64 r.t, .int .u64 (r.p : Int), .int .i64 r.c.k, .int .i64 r.c.pg, .int .i64 r.c.sl, .string r.c.o, .string r.c.n, .int .u64 0, .int .i64 0, .int .u64 0, .slice none 0 0, .slice none 0 0] HK.out.1.1 _ Try.underlying45 rfl Qia ?_) | (refine Qe rfl 45 (.tmp 2) (.tmp 54) rfl g1 _ #[.int .i64 1, .int .u64 (r.l : Int), .int .i64 r.t, .int .u64 (r.p : Int), .int .i64 r.c.k, .int .i64 r.c.pg, .int .i64 r.c.sl, .string r.c.o, .string r.c.n, .int .u64 0, .int .i64 0, .int .u64 0, .slice none 0 0, .slice none 0 0] rfl rfl HK.out.1.2.1 Qia rfl (by simp [Value.oneCell']) ?_))
  intro w9 hr9 hk9 _; have HB := Qc (hk9 _ _ HK.out.2 HGE.out.2.2.2); have HROW := Qc hr9; clear hr9 hk9 HK; go_wp2; (try simp only [Exit.inBlock, Exit.then]); refine bodyPost_ret (Qlc rfl _ _ g1 #[.int .i64 1, .int .u64 (r.l : Int), .int .i64 r.t, .int .u64 (r.p : Int), .int .i64 r.c.k, .int .i64 r.c.pg, .int .i64 r.c.sl, .string r.c.o, .string r.c.n, .int .u64 0, .int .i64 0, .int .u64 0, .slice none 0 0, .slice none 0 0] _ rfl HROW.out Try.underlying45 rfl Qia) rfl ?_; refine ⟨?_, HB.out⟩; apply congrArg Ending.returned; apply congrArg Value.agg; unfold rcA Rec.used uV; simp [hk]
theorem used_3 (r : Rec) (va vb : Value) (w : World) (hk : r.k = 3) (hin : Qcd w r va vb) :
    Calls Try.prog 63 #[.agg (rcA r va vb)] w fun e w' => e = .returned (.agg (rcA r.used (uV r va) (uV r vb))) /\ Below w.heap.size w w' := by
  have HIN := Qc hin; obtain ⟨⟨e1, cap1, rfl, -⟩, ⟨e2, cap2, rfl, -⟩⟩ := hin; have HK0 := Qc (Qx.two w 45 45 (rcA r (.slice e1 r.ts.length cap1) (.slice e2 r.ds.length cap2)) #[.int .i64 0, .int .u64 0, .int .i64 0, .int .u64 0, .int .i64 0, .int .i64 0, .int .i64 0, .string ⟨#[]⟩, .string ⟨#[]⟩, .int .u64 0, .int .i64 0, .int .u64 0, .slice none 0 0, .slice none 0 0]); have c0 := HK0.out.1.2.1.cell 0 (.int .i64 r.k) rfl; have c1 := HK0.out.1.2.1.cell 1 (.int .u64 (r.l : Int)) rfl; rw [hk] at c0; obtain ⟨A, hA⟩ : ∃ A, A = rcA r (.slice e1 r.ts.length cap1) (.slice e2 r.ds.length cap2) := ⟨_, rfl⟩; rw [<- hA] at HK0 c0 c1 |-; have HA := Qc hA; clear hA; have HK3 := Qc (Qx.three w 45 45 45 A #[.int .i64 0, .int .u64 0, .int .i64 0, .int .u64 0, .int .i64 0, .int .i64 0, .int .i64 0, .string ⟨#[]⟩, .string ⟨#[]⟩, .int .u64 0, .int .i64 0, .int .u64 0, .slice none 0 0, .slice none 0 0] #[.int .i64 3, .int .u64 (r.l : Int), .int .i64 0, .int .u64 0, .int .i64 0, .int .i64 0, .int .i64 0, .string ⟨#[]⟩, .string ⟨#[]⟩, .int .u64 0, .int .i64 0, .int .u64 0, .slice none 0 0, .slice none 0 0]); have c03 := HK3.out.1.2.2.1.cell 0 (.int .i64 3) (by rw [HA.out, <- hk]; rfl); go_enter Try.func63, Try.ntmps63; go_wp2_with fail; refine Qde (fun x => Hid (Qx w x [(w.heap.size + 1 + 1, 45, #[.int .i64 3, .int .u64 (r.l : Int), .int .i64 0, .int .u64 0, .int .i64 0, .int .i64 0, .int .i64 0, .string ⟨#[]⟩, .string ⟨#[]⟩, .int .u64 0, .int .i64 0, .int .u64 0, .slice none 0 0, .slice none 0 0]), (w.heap.size + 1, 45, #[.int .i64 0, .int .u64 0, .int .i64 0, .int .u64 0, .int .i64 0, .int .i64 0, .int .i64 0, .string ⟨#[]⟩, .string ⟨#[]⟩, .int .u64 0, .int .i64 0, .int .u64 0, .slice none 0 0, .slice none 0 0]), (w.heap.size, 45, A)])) HK3 ?_; clear HK3 HK0 c0 c1 c03; intro x0 HK; have HGE : Hid (w.heap.size <= w.heap.size + 1 + 1 /\ w.heap.size + 1 ≠ w.heap.size + 1 + 1 /\ w.heap.size ≠ w.heap.size + 1 + 1 /\ w.heap.size <= w.heap.size + 1) := ⟨by omega, by omega, by omega, by omega⟩; revert HK HGE; generalize w.heap.size + 1 + 1 = g2; generalize w.heap.size + 1 = g1; intro HK HGE; have c2 := HK.out.1.2.2.1.cell 2 (.int .i64 r.t) (by rw [HA.out]; rfl); have c3 := HK.out.1.2.2.1.cell 3 (.int .u64 (r.p : Int)) (by rw [HA.out]; rfl); have f2 := HK.out.1.1.free 2; have d2 := HK.out.1.1.cell 2 (.int .i64 0) rfl; have f3 := HK.out.1.1.free 3; have d3 := HK.out.1.1.cell 3 (.int .u64 0) rfl; have n2 := HGE.out.2.2.1; go_region
  have hl : ∀ e ∈ [(g1, 45, #[.int .i64 0, .int .u64 0, .int .i64 0, .int .u64 0, .int .i64 0, .int .i64 0, .int .i64 0, .string ⟨#[]⟩, .string ⟨#[]⟩, .int .u64 0, .int .i64 0, .int .u64 0, .slice none 0 0, .slice none 0 0]), (w.heap.size, 45, A)], e.1 ≠ g2 := by
    intro e he; simp only [List.mem_cons, List.not_mem_nil, or_false] at he
    rcases he with rfl | rfl
    · exact HGE.out.2.1
    · exact HGE.out.2.2.1
  have HK2 : Hid (Qx w ((x0.setCell ⟨g2, 2, none⟩ (.int .i64 r.t)).setCell ⟨g2, 3, none⟩ (.int .u64 (r.p : Int))).drew [(g2, 45, #[.int .i64 3, .int .u64 (r.l : Int), .int .i64 r.t, .int .u64 (r.p : Int), .int .i64 0, .int .i64 0, .int .i64 0, .string ⟨#[]⟩, .string ⟨#[]⟩, .int .u64 0, .int .i64 0, .int .u64 0, .slice none 0 0, .slice none 0 0]), (g1, 45, #[.int .i64 0, .int .u64 0, .int .i64 0, .int .u64 0, .int .i64 0, .int .i64 0, .int .i64 0, .string ⟨#[]⟩, .string ⟨#[]⟩, .int .u64 0, .int .i64 0, .int .u64 0, .slice none 0 0, .slice none 0 0]), (w.heap.size, 45, A)]) := ((HK.out.setTop HGE.out.1 hl 2 (.int .i64 r.t)).setTop HGE.out.1 hl 3 (.int .u64 (r.p : Int))).drew; refine Qhd (fun x => Hid (Qx w x [(g2, 45, #[.int .i64 3, .int .u64 (r.l : Int), .int .i64 r.t, .int .u64 (r.p : Int), .int .i64 0, .int .i64 0, .int .i64 0, .string ⟨#[]⟩, .string ⟨#[]⟩, .int .u64 0, .int .i64 0, .int .u64 0, .slice none 0 0, .slice none 0 0]), (g1, 45, #[.int .i64 0, .int .u64 0, .int .i64 0, .int .u64 0, .int .i64 0, .int .i64 0, .int .i64 0, .string ⟨#[]⟩, .string ⟨#[]⟩, .int .u64 0, .int .i64 0, .int .u64 0, .slice none 0 0, .slice none 0 0]), (w.heap.size, 45, A)])) HK2 ?_; clear HK2 HK hl n2 c2 f2 d2 c3 f3 d3; intro x1 HK; have c0 := HK.out.1.2.2.1.cell 0 (.int .i64 3) (by rw [HA.out, <- hk]; rfl); have d0 := HK.out.1.1.cell 0 (.int .i64 3) rfl; have d1 := HK.out.1.1.cell 1 (.int .u64 (r.l : Int)) rfl; have d2 := HK.out.1.1.cell 2 (.int .i64 r.t) rfl; have d3 := HK.out.1.1.cell 3 (.int .u64 (r.p : Int)) rfl; have d4 := HK.out.1.1.cell 4 (.int .i64 0) rfl; have d5 := HK.out.1.1.cell 5 (.int .i64 0) rfl; have d6 := HK.out.1.1.cell 6 (.int .i64 0) rfl; have d7 := HK.out.1.1.cell 7 (.string ⟨#[]⟩) rfl; have d8 := HK.out.1.1.cell 8 (.string ⟨#[]⟩) rfl; have d9 := HK.out.1.1.cell 9 (.int .u64 0) rfl; have d10 := HK.out.1.1.cell 10 (.int .i64 0) rfl; have d11 := HK.out.1.1.cell 11 (.int .u64 0) rfl; have d12 := HK.out.1.1.cell 12 (.slice none 0 0) rfl; have d13 := HK.out.1.1.cell 13 (.slice none 0 0) rfl; have n1 := HGE.out.2.1; have n2 := HGE.out.2.2.1; have HZ := Qc HK.out.1.2.1; have HBB := Qc HK.out.2; go_wp2_with (refine Qe rfl 45 (.tmp 2) (.tmp 54) rfl g1 _ #[.int .i64 3, .int .u64 (r.l : Int), .int .i64 r.t, .int .u64 (r.p : Int), .int .i64 0, .int .i64 0, .int .i64 0, .string ⟨#[]⟩, .string ⟨#[]⟩, .int .u64 0, .int .i64 0, .int .u64 0, .slice none 0 0, .slice none 0 0] rfl rfl HZ.out Qia rfl (by simp [Value.oneCell']) ?_); intro w9 hr9 hk9 _
  have HB := Qc (hk9 _ _ HBB.out HGE.out.2.2.2); have HROW := Qc hr9; clear hr9 hk9 HZ HBB HK d0 d1 d2 d3 d4 d5 d6 d7 d8 d9 d10 d11 d12 d13 c0 ; go_wp2; (try simp only [Exit.inBlock, Exit.then]); refine bodyPost_ret (Qlc rfl _ _ g1 #[.int .i64 3, .int .u64 (r.l : Int), .int .i64 r.t, .int .u64 (r.p : Int), .int .i64 0, .int .i64 0, .int .i64 0, .string ⟨#[]⟩, .string ⟨#[]⟩, .int .u64 0, .int .i64 0, .int .u64 0, .slice none 0 0, .slice none 0 0] _ rfl HROW.out Try.underlying45 rfl Qia) rfl ?_; refine ⟨?_, HB.out⟩; apply congrArg Ending.returned; apply congrArg Value.agg; unfold rcA Rec.used uV; simp [hk, Ch.zero]
theorem used_4 (r : Rec) (va vb : Value) (w : World) (hk : r.k = 4) (hin : Qcd w r va vb) :
    Calls Try.prog 63 #[.agg (rcA r va vb)] w fun e w' => e = .returned (.agg (rcA r.used (uV r va) (uV r vb))) /\ Below w.heap.size w w' := by
  have HIN := Qc hin; obtain ⟨⟨e1, cap1, rfl, -⟩, ⟨e2, cap2, rfl, -⟩⟩ := hin; have HK0 := Qc (Qx.two w 45 45 (rcA r (.slice e1 r.ts.length cap1) (.slice e2 r.ds.length cap2)) #[.int .i64 0, .int .u64 0, .int .i64 0, .int .u64 0, .int .i64 0, .int .i64 0, .int .i64 0, .string ⟨#[]⟩, .string ⟨#[]⟩, .int .u64 0, .int .i64 0, .int .u64 0, .slice none 0 0, .slice none 0 0]); have c0 := HK0.out.1.2.1.cell 0 (.int .i64 r.k) rfl; have c1 := HK0.out.1.2.1.cell 1 (.int .u64 (r.l : Int)) rfl; rw [hk] at c0; obtain ⟨A, hA⟩ : ∃ A, A = rcA r (.slice e1 r.ts.length cap1) (.slice e2 r.ds.length cap2) := ⟨_, rfl⟩; rw [<- hA] at HK0 c0 c1 |-; have HA := Qc hA; clear hA; have HK3 := Qc (Qx.three w 45 45 45 A #[.int .i64 0, .int .u64 0, .int .i64 0, .int .u64 0, .int .i64 0, .int .i64 0, .int .i64 0, .string ⟨#[]⟩, .string ⟨#[]⟩, .int .u64 0, .int .i64 0, .int .u64 0, .slice none 0 0, .slice none 0 0] #[.int .i64 4, .int .u64 (r.l : Int), .int .i64 0, .int .u64 0, .int .i64 0, .int .i64 0, .int .i64 0, .string ⟨#[]⟩, .string ⟨#[]⟩, .int .u64 0, .int .i64 0, .int .u64 0, .slice none 0 0, .slice none 0 0]); have c03 := HK3.out.1.2.2.1.cell 0 (.int .i64 4) (by rw [HA.out, <- hk]; rfl); go_enter Try.func63, Try.ntmps63; go_wp2_with fail; refine Qde (fun x => Hid (Qx w x [(w.heap.size + 1 + 1, 45, #[.int .i64 4, .int .u64 (r.l : Int), .int .i64 0, .int .u64 0, .int .i64 0, .int .i64 0, .int .i64 0, .string ⟨#[]⟩, .string ⟨#[]⟩, .int .u64 0, .int .i64 0, .int .u64 0, .slice none 0 0, .slice none 0 0]), (w.heap.size + 1, 45, #[.int .i64 0, .int .u64 0, .int .i64 0, .int .u64 0, .int .i64 0, .int .i64 0, .int .i64 0, .string ⟨#[]⟩, .string ⟨#[]⟩, .int .u64 0, .int .i64 0, .int .u64 0, .slice none 0 0, .slice none 0 0]), (w.heap.size, 45, A)])) HK3 ?_; clear HK3 HK0 c0 c1 c03; intro x0 HK; have HGE : Hid (w.heap.size <= w.heap.size + 1 + 1 /\ w.heap.size + 1 ≠ w.heap.size + 1 + 1 /\ w.heap.size ≠ w.heap.size + 1 + 1 /\ w.heap.size <= w.heap.size + 1) := ⟨by omega, by omega, by omega, by omega⟩; revert HK HGE; generalize w.heap.size + 1 + 1 = g2; generalize w.heap.size + 1 = g1; intro HK HGE; have c2 := HK.out.1.2.2.1.cell 2 (.int .i64 r.t) (by rw [HA.out]; rfl); have c3 := HK.out.1.2.2.1.cell 3 (.int .u64 (r.p : Int)) (by rw [HA.out]; rfl); have f2 := HK.out.1.1.free 2; have d2 := HK.out.1.1.cell 2 (.int .i64 0) rfl; have f3 := HK.out.1.1.free 3; have d3 := HK.out.1.1.cell 3 (.int .u64 0) rfl; have n2 := HGE.out.2.2.1; go_region
  have hl : ∀ e ∈ [(g1, 45, #[.int .i64 0, .int .u64 0, .int .i64 0, .int .u64 0, .int .i64 0, .int .i64 0, .int .i64 0, .string ⟨#[]⟩, .string ⟨#[]⟩, .int .u64 0, .int .i64 0, .int .u64 0, .slice none 0 0, .slice none 0 0]), (w.heap.size, 45, A)], e.1 ≠ g2 := by
    intro e he; simp only [List.mem_cons, List.not_mem_nil, or_false] at he
    rcases he with rfl | rfl
    · exact HGE.out.2.1
    · exact HGE.out.2.2.1
  have HK2 : Hid (Qx w ((x0.setCell ⟨g2, 2, none⟩ (.int .i64 r.t)).setCell ⟨g2, 3, none⟩ (.int .u64 (r.p : Int))).drew [(g2, 45, #[.int .i64 4, .int .u64 (r.l : Int), .int .i64 r.t, .int .u64 (r.p : Int), .int .i64 0, .int .i64 0, .int .i64 0, .string ⟨#[]⟩, .string ⟨#[]⟩, .int .u64 0, .int .i64 0, .int .u64 0, .slice none 0 0, .slice none 0 0]), (g1, 45, #[.int .i64 0, .int .u64 0, .int .i64 0, .int .u64 0, .int .i64 0, .int .i64 0, .int .i64 0, .string ⟨#[]⟩, .string ⟨#[]⟩, .int .u64 0, .int .i64 0, .int .u64 0, .slice none 0 0, .slice none 0 0]), (w.heap.size, 45, A)]) := ((HK.out.setTop HGE.out.1 hl 2 (.int .i64 r.t)).setTop HGE.out.1 hl 3 (.int .u64 (r.p : Int))).drew; refine Qhd (fun x => Hid (Qx w x [(g2, 45, #[.int .i64 4, .int .u64 (r.l : Int), .int .i64 r.t, .int .u64 (r.p : Int), .int .i64 0, .int .i64 0, .int .i64 0, .string ⟨#[]⟩, .string ⟨#[]⟩, .int .u64 0, .int .i64 0, .int .u64 0, .slice none 0 0, .slice none 0 0]), (g1, 45, #[.int .i64 0, .int .u64 0, .int .i64 0, .int .u64 0, .int .i64 0, .int .i64 0, .int .i64 0, .string ⟨#[]⟩, .string ⟨#[]⟩, .int .u64 0, .int .i64 0, .int .u64 0, .slice none 0 0, .slice none 0 0]), (w.heap.size, 45, A)])) HK2 ?_; clear HK2 HK hl n2 c2 f2 d2 c3 f3 d3; intro x1 HK; have c0 := HK.out.1.2.2.1.cell 0 (.int .i64 4) (by rw [HA.out, <- hk]; rfl); have d0 := HK.out.1.1.cell 0 (.int .i64 4) rfl; have d1 := HK.out.1.1.cell 1 (.int .u64 (r.l : Int)) rfl; have d2 := HK.out.1.1.cell 2 (.int .i64 r.t) rfl; have d3 := HK.out.1.1.cell 3 (.int .u64 (r.p : Int)) rfl; have d4 := HK.out.1.1.cell 4 (.int .i64 0) rfl; have d5 := HK.out.1.1.cell 5 (.int .i64 0) rfl; have d6 := HK.out.1.1.cell 6 (.int .i64 0) rfl; have d7 := HK.out.1.1.cell 7 (.string ⟨#[]⟩) rfl; have d8 := HK.out.1.1.cell 8 (.string ⟨#[]⟩) rfl; have d9 := HK.out.1.1.cell 9 (.int .u64 0) rfl; have d10 := HK.out.1.1.cell 10 (.int .i64 0) rfl; have d11 := HK.out.1.1.cell 11 (.int .u64 0) rfl; have d12 := HK.out.1.1.cell 12 (.slice none 0 0) rfl; have d13 := HK.out.1.1.cell 13 (.slice none 0 0) rfl; have n1 := HGE.out.2.1; have n2 := HGE.out.2.2.1; have HZ := Qc HK.out.1.2.1; have HBB := Qc HK.out.2; go_wp2_with (refine Qe rfl 45 (.tmp 2) (.tmp 54) rfl g1 _ #[.int .i64 4, .int .u64 (r.l : Int), .int .i64 r.t, .int .u64 (r.p : Int), .int .i64 0, .int .i64 0, .int .i64 0, .string ⟨#[]⟩, .string ⟨#[]⟩, .int .u64 0, .int .i64 0, .int .u64 0, .slice none 0 0, .slice none 0 0] rfl rfl HZ.out Qia rfl (by simp [Value.oneCell']) ?_); intro w9 hr9 hk9 _
  have HB := Qc (hk9 _ _ HBB.out HGE.out.2.2.2); have HROW := Qc hr9; clear hr9 hk9 HZ HBB HK d0 d1 d2 d3 d4 d5 d6 d7 d8 d9 d10 d11 d12 d13 c0 ; go_wp2; (try simp only [Exit.inBlock, Exit.then]); refine bodyPost_ret (Qlc rfl _ _ g1 #[.int .i64 4, .int .u64 (r.l : Int), .int .i64 r.t, .int .u64 (r.p : Int), .int .i64 0, .int .i64 0, .int .i64 0, .string ⟨#[]⟩, .string ⟨#[]⟩, .int .u64 0, .int .i64 0, .int .u64 0, .slice none 0 0, .slice none 0 0] _ rfl HROW.out Try.underlying45 rfl Qia) rfl ?_; refine ⟨?_, HB.out⟩; apply congrArg Ending.returned; apply congrArg Value.agg; unfold rcA Rec.used uV; simp [hk, Ch.zero]
theorem used_5 (r : Rec) (va vb : Value) (w : World) (hk : r.k = 5) (hin : Qcd w r va vb) :
    Calls Try.prog 63 #[.agg (rcA r va vb)] w fun e w' => e = .returned (.agg (rcA r.used (uV r va) (uV r vb))) /\ Below w.heap.size w w' := by
  have HIN := Qc hin; obtain ⟨⟨e1, cap1, rfl, -⟩, ⟨e2, cap2, rfl, -⟩⟩ := hin; have HK0 := Qc (Qx.two w 45 45 (rcA r (.slice e1 r.ts.length cap1) (.slice e2 r.ds.length cap2)) #[.int .i64 0, .int .u64 0, .int .i64 0, .int .u64 0, .int .i64 0, .int .i64 0, .int .i64 0, .string ⟨#[]⟩, .string ⟨#[]⟩, .int .u64 0, .int .i64 0, .int .u64 0, .slice none 0 0, .slice none 0 0]); have c0 := HK0.out.1.2.1.cell 0 (.int .i64 r.k) rfl; have c1 := HK0.out.1.2.1.cell 1 (.int .u64 (r.l : Int)) rfl; rw [hk] at c0; obtain ⟨A, hA⟩ : ∃ A, A = rcA r (.slice e1 r.ts.length cap1) (.slice e2 r.ds.length cap2) := ⟨_, rfl⟩; rw [<- hA] at HK0 c0 c1 |-; have HA := Qc hA; clear hA; have HK3 := Qc (Qx.three w 45 45 45 A #[.int .i64 0, .int .u64 0, .int .i64 0, .int .u64 0, .int .i64 0, .int .i64 0, .int .i64 0, .string ⟨#[]⟩, .string ⟨#[]⟩, .int .u64 0, .int .i64 0, .int .u64 0, .slice none 0 0, .slice none 0 0] #[.int .i64 5, .int .u64 (r.l : Int), .int .i64 0, .int .u64 0, .int .i64 0, .int .i64 0, .int .i64 0, .string ⟨#[]⟩, .string ⟨#[]⟩, .int .u64 0, .int .i64 0, .int .u64 0, .slice none 0 0, .slice none 0 0]); have c03 := HK3.out.1.2.2.1.cell 0 (.int .i64 5) (by rw [HA.out, <- hk]; rfl); go_enter Try.func63, Try.ntmps63; go_wp2_with fail; refine Qde (fun x => Hid (Qx w x [(w.heap.size + 1 + 1, 45, #[.int .i64 5, .int .u64 (r.l : Int), .int .i64 0, .int .u64 0, .int .i64 0, .int .i64 0, .int .i64 0, .string ⟨#[]⟩, .string ⟨#[]⟩, .int .u64 0, .int .i64 0, .int .u64 0, .slice none 0 0, .slice none 0 0]), (w.heap.size + 1, 45, #[.int .i64 0, .int .u64 0, .int .i64 0, .int .u64 0, .int .i64 0, .int .i64 0, .int .i64 0, .string ⟨#[]⟩, .string ⟨#[]⟩, .int .u64 0, .int .i64 0, .int .u64 0, .slice none 0 0, .slice none 0 0]), (w.heap.size, 45, A)])) HK3 ?_; clear HK3 HK0 c0 c1 c03; intro x0 HK; have HGE : Hid (w.heap.size <= w.heap.size + 1 + 1 /\ w.heap.size + 1 ≠ w.heap.size + 1 + 1 /\ w.heap.size ≠ w.heap.size + 1 + 1 /\ w.heap.size <= w.heap.size + 1) := ⟨by omega, by omega, by omega, by omega⟩; revert HK HGE; generalize w.heap.size + 1 + 1 = g2; generalize w.heap.size + 1 = g1; intro HK HGE; have c2 := HK.out.1.2.2.1.cell 2 (.int .i64 r.t) (by rw [HA.out]; rfl); have c3 := HK.out.1.2.2.1.cell 3 (.int .u64 (r.p : Int)) (by rw [HA.out]; rfl); have f2 := HK.out.1.1.free 2; have d2 := HK.out.1.1.cell 2 (.int .i64 0) rfl; have f3 := HK.out.1.1.free 3; have d3 := HK.out.1.1.cell 3 (.int .u64 0) rfl; have n2 := HGE.out.2.2.1; go_region
  have hl : ∀ e ∈ [(g1, 45, #[.int .i64 0, .int .u64 0, .int .i64 0, .int .u64 0, .int .i64 0, .int .i64 0, .int .i64 0, .string ⟨#[]⟩, .string ⟨#[]⟩, .int .u64 0, .int .i64 0, .int .u64 0, .slice none 0 0, .slice none 0 0]), (w.heap.size, 45, A)], e.1 ≠ g2 := by
    intro e he; simp only [List.mem_cons, List.not_mem_nil, or_false] at he
    rcases he with rfl | rfl
    · exact HGE.out.2.1
    · exact HGE.out.2.2.1
  have HK2 : Hid (Qx w ((x0.setCell ⟨g2, 2, none⟩ (.int .i64 r.t)).setCell ⟨g2, 3, none⟩ (.int .u64 (r.p : Int))).drew [(g2, 45, #[.int .i64 5, .int .u64 (r.l : Int), .int .i64 r.t, .int .u64 (r.p : Int), .int .i64 0, .int .i64 0, .int .i64 0, .string ⟨#[]⟩, .string ⟨#[]⟩, .int .u64 0, .int .i64 0, .int .u64 0, .slice none 0 0, .slice none 0 0]), (g1, 45, #[.int .i64 0, .int .u64 0, .int .i64 0, .int .u64 0, .int .i64 0, .int .i64 0, .int .i64 0, .string ⟨#[]⟩, .string ⟨#[]⟩, .int .u64 0, .int .i64 0, .int .u64 0, .slice none 0 0, .slice none 0 0]), (w.heap.size, 45, A)]) := ((HK.out.setTop HGE.out.1 hl 2 (.int .i64 r.t)).setTop HGE.out.1 hl 3 (.int .u64 (r.p : Int))).drew; refine Qhd (fun x => Hid (Qx w x [(g2, 45, #[.int .i64 5, .int .u64 (r.l : Int), .int .i64 r.t, .int .u64 (r.p : Int), .int .i64 0, .int .i64 0, .int .i64 0, .string ⟨#[]⟩, .string ⟨#[]⟩, .int .u64 0, .int .i64 0, .int .u64 0, .slice none 0 0, .slice none 0 0]), (g1, 45, #[.int .i64 0, .int .u64 0, .int .i64 0, .int .u64 0, .int .i64 0, .int .i64 0, .int .i64 0, .string ⟨#[]⟩, .string ⟨#[]⟩, .int .u64 0, .int .i64 0, .int .u64 0, .slice none 0 0, .slice none 0 0]), (w.heap.size, 45, A)])) HK2 ?_; clear HK2 HK hl n2 c2 f2 d2 c3 f3 d3; intro x1 HK; have c0 := HK.out.1.2.2.1.cell 0 (.int .i64 5) (by rw [HA.out, <- hk]; rfl); have d0 := HK.out.1.1.cell 0 (.int .i64 5) rfl; have d1 := HK.out.1.1.cell 1 (.int .u64 (r.l : Int)) rfl; have d2 := HK.out.1.1.cell 2 (.int .i64 r.t) rfl; have d3 := HK.out.1.1.cell 3 (.int .u64 (r.p : Int)) rfl; have d4 := HK.out.1.1.cell 4 (.int .i64 0) rfl; have d5 := HK.out.1.1.cell 5 (.int .i64 0) rfl; have d6 := HK.out.1.1.cell 6 (.int .i64 0) rfl; have d7 := HK.out.1.1.cell 7 (.string ⟨#[]⟩) rfl; have d8 := HK.out.1.1.cell 8 (.string ⟨#[]⟩) rfl; have d9 := HK.out.1.1.cell 9 (.int .u64 0) rfl; have d10 := HK.out.1.1.cell 10 (.int .i64 0) rfl; have d11 := HK.out.1.1.cell 11 (.int .u64 0) rfl; have d12 := HK.out.1.1.cell 12 (.slice none 0 0) rfl; have d13 := HK.out.1.1.cell 13 (.slice none 0 0) rfl; have n1 := HGE.out.2.1; have n2 := HGE.out.2.2.1; have HZ := Qc HK.out.1.2.1; have HBB := Qc HK.out.2; go_wp2_with (refine Qe rfl 45 (.tmp 2) (.tmp 54) rfl g1 _ #[.int .i64 5, .int .u64 (r.l : Int), .int .i64 r.t, .int .u64 (r.p : Int), .int .i64 0, .int .i64 0, .int .i64 0, .string ⟨#[]⟩, .string ⟨#[]⟩, .int .u64 0, .int .i64 0, .int .u64 0, .slice none 0 0, .slice none 0 0] rfl rfl HZ.out Qia rfl (by simp [Value.oneCell']) ?_); intro w9 hr9 hk9 _
  have HB := Qc (hk9 _ _ HBB.out HGE.out.2.2.2); have HROW := Qc hr9; clear hr9 hk9 HZ HBB HK d0 d1 d2 d3 d4 d5 d6 d7 d8 d9 d10 d11 d12 d13 c0 ; go_wp2; (try simp only [Exit.inBlock, Exit.then]); refine bodyPost_ret (Qlc rfl _ _ g1 #[.int .i64 5, .int .u64 (r.l : Int), .int .i64 r.t, .int .u64 (r.p : Int), .int .i64 0, .int .i64 0, .int .i64 0, .string ⟨#[]⟩, .string ⟨#[]⟩, .int .u64 0, .int .i64 0, .int .u64 0, .slice none 0 0, .slice none 0 0] _ rfl HROW.out Try.underlying45 rfl Qia) rfl ?_; refine ⟨?_, HB.out⟩; apply congrArg Ending.returned; apply congrArg Value.agg; unfold rcA Rec.used uV; simp [hk, Ch.zero]
theorem used_6 (r : Rec) (va vb : Value) (w : World) (hk : r.k = 6) (hin : Qcd w r va vb) :
    Calls Try.prog 63 #[.agg (rcA r va vb)] w fun e w' => e = .returned (.agg (rcA r.used (uV r va) (uV r vb))) /\ Below w.heap.size w w' := by
  have HIN := Qc hin; obtain ⟨⟨e1, cap1, rfl, -⟩, ⟨e2, cap2, rfl, -⟩⟩ := hin; have HK0 := Qc (Qx.two w 45 45 (rcA r (.slice e1 r.ts.length cap1) (.slice e2 r.ds.length cap2)) #[.int .i64 0, .int .u64 0, .int .i64 0, .int .u64 0, .int .i64 0, .int .i64 0, .int .i64 0, .string ⟨#[]⟩, .string ⟨#[]⟩, .int .u64 0, .int .i64 0, .int .u64 0, .slice none 0 0, .slice none 0 0]); have c0 := HK0.out.1.2.1.cell 0 (.int .i64 r.k) rfl; have c1 := HK0.out.1.2.1.cell 1 (.int .u64 (r.l : Int)) rfl; rw [hk] at c0; obtain ⟨A, hA⟩ : ∃ A, A = rcA r (.slice e1 r.ts.length cap1) (.slice e2 r.ds.length cap2) := ⟨_, rfl⟩; rw [<- hA] at HK0 c0 c1 |-; have HA := Qc hA; clear hA; have HK3 := Qc (Qx.three w 45 45 45 A #[.int .i64 0, .int .u64 0, .int .i64 0, .int .u64 0, .int .i64 0, .int .i64 0, .int .i64 0, .string ⟨#[]⟩, .string ⟨#[]⟩, .int .u64 0, .int .i64 0, .int .u64 0, .slice none 0 0, .slice none 0 0] #[.int .i64 6, .int .u64 (r.l : Int), .int .i64 0, .int .u64 0, .int .i64 0, .int .i64 0, .int .i64 0, .string ⟨#[]⟩, .string ⟨#[]⟩, .int .u64 0, .int .i64 0, .int .u64 0, .slice none 0 0, .slice none 0 0]); have c03 := HK3.out.1.2.2.1.cell 0 (.int .i64 6) (by rw [HA.out, <- hk]; rfl); go_enter Try.func63, Try.ntmps63; go_wp2_with fail; refine Qde (fun x => Hid (Qx w x [(w.heap.size + 1 + 1, 45, #[.int .i64 6, .int .u64 (r.l : Int), .int .i64 0, .int .u64 0, .int .i64 0, .int .i64 0, .int .i64 0, .string ⟨#[]⟩, .string ⟨#[]⟩, .int .u64 0, .int .i64 0, .int .u64 0, .slice none 0 0, .slice none 0 0]), (w.heap.size + 1, 45, #[.int .i64 0, .int .u64 0, .int .i64 0, .int .u64 0, .int .i64 0, .int .i64 0, .int .i64 0, .string ⟨#[]⟩, .string ⟨#[]⟩, .int .u64 0, .int .i64 0, .int .u64 0, .slice none 0 0, .slice none 0 0]), (w.heap.size, 45, A)])) HK3 ?_; clear HK3 HK0 c0 c1 c03; intro x0 HK; have HGE : Hid (w.heap.size <= w.heap.size + 1 + 1 /\ w.heap.size + 1 ≠ w.heap.size + 1 + 1 /\ w.heap.size ≠ w.heap.size + 1 + 1 /\ w.heap.size <= w.heap.size + 1) := ⟨by omega, by omega, by omega, by omega⟩; revert HK HGE; generalize w.heap.size + 1 + 1 = g2; generalize w.heap.size + 1 = g1; intro HK HGE; have c2 := HK.out.1.2.2.1.cell 2 (.int .i64 r.t) (by rw [HA.out]; rfl); have c3 := HK.out.1.2.2.1.cell 3 (.int .u64 (r.p : Int)) (by rw [HA.out]; rfl); have f2 := HK.out.1.1.free 2; have d2 := HK.out.1.1.cell 2 (.int .i64 0) rfl; have f3 := HK.out.1.1.free 3; have d3 := HK.out.1.1.cell 3 (.int .u64 0) rfl; have n2 := HGE.out.2.2.1; go_region
  have hl : ∀ e ∈ [(g1, 45, #[.int .i64 0, .int .u64 0, .int .i64 0, .int .u64 0, .int .i64 0, .int .i64 0, .int .i64 0, .string ⟨#[]⟩, .string ⟨#[]⟩, .int .u64 0, .int .i64 0, .int .u64 0, .slice none 0 0, .slice none 0 0]), (w.heap.size, 45, A)], e.1 ≠ g2 := by
    intro e he; simp only [List.mem_cons, List.not_mem_nil, or_false] at he
    rcases he with rfl | rfl
    · exact HGE.out.2.1
    · exact HGE.out.2.2.1
  have HK2 : Hid (Qx w ((x0.setCell ⟨g2, 2, none⟩ (.int .i64 r.t)).setCell ⟨g2, 3, none⟩ (.int .u64 (r.p : Int))).drew [(g2, 45, #[.int .i64 6, .int .u64 (r.l : Int), .int .i64 r.t, .int .u64 (r.p : Int), .int .i64 0, .int .i64 0, .int .i64 0, .string ⟨#[]⟩, .string ⟨#[]⟩, .int .u64 0, .int .i64 0, .int .u64 0, .slice none 0 0, .slice none 0 0]), (g1, 45, #[.int .i64 0, .int .u64 0, .int .i64 0, .int .u64 0, .int .i64 0, .int .i64 0, .int .i64 0, .string ⟨#[]⟩, .string ⟨#[]⟩, .int .u64 0, .int .i64 0, .int .u64 0, .slice none 0 0, .slice none 0 0]), (w.heap.size, 45, A)]) := ((HK.out.setTop HGE.out.1 hl 2 (.int .i64 r.t)).setTop HGE.out.1 hl 3 (.int .u64 (r.p : Int))).drew; refine Qhd (fun x => Hid (Qx w x [(g2, 45, #[.int .i64 6, .int .u64 (r.l : Int), .int .i64 r.t, .int .u64 (r.p : Int), .int .i64 0, .int .i64 0, .int .i64 0, .string ⟨#[]⟩, .string ⟨#[]⟩, .int .u64 0, .int .i64 0, .int .u64 0, .slice none 0 0, .slice none 0 0]), (g1, 45, #[.int .i64 0, .int .u64 0, .int .i64 0, .int .u64 0, .int .i64 0, .int .i64 0, .int .i64 0, .string ⟨#[]⟩, .string ⟨#[]⟩, .int .u64 0, .int .i64 0, .int .u64 0, .slice none 0 0, .slice none 0 0]), (w.heap.size, 45, A)])) HK2 ?_; clear HK2 HK hl n2 c2 f2 d2 c3 f3 d3; intro x1 HK; have c0 := HK.out.1.2.2.1.cell 0 (.int .i64 6) (by rw [HA.out, <- hk]; rfl); have c10 := HK.out.1.2.2.1.cell 10 (.int .i64 r.s) (by rw [HA.out]; rfl); have f10 := HK.out.1.1.free 10; have d0 := HK.out.1.1.cell 0 (.int .i64 6) rfl; have d1 := HK.out.1.1.cell 1 (.int .u64 (r.l : Int)) rfl; have d2 := HK.out.1.1.cell 2 (.int .i64 r.t) rfl; have d3 := HK.out.1.1.cell 3 (.int .u64 (r.p : Int)) rfl; have d4 := HK.out.1.1.cell 4 (.int .i64 0) rfl; have d5 := HK.out.1.1.cell 5 (.int .i64 0) rfl; have d6 := HK.out.1.1.cell 6 (.int .i64 0) rfl; have d7 := HK.out.1.1.cell 7 (.string ⟨#[]⟩) rfl; have d8 := HK.out.1.1.cell 8 (.string ⟨#[]⟩) rfl; have d9 := HK.out.1.1.cell 9 (.int .u64 0) rfl; have d10 := HK.out.1.1.cell 10 (.int .i64 0) rfl; have d11 := HK.out.1.1.cell 11 (.int .u64 0) rfl; have d12 := HK.out.1.1.cell 12 (.slice none 0 0) rfl; have d13 := HK.out.1.1.cell 13 (.slice none 0 0) rfl; have n1 := HGE.out.2.1; have n2 := HGE.out.2.2.1; have HZ := Qc (HK.out.1.2.1.other ⟨g2, 10, none⟩ (.int .i64 r.s) HGE.out.2.1); have HBB := Qc (HK.out.2.set1 HGE.out.1 10 (.int .i64 r.s)); go_wp2_with (refine Qe rfl 45 (.tmp 2) (.tmp 54) rfl g1 _ #[.int .i64 6, .int .u64 (r.l : Int), .int .i64 r.t, .int .u64 (r.p : Int), .int .i64 0, .int .i64 0, .int .i64 0, .string ⟨#[]⟩, .string ⟨#[]⟩, .int .u64 0, .int .i64 r.s, .int .u64 0, .slice none 0 0, .slice none 0 0] rfl rfl HZ.out Qia rfl (by simp [Value.oneCell']) ?_)
  intro w9 hr9 hk9 _; have HB := Qc (hk9 _ _ HBB.out HGE.out.2.2.2); have HROW := Qc hr9; clear hr9 hk9 HZ HBB HK d0 d1 d2 d3 d4 d5 d6 d7 d8 d9 d10 d11 d12 d13 c0 c10 f10; go_wp2; (try simp only [Exit.inBlock, Exit.then]); refine bodyPost_ret (Qlc rfl _ _ g1 #[.int .i64 6, .int .u64 (r.l : Int), .int .i64 r.t, .int .u64 (r.p : Int), .int .i64 0, .int .i64 0, .int .i64 0, .string ⟨#[]⟩, .string ⟨#[]⟩, .int .u64 0, .int .i64 r.s, .int .u64 0, .slice none 0 0, .slice none 0 0] _ rfl HROW.out Try.underlying45 rfl Qia) rfl ?_; refine ⟨?_, HB.out⟩; apply congrArg Ending.returned; apply congrArg Value.agg; unfold rcA Rec.used uV; simp [hk, Ch.zero]
theorem used_8 (r : Rec) (va vb : Value) (w : World) (hk : r.k = 8) (hin : Qcd w r va vb) :
    Calls Try.prog 63 #[.agg (rcA r va vb)] w fun e w' => e = .returned (.agg (rcA r.used (uV r va) (uV r vb))) /\ Below w.heap.size w w' := by
  have HIN := Qc hin; obtain ⟨⟨e1, cap1, rfl, -⟩, ⟨e2, cap2, rfl, -⟩⟩ := hin; have HK0 := Qc (Qx.two w 45 45 (rcA r (.slice e1 r.ts.length cap1) (.slice e2 r.ds.length cap2)) #[.int .i64 0, .int .u64 0, .int .i64 0, .int .u64 0, .int .i64 0, .int .i64 0, .int .i64 0, .string ⟨#[]⟩, .string ⟨#[]⟩, .int .u64 0, .int .i64 0, .int .u64 0, .slice none 0 0, .slice none 0 0]); have c0 := HK0.out.1.2.1.cell 0 (.int .i64 r.k) rfl; have c1 := HK0.out.1.2.1.cell 1 (.int .u64 (r.l : Int)) rfl; rw [hk] at c0; obtain ⟨A, hA⟩ : ∃ A, A = rcA r (.slice e1 r.ts.length cap1) (.slice e2 r.ds.length cap2) := ⟨_, rfl⟩; rw [<- hA] at HK0 c0 c1 |-; have HA := Qc hA; clear hA; have HK3 := Qc (Qx.three w 45 45 45 A #[.int .i64 0, .int .u64 0, .int .i64 0, .int .u64 0, .int .i64 0, .int .i64 0, .int .i64 0, .string ⟨#[]⟩, .string ⟨#[]⟩, .int .u64 0, .int .i64 0, .int .u64 0, .slice none 0 0, .slice none 0 0] #[.int .i64 8, .int .u64 (r.l : Int), .int .i64 0, .int .u64 0, .int .i64 0, .int .i64 0, .int .i64 0, .string ⟨#[]⟩, .string ⟨#[]⟩, .int .u64 0, .int .i64 0, .int .u64 0, .slice none 0 0, .slice none 0 0]); have c03 := HK3.out.1.2.2.1.cell 0 (.int .i64 8) (by rw [HA.out, <- hk]; rfl); go_enter Try.func63, Try.ntmps63; go_wp2_with fail; refine Qde (fun x => Hid (Qx w x [(w.heap.size + 1 + 1, 45, #[.int .i64 8, .int .u64 (r.l : Int), .int .i64 0, .int .u64 0, .int .i64 0, .int .i64 0, .int .i64 0, .string ⟨#[]⟩, .string ⟨#[]⟩, .int .u64 0, .int .i64 0, .int .u64 0, .slice none 0 0, .slice none 0 0]), (w.heap.size + 1, 45, #[.int .i64 0, .int .u64 0, .int .i64 0, .int .u64 0, .int .i64 0, .int .i64 0, .int .i64 0, .string ⟨#[]⟩, .string ⟨#[]⟩, .int .u64 0, .int .i64 0, .int .u64 0, .slice none 0 0, .slice none 0 0]), (w.heap.size, 45, A)])) HK3 ?_; clear HK3 HK0 c0 c1 c03; intro x0 HK; have HGE : Hid (w.heap.size <= w.heap.size + 1 + 1 /\ w.heap.size + 1 ≠ w.heap.size + 1 + 1 /\ w.heap.size ≠ w.heap.size + 1 + 1 /\ w.heap.size <= w.heap.size + 1) := ⟨by omega, by omega, by omega, by omega⟩; revert HK HGE; generalize w.heap.size + 1 + 1 = g2; generalize w.heap.size + 1 = g1; intro HK HGE; have c11 := HK.out.1.2.2.1.cell 11 (.int .u64 (r.b : Int)) (by rw [HA.out]; rfl); have c12 := HK.out.1.2.2.1.cell 12 (.slice e1 r.ts.length cap1) (by rw [HA.out]; rfl); have c13 := HK.out.1.2.2.1.cell 13 (.slice e2 r.ds.length cap2) (by rw [HA.out]; rfl); have f11 := HK.out.1.1.free 11; have d11 := HK.out.1.1.cell 11 (.int .u64 0) rfl; have f12 := HK.out.1.1.free 12; have d12 := HK.out.1.1.cell 12 (.slice none 0 0) rfl
  have f13 := HK.out.1.1.free 13; have d13 := HK.out.1.1.cell 13 (.slice none 0 0) rfl; have n2 := HGE.out.2.2.1; go_region
  have hl : ∀ e ∈ [(g1, 45, #[.int .i64 0, .int .u64 0, .int .i64 0, .int .u64 0, .int .i64 0, .int .i64 0, .int .i64 0, .string ⟨#[]⟩, .string ⟨#[]⟩, .int .u64 0, .int .i64 0, .int .u64 0, .slice none 0 0, .slice none 0 0]), (w.heap.size, 45, A)], e.1 ≠ g2 := by
    intro e he; simp only [List.mem_cons, List.not_mem_nil, or_false] at he
    rcases he with rfl | rfl
    · exact HGE.out.2.1
    · exact HGE.out.2.2.1
  have HK2 : Hid (Qx w (((x0.setCell ⟨g2, 11, none⟩ (.int .u64 (r.b : Int))).setCell ⟨g2, 12, none⟩ (.slice e1 r.ts.length cap1)).setCell ⟨g2, 13, none⟩ (.slice e2 r.ds.length cap2)).drew [(g2, 45, #[.int .i64 8, .int .u64 (r.l : Int), .int .i64 0, .int .u64 0, .int .i64 0, .int .i64 0, .int .i64 0, .string ⟨#[]⟩, .string ⟨#[]⟩, .int .u64 0, .int .i64 0, .int .u64 (r.b : Int), .slice e1 r.ts.length cap1, .slice e2 r.ds.length cap2]), (g1, 45, #[.int .i64 0, .int .u64 0, .int .i64 0, .int .u64 0, .int .i64 0, .int .i64 0, .int .i64 0, .string ⟨#[]⟩, .string ⟨#[]⟩, .int .u64 0, .int .i64 0, .int .u64 0, .slice none 0 0, .slice none 0 0]), (w.heap.size, 45, A)]) := (((HK.out.setTop HGE.out.1 hl 11 (.int .u64 (r.b : Int))).setTop HGE.out.1 hl 12 (.slice e1 r.ts.length cap1)).setTop HGE.out.1 hl 13 (.slice e2 r.ds.length cap2)).drew; refine Qhd (fun x => Hid (Qx w x [(g2, 45, #[.int .i64 8, .int .u64 (r.l : Int), .int .i64 0, .int .u64 0, .int .i64 0, .int .i64 0, .int .i64 0, .string ⟨#[]⟩, .string ⟨#[]⟩, .int .u64 0, .int .i64 0, .int .u64 (r.b : Int), .slice e1 r.ts.length cap1, .slice e2 r.ds.length cap2]), (g1, 45, #[.int .i64 0, .int .u64 0, .int .i64 0, .int .u64 0, .int .i64 0, .int .i64 0, .int .i64 0, .string ⟨#[]⟩, .string ⟨#[]⟩, .int .u64 0, .int .i64 0, .int .u64 0, .slice none 0 0, .slice none 0 0]), (w.heap.size, 45, A)])) HK2 ?_; clear HK2 HK hl n2 c11 f11 d11 c12 f12 d12 c13 f13 d13; intro x1 HK; have c0 := HK.out.1.2.2.1.cell 0 (.int .i64 8) (by rw [HA.out, <- hk]; rfl); have d0 := HK.out.1.1.cell 0 (.int .i64 8) rfl; have d1 := HK.out.1.1.cell 1 (.int .u64 (r.l : Int)) rfl; have d2 := HK.out.1.1.cell 2 (.int .i64 0) rfl; have d3 := HK.out.1.1.cell 3 (.int .u64 0) rfl; have d4 := HK.out.1.1.cell 4 (.int .i64 0) rfl; have d5 := HK.out.1.1.cell 5 (.int .i64 0) rfl; have d6 := HK.out.1.1.cell 6 (.int .i64 0) rfl; have d7 := HK.out.1.1.cell 7 (.string ⟨#[]⟩) rfl; have d8 := HK.out.1.1.cell 8 (.string ⟨#[]⟩) rfl; have d9 := HK.out.1.1.cell 9 (.int .u64 0) rfl; have d10 := HK.out.1.1.cell 10 (.int .i64 0) rfl; have d11 := HK.out.1.1.cell 11 (.int .u64 (r.b : Int)) rfl; have d12 := HK.out.1.1.cell 12 (.slice e1 r.ts.length cap1) rfl; have d13 := HK.out.1.1.cell 13 (.slice e2 r.ds.length cap2) rfl; have n1 := HGE.out.2.1; have n2 := HGE.out.2.2.1; have HZ := Qc HK.out.1.2.1; have HBB := Qc HK.out.2; go_wp2_with (refine Qe rfl 45 (.tmp 2) (.tmp 54) rfl g1 _ #[.int .i64 8, .int .u64 (r.l : Int), .int .i64 0, .int .u64 0, .int .i64 0, .int .i64 0, .int .i64 0, .string ⟨#[]⟩, .string ⟨#[]⟩, .int .u64 0, .int .i64 0, .int .u64 (r.b : Int), .slice e1 r.ts.length cap1, .slice e2 r.ds.length cap2] rfl rfl HZ.out Qia rfl (by simp [Value.oneCell']) ?_)
  intro w9 hr9 hk9 _; have HB := Qc (hk9 _ _ HBB.out HGE.out.2.2.2); have HROW := Qc hr9; clear hr9 hk9 HZ HBB HK d0 d1 d2 d3 d4 d5 d6 d7 d8 d9 d10 d11 d12 d13 c0 ; go_wp2; (try simp only [Exit.inBlock, Exit.then]); refine bodyPost_ret (Qlc rfl _ _ g1 #[.int .i64 8, .int .u64 (r.l : Int), .int .i64 0, .int .u64 0, .int .i64 0, .int .i64 0, .int .i64 0, .string ⟨#[]⟩, .string ⟨#[]⟩, .int .u64 0, .int .i64 0, .int .u64 (r.b : Int), .slice e1 r.ts.length cap1, .slice e2 r.ds.length cap2] _ rfl HROW.out Try.underlying45 rfl Qia) rfl ?_; refine ⟨?_, HB.out⟩; apply congrArg Ending.returned; apply congrArg Value.agg; unfold rcA Rec.used uV; simp [hk, Ch.zero]
theorem used_7 (r : Rec) (va vb : Value) (w : World) (hk : r.k = 7) (hin : Qcd w r va vb) :
    Calls Try.prog 63 #[.agg (rcA r va vb)] w fun e w' => e = .returned (.agg (rcA r.used (uV r va) (uV r vb))) /\ Below w.heap.size w w' := by
  have HIN := Qc hin; obtain ⟨⟨e1, cap1, rfl, -⟩, ⟨e2, cap2, rfl, -⟩⟩ := hin; have HK0 := Qc (Qx.two w 45 45 (rcA r (.slice e1 r.ts.length cap1) (.slice e2 r.ds.length cap2)) #[.int .i64 0, .int .u64 0, .int .i64 0, .int .u64 0, .int .i64 0, .int .i64 0, .int .i64 0, .string ⟨#[]⟩, .string ⟨#[]⟩, .int .u64 0, .int .i64 0, .int .u64 0, .slice none 0 0, .slice none 0 0]); have c0 := HK0.out.1.2.1.cell 0 (.int .i64 r.k) rfl; have c1 := HK0.out.1.2.1.cell 1 (.int .u64 (r.l : Int)) rfl; rw [hk] at c0; obtain ⟨A, hA⟩ : ∃ A, A = rcA r (.slice e1 r.ts.length cap1) (.slice e2 r.ds.length cap2) := ⟨_, rfl⟩; rw [<- hA] at HK0 c0 c1 |-; have HA := Qc hA; clear hA; have HK3 := Qc (Qx.three w 45 45 45 A #[.int .i64 0, .int .u64 0, .int .i64 0, .int .u64 0, .int .i64 0, .int .i64 0, .int .i64 0, .string ⟨#[]⟩, .string ⟨#[]⟩, .int .u64 0, .int .i64 0, .int .u64 0, .slice none 0 0, .slice none 0 0] #[.int .i64 7, .int .u64 (r.l : Int), .int .i64 0, .int .u64 0, .int .i64 0, .int .i64 0, .int .i64 0, .string ⟨#[]⟩, .string ⟨#[]⟩, .int .u64 0, .int .i64 0, .int .u64 0, .slice none 0 0, .slice none 0 0]); have HGE : Hid (w.heap.size <= w.heap.size + 1 + 1 /\ w.heap.size + 1 ≠ w.heap.size + 1 + 1 /\ w.heap.size ≠ w.heap.size + 1 + 1 /\ w.heap.size <= w.heap.size + 1) := ⟨by omega, by omega, by omega, by omega⟩; have c03 := HK3.out.1.2.2.1.cell 0 (.int .i64 7) (by rw [HA.out, <- hk]; rfl); have d0 := HK3.out.1.1.cell 0 (.int .i64 7) rfl; have d1 := HK3.out.1.1.cell 1 (.int .u64 (r.l : Int)) rfl; have d2 := HK3.out.1.1.cell 2 (.int .i64 0) rfl; have d3 := HK3.out.1.1.cell 3 (.int .u64 0) rfl; have d4 := HK3.out.1.1.cell 4 (.int .i64 0) rfl; have d5 := HK3.out.1.1.cell 5 (.int .i64 0) rfl; have d6 := HK3.out.1.1.cell 6 (.int .i64 0) rfl; have d7 := HK3.out.1.1.cell 7 (.string ⟨#[]⟩) rfl; have d8 := HK3.out.1.1.cell 8 (.string ⟨#[]⟩) rfl; have d9 := HK3.out.1.1.cell 9 (.int .u64 0) rfl; have d10 := HK3.out.1.1.cell 10 (.int .i64 0) rfl; have d11 := HK3.out.1.1.cell 11 (.int .u64 0) rfl; have d12 := HK3.out.1.1.cell 12 (.slice none 0 0) rfl; have d13 := HK3.out.1.1.cell 13 (.slice none 0 0) rfl; have n1 := HGE.out.2.1; have n2 := HGE.out.2.2.1; have HZ := Qc HK3.out.1.2.1; have HBB := Qc HK3.out.2; go_enter Try.func63, Try.ntmps63; go_wp2_with (refine Qe rfl 45 (.tmp 2) (.tmp 54) rfl (w.heap.size + 1) _ #[.int .i64 7, .int .u64 (r.l : Int), .int .i64 0, .int .u64 0, .int .i64 0, .int .i64 0, .int .i64 0, .string ⟨#[]⟩, .string ⟨#[]⟩, .int .u64 0, .int .i64 0, .int .u64 0, .slice none 0 0, .slice none 0 0] rfl rfl HZ.out Qia rfl (by simp [Value.oneCell']) ?_)
  intro w9 hr9 hk9 _; have HB := Qc (hk9 _ _ HBB.out HGE.out.2.2.2); have HROW := Qc hr9; clear hr9 hk9 HZ HBB HK3 d0 d1 d2 d3 d4 d5 d6 d7 d8 d9 d10 d11 d12 d13 c03 ; go_wp2; (try simp only [Exit.inBlock, Exit.then]); refine bodyPost_ret (Qlc rfl _ _ (w.heap.size + 1) #[.int .i64 7, .int .u64 (r.l : Int), .int .i64 0, .int .u64 0, .int .i64 0, .int .i64 0, .int .i64 0, .string ⟨#[]⟩, .string ⟨#[]⟩, .int .u64 0, .int .i64 0, .int .u64 0, .slice none 0 0, .slice none 0 0] _ rfl HROW.out Try.underlying45 rfl Qia) rfl ?_; refine ⟨?_, HB.out⟩; apply congrArg Ending.returned; apply congrArg Value.agg; unfold rcA Rec.used uV; simp [hk, Ch.zero]
theorem used_2 (r : Rec) (va vb : Value) (w : World) (hk : r.k = 2) (hin : Qcd w r va vb) :
    Calls Try.prog 63 #[.agg (rcA r va vb)] w fun e w' => e = .returned (.agg (rcA r.used (uV r va) (uV r vb))) /\ Below w.heap.size w w' := by
  have HIN := Qc hin; obtain ⟨⟨e1, cap1, rfl, -⟩, ⟨e2, cap2, rfl, -⟩⟩ := hin; have HK0 := Qc (Qx.two w 45 45 (rcA r (.slice e1 r.ts.length cap1) (.slice e2 r.ds.length cap2)) #[.int .i64 0, .int .u64 0, .int .i64 0, .int .u64 0, .int .i64 0, .int .i64 0, .int .i64 0, .string ⟨#[]⟩, .string ⟨#[]⟩, .int .u64 0, .int .i64 0, .int .u64 0, .slice none 0 0, .slice none 0 0]); have c0 := HK0.out.1.2.1.cell 0 (.int .i64 r.k) rfl; have c1 := HK0.out.1.2.1.cell 1 (.int .u64 (r.l : Int)) rfl; rw [hk] at c0; obtain ⟨A, hA⟩ : ∃ A, A = rcA r (.slice e1 r.ts.length cap1) (.slice e2 r.ds.length cap2) := ⟨_, rfl⟩; rw [<- hA] at HK0 c0 c1 |-; have HA := Qc hA; clear hA; have HK3 := Qc (Qx.three w 45 45 45 A #[.int .i64 0, .int .u64 0, .int .i64 0, .int .u64 0, .int .i64 0, .int .i64 0, .int .i64 0, .string ⟨#[]⟩, .string ⟨#[]⟩, .int .u64 0, .int .i64 0, .int .u64 0, .slice none 0 0, .slice none 0 0] #[.int .i64 2, .int .u64 (r.l : Int), .int .i64 0, .int .u64 0, .int .i64 0, .int .i64 0, .int .i64 0, .string ⟨#[]⟩, .string ⟨#[]⟩, .int .u64 0, .int .i64 0, .int .u64 0, .slice none 0 0, .slice none 0 0]); have c03 := HK3.out.1.2.2.1.cell 0 (.int .i64 2) (by rw [HA.out, <- hk]; rfl); go_enter Try.func63, Try.ntmps63; go_wp2_with fail; refine Qde (fun x => Hid (Qx w x [(w.heap.size + 1 + 1, 45, #[.int .i64 2, .int .u64 (r.l : Int), .int .i64 0, .int .u64 0, .int .i64 0, .int .i64 0, .int .i64 0, .string ⟨#[]⟩, .string ⟨#[]⟩, .int .u64 0, .int .i64 0, .int .u64 0, .slice none 0 0, .slice none 0 0]), (w.heap.size + 1, 45, #[.int .i64 0, .int .u64 0, .int .i64 0, .int .u64 0, .int .i64 0, .int .i64 0, .int .i64 0, .string ⟨#[]⟩, .string ⟨#[]⟩, .int .u64 0, .int .i64 0, .int .u64 0, .slice none 0 0, .slice none 0 0]), (w.heap.size, 45, A)])) HK3 ?_; clear HK3 HK0 c0 c1 c03; intro x0 HK; have HGE : Hid (w.heap.size <= w.heap.size + 1 + 1 /\ w.heap.size + 1 ≠ w.heap.size + 1 + 1 /\ w.heap.size ≠ w.heap.size + 1 + 1 /\ w.heap.size <= w.heap.size + 1) := ⟨by omega, by omega, by omega, by omega⟩; revert HK HGE; generalize w.heap.size + 1 + 1 = g2; generalize w.heap.size + 1 = g1; intro HK HGE; have c2 := HK.out.1.2.2.1.cell 2 (.int .i64 r.t) (by rw [HA.out]; rfl); have c3 := HK.out.1.2.2.1.cell 3 (.int .u64 (r.p : Int)) (by rw [HA.out]; rfl); have f2 := HK.out.1.1.free 2; have d2 := HK.out.1.1.cell 2 (.int .i64 0) rfl; have f3 := HK.out.1.1.free 3; have d3 := HK.out.1.1.cell 3 (.int .u64 0) rfl; have n2 := HGE.out.2.2.1; go_region
  have hl : ∀ e ∈ [(g1, 45, #[.int .i64 0, .int .u64 0, .int .i64 0, .int .u64 0, .int .i64 0, .int .i64 0, .int .i64 0, .string ⟨#[]⟩, .string ⟨#[]⟩, .int .u64 0, .int .i64 0, .int .u64 0, .slice none 0 0, .slice none 0 0]), (w.heap.size, 45, A)], e.1 ≠ g2 := by
    intro e he; simp only [List.mem_cons, List.not_mem_nil, or_false] at he
    rcases he with rfl | rfl
    · exact HGE.out.2.1
    · exact HGE.out.2.2.1
  have HK2 : Hid (Qx w ((x0.setCell ⟨g2, 2, none⟩ (.int .i64 r.t)).setCell ⟨g2, 3, none⟩ (.int .u64 (r.p : Int))).drew [(g2, 45, #[.int .i64 2, .int .u64 (r.l : Int), .int .i64 r.t, .int .u64 (r.p : Int), .int .i64 0, .int .i64 0, .int .i64 0, .string ⟨#[]⟩, .string ⟨#[]⟩, .int .u64 0, .int .i64 0, .int .u64 0, .slice none 0 0, .slice none 0 0]), (g1, 45, #[.int .i64 0, .int .u64 0, .int .i64 0, .int .u64 0, .int .i64 0, .int .i64 0, .int .i64 0, .string ⟨#[]⟩, .string ⟨#[]⟩, .int .u64 0, .int .i64 0, .int .u64 0, .slice none 0 0, .slice none 0 0]), (w.heap.size, 45, A)]) := ((HK.out.setTop HGE.out.1 hl 2 (.int .i64 r.t)).setTop HGE.out.1 hl 3 (.int .u64 (r.p : Int))).drew; refine Qhd (fun x => Hid (Qx w x [(g2, 45, #[.int .i64 2, .int .u64 (r.l : Int), .int .i64 r.t, .int .u64 (r.p : Int), .int .i64 0, .int .i64 0, .int .i64 0, .string ⟨#[]⟩, .string ⟨#[]⟩, .int .u64 0, .int .i64 0, .int .u64 0, .slice none 0 0, .slice none 0 0]), (g1, 45, #[.int .i64 0, .int .u64 0, .int .i64 0, .int .u64 0, .int .i64 0, .int .i64 0, .int .i64 0, .string ⟨#[]⟩, .string ⟨#[]⟩, .int .u64 0, .int .i64 0, .int .u64 0, .slice none 0 0, .slice none 0 0]), (w.heap.size, 45, A)])) HK2 ?_; clear HK2 HK hl n2 c2 f2 d2 c3 f3 d3; intro x1 HK; have c0 := HK.out.1.2.2.1.cell 0 (.int .i64 2) (by rw [HA.out, <- hk]; rfl); go_wp2_with fail; clear c0; have c4 := HK.out.1.2.2.1.cell 4 (.int .i64 r.c.k) (by rw [HA.out]; rfl); have c5 := HK.out.1.2.2.1.cell 5 (.int .i64 r.c.pg) (by rw [HA.out]; rfl); have c6 := HK.out.1.2.2.1.cell 6 (.int .i64 r.c.sl) (by rw [HA.out]; rfl); have c7 := HK.out.1.2.2.1.cell 7 (.string r.c.o) (by rw [HA.out]; rfl); have c8 := HK.out.1.2.2.1.cell 8 (.string r.c.n) (by rw [HA.out]; rfl); have c9 := HK.out.1.2.2.1.cell 9 (.int .u64 (r.n : Int)) (by rw [HA.out]; rfl); have f4 := HK.out.1.1.free 4; have d4 := HK.out.1.1.cell 4 (.int .i64 0) rfl; have f5 := HK.out.1.1.free 5; have d5 := HK.out.1.1.cell 5 (.int .i64 0) rfl; have f6 := HK.out.1.1.free 6; have d6 := HK.out.1.1.cell 6 (.int .i64 0) rfl; have f7 := HK.out.1.1.free 7; have d7 := HK.out.1.1.cell 7 (.string ⟨#[]⟩) rfl; have f8 := HK.out.1.1.free 8; have d8 := HK.out.1.1.cell 8 (.string ⟨#[]⟩) rfl; have f9 := HK.out.1.1.free 9; have d9 := HK.out.1.1.cell 9 (.int .u64 0) rfl; have n2 := HGE.out.2.2.1; go_region
  have hl : ∀ e ∈ [(g1, 45, #[.int .i64 0, .int .u64 0, .int .i64 0, .int .u64 0, .int .i64 0, .int .i64 0, .int .i64 0, .string ⟨#[]⟩, .string ⟨#[]⟩, .int .u64 0, .int .i64 0, .int .u64 0, .slice none 0 0, .slice none 0 0]), (w.heap.size, 45, A)], e.1 ≠ g2 := by
    intro e he; simp only [List.mem_cons, List.not_mem_nil, or_false] at he
    rcases he with rfl | rfl
    · exact HGE.out.2.1
    · exact HGE.out.2.2.1
  have HK2 : Hid (Qx w ((((((x1.setCell ⟨g2, 4, none⟩ (.int .i64 r.c.k)).setCell ⟨g2, 5, none⟩ (.int .i64 r.c.pg)).setCell ⟨g2, 6, none⟩ (.int .i64 r.c.sl)).setCell ⟨g2, 7, none⟩ (.string r.c.o)).setCell ⟨g2, 8, none⟩ (.string r.c.n)).setCell ⟨g2, 9, none⟩ (.int .u64 (r.n : Int))).drew [(g2, 45, #[.int .i64 2, .int .u64 (r.l : Int), .int .i64 r.t, .int .u64 (r.p : Int), .int .i64 r.c.k, .int .i64 r.c.pg, .int .i64 r.c.sl, .string r.c.o, .string r.c.n, .int .u64 (r.n : Int), .int .i64 0, .int .u64 0, .slice none 0 0, .slice none 0 0]), (g1, 45, #[.int .i64 0, .int .u64 0, .int .i64 0, .int .u64 0, .int .i64 0, .int .i64 0, .int .i64 0, .string ⟨#[]⟩, .string ⟨#[]⟩, .int .u64 0, .int .i64 0, .int .u64 0, .slice none 0 0, .slice none 0 0]), (w.heap.size, 45, A)]) := ((((((HK.out.setTop HGE.out.1 hl 4 (.int .i64 r.c.k)).setTop HGE.out.1 hl 5 (.int .i64 r.c.pg)).setTop HGE.out.1 hl 6 (.int .i64 r.c.sl)).setTop HGE.out.1 hl 7 (.string r.c.o)).setTop HGE.out.1 hl 8 (.string r.c.n)).setTop HGE.out.1 hl 9 (.int .u64 (r.n : Int))).drew; refine Qhd (fun x => Hid (Qx w x [(g2, 45, #[.int .i64 2, .int .u64 (r.l : Int), .int .i64 r.t, .int .u64 (r.p : Int), .int .i64 r.c.k, .int .i64 r.c.pg, .int .i64 r.c.sl, .string r.c.o, .string r.c.n, .int .u64 (r.n : Int), .int .i64 0, .int .u64 0, .slice none 0 0, .slice none 0 0]), (g1, 45, #[.int .i64 0, .int .u64 0, .int .i64 0, .int .u64 0, .int .i64 0, .int .i64 0, .int .i64 0, .string ⟨#[]⟩, .string ⟨#[]⟩, .int .u64 0, .int .i64 0, .int .u64 0, .slice none 0 0, .slice none 0 0]), (w.heap.size, 45, A)])) HK2 ?_; clear HK2 HK hl n2 c4 f4 d4 c5 f5 d5 c6 f6 d6 c7 f7 d7 c8 f8 d8 c9 f9 d9; intro x2 HK; have c0 := HK.out.1.2.2.1.cell 0 (.int .i64 2) (by rw [HA.out, <- hk]; rfl); have d0 := HK.out.1.1.cell 0 (.int .i64 2) rfl; have d1 := HK.out.1.1.cell 1 (.int .u64 (r.l : Int)) rfl; have d2 := HK.out.1.1.cell 2 (.int .i64 r.t) rfl; have d3 := HK.out.1.1.cell 3 (.int .u64 (r.p : Int)) rfl; have d4 := HK.out.1.1.cell 4 (.int .i64 r.c.k) rfl; have d5 := HK.out.1.1.cell 5 (.int .i64 r.c.pg) rfl; have d6 := HK.out.1.1.cell 6 (.int .i64 r.c.sl) rfl; have d7 := HK.out.1.1.cell 7 (.string r.c.o) rfl; have d8 := HK.out.1.1.cell 8 (.string r.c.n) rfl; have d9 := HK.out.1.1.cell 9 (.int .u64 (r.n : Int)) rfl; have d10 := HK.out.1.1.cell 10 (.int .i64 0) rfl; have d11 := HK.out.1.1.cell 11 (.int .u64 0) rfl; have d12 := HK.out.1.1.cell 12 (.slice none 0 0) rfl; have d13 := HK.out.1.1.cell 13 (.slice none 0 0) rfl; have n1 := HGE.out.2.1
  have n2 := HGE.out.2.2.1; have HZ := Qc HK.out.1.2.1; have HBB := Qc HK.out.2; go_wp2_with (refine Qe rfl 45 (.tmp 2) (.tmp 54) rfl g1 _ #[.int .i64 2, .int .u64 (r.l : Int), .int .i64 r.t, .int .u64 (r.p : Int), .int .i64 r.c.k, .int .i64 r.c.pg, .int .i64 r.c.sl, .string r.c.o, .string r.c.n, .int .u64 (r.n : Int), .int .i64 0, .int .u64 0, .slice none 0 0, .slice none 0 0] rfl rfl HZ.out Qia rfl (by simp [Value.oneCell']) ?_); intro w9 hr9 hk9 _; have HB := Qc (hk9 _ _ HBB.out HGE.out.2.2.2); have HROW := Qc hr9; clear hr9 hk9 HZ HBB HK d0 d1 d2 d3 d4 d5 d6 d7 d8 d9 d10 d11 d12 d13 c0 ; go_wp2; (try simp only [Exit.inBlock, Exit.then]); refine bodyPost_ret (Qlc rfl _ _ g1 #[.int .i64 2, .int .u64 (r.l : Int), .int .i64 r.t, .int .u64 (r.p : Int), .int .i64 r.c.k, .int .i64 r.c.pg, .int .i64 r.c.sl, .string r.c.o, .string r.c.n, .int .u64 (r.n : Int), .int .i64 0, .int .u64 0, .slice none 0 0, .slice none 0 0] _ rfl HROW.out Try.underlying45 rfl Qia) rfl ?_; refine ⟨?_, HB.out⟩; apply congrArg Ending.returned; apply congrArg Value.agg; unfold rcA Rec.used uV; simp [hk]
theorem uV_in {w : World} {r : Rec} {va vb : Value} (h : Qcd w r va vb) : Qcd w r.used (uV r va) (uV r vb) := by
  by_cases hk : r.k = 8
  · have e1 : r.used.ts = r.ts := by unfold Rec.used; simp [hk]
    have e2 : r.used.ds = r.ds := by unfold Rec.used; simp [hk]
    have e3 : ∀ v, uV r v = v := fun v => by unfold uV; rw [if_pos hk]
    unfold Qcd at h |-; rw [e1, e2, e3, e3]; exact h
  · have e1 : r.used.ts = [] := by unfold Rec.used; simp [hk]
    have e2 : r.used.ds = [] := by unfold Rec.used; simp [hk]
    have e3 : ∀ v, uV r v = .slice none 0 0 := fun v => by unfold uV; rw [if_neg hk]
    unfold Qcd; rw [e1, e2, e3, e3]; exact ⟨⟨none, 0, rfl, fun h => absurd h (by simp)⟩, ⟨none, 0, rfl, fun h => absurd h (by simp)⟩⟩
theorem used_any (r : Rec) (va vb : Value) (w : World) (hk : 1 <= r.k /\ r.k <= 8) (hin : Qcd w r va vb) :
    Calls Try.prog 63 #[.agg (rcA r va vb)] w fun e w' => e = .returned (.agg (rcA r.used (uV r va) (uV r vb))) /\ Below w.heap.size w w' := by
  by_cases h1 : r.k = 1
  · exact used_1 r va vb w h1 hin
  by_cases h2 : r.k = 2
  · exact used_2 r va vb w h2 hin
  by_cases h3 : r.k = 3
  · exact used_3 r va vb w h3 hin
  by_cases h4 : r.k = 4
  · exact used_4 r va vb w h4 hin
  by_cases h5 : r.k = 5
  · exact used_5 r va vb w h5 hin
  by_cases h6 : r.k = 6
  · exact used_6 r va vb w h6 hin
  by_cases h7 : r.k = 7
  · exact used_7 r va vb w h7 hin
  exact used_8 r va vb w (by omega) hin
set_option linter.unusedVariables false
set_option linter.unusedVariables false
theorem Qtg {b j : Nat} (x : World) (v : Int) (h : x.cell? ⟨b, j, none⟩ = some (.int .u64 v)) : (Instr.loadAt 39 (.pointer (some ⟨b, j, none⟩))).run Try.prog x = .ok (.int .u64 v) x := by go_simp
theorem used_fits {r : Rec} (h : r.fits) : r.used.fits := by
  refine ⟨?_, ?_, ?_, ?_, ?_⟩
  · show (if r.k <= 2 then r.c else Ch.zero).fits
    by_cases hk : r.k <= 2
    · rw [if_pos hk]; exact h.c
    · rw [if_neg hk]; exact zero_fits
  · show (if r.k = 8 then r.ts else []).length <= maxLen
    by_cases hk : r.k = 8
    · rw [if_pos hk]; exact h.tl
    · rw [if_neg hk]; exact Nat.zero_le _
  · show (if r.k = 8 then r.ds else []).length <= maxLen
    by_cases hk : r.k = 8
    · rw [if_pos hk]; exact h.dl
    · rw [if_neg hk]; exact Nat.zero_le _
  · show ∀ x ∈ (if r.k = 8 then r.ts else []), x.fits
    by_cases hk : r.k = 8
    · rw [if_pos hk]; exact h.ts
    · rw [if_neg hk]; exact fun x hx => nomatch hx
  · show ∀ x ∈ (if r.k = 8 then r.ds else []), x.fits
    by_cases hk : r.k = 8
    · rw [if_pos hk]; exact h.ds
    · rw [if_neg hk]; exact fun x hx => nomatch hx
theorem load_rc (y : World) (g : Nat) (cs : Array Value) (h : Qb y g 45 cs) (hz : cs.size = 14) : (Instr.loadAt 45 (.pointer (some ⟨g, 0, none⟩))).run Try.prog y = .ok (.agg cs) y := by
  have h1 := run_loadAt_mid (P := Try.prog) y g 0 45 cs.toList _ (fun j v hv => by rw [Nat.zero_add]; exact h.cell j v (by rw [<- Array.getElem?_toList]; exact hv)) Try.underlying45 rfl (by rw [Qia, Array.length_toList, hz]); rwa [Array.toArray_toList] at h1
theorem right_at (r : Rec) (va vb : Value) (w : World) (q : Bool) (Hq : Hid (q = true ↔ r.right)) (hf : r.fits) (hin : Qcd w r va vb) :
    Calls Try.prog 42 #[.agg (rcA r va vb)] w fun e w' => e = .returned (.bool q) /\ Below w.heap.size w w' := by
  have HIN := Qc hin; have HFI := Qc hf; clear hin hf; have HK0 := Qc (Qx.one w 45 (rcA r va vb))
  have HF : Hid (¬ r.right -> q = false) := fun h => by
    cases q
    · rfl
    · exact absurd (Hq.out.1 rfl) h
  have HT : Hid (r.right -> q = true) := fun h => Hq.out.2 h
  clear Hq; by_cases l1 : (1 : Int) <= (r.l : Int)
  case neg =>
    obtain rfl := HF.out (fun h => by have := h.l1; omega); have l1f : ((1 : Int) <= (r.l : Int)) = False := eq_false l1; clear HF HT HIN HFI l1; go_enter Try.func42, Try.ntmps42; go_wp2_with fail; refine Qqa (fun y => Qx w y [(w.heap.size, 45, rcA r va vb)]) (by kernel_rfl) (by kernel_rfl) HK0.out.drew ?_; clear HK0
    repeat (first
      | go_big_quiet_skip
      | (refine Qn rfl 39 (.tmp 3) rfl _ (.int .u64 (r.l : Int)) rfl (fun y hy => Qtg y _ (hy.1.1.cell 1 _ rfl)) ?_; simp only [Act.put, List.setIfInBounds_toArray, List.set])
      | (refine Qg rfl (fun K hK => ?_); go_simp; refine hK _ ?_; clear hK K))
    refine wpQuiet_nil ?_; intro w3 h3; have d3 := h3.2; clear h3; go_wp2; go_ret; exact ⟨by rfl, d3⟩
  by_cases l2 : (r.l : Int) <= 4611686018427387904
  case neg =>
    obtain rfl := HF.out (fun h => by have := h.lm; unfold Qve at this; omega); have l2f : ((r.l : Int) <= 4611686018427387904) = False := eq_false l2; clear HF HT HIN HFI l2; go_enter Try.func42, Try.ntmps42; go_wp2_with fail; refine Qqa (fun y => Qx w y [(w.heap.size, 45, rcA r va vb)]) (by kernel_rfl) (by kernel_rfl) HK0.out.drew ?_; clear HK0
    repeat (first
      | go_big_quiet_skip
      | (refine Qn rfl 39 (.tmp 3) rfl _ (.int .u64 (r.l : Int)) rfl (fun y hy => Qtg y _ (hy.1.1.cell 1 _ rfl)) ?_; simp only [Act.put, List.setIfInBounds_toArray, List.set])
      | (refine Qn rfl 39 (.tmp 7) rfl _ (.int .u64 (r.l : Int)) rfl (fun y hy => Qtg y _ (hy.1.1.cell 1 _ rfl)) ?_; simp only [Act.put, List.setIfInBounds_toArray, List.set])
      | (refine Qg rfl (fun K hK => ?_); go_simp; refine hK _ ?_; clear hK K))
    refine wpQuiet_nil ?_; intro w3 h3; have d3 := h3.2; clear h3; go_wp2; go_ret; exact ⟨by rfl, d3⟩
  have l2t : ((r.l : Int) <= 4611686018427387904) = True := eq_true l2; have HLM : Hid (1 <= r.l /\ r.l <= Qve) := ⟨by omega, by unfold Qve; omega⟩; clear l2; by_cases hu : r.uses
  case neg =>
    obtain rfl := HF.out (fun h => hu (Qwk.1 h).2.2.1); have HU := Qc (fun x h => Qax r va vb x false (Qc ⟨fun h => (nomatch h), fun h => absurd h hu⟩) h); clear HF HT HFI hu; go_enter Try.func42, Try.ntmps42; go_wp2_with fail; refine Qqa (fun y => Qx w y [(w.heap.size, 45, rcA r va vb)]) (by kernel_rfl) (by kernel_rfl) HK0.out.drew ?_; clear HK0
    repeat (first
      | go_big_quiet_skip
      | (refine Qn rfl 39 (.tmp 3) rfl _ (.int .u64 (r.l : Int)) rfl (fun y hy => Qtg y _ (hy.1.1.cell 1 _ rfl)) ?_; simp only [Act.put, List.setIfInBounds_toArray, List.set])
      | (refine Qn rfl 39 (.tmp 7) rfl _ (.int .u64 (r.l : Int)) rfl (fun y hy => Qtg y _ (hy.1.1.cell 1 _ rfl)) ?_; simp only [Act.put, List.setIfInBounds_toArray, List.set])
      | (refine Qn rfl 45 (.tmp 1) rfl _ (.agg (rcA r va vb)) rfl (fun y hy => load_rc y _ _ hy.1.1 rfl) ?_; simp only [Act.put, List.setIfInBounds_toArray, List.set])
      | (refine Qyc rfl 61 #[.agg (rcA r va vb)] (.bool false) ?_ (fun x hx => (HU.out x (HIN.out.below hx.2)).mono fun e x' h => ⟨h.1, hx.later h.2⟩) ?_; (intro x; go_simp); simp only [Act.put, List.setIfInBounds_toArray, List.set])
      | (refine Qg rfl (fun K hK => ?_); go_simp; refine hK _ ?_; clear hK K))
    refine wpQuiet_nil ?_; intro w3 h3; have d3 := h3.2; clear h3; go_wp2; go_ret; exact ⟨by rfl, d3⟩
  have HU := Qc (fun x h => Qax r va vb x true (Qc ⟨fun _ => hu, fun _ => rfl⟩) h); have HX := Qc (fun x h => used_any r va vb x ⟨hu.1, hu.2.1⟩ h)
  have HQ2 : Hid (q = true ↔ r = r.used) := by
    constructor
    · intro h
      by_cases hd : r = r.used
      · exact hd
      · rw [HF.out (fun h => hd (Qwk.1 h).2.2.2)] at h; cases h
    · intro hd; exact HT.out (Qwk.2 ⟨HLM.out.1, HLM.out.2, hu, hd⟩)
  have HS := Qc (fun x h => same_at r r.used va vb (uV r va) (uV r vb) x q HQ2 HFI.out (used_fits HFI.out) h (uV_in h)); clear HF HT HFI HQ2 hu HLM; go_enter Try.func42, Try.ntmps42; go_wp2_with fail; refine Qqa (fun y => Qx w y [(w.heap.size, 45, rcA r va vb)]) (by kernel_rfl) (by kernel_rfl) HK0.out.drew ?_; clear HK0
  repeat (first
    | go_big_quiet_skip
    | (refine Qn rfl 39 (.tmp 3) rfl _ (.int .u64 (r.l : Int)) rfl (fun y hy => Qtg y _ (hy.1.1.cell 1 _ rfl)) ?_; simp only [Act.put, List.setIfInBounds_toArray, List.set])
    | (refine Qn rfl 39 (.tmp 7) rfl _ (.int .u64 (r.l : Int)) rfl (fun y hy => Qtg y _ (hy.1.1.cell 1 _ rfl)) ?_; simp only [Act.put, List.setIfInBounds_toArray, List.set])
    | (refine Qn rfl 45 (.tmp 1) rfl _ (.agg (rcA r va vb)) rfl (fun y hy => load_rc y _ _ hy.1.1 rfl) ?_; simp only [Act.put, List.setIfInBounds_toArray, List.set])
    | (refine Qyc rfl 61 #[.agg (rcA r va vb)] (.bool true) ?_ (fun x hx => (HU.out x (HIN.out.below hx.2)).mono fun e x' h => ⟨h.1, hx.later h.2⟩) ?_; (intro x; go_simp); simp only [Act.put, List.setIfInBounds_toArray, List.set])
    | (refine Qyc rfl 63 #[.agg (rcA r va vb)] (.agg (rcA r.used (uV r va) (uV r vb))) ?_ (fun x hx => (HX.out x (HIN.out.below hx.2)).mono fun e x' h => ⟨h.1, hx.later h.2⟩) ?_; (intro x; go_simp); simp only [Act.put, List.setIfInBounds_toArray, List.set])
    | (refine Qyc rfl 62 #[.agg (rcA r va vb), .agg (rcA r.used (uV r va) (uV r vb))] (.bool q) ?_ (fun x hx => (HS.out x (HIN.out.below hx.2)).mono fun e x' h => ⟨h.1, hx.later h.2⟩) ?_; (intro x; go_simp); simp only [Act.put, List.setIfInBounds_toArray, List.set])
    | (refine Qg rfl (fun K hK => ?_); go_simp; refine hK _ ?_; clear hK K))
  refine wpQuiet_nil ?_; intro w3 h3; have d3 := h3.2; clear h3; go_wp2; go_ret; exact ⟨by rfl, d3⟩
theorem Qmq (r : Rec) (va vb : Value) (w : World) (hf : r.fits) (hin : Qcd w r va vb) :
    Calls Try.prog 42 #[.agg (rcA r va vb)] w fun e w' => e = .returned (.bool r.rightB) /\ Below w.heap.size w w' :=
  right_at r va vb w _ (Qc Qbi) hf hin
set_option linter.unusedVariables false
set_option linter.unusedVariables false
section
open Go.RowKit
end
set_option linter.unusedVariables false
set_option linter.unusedVariables false
theorem Qo {P : Program} {ops : Array Oper} {rest : List Oper} {o : Oper} {a : Act} {w : World} {Q : Exit -> Act -> World -> Prop} (hw : Region.wanted o (yielded ops a.tmps) = true) (t : TypeId) (x : Operand) (ho : o.op = .load t x) (u v : Value) (hu : a.eval x = u) (hv : (Instr.loadAt t u).run P w = .ok v w)
    (h : wpList P ops Q rest (a.put o.dst v) w) : wpList P ops Q (o :: rest) a w :=
  Qai hw v (by unfold execOp; simp only [ho, hu, Sem.run_bind, hv, Result.andThen_ok, Sem.run_pure]) h
set_option linter.unusedVariables false
set_option linter.unusedVariables false
set_option linter.unusedVariables false
set_option linter.unusedVariables false
set_option linter.unusedVariables false
theorem infoTx3 : (Try.prog.info? 109).map (fun i => (i.zero, i.size, i.bytes)) = some (some (.agg #[.int .i64 0, .int .i64 0, .int .u64 0, .int .u64 0, .int .u64 0]), 5, 40) := by kernel_rfl
theorem infoDi3 : (Try.prog.info? 111).map (fun i => (i.zero, i.size, i.bytes)) = some (some (.agg #[.int .i64 0, .int .u64 0]), 2, 16) := by kernel_rfl
def Qrfa (ts : List Tx) : List Value := ts.flatMap fun x => (txA x).toList
def flatD (ts : List Di) : List Value := ts.flatMap fun x => (diA x).toList
set_option linter.unusedVariables false
set_option linter.unusedVariables false
set_option linter.unusedVariables false
set_option linter.unusedVariables false
set_option linter.unusedVariables false
set_option linter.unusedVariables false
set_option linter.unusedVariables false
set_option linter.unusedVariables false
set_option linter.unusedVariables false
set_option linter.unusedVariables false
set_option linter.unusedVariables false
set_option linter.unusedVariables false
def Qek (base : Nat) (w : World) (r : Rec) (va vb : Value) : Prop := w.ownsRow base 109 5 va r.ts.length (Qrfa r.ts) /\ w.ownsRow base 111 2 vb r.ds.length (flatD r.ds)
theorem Qek.below {base : Nat} {w x : World} {r : Rec} {va vb : Value} (h : Qek base w r va vb) (hb : Below w.heap.size w x) : Qek base x r va vb := ⟨Qhk h.1 hb, Qhk h.2 hb⟩
theorem Qgm {α : Type} (f : α -> Array Value) (n : Nat) (hf : ∀ x, (f x).size = n) (z : α) : ∀ (xs : List α) (i j : Nat), i < xs.length -> j < n -> (xs.flatMap fun x => (f x).toList)[i * n + j]? = (f (xs.getD i z)).toList[j]?
  | [], i, _, h, _ => absurd h (by simp)
  | x :: xs, 0, j, _, hj => by
    rw [List.flatMap_cons, List.getElem?_append_left (by rw [Array.length_toList, hf]; omega), Nat.zero_mul, Nat.zero_add]; rfl
  | x :: xs, i + 1, j, h, hj => by
    have e : (i + 1) * n + j = (f x).toList.length + (i * n + j) := by rw [Array.length_toList, hf, Nat.add_mul, Nat.one_mul]; omega
    rw [List.flatMap_cons, e, List.getElem?_append_right (Nat.le_add_right _ _), Nat.add_sub_cancel_left]; exact Qgm f n hf z xs i j (by simpa using h) hj
theorem Qxf {α : Type} (f : α -> Array Value) (z : α) (n : Nat) (hf : ∀ x, (f x).size = n) {w : World} {base : Nat} {e : TypeId} {v : Value} {xs : List α} (h : w.ownsRow base e n v xs.length (xs.flatMap fun x => (f x).toList)) : Qte f z n w v xs := by
  rcases h.2 with ⟨h1, h2⟩ | ⟨g, cap, cur, h1, h2, h3, -⟩
  · exact ⟨none, 0, by rw [h1, h2], fun hp => absurd h2 (by omega)⟩
  · subst h1; refine ⟨_, cap, rfl, fun hp => ⟨g, 0, rfl, (Array.getElem?_eq_some_iff.1 h3).1, fun i hi j u hu => ?_⟩⟩
    have hj : j < n := by
      have := (List.getElem?_eq_some_iff.1 hu).1; rwa [Array.length_toList, hf] at this
    have hij : i * n + j < xs.length * n := by
      have h5 : (i + 1) * n <= xs.length * n := Nat.mul_le_mul_right n (by omega); rw [Nat.add_mul, Nat.one_mul] at h5; omega
    rw [Nat.zero_add, h.cellAt (i * n + j) hij, Qgm f n hf z xs i j hi hj]; exact hu
theorem Qek.rc {base : Nat} {w : World} {r : Rec} {va vb : Value} (h : Qek base w r va vb) : Qcd w r va vb := ⟨Qxf txA Tx.zero 5 (fun _ => rfl) h.1, Qxf diA Di.zero 2 (fun _ => rfl) h.2⟩
section
def Qid (cs : Array Value) (o : Nat) (vs : List Value) : Array Value := (cs.toList.take o ++ vs ++ cs.toList.drop (o + vs.length)).toArray
theorem Qap (cs : Array Value) (o : Nat) (vs : List Value) (h : o + vs.length <= cs.size) : (Qid cs o vs).size = cs.size := by
  unfold Qid; rw [List.size_toArray, List.length_append, List.length_append, List.length_take, List.length_drop, Array.length_toList]; omega
section
variable {P : Program} {ops : Array Oper} {rest : List Oper} {o : Oper} {a : Act} {w : World} {Q : Exit -> Act -> World -> Prop}
theorem Qcq (w : World) (t ty : TypeId) (g off : Nat) (c0 cs : Array Value) (hg : Qb w g t c0) (hi : (P.info? ty).map (·.size) = some cs.size) (hf : off + cs.size <= c0.size) (h1 : cs.all (·.oneCell') = true) :
    (Instr.storeAt ty (.pointer (some ⟨g, off, none⟩)) (.agg cs)).run P w = .ok () (w.setRow g (Qid c0 off cs.toList)) := by
  have hs := run_storeCells_at P g off t cs.toList 0 c0 w hg (by rw [Array.length_toList]; omega) (fun v hv => (Array.all_eq_true_iff_forall_mem.1 h1) v (by simpa using hv))
  have hsv : (storeVar ty ⟨g, off, none⟩ (.agg cs)).run P w = .ok () (w.setRow g (Qid c0 off cs.toList)) := by
    cases hq : P.info? ty with
    | none => simp [hq] at hi
    | some i =>
      have hz : cs.size = i.size := by simp [hq] at hi; omega
      simp only [Nat.add_zero] at hs; simp [storeVar, sizeOf, typeInfo, hq, Value.cells, hz, hs, Qid]
  simp only [Instr.storeAt, Instr.sureAddr, Sem.run_bind, Sem.run_pure, Result.andThen_ok, hsv]
structure Only (g : Nat) (w w' : World) : Prop where
  os : w'.os = w.os
  tape : w'.tape = w.tape
  output : w'.output = w.output
  size : w.heap.size = w'.heap.size
  block : ∀ k, k ≠ g -> w'.heap[k]? = w.heap[k]?
theorem Qqm (w : World) (g : Nat) (cs : Array Value) : Only g w (w.setRow g cs) := ⟨rfl, rfl, rfl, by simp [World.setRow], fun k hk => setRow_other w g k _ hk⟩
theorem Only.below {g B : Nat} {w0 w w' : World} (p : Only g w w') (h : Below B w0 w) (hB : B <= g) : Below B w0 w' :=
  ⟨p.os.trans h.1, p.tape.trans h.2, p.output.trans h.3, Nat.le_trans h.4 (Nat.le_of_eq p.size), fun k hk => (p.block k (by omega)).trans (h.5 k hk)⟩
theorem Only.row {g k : Nat} {w w' : World} {t : TypeId} {cs : Array Value} (p : Only g w w') (h : Qb w k t cs) (hk : k ≠ g) : Qb w' k t cs := (p.block k hk).trans h
theorem Qm (hgd : o.guard = none) (ty : TypeId) (x y : Operand) (ho : o.op = .store ty x y) (g off : Nat) (t : TypeId) (c0 cs : Array Value) (hx : a.eval x = .pointer (some ⟨g, off, none⟩)) (hy : a.eval y = .agg cs) (hg : Qb w g t c0)
    (hi : (P.info? ty).map (·.size) = some cs.size) (hf : off + cs.size <= c0.size) (h1 : cs.all (·.oneCell') = true)
    (h : ∀ w2, Qb w2 g t (Qid c0 off cs.toList) -> Only g w w2 -> wpList P ops Q rest (a.put o.dst undef) w2) : wpList P ops Q (o :: rest) a w :=
  wpList_plain hgd fun K hK => by
    unfold Oper.wp execOp; simp only [ho, hx, hy, Sem.run_bind, Qcq w t ty g off c0 cs hg hi hf h1, Result.andThen_ok, Sem.run_pure]; exact hK _ _ (h _ (setRow_heap w g c0 _ t (0, 0) hg) (Qqm w g _))
variable {K : Act -> World -> Prop} {E : Prop}
end
end
section
section
variable {P : Program} {md : Region.Mode} {ops : Array Oper} {Q : Exit -> Act -> World -> Prop} {S : World -> Prop} {fuel : Nat} {listed : Array Bool} {a : Act} {w : World} {o : Oper}
theorem hand_take (i : Nat) (d : Option Tmp) (v : Value) (hi : ops[i]? = some o) (hd : o.dst = d) (hs : Region.noSelect ops = true) (hf : Region.free md ops listed i = true) (hr : (Region.ready md ops listed).contains i = true)
    (hQ : ∀ c a w, Q (.panic c) (a.put d v) w -> Q (.panic c) a w) (hy : YieldsIf P ops S o v a) (hS : S w)
    (h : wpAnyH P md ops Q S fuel (listed.setIfInBounds i true) (a.put d v) w) : wpAnyH P md ops Q S (fuel + 1) listed a w := by
  subst hd; exact wpAnyH_take hi hs hf hr hQ hy hS h
theorem tkk {Q : Exit -> Act -> World -> Prop} (i : Nat) (d : Option Tmp) (v : Value) (hi : ops[i]? = some o) (hd : o.dst = d) (hk : (Region.noSelect ops && Region.free md ops listed i && (Region.ready md ops listed).contains i) = true) (hw : Region.wanted o (yielded ops a.tmps) = true)
    (hy : ∀ x, S x -> (execOp a.eval o).run P x = .ok (.value v) x) (hS : S w) (h : wpAnyH P md ops (NoPanic Q) S fuel (listed.setIfInBounds i true) (a.put d v) w) : wpAnyH P md ops (NoPanic Q) S (fuel + 1) listed a w := by
  simp only [Bool.and_eq_true] at hk; exact hand_take i d v hi hd hk.1.1 hk.1.2 hk.2 (fun _ _ _ h => h) (Or.inl ⟨hw, hy⟩) hS h
theorem tkq {Q : Exit -> Act -> World -> Prop} (i : Nat) (d : Option Tmp) (v : Value) (hS : S w) (h : wpAnyH P md ops (NoPanic Q) S fuel (listed.setIfInBounds i true) (a.put d v) w) (hi : ops[i]? = some o := by rfl) (hd : o.dst = d := by rfl) (hk : (Region.noSelect ops && Region.free md ops listed i && (Region.ready md ops listed).contains i) = true := by kernel_rfl) (hw : Region.wanted o (yielded ops a.tmps) = true := by kernel_rfl)
    (hy : ∀ x, S x -> (execOp a.eval o).run P x = .ok (.value v) x := by intro x _; go_simp) : wpAnyH P md ops (NoPanic Q) S (fuel + 1) listed a w := tkk i d v hi hd hk hw hy hS h
variable {K : Act -> World -> Prop} {i : Nat}
theorem Qu (c0 cs : Array Value) (h : c0.size = cs.size) : Qid c0 0 cs.toList = cs := by
  unfold Qid; rw [List.take_zero, List.nil_append, Array.length_toList, Nat.zero_add, List.drop_of_length_le (by rw [Array.length_toList]; omega), List.append_nil, Array.toArray_toList]
end
end
section
def Stop10 (p : Prop) : Prop := p
theorem Qf {p : Prop} (h : p) : Stop10 p := h
theorem Qz {p : Prop} (h : Stop10 p) : p := h
section
variable {P : Program} {ops : Array Oper} {rest : List Oper} {o : Oper} {a : Act} {w : World} {Q : Exit -> Act -> World -> Prop}
theorem Qw (d : Tmp) (hd : o.dst = some d) (h : Stop10 (wpList P ops Q (o :: rest) a w)) : wpList P ops Q (o :: rest) a w := h
end
end
set_option linter.unusedVariables false
def Is (g k : Nat) : Prop := k = g
structure Tn (F : Nat -> Prop) (w w' : World) : Prop where
  os : w'.os = w.os
  tape : w'.tape = w.tape
  output : w'.output = w.output
  size : w.heap.size <= w'.heap.size
  block : ∀ k, k < w.heap.size -> ¬ F k -> w'.heap[k]? = w.heap[k]?
theorem Tn.refl (F : Nat -> Prop) (w : World) : Tn F w w := ⟨rfl, rfl, rfl, Nat.le_refl _, fun _ _ _ => rfl⟩
theorem Tn.trans {F G : Nat -> Prop} {w x y : World} (p : Tn F w x) (q : Tn G x y) (h : ∀ k, G k -> F k ∨ w.heap.size <= k) : Tn F w y :=
  ⟨q.os.trans p.os, q.tape.trans p.tape, q.output.trans p.output, Nat.le_trans p.size q.size, fun k hk hn => (q.block k (Nat.lt_of_lt_of_le hk p.size) (fun hg => by
    rcases h k hg with h1 | h1
    · exact hn h1
    · omega)).trans (p.block k hk hn)⟩
theorem Tn.then {F : Nat -> Prop} {w x y : World} (p : Tn F w x) (q : Tn F x y) : Tn F w y := p.trans q (fun k h => .inl h)
theorem Tn.set {F : Nat -> Prop} {w x : World} (p : Tn F w x) (g j : Nat) (v : Value) (h : F g) : Tn F w (x.setCell ⟨g, j, none⟩ v) :=
  ⟨p.os, p.tape, p.output, Nat.le_trans p.size ((Below.refl 0 x).setCell (Nat.zero_le _) v).size, fun i hi hn => (heap_setCell_other x ⟨g, j, none⟩ i v (fun e => hn (by rw [e]; exact h))).trans (p.block i hi hn)⟩
theorem Tn.drew {F : Nat -> Prop} {w x : World} (p : Tn F w x) : Tn F w x.drew := ⟨p.os, p.tape, p.output, p.size, p.block⟩
theorem Tn.of_grown {F : Nat -> Prop} {w x : World} {row : Option Nat} (q : w.grownBy x row) (h : ∀ k, row = some k -> F k) : Tn F w x := ⟨q.os, q.tape, q.output, q.size, fun k hk hn => q.block k hk (fun e => hn (h k e.symm))⟩
theorem Tn.weak {F G : Nat -> Prop} {w x : World} (p : Tn F w x) (h : ∀ k, F k -> G k) : Tn G w x := ⟨p.os, p.tape, p.output, p.size, fun k hk hn => p.block k hk (fun e => hn (h k e))⟩
theorem Tn.below {F : Nat -> Prop} {n : Nat} {w x : World} (p : Tn F w x) (h : ∀ k, F k -> n <= k) (hs : n <= w.heap.size) : Below n w x := ⟨p.os, p.tape, p.output, p.size, fun i hi => p.block i (by omega) (fun hf => by have := h i hf; omega)⟩
theorem Tn.row {F : Nat -> Prop} {w x : World} {k : Nat} {t : TypeId} {cs : Array Value} (p : Tn F w x) (hr : Qb w k t cs) (h : ¬ F k) : Qb x k t cs := (p.block k hr.lt h).trans hr
theorem Qbb {w : World} {k : Nat} {t u : TypeId} {cs ds : Array Value} (h : Qb w k t cs) (h2 : Qb w k u ds) : t = u := by
  have h3 : w.heap[k]? = some (.cells cs t (0, 0)) := h; have h4 : w.heap[k]? = some (.cells ds u (0, 0)) := h2; rw [h3] at h4; injection h4 with h4; injection h4 with _ h5
end Go.Proofs.Ytdjhcbiejpjkmaa
