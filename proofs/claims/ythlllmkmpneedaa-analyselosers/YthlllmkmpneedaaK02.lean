/-
  Texts that lean on one another, one behind the other: each opens with its own remark.
-/
import Derived.WalkKit
import Derived.OpenShut
import Derived.ShutString
import Derived.SizedLaws
import Derived.ChangeOld
import Derived.Deep.Slices
import Derived.Lib.SmallJoins
import Derived.Test.YthlllmkmpneedaaRows
import Derived.Test.YthlllmkmpneedaaProg
import Derived.WalkSpells
import Derived.Test.YthlllmkmpneedaaK01
import Derived.Test.YthlllmkmpneedaaK00

namespace Go.Proofs.Ythlllmkmpneedaa
open Go.RowKit
set_option linter.unusedVariables false
set_option maxRecDepth 8000
set_option maxHeartbeats 25600000
set_option linter.unusedVariables false
set_option linter.unusedVariables false
set_option linter.unusedVariables false
section
open Go.ChangeShapes Go.WideShapes Go.ChangeAt Go.RowKit Go.Deep Go.Joins
section
variable {H : Type} {enc : TypeId × Value -> H} {P : Program} {W : World}
theorem Qqv {t : TypeId} {v : Value} {d : DataW H} {p : List MemPlace} (h : DataW.Trod enc P W 0 (fun _ => true) true t v d p) : ∀ x ∈ p, x.block < W.heap.size := by
  obtain ⟨m, hm⟩ := h; exact DataW.trod_lt m _ _ _ hm
end
end
section
open Go.ChangeShapes Go.WideShapes Go.ChangeAt Go.RowKit Go.Deep Go.Joins
section
variable {H : Type} {enc : TypeId × Value -> H} {W : World}
theorem op_rows {α : Type} (f : α -> Array Value) (z : α) (G : α -> Prop) {P : Program} {t e : TypeId} {sz fuel : Nat} {c : Value} {x : DataW H × List MemPlace} (hel : ∀ n cs y, DataW.trod enc P W 0 (fun _ => true) true n e cs = some y -> ∃ x, cs = (f x).toList /\ G x)
    (ht : P.underlying t = some (.slice e)) (hsz : P.cellsOf e = sz) (hfz : ∀ x, (f x).size = sz) (hpos : 0 < sz) (h : DataW.trod enc P W 0 (fun _ => true) true fuel t [c] = some x) : ∃ xs, Qte f z sz W c xs /\ xs.length <= maxLen /\ ∀ x ∈ xs, G x := by
  rcases open_slice ht h with ⟨hcs, _⟩ | ⟨a, len, cap, m, n, D, Pl, hcs, _, hl, hm, hmm, _, hall⟩
  · simp only [List.cons.injEq, and_true] at hcs; exact ⟨[], ⟨none, 0, hcs, fun h => absurd h (by simp)⟩, Nat.zero_le _, fun x hx => nomatch hx⟩
  · simp only [List.cons.injEq, and_true] at hcs; subst hcs; simp only [if_true] at hmm; subst hmm; have : Nonempty α := ⟨z⟩
    obtain ⟨g, hg⟩ := @choose_lt α ⟨z⟩ m (fun i y => G y /\ ∀ k, k < sz -> W.cell? (a.add (i * sz + k)) = (f y).toList[k]?) (fun i hi => by
      obtain ⟨cs', h1, h2⟩ := hall i hi; obtain ⟨y, rfl, hG⟩ := hel _ _ _ h2; rw [hsz] at h1; obtain ⟨_, _, h3⟩ := World.cells?_some h1; refine ⟨y, hG, fun k hk => ?_⟩
      rw [<- h3 k hk, Addr.add_add])
    have hL : ((List.range len).map g).length = len := by simp
    refine ⟨(List.range len).map g, ⟨some a, m, by rw [hL], fun hp => ?_⟩, by rw [hL]; omega, fun x hx => by
      obtain ⟨i, hi, rfl⟩ := List.mem_map.1 hx
      exact (hg i (by have := List.mem_range.1 hi; omega)).1⟩
    rw [hL] at hp; have hf0 : ∀ y k, k < sz -> ∃ v, (f y).toList[k]? = some v := fun y k hk => ⟨_, List.getElem?_eq_getElem (by rw [Array.length_toList, hfz]; exact hk)⟩
    have hc0 := (hg 0 (by omega)).2 0 hpos; obtain ⟨v0, hv0⟩ := hf0 (g 0) 0 hpos; rw [hv0] at hc0; obtain ⟨b, off, spot⟩ := a; have hspot : spot = none := by simpa [Addr.add] using World.cell?_spot hc0
    subst hspot
    refine ⟨b, off, rfl, ?_, fun i hi j v hv => ?_⟩
    · have := World.block_lt_of_cell? W _ hc0; simpa [Addr.add] using this
    · rw [hL] at hi
      have hget : ((List.range len).map g).getD i z = g i := by
        rw [List.getD_eq_getElem?_getD, List.getElem?_map, List.getElem?_range hi]; rfl
      rw [hget] at hv
      have hj : j < sz := by
        have := (List.getElem?_eq_some_iff.1 hv).1; rw [Array.length_toList, hfz] at this; exact this
      have := (hg i (by omega)).2 j hj; rw [Addr.add_lit, hv] at this; rw [<- this, Nat.add_assoc]
end
end
section
open Go.ChangeShapes Go.WideShapes Go.ChangeAt Go.RowKit Go.Deep Go.Joins
set_option linter.unusedVariables false
end
section
open Go.ChangeShapes Go.WideShapes Go.ChangeAt Go.RowKit Go.Deep Go.Joins
set_option maxRecDepth 40000 in
def rcF (m : Rec × Value × Value) : Array Value := rcA m.1 m.2.1 m.2.2
set_option maxRecDepth 40000 in
def rcZ : Rec × Value × Value := (Rec.zero, .slice none 0 0, .slice none 0 0)
end
set_option linter.unusedVariables false
set_option linter.unusedVariables false
set_option linter.unusedVariables false
theorem Qwl (t : Int) (w : World) (q : Bool) (Hq : Hid (decide (1 <= t /\ t <= 1048575) = q)) :
    Calls Try.prog 92 #[.int .i64 t] w fun e w' => e = .returned (.bool q) /\ w = w' := by
  by_cases h1 : 1 <= t
  case neg =>
    obtain rfl : q = false := by rw [<- Hq.out]; exact decide_eq_false (fun h => by omega)
    clear Hq; go_enter Try.func92, Try.ntmps92; go_wp2; go_ret; exact ⟨by (first | rfl | (apply congrArg Ending.returned; apply congrArg Value.bool; first | (apply decide_eq_false; omega) | (apply decide_eq_true; omega))), rfl⟩
  by_cases h2 : t <= 1048575
  case neg =>
    obtain rfl : q = false := by rw [<- Hq.out]; exact decide_eq_false (fun h => by omega)
    clear Hq; go_enter Try.func92, Try.ntmps92; go_wp2; go_ret; exact ⟨by (first | rfl | (apply congrArg Ending.returned; apply congrArg Value.bool; first | (apply decide_eq_false; omega) | (apply decide_eq_true; omega))), rfl⟩
  obtain rfl : q = true := by rw [<- Hq.out]; exact decide_eq_true (by omega)
  clear Hq; go_enter Try.func92, Try.ntmps92; go_wp2; go_ret; exact ⟨by (first | rfl | (apply congrArg Ending.returned; apply congrArg Value.bool; first | (apply decide_eq_false; omega) | (apply decide_eq_true; omega))), rfl⟩
theorem Qnj (n l : Nat) (w : World) (q : Bool) (Hq : Hid (decide (1 <= n /\ n < l) = q)) :
    Calls Try.prog 79 #[.int .u64 (n : Int), .int .u64 (l : Int)] w fun e w' => e = .returned (.bool q) /\ w = w' := by
  by_cases h1 : (1 : Int) <= (n : Int)
  case neg =>
    obtain rfl : q = false := by rw [<- Hq.out]; exact decide_eq_false (fun h => by omega)
    clear Hq; go_enter Try.func79, Try.ntmps79; go_wp2; go_ret; exact ⟨by (first | rfl | (apply congrArg Ending.returned; apply congrArg Value.bool; first | (apply decide_eq_false; omega) | (apply decide_eq_true; omega))), rfl⟩
  by_cases h2 : (n : Int) < (l : Int)
  case neg =>
    obtain rfl : q = false := by rw [<- Hq.out]; exact decide_eq_false (fun h => by omega)
    clear Hq; go_enter Try.func79, Try.ntmps79; go_wp2; go_ret; exact ⟨by (first | rfl | (apply congrArg Ending.returned; apply congrArg Value.bool; first | (apply decide_eq_false; omega) | (apply decide_eq_true; omega))), rfl⟩
  obtain rfl : q = true := by rw [<- Hq.out]; exact decide_eq_true (by omega)
  clear Hq; go_enter Try.func79, Try.ntmps79; go_wp2; go_ret; exact ⟨by (first | rfl | (apply congrArg Ending.returned; apply congrArg Value.bool; first | (apply decide_eq_false; omega) | (apply decide_eq_true; omega))), rfl⟩
theorem Qbf (r : Rec) (va vb : Value) (w : World) (q : Bool) (Hq : Hid (decide (1 <= r.t /\ r.t <= 1048575 /\ r.p < r.l) = q)) :
    Calls Try.prog 77 #[.agg (rcA r va vb)] w fun e w' => e = .returned (.bool q) /\ Below w.heap.size w w' := by
  have K0 := Qx.one w 46 (rcA r va vb); obtain ⟨-, c1, c2, c3, -⟩ := Qda K0.1.1; have hb0 := K0.2; clear K0; by_cases ht : 1 <= r.t /\ r.t <= 1048575
  case neg =>
    have H := Qc (fun w => Qwl r.t w false (Qc (decide_eq_false ht))); obtain rfl : q = false := by rw [<- Hq.out]; exact decide_eq_false (fun h => ht ⟨h.1, h.2.1⟩)
    clear Hq ht; go_enter Try.func77, Try.ntmps77; go_wp2_with fail; refine (H.out _).mono ?_; rintro e w1 ⟨rfl, rfl⟩; clear H; go_wp2; go_ret; exact ⟨by (first | rfl | (apply congrArg Ending.returned; apply congrArg Value.bool; first | (apply decide_eq_false; omega) | (apply decide_eq_true; omega))), hb0⟩
  have H := Qc (fun w => Qwl r.t w true (Qc (decide_eq_true ht))); by_cases h3 : (r.p : Int) < (r.l : Int)
  case neg =>
    obtain rfl : q = false := by rw [<- Hq.out]; exact decide_eq_false (fun h => by omega)
    clear Hq ht; go_enter Try.func77, Try.ntmps77; go_wp2_with fail; refine (H.out _).mono ?_; rintro e w1 ⟨rfl, rfl⟩; clear H; go_wp2; go_ret; exact ⟨by (first | rfl | (apply congrArg Ending.returned; apply congrArg Value.bool; first | (apply decide_eq_false; omega) | (apply decide_eq_true; omega))), hb0⟩
  obtain rfl : q = true := by rw [<- Hq.out]; exact decide_eq_true ⟨ht.1, ht.2, by omega⟩
  clear Hq ht; go_enter Try.func77, Try.ntmps77; go_wp2_with fail; refine (H.out _).mono ?_; rintro e w1 ⟨rfl, rfl⟩; clear H; go_wp2; go_ret; exact ⟨by (first | rfl | (apply congrArg Ending.returned; apply congrArg Value.bool; first | (apply decide_eq_false; omega) | (apply decide_eq_true; omega))), hb0⟩
theorem Qeu (x : Tx) (l : Nat) (w : World) (q : Bool) (Hq : Hid (q = true ↔ txOk l x)) :
    Calls Try.prog 95 #[.agg (txA x), .int .u64 (l : Int)] w fun e w' => e = .returned (.bool q) /\ Below w.heap.size w w' := by
  have K0 := Qx.one w 42 (txA x); have c0 := K0.1.1.cell 0 (.int .i64 x.t) rfl; have c1 := K0.1.1.cell 1 (.int .i64 x.s) rfl; have c2 := K0.1.1.cell 2 (.int .u64 (x.f : Int)) rfl; have c3 := K0.1.1.cell 3 (.int .u64 (x.l : Int)) rfl; have c4 := K0.1.1.cell 4 (.int .u64 (x.n : Int)) rfl; have hb0 := K0.2; clear K0
  have HF : Hid (¬ txOk l x -> q = false) := fun h => by
    cases q
    · rfl
    · exact absurd (Hq.out.1 rfl) h
  have HT : Hid (txOk l x -> q = true) := fun h => Hq.out.2 h
  clear Hq; by_cases ht : 1 <= x.t /\ x.t <= 1048575
  case neg =>
    have H := Qc (fun w => Qwl x.t w false (Qc (decide_eq_false ht))); obtain rfl := HF.out (fun h => ht ⟨h.1, h.2.1⟩); clear HF HT ht; generalize x.t = xt at *; generalize x.s = xs at *; generalize x.f = xf at *; generalize x.l = xl at *; generalize x.n = xn at *; go_enter Try.func95, Try.ntmps95; go_wp2_with fail; refine (H.out _).mono ?_; rintro e w1 ⟨rfl, rfl⟩; clear H; go_wp2; go_ret; exact ⟨by (first | rfl | (apply congrArg Ending.returned; apply congrArg Value.bool; first | (apply decide_eq_false; omega) | (apply decide_eq_true; omega))), hb0⟩
  have H := Qc (fun w => Qwl x.t w true (Qc (decide_eq_true ht))); by_cases s1 : 1 <= x.s
  case neg =>
    obtain rfl := HF.out (fun h => by obtain ⟨h1, h2, h3, h4, h5, h6, h7, h8⟩ := h; omega); clear HF HT ht; generalize x.t = xt at *; generalize x.s = xs at *; generalize x.f = xf at *; generalize x.l = xl at *; generalize x.n = xn at *; go_enter Try.func95, Try.ntmps95; go_wp2_with fail; refine (H.out _).mono ?_; rintro e w1 ⟨rfl, rfl⟩; clear H; go_wp2; go_ret; exact ⟨by (first | rfl | (apply congrArg Ending.returned; apply congrArg Value.bool; first | (apply decide_eq_false; omega) | (apply decide_eq_true; omega))), hb0⟩
  by_cases s2 : x.s <= 3
  case neg =>
    obtain rfl := HF.out (fun h => by obtain ⟨h1, h2, h3, h4, h5, h6, h7, h8⟩ := h; omega); clear HF HT ht; generalize x.t = xt at *; generalize x.s = xs at *; generalize x.f = xf at *; generalize x.l = xl at *; generalize x.n = xn at *; go_enter Try.func95, Try.ntmps95; go_wp2_with fail; refine (H.out _).mono ?_; rintro e w1 ⟨rfl, rfl⟩; clear H; go_wp2; go_ret; exact ⟨by (first | rfl | (apply congrArg Ending.returned; apply congrArg Value.bool; first | (apply decide_eq_false; omega) | (apply decide_eq_true; omega))), hb0⟩
  by_cases f1 : (1 : Int) <= (x.f : Int)
  case neg =>
    obtain rfl := HF.out (fun h => by obtain ⟨h1, h2, h3, h4, h5, h6, h7, h8⟩ := h; omega); clear HF HT ht; generalize x.t = xt at *; generalize x.s = xs at *; generalize x.f = xf at *; generalize x.l = xl at *; generalize x.n = xn at *; go_enter Try.func95, Try.ntmps95; go_wp2_with fail; refine (H.out _).mono ?_; rintro e w1 ⟨rfl, rfl⟩; clear H; go_wp2; go_ret; exact ⟨by (first | rfl | (apply congrArg Ending.returned; apply congrArg Value.bool; first | (apply decide_eq_false; omega) | (apply decide_eq_true; omega))), hb0⟩
  by_cases f2 : (x.f : Int) <= (x.l : Int)
  case neg =>
    obtain rfl := HF.out (fun h => by obtain ⟨h1, h2, h3, h4, h5, h6, h7, h8⟩ := h; omega); clear HF HT ht; generalize x.t = xt at *; generalize x.s = xs at *; generalize x.f = xf at *; generalize x.l = xl at *; generalize x.n = xn at *; go_enter Try.func95, Try.ntmps95; go_wp2_with fail; refine (H.out _).mono ?_; rintro e w1 ⟨rfl, rfl⟩; clear H; go_wp2; go_ret; exact ⟨by (first | rfl | (apply congrArg Ending.returned; apply congrArg Value.bool; first | (apply decide_eq_false; omega) | (apply decide_eq_true; omega))), hb0⟩
  by_cases l1 : (x.l : Int) < (l : Int)
  case neg =>
    obtain rfl := HF.out (fun h => by obtain ⟨h1, h2, h3, h4, h5, h6, h7, h8⟩ := h; omega); clear HF HT ht; generalize x.t = xt at *; generalize x.s = xs at *; generalize x.f = xf at *; generalize x.l = xl at *; generalize x.n = xn at *; go_enter Try.func95, Try.ntmps95; go_wp2_with fail; refine (H.out _).mono ?_; rintro e w1 ⟨rfl, rfl⟩; clear H; go_wp2; go_ret; exact ⟨by (first | rfl | (apply congrArg Ending.returned; apply congrArg Value.bool; first | (apply decide_eq_false; omega) | (apply decide_eq_true; omega))), hb0⟩
  by_cases n1 : (x.n : Int) <= (x.l : Int)
  case neg =>
    obtain rfl := HF.out (fun h => by obtain ⟨h1, h2, h3, h4, h5, h6, h7, h8⟩ := h; omega); clear HF HT ht; generalize x.t = xt at *; generalize x.s = xs at *; generalize x.f = xf at *; generalize x.l = xl at *; generalize x.n = xn at *; go_enter Try.func95, Try.ntmps95; go_wp2_with fail; refine (H.out _).mono ?_; rintro e w1 ⟨rfl, rfl⟩; clear H; go_wp2; go_ret; exact ⟨by (first | rfl | (apply congrArg Ending.returned; apply congrArg Value.bool; first | (apply decide_eq_false; omega) | (apply decide_eq_true; omega))), hb0⟩
  obtain rfl := HT.out ⟨ht.1, ht.2, s1, s2, by omega, by omega, by omega, by omega⟩; clear HF HT ht; generalize x.t = xt at *; generalize x.s = xs at *; generalize x.f = xf at *; generalize x.l = xl at *; generalize x.n = xn at *; go_enter Try.func95, Try.ntmps95; go_wp2_with fail; refine (H.out _).mono ?_; rintro e w1 ⟨rfl, rfl⟩; clear H; go_wp2; go_ret; exact ⟨by (first | rfl | (apply congrArg Ending.returned; apply congrArg Value.bool; first | (apply decide_eq_false; omega) | (apply decide_eq_true; omega))), hb0⟩
theorem Qey (va : Value) (xs : List Tx) (l : Nat) (w : World) (q : Bool) (Hq : Hid (q = true ↔ xs.length <= 16 /\ ∀ i, i < xs.length -> txAt l xs i)) (hin : Qqd w va xs) :
    Calls Try.prog 80 #[va, .int .u64 (l : Int)] w fun e w' => e = .returned (.bool q) /\ Below w.heap.size w w' := by
  have HIN := Qc hin; obtain ⟨a1, cap1, rfl, -⟩ := hin; have hb0 := Below.refl w.heap.size w
  have HF : Hid (¬ (xs.length <= 16 /\ ∀ i, i < xs.length -> txAt l xs i) -> q = false) := fun h => by
    cases q
    · rfl
    · exact absurd (Hq.out.1 rfl) h
  have HT : Hid (xs.length <= 16 /\ (∀ i, i < xs.length -> txAt l xs i) -> q = true) := fun h => Hq.out.2 h
  clear Hq; by_cases hm : 16 < xs.length
  case pos =>
    obtain rfl := HF.out (fun h => by have := h.1; omega); have i1 : (16 : Int) < (xs.length : Int) := by omega
    clear HF HT HIN; generalize xs.length = n1 at *; go_enter Try.func80, Try.ntmps80; go_wp2; go_ret; exact ⟨rfl, hb0⟩
  have i1 : ¬ (16 : Int) < (xs.length : Int) := by omega
  go_enter Try.func80, Try.ntmps80; go_wp2; go_loopw [13, 5] (fun v u wr => ∃ j : Nat, j <= xs.length /\ v = .int .i64 j /\ (∃ p : Int, u = .int .i64 p /\ (j = 0 -> p = 0) /\ (0 < j -> p = (xs.getD (j - 1) Tx.zero).t)) /\ Below w.heap.size w wr /\ ∀ i, i < j -> txAt l xs i) (fun v _ _ => xs.length - (intOf v).toNat)
  case atStart => exact ⟨0, Nat.zero_le _, rfl, ⟨0, rfl, fun _ => rfl, fun h => absurd h (by omega)⟩, Below.refl _ _, fun i hi => absurd hi (by omega)⟩
  case round =>
    obtain ⟨j, hj, rfl, ⟨p, rfl, hp0, hp1⟩, hb, hat⟩ := hrel; have HAT := Qc hat; have HB := Qc hb; have HP0 := Qc hp0; have HP1 := Qc hp1; clear hat hb hb0 hp0 hp1; by_cases hlt : j < xs.length
    case neg =>
      obtain rfl : j = xs.length := by omega
      obtain rfl := HT.out ⟨by omega, HAT.out⟩; have d3 := HB.out; clear HF HT HAT HIN HB HP0 HP1; go_wp2; go_ret; exact ⟨rfl, d3⟩
    have jlt : (j : Int) < (xs.length : Int) := by omega
    obtain ⟨u1, k1, e1, hrow1⟩ := HIN.out.below HB.out; cases e1; obtain ⟨b, off, rfl, -, hc⟩ := hrow1 (by omega); have HRG := Qc (hc j hlt); clear hrow1 hc; obtain ⟨x, hx⟩ : ∃ x, x = xs.getD j Tx.zero := ⟨_, rfl⟩; have HX := Qc hx; rw [<- hx] at HRG; clear hx; go_wp2_with (first | (refine Qec rfl 42 (.tmp 15) rfl b (off + j * 5) (txA x) rfl HRG.out _ Try.underlying42 rfl infoTx ?_) | (refine Qe rfl 42 (.tmp 7) (.tmp 16) rfl wr.heap.size (txA Tx.zero) (txA x) rfl rfl (Qb.new wr 42 (txA Tx.zero)) infoTx rfl (txA_one _) ?_)); intro w2 hr2 hk2 _; have HB2 := Qc (HB.out.trans ((hk2 _ _ ((Below.refl wr.heap.size wr).alloc (Nat.le_refl _) _) (Nat.le_refl _)).mono HB.out.size)); have HR2 := Qc hr2; clear hr2 hk2 HB HRG; generalize wr.heap.size = g at *; have c0 := HR2.out.cell 0 (.int .i64 x.t) rfl; by_cases t1 : x.t <= p
    case pos =>
      obtain rfl := HF.out (fun h => by
        have h2 := h.2 j hlt; unfold txAt at h2; rw [<- HX.out] at h2
        by_cases h0 : j = 0
        · have := HP0.out h0; have := h2.1.1; omega
        · have := HP1.out (by omega); have := h2.2 (by omega)
          omega)
      have d3 := HB2.out; clear HF HT HAT HIN HB2 HP0 HP1 HX HR2; generalize x.t = xt at *; go_wp2; go_ret; exact ⟨rfl, d3⟩
    have c1 := HR2.out.cell 1 (.int .i64 x.s) rfl; have c2 := HR2.out.cell 2 (.int .u64 (x.f : Int)) rfl; have c3 := HR2.out.cell 3 (.int .u64 (x.l : Int)) rfl; have c4 := HR2.out.cell 4 (.int .u64 (x.n : Int)) rfl; by_cases ok : txOk l x
    case neg =>
      obtain rfl := HF.out (fun h => ok (by have h2 := (h.2 j hlt).1; rwa [<- HX.out] at h2)); have H := Qc (fun w => Qeu x l w false (Qc ⟨fun h => (nomatch h), fun h => absurd h ok⟩)); have d3 := HB2.out; clear HF HT HAT HIN HB2 HP0 HP1 HX HR2 ok; go_wp2_with fail; refine (H.out _).mono ?_; rintro e w3 ⟨rfl, hb3⟩; have d4 := d3.trans (hb3.mono d3.size); clear hb3 d3 H c0 c1 c2 c3 c4; go_wp2; go_ret; exact ⟨rfl, d4⟩
    have H := Qc (fun w => Qeu x l w true (Qc ⟨fun _ => ok, fun _ => rfl⟩)); have HOK := Qc ok; clear ok; go_wp2_with fail; refine (H.out _).mono ?_; rintro e w3 ⟨rfl, hb3⟩; have HB3 := Qc (HB2.out.trans (hb3.mono HB2.out.size)); have d0 := (HR2.out.later hb3).cell 0 (.int .i64 x.t) rfl; clear hb3 H c0 c1 c2 c3 c4 HR2 HB2; go_wp2; go_roundw
    case rel =>
      refine ⟨j + 1, by omega, by go_num, ⟨x.t, rfl, fun h => absurd h (by omega), fun _ => by rw [HX.out]; rfl⟩, HB3.out, Qdg HAT.out ⟨by rw [<- HX.out]; exact HOK.out, fun h => ?_⟩⟩; rw [<- HX.out, <- HP1.out h]; omega
    case measure => simp [intOf]; omega
theorem rdirty_at (va : Value) (xs : List Di) (l : Nat) (w : World) (q : Bool) (Hq : Hid (q = true ↔ xs.length <= 32 /\ ∀ i, i < xs.length -> diAt l xs i)) (hin : Qcf w va xs) :
    Calls Try.prog 81 #[va, .int .u64 (l : Int)] w fun e w' => e = .returned (.bool q) /\ Below w.heap.size w w' := by
  have HIN := Qc hin; obtain ⟨a1, cap1, rfl, -⟩ := hin; have hb0 := Below.refl w.heap.size w
  have HF : Hid (¬ (xs.length <= 32 /\ ∀ i, i < xs.length -> diAt l xs i) -> q = false) := fun h => by
    cases q
    · rfl
    · exact absurd (Hq.out.1 rfl) h
  have HT : Hid (xs.length <= 32 /\ (∀ i, i < xs.length -> diAt l xs i) -> q = true) := fun h => Hq.out.2 h
  clear Hq; by_cases hm : 32 < xs.length
  case pos =>
    obtain rfl := HF.out (fun h => by have := h.1; omega); have i1 : (32 : Int) < (xs.length : Int) := by omega
    clear HF HT HIN; generalize xs.length = n1 at *; go_enter Try.func81, Try.ntmps81; go_wp2; go_ret; exact ⟨rfl, hb0⟩
  have i1 : ¬ (32 : Int) < (xs.length : Int) := by omega
  go_enter Try.func81, Try.ntmps81; go_wp2; go_loopw [13, 5] (fun v u wr => ∃ j : Nat, j <= xs.length /\ v = .int .i64 j /\ (∃ p : Int, u = .int .i64 p /\ (j = 0 -> p = -1) /\ (0 < j -> p = (xs.getD (j - 1) Di.zero).p)) /\ Below w.heap.size w wr /\ ∀ i, i < j -> diAt l xs i) (fun v _ _ => xs.length - (intOf v).toNat)
  case atStart => exact ⟨0, Nat.zero_le _, rfl, ⟨-1, rfl, fun _ => rfl, fun h => absurd h (by omega)⟩, Below.refl _ _, fun i hi => absurd hi (by omega)⟩
  case round =>
    obtain ⟨j, hj, rfl, ⟨p, rfl, hp0, hp1⟩, hb, hat⟩ := hrel; have HAT := Qc hat; have HB := Qc hb; have HP0 := Qc hp0; have HP1 := Qc hp1; clear hat hb hb0 hp0 hp1; by_cases hlt : j < xs.length
    case neg =>
      obtain rfl : j = xs.length := by omega
      obtain rfl := HT.out ⟨by omega, HAT.out⟩; have d3 := HB.out; clear HF HT HAT HIN HB HP0 HP1; go_wp2; go_ret; exact ⟨rfl, d3⟩
    have jlt : (j : Int) < (xs.length : Int) := by omega
    obtain ⟨u1, k1, e1, hrow1⟩ := HIN.out.below HB.out; cases e1; obtain ⟨b, off, rfl, -, hc⟩ := hrow1 (by omega); have HRG := Qc (hc j hlt); clear hrow1 hc; obtain ⟨x, hx⟩ : ∃ x, x = xs.getD j Di.zero := ⟨_, rfl⟩; have HX := Qc hx; rw [<- hx] at HRG; clear hx; go_wp2_with (first | (refine Qec rfl 81 (.tmp 15) rfl b (off + j * 2) (diA x) rfl HRG.out _ Try.underlying81 rfl infoDi ?_) | (refine Qe rfl 81 (.tmp 7) (.tmp 16) rfl wr.heap.size (diA Di.zero) (diA x) rfl rfl (Qb.new wr 81 (diA Di.zero)) infoDi rfl (diA_one _) ?_)); intro w2 hr2 hk2 _; have HB2 := Qc (HB.out.trans ((hk2 _ _ ((Below.refl wr.heap.size wr).alloc (Nat.le_refl _) _) (Nat.le_refl _)).mono HB.out.size)); have HR2 := Qc hr2; clear hr2 hk2 HB HRG; generalize wr.heap.size = g at *; have c0 := HR2.out.cell 0 (.int .i64 x.p) rfl; have c1 := HR2.out.cell 1 (.int .u64 (x.r : Int)) rfl; by_cases t1 : x.p <= p
    case pos =>
      obtain rfl := HF.out (fun h => by
        have h2 := h.2 j hlt; unfold diAt at h2; rw [<- HX.out] at h2
        by_cases h0 : j = 0
        · have := HP0.out h0; have := h2.1.1; omega
        · have := HP1.out (by omega); have := h2.2 (by omega)
          omega)
      have d3 := HB2.out; clear HF HT HAT HIN HB2 HP0 HP1 HX HR2; generalize x.p = xp at *; generalize x.r = xr at *; go_wp2; go_ret; exact ⟨rfl, d3⟩
    by_cases t2 : 32 <= x.p
    case pos =>
      obtain rfl := HF.out (fun h => by
        have h2 := (h.2 j hlt).1.2.1; rw [<- HX.out] at h2
        omega)
      have d3 := HB2.out; clear HF HT HAT HIN HB2 HP0 HP1 HX HR2; generalize x.p = xp at *; generalize x.r = xr at *; go_wp2; go_ret; exact ⟨rfl, d3⟩
    by_cases ok : 1 <= x.r /\ x.r < l
    case neg =>
      obtain rfl := HF.out (fun h => ok (by have h2 := (h.2 j hlt).1.2.2; rwa [<- HX.out] at h2)); have H := Qc (fun w => Qnj x.r l w false (Qc (decide_eq_false ok))); have d3 := HB2.out; clear HF HT HAT HIN HB2 HP0 HP1 HX HR2 ok; go_wp2_with fail; refine (H.out _).mono ?_; rintro e w3 ⟨rfl, rfl⟩; clear H c0 c1; go_wp2; go_ret; exact ⟨rfl, d3⟩
    have H := Qc (fun w => Qnj x.r l w true (Qc (decide_eq_true ok))); have HOK := Qc ok; clear ok; go_wp2_with fail; refine (H.out _).mono ?_; rintro e w3 ⟨rfl, rfl⟩; clear H HR2 c1; go_wp2; go_roundw
    case rel =>
      have hp : 0 <= x.p := by
        by_cases h0 : j = 0
        · have := HP0.out h0; omega
        · have h1 := (HAT.out (j - 1) (by omega)).1.1; rw [<- HP1.out (by omega)] at h1; omega
      refine ⟨j + 1, by omega, by go_num, ⟨x.p, rfl, fun h => absurd h (by omega), fun _ => by rw [HX.out]; rfl⟩, HB2.out, Qdg HAT.out ⟨by rw [<- HX.out]; exact ⟨hp, by omega, HOK.out⟩, fun h => ?_⟩⟩; rw [<- HX.out, <- HP1.out h]; omega
    case measure => simp [intOf]; omega
abbrev placeOk (pg sl : Int) : Prop := 0 <= pg /\ pg <= 31 /\ 0 <= sl /\ sl <= 7
theorem Qxq (pg sl : Int) (w : World) (r : Bool) (Hr : Hid (decide (placeOk pg sl) = r)) :
    Calls Try.prog 93 #[.int .i64 pg, .int .i64 sl] w fun e w' => e = .returned (.bool r) /\ w = w' := by
  by_cases h1 : 0 <= pg
  · by_cases h2 : pg < 32
    · by_cases h3 : 0 <= sl
      · by_cases h4 : sl < 8
        · obtain rfl : r = true := by rw [<- Hr.out]; exact decide_eq_true ⟨h1, by omega, h3, by omega⟩
          clear Hr; go_enter Try.func93, Try.ntmps93; go_wp2; go_ret; exact ⟨rfl, rfl⟩
        · obtain rfl : r = false := by rw [<- Hr.out]; exact decide_eq_false (fun h => by omega)
          clear Hr; go_enter Try.func93, Try.ntmps93; go_wp2; go_ret; exact ⟨rfl, rfl⟩
      · obtain rfl : r = false := by rw [<- Hr.out]; exact decide_eq_false (fun h => by omega)
        clear Hr; go_enter Try.func93, Try.ntmps93; go_wp2; go_ret; exact ⟨rfl, rfl⟩
    · obtain rfl : r = false := by rw [<- Hr.out]; exact decide_eq_false (fun h => by omega)
      clear Hr; go_enter Try.func93, Try.ntmps93; go_wp2; go_ret; exact ⟨rfl, rfl⟩
  · obtain rfl : r = false := by rw [<- Hr.out]; exact decide_eq_false (fun h => by omega)
    clear Hr; go_enter Try.func93, Try.ntmps93; go_wp2; go_ret; exact ⟨rfl, rfl⟩
theorem kind_at (c : Ch) (w : World) (r : Bool) (Hr : Hid (decide c.kindOk = r)) :
    Calls Try.prog 94 #[.agg (chA c)] w fun e w' => e = .returned (.bool r) /\ Below w.heap.size w w' := by
  have hb0 : Below w.heap.size w (w.alloc (.cells (chA c) 44)) := (Below.refl _ _).alloc (Nat.le_refl _) _; obtain ⟨a0, a1, a2, a3, a4⟩ := Qwe.all (show Qwe (w.alloc (.cells (chA c) 44)) w.heap.size c from heap_alloc_new w _); clear a1 a2
  by_cases k1 : c.k = 1
  · obtain rfl : c.o.toList.isEmpty = r := by
      rw [<- Hr.out, Bool.eq_iff_iff, Qfb, decide_eq_true_eq]; exact ⟨fun h => .inl ⟨k1, h⟩, fun h => by rcases h with h | h | h <;> omega⟩
    rw [k1] at a0; clear Hr k1; go_enter Try.func94, Try.ntmps94; generalize c.o = o at *; go_wp2; go_ret; exact ⟨rfl, hb0⟩
  · by_cases k3 : c.k = 3
    · obtain rfl : c.n.toList.isEmpty = r := by
        rw [<- Hr.out, Bool.eq_iff_iff, Qfb, decide_eq_true_eq]; exact ⟨fun h => .inr (.inr ⟨k3, h⟩), fun h => by rcases h with h | h | h <;> omega⟩
      rw [k3] at a0; clear Hr k1 k3; go_enter Try.func94, Try.ntmps94; generalize c.n = n at *; go_wp2; go_ret; exact ⟨rfl, hb0⟩
    · by_cases k2 : c.k = 2
      · obtain rfl : r = true := by rw [<- Hr.out]; exact decide_eq_true (.inr (.inl k2))
        rw [k2] at a0; clear Hr k1 k2 k3; go_enter Try.func94, Try.ntmps94; go_wp2; go_ret; exact ⟨rfl, hb0⟩
      · obtain rfl : r = false := by
          rw [<- Hr.out]; exact decide_eq_false (fun h => by rcases h with h | h | h <;> omega)
        have j1 : (c.k == 1) = false := by simpa using k1
        have j2 : (c.k == 2) = false := by simpa using k2
        have j3 : (c.k == 3) = false := by simpa using k3
        clear Hr k1 k2 k3; go_enter Try.func94, Try.ntmps94; generalize c.k = k at *; go_wp2; go_ret; exact ⟨rfl, hb0⟩
theorem Qdk (c : Ch) (w : World) (r : Bool) (Hr : Hid (decide c.right = r)) :
    Calls Try.prog 78 #[.agg (chA c)] w fun e w' => e = .returned (.bool r) /\ Below w.heap.size w w' := by
  have hb0 : Below w.heap.size w (w.alloc (.cells (chA c) 44)) := (Below.refl _ _).alloc (Nat.le_refl _) _; have hc0 : Qwe (w.alloc (.cells (chA c) 44)) w.heap.size c := heap_alloc_new w _; obtain ⟨a0, a1, a2, a3, a4⟩ := hc0.all; have HC := Qc hc0; clear a0 hc0
  by_cases hpl : placeOk c.pg c.sl
  · have HP := Qc (fun w => Qxq c.pg c.sl w true (Qc (decide_eq_true hpl)))
    by_cases h1 : (c.o.size : Int) <= 20
    · by_cases h2 : (c.n.size : Int) <= 20
      · have HK := Qc (fun w => kind_at c w r (Qc (by
          rw [<- Hr.out]
          exact decide_eq_decide.2 ⟨fun h => ⟨⟨hpl.1, hpl.2.1, hpl.2.2.1, hpl.2.2.2, by omega, by omega⟩, h⟩, fun h => h.2⟩)))
        clear Hr hpl; go_enter Try.func78, Try.ntmps78; go_wp2_with fail; refine (HP.out _).mono ?_; rintro e w1 ⟨rfl, rfl⟩; go_wp2_with (refine Qd rfl 44 (.tmp 1) rfl w.heap.size rfl (chA c) HC.out _ Try.underlying44 rfl Qja ?_); refine (HK.out _).mono ?_; rintro e w2 ⟨rfl, hb2⟩; have d2 := hb0.trans (hb2.mono hb0.size); clear hb2 HC HK HP a1 a2 a3 a4 hb0 h1 h2; go_wp2; go_ret; exact ⟨rfl, d2⟩
      · obtain rfl : r = false := by rw [<- Hr.out]; exact decide_eq_false (fun h => by have := h.1; omega)
        clear Hr hpl; go_enter Try.func78, Try.ntmps78; go_wp2_with fail; refine (HP.out _).mono ?_; rintro e w1 ⟨rfl, rfl⟩; clear HP; go_wp2; go_ret; exact ⟨rfl, hb0⟩
    · obtain rfl : r = false := by rw [<- Hr.out]; exact decide_eq_false (fun h => by have := h.1; omega)
      clear Hr hpl; go_enter Try.func78, Try.ntmps78; go_wp2_with fail; refine (HP.out _).mono ?_; rintro e w1 ⟨rfl, rfl⟩; clear HP; go_wp2; go_ret; exact ⟨rfl, hb0⟩
  · have HP := Qc (fun w => Qxq c.pg c.sl w false (Qc (decide_eq_false hpl))); obtain rfl : r = false := by rw [<- Hr.out]; exact decide_eq_false (fun h => hpl ⟨h.1.1, h.1.2.1, h.1.2.2.1, h.1.2.2.2.1⟩)
    clear Hr hpl; go_enter Try.func78, Try.ntmps78; go_wp2_with fail; refine (HP.out _).mono ?_; rintro e w1 ⟨rfl, rfl⟩; clear HP; go_wp2; go_ret; exact ⟨rfl, hb0⟩
def Rec.uses (r : Rec) : Prop := 1 <= r.k /\ r.k <= 8 /\ (r.k <= 6 -> 1 <= r.t /\ r.t <= 1048575 /\ r.p < r.l) /\ (r.k <= 2 -> r.c.right) /\ (r.k = 2 -> r.n < r.l) /\ (r.k = 6 -> 1 <= r.s /\ r.s <= 8) /\ (r.k = 8 -> r.rows)
def Rec.used (r : Rec) : Rec := ⟨r.k, r.l, if r.k <= 6 then r.t else 0, if r.k <= 6 then r.p else 0, if r.k <= 2 then r.c else Ch.zero, if r.k = 2 then r.n else 0, if r.k = 6 then r.s else 0, if r.k = 8 then r.b else 0, if r.k = 8 then r.ts else [], if r.k = 8 then r.ds else []⟩
theorem Qwk {r : Rec} : r.right ↔ 1 <= r.l /\ r.l <= Qve /\ r.uses /\ r = r.used := by
  constructor
  · intro h; refine ⟨h.l1, h.lm, ⟨h.k1, h.k8, h.own, h.ch, h.next, h.save, h.check⟩, ?_⟩; have h1 := h.none; have h2 := h.noch; have h3 := h.nonext; have h4 := h.nosave; have h5 := h.nocheck; obtain ⟨k, l, t, p, c, n, s, b, ts, ds⟩ := r; simp only at h1 h2 h3 h4 h5; unfold Rec.used; simp only [Rec.mk.injEq, true_and]
    refine ⟨?_, ?_, ?_, ?_, ?_, ?_, ?_, ?_⟩
    · by_cases hk : k <= 6
      · rw [if_pos hk]
      · rw [if_neg hk]; exact (h1 (by omega)).1
    · by_cases hk : k <= 6
      · rw [if_pos hk]
      · rw [if_neg hk]; exact (h1 (by omega)).2
    · by_cases hk : k <= 2
      · rw [if_pos hk]
      · rw [if_neg hk]; exact h2 (by omega)
    · by_cases hk : k = 2
      · rw [if_pos hk]
      · rw [if_neg hk]; exact h3 hk
    · by_cases hk : k = 6
      · rw [if_pos hk]
      · rw [if_neg hk]; exact h4 hk
    · by_cases hk : k = 8
      · rw [if_pos hk]
      · rw [if_neg hk]; exact (h5 hk).1
    · by_cases hk : k = 8
      · rw [if_pos hk]
      · rw [if_neg hk]; exact (h5 hk).2.1
    · by_cases hk : k = 8
      · rw [if_pos hk]
      · rw [if_neg hk]; exact (h5 hk).2.2
  · rintro ⟨h1, h2, ⟨u1, u2, u3, u4, u5, u6, u7⟩, he⟩
    refine ⟨u1, u2, h1, h2, u3, fun hk => ?_, u4, fun hk => ?_, u5, fun hk => ?_, u6, fun hk => ?_, u7, fun hk => ?_⟩
    · constructor
      · rw [he]; show (if r.k <= 6 then r.t else 0) = 0; rw [if_neg (by omega)]
      · rw [he]; show (if r.k <= 6 then r.p else 0) = 0; rw [if_neg (by omega)]
    · rw [he]; show (if r.k <= 2 then r.c else Ch.zero) = Ch.zero; rw [if_neg (by omega)]
    · rw [he]; show (if r.k = 2 then r.n else 0) = 0; rw [if_neg hk]
    · rw [he]; show (if r.k = 6 then r.s else 0) = 0; rw [if_neg hk]
    · refine ⟨?_, ?_, ?_⟩
      · rw [he]; show (if r.k = 8 then r.b else 0) = 0; rw [if_neg hk]
      · rw [he]; show (if r.k = 8 then r.ts else []) = []; rw [if_neg hk]
      · rw [he]; show (if r.k = 8 then r.ds else []) = []; rw [if_neg hk]
end Go.Proofs.Ythlllmkmpneedaa
