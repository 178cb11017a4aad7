/-
  Texts that lean on one another, one behind the other: each opens with its own remark.
-/
import Derived.Maps.AppendAt
import Derived.Test.YtkgniegdefaieaaK12
import Derived.Test.YtkgniegdefaieaaK04
import Derived.Test.YtkgniegdefaieaaK06
import Derived.Test.YtkgniegdefaieaaK07
import Derived.Test.YtkgniegdefaieaaK08
import Derived.Test.YtkgniegdefaieaaK03

namespace Go.Proofs.Ytkgniegdefaieaa
open Go.RowKit
set_option linter.unusedVariables false
set_option maxRecDepth 8000
set_option maxHeartbeats 25600000
theorem Qyx (s t : Ta) (va vb ua ub : Value) (w : World) (q : Bool) (Hq : Hid (q = true ↔ s = t)) (fs : TaFit s) (ft : TaFit t) (ls : TaOk s 2000) (lt : TaOk t 2000) (h1 : Qxb w va s.1) (h2 : Qxc w vb s.2) (h3 : Qxb w ua t.1) (h4 : Qxc w ub t.2) :
    Calls Try.prog 22 #[.agg (taA va vb), .agg (taA ua ub)] w fun e w' => e = .returned (.bool q) /\ Below w.heap.size w w' := by
  have HC := Qb (fun x (hb : Below w.heap.size w x) => Qvw s t va vb ua ub x q Hq fs ft ls lt (h1.below hb) (h2.below hb) (h3.below hb) (h4.below hb)); obtain ⟨n1, n2, n3⟩ := Qtc w (taA va vb) (taA ua ub) 28 28; obtain ⟨y, hy⟩ : ∃ y, y = (w.alloc (.cells (taA va vb) 28)).alloc (.cells (taA ua ub) 28) := ⟨_, rfl⟩; rw [<- hy] at n1 n2 n3; obtain ⟨b1, hb1⟩ : ∃ b, b = w.heap.size := ⟨_, rfl⟩; obtain ⟨b2, hb2⟩ : ∃ b, b = w.heap.size + 1 := ⟨_, rfl⟩; rw [<- hb1] at n1; rw [<- hb2] at n2; obtain ⟨x1, c1, rfl, _⟩ := h1; obtain ⟨x2, c2, rfl, _⟩ := h2; obtain ⟨x3, c3, rfl, _⟩ := h3; obtain ⟨x4, c4, rfl, _⟩ := h4; have H0 : Hid (Qa y b1 28 (taA (.slice x1 s.1.length c1) (.slice x2 s.2.length c2)) /\ Qa y b2 28 (taA (.slice x3 t.1.length c3) (.slice x4 t.2.length c4)) /\ Below w.heap.size w y) := ⟨n1, n2, n3⟩; have HY := Qb hy; have HB := Qb (And.intro hb1 hb2); clear n1 n2 n3 hy hb1 hb2 fs ft ls lt Hq; obtain ⟨ta, hta⟩ : ∃ u, u = taA (.slice x1 s.1.length c1) (.slice x2 s.2.length c2) := ⟨_, rfl⟩; obtain ⟨tb, htb⟩ : ∃ u, u = taA (.slice x3 t.1.length c3) (.slice x4 t.2.length c4) := ⟨_, rfl⟩; have hia : (Try.prog.info? 28).map (·.size) = some ta.size := by rw [hta]; exact Qde
  have hib : (Try.prog.info? 28).map (·.size) = some tb.size := by rw [htb]; exact Qde
  have HO1 := Qb (fun x => Quw x x1 x2 s.1.length s.2.length c1 c2); have HO2 := Qb (fun x => Quw x x3 x4 t.1.length t.2.length c3 c4); rw [show #[.slice x1 s.1.length c1, .slice x2 s.2.length c2] = ta from hta.symm] at HO1; rw [show #[.slice x3 t.1.length c3, .slice x4 t.2.length c4] = tb from htb.symm] at HO2; rw [<- hta, <- htb] at HY H0 HC |-; clear hta htb; go_enter Try.func22, Try.ntmps22; go_wp2_with fail; rw [<- HY.out, <- HB.out.2, <- HB.out.1]; clear HY; have HD : Hid (Below w.heap.size w y.drew) := Qoc H0.out.2.2 1; refine wp_region_noPanic ?_; refine wp_region_held_drew (S := fun x => Qa x b1 28 ta /\ Qa x b2 28 tb) (by kernel_rfl) ⟨Qgj H0.out.1, Qgj H0.out.2.1⟩ (fun hHeld => ?_); generalize y.drew = y1 at *; clear H0; refine Qr 0 (some 5) (.agg ta) rfl rfl (by kernel_rfl) (by kernel_rfl) (by kernel_rfl) (fun _ _ _ h => h) (Qv (by kernel_rfl) 28 _ rfl (.pointer (some ⟨b1, 0, none⟩)) rfl _ (fun x hSx => Qpc x hSx.1 Try.underlying28 rfl hia)) hHeld ?_; (try simp only [Act.put, List.setIfInBounds_toArray, List.set]); refine Qr 2 (some 7) (.agg tb) rfl rfl (by kernel_rfl) (by kernel_rfl) (by kernel_rfl) (fun _ _ _ h => h) (Qv (by kernel_rfl) 28 _ rfl (.pointer (some ⟨b2, 0, none⟩)) rfl _ (fun x hSx => Qpc x hSx.2 Try.underlying28 rfl hib)) hHeld ?_; (try simp only [Act.put, List.setIfInBounds_toArray, List.set]); refine Qm 1 (by kernel_rfl) ?_; refine Qfa (some 6) rfl rfl rfl 14 #[.agg ta] ?he ((HO1.out y1).mono ?_); (case he => go_simp); rintro e w2 ⟨rfl, hb2⟩; have H2 := Qb (HD.out.trans (hb2.mono HD.out.size)); have hHeld2 : Qa w2 b1 _ _ /\ Qa w2 b2 _ _ := And.intro (hHeld.1.later hb2) (hHeld.2.later hb2); clear hHeld hb2 HD HO1; refine ⟨_, rfl, hHeld2, ?_⟩; (try simp only [Act.put, List.setIfInBounds_toArray, List.set]); refine Qm 3 (by kernel_rfl) ?_; refine Qfa (some 8) rfl rfl rfl 14 #[.agg tb] ?he ((HO2.out w2).mono ?_); (case he => go_simp); rintro e w3 ⟨rfl, hb3⟩; have H3 := Qb (H2.out.trans (hb3.mono H2.out.size)); have hHeld3 : Qa w3 b1 _ _ /\ Qa w3 b2 _ _ := And.intro (hHeld2.1.later hb3) (hHeld2.2.later hb3); clear hHeld2 hb3 H2 HO2; refine ⟨_, rfl, hHeld3, ?_⟩; (try simp only [Act.put, List.setIfInBounds_toArray, List.set]); refine Qm 4 (by kernel_rfl) ?_; refine Qfa (some 9) rfl rfl rfl 13 #[.agg ta, .agg tb] ?he ((HC.out w3 H3.out).mono ?_); (case he => go_simp); rintro e w4 ⟨rfl, hb4⟩; have H4 := Qb (H3.out.trans (hb4.mono H3.out.size))
  have hHeld4 : Qa w4 b1 _ _ /\ Qa w4 b2 _ _ := And.intro (hHeld3.1.later hb4) (hHeld3.2.later hb4); clear hHeld3 hb4 H3 HC; refine ⟨_, rfl, hHeld4, ?_⟩; (try simp only [Act.put, List.setIfInBounds_toArray, List.set]); refine Qr 5 (some 4) (.bool q) rfl rfl (by kernel_rfl) (by kernel_rfl) (by kernel_rfl) (fun _ _ _ h => h) (Or.inl ⟨by kernel_rfl, fun x hSx => by go_simp⟩) hHeld4 ?_; (try simp only [Act.put, List.setIfInBounds_toArray, List.set]); refine wpAnyH_done (by kernel_rfl) ?_ _; refine NoPanic.normal ?_; clear hHeld4; go_wp2; go_ret; exact ⟨rfl, H4.out⟩
theorem Qmw.own {w w' : World} {rs : List Rec} {e : Ending} (h : Qmw w rs e w') : ∃ s1 s2, e = .returned (.tuple #[.agg (taA (slV s1 (Qfv rs).1.length) (slV s2 (Qfv rs).2.length)), .int .i64 (Qow rs)]) /\ TaAt w w' s1 s2 (Qfv rs).1 (Qfv rs).2 := by
  rcases h with ⟨h1, s1, s2, h2, h3⟩ | ⟨h1, h2, h3⟩
  · have e1 : Qfv rs = ofA rs := if_pos ((Qea _ _).2 h1); have e2 : Qow rs = 0 := if_pos ((Qea _ _).2 h1); rw [e1, e2]; exact ⟨s1, s2, h2, h3⟩
  · have e1 : Qfv rs = ([], []) := if_neg (fun h => h1 ((Qea _ _).1 h)); have e2 : Qow rs = 2 := if_neg (fun h => h1 ((Qea _ _).1 h)); rw [e1, e2]; exact ⟨Sl.nil, Sl.nil, h2, RT.nil _, RD.nil _, fun b hb => (nomatch hb), fun b hb => (nomatch hb), h3⟩
def Qlw (x : Tx) : Prop := (1 : Int) <= x.t /\ x.t <= 1048575 /\ 1 <= x.s /\ x.s <= 3 /\ (1 : Int) <= (x.f : Int) /\ (x.f : Int) <= (x.l : Int) /\ (x.l : Int) <= 4611686018427387904 /\ (x.n : Int) <= (x.l : Int)
def Qnw (x : Di) : Prop := (0 : Int) <= x.p /\ x.p < 32 /\ (1 : Int) <= (x.r : Int) /\ (x.r : Int) <= 4611686018427387904
instance (x : Tx) : Decidable (Qlw x) := inferInstanceAs (Decidable ((1 : Int) <= x.t /\ x.t <= 1048575 /\ 1 <= x.s /\ x.s <= 3 /\ (1 : Int) <= (x.f : Int) /\ (x.f : Int) <= (x.l : Int) /\ (x.l : Int) <= 4611686018427387904 /\ (x.n : Int) <= (x.l : Int)))
instance (x : Di) : Decidable (Qnw x) := inferInstanceAs (Decidable ((0 : Int) <= x.p /\ x.p < 32 /\ (1 : Int) <= (x.r : Int) /\ (x.r : Int) <= 4611686018427387904))
theorem canBeT16 (x : Tx) (w : World) : Calls Try.prog 49 #[.agg (txA x)] w fun e w' => e = .returned (.bool (decide (Qlw x))) /\ Below w.heap.size w w' := by
  obtain ⟨q, hq⟩ : ∃ q, q = decide (Qlw x) := ⟨_, rfl⟩; have HQ : Hid (q = true ↔ Qlw x) := by rw [hq]; exact decide_eq_true_iff
  rw [<- hq]; clear hq; obtain ⟨t, s, f, l, n⟩ := x; unfold Qlw at HQ; unfold txA; dsimp only at HQ |-; have hbl : ∀ c : World, Below w.heap.size w c -> True := fun _ _ => trivial
  by_cases h0 : (1 : Int) <= t
  rotate_left
  · obtain rfl : q = false := by
      cases q
      · rfl
      · exact absurd (HQ.out.1 rfl).1 h0
    go_enter Try.func49, Try.ntmps49; go_wp2; go_ret; exact ⟨rfl, (Below.refl _ _).alloc (Nat.le_refl _) _⟩
  by_cases h1 : t <= 1048575
  rotate_left
  · obtain rfl : q = false := by
      cases q
      · rfl
      · exact absurd (HQ.out.1 rfl).2.1 h1
    go_enter Try.func49, Try.ntmps49; go_wp2; go_ret; exact ⟨rfl, (Below.refl _ _).alloc (Nat.le_refl _) _⟩
  by_cases h2 : 1 <= s
  rotate_left
  · obtain rfl : q = false := by
      cases q
      · rfl
      · exact absurd (HQ.out.1 rfl).2.2.1 h2
    go_enter Try.func49, Try.ntmps49; go_wp2; go_ret; exact ⟨rfl, (Below.refl _ _).alloc (Nat.le_refl _) _⟩
  by_cases h3 : s <= 3
  rotate_left
  · obtain rfl : q = false := by
      cases q
      · rfl
      · exact absurd (HQ.out.1 rfl).2.2.2.1 h3
    go_enter Try.func49, Try.ntmps49; go_wp2; go_ret; exact ⟨rfl, (Below.refl _ _).alloc (Nat.le_refl _) _⟩
  by_cases h4 : (1 : Int) <= (f : Int)
  rotate_left
  · obtain rfl : q = false := by
      cases q
      · rfl
      · exact absurd (HQ.out.1 rfl).2.2.2.2.1 h4
    go_enter Try.func49, Try.ntmps49; go_wp2; go_ret; exact ⟨rfl, (Below.refl _ _).alloc (Nat.le_refl _) _⟩
  by_cases h5 : (f : Int) <= (l : Int)
  rotate_left
  · obtain rfl : q = false := by
      cases q
      · rfl
      · exact absurd (HQ.out.1 rfl).2.2.2.2.2.1 h5
    go_enter Try.func49, Try.ntmps49; go_wp2; go_ret; exact ⟨rfl, (Below.refl _ _).alloc (Nat.le_refl _) _⟩
  by_cases h6 : (l : Int) <= 4611686018427387904
  rotate_left
  · obtain rfl : q = false := by
      cases q
      · rfl
      · exact absurd (HQ.out.1 rfl).2.2.2.2.2.2.1 h6
    go_enter Try.func49, Try.ntmps49; go_wp2; go_ret; exact ⟨rfl, (Below.refl _ _).alloc (Nat.le_refl _) _⟩
  by_cases h7 : (n : Int) <= (l : Int)
  rotate_left
  · obtain rfl : q = false := by
      cases q
      · rfl
      · exact absurd (HQ.out.1 rfl).2.2.2.2.2.2.2 h7
    go_enter Try.func49, Try.ntmps49; go_wp2; go_ret; exact ⟨rfl, (Below.refl _ _).alloc (Nat.le_refl _) _⟩
  obtain rfl : q = true := HQ.out.2 ⟨h0, h1, h2, h3, h4, h5, h6, h7⟩; go_enter Try.func49, Try.ntmps49; go_wp2; go_ret; exact ⟨rfl, (Below.refl _ _).alloc (Nat.le_refl _) _⟩
theorem canBeD16 (x : Di) (w : World) : Calls Try.prog 50 #[.agg (diA x)] w fun e w' => e = .returned (.bool (decide (Qnw x))) /\ Below w.heap.size w w' := by
  obtain ⟨q, hq⟩ : ∃ q, q = decide (Qnw x) := ⟨_, rfl⟩; have HQ : Hid (q = true ↔ Qnw x) := by rw [hq]; exact decide_eq_true_iff
  rw [<- hq]; clear hq; obtain ⟨p, r⟩ := x; unfold Qnw at HQ; unfold diA; dsimp only at HQ |-; have hbl : ∀ c : World, Below w.heap.size w c -> True := fun _ _ => trivial
  by_cases h0 : (0 : Int) <= p
  rotate_left
  · obtain rfl : q = false := by
      cases q
      · rfl
      · exact absurd (HQ.out.1 rfl).1 h0
    go_enter Try.func50, Try.ntmps50; go_wp2; go_ret; exact ⟨rfl, (Below.refl _ _).alloc (Nat.le_refl _) _⟩
  by_cases h1 : p < 32
  rotate_left
  · obtain rfl : q = false := by
      cases q
      · rfl
      · exact absurd (HQ.out.1 rfl).2.1 h1
    go_enter Try.func50, Try.ntmps50; go_wp2; go_ret; exact ⟨rfl, (Below.refl _ _).alloc (Nat.le_refl _) _⟩
  by_cases h2 : (1 : Int) <= (r : Int)
  rotate_left
  · obtain rfl : q = false := by
      cases q
      · rfl
      · exact absurd (HQ.out.1 rfl).2.2.1 h2
    go_enter Try.func50, Try.ntmps50; go_wp2; go_ret; exact ⟨rfl, (Below.refl _ _).alloc (Nat.le_refl _) _⟩
  by_cases h3 : (r : Int) <= 4611686018427387904
  rotate_left
  · obtain rfl : q = false := by
      cases q
      · rfl
      · exact absurd (HQ.out.1 rfl).2.2.2 h3
    go_enter Try.func50, Try.ntmps50; go_wp2; go_ret; exact ⟨rfl, (Below.refl _ _).alloc (Nat.le_refl _) _⟩
  obtain rfl : q = true := HQ.out.2 ⟨h0, h1, h2, h3⟩; go_enter Try.func50, Try.ntmps50; go_wp2; go_ret; exact ⟨rfl, (Below.refl _ _).alloc (Nat.le_refl _) _⟩
def okT (l : List Tx) (j : Nat) : Prop := ∀ i, i < j -> Qlw (l.getD i Tx.zero) /\ (0 < i -> (l.getD (i - 1) Tx.zero).t < (l.getD i Tx.zero).t)
def okD (l : List Di) (j : Nat) : Prop := ∀ i, i < j -> Qnw (l.getD i Di.zero) /\ (0 < i -> (l.getD (i - 1) Di.zero).p < (l.getD i Di.zero).p)
def Qrv (t : Ta) : Prop := okT t.1 t.1.length /\ okD t.2 t.2.length
def Qqv (l : List Tx) (j : Nat) : Int := if j = 0 then 0 else (l.getD (j - 1) Tx.zero).t
def Qmv (l : List Di) (j : Nat) : Int := if j = 0 then -1 else (l.getD (j - 1) Di.zero).p
theorem Qdx {l : List Tx} {j : Nat} (h : okT l j) : okT l (j + 1) ↔ (Qqv l j < (l.getD j Tx.zero).t /\ Qlw (l.getD j Tx.zero)) := by
  unfold Qqv
  constructor
  · intro h1; obtain ⟨h2, h3⟩ := h1 j (Nat.lt_succ_self j); refine ⟨?_, h2⟩
    split
    · have := h2.1; omega
    · exact h3 (by omega)
  · rintro ⟨h1, h2⟩ i hi
    by_cases e : i = j
    · subst e; refine ⟨h2, fun h0 => ?_⟩; rwa [if_neg (by omega)] at h1
    · exact h i (by omega)
theorem Qax {l : List Di} {j : Nat} (h : okD l j) : okD l (j + 1) ↔ (Qmv l j < (l.getD j Di.zero).p /\ Qnw (l.getD j Di.zero)) := by
  unfold Qmv
  constructor
  · intro h1; obtain ⟨h2, h3⟩ := h1 j (Nat.lt_succ_self j); refine ⟨?_, h2⟩
    split
    · have := h2.1; omega
    · exact h3 (by omega)
  · rintro ⟨h1, h2⟩ i hi
    by_cases e : i = j
    · subst e; refine ⟨h2, fun h0 => ?_⟩; rwa [if_neg (by omega)] at h1
    · exact h i (by omega)
theorem Qhw {l : List Tx} {i j : Nat} (h : okT l j) (hi : i <= j) : okT l i := fun k hk => h k (by omega)
theorem Qiw {l : List Di} {i j : Nat} (h : okD l j) (hi : i <= j) : okD l i := fun k hk => h k (by omega)
theorem Qdw (l : List Tx) (j : Nat) : Qqv l (j + 1) = (l.getD j Tx.zero).t := by
  unfold Qqv; rw [if_neg (by omega)]; rfl
theorem Qaw (l : List Di) (j : Nat) : Qmv l (j + 1) = (l.getD j Di.zero).p := by
  unfold Qmv; rw [if_neg (by omega)]; rfl
structure Cb (w wr : World) (b1 : Nat) (ta : Array Value) : Prop where
  a : Qa wr b1 28 ta
  lo : w.heap.size <= b1
  bel : Below w.heap.size w wr
theorem Cb.later {w wr y : World} {b1 : Nat} {ta : Array Value} (h : Cb w wr b1 ta) (hb : Below wr.heap.size wr y) : Cb w y b1 ta := ⟨h.a.later hb, h.lo, h.bel.trans (hb.mono h.bel.size)⟩
theorem canBe16 (w : World) (vT vD : Value) (T : List Tx) (D : List Di) (hT : Qxb w vT T) (hD : Qxc w vD D) (h1 : T.length <= 10000) (h2 : D.length <= 10000) (q : Bool) (HQ : Hid (q = true ↔ Qrv (T, D))) :
    Calls Try.prog 33 #[.agg (taA vT vD)] w fun e w' => e = .returned (.bool q) /\ Below w.heap.size w w' := by
  obtain ⟨a1, c1, rfl, _⟩ := id hT; obtain ⟨a2, c2, rfl, _⟩ := id hD; have HI := Qb (And.intro hT hD); obtain ⟨n1, hn1⟩ : ∃ n, n = T.length := ⟨_, rfl⟩; obtain ⟨n2, hn2⟩ : ∃ n, n = D.length := ⟨_, rfl⟩; have HNN := Qb (And.intro hn1 hn2); rw [<- hn1] at HI h1 |-; rw [<- hn2] at HI h2 |-; obtain ⟨y, hy⟩ : ∃ y, y = w.alloc (.cells (taA (.slice a1 n1 c1) (.slice a2 n2 c2)) 28) := ⟨_, rfl⟩; have m2 : Below w.heap.size w y := by rw [hy]; exact (Below.refl _ _).alloc (Nat.le_refl _) _
  have m1 : Qa y w.heap.size 28 (taA (.slice a1 n1 c1) (.slice a2 n2 c2)) := by rw [hy]; exact Qa.new w _ _
  obtain ⟨b1, hb1⟩ : ∃ b, b = w.heap.size := ⟨_, rfl⟩; rw [<- hb1] at m1; have H0 : Hid (Cb w y b1 (taA (.slice a1 n1 c1) (.slice a2 n2 c2))) := ⟨m1, by omega, m2⟩; have HY := Qb hy; have HB := Qb hb1; have q1 := H0.out.a.cell 0 (.slice a1 n1 c1) rfl; clear hT hD hn1 hn2 hy m1 m2 hb1; go_enter Try.func33, Try.ntmps33; go_wp2_with (with_reducible refine Qxa 10 rfl ?_); rw [<- HY.out, <- HB.out]; refine Qg ?_; clear HY; go_wp2; clear q1; go_loopw [3, 12] (fun p i wr => ∃ j : Nat, j <= n1 /\ p = .int .i64 (Qqv T j) /\ i = .int .i64 (j : Int) /\ Hid (okT T j /\ Cb w wr b1 (taA (.slice a1 n1 c1) (.slice a2 n2 c2)))) (fun _ i _ => n1 - (intOf i).toNat)
  case atStart => exact ⟨0, Nat.zero_le _, rfl, rfl, fun i hi => absurd hi (by omega), H0.out⟩
  case round =>
    obtain ⟨j, hj, rfl, rfl, HJ0⟩ := hrel; have HJ := Qb HJ0.out.2; have HOK := Qb HJ0.out.1; clear HJ0
    by_cases hlt : j < n1
    · have i5 : (j : Int) < (n1 : Int) := by omega
      have HST := Qb (Qdx HOK.out); obtain ⟨lst, hlst⟩ : ∃ x, x = Qqv T j := ⟨_, rfl⟩; rw [<- hlst] at HST |-; clear hlst; have hjT : j < T.length := by rw [<- HNN.out.1]; exact hlt
      obtain ⟨b, off, c, hv, _, hrx⟩ := HI.out.1.mid hjT; injection hv with p1 p2 p3; have HLD0 := Qb (Qff wr b _ (T.getD j Tx.zero) (hrx wr HJ.out.bel)); obtain ⟨y, hyy⟩ : ∃ y, y = T.getD j Tx.zero := ⟨_, rfl⟩; have HYY := Qb hyy; rw [<- hyy] at HLD0; have HLD : Hid ((Instr.loadAt 42 (.pointer (some ⟨b, off + j * 5, none⟩))).run Try.prog wr = .ok (.agg #[.int .i64 y.t, .int .i64 y.s, .int .u64 (y.f : Int), .int .u64 (y.l : Int), .int .u64 (y.n : Int)]) wr) := HLD0.out; clear hjT hrx p2 p3 hyy HLD0; subst p1; go_wp2_with (first | (refine Qt rfl 42 (.tmp 14) rfl _ (.agg #[.int .i64 y.t, .int .i64 y.s, .int .u64 (y.f : Int), .int .u64 (y.l : Int), .int .u64 (y.n : Int)]) rfl HLD.out ?_) | (refine Ql rfl 42 (.tmp 5) (.tmp 15) rfl wr.heap.size 0 42 (txA Tx.zero) #[.int .i64 y.t, .int .i64 y.s, .int .u64 (y.f : Int), .int .u64 (y.l : Int), .int .u64 (y.n : Int)] rfl rfl (Qa.new wr _ _) Qdc (Nat.le_refl 5) (by simp [Value.oneCell']) ?_; intro w5 hr5 ho5; refine Qpa ?_)); rw [Qn (txA Tx.zero) #[.int .i64 y.t, .int .i64 y.s, .int .u64 (y.f : Int), .int .u64 (y.l : Int), .int .u64 (y.n : Int)] rfl] at hr5; have hal : Below wr.heap.size wr (wr.alloc (.cells (txA Tx.zero) 42)) := (Below.refl _ _).alloc (Nat.le_refl _) _; have H5 := Qb (And.intro hr5 (HJ.out.later (ho5.below hal (Nat.le_refl _)))); obtain ⟨g, hg⟩ : ∃ g, g = wr.heap.size := ⟨_, rfl⟩; rw [<- hg] at H5 |-; clear hr5 ho5 hal hg HLD HJ; refine Qg ?_; rw [<- HYY.out] at HST; have g0 : w5.cell? ⟨g, 0, none⟩ = some (.int .i64 y.t) := H5.out.1.cell 0 _ rfl
      by_cases hle : y.t <= lst
      · obtain rfl : q = false := by
          cases q
          · rfl
          · have h9 := (HQ.out.1 rfl).1; have h8 := HST.out.1 (Qhw h9 (by show j + 1 <= T.length; rw [<- HNN.out.1]; omega)); omega
        go_wp2; go_ret; exact ⟨rfl, H5.out.2.bel⟩
      · have hle2 : ¬ y.t <= lst := hle; go_wp2_with (refine Qd rfl 42 (.tmp 5) rfl g rfl #[.int .i64 y.t, .int .i64 y.s, .int .u64 (y.f : Int), .int .u64 (y.l : Int), .int .u64 (y.n : Int)] H5.out.1 _ Try.underlying42 rfl Qdc ?_); refine (canBeT16 y w5).mono ?_; rintro e w6 ⟨rfl, hb6⟩; have H6 := Qb (And.intro (H5.out.1.later hb6) (H5.out.2.later hb6)); clear hb6 H5 g0; have g0 : w6.cell? ⟨g, 0, none⟩ = some (.int .i64 y.t) := H6.out.1.cell 0 _ rfl
        by_cases hcn : Qlw y
        · rw [decide_eq_true hcn]; have HN := Qb (HST.out.2 ⟨by omega, hcn⟩); have HLS : Hid (y.t = Qqv T (j + 1)) := by show _ = _; rw [Qdw, <- HYY.out]
          clear hcn hle hle2 HST HOK; go_wp2; go_roundw
          case rel => exact ⟨j + 1, by omega, by rw [HLS.out], by go_num, HN.out, H6.out.2⟩
          case measure => simp [intOf] <;> omega
        · rw [decide_eq_false hcn]
          obtain rfl : q = false := by
            cases q
            · rfl
            · have h9 := (HQ.out.1 rfl).1; exact absurd (HST.out.1 (Qhw h9 (by show j + 1 <= T.length; rw [<- HNN.out.1]; omega))).2 hcn
          go_wp2; go_ret; exact ⟨rfl, H6.out.2.bel⟩
    · have i5 : ¬ (j : Int) < (n1 : Int) := by omega
      have hjl : j = n1 := by omega
      have HTT : Hid (okT T T.length) := by
        have h9 := HOK.out; rw [hjl, HNN.out.1] at h9; exact h9
      have q1 := HJ.out.a.cell 1 (.slice a2 n2 c2) rfl; clear HOK hjl; go_wp2; clear q1; go_loopw [6, 31] (fun p i wr => ∃ j : Nat, j <= n2 /\ p = .int .i64 (Qmv D j) /\ i = .int .i64 (j : Int) /\ Hid (okD D j /\ Cb w wr b1 (taA (.slice a1 n1 c1) (.slice a2 n2 c2)))) (fun _ i _ => n2 - (intOf i).toNat)
      case atStart => exact ⟨0, Nat.zero_le _, rfl, rfl, fun i hi => absurd hi (by omega), HJ.out⟩
      case round =>
        obtain ⟨j, hj, rfl, rfl, HJ0⟩ := hrel; have HJ := Qb HJ0.out.2; have HOK := Qb HJ0.out.1; clear HJ0
        by_cases hlt : j < n2
        · have i5 : (j : Int) < (n2 : Int) := by omega
          have HST := Qb (Qax HOK.out); obtain ⟨lst, hlst⟩ : ∃ x, x = Qmv D j := ⟨_, rfl⟩; rw [<- hlst] at HST |-; clear hlst; have hjT : j < D.length := by rw [<- HNN.out.2]; exact hlt
          obtain ⟨b, off, c, hv, _, hrx⟩ := HI.out.2.mid hjT; injection hv with p1 p2 p3; have HLD0 := Qb (Qrh wr b _ (D.getD j Di.zero) (hrx wr HJ.out.bel)); obtain ⟨y, hyy⟩ : ∃ y, y = D.getD j Di.zero := ⟨_, rfl⟩; have HYY := Qb hyy; rw [<- hyy] at HLD0; have HLD : Hid ((Instr.loadAt 81 (.pointer (some ⟨b, off + j * 2, none⟩))).run Try.prog wr = .ok (.agg #[.int .i64 y.p, .int .u64 (y.r : Int)]) wr) := HLD0.out; clear hjT hrx p2 p3 hyy HLD0; subst p1; go_wp2_with (first | (refine Qt rfl 81 (.tmp 33) rfl _ (.agg #[.int .i64 y.p, .int .u64 (y.r : Int)]) rfl HLD.out ?_) | (refine Ql rfl 81 (.tmp 8) (.tmp 34) rfl wr.heap.size 0 81 (diA Di.zero) #[.int .i64 y.p, .int .u64 (y.r : Int)] rfl rfl (Qa.new wr _ _) Qcm (Nat.le_refl 2) (by simp [Value.oneCell']) ?_; intro w5 hr5 ho5; refine Qpa ?_)); rw [Qn (diA Di.zero) #[.int .i64 y.p, .int .u64 (y.r : Int)] rfl] at hr5; have hal : Below wr.heap.size wr (wr.alloc (.cells (diA Di.zero) 81)) := (Below.refl _ _).alloc (Nat.le_refl _) _; have H5 := Qb (And.intro hr5 (HJ.out.later (ho5.below hal (Nat.le_refl _)))); obtain ⟨g, hg⟩ : ∃ g, g = wr.heap.size := ⟨_, rfl⟩; rw [<- hg] at H5 |-; clear hr5 ho5 hal hg HLD HJ; refine Qg ?_; rw [<- HYY.out] at HST; have g0 : w5.cell? ⟨g, 0, none⟩ = some (.int .i64 y.p) := H5.out.1.cell 0 _ rfl
          by_cases hle : y.p <= lst
          · obtain rfl : q = false := by
              cases q
              · rfl
              · have h9 := (HQ.out.1 rfl).2; have h8 := HST.out.1 (Qiw h9 (by show j + 1 <= D.length; rw [<- HNN.out.2]; omega)); omega
            go_wp2; go_ret; exact ⟨rfl, H5.out.2.bel⟩
          · have hle2 : ¬ y.p <= lst := hle; go_wp2_with (refine Qd rfl 81 (.tmp 8) rfl g rfl #[.int .i64 y.p, .int .u64 (y.r : Int)] H5.out.1 _ Try.underlying81 rfl Qcm ?_); refine (canBeD16 y w5).mono ?_; rintro e w6 ⟨rfl, hb6⟩; have H6 := Qb (And.intro (H5.out.1.later hb6) (H5.out.2.later hb6)); clear hb6 H5 g0; have g0 : w6.cell? ⟨g, 0, none⟩ = some (.int .i64 y.p) := H6.out.1.cell 0 _ rfl
            by_cases hcn : Qnw y
            · rw [decide_eq_true hcn]; have HN := Qb (HST.out.2 ⟨by omega, hcn⟩); have HLS : Hid (y.p = Qmv D (j + 1)) := by show _ = _; rw [Qaw, <- HYY.out]
              clear hcn hle hle2 HST HOK; go_wp2; go_roundw
              case rel => exact ⟨j + 1, by omega, by rw [HLS.out], by go_num, HN.out, H6.out.2⟩
              case measure => simp [intOf] <;> omega
            · rw [decide_eq_false hcn]
              obtain rfl : q = false := by
                cases q
                · rfl
                · have h9 := (HQ.out.1 rfl).2; exact absurd (HST.out.1 (Qiw h9 (by show j + 1 <= D.length; rw [<- HNN.out.2]; omega))).2 hcn
              go_wp2; go_ret; exact ⟨rfl, H6.out.2.bel⟩
        · have i5 : ¬ (j : Int) < (n2 : Int) := by omega
          have hjl : j = n2 := by omega
          have HDD : Hid (okD D D.length) := by
            have h9 := HOK.out; rw [hjl, HNN.out.2] at h9; exact h9
          obtain rfl : q = true := HQ.out.2 ⟨HTT.out, HDD.out⟩; go_wp2; go_ret; exact ⟨rfl, HJ.out.bel⟩
def mxT (l : List Tx) : Nat := l.foldl (fun n x => max n x.l) 0
def mxD (n0 : Nat) (l : List Di) : Nat := l.foldl (fun n x => max n x.r) n0
def mxA (t : Ta) : Nat := mxD (mxT t.1) t.2
theorem mxT_succ {l : List Tx} {j : Nat} (hj : j < l.length) : mxT (l.take (j + 1)) = max (mxT (l.take j)) (l.getD j Tx.zero).l := by
  unfold mxT; rw [List.take_succ_eq_append_getElem hj, List.foldl_append, List.getD_eq_getElem?_getD, List.getElem?_eq_getElem hj]; rfl
theorem mxD_succ {n : Nat} {l : List Di} {j : Nat} (hj : j < l.length) : mxD n (l.take (j + 1)) = max (mxD n (l.take j)) (l.getD j Di.zero).r := by
  unfold mxD; rw [List.take_succ_eq_append_getElem hj, List.foldl_append, List.getD_eq_getElem?_getD, List.getElem?_eq_getElem hj]; rfl
theorem Qkw (w : World) (vT vD : Value) (T : List Tx) (D : List Di) (hT : Qxb w vT T) (hD : Qxc w vD D) (h1 : T.length <= 10000) (h2 : D.length <= 10000) :
    Calls Try.prog 34 #[.agg (taA vT vD)] w fun e w' => e = .returned (.int .u64 (mxA (T, D) : Int)) /\ Below w.heap.size w w' := by
  obtain ⟨a1, c1, rfl, _⟩ := id hT; obtain ⟨a2, c2, rfl, _⟩ := id hD; have HI := Qb (And.intro hT hD); obtain ⟨n1, hn1⟩ : ∃ n, n = T.length := ⟨_, rfl⟩; obtain ⟨n2, hn2⟩ : ∃ n, n = D.length := ⟨_, rfl⟩; have HNN := Qb (And.intro hn1 hn2); rw [<- hn1] at HI h1 |-; rw [<- hn2] at HI h2 |-; obtain ⟨y, hy⟩ : ∃ y, y = w.alloc (.cells (taA (.slice a1 n1 c1) (.slice a2 n2 c2)) 28) := ⟨_, rfl⟩; have m2 : Below w.heap.size w y := by rw [hy]; exact (Below.refl _ _).alloc (Nat.le_refl _) _
  have m1 : Qa y w.heap.size 28 (taA (.slice a1 n1 c1) (.slice a2 n2 c2)) := by rw [hy]; exact Qa.new w _ _
  obtain ⟨b1, hb1⟩ : ∃ b, b = w.heap.size := ⟨_, rfl⟩; rw [<- hb1] at m1; have H0 : Hid (Cb w y b1 (taA (.slice a1 n1 c1) (.slice a2 n2 c2))) := ⟨m1, by omega, m2⟩; have HY := Qb hy; have HB := Qb hb1; have q1 := H0.out.a.cell 0 (.slice a1 n1 c1) rfl; clear hT hD hn1 hn2 hy m1 m2 hb1; go_enter Try.func34, Try.ntmps34; go_wp2_with (with_reducible refine Qxa 9 rfl ?_); rw [<- HY.out, <- HB.out]; refine Qg ?_; clear HY; go_wp2; clear q1; go_loopw [3, 11] (fun p i wr => ∃ j : Nat, j <= n1 /\ p = .int .u64 (mxT (T.take j) : Int) /\ i = .int .i64 (j : Int) /\ Hid (Cb w wr b1 (taA (.slice a1 n1 c1) (.slice a2 n2 c2)))) (fun _ i _ => n1 - (intOf i).toNat)
  case atStart => exact ⟨0, Nat.zero_le _, rfl, rfl, H0.out⟩
  case round =>
    obtain ⟨j, hj, rfl, rfl, HJ⟩ := hrel
    by_cases hlt : j < n1
    · have i5 : (j : Int) < (n1 : Int) := by omega
      have HNX := Qb (mxT_succ (show j < T.length by rw [<- HNN.out.1]; exact hlt)); obtain ⟨m, hm⟩ : ∃ x, x = mxT (T.take j) := ⟨_, rfl⟩; rw [<- hm] at HNX |-; clear hm; have hjT : j < T.length := by rw [<- HNN.out.1]; exact hlt
      obtain ⟨b, off, c, hv, _, hrx⟩ := HI.out.1.mid hjT; injection hv with p1 p2 p3; have HLD0 := Qb (Qff wr b _ (T.getD j Tx.zero) (hrx wr HJ.out.bel)); obtain ⟨y, hyy⟩ : ∃ y, y = T.getD j Tx.zero := ⟨_, rfl⟩; have HYY := Qb hyy; rw [<- hyy] at HLD0; have HLD : Hid ((Instr.loadAt 42 (.pointer (some ⟨b, off + j * 5, none⟩))).run Try.prog wr = .ok (.agg #[.int .i64 y.t, .int .i64 y.s, .int .u64 (y.f : Int), .int .u64 (y.l : Int), .int .u64 (y.n : Int)]) wr) := HLD0.out; clear hjT hrx p2 p3 hyy HLD0; subst p1; go_wp2_with (first | (refine Qt rfl 42 (.tmp 13) rfl _ (.agg #[.int .i64 y.t, .int .i64 y.s, .int .u64 (y.f : Int), .int .u64 (y.l : Int), .int .u64 (y.n : Int)]) rfl HLD.out ?_) | (refine Ql rfl 42 (.tmp 5) (.tmp 14) rfl wr.heap.size 0 42 (txA Tx.zero) #[.int .i64 y.t, .int .i64 y.s, .int .u64 (y.f : Int), .int .u64 (y.l : Int), .int .u64 (y.n : Int)] rfl rfl (Qa.new wr _ _) Qdc (Nat.le_refl 5) (by simp [Value.oneCell']) ?_; intro w5 hr5 ho5; refine Qpa ?_)); rw [Qn (txA Tx.zero) #[.int .i64 y.t, .int .i64 y.s, .int .u64 (y.f : Int), .int .u64 (y.l : Int), .int .u64 (y.n : Int)] rfl] at hr5; have hal : Below wr.heap.size wr (wr.alloc (.cells (txA Tx.zero) 42)) := (Below.refl _ _).alloc (Nat.le_refl _) _; have H5 := Qb (And.intro hr5 (HJ.out.later (ho5.below hal (Nat.le_refl _)))); obtain ⟨g, hg⟩ : ∃ g, g = wr.heap.size := ⟨_, rfl⟩; rw [<- hg] at H5 |-; clear hr5 ho5 hal hg HLD HJ; refine Qg ?_; rw [<- HYY.out] at HNX; have g0 : w5.cell? ⟨g, 3, none⟩ = some (.int .u64 (y.l : Int)) := H5.out.1.cell 3 _ rfl
      by_cases hmx : m <= y.l
      · have HN : Hid (mxT (T.take (j + 1)) = y.l) := by show _ = _; rw [HNX.out, Nat.max_eq_right hmx]
        have hx1 : max (m : Int) (y.l : Int) = (y.l : Int) := by omega
        clear HNX; go_wp2; go_roundw
        case rel => exact ⟨j + 1, by omega, by rw [HN.out], by go_num, H5.out.2⟩
        case measure => simp [intOf] <;> omega
      · have HN : Hid (mxT (T.take (j + 1)) = m) := by show _ = _; rw [HNX.out, Nat.max_eq_left (by omega)]
        have hx1 : max (m : Int) (y.l : Int) = (m : Int) := by omega
        clear HNX; go_wp2; go_roundw
        case rel => exact ⟨j + 1, by omega, by rw [HN.out], by go_num, H5.out.2⟩
        case measure => simp [intOf] <;> omega
    · have i5 : ¬ (j : Int) < (n1 : Int) := by omega
      obtain ⟨N1, hN1⟩ : ∃ N, N = mxT T := ⟨_, rfl⟩; have HN1 := Qb hN1; have e1 : mxT (T.take j) = N1 := by rw [List.take_of_length_le (by rw [<- HNN.out.1]; omega), hN1]
      rw [e1]; have q1 := HJ.out.a.cell 1 (.slice a2 n2 c2) rfl; clear e1 hN1; go_wp2; clear q1; go_loopw [3, 23] (fun p i wr => ∃ j : Nat, j <= n2 /\ p = .int .u64 (mxD N1 (D.take j) : Int) /\ i = .int .i64 (j : Int) /\ Hid (Cb w wr b1 (taA (.slice a1 n1 c1) (.slice a2 n2 c2)))) (fun _ i _ => n2 - (intOf i).toNat)
      case atStart => exact ⟨0, Nat.zero_le _, rfl, rfl, HJ.out⟩
      case round =>
        obtain ⟨j, hj, rfl, rfl, HJ⟩ := hrel
        by_cases hlt : j < n2
        · have i5 : (j : Int) < (n2 : Int) := by omega
          have HNX := Qb (mxD_succ (n := N1) (show j < D.length by rw [<- HNN.out.2]; exact hlt)); obtain ⟨m, hm⟩ : ∃ x, x = mxD N1 (D.take j) := ⟨_, rfl⟩; rw [<- hm] at HNX |-; clear hm; have hjT : j < D.length := by rw [<- HNN.out.2]; exact hlt
          obtain ⟨b, off, c, hv, _, hrx⟩ := HI.out.2.mid hjT; injection hv with p1 p2 p3; have HLD0 := Qb (Qrh wr b _ (D.getD j Di.zero) (hrx wr HJ.out.bel)); obtain ⟨y, hyy⟩ : ∃ y, y = D.getD j Di.zero := ⟨_, rfl⟩; have HYY := Qb hyy; rw [<- hyy] at HLD0; have HLD : Hid ((Instr.loadAt 81 (.pointer (some ⟨b, off + j * 2, none⟩))).run Try.prog wr = .ok (.agg #[.int .i64 y.p, .int .u64 (y.r : Int)]) wr) := HLD0.out; clear hjT hrx p2 p3 hyy HLD0; subst p1; go_wp2_with (first | (refine Qt rfl 81 (.tmp 25) rfl _ (.agg #[.int .i64 y.p, .int .u64 (y.r : Int)]) rfl HLD.out ?_) | (refine Ql rfl 81 (.tmp 7) (.tmp 26) rfl wr.heap.size 0 81 (diA Di.zero) #[.int .i64 y.p, .int .u64 (y.r : Int)] rfl rfl (Qa.new wr _ _) Qcm (Nat.le_refl 2) (by simp [Value.oneCell']) ?_; intro w5 hr5 ho5; refine Qpa ?_)); rw [Qn (diA Di.zero) #[.int .i64 y.p, .int .u64 (y.r : Int)] rfl] at hr5; have hal : Below wr.heap.size wr (wr.alloc (.cells (diA Di.zero) 81)) := (Below.refl _ _).alloc (Nat.le_refl _) _; have H5 := Qb (And.intro hr5 (HJ.out.later (ho5.below hal (Nat.le_refl _)))); obtain ⟨g, hg⟩ : ∃ g, g = wr.heap.size := ⟨_, rfl⟩; rw [<- hg] at H5 |-; clear hr5 ho5 hal hg HLD HJ; refine Qg ?_; rw [<- HYY.out] at HNX; have g0 : w5.cell? ⟨g, 1, none⟩ = some (.int .u64 (y.r : Int)) := H5.out.1.cell 1 _ rfl
          by_cases hmx : m <= y.r
          · have HN : Hid (mxD N1 (D.take (j + 1)) = y.r) := by show _ = _; rw [HNX.out, Nat.max_eq_right hmx]
            have hx1 : max (m : Int) (y.r : Int) = (y.r : Int) := by omega
            clear HNX; go_wp2; go_roundw
            case rel => exact ⟨j + 1, by omega, by rw [HN.out], by go_num, H5.out.2⟩
            case measure => simp [intOf] <;> omega
          · have HN : Hid (mxD N1 (D.take (j + 1)) = m) := by show _ = _; rw [HNX.out, Nat.max_eq_left (by omega)]
            have hx1 : max (m : Int) (y.r : Int) = (m : Int) := by omega
            clear HNX; go_wp2; go_roundw
            case rel => exact ⟨j + 1, by omega, by rw [HN.out], by go_num, H5.out.2⟩
            case measure => simp [intOf] <;> omega
        · have i5 : ¬ (j : Int) < (n2 : Int) := by omega
          have HE : Hid (mxD N1 (D.take j) = mxA (T, D)) := by
            show _ = mxD _ _; rw [List.take_of_length_le (by rw [<- HNN.out.2]; omega), HN1.out]
          rw [HE.out]; go_wp2; go_ret; exact ⟨rfl, HJ.out.bel⟩
def Qnv (t : Ta) (rs : List Rec) : Prop := Qcb 0 rs /\ (0 < rs.length -> mxA t < (rs.getD 0 Rec.zero).l)
def Qrw (w : World) (t : Ta) (rs : List Rec) (e : Ending) (w' : World) : Prop :=
  (¬ Qrv t /\ Qtv w ([], []) 1 e w') ∨ (Qrv t /\ ¬ Qnv t rs /\ Qtv w ([], []) 2 e w') ∨ (Qrv t /\ Qnv t rs /\ Qtv w (Qha t rs) 0 e w')
theorem Qew {t : Ta} {n : Nat} (h : Qrv t) (h1 : t.1.length <= n) (h2 : t.2.length <= n) : TaOk t n :=
  ⟨Qut _ fun i hi hp => (h.1 i hi).2 hp, Qdu _ fun i hi hp => (h.2 i hi).2 hp, h1, h2⟩
theorem more16 (w : World) (vT vD : Value) (T : List Tx) (D : List Di) (u : Value) (ms : List (Rec × Value × Value)) (hT : Qxb w vT T) (hD : Qxc w vD D) (h1 : T.length <= 1000) (h2 : D.length <= 1000) (hl : LogIn w u ms) :
    Calls Try.prog 15 #[.agg (taA vT vD), u] w (Qrw w (T, D) (msR ms)) := by
  obtain ⟨n1, n2, n3⟩ := Qtc w (taA vT vD) (taA (.slice none 0 0) (.slice none 0 0)) 28 28; obtain ⟨y, hy⟩ : ∃ y, y = (w.alloc (.cells (taA vT vD) 28)).alloc (.cells (taA (.slice none 0 0) (.slice none 0 0)) 28) := ⟨_, rfl⟩; rw [<- hy] at n1 n2 n3; obtain ⟨b1, hb1⟩ : ∃ b, b = w.heap.size := ⟨_, rfl⟩; obtain ⟨b4, hb4⟩ : ∃ b, b = w.heap.size + 1 := ⟨_, rfl⟩; rw [<- hb1] at n1; rw [<- hb4] at n2; have H0 : Hid (Qa y b1 28 (taA vT vD) /\ Qa y b4 28 (taA (.slice none 0 0) (.slice none 0 0)) /\ Below w.heap.size w y) := ⟨n1, n2, n3⟩; have HB := Qb (And.intro hb1 hb4); have HY := Qb hy
  obtain ⟨q, hq⟩ : ∃ q : Bool, q = true ↔ Qrv (T, D) := by
    classical
    exact ⟨decide (Qrv (T, D)), decide_eq_true_iff⟩
  have HCB := Qb (fun x (hb : Below w.heap.size w x) => canBe16 x vT vD T D (hT.below hb) (hD.below hb) (by omega) (by omega) q hq); have HGR := Qb (fun x (hb : Below w.heap.size w x) => Qkw x vT vD T D (hT.below hb) (hD.below hb) (by omega) (by omega)); have HGO := Qb (fun x (hb : Below w.heap.size w x) => good15 u ms x (hl.below hb)); have HTK := Qb (fun x (hb : Below w.heap.size w x) (ok : TaOk (T, D) 1000) => taken16 x vT vD T D u ms (hT.below hb) (hD.below hb) ok (hl.below hb)); have HL := Qb hl; obtain ⟨au, cu, rfl, hcap⟩ := hl.slice; have hfew := hl.few; obtain ⟨ln, hln⟩ : ∃ k, k = ms.length := ⟨_, rfl⟩; rw [<- hln] at HGO HTK HL hfew hcap |-; have HLN := Qb hln; obtain ⟨ta, hta⟩ : ∃ t, t = taA vT vD := ⟨_, rfl⟩; have htz : ta.size = 2 := by rw [hta]; rfl
  have hti : (Try.prog.info? 28).map (·.size) = some ta.size := by rw [htz]; exact Qde
  rw [<- hta] at HY H0 HCB HGR HTK |-; have HQ := Qb hq; have HLE := Qb (And.intro h1 h2); clear n1 n2 n3 hy hb1 hb4 hq hl hT hD hta hln h1 h2
  cases q
  · have HNO : Hid (¬ Qrv (T, D)) := fun h => by have := HQ.out.2 h; cases this
    go_enter Try.func15, Try.ntmps15; unfold taA at HY; go_wp2_with (with_reducible refine Qxa 6 rfl ?_); rw [<- HY.out, <- HB.out.2, <- HB.out.1]; refine Qg ?_; clear HY; go_wp2_with (refine Qd rfl 28 (.tmp 2) rfl b1 rfl ta H0.out.1 _ Try.underlying28 rfl hti ?_); refine (HCB.out y H0.out.2.2).mono ?_; rintro e w1 ⟨rfl, hb⟩; have H1 : Hid (Qa w1 b1 28 ta /\ Qa w1 b4 28 (taA (.slice none 0 0) (.slice none 0 0)) /\ Below w.heap.size w w1) := ⟨H0.out.1.later hb, H0.out.2.1.later hb, H0.out.2.2.trans (hb.mono H0.out.2.2.size)⟩; clear hb H0 HCB; have c0 := H1.out.2.1.cell 0 _ rfl; have c1 := H1.out.2.1.cell 1 _ rfl; have f0 := H1.out.2.1.free 0; have f1 := H1.out.2.1.free 1; go_wp2; refine bodyPost_ret (Qyk rfl _ _ b4 (taA (.slice none 0 0) (.slice none 0 0)) _ rfl ((H1.out.2.1.set 0 (.slice none 0 0)).set 1 (.slice none 0 0)) Try.underlying28 rfl Qde) rfl ?_; have h0 : w.heap.size <= b4 := by have := HB.out; omega
    have hbl := (H1.out.2.2.setCell (p := ⟨b4, 0, none⟩) h0 (.slice none 0 0)).setCell (p := ⟨b4, 1, none⟩) h0 (.slice none 0 0); exact .inl ⟨HNO.out, _, _, rfl, nilT _, nilD _, hbl⟩
  · have HTO := Qb (HQ.out.1 rfl)
    by_cases hr : Qgf 0 (msR ms) = false
    · have HG := Qb hr; have HNO : Hid (¬ Qnv (T, D) (msR ms)) := fun h => by rw [(Qea _ _).2 h.1] at hr; cases hr
      clear hr; go_enter Try.func15, Try.ntmps15; unfold taA at HY; go_wp2_with (with_reducible refine Qxa 6 rfl ?_); rw [<- HY.out, <- HB.out.2, <- HB.out.1]; refine Qg ?_; clear HY; go_wp2_with (refine Qd rfl 28 (.tmp 2) rfl b1 rfl ta H0.out.1 _ Try.underlying28 rfl hti ?_); refine (HCB.out y H0.out.2.2).mono ?_; rintro e w1 ⟨rfl, hb⟩; have H1 : Hid (Qa w1 b1 28 ta /\ Qa w1 b4 28 (taA (.slice none 0 0) (.slice none 0 0)) /\ Below w.heap.size w w1) := ⟨H0.out.1.later hb, H0.out.2.1.later hb, H0.out.2.2.trans (hb.mono H0.out.2.2.size)⟩; clear hb H0 HCB; go_wp2_with fail; have HD : Hid (Qa w1.drew b1 28 ta /\ Qa w1.drew b4 28 (taA (.slice none 0 0) (.slice none 0 0)) /\ Below w.heap.size w w1.drew) := ⟨Qgj H1.out.1, Qgj H1.out.2.1, Qoc H1.out.2.2 1⟩; refine wp_region_noPanic ?_; refine wp_region_held_drew (S := fun x => Qa x b1 28 ta /\ Below w.heap.size w x) (by kernel_rfl) ⟨HD.out.1, HD.out.2.2⟩ (fun hHeld => ?_); generalize w1.drew = y1 at *; clear H1; refine tkq 0 (some 10) (.slice au ln cu) hHeld ?_; (try simp only [Act.put, List.setIfInBounds_toArray, List.set]); refine Qm 1 (by kernel_rfl) ?_; refine Qfa (some 11) rfl rfl rfl 29 #[.slice au ln cu] ?he ((HGO.out y1 HD.out.2.2).mono ?_); (case he => go_simp); rintro e w2 ⟨rfl, hb2⟩; rw [HG.out]; have H2 : Hid (Qa w2 b1 28 ta /\ Qa w2 b4 28 (taA (.slice none 0 0) (.slice none 0 0)) /\ Below w.heap.size w w2) := ⟨HD.out.1.later hb2, HD.out.2.1.later hb2, HD.out.2.2.trans (hb2.mono HD.out.2.2.size)⟩; have hHeld2 := And.intro H2.out.1 H2.out.2.2; clear hHeld hb2 HD HGO; refine ⟨_, rfl, hHeld2, ?_⟩; (try simp only [Act.put, List.setIfInBounds_toArray, List.set]); refine Qr 2 (some 12) (.bool true) rfl rfl (by kernel_rfl) (by kernel_rfl) (by kernel_rfl) (fun _ _ _ h => h) (Or.inl ⟨by kernel_rfl, fun x hSx => by go_simp⟩) hHeld2 ?_; (try simp only [Act.put, List.setIfInBounds_toArray, List.set]); refine Qr 3 (some 13) (.bool true) rfl rfl (by kernel_rfl) (by kernel_rfl) (by kernel_rfl) (fun _ _ _ h => h) (Or.inl ⟨by kernel_rfl, fun x hSx => by go_simp⟩) hHeld2 ?_; (try simp only [Act.put, List.setIfInBounds_toArray, List.set]); refine Qr 4 (some 14) undef rfl rfl (by kernel_rfl) (by kernel_rfl) (by kernel_rfl) (fun _ _ _ h => h) (Or.inr ⟨by kernel_rfl, rfl⟩) hHeld2 ?_; (try simp only [Act.put, List.setIfInBounds_toArray, List.set]); refine Qr 5 (some 15) undef rfl rfl (by kernel_rfl) (by kernel_rfl) (by kernel_rfl) (fun _ _ _ h => h) (Or.inr ⟨by kernel_rfl, rfl⟩) hHeld2 ?_
      (try simp only [Act.put, List.setIfInBounds_toArray, List.set])
      refine Qr 6 (some 16) undef rfl rfl (by kernel_rfl) (by kernel_rfl) (by kernel_rfl) (fun _ _ _ h => h) (Or.inr ⟨by kernel_rfl, rfl⟩) hHeld2 ?_; (try simp only [Act.put, List.setIfInBounds_toArray, List.set]); refine Qr 7 (some 17) undef rfl rfl (by kernel_rfl) (by kernel_rfl) (by kernel_rfl) (fun _ _ _ h => h) (Or.inr ⟨by kernel_rfl, rfl⟩) hHeld2 ?_; (try simp only [Act.put, List.setIfInBounds_toArray, List.set]); refine Qr 8 (some 18) undef rfl rfl (by kernel_rfl) (by kernel_rfl) (by kernel_rfl) (fun _ _ _ h => h) (Or.inr ⟨by kernel_rfl, rfl⟩) hHeld2 ?_; (try simp only [Act.put, List.setIfInBounds_toArray, List.set]); refine Qr 9 (some 19) undef rfl rfl (by kernel_rfl) (by kernel_rfl) (by kernel_rfl) (fun _ _ _ h => h) (Or.inr ⟨by kernel_rfl, rfl⟩) hHeld2 ?_; (try simp only [Act.put, List.setIfInBounds_toArray, List.set]); refine Qr 10 (some 20) undef rfl rfl (by kernel_rfl) (by kernel_rfl) (by kernel_rfl) (fun _ _ _ h => h) (Or.inr ⟨by kernel_rfl, rfl⟩) hHeld2 ?_; (try simp only [Act.put, List.setIfInBounds_toArray, List.set]); refine Qr 11 (some 21) undef rfl rfl (by kernel_rfl) (by kernel_rfl) (by kernel_rfl) (fun _ _ _ h => h) (Or.inr ⟨by kernel_rfl, rfl⟩) hHeld2 ?_; (try simp only [Act.put, List.setIfInBounds_toArray, List.set]); refine Qr 12 (some 22) undef rfl rfl (by kernel_rfl) (by kernel_rfl) (by kernel_rfl) (fun _ _ _ h => h) (Or.inr ⟨by kernel_rfl, rfl⟩) hHeld2 ?_; (try simp only [Act.put, List.setIfInBounds_toArray, List.set]); refine Qr 13 (some 23) undef rfl rfl (by kernel_rfl) (by kernel_rfl) (by kernel_rfl) (fun _ _ _ h => h) (Or.inr ⟨by kernel_rfl, rfl⟩) hHeld2 ?_; (try simp only [Act.put, List.setIfInBounds_toArray, List.set]); refine Qr 14 (some 24) undef rfl rfl (by kernel_rfl) (by kernel_rfl) (by kernel_rfl) (fun _ _ _ h => h) (Or.inr ⟨by kernel_rfl, rfl⟩) hHeld2 ?_; (try simp only [Act.put, List.setIfInBounds_toArray, List.set]); refine Qr 15 (some 25) undef rfl rfl (by kernel_rfl) (by kernel_rfl) (by kernel_rfl) (fun _ _ _ h => h) (Or.inr ⟨by kernel_rfl, rfl⟩) hHeld2 ?_; (try simp only [Act.put, List.setIfInBounds_toArray, List.set]); refine Qr 16 (some 26) (.bool true) rfl rfl (by kernel_rfl) (by kernel_rfl) (by kernel_rfl) (fun _ _ _ h => h) (Or.inl ⟨by kernel_rfl, fun x hSx => by go_simp⟩) hHeld2 ?_; (try simp only [Act.put, List.setIfInBounds_toArray, List.set]); refine wpAnyH_done (by kernel_rfl) ?_ _; refine NoPanic.normal ?_; clear hHeld2; have c0 := H2.out.2.1.cell 0 _ rfl
      have c1 := H2.out.2.1.cell 1 _ rfl; have f0 := H2.out.2.1.free 0; have f1 := H2.out.2.1.free 1; go_wp2; refine bodyPost_ret (Qyk rfl _ _ b4 (taA (.slice none 0 0) (.slice none 0 0)) _ rfl ((H2.out.2.1.set 0 (.slice none 0 0)).set 1 (.slice none 0 0)) Try.underlying28 rfl Qde) rfl ?_; have h0 : w.heap.size <= b4 := by have := HB.out; omega
      have hbl := (H2.out.2.2.setCell (p := ⟨b4, 0, none⟩) h0 (.slice none 0 0)).setCell (p := ⟨b4, 1, none⟩) h0 (.slice none 0 0); exact .inr (.inl ⟨HTO.out, HNO.out, _, _, rfl, nilT _, nilD _, hbl⟩)
    · have HG : Hid (Qgf 0 (msR ms) = true) := by
        cases h : Qgf 0 (msR ms)
        · exact absurd h hr
        · rfl
      have HRI := Qb ((Qea _ _).1 HG.out); clear hr
      by_cases h0 : ln = 0
      · subst h0; have HYES : Hid (Qnv (T, D) (msR ms)) := ⟨HRI.out, fun h => by rw [Qka, <- HLN.out] at h; omega⟩; go_enter Try.func15, Try.ntmps15; unfold taA at HY; go_wp2_with (with_reducible refine Qxa 6 rfl ?_); rw [<- HY.out, <- HB.out.2, <- HB.out.1]; refine Qg ?_; clear HY; go_wp2_with (refine Qd rfl 28 (.tmp 2) rfl b1 rfl ta H0.out.1 _ Try.underlying28 rfl hti ?_); refine (HCB.out y H0.out.2.2).mono ?_; rintro e w1 ⟨rfl, hb⟩; have H1 : Hid (Qa w1 b1 28 ta /\ Qa w1 b4 28 (taA (.slice none 0 0) (.slice none 0 0)) /\ Below w.heap.size w w1) := ⟨H0.out.1.later hb, H0.out.2.1.later hb, H0.out.2.2.trans (hb.mono H0.out.2.2.size)⟩; clear hb H0 HCB; go_wp2_with fail; have HD : Hid (Qa w1.drew b1 28 ta /\ Qa w1.drew b4 28 (taA (.slice none 0 0) (.slice none 0 0)) /\ Below w.heap.size w w1.drew) := ⟨Qgj H1.out.1, Qgj H1.out.2.1, Qoc H1.out.2.2 1⟩; refine wp_region_noPanic ?_; refine wp_region_held_drew (S := fun x => Qa x b1 28 ta /\ Below w.heap.size w x) (by kernel_rfl) ⟨HD.out.1, HD.out.2.2⟩ (fun hHeld => ?_); generalize w1.drew = y1 at *; clear H1; refine tkq 0 (some 10) (.slice au 0 cu) hHeld ?_; (try simp only [Act.put, List.setIfInBounds_toArray, List.set]); refine Qm 1 (by kernel_rfl) ?_; refine Qfa (some 11) rfl rfl rfl 29 #[.slice au 0 cu] ?he ((HGO.out y1 HD.out.2.2).mono ?_); (case he => go_simp); rintro e w2 ⟨rfl, hb2⟩; rw [HG.out]; have H2 : Hid (Qa w2 b1 28 ta /\ Qa w2 b4 28 (taA (.slice none 0 0) (.slice none 0 0)) /\ Below w.heap.size w w2) := ⟨HD.out.1.later hb2, HD.out.2.1.later hb2, HD.out.2.2.trans (hb2.mono HD.out.2.2.size)⟩; have hHeld2 := And.intro H2.out.1 H2.out.2.2; clear hHeld hb2 HD HGO; refine ⟨_, rfl, hHeld2, ?_⟩; (try simp only [Act.put, List.setIfInBounds_toArray, List.set]); refine Qr 2 (some 12) (.bool false) rfl rfl (by kernel_rfl) (by kernel_rfl) (by kernel_rfl) (fun _ _ _ h => h) (Or.inl ⟨by kernel_rfl, fun x hSx => by go_simp⟩) hHeld2 ?_; (try simp only [Act.put, List.setIfInBounds_toArray, List.set]); refine Qr 3 (some 13) (.bool false) rfl rfl (by kernel_rfl) (by kernel_rfl) (by kernel_rfl) (fun _ _ _ h => h) (Or.inl ⟨by kernel_rfl, fun x hSx => by go_simp⟩) hHeld2 ?_; (try simp only [Act.put, List.setIfInBounds_toArray, List.set]); refine Qr 4 (some 14) (.slice au 0 cu) rfl rfl (by kernel_rfl) (by kernel_rfl) (by kernel_rfl) (fun _ _ _ h => h) (Or.inl ⟨by kernel_rfl, fun x hSx => by go_simp⟩) hHeld2 ?_; (try simp only [Act.put, List.setIfInBounds_toArray, List.set])
        refine Qr 5 (some 15) (.int .i64 0) rfl rfl (by kernel_rfl) (by kernel_rfl) (by kernel_rfl) (fun _ _ _ h => h) (Or.inl ⟨by kernel_rfl, fun x hSx => by go_simp⟩) hHeld2 ?_; (try simp only [Act.put, List.setIfInBounds_toArray, List.set]); refine Qr 6 (some 16) (.bool false) rfl rfl (by kernel_rfl) (by kernel_rfl) (by kernel_rfl) (fun _ _ _ h => h) (Or.inl ⟨by kernel_rfl, fun x hSx => by go_simp⟩) hHeld2 ?_; (try simp only [Act.put, List.setIfInBounds_toArray, List.set]); refine Qr 7 (some 17) (.bool false) rfl rfl (by kernel_rfl) (by kernel_rfl) (by kernel_rfl) (fun _ _ _ h => h) (Or.inl ⟨by kernel_rfl, fun x hSx => by go_simp⟩) hHeld2 ?_; (try simp only [Act.put, List.setIfInBounds_toArray, List.set]); refine Qr 8 (some 18) undef rfl rfl (by kernel_rfl) (by kernel_rfl) (by kernel_rfl) (fun _ _ _ h => h) (Or.inr ⟨by kernel_rfl, rfl⟩) hHeld2 ?_; (try simp only [Act.put, List.setIfInBounds_toArray, List.set]); refine Qr 9 (some 19) undef rfl rfl (by kernel_rfl) (by kernel_rfl) (by kernel_rfl) (fun _ _ _ h => h) (Or.inr ⟨by kernel_rfl, rfl⟩) hHeld2 ?_; (try simp only [Act.put, List.setIfInBounds_toArray, List.set]); refine Qr 10 (some 20) undef rfl rfl (by kernel_rfl) (by kernel_rfl) (by kernel_rfl) (fun _ _ _ h => h) (Or.inr ⟨by kernel_rfl, rfl⟩) hHeld2 ?_; (try simp only [Act.put, List.setIfInBounds_toArray, List.set]); refine Qr 11 (some 21) undef rfl rfl (by kernel_rfl) (by kernel_rfl) (by kernel_rfl) (fun _ _ _ h => h) (Or.inr ⟨by kernel_rfl, rfl⟩) hHeld2 ?_; (try simp only [Act.put, List.setIfInBounds_toArray, List.set]); refine Qr 12 (some 22) undef rfl rfl (by kernel_rfl) (by kernel_rfl) (by kernel_rfl) (fun _ _ _ h => h) (Or.inr ⟨by kernel_rfl, rfl⟩) hHeld2 ?_; (try simp only [Act.put, List.setIfInBounds_toArray, List.set]); refine Qr 13 (some 23) undef rfl rfl (by kernel_rfl) (by kernel_rfl) (by kernel_rfl) (fun _ _ _ h => h) (Or.inr ⟨by kernel_rfl, rfl⟩) hHeld2 ?_; (try simp only [Act.put, List.setIfInBounds_toArray, List.set]); refine Qr 14 (some 24) undef rfl rfl (by kernel_rfl) (by kernel_rfl) (by kernel_rfl) (fun _ _ _ h => h) (Or.inr ⟨by kernel_rfl, rfl⟩) hHeld2 ?_; (try simp only [Act.put, List.setIfInBounds_toArray, List.set]); refine Qr 15 (some 25) (.bool false) rfl rfl (by kernel_rfl) (by kernel_rfl) (by kernel_rfl) (fun _ _ _ h => h) (Or.inl ⟨by kernel_rfl, fun x hSx => by go_simp⟩) hHeld2 ?_; (try simp only [Act.put, List.setIfInBounds_toArray, List.set])
        refine Qr 16 (some 26) (.bool false) rfl rfl (by kernel_rfl) (by kernel_rfl) (by kernel_rfl) (fun _ _ _ h => h) (Or.inl ⟨by kernel_rfl, fun x hSx => by go_simp⟩) hHeld2 ?_; (try simp only [Act.put, List.setIfInBounds_toArray, List.set]); refine wpAnyH_done (by kernel_rfl) ?_ _; refine NoPanic.normal ?_; clear hHeld2; have HTA := Qb (HTK.out _ H2.out.2.2 (Qew HTO.out HLE.out.1 HLE.out.2)); clear HTK; go_wp2_with (refine Qd rfl 28 (.tmp 2) rfl b1 rfl ta H2.out.1 _ Try.underlying28 rfl hti ?_); refine HTA.out.mono ?_; rintro e w5 ⟨s1, s2, rfl, hta⟩; have H5 : Hid (Qa w5 b4 28 (taA (.slice none 0 0) (.slice none 0 0)) /\ Below w.heap.size w w5) := ⟨H2.out.2.1.later hta.bel, H2.out.2.2.trans (hta.bel.mono H2.out.2.2.size)⟩; have hx1 := hta.t.rows; have hx2 := hta.d.rows; obtain ⟨R, hR⟩ : ∃ R, R = Qha (T, D) (msR ms) := ⟨_, rfl⟩; rw [<- hR] at hx1 hx2 |-; have HV := Qb (And.intro hx1 hx2); have HRR := Qb hR; clear hta hx1 hx2 hR HTA H2; obtain ⟨tb, htb⟩ : ∃ t, t = taA (slV s1 R.1.length) (slV s2 R.2.length) := ⟨_, rfl⟩; have hbz : tb.size = 2 := by rw [htb]; rfl
        have hbi : (Try.prog.info? 28).map (·.size) = some tb.size := by rw [hbz]; exact Qde
        have hbo : tb.all (·.oneCell') = true := by rw [htb]; simp [taA, slV, Value.oneCell']
        have HTB := Qb htb; rw [<- htb]; clear htb; go_wp2_with (refine Ql rfl 28 (.tmp 4) (.tmp 30) rfl b4 0 28 (taA (.slice none 0 0) (.slice none 0 0)) tb rfl rfl H5.out.1 hbi (by rw [hbz]; exact Nat.le_refl 2) hbo ?_; intro w6 hr6 ho6; refine Qpa ?_); rw [Qn _ tb (by rw [hbz]; rfl)] at hr6; have HF : Hid (Qa w6 b4 28 tb /\ Qxb w6 (slV s1 R.1.length) R.1 /\ Qxc w6 (slV s2 R.2.length) R.2 /\ Below w.heap.size w w6) := ⟨hr6, Qsa HV.out.1 H5.out.1 ho6.block ho6.size, Qnd HV.out.2 H5.out.1 ho6.block ho6.size, ho6.below H5.out.2 (by have := HB.out; omega)⟩; clear hr6 ho6 H5 HV; refine Qg ?_; go_wp2; refine bodyPost_ret (Qyk rfl _ _ b4 tb _ rfl HF.out.1 Try.underlying28 rfl hbi) rfl ?_; exact .inr (.inr ⟨HTO.out, HYES.out, _, _, by rw [HTB.out, HRR.out]; rfl, by rw [<- HRR.out]; exact HF.out.2.1, by rw [<- HRR.out]; exact HF.out.2.2.1, HF.out.2.2.2⟩)
      · have hpos : (0 : Int) < (ln : Int) := by omega
        have hposn : 0 < ln := by omega
        obtain ⟨b, off, rfl, hft, hle, hx⟩ := HL.out.mid (show 0 < ms.length by rw [<- HLN.out]; omega); obtain ⟨f, hfl⟩ : ∃ f, f = (ms.getD 0 rcZ).1.l := ⟨_, rfl⟩
        have HX : Hid (∀ x, Below w.heap.size w x -> x.cell? ⟨b, off + 1, none⟩ = some (.int .u64 (f : Int))) := fun x hb => by
          rw [hfl]; exact (hx x hb).1 1 _ rfl
        have HFL : Hid (((msR ms).getD 0 Rec.zero).l = f) := by show _ = _; rw [<- hle, hfl]
        obtain ⟨mx, hmx⟩ : ∃ m, m = mxA (T, D) := ⟨_, rfl⟩; rw [<- hmx] at HGR; have HMX := Qb hmx; clear hft hle hx hfl hmx h0
        by_cases hc : (f : Int) <= (mx : Int)
        · have hcn : f <= mx := by omega
          have HNO : Hid (¬ Qnv (T, D) (msR ms)) := fun h => by
            have h9 := h.2 (by rw [Qka, <- HLN.out]; omega); rw [HFL.out, <- HMX.out] at h9; omega
          go_enter Try.func15, Try.ntmps15; unfold taA at HY; go_wp2_with (with_reducible refine Qxa 6 rfl ?_); rw [<- HY.out, <- HB.out.2, <- HB.out.1]; refine Qg ?_; clear HY; go_wp2_with (refine Qd rfl 28 (.tmp 2) rfl b1 rfl ta H0.out.1 _ Try.underlying28 rfl hti ?_); refine (HCB.out y H0.out.2.2).mono ?_; rintro e w1 ⟨rfl, hb⟩; have H1 : Hid (Qa w1 b1 28 ta /\ Qa w1 b4 28 (taA (.slice none 0 0) (.slice none 0 0)) /\ Below w.heap.size w w1) := ⟨H0.out.1.later hb, H0.out.2.1.later hb, H0.out.2.2.trans (hb.mono H0.out.2.2.size)⟩; clear hb H0 HCB; go_wp2_with fail; have HD : Hid (Qa w1.drew b1 28 ta /\ Qa w1.drew b4 28 (taA (.slice none 0 0) (.slice none 0 0)) /\ Below w.heap.size w w1.drew) := ⟨Qgj H1.out.1, Qgj H1.out.2.1, Qoc H1.out.2.2 1⟩; refine wp_region_noPanic ?_; refine wp_region_held_drew (S := fun x => Qa x b1 28 ta /\ Below w.heap.size w x) (by kernel_rfl) ⟨HD.out.1, HD.out.2.2⟩ (fun hHeld => ?_); generalize w1.drew = y1 at *; clear H1; refine tkq 0 (some 10) (.slice (some ⟨b, off, none⟩) ln cu) hHeld ?_; (try simp only [Act.put, List.setIfInBounds_toArray, List.set]); refine Qm 1 (by kernel_rfl) ?_; refine Qfa (some 11) rfl rfl rfl 29 #[.slice (some ⟨b, off, none⟩) ln cu] ?he ((HGO.out y1 HD.out.2.2).mono ?_); (case he => go_simp); rintro e w2 ⟨rfl, hb2⟩; rw [HG.out]; have H2 : Hid (Qa w2 b1 28 ta /\ Qa w2 b4 28 (taA (.slice none 0 0) (.slice none 0 0)) /\ Below w.heap.size w w2) := ⟨HD.out.1.later hb2, HD.out.2.1.later hb2, HD.out.2.2.trans (hb2.mono HD.out.2.2.size)⟩; have hHeld2 := And.intro H2.out.1 H2.out.2.2; clear hHeld hb2 HD HGO; refine ⟨_, rfl, hHeld2, ?_⟩; (try simp only [Act.put, List.setIfInBounds_toArray, List.set]); refine Qr 2 (some 12) (.bool false) rfl rfl (by kernel_rfl) (by kernel_rfl) (by kernel_rfl) (fun _ _ _ h => h) (Or.inl ⟨by kernel_rfl, fun x hSx => by go_simp⟩) hHeld2 ?_; (try simp only [Act.put, List.setIfInBounds_toArray, List.set]); refine Qr 3 (some 13) (.bool false) rfl rfl (by kernel_rfl) (by kernel_rfl) (by kernel_rfl) (fun _ _ _ h => h) (Or.inl ⟨by kernel_rfl, fun x hSx => by go_simp⟩) hHeld2 ?_; (try simp only [Act.put, List.setIfInBounds_toArray, List.set]); refine Qr 4 (some 14) (.slice (some ⟨b, off, none⟩) ln cu) rfl rfl (by kernel_rfl) (by kernel_rfl) (by kernel_rfl) (fun _ _ _ h => h) (Or.inl ⟨by kernel_rfl, fun x hSx => by go_simp⟩) hHeld2 ?_; (try simp only [Act.put, List.setIfInBounds_toArray, List.set]); refine Qr 5 (some 15) (.int .i64 (ln : Int)) rfl rfl (by kernel_rfl) (by kernel_rfl) (by kernel_rfl) (fun _ _ _ h => h) (Or.inl ⟨by kernel_rfl, fun x hSx => by go_simp⟩) hHeld2 ?_
          (try simp only [Act.put, List.setIfInBounds_toArray, List.set])
          refine Qr 6 (some 16) (.bool true) rfl rfl (by kernel_rfl) (by kernel_rfl) (by kernel_rfl) (fun _ _ _ h => h) (Or.inl ⟨by kernel_rfl, fun x hSx => by go_simp⟩) hHeld2 ?_; (try simp only [Act.put, List.setIfInBounds_toArray, List.set]); refine Qr 7 (some 17) (.bool true) rfl rfl (by kernel_rfl) (by kernel_rfl) (by kernel_rfl) (fun _ _ _ h => h) (Or.inl ⟨by kernel_rfl, fun x hSx => by go_simp⟩) hHeld2 ?_; (try simp only [Act.put, List.setIfInBounds_toArray, List.set]); refine Qr 8 (some 18) (.slice (some ⟨b, off, none⟩) ln cu) rfl rfl (by kernel_rfl) (by kernel_rfl) (by kernel_rfl) (fun _ _ _ h => h) (Or.inl ⟨by kernel_rfl, fun x hSx => by go_simp⟩) hHeld2 ?_; (try simp only [Act.put, List.setIfInBounds_toArray, List.set]); refine Qr 9 (some 19) (.pointer (some ⟨b, off, none⟩)) rfl rfl (by kernel_rfl) (by kernel_rfl) (by kernel_rfl) (fun _ _ _ h => h) (Or.inl ⟨by kernel_rfl, fun x hSx => by go_simp⟩) hHeld2 ?_; (try simp only [Act.put, List.setIfInBounds_toArray, List.set]); refine Qr 10 (some 20) (.pointer (some ⟨b, off + 1, none⟩)) rfl rfl (by kernel_rfl) (by kernel_rfl) (by kernel_rfl) (fun _ _ _ h => h) (Or.inl ⟨by kernel_rfl, fun x hSx => by go_simp⟩) hHeld2 ?_; (try simp only [Act.put, List.setIfInBounds_toArray, List.set]); refine Qr 11 (some 21) (.int .u64 (f : Int)) rfl rfl (by kernel_rfl) (by kernel_rfl) (by kernel_rfl) (fun _ _ _ h => h) (Or.inl ⟨by kernel_rfl, fun x hSx => by have h1 := HX.out x hSx.2; go_simp⟩) hHeld2 ?_; (try simp only [Act.put, List.setIfInBounds_toArray, List.set]); refine Qr 12 (some 22) (.agg ta) rfl rfl (by kernel_rfl) (by kernel_rfl) (by kernel_rfl) (fun _ _ _ h => h) (Qv (by kernel_rfl) 28 _ rfl (.pointer (some ⟨b1, 0, none⟩)) rfl _ (fun x hSx => Qpc x hSx.1 Try.underlying28 rfl hti)) hHeld2 ?_; (try simp only [Act.put, List.setIfInBounds_toArray, List.set]); refine Qm 13 (by kernel_rfl) ?_; refine Qwl (some 23) rfl rfl (by kernel_rfl) 34 #[.agg ta] ?he ((HGR.out w2 H2.out.2.2).mono ?_); (case he => go_simp); rintro e w3 ⟨rfl, hb3⟩; have H3 : Hid (Qa w3 b1 28 ta /\ Qa w3 b4 28 (taA (.slice none 0 0) (.slice none 0 0)) /\ Below w.heap.size w w3) := ⟨H2.out.1.later hb3, H2.out.2.1.later hb3, H2.out.2.2.trans (hb3.mono H2.out.2.2.size)⟩; have hHeld3 := And.intro H3.out.1 H3.out.2.2; clear hHeld2 hb3 H2 HGR; refine ⟨_, rfl, hHeld3, ?_⟩; (try simp only [Act.put, List.setIfInBounds_toArray, List.set]); refine Qr 14 (some 24) (.bool true) rfl rfl (by kernel_rfl) (by kernel_rfl) (by kernel_rfl) (fun _ _ _ h => h) (Or.inl ⟨by kernel_rfl, fun x hSx => by go_simp⟩) hHeld3 ?_
          (try simp only [Act.put, List.setIfInBounds_toArray, List.set])
          refine Qr 15 (some 25) (.bool true) rfl rfl (by kernel_rfl) (by kernel_rfl) (by kernel_rfl) (fun _ _ _ h => h) (Or.inl ⟨by kernel_rfl, fun x hSx => by go_simp⟩) hHeld3 ?_; (try simp only [Act.put, List.setIfInBounds_toArray, List.set]); refine Qr 16 (some 26) (.bool true) rfl rfl (by kernel_rfl) (by kernel_rfl) (by kernel_rfl) (fun _ _ _ h => h) (Or.inl ⟨by kernel_rfl, fun x hSx => by go_simp⟩) hHeld3 ?_; (try simp only [Act.put, List.setIfInBounds_toArray, List.set]); refine wpAnyH_done (by kernel_rfl) ?_ _; refine NoPanic.normal ?_; clear hHeld3; have c0 := H3.out.2.1.cell 0 _ rfl; have c1 := H3.out.2.1.cell 1 _ rfl; have f0 := H3.out.2.1.free 0; have f1 := H3.out.2.1.free 1; go_wp2; refine bodyPost_ret (Qyk rfl _ _ b4 (taA (.slice none 0 0) (.slice none 0 0)) _ rfl ((H3.out.2.1.set 0 (.slice none 0 0)).set 1 (.slice none 0 0)) Try.underlying28 rfl Qde) rfl ?_; have h0 : w.heap.size <= b4 := by have := HB.out; omega
          have hbl := (H3.out.2.2.setCell (p := ⟨b4, 0, none⟩) h0 (.slice none 0 0)).setCell (p := ⟨b4, 1, none⟩) h0 (.slice none 0 0); exact .inr (.inl ⟨HTO.out, HNO.out, _, _, rfl, nilT _, nilD _, hbl⟩)
        · have hcn : ¬ f <= mx := by omega
          have HYES : Hid (Qnv (T, D) (msR ms)) := ⟨HRI.out, fun h => by
            rw [HFL.out, <- HMX.out]
            omega⟩
          go_enter Try.func15, Try.ntmps15; unfold taA at HY; go_wp2_with (with_reducible refine Qxa 6 rfl ?_); rw [<- HY.out, <- HB.out.2, <- HB.out.1]; refine Qg ?_; clear HY; go_wp2_with (refine Qd rfl 28 (.tmp 2) rfl b1 rfl ta H0.out.1 _ Try.underlying28 rfl hti ?_); refine (HCB.out y H0.out.2.2).mono ?_; rintro e w1 ⟨rfl, hb⟩; have H1 : Hid (Qa w1 b1 28 ta /\ Qa w1 b4 28 (taA (.slice none 0 0) (.slice none 0 0)) /\ Below w.heap.size w w1) := ⟨H0.out.1.later hb, H0.out.2.1.later hb, H0.out.2.2.trans (hb.mono H0.out.2.2.size)⟩; clear hb H0 HCB; go_wp2_with fail; have HD : Hid (Qa w1.drew b1 28 ta /\ Qa w1.drew b4 28 (taA (.slice none 0 0) (.slice none 0 0)) /\ Below w.heap.size w w1.drew) := ⟨Qgj H1.out.1, Qgj H1.out.2.1, Qoc H1.out.2.2 1⟩; refine wp_region_noPanic ?_; refine wp_region_held_drew (S := fun x => Qa x b1 28 ta /\ Below w.heap.size w x) (by kernel_rfl) ⟨HD.out.1, HD.out.2.2⟩ (fun hHeld => ?_); generalize w1.drew = y1 at *; clear H1; refine tkq 0 (some 10) (.slice (some ⟨b, off, none⟩) ln cu) hHeld ?_; (try simp only [Act.put, List.setIfInBounds_toArray, List.set]); refine Qm 1 (by kernel_rfl) ?_; refine Qfa (some 11) rfl rfl rfl 29 #[.slice (some ⟨b, off, none⟩) ln cu] ?he ((HGO.out y1 HD.out.2.2).mono ?_); (case he => go_simp); rintro e w2 ⟨rfl, hb2⟩; rw [HG.out]; have H2 : Hid (Qa w2 b1 28 ta /\ Qa w2 b4 28 (taA (.slice none 0 0) (.slice none 0 0)) /\ Below w.heap.size w w2) := ⟨HD.out.1.later hb2, HD.out.2.1.later hb2, HD.out.2.2.trans (hb2.mono HD.out.2.2.size)⟩; have hHeld2 := And.intro H2.out.1 H2.out.2.2; clear hHeld hb2 HD HGO; refine ⟨_, rfl, hHeld2, ?_⟩; (try simp only [Act.put, List.setIfInBounds_toArray, List.set]); refine Qr 2 (some 12) (.bool false) rfl rfl (by kernel_rfl) (by kernel_rfl) (by kernel_rfl) (fun _ _ _ h => h) (Or.inl ⟨by kernel_rfl, fun x hSx => by go_simp⟩) hHeld2 ?_; (try simp only [Act.put, List.setIfInBounds_toArray, List.set]); refine Qr 3 (some 13) (.bool false) rfl rfl (by kernel_rfl) (by kernel_rfl) (by kernel_rfl) (fun _ _ _ h => h) (Or.inl ⟨by kernel_rfl, fun x hSx => by go_simp⟩) hHeld2 ?_; (try simp only [Act.put, List.setIfInBounds_toArray, List.set]); refine Qr 4 (some 14) (.slice (some ⟨b, off, none⟩) ln cu) rfl rfl (by kernel_rfl) (by kernel_rfl) (by kernel_rfl) (fun _ _ _ h => h) (Or.inl ⟨by kernel_rfl, fun x hSx => by go_simp⟩) hHeld2 ?_; (try simp only [Act.put, List.setIfInBounds_toArray, List.set]); refine Qr 5 (some 15) (.int .i64 (ln : Int)) rfl rfl (by kernel_rfl) (by kernel_rfl) (by kernel_rfl) (fun _ _ _ h => h) (Or.inl ⟨by kernel_rfl, fun x hSx => by go_simp⟩) hHeld2 ?_
          (try simp only [Act.put, List.setIfInBounds_toArray, List.set])
          refine Qr 6 (some 16) (.bool true) rfl rfl (by kernel_rfl) (by kernel_rfl) (by kernel_rfl) (fun _ _ _ h => h) (Or.inl ⟨by kernel_rfl, fun x hSx => by go_simp⟩) hHeld2 ?_; (try simp only [Act.put, List.setIfInBounds_toArray, List.set]); refine Qr 7 (some 17) (.bool true) rfl rfl (by kernel_rfl) (by kernel_rfl) (by kernel_rfl) (fun _ _ _ h => h) (Or.inl ⟨by kernel_rfl, fun x hSx => by go_simp⟩) hHeld2 ?_; (try simp only [Act.put, List.setIfInBounds_toArray, List.set]); refine Qr 8 (some 18) (.slice (some ⟨b, off, none⟩) ln cu) rfl rfl (by kernel_rfl) (by kernel_rfl) (by kernel_rfl) (fun _ _ _ h => h) (Or.inl ⟨by kernel_rfl, fun x hSx => by go_simp⟩) hHeld2 ?_; (try simp only [Act.put, List.setIfInBounds_toArray, List.set]); refine Qr 9 (some 19) (.pointer (some ⟨b, off, none⟩)) rfl rfl (by kernel_rfl) (by kernel_rfl) (by kernel_rfl) (fun _ _ _ h => h) (Or.inl ⟨by kernel_rfl, fun x hSx => by go_simp⟩) hHeld2 ?_; (try simp only [Act.put, List.setIfInBounds_toArray, List.set]); refine Qr 10 (some 20) (.pointer (some ⟨b, off + 1, none⟩)) rfl rfl (by kernel_rfl) (by kernel_rfl) (by kernel_rfl) (fun _ _ _ h => h) (Or.inl ⟨by kernel_rfl, fun x hSx => by go_simp⟩) hHeld2 ?_; (try simp only [Act.put, List.setIfInBounds_toArray, List.set]); refine Qr 11 (some 21) (.int .u64 (f : Int)) rfl rfl (by kernel_rfl) (by kernel_rfl) (by kernel_rfl) (fun _ _ _ h => h) (Or.inl ⟨by kernel_rfl, fun x hSx => by have h1 := HX.out x hSx.2; go_simp⟩) hHeld2 ?_; (try simp only [Act.put, List.setIfInBounds_toArray, List.set]); refine Qr 12 (some 22) (.agg ta) rfl rfl (by kernel_rfl) (by kernel_rfl) (by kernel_rfl) (fun _ _ _ h => h) (Qv (by kernel_rfl) 28 _ rfl (.pointer (some ⟨b1, 0, none⟩)) rfl _ (fun x hSx => Qpc x hSx.1 Try.underlying28 rfl hti)) hHeld2 ?_; (try simp only [Act.put, List.setIfInBounds_toArray, List.set]); refine Qm 13 (by kernel_rfl) ?_; refine Qwl (some 23) rfl rfl (by kernel_rfl) 34 #[.agg ta] ?he ((HGR.out w2 H2.out.2.2).mono ?_); (case he => go_simp); rintro e w3 ⟨rfl, hb3⟩; have H3 : Hid (Qa w3 b1 28 ta /\ Qa w3 b4 28 (taA (.slice none 0 0) (.slice none 0 0)) /\ Below w.heap.size w w3) := ⟨H2.out.1.later hb3, H2.out.2.1.later hb3, H2.out.2.2.trans (hb3.mono H2.out.2.2.size)⟩; have hHeld3 := And.intro H3.out.1 H3.out.2.2; clear hHeld2 hb3 H2 HGR; refine ⟨_, rfl, hHeld3, ?_⟩; (try simp only [Act.put, List.setIfInBounds_toArray, List.set]); refine Qr 14 (some 24) (.bool false) rfl rfl (by kernel_rfl) (by kernel_rfl) (by kernel_rfl) (fun _ _ _ h => h) (Or.inl ⟨by kernel_rfl, fun x hSx => by go_simp⟩) hHeld3 ?_
          (try simp only [Act.put, List.setIfInBounds_toArray, List.set])
          refine Qr 15 (some 25) (.bool false) rfl rfl (by kernel_rfl) (by kernel_rfl) (by kernel_rfl) (fun _ _ _ h => h) (Or.inl ⟨by kernel_rfl, fun x hSx => by go_simp⟩) hHeld3 ?_; (try simp only [Act.put, List.setIfInBounds_toArray, List.set]); refine Qr 16 (some 26) (.bool false) rfl rfl (by kernel_rfl) (by kernel_rfl) (by kernel_rfl) (fun _ _ _ h => h) (Or.inl ⟨by kernel_rfl, fun x hSx => by go_simp⟩) hHeld3 ?_; (try simp only [Act.put, List.setIfInBounds_toArray, List.set]); refine wpAnyH_done (by kernel_rfl) ?_ _; refine NoPanic.normal ?_; clear hHeld3; have HTA := Qb (HTK.out _ H3.out.2.2 (Qew HTO.out HLE.out.1 HLE.out.2)); clear HTK; go_wp2_with (refine Qd rfl 28 (.tmp 2) rfl b1 rfl ta H3.out.1 _ Try.underlying28 rfl hti ?_); refine HTA.out.mono ?_; rintro e w5 ⟨s1, s2, rfl, hta⟩; have H5 : Hid (Qa w5 b4 28 (taA (.slice none 0 0) (.slice none 0 0)) /\ Below w.heap.size w w5) := ⟨H3.out.2.1.later hta.bel, H3.out.2.2.trans (hta.bel.mono H3.out.2.2.size)⟩; have hx1 := hta.t.rows; have hx2 := hta.d.rows; obtain ⟨R, hR⟩ : ∃ R, R = Qha (T, D) (msR ms) := ⟨_, rfl⟩; rw [<- hR] at hx1 hx2 |-; have HV := Qb (And.intro hx1 hx2); have HRR := Qb hR; clear hta hx1 hx2 hR HTA H3; obtain ⟨tb, htb⟩ : ∃ t, t = taA (slV s1 R.1.length) (slV s2 R.2.length) := ⟨_, rfl⟩; have hbz : tb.size = 2 := by rw [htb]; rfl
          have hbi : (Try.prog.info? 28).map (·.size) = some tb.size := by rw [hbz]; exact Qde
          have hbo : tb.all (·.oneCell') = true := by rw [htb]; simp [taA, slV, Value.oneCell']
          have HTB := Qb htb; rw [<- htb]; clear htb; go_wp2_with (refine Ql rfl 28 (.tmp 4) (.tmp 30) rfl b4 0 28 (taA (.slice none 0 0) (.slice none 0 0)) tb rfl rfl H5.out.1 hbi (by rw [hbz]; exact Nat.le_refl 2) hbo ?_; intro w6 hr6 ho6; refine Qpa ?_); rw [Qn _ tb (by rw [hbz]; rfl)] at hr6; have HF : Hid (Qa w6 b4 28 tb /\ Qxb w6 (slV s1 R.1.length) R.1 /\ Qxc w6 (slV s2 R.2.length) R.2 /\ Below w.heap.size w w6) := ⟨hr6, Qsa HV.out.1 H5.out.1 ho6.block ho6.size, Qnd HV.out.2 H5.out.1 ho6.block ho6.size, ho6.below H5.out.2 (by have := HB.out; omega)⟩; clear hr6 ho6 H5 HV; refine Qg ?_; go_wp2; refine bodyPost_ret (Qyk rfl _ _ b4 tb _ rfl HF.out.1 Try.underlying28 rfl hbi) rfl ?_; exact .inr (.inr ⟨HTO.out, HYES.out, _, _, by rw [HTB.out, HRR.out]; rfl, by rw [<- HRR.out]; exact HF.out.2.1, by rw [<- HRR.out]; exact HF.out.2.2.1, HF.out.2.2.2⟩)
abbrev OwM (w : World) (B : Nat) (v : Value) (ms : List (Rec × Value × Value)) : Prop := w.ownsRow B 46 14 v ms.length (Qjd ms)
theorem Qvx {w' : World} {B : Nat} {v' : Value} {ms : List (Rec × Value × Value)} {m : Rec × Value × Value} {cs : Array Value} (hc : cs = rcF m) (h : w'.ownsRow B 46 14 v' (ms.length + 1) (Qjd ms ++ cs.toList)) : OwM w' B v' (ms ++ [m]) := by
  subst hc
  have e : Qjd (ms ++ [m]) = Qjd ms ++ (rcF m).toList := by
    unfold Qjd; simp
  show w'.ownsRow _ _ _ _ (ms ++ [m]).length (Qjd (ms ++ [m])); rw [e, List.length_append, List.length_singleton]; exact h
theorem owM_rs {w w' : World} {B : Nat} {v : Value} {ms : List (Rec × Value × Value)} (h : OwM w' B v ms) (hf : ∀ m ∈ ms, m.1.fits /\ Qwb w m.1 m.2.1 m.2.2) (hb : Below w.heap.size w w') : Qmi w' v ms :=
  ⟨Qse rcF rcZ 14 (fun _ => rfl) h, fun m hm => ⟨(hf m hm).1, (hf m hm).2.below hb⟩⟩
theorem Qmx {w w' : World} {B : Nat} {v : Value} {ms : List (Rec × Value × Value)} (h : OwM w' B v ms) (hf : ∀ m ∈ ms, m.1.fits /\ Qwb w m.1 m.2.1 m.2.2) (hb : Below w.heap.size w w') (hl : ms.length <= 1000) : LogIn w' v ms := by
  refine ⟨owM_rs h hf hb, hl, fun a l c e => ?_⟩; obtain ⟨a', c', e', h2, _⟩ := Qhh h; rw [e'] at e; injection e with e1 e2 e3; omega
def Qov (r : Rec) : Bool := decide (r.k ≠ 7 /\ r.k ≠ 8)
def Qlv (ms : List (Rec × Value × Value)) : List (Rec × Value × Value) := ms.filter fun m => Qov m.1
theorem Qbw {ms : List (Rec × Value × Value)} {j : Nat} (hj : j < ms.length) : Qlv (ms.take (j + 1)) = Qlv (ms.take j) ++ (if Qov (ms.getD j rcZ).1 = true then [ms.getD j rcZ] else []) := by
  unfold Qlv; rw [List.take_succ_eq_append_getElem hj, List.filter_append, List.getD_eq_getElem?_getD, List.getElem?_eq_getElem hj]; show _ ++ List.filter _ [ms[j]] = _ ++ (if Qov (ms[j]).1 = true then [ms[j]] else [])
  by_cases h : Qov (ms[j]).1 = true
  · rw [if_pos h]; simp [h]
  · rw [if_neg h]; simp [h]
theorem Qcy (w : World) (v : Value) (ms : List (Rec × Value × Value)) (hl : LogIn w v ms) :
    Calls Try.prog 21 #[v] w fun e w' => ∃ v', e = .returned v' /\ OwM w' w.heap.size v' (Qlv ms) /\ Below w.heap.size w w' := by
  have HL := Qb hl; have hfew := hl.few; obtain ⟨au, cu, rfl, _⟩ := hl.slice; obtain ⟨ln, hln⟩ : ∃ k, k = ms.length := ⟨_, rfl⟩; rw [<- hln] at HL hfew |-; have HLN := Qb hln; obtain ⟨B, hB⟩ : ∃ B, B = w.heap.size := ⟨_, rfl⟩; have HB := Qb hB; have H0 : Hid (OwM w B (.slice none 0 0) (Qlv (ms.take 0)) /\ Below w.heap.size w w) := ⟨World.ownsRow_nil _ _ _ _, Below.refl _ _⟩; clear hl hln hB; go_enter Try.func21, Try.ntmps21; go_wp2; go_loopw [3, 7] (fun vo i wr => ∃ j : Nat, j <= ln /\ i = .int .i64 (j : Int) /\ Hid (OwM wr B vo (Qlv (ms.take j)) /\ Below w.heap.size w wr)) (fun _ i _ => ln - (intOf i).toNat)
  case atStart => exact ⟨0, Nat.zero_le _, rfl, H0⟩
  case round =>
    obtain ⟨j, hj, rfl, HJ⟩ := hrel; clear H0; obtain ⟨ao, co, hvo, _, _⟩ := Qhh HJ.out.1; subst hvo
    by_cases hlt : j < ln
    · have i5 : (j : Int) < (ln : Int) := by omega
      have hjm : j < ms.length := by rw [<- HLN.out]; exact hlt
      obtain ⟨b, off, rfl, hft, _, hx⟩ := HL.out.mid hjm; have HNX := Qb (Qbw hjm)
      have hO : (Qlv (ms.take j)).length <= 1000 := by
        have h1 : (Qlv (ms.take j)).length <= (ms.take j).length := List.length_filter_le _ _; rw [List.length_take] at h1; omega
      obtain ⟨O, hOO⟩ : ∃ O, O = Qlv (ms.take j) := ⟨_, rfl⟩; obtain ⟨m, hm⟩ : ∃ m, m = ms.getD j rcZ := ⟨_, rfl⟩; rw [<- hOO] at HJ HNX hO |-; rw [<- hm] at hft hx HNX; obtain ⟨hr0, hin⟩ := hx wr HJ.out.2; have hsl := Qcj hin; obtain ⟨⟨x1, y1, hs1⟩, x2, y2, hs2⟩ := hsl; have k0 : wr.cell? ⟨b, off + j * 14, none⟩ = some (.int .i64 m.1.k) := hr0 0 _ rfl; obtain ⟨l1, hl1⟩ : ∃ l, l = m.1.ts.length := ⟨_, rfl⟩; obtain ⟨l2, hl2⟩ : ∃ l, l = m.1.ds.length := ⟨_, rfl⟩; rw [<- hl1] at hs1; rw [<- hl2] at hs2
      have hrc : #[.int .i64 m.1.k, .int .u64 (m.1.l : Int), .int .i64 m.1.t, .int .u64 (m.1.p : Int), .int .i64 m.1.c.k, .int .i64 m.1.c.pg, .int .i64 m.1.c.sl, .string m.1.c.o, .string m.1.c.n, .int .u64 (m.1.n : Int), .int .i64 m.1.s, .int .u64 (m.1.b : Int), .slice x1 l1 y1, .slice x2 l2 y2] = rcF m := by
        rw [<- hs1, <- hs2]; rfl
      have HRC := Qb hrc
      have HLD : Hid ((Instr.loadAt 46 (.pointer (some ⟨b, off + j * 14, none⟩))).run Try.prog wr = .ok (.agg #[.int .i64 m.1.k, .int .u64 (m.1.l : Int), .int .i64 m.1.t, .int .u64 (m.1.p : Int), .int .i64 m.1.c.k, .int .i64 m.1.c.pg, .int .i64 m.1.c.sl, .string m.1.c.o, .string m.1.c.n, .int .u64 (m.1.n : Int), .int .i64 m.1.s, .int .u64 (m.1.b : Int), .slice x1 l1 y1, .slice x2 l2 y2]) wr) := by
        show _ = _; rw [HRC.out]; exact Qmf wr b (off + j * 14) m hr0
      clear hjm hft hx hr0 hin hs1 hs2 hrc hm hOO hl1 hl2
      by_cases hk7 : m.1.k = 7
      · have HN : Hid (Qlv (ms.take (j + 1)) = O) := by
          show _ = _; rw [HNX.out, if_neg (by unfold Qov; simp [hk7]), List.append_nil]
        rw [hk7] at k0; clear hk7 HNX HLD HRC; go_wp2; go_roundw
        case rel => exact ⟨j + 1, by omega, by go_num, by rw [HN.out]; exact HJ⟩
        case measure => simp [intOf] <;> omega
      · have g7 : (m.1.k == 7) = false := by rw [beq_eq_false_iff_ne]; exact hk7
        have g7' : (m.1.k != 7) = true := by rw [bne, g7]; rfl
        by_cases hk8 : m.1.k = 8
        · have HN : Hid (Qlv (ms.take (j + 1)) = O) := by
            show _ = _; rw [HNX.out, if_neg (by unfold Qov; simp [hk8]), List.append_nil]
          rw [hk8] at k0; clear hk7 hk8 g7 g7' HNX HLD HRC; go_wp2; go_roundw
          case rel => exact ⟨j + 1, by omega, by go_num, by rw [HN.out]; exact HJ⟩
          case measure => simp [intOf] <;> omega
        · have g8 : (m.1.k == 8) = false := by rw [beq_eq_false_iff_ne]; exact hk8
          have g8' : (m.1.k != 8) = true := by rw [bne, g8]; rfl
          have HN : Hid (Qlv (ms.take (j + 1)) = O ++ [m]) := by
            show _ = _; rw [HNX.out, if_pos (by unfold Qov; simp [hk7, hk8])]
          clear hk7 hk8 HNX; have hbB : B <= wr.heap.size := by rw [HB.out]; exact HJ.out.2.size
          go_wp2_with (first | (refine Qt rfl 46 (.tmp 27) rfl _ (.agg #[.int .i64 m.1.k, .int .u64 (m.1.l : Int), .int .i64 m.1.t, .int .u64 (m.1.p : Int), .int .i64 m.1.c.k, .int .i64 m.1.c.pg, .int .i64 m.1.c.sl, .string m.1.c.o, .string m.1.c.n, .int .u64 (m.1.n : Int), .int .i64 m.1.s, .int .u64 (m.1.b : Int), .slice x1 l1 y1, .slice x2 l2 y2]) rfl HLD.out ?_) | (refine Qu _ 22 46 14 160 (.agg Qvc) Try.underlying22 Qjx rfl (by decide) (by decide) rfl (.tmp 24) (.tmp 29) rfl B (.slice ao O.length co) O.length (Qjd O) rfl (Qob HJ.out.1 ((Below.refl wr.heap.size wr).alloc (Nat.le_refl _) _)) wr.heap.size #[.int .i64 m.1.k, .int .u64 (m.1.l : Int), .int .i64 m.1.t, .int .u64 (m.1.p : Int), .int .i64 m.1.c.k, .int .i64 m.1.c.pg, .int .i64 m.1.c.sl, .string m.1.c.o, .string m.1.c.n, .int .u64 (m.1.n : Int), .int .i64 m.1.s, .int .u64 (m.1.b : Int), .slice x1 l1 y1, .slice x2 l2 y2] rfl (Qa.new wr 46 #[.int .i64 m.1.k, .int .u64 (m.1.l : Int), .int .i64 m.1.t, .int .u64 (m.1.p : Int), .int .i64 m.1.c.k, .int .i64 m.1.c.pg, .int .i64 m.1.c.sl, .string m.1.c.o, .string m.1.c.n, .int .u64 (m.1.n : Int), .int .i64 m.1.s, .int .u64 (m.1.b : Int), .slice x1 l1 y1, .slice x2 l2 y2]) rfl (by simp [Value.oneCell']) hO (Nat.le_trans hbB (by simp)) ?_; intro v' w7 ho7 hg7; refine Qpa ?_))
          have H7 : Hid (OwM w7 B v' (Qlv (ms.take (j + 1))) /\ Below w.heap.size w w7) := by
            rw [HN.out]; refine ⟨Qvx HRC.out ho7, Qhs (Qob HJ.out.1 ((Below.refl wr.heap.size wr).alloc (Nat.le_refl _) _)) (by rw [HB.out]; exact Nat.le_refl _) (HJ.out.2.trans (((Below.refl wr.heap.size wr).alloc (Nat.le_refl _) _).mono HJ.out.2.size)) (by simp; have := HJ.out.2.size; omega) hg7⟩
          clear ho7 hg7 HJ HLD HRC k0; refine Qg ?_; go_wp2; go_roundw
          case rel => exact ⟨j + 1, by omega, by go_num, H7⟩
          case measure => simp [intOf] <;> omega
    · have i5 : ¬ (j : Int) < (ln : Int) := by omega
      have HE : Hid (OwM wr B (.slice ao (Qlv (ms.take j)).length co) (Qlv ms) /\ Below w.heap.size w wr) := by
        have h := HJ.out; have e : ms.take j = ms := List.take_of_length_le (by rw [<- HLN.out]; omega); rw [e] at h |-; exact h
      clear HJ; go_wp2; go_ret; exact ⟨_, rfl, by rw [<- HB.out]; exact HE.out.1, HE.out.2⟩
def plainR (rs : List Rec) : List Rec := rs.filter Qov
theorem Qzv (ms : List (Rec × Value × Value)) : msR (Qlv ms) = plainR (msR ms) := by
  unfold Qlv plainR msR; rw [List.filter_map]; rfl
theorem Qpv : ∀ (l : List Rec) (a b : Nat), Qcb a l -> b <= a -> Qcb b l
  | [], _, _, _, _ => trivial
  | _ :: _, _, _, ⟨h1, h2, h3⟩, hb => ⟨h1, Nat.lt_of_le_of_lt hb h2, h3⟩
theorem Qsv (p : Rec -> Bool) : ∀ (rs : List Rec) (a : Nat), Qcb a rs -> Qcb a (rs.filter p)
  | [], _, h => h
  | r :: rs, a, h => by
    obtain ⟨h1, h2, h3⟩ := h; have h4 := Qsv p rs r.l h3; rw [List.filter_cons]
    split
    · exact ⟨h1, h2, h4⟩
    · exact Qpv _ _ _ h4 (Nat.le_of_lt h2)
theorem Qey {rs : List Rec} (h : Qcb 0 rs) : ∀ r ∈ plainR rs, r.k <= 6 := fun r hr => by
  obtain ⟨h1, h2⟩ := List.mem_filter.1 hr; have h3 := of_decide_eq_true h2; have h4 := (Qta _ 0 h r h1).k8; omega
theorem Qwv {rs : List Rec} (h : ∀ r ∈ rs, r.k <= 6) : ∀ n, n <= rs.length -> ckL rs n = none
  | 0, _ => rfl
  | n + 1, hn => by
    have h1 := h _ (Qja rs n Rec.zero (by omega)); rw [ckL, if_neg (by omega)]; exact Qwv h n (by omega)
theorem Qyv {rs : List Rec} (h : ∀ r ∈ rs, r.k <= 6) : ofA rs = Qha ([], []) rs := by
  rw [Qfw]; unfold ofN; rw [Qwv h _ (Nat.le_refl _)]; rfl
structure TabIn (t : Ta) (L : Nat) : Prop where
  xt : ∀ x ∈ t.1, Qlw x /\ x.l <= L
  xd : ∀ x ∈ t.2, Qnw x /\ x.r <= L
theorem TabIn.more {t : Ta} {L M : Nat} (h : TabIn t L) (hl : L <= M) : TabIn t M := ⟨fun x hx => ⟨(h.xt x hx).1, Nat.le_trans (h.xt x hx).2 hl⟩, fun x hx => ⟨(h.xd x hx).1, Nat.le_trans (h.xd x hx).2 hl⟩⟩
theorem canT_up {r : Rec} {x : Tx} (hr : r.right) (h1 : (1 : Int) <= x.t /\ x.t <= 1048575) (h2 : 1 <= x.s /\ x.s <= 3) (h3 : 1 <= x.f /\ x.f <= r.l) (h4 : x.n <= r.l) : Qlw (Qag x r) := by
  have g1 := hr.lm; have g2 : Qtd = 4611686018427387904 := rfl
  refine ⟨h1.1, h1.2, ?_, ?_, by show (1 : Int) <= (x.f : Int); omega, by show (x.f : Int) <= (r.l : Int); omega, by show (r.l : Int) <= _; omega, ?_⟩
  · show (1 : Int) <= (if r.k = 4 then 2 else if r.k = 3 then 3 else x.s)
    split
    · decide
    · split
      · decide
      · exact h2.1
  · show (if r.k = 4 then 2 else if r.k = 3 then 3 else x.s) <= (3 : Int)
    split
    · decide
    · split
      · decide
      · exact h2.2
  · show (((if r.k = 1 then r.l else if r.k = 2 then r.n else x.n) : Nat) : Int) <= (r.l : Int)
    split
    · exact Int.le_refl _
    · split
      · rename_i e; have := hr.next e; omega
      · omega
theorem withT_in {r : Rec} (hr : r.right) (hk : r.k <= 6) : ∀ l : List Tx, (∀ x ∈ l, Qlw x /\ x.l < r.l) -> ∀ x ∈ Qpb l r, Qlw x /\ x.l <= r.l := by
  have ho := hr.own hk; have h1 := hr.l1; have hb : Qlw (Qag (Qza r) r) := canT_up hr ⟨ho.1, ho.2.1⟩ (by show (1 : Int) <= 1 /\ (1 : Int) <= 3; decide) (by show 1 <= r.l /\ r.l <= r.l; omega) (by show 0 <= r.l; omega); intro l
  induction l with
  | nil =>
    intro _ x hx; rw [Qpb, List.mem_singleton] at hx; rw [hx]; exact ⟨hb, Nat.le_refl _⟩
  | cons y l ih =>
    intro hl x hx; have hy := hl y (by simp); rw [Qpb] at hx
    split at hx
    · rcases List.mem_cons.1 hx with rfl | hx
      · exact ⟨hy.1, Nat.le_of_lt hy.2⟩
      · exact ih (fun z hz => hl z (List.mem_cons_of_mem _ hz)) x hx
    · split at hx
      · rcases List.mem_cons.1 hx with rfl | hx
        · obtain ⟨g1, g2, g3, g4, g5, g6, g7, g8⟩ := hy.1; have := hy.2; exact ⟨canT_up hr ⟨g1, g2⟩ ⟨g3, g4⟩ (by omega) (by omega), Nat.le_refl _⟩
        · have h9 := hl x (List.mem_cons_of_mem _ hx); exact ⟨h9.1, Nat.le_of_lt h9.2⟩
      · rcases List.mem_cons.1 hx with rfl | hx
        · exact ⟨hb, Nat.le_refl _⟩
        · have h9 := hl x hx; exact ⟨h9.1, Nat.le_of_lt h9.2⟩
theorem Qxv {p : Int} {n : Nat} (hp : Qnw ⟨p, n⟩) : ∀ l : List Di, (∀ x ∈ l, Qnw x /\ x.r <= n) -> ∀ x ∈ Qia l p n, Qnw x /\ x.r <= n
  | [], _, x, hx => by
    rw [Qia, List.mem_singleton] at hx; rw [hx]; exact ⟨hp, Nat.le_refl _⟩
  | y :: l, hl, x, hx => by
    rw [Qia] at hx
    split at hx
    · rcases List.mem_cons.1 hx with rfl | hx
      · exact hl _ (by simp)
      · exact Qxv hp l (fun z hz => hl z (List.mem_cons_of_mem _ hz)) x hx
    · split at hx
      · exact hl x hx
      · rcases List.mem_cons.1 hx with rfl | hx
        · exact ⟨hp, Nat.le_refl _⟩
        · exact hl x hx
theorem TabIn.take {t : Ta} {L : Nat} (h : TabIn t L) {r : Rec} (hr : r.right) (hk : r.k <= 6) (hL : L < r.l) : TabIn (Qe t r) r.l := by
  have k1 := hr.k1; unfold Qe; rw [if_neg (by omega)]
  refine ⟨fun x hx => ?_, fun d hd => ?_⟩
  · replace hx : x ∈ (if r.k = 5 then Qba t.1 r.t else Qpb t.1 r) := hx
    split at hx
    · have h1 := h.xt x (Qaf _ _ _ hx); exact ⟨h1.1, by omega⟩
    · exact withT_in hr hk _ (fun y hy => by have h1 := h.xt y hy; exact ⟨h1.1, by omega⟩) x hx
  · replace hd : d ∈ (if r.k = 1 ∨ r.k = 2 then Qia t.2 r.c.pg r.l else t.2) := hd
    split at hd
    · rename_i e; have hc := (hr.ch (by omega)).1; have g1 := hr.lm; have g2 : Qtd = 4611686018427387904 := rfl; have g3 := hr.l1; refine Qxv ⟨by show (0 : Int) <= r.c.pg; omega, by show r.c.pg < 32; omega, by show (1 : Int) <= (r.l : Int); omega, by show (r.l : Int) <= _; omega⟩ _ (fun y hy => ?_) d hd; have h1 := h.xd y hy; exact ⟨h1.1, by omega⟩
    · have h1 := h.xd d hd; exact ⟨h1.1, by omega⟩
theorem TabIn.takes : ∀ (rs : List Rec) (t : Ta) (L : Nat), TabIn t L -> Qcb L rs -> (∀ r ∈ rs, r.k <= 6) -> TabIn (Qha t rs) (Qya L rs)
  | [], _, _, h, _, _ => h
  | r :: rs, t, L, h, hr, hk => by
    obtain ⟨h1, h2, h3⟩ := hr; exact TabIn.takes rs (Qe t r) r.l (h.take h1 (hk r (by simp)) h2) h3 (fun x hx => hk x (List.mem_cons_of_mem _ hx))
theorem mxT_le {L : Nat} : ∀ (l : List Tx) (n : Nat), n <= L -> (∀ x ∈ l, x.l <= L) -> l.foldl (fun n x => max n x.l) n <= L
  | [], _, h, _ => h
  | x :: l, n, h, hx => mxT_le l (max n x.l) (by have := hx x (by simp); omega) (fun y hy => hx y (List.mem_cons_of_mem _ hy))
theorem mxD_le {L : Nat} : ∀ (l : List Di) (n : Nat), n <= L -> (∀ x ∈ l, x.r <= L) -> l.foldl (fun n x => max n x.r) n <= L
  | [], _, h, _ => h
  | x :: l, n, h, hx => mxD_le l (max n x.r) (by have := hx x (by simp); omega) (fun y hy => hx y (List.mem_cons_of_mem _ hy))
theorem TabIn.mx {t : Ta} {L : Nat} (h : TabIn t L) : mxA t <= L :=
  mxD_le _ _ (mxT_le _ _ (Nat.zero_le _) (fun x hx => (h.xt x hx).2)) (fun x hx => (h.xd x hx).2)
theorem TabIn.ok {t : Ta} {L : Nat} (h : TabIn t L) (hs : Qvl t.1) (hd : Qmt t.2) : Qrv t :=
  ⟨fun i hi => ⟨(h.xt _ (Qja _ _ _ hi)).1, fun h0 => hs (i - 1) i (by omega) hi⟩, fun i hi => ⟨(h.xd _ (Qja _ _ _ hi)).1, fun h0 => hd (i - 1) i (by omega) hi⟩⟩
theorem Qwx : TabIn ([], []) 0 := ⟨fun x hx => (nomatch hx), fun d hd => (nomatch hd)⟩
theorem parts16 {rs : List Rec} (h : Qcb 0 rs) (hk : ∀ r ∈ rs, r.k <= 6) (i : Nat) :
    ofA (rs.take i) = Qha ([], []) (rs.take i) /\ Qrv (ofA (rs.take i)) /\ Qnv (ofA (rs.take i)) (rs.drop i) /\ Qha (ofA (rs.take i)) (rs.drop i) = ofA rs := by
  have hs := (Qwj (rs.take i) (rs.drop i) 0).1 (by rw [List.take_append_drop]; exact h); have hk1 : ∀ r ∈ rs.take i, r.k <= 6 := fun r hr => hk r (List.mem_of_mem_take hr)
  have e := Qyv hk1; have h1 := TabIn.takes _ _ _ Qwx hs.1 hk1; have ho : TaOk (Qha ([], []) (rs.take i)) (1000 + (rs.take i).length) := Qfo.takes (rs.take i)
  refine ⟨e, ?_, ?_, ?_⟩
  · rw [e]; exact h1.ok ho.st ho.sd
  · rw [e]; refine ⟨Qpv _ _ _ hs.2 (Nat.zero_le _), fun hl => ?_⟩; have h2 := h1.mx
    cases hd : rs.drop i with
    | nil => rw [hd] at hl; exact absurd hl (by show ¬ 0 < 0; omega)
    | cons r l =>
      have h3 := hs.2; rw [hd] at h3; have h4 := h3.2.1; show mxA _ < r.l; omega
  · rw [e, <- Qvv, List.take_append_drop, Qyv hk]
structure Rb (w wr : World) (b1 : Nat) (ta : Array Value) : Prop where
  a : Qa wr b1 32 ta
  lo : w.heap.size <= b1
  bel : Below w.heap.size w wr
theorem Rb.later {w wr y : World} {b1 : Nat} {ta : Array Value} (h : Rb w wr b1 ta) (hb : Below wr.heap.size wr y) : Rb w y b1 ta := ⟨h.a.later hb, h.lo, h.bel.trans (hb.mono h.bel.size)⟩
theorem Rb.drewN {w wr : World} {b1 : Nat} {ta : Array Value} (h : Rb w wr b1 ta) (k : Nat) : Rb w (wr.drewN k) b1 ta := ⟨h.a, h.lo, Qoc h.bel _⟩
theorem rcan16 (w : World) (vT vD : Value) (T : List Tx) (D : List Di) (hT : Qxb w vT T) (hD : Qxc w vD D) (h1 : T.length <= 10000) (h2 : D.length <= 10000) (q : Bool) (HQ : Hid (q = true ↔ Qrv (T, D))) :
    Calls Try.prog 35 #[.agg (taA vT vD)] w fun e w' => e = .returned (.bool q) /\ Below w.heap.size w w' := by
  obtain ⟨a1, c1, rfl, _⟩ := id hT; obtain ⟨a2, c2, rfl, _⟩ := id hD; have HI := Qb (And.intro hT hD); obtain ⟨n1, hn1⟩ : ∃ n, n = T.length := ⟨_, rfl⟩; obtain ⟨n2, hn2⟩ : ∃ n, n = D.length := ⟨_, rfl⟩; have HNN := Qb (And.intro hn1 hn2); rw [<- hn1] at HI h1 |-; rw [<- hn2] at HI h2 |-; obtain ⟨y, hy⟩ : ∃ y, y = w.alloc (.cells (taA (.slice a1 n1 c1) (.slice a2 n2 c2)) 32) := ⟨_, rfl⟩; have m2 : Below w.heap.size w y := by rw [hy]; exact (Below.refl _ _).alloc (Nat.le_refl _) _
  have m1 : Qa y w.heap.size 32 (taA (.slice a1 n1 c1) (.slice a2 n2 c2)) := by rw [hy]; exact Qa.new w _ _
  obtain ⟨b1, hb1⟩ : ∃ b, b = w.heap.size := ⟨_, rfl⟩; rw [<- hb1] at m1; have H0 : Hid (Rb w y b1 (taA (.slice a1 n1 c1) (.slice a2 n2 c2))) := ⟨m1, by omega, m2⟩; have HY := Qb hy; have HB := Qb hb1; have q1 := H0.out.a.cell 0 (.slice a1 n1 c1) rfl; clear hT hD hn1 hn2 hy m1 m2 hb1; go_enter Try.func35, Try.ntmps35; go_wp2_with (with_reducible refine Qxa 8 rfl ?_); rw [<- HY.out, <- HB.out]; refine Qg ?_; clear HY; go_wp2; clear q1; go_loopw [10] (fun i wr => ∃ j : Nat, j <= n1 /\ i = .int .i64 (j : Int) /\ Hid (okT T j /\ Rb w wr b1 (taA (.slice a1 n1 c1) (.slice a2 n2 c2)))) (fun i _ => n1 - (intOf i).toNat)
  case atStart => exact ⟨0, Nat.zero_le _, rfl, fun i hi => absurd hi (by omega), H0.out⟩
  case round =>
    obtain ⟨j, hj, rfl, HJ0⟩ := hrel; have HJ := Qb HJ0.out.2; have HOK := Qb HJ0.out.1; clear HJ0
    by_cases hlt : j < n1
    · have i5 : (j : Int) < (n1 : Int) := by omega
      have HST := Qb (Qdx HOK.out); have hjT : j < T.length := by rw [<- HNN.out.1]; exact hlt
      obtain ⟨b, off, c, hv, hbl, hrx⟩ := HI.out.1.mid hjT; injection hv with p1 p2 p3; have hrr := hrx wr HJ.out.bel
      have HPV : Hid (∀ x, Below w.heap.size w x -> 0 < j -> x.cell? ⟨b, off + (j - 1) * 5, none⟩ = some (.int .i64 (T.getD (j - 1) Tx.zero).t)) := fun x hx h0 => by
        obtain ⟨b', off', c', hv', _, hrx'⟩ := HI.out.1.mid (show j - 1 < T.length by omega); injection hv' with p1' p2' p3'; rw [p1] at p1'; injection p1' with p1'; injection p1' with e1 e2 e3; subst e1 e2; exact hrx' x hx 0 _ rfl
      have HLD0 := Qb (Qff wr b _ (T.getD j Tx.zero) hrr); obtain ⟨y, hyy⟩ : ∃ y, y = T.getD j Tx.zero := ⟨_, rfl⟩; have HYY := Qb hyy; rw [<- hyy] at HLD0; have HLD : Hid ((Instr.loadAt 42 (.pointer (some ⟨b, off + j * 5, none⟩))).run Try.prog wr = .ok (.agg #[.int .i64 y.t, .int .i64 y.s, .int .u64 (y.f : Int), .int .u64 (y.l : Int), .int .u64 (y.n : Int)]) wr) := HLD0.out; have q1 := HJ.out.a.cell 0 (.slice a1 n1 c1) rfl; clear hjT hrx hrr hbl p2 p3 hyy HLD0; subst p1; go_wp2_with (first | (refine Qt rfl 42 (.tmp 16) rfl _ (.agg #[.int .i64 y.t, .int .i64 y.s, .int .u64 (y.f : Int), .int .u64 (y.l : Int), .int .u64 (y.n : Int)]) rfl HLD.out ?_) | (refine Ql rfl 42 (.tmp 4) (.tmp 17) rfl wr.heap.size 0 42 (txA Tx.zero) #[.int .i64 y.t, .int .i64 y.s, .int .u64 (y.f : Int), .int .u64 (y.l : Int), .int .u64 (y.n : Int)] rfl rfl (Qa.new wr _ _) Qdc (Nat.le_refl 5) (by simp [Value.oneCell']) ?_; intro w5 hr5 ho5; refine Qpa ?_)); rw [Qn (txA Tx.zero) #[.int .i64 y.t, .int .i64 y.s, .int .u64 (y.f : Int), .int .u64 (y.l : Int), .int .u64 (y.n : Int)] rfl] at hr5; have hal : Below wr.heap.size wr (wr.alloc (.cells (txA Tx.zero) 42)) := (Below.refl _ _).alloc (Nat.le_refl _) _; have H5 := Qb (And.intro hr5 (HJ.out.later (ho5.below hal (Nat.le_refl _)))); obtain ⟨g, hg⟩ : ∃ g, g = wr.heap.size := ⟨_, rfl⟩; rw [<- hg] at H5 |-; clear hr5 ho5 hal hg HLD HJ q1; refine Qg ?_; rw [<- HYY.out] at HST; have g0 : w5.cell? ⟨g, 0, none⟩ = some (.int .i64 y.t) := H5.out.1.cell 0 _ rfl; have g1 : w5.cell? ⟨g, 1, none⟩ = some (.int .i64 y.s) := H5.out.1.cell 1 _ rfl; have g2 : w5.cell? ⟨g, 2, none⟩ = some (.int .u64 (y.f : Int)) := H5.out.1.cell 2 _ rfl; have g3 : w5.cell? ⟨g, 3, none⟩ = some (.int .u64 (y.l : Int)) := H5.out.1.cell 3 _ rfl; have g4 : w5.cell? ⟨g, 4, none⟩ = some (.int .u64 (y.n : Int)) := H5.out.1.cell 4 _ rfl
      by_cases k0 : y.t < 1
      · obtain rfl : q = false := by
          cases q
          · rfl
          · have h9 := (HQ.out.1 rfl).1; have h8 := HST.out.1 (Qhw h9 (by show j + 1 <= T.length; rw [<- HNN.out.1]; omega)); have := h8.2.1; omega
        go_wp2; go_ret; exact ⟨rfl, H5.out.2.bel⟩
      by_cases k1 : 1048575 < y.t
      · obtain rfl : q = false := by
          cases q
          · rfl
          · have h9 := (HQ.out.1 rfl).1; have h8 := HST.out.1 (Qhw h9 (by show j + 1 <= T.length; rw [<- HNN.out.1]; omega)); have := h8.2.2.1; omega
        go_wp2; go_ret; exact ⟨rfl, H5.out.2.bel⟩
      by_cases k2 : y.s < 1
      · obtain rfl : q = false := by
          cases q
          · rfl
          · have h9 := (HQ.out.1 rfl).1; have h8 := HST.out.1 (Qhw h9 (by show j + 1 <= T.length; rw [<- HNN.out.1]; omega)); have := h8.2.2.2.1; omega
        go_wp2; go_ret; exact ⟨rfl, H5.out.2.bel⟩
      by_cases k3 : 3 < y.s
      · obtain rfl : q = false := by
          cases q
          · rfl
          · have h9 := (HQ.out.1 rfl).1; have h8 := HST.out.1 (Qhw h9 (by show j + 1 <= T.length; rw [<- HNN.out.1]; omega)); have := h8.2.2.2.2.1; omega
        go_wp2; go_ret; exact ⟨rfl, H5.out.2.bel⟩
      by_cases k4 : (y.f : Int) < 1
      · obtain rfl : q = false := by
          cases q
          · rfl
          · have h9 := (HQ.out.1 rfl).1; have h8 := HST.out.1 (Qhw h9 (by show j + 1 <= T.length; rw [<- HNN.out.1]; omega)); have := h8.2.2.2.2.2.1; omega
        go_wp2; go_ret; exact ⟨rfl, H5.out.2.bel⟩
      by_cases k5 : (y.l : Int) < (y.f : Int)
      · obtain rfl : q = false := by
          cases q
          · rfl
          · have h9 := (HQ.out.1 rfl).1; have h8 := HST.out.1 (Qhw h9 (by show j + 1 <= T.length; rw [<- HNN.out.1]; omega)); have := h8.2.2.2.2.2.2.1; omega
        go_wp2; go_ret; exact ⟨rfl, H5.out.2.bel⟩
      by_cases k6 : (4611686018427387904 : Int) < (y.l : Int)
      · obtain rfl : q = false := by
          cases q
          · rfl
          · have h9 := (HQ.out.1 rfl).1; have h8 := HST.out.1 (Qhw h9 (by show j + 1 <= T.length; rw [<- HNN.out.1]; omega)); have := h8.2.2.2.2.2.2.2.1; omega
        go_wp2; go_ret; exact ⟨rfl, H5.out.2.bel⟩
      by_cases k7 : (y.l : Int) < (y.n : Int)
      · obtain rfl : q = false := by
          cases q
          · rfl
          · have h9 := (HQ.out.1 rfl).1; have h8 := HST.out.1 (Qhw h9 (by show j + 1 <= T.length; rw [<- HNN.out.1]; omega)); have := h8.2.2.2.2.2.2.2.2; omega
        go_wp2; go_ret; exact ⟨rfl, H5.out.2.bel⟩
      have HCN : Hid (Qlw y) := by show (1 : Int) <= y.t /\ _; omega
      have q1 := H5.out.2.a.cell 0 (.slice (some ⟨b, off, none⟩) n1 c1) rfl
      by_cases hj0 : j = 0
      · subst hj0; have HN := Qb (HST.out.2 ⟨by have := HCN.out.1; show (if (0 : Nat) = 0 then 0 else _) < _; rw [if_pos rfl]; omega, HCN.out⟩); clear HST; go_wp2_with fail; go_quiet (fail); have HF := Qb (H5.out.2.drewN nq); clear H5 q1 g0; go_wp2; go_roundw
        case rel => exact ⟨1, by omega, by go_num, HN.out, HF.out⟩
        case measure => simp [intOf] <;> omega
      · have hjp : (0 : Int) < (j : Int) := by omega
        have hjpn : 0 < j := by omega
        obtain ⟨i, hi⟩ : ∃ i, i = j - 1 := ⟨_, rfl⟩; have hij : (j : Int) - 1 = (i : Int) := by omega
        have hin : (i : Int) < (n1 : Int) := by omega
        have hinn : i < n1 := by omega
        have hwi : IntKind.i64.wrap (i : Int) = (i : Int) := by first | exact Qtw i (by omega) | (rw [IntKind.wrap_i64]; omega)
        have g9 := HPV.out w5 H5.out.2.bel (by omega); obtain ⟨z, hz⟩ : ∃ z, z = (T.getD (j - 1) Tx.zero).t := ⟨_, rfl⟩; have HLS : Hid (Qqv T j = z) := by show (if j = 0 then _ else _) = z; rw [if_neg hj0, hz]
        rw [<- hz, <- hi] at g9; rw [HLS.out] at HST; clear hz hi hj0
        by_cases hle : y.t <= z
        · obtain rfl : q = false := by
            cases q
            · rfl
            · have h9 := (HQ.out.1 rfl).1; have h8 := HST.out.1 (Qhw h9 (by show j + 1 <= T.length; rw [<- HNN.out.1]; omega)); have := h8.1; omega
          go_wp2_with fail; go_quiet (fail); have HF := Qb (H5.out.2.drewN nq); go_wp2; go_ret; exact ⟨rfl, HF.out.bel⟩
        · have HN := Qb (HST.out.2 ⟨by omega, HCN.out⟩); clear HST HLS; go_wp2_with fail; go_quiet (fail); have HF := Qb (H5.out.2.drewN nq); clear H5 q1 g0 g9 hij; go_wp2; go_roundw
          case rel => exact ⟨j + 1, by omega, by go_num, HN.out, HF.out⟩
          case measure => simp [intOf] <;> omega
    · have i5 : ¬ (j : Int) < (n1 : Int) := by omega
      have hjl : j = n1 := by omega
      have HTT : Hid (okT T T.length) := by
        have h9 := HOK.out; rw [hjl, HNN.out.1] at h9; exact h9
      have q1 := HJ.out.a.cell 1 (.slice a2 n2 c2) rfl; clear HOK hjl; go_wp2; clear q1; go_loopw [78] (fun i wr => ∃ j : Nat, j <= n2 /\ i = .int .i64 (j : Int) /\ Hid (okD D j /\ Rb w wr b1 (taA (.slice a1 n1 c1) (.slice a2 n2 c2)))) (fun i _ => n2 - (intOf i).toNat)
      case atStart => exact ⟨0, Nat.zero_le _, rfl, fun i hi => absurd hi (by omega), HJ.out⟩
      case round =>
        obtain ⟨j, hj, rfl, HJ0⟩ := hrel; have HJ := Qb HJ0.out.2; have HOK := Qb HJ0.out.1; clear HJ0
        by_cases hlt : j < n2
        · have i5 : (j : Int) < (n2 : Int) := by omega
          have HST := Qb (Qax HOK.out); have hjT : j < D.length := by rw [<- HNN.out.2]; exact hlt
          obtain ⟨b, off, c, hv, hbl, hrx⟩ := HI.out.2.mid hjT; injection hv with p1 p2 p3; have hrr := hrx wr HJ.out.bel
          have HPV : Hid (∀ x, Below w.heap.size w x -> 0 < j -> x.cell? ⟨b, off + (j - 1) * 2, none⟩ = some (.int .i64 (D.getD (j - 1) Di.zero).p)) := fun x hx h0 => by
            obtain ⟨b', off', c', hv', _, hrx'⟩ := HI.out.2.mid (show j - 1 < D.length by omega); injection hv' with p1' p2' p3'; rw [p1] at p1'; injection p1' with p1'; injection p1' with e1 e2 e3; subst e1 e2; exact hrx' x hx 0 _ rfl
          have HLD0 := Qb (Qrh wr b _ (D.getD j Di.zero) hrr); obtain ⟨y, hyy⟩ : ∃ y, y = D.getD j Di.zero := ⟨_, rfl⟩; have HYY := Qb hyy; rw [<- hyy] at HLD0; have HLD : Hid ((Instr.loadAt 81 (.pointer (some ⟨b, off + j * 2, none⟩))).run Try.prog wr = .ok (.agg #[.int .i64 y.p, .int .u64 (y.r : Int)]) wr) := HLD0.out; have q1 := HJ.out.a.cell 1 (.slice a2 n2 c2) rfl; clear hjT hrx hrr hbl p2 p3 hyy HLD0; subst p1; go_wp2_with (first | (refine Qt rfl 81 (.tmp 84) rfl _ (.agg #[.int .i64 y.p, .int .u64 (y.r : Int)]) rfl HLD.out ?_) | (refine Ql rfl 81 (.tmp 6) (.tmp 85) rfl wr.heap.size 0 81 (diA Di.zero) #[.int .i64 y.p, .int .u64 (y.r : Int)] rfl rfl (Qa.new wr _ _) Qcm (Nat.le_refl 2) (by simp [Value.oneCell']) ?_; intro w5 hr5 ho5; refine Qpa ?_)); rw [Qn (diA Di.zero) #[.int .i64 y.p, .int .u64 (y.r : Int)] rfl] at hr5; have hal : Below wr.heap.size wr (wr.alloc (.cells (diA Di.zero) 81)) := (Below.refl _ _).alloc (Nat.le_refl _) _; have H5 := Qb (And.intro hr5 (HJ.out.later (ho5.below hal (Nat.le_refl _)))); obtain ⟨g, hg⟩ : ∃ g, g = wr.heap.size := ⟨_, rfl⟩; rw [<- hg] at H5 |-; clear hr5 ho5 hal hg HLD HJ q1; refine Qg ?_; rw [<- HYY.out] at HST; have g0 : w5.cell? ⟨g, 0, none⟩ = some (.int .i64 y.p) := H5.out.1.cell 0 _ rfl; have g1 : w5.cell? ⟨g, 1, none⟩ = some (.int .u64 (y.r : Int)) := H5.out.1.cell 1 _ rfl
          by_cases k0 : y.p < 0
          · obtain rfl : q = false := by
              cases q
              · rfl
              · have h9 := (HQ.out.1 rfl).2; have h8 := HST.out.1 (Qiw h9 (by show j + 1 <= D.length; rw [<- HNN.out.2]; omega)); have := h8.2.1; omega
            go_wp2_with fail; refine wp_region_noPanic ?_; refine wp_region_held_drew (S := fun x => Qa x g 81 #[.int .i64 y.p, .int .u64 (y.r : Int)] /\ Rb w x b1 (taA (.slice a1 n1 c1) (.slice (some ⟨b, off, none⟩) n2 c2))) (by kernel_rfl) ⟨Qgj H5.out.1, H5.out.2.drewN 1⟩ (fun hHeld => ?_); generalize w5.drew = w6 at *; clear H5; refine tkq 0 (some 86) (.pointer (some ⟨g, 0, none⟩)) hHeld ?_; (try simp only [Act.put, List.setIfInBounds_toArray, List.set]); refine tkk 1 (some 87) (.int .i64 y.p) rfl rfl (by kernel_rfl) (by kernel_rfl) (fun x hSx => by have h1 := hSx.1.cell 0 (.int .i64 y.p) rfl; go_simp) hHeld ?_; (try simp only [Act.put, List.setIfInBounds_toArray, List.set]); refine tkq 2 (some 88) (.bool true) hHeld ?_; (try simp only [Act.put, List.setIfInBounds_toArray, List.set]); refine tkq 3 (some 89) (.bool true) hHeld ?_; (try simp only [Act.put, List.setIfInBounds_toArray, List.set]); refine Qr 4 (some 90) undef rfl rfl (by kernel_rfl) (by kernel_rfl) (by kernel_rfl) (fun _ _ _ h => h) (Or.inr ⟨by kernel_rfl, rfl⟩) hHeld ?_; (try simp only [Act.put, List.setIfInBounds_toArray, List.set]); refine Qr 5 (some 91) undef rfl rfl (by kernel_rfl) (by kernel_rfl) (by kernel_rfl) (fun _ _ _ h => h) (Or.inr ⟨by kernel_rfl, rfl⟩) hHeld ?_; (try simp only [Act.put, List.setIfInBounds_toArray, List.set]); refine Qr 6 (some 92) undef rfl rfl (by kernel_rfl) (by kernel_rfl) (by kernel_rfl) (fun _ _ _ h => h) (Or.inr ⟨by kernel_rfl, rfl⟩) hHeld ?_; (try simp only [Act.put, List.setIfInBounds_toArray, List.set]); refine tkq 7 (some 93) (.bool true) hHeld ?_; (try simp only [Act.put, List.setIfInBounds_toArray, List.set]); refine tkq 8 (some 94) (.bool true) hHeld ?_; (try simp only [Act.put, List.setIfInBounds_toArray, List.set]); refine Qr 9 (some 95) undef rfl rfl (by kernel_rfl) (by kernel_rfl) (by kernel_rfl) (fun _ _ _ h => h) (Or.inr ⟨by kernel_rfl, rfl⟩) hHeld ?_; (try simp only [Act.put, List.setIfInBounds_toArray, List.set]); refine Qr 10 (some 96) undef rfl rfl (by kernel_rfl) (by kernel_rfl) (by kernel_rfl) (fun _ _ _ h => h) (Or.inr ⟨by kernel_rfl, rfl⟩) hHeld ?_; (try simp only [Act.put, List.setIfInBounds_toArray, List.set]); refine Qr 11 (some 97) undef rfl rfl (by kernel_rfl) (by kernel_rfl) (by kernel_rfl) (fun _ _ _ h => h) (Or.inr ⟨by kernel_rfl, rfl⟩) hHeld ?_; (try simp only [Act.put, List.setIfInBounds_toArray, List.set]); refine tkq 12 (some 98) (.bool true) hHeld ?_; (try simp only [Act.put, List.setIfInBounds_toArray, List.set])
            refine tkq 13 (some 99) (.bool true) hHeld ?_; (try simp only [Act.put, List.setIfInBounds_toArray, List.set]); refine Qr 14 (some 100) undef rfl rfl (by kernel_rfl) (by kernel_rfl) (by kernel_rfl) (fun _ _ _ h => h) (Or.inr ⟨by kernel_rfl, rfl⟩) hHeld ?_; (try simp only [Act.put, List.setIfInBounds_toArray, List.set]); refine Qr 15 (some 101) undef rfl rfl (by kernel_rfl) (by kernel_rfl) (by kernel_rfl) (fun _ _ _ h => h) (Or.inr ⟨by kernel_rfl, rfl⟩) hHeld ?_; (try simp only [Act.put, List.setIfInBounds_toArray, List.set]); refine Qr 16 (some 102) undef rfl rfl (by kernel_rfl) (by kernel_rfl) (by kernel_rfl) (fun _ _ _ h => h) (Or.inr ⟨by kernel_rfl, rfl⟩) hHeld ?_; (try simp only [Act.put, List.setIfInBounds_toArray, List.set]); refine tkq 17 (some 103) (.bool true) hHeld ?_; (try simp only [Act.put, List.setIfInBounds_toArray, List.set]); refine tkq 18 (some 104) (.bool true) hHeld ?_; (try simp only [Act.put, List.setIfInBounds_toArray, List.set]); refine Qr 19 (some 105) undef rfl rfl (by kernel_rfl) (by kernel_rfl) (by kernel_rfl) (fun _ _ _ h => h) (Or.inr ⟨by kernel_rfl, rfl⟩) hHeld ?_; (try simp only [Act.put, List.setIfInBounds_toArray, List.set]); refine Qr 20 (some 106) undef rfl rfl (by kernel_rfl) (by kernel_rfl) (by kernel_rfl) (fun _ _ _ h => h) (Or.inr ⟨by kernel_rfl, rfl⟩) hHeld ?_; (try simp only [Act.put, List.setIfInBounds_toArray, List.set]); refine Qr 21 (some 107) undef rfl rfl (by kernel_rfl) (by kernel_rfl) (by kernel_rfl) (fun _ _ _ h => h) (Or.inr ⟨by kernel_rfl, rfl⟩) hHeld ?_; (try simp only [Act.put, List.setIfInBounds_toArray, List.set]); refine Qr 22 (some 108) undef rfl rfl (by kernel_rfl) (by kernel_rfl) (by kernel_rfl) (fun _ _ _ h => h) (Or.inr ⟨by kernel_rfl, rfl⟩) hHeld ?_; (try simp only [Act.put, List.setIfInBounds_toArray, List.set]); refine Qr 23 (some 109) undef rfl rfl (by kernel_rfl) (by kernel_rfl) (by kernel_rfl) (fun _ _ _ h => h) (Or.inr ⟨by kernel_rfl, rfl⟩) hHeld ?_; (try simp only [Act.put, List.setIfInBounds_toArray, List.set]); refine Qr 24 (some 110) undef rfl rfl (by kernel_rfl) (by kernel_rfl) (by kernel_rfl) (fun _ _ _ h => h) (Or.inr ⟨by kernel_rfl, rfl⟩) hHeld ?_; (try simp only [Act.put, List.setIfInBounds_toArray, List.set]); refine Qr 25 (some 111) undef rfl rfl (by kernel_rfl) (by kernel_rfl) (by kernel_rfl) (fun _ _ _ h => h) (Or.inr ⟨by kernel_rfl, rfl⟩) hHeld ?_; (try simp only [Act.put, List.setIfInBounds_toArray, List.set])
            refine Qr 26 (some 112) undef rfl rfl (by kernel_rfl) (by kernel_rfl) (by kernel_rfl) (fun _ _ _ h => h) (Or.inr ⟨by kernel_rfl, rfl⟩) hHeld ?_; (try simp only [Act.put, List.setIfInBounds_toArray, List.set]); refine Qr 27 (some 113) undef rfl rfl (by kernel_rfl) (by kernel_rfl) (by kernel_rfl) (fun _ _ _ h => h) (Or.inr ⟨by kernel_rfl, rfl⟩) hHeld ?_; (try simp only [Act.put, List.setIfInBounds_toArray, List.set]); refine Qr 28 (some 114) undef rfl rfl (by kernel_rfl) (by kernel_rfl) (by kernel_rfl) (fun _ _ _ h => h) (Or.inr ⟨by kernel_rfl, rfl⟩) hHeld ?_; (try simp only [Act.put, List.setIfInBounds_toArray, List.set]); refine Qr 29 (some 115) undef rfl rfl (by kernel_rfl) (by kernel_rfl) (by kernel_rfl) (fun _ _ _ h => h) (Or.inr ⟨by kernel_rfl, rfl⟩) hHeld ?_; (try simp only [Act.put, List.setIfInBounds_toArray, List.set]); refine Qr 30 (some 116) undef rfl rfl (by kernel_rfl) (by kernel_rfl) (by kernel_rfl) (fun _ _ _ h => h) (Or.inr ⟨by kernel_rfl, rfl⟩) hHeld ?_; (try simp only [Act.put, List.setIfInBounds_toArray, List.set]); refine Qr 31 (some 117) undef rfl rfl (by kernel_rfl) (by kernel_rfl) (by kernel_rfl) (fun _ _ _ h => h) (Or.inr ⟨by kernel_rfl, rfl⟩) hHeld ?_; (try simp only [Act.put, List.setIfInBounds_toArray, List.set]); refine Qr 32 (some 118) undef rfl rfl (by kernel_rfl) (by kernel_rfl) (by kernel_rfl) (fun _ _ _ h => h) (Or.inr ⟨by kernel_rfl, rfl⟩) hHeld ?_; (try simp only [Act.put, List.setIfInBounds_toArray, List.set]); refine tkq 33 (some 119) (.bool true) hHeld ?_; (try simp only [Act.put, List.setIfInBounds_toArray, List.set]); refine wpAnyH_done (by kernel_rfl) ?_ _; refine NoPanic.normal ?_; have HF := Qb hHeld.2; clear hHeld; go_wp2; go_ret; exact ⟨rfl, HF.out.bel⟩
          by_cases k1 : (31 : Int) < y.p
          · obtain rfl : q = false := by
              cases q
              · rfl
              · have h9 := (HQ.out.1 rfl).2; have h8 := HST.out.1 (Qiw h9 (by show j + 1 <= D.length; rw [<- HNN.out.2]; omega)); have := h8.2.2.1; omega
            go_wp2_with fail; refine wp_region_noPanic ?_; refine wp_region_held_drew (S := fun x => Qa x g 81 #[.int .i64 y.p, .int .u64 (y.r : Int)] /\ Rb w x b1 (taA (.slice a1 n1 c1) (.slice (some ⟨b, off, none⟩) n2 c2))) (by kernel_rfl) ⟨Qgj H5.out.1, H5.out.2.drewN 1⟩ (fun hHeld => ?_); generalize w5.drew = w6 at *; clear H5; refine tkq 0 (some 86) (.pointer (some ⟨g, 0, none⟩)) hHeld ?_; (try simp only [Act.put, List.setIfInBounds_toArray, List.set]); refine tkk 1 (some 87) (.int .i64 y.p) rfl rfl (by kernel_rfl) (by kernel_rfl) (fun x hSx => by have h1 := hSx.1.cell 0 (.int .i64 y.p) rfl; go_simp) hHeld ?_; (try simp only [Act.put, List.setIfInBounds_toArray, List.set]); refine tkq 2 (some 88) (.bool false) hHeld ?_; (try simp only [Act.put, List.setIfInBounds_toArray, List.set]); refine tkq 3 (some 89) (.bool false) hHeld ?_; (try simp only [Act.put, List.setIfInBounds_toArray, List.set]); refine tkq 4 (some 90) (.pointer (some ⟨g, 0, none⟩)) hHeld ?_; (try simp only [Act.put, List.setIfInBounds_toArray, List.set]); refine tkk 5 (some 91) (.int .i64 y.p) rfl rfl (by kernel_rfl) (by kernel_rfl) (fun x hSx => by have h1 := hSx.1.cell 0 (.int .i64 y.p) rfl; go_simp) hHeld ?_; (try simp only [Act.put, List.setIfInBounds_toArray, List.set]); refine tkq 6 (some 92) (.bool true) hHeld ?_; (try simp only [Act.put, List.setIfInBounds_toArray, List.set]); refine tkq 7 (some 93) (.bool true) hHeld ?_; (try simp only [Act.put, List.setIfInBounds_toArray, List.set]); refine tkq 8 (some 94) (.bool true) hHeld ?_; (try simp only [Act.put, List.setIfInBounds_toArray, List.set]); refine Qr 9 (some 95) undef rfl rfl (by kernel_rfl) (by kernel_rfl) (by kernel_rfl) (fun _ _ _ h => h) (Or.inr ⟨by kernel_rfl, rfl⟩) hHeld ?_; (try simp only [Act.put, List.setIfInBounds_toArray, List.set]); refine Qr 10 (some 96) undef rfl rfl (by kernel_rfl) (by kernel_rfl) (by kernel_rfl) (fun _ _ _ h => h) (Or.inr ⟨by kernel_rfl, rfl⟩) hHeld ?_; (try simp only [Act.put, List.setIfInBounds_toArray, List.set]); refine Qr 11 (some 97) undef rfl rfl (by kernel_rfl) (by kernel_rfl) (by kernel_rfl) (fun _ _ _ h => h) (Or.inr ⟨by kernel_rfl, rfl⟩) hHeld ?_; (try simp only [Act.put, List.setIfInBounds_toArray, List.set]); refine tkq 12 (some 98) (.bool true) hHeld ?_; (try simp only [Act.put, List.setIfInBounds_toArray, List.set]); refine tkq 13 (some 99) (.bool true) hHeld ?_; (try simp only [Act.put, List.setIfInBounds_toArray, List.set]); refine Qr 14 (some 100) undef rfl rfl (by kernel_rfl) (by kernel_rfl) (by kernel_rfl) (fun _ _ _ h => h) (Or.inr ⟨by kernel_rfl, rfl⟩) hHeld ?_
            (try simp only [Act.put, List.setIfInBounds_toArray, List.set])
            refine Qr 15 (some 101) undef rfl rfl (by kernel_rfl) (by kernel_rfl) (by kernel_rfl) (fun _ _ _ h => h) (Or.inr ⟨by kernel_rfl, rfl⟩) hHeld ?_; (try simp only [Act.put, List.setIfInBounds_toArray, List.set]); refine Qr 16 (some 102) undef rfl rfl (by kernel_rfl) (by kernel_rfl) (by kernel_rfl) (fun _ _ _ h => h) (Or.inr ⟨by kernel_rfl, rfl⟩) hHeld ?_; (try simp only [Act.put, List.setIfInBounds_toArray, List.set]); refine tkq 17 (some 103) (.bool true) hHeld ?_; (try simp only [Act.put, List.setIfInBounds_toArray, List.set]); refine tkq 18 (some 104) (.bool true) hHeld ?_; (try simp only [Act.put, List.setIfInBounds_toArray, List.set]); refine Qr 19 (some 105) undef rfl rfl (by kernel_rfl) (by kernel_rfl) (by kernel_rfl) (fun _ _ _ h => h) (Or.inr ⟨by kernel_rfl, rfl⟩) hHeld ?_; (try simp only [Act.put, List.setIfInBounds_toArray, List.set]); refine Qr 20 (some 106) undef rfl rfl (by kernel_rfl) (by kernel_rfl) (by kernel_rfl) (fun _ _ _ h => h) (Or.inr ⟨by kernel_rfl, rfl⟩) hHeld ?_; (try simp only [Act.put, List.setIfInBounds_toArray, List.set]); refine Qr 21 (some 107) undef rfl rfl (by kernel_rfl) (by kernel_rfl) (by kernel_rfl) (fun _ _ _ h => h) (Or.inr ⟨by kernel_rfl, rfl⟩) hHeld ?_; (try simp only [Act.put, List.setIfInBounds_toArray, List.set]); refine Qr 22 (some 108) undef rfl rfl (by kernel_rfl) (by kernel_rfl) (by kernel_rfl) (fun _ _ _ h => h) (Or.inr ⟨by kernel_rfl, rfl⟩) hHeld ?_; (try simp only [Act.put, List.setIfInBounds_toArray, List.set]); refine Qr 23 (some 109) undef rfl rfl (by kernel_rfl) (by kernel_rfl) (by kernel_rfl) (fun _ _ _ h => h) (Or.inr ⟨by kernel_rfl, rfl⟩) hHeld ?_; (try simp only [Act.put, List.setIfInBounds_toArray, List.set]); refine Qr 24 (some 110) undef rfl rfl (by kernel_rfl) (by kernel_rfl) (by kernel_rfl) (fun _ _ _ h => h) (Or.inr ⟨by kernel_rfl, rfl⟩) hHeld ?_; (try simp only [Act.put, List.setIfInBounds_toArray, List.set]); refine Qr 25 (some 111) undef rfl rfl (by kernel_rfl) (by kernel_rfl) (by kernel_rfl) (fun _ _ _ h => h) (Or.inr ⟨by kernel_rfl, rfl⟩) hHeld ?_; (try simp only [Act.put, List.setIfInBounds_toArray, List.set]); refine Qr 26 (some 112) undef rfl rfl (by kernel_rfl) (by kernel_rfl) (by kernel_rfl) (fun _ _ _ h => h) (Or.inr ⟨by kernel_rfl, rfl⟩) hHeld ?_; (try simp only [Act.put, List.setIfInBounds_toArray, List.set]); refine Qr 27 (some 113) undef rfl rfl (by kernel_rfl) (by kernel_rfl) (by kernel_rfl) (fun _ _ _ h => h) (Or.inr ⟨by kernel_rfl, rfl⟩) hHeld ?_
            (try simp only [Act.put, List.setIfInBounds_toArray, List.set])
            refine Qr 28 (some 114) undef rfl rfl (by kernel_rfl) (by kernel_rfl) (by kernel_rfl) (fun _ _ _ h => h) (Or.inr ⟨by kernel_rfl, rfl⟩) hHeld ?_; (try simp only [Act.put, List.setIfInBounds_toArray, List.set]); refine Qr 29 (some 115) undef rfl rfl (by kernel_rfl) (by kernel_rfl) (by kernel_rfl) (fun _ _ _ h => h) (Or.inr ⟨by kernel_rfl, rfl⟩) hHeld ?_; (try simp only [Act.put, List.setIfInBounds_toArray, List.set]); refine Qr 30 (some 116) undef rfl rfl (by kernel_rfl) (by kernel_rfl) (by kernel_rfl) (fun _ _ _ h => h) (Or.inr ⟨by kernel_rfl, rfl⟩) hHeld ?_; (try simp only [Act.put, List.setIfInBounds_toArray, List.set]); refine Qr 31 (some 117) undef rfl rfl (by kernel_rfl) (by kernel_rfl) (by kernel_rfl) (fun _ _ _ h => h) (Or.inr ⟨by kernel_rfl, rfl⟩) hHeld ?_; (try simp only [Act.put, List.setIfInBounds_toArray, List.set]); refine Qr 32 (some 118) undef rfl rfl (by kernel_rfl) (by kernel_rfl) (by kernel_rfl) (fun _ _ _ h => h) (Or.inr ⟨by kernel_rfl, rfl⟩) hHeld ?_; (try simp only [Act.put, List.setIfInBounds_toArray, List.set]); refine tkq 33 (some 119) (.bool true) hHeld ?_; (try simp only [Act.put, List.setIfInBounds_toArray, List.set]); refine wpAnyH_done (by kernel_rfl) ?_ _; refine NoPanic.normal ?_; have HF := Qb hHeld.2; clear hHeld; go_wp2; go_ret; exact ⟨rfl, HF.out.bel⟩
          by_cases k2 : (y.r : Int) < 1
          · obtain rfl : q = false := by
              cases q
              · rfl
              · have h9 := (HQ.out.1 rfl).2; have h8 := HST.out.1 (Qiw h9 (by show j + 1 <= D.length; rw [<- HNN.out.2]; omega)); have := h8.2.2.2.1; omega
            go_wp2_with fail; refine wp_region_noPanic ?_; refine wp_region_held_drew (S := fun x => Qa x g 81 #[.int .i64 y.p, .int .u64 (y.r : Int)] /\ Rb w x b1 (taA (.slice a1 n1 c1) (.slice (some ⟨b, off, none⟩) n2 c2))) (by kernel_rfl) ⟨Qgj H5.out.1, H5.out.2.drewN 1⟩ (fun hHeld => ?_); generalize w5.drew = w6 at *; clear H5; refine tkq 0 (some 86) (.pointer (some ⟨g, 0, none⟩)) hHeld ?_; (try simp only [Act.put, List.setIfInBounds_toArray, List.set]); refine tkk 1 (some 87) (.int .i64 y.p) rfl rfl (by kernel_rfl) (by kernel_rfl) (fun x hSx => by have h1 := hSx.1.cell 0 (.int .i64 y.p) rfl; go_simp) hHeld ?_; (try simp only [Act.put, List.setIfInBounds_toArray, List.set]); refine tkq 2 (some 88) (.bool false) hHeld ?_; (try simp only [Act.put, List.setIfInBounds_toArray, List.set]); refine tkq 3 (some 89) (.bool false) hHeld ?_; (try simp only [Act.put, List.setIfInBounds_toArray, List.set]); refine tkq 4 (some 90) (.pointer (some ⟨g, 0, none⟩)) hHeld ?_; (try simp only [Act.put, List.setIfInBounds_toArray, List.set]); refine tkk 5 (some 91) (.int .i64 y.p) rfl rfl (by kernel_rfl) (by kernel_rfl) (fun x hSx => by have h1 := hSx.1.cell 0 (.int .i64 y.p) rfl; go_simp) hHeld ?_; (try simp only [Act.put, List.setIfInBounds_toArray, List.set]); refine tkq 6 (some 92) (.bool false) hHeld ?_; (try simp only [Act.put, List.setIfInBounds_toArray, List.set]); refine tkq 7 (some 93) (.bool false) hHeld ?_; (try simp only [Act.put, List.setIfInBounds_toArray, List.set]); refine tkq 8 (some 94) (.bool false) hHeld ?_; (try simp only [Act.put, List.setIfInBounds_toArray, List.set]); refine tkq 9 (some 95) (.pointer (some ⟨g, 1, none⟩)) hHeld ?_; (try simp only [Act.put, List.setIfInBounds_toArray, List.set]); refine tkk 10 (some 96) (.int .u64 (y.r : Int)) rfl rfl (by kernel_rfl) (by kernel_rfl) (fun x hSx => by have h1 := hSx.1.cell 1 (.int .u64 (y.r : Int)) rfl; go_simp) hHeld ?_; (try simp only [Act.put, List.setIfInBounds_toArray, List.set]); refine tkq 11 (some 97) (.bool true) hHeld ?_; (try simp only [Act.put, List.setIfInBounds_toArray, List.set]); refine tkq 12 (some 98) (.bool true) hHeld ?_; (try simp only [Act.put, List.setIfInBounds_toArray, List.set]); refine tkq 13 (some 99) (.bool true) hHeld ?_; (try simp only [Act.put, List.setIfInBounds_toArray, List.set]); refine Qr 14 (some 100) undef rfl rfl (by kernel_rfl) (by kernel_rfl) (by kernel_rfl) (fun _ _ _ h => h) (Or.inr ⟨by kernel_rfl, rfl⟩) hHeld ?_; (try simp only [Act.put, List.setIfInBounds_toArray, List.set])
            refine Qr 15 (some 101) undef rfl rfl (by kernel_rfl) (by kernel_rfl) (by kernel_rfl) (fun _ _ _ h => h) (Or.inr ⟨by kernel_rfl, rfl⟩) hHeld ?_; (try simp only [Act.put, List.setIfInBounds_toArray, List.set]); refine Qr 16 (some 102) undef rfl rfl (by kernel_rfl) (by kernel_rfl) (by kernel_rfl) (fun _ _ _ h => h) (Or.inr ⟨by kernel_rfl, rfl⟩) hHeld ?_; (try simp only [Act.put, List.setIfInBounds_toArray, List.set]); refine tkq 17 (some 103) (.bool true) hHeld ?_; (try simp only [Act.put, List.setIfInBounds_toArray, List.set]); refine tkq 18 (some 104) (.bool true) hHeld ?_; (try simp only [Act.put, List.setIfInBounds_toArray, List.set]); refine Qr 19 (some 105) undef rfl rfl (by kernel_rfl) (by kernel_rfl) (by kernel_rfl) (fun _ _ _ h => h) (Or.inr ⟨by kernel_rfl, rfl⟩) hHeld ?_; (try simp only [Act.put, List.setIfInBounds_toArray, List.set]); refine Qr 20 (some 106) undef rfl rfl (by kernel_rfl) (by kernel_rfl) (by kernel_rfl) (fun _ _ _ h => h) (Or.inr ⟨by kernel_rfl, rfl⟩) hHeld ?_; (try simp only [Act.put, List.setIfInBounds_toArray, List.set]); refine Qr 21 (some 107) undef rfl rfl (by kernel_rfl) (by kernel_rfl) (by kernel_rfl) (fun _ _ _ h => h) (Or.inr ⟨by kernel_rfl, rfl⟩) hHeld ?_; (try simp only [Act.put, List.setIfInBounds_toArray, List.set]); refine Qr 22 (some 108) undef rfl rfl (by kernel_rfl) (by kernel_rfl) (by kernel_rfl) (fun _ _ _ h => h) (Or.inr ⟨by kernel_rfl, rfl⟩) hHeld ?_; (try simp only [Act.put, List.setIfInBounds_toArray, List.set]); refine Qr 23 (some 109) undef rfl rfl (by kernel_rfl) (by kernel_rfl) (by kernel_rfl) (fun _ _ _ h => h) (Or.inr ⟨by kernel_rfl, rfl⟩) hHeld ?_; (try simp only [Act.put, List.setIfInBounds_toArray, List.set]); refine Qr 24 (some 110) undef rfl rfl (by kernel_rfl) (by kernel_rfl) (by kernel_rfl) (fun _ _ _ h => h) (Or.inr ⟨by kernel_rfl, rfl⟩) hHeld ?_; (try simp only [Act.put, List.setIfInBounds_toArray, List.set]); refine Qr 25 (some 111) undef rfl rfl (by kernel_rfl) (by kernel_rfl) (by kernel_rfl) (fun _ _ _ h => h) (Or.inr ⟨by kernel_rfl, rfl⟩) hHeld ?_; (try simp only [Act.put, List.setIfInBounds_toArray, List.set]); refine Qr 26 (some 112) undef rfl rfl (by kernel_rfl) (by kernel_rfl) (by kernel_rfl) (fun _ _ _ h => h) (Or.inr ⟨by kernel_rfl, rfl⟩) hHeld ?_; (try simp only [Act.put, List.setIfInBounds_toArray, List.set]); refine Qr 27 (some 113) undef rfl rfl (by kernel_rfl) (by kernel_rfl) (by kernel_rfl) (fun _ _ _ h => h) (Or.inr ⟨by kernel_rfl, rfl⟩) hHeld ?_
            (try simp only [Act.put, List.setIfInBounds_toArray, List.set])
            refine Qr 28 (some 114) undef rfl rfl (by kernel_rfl) (by kernel_rfl) (by kernel_rfl) (fun _ _ _ h => h) (Or.inr ⟨by kernel_rfl, rfl⟩) hHeld ?_; (try simp only [Act.put, List.setIfInBounds_toArray, List.set]); refine Qr 29 (some 115) undef rfl rfl (by kernel_rfl) (by kernel_rfl) (by kernel_rfl) (fun _ _ _ h => h) (Or.inr ⟨by kernel_rfl, rfl⟩) hHeld ?_; (try simp only [Act.put, List.setIfInBounds_toArray, List.set]); refine Qr 30 (some 116) undef rfl rfl (by kernel_rfl) (by kernel_rfl) (by kernel_rfl) (fun _ _ _ h => h) (Or.inr ⟨by kernel_rfl, rfl⟩) hHeld ?_; (try simp only [Act.put, List.setIfInBounds_toArray, List.set]); refine Qr 31 (some 117) undef rfl rfl (by kernel_rfl) (by kernel_rfl) (by kernel_rfl) (fun _ _ _ h => h) (Or.inr ⟨by kernel_rfl, rfl⟩) hHeld ?_; (try simp only [Act.put, List.setIfInBounds_toArray, List.set]); refine Qr 32 (some 118) undef rfl rfl (by kernel_rfl) (by kernel_rfl) (by kernel_rfl) (fun _ _ _ h => h) (Or.inr ⟨by kernel_rfl, rfl⟩) hHeld ?_; (try simp only [Act.put, List.setIfInBounds_toArray, List.set]); refine tkq 33 (some 119) (.bool true) hHeld ?_; (try simp only [Act.put, List.setIfInBounds_toArray, List.set]); refine wpAnyH_done (by kernel_rfl) ?_ _; refine NoPanic.normal ?_; have HF := Qb hHeld.2; clear hHeld; go_wp2; go_ret; exact ⟨rfl, HF.out.bel⟩
          by_cases k3 : (4611686018427387904 : Int) < (y.r : Int)
          · obtain rfl : q = false := by
              cases q
              · rfl
              · have h9 := (HQ.out.1 rfl).2; have h8 := HST.out.1 (Qiw h9 (by show j + 1 <= D.length; rw [<- HNN.out.2]; omega)); have := h8.2.2.2.2; omega
            go_wp2_with fail; refine wp_region_noPanic ?_; refine wp_region_held_drew (S := fun x => Qa x g 81 #[.int .i64 y.p, .int .u64 (y.r : Int)] /\ Rb w x b1 (taA (.slice a1 n1 c1) (.slice (some ⟨b, off, none⟩) n2 c2))) (by kernel_rfl) ⟨Qgj H5.out.1, H5.out.2.drewN 1⟩ (fun hHeld => ?_); generalize w5.drew = w6 at *; clear H5; refine tkq 0 (some 86) (.pointer (some ⟨g, 0, none⟩)) hHeld ?_; (try simp only [Act.put, List.setIfInBounds_toArray, List.set]); refine tkk 1 (some 87) (.int .i64 y.p) rfl rfl (by kernel_rfl) (by kernel_rfl) (fun x hSx => by have h1 := hSx.1.cell 0 (.int .i64 y.p) rfl; go_simp) hHeld ?_; (try simp only [Act.put, List.setIfInBounds_toArray, List.set]); refine tkq 2 (some 88) (.bool false) hHeld ?_; (try simp only [Act.put, List.setIfInBounds_toArray, List.set]); refine tkq 3 (some 89) (.bool false) hHeld ?_; (try simp only [Act.put, List.setIfInBounds_toArray, List.set]); refine tkq 4 (some 90) (.pointer (some ⟨g, 0, none⟩)) hHeld ?_; (try simp only [Act.put, List.setIfInBounds_toArray, List.set]); refine tkk 5 (some 91) (.int .i64 y.p) rfl rfl (by kernel_rfl) (by kernel_rfl) (fun x hSx => by have h1 := hSx.1.cell 0 (.int .i64 y.p) rfl; go_simp) hHeld ?_; (try simp only [Act.put, List.setIfInBounds_toArray, List.set]); refine tkq 6 (some 92) (.bool false) hHeld ?_; (try simp only [Act.put, List.setIfInBounds_toArray, List.set]); refine tkq 7 (some 93) (.bool false) hHeld ?_; (try simp only [Act.put, List.setIfInBounds_toArray, List.set]); refine tkq 8 (some 94) (.bool false) hHeld ?_; (try simp only [Act.put, List.setIfInBounds_toArray, List.set]); refine tkq 9 (some 95) (.pointer (some ⟨g, 1, none⟩)) hHeld ?_; (try simp only [Act.put, List.setIfInBounds_toArray, List.set]); refine tkk 10 (some 96) (.int .u64 (y.r : Int)) rfl rfl (by kernel_rfl) (by kernel_rfl) (fun x hSx => by have h1 := hSx.1.cell 1 (.int .u64 (y.r : Int)) rfl; go_simp) hHeld ?_; (try simp only [Act.put, List.setIfInBounds_toArray, List.set]); refine tkq 11 (some 97) (.bool false) hHeld ?_; (try simp only [Act.put, List.setIfInBounds_toArray, List.set]); refine tkq 12 (some 98) (.bool false) hHeld ?_; (try simp only [Act.put, List.setIfInBounds_toArray, List.set]); refine tkq 13 (some 99) (.bool false) hHeld ?_; (try simp only [Act.put, List.setIfInBounds_toArray, List.set]); refine tkq 14 (some 100) (.pointer (some ⟨g, 1, none⟩)) hHeld ?_; (try simp only [Act.put, List.setIfInBounds_toArray, List.set]); refine tkk 15 (some 101) (.int .u64 (y.r : Int)) rfl rfl (by kernel_rfl) (by kernel_rfl) (fun x hSx => by have h1 := hSx.1.cell 1 (.int .u64 (y.r : Int)) rfl; go_simp) hHeld ?_
            (try simp only [Act.put, List.setIfInBounds_toArray, List.set])
            refine tkq 16 (some 102) (.bool true) hHeld ?_; (try simp only [Act.put, List.setIfInBounds_toArray, List.set]); refine tkq 17 (some 103) (.bool true) hHeld ?_; (try simp only [Act.put, List.setIfInBounds_toArray, List.set]); refine tkq 18 (some 104) (.bool true) hHeld ?_; (try simp only [Act.put, List.setIfInBounds_toArray, List.set]); refine Qr 19 (some 105) undef rfl rfl (by kernel_rfl) (by kernel_rfl) (by kernel_rfl) (fun _ _ _ h => h) (Or.inr ⟨by kernel_rfl, rfl⟩) hHeld ?_; (try simp only [Act.put, List.setIfInBounds_toArray, List.set]); refine Qr 20 (some 106) undef rfl rfl (by kernel_rfl) (by kernel_rfl) (by kernel_rfl) (fun _ _ _ h => h) (Or.inr ⟨by kernel_rfl, rfl⟩) hHeld ?_; (try simp only [Act.put, List.setIfInBounds_toArray, List.set]); refine Qr 21 (some 107) undef rfl rfl (by kernel_rfl) (by kernel_rfl) (by kernel_rfl) (fun _ _ _ h => h) (Or.inr ⟨by kernel_rfl, rfl⟩) hHeld ?_; (try simp only [Act.put, List.setIfInBounds_toArray, List.set]); refine Qr 22 (some 108) undef rfl rfl (by kernel_rfl) (by kernel_rfl) (by kernel_rfl) (fun _ _ _ h => h) (Or.inr ⟨by kernel_rfl, rfl⟩) hHeld ?_; (try simp only [Act.put, List.setIfInBounds_toArray, List.set]); refine Qr 23 (some 109) undef rfl rfl (by kernel_rfl) (by kernel_rfl) (by kernel_rfl) (fun _ _ _ h => h) (Or.inr ⟨by kernel_rfl, rfl⟩) hHeld ?_; (try simp only [Act.put, List.setIfInBounds_toArray, List.set]); refine Qr 24 (some 110) undef rfl rfl (by kernel_rfl) (by kernel_rfl) (by kernel_rfl) (fun _ _ _ h => h) (Or.inr ⟨by kernel_rfl, rfl⟩) hHeld ?_; (try simp only [Act.put, List.setIfInBounds_toArray, List.set]); refine Qr 25 (some 111) undef rfl rfl (by kernel_rfl) (by kernel_rfl) (by kernel_rfl) (fun _ _ _ h => h) (Or.inr ⟨by kernel_rfl, rfl⟩) hHeld ?_; (try simp only [Act.put, List.setIfInBounds_toArray, List.set]); refine Qr 26 (some 112) undef rfl rfl (by kernel_rfl) (by kernel_rfl) (by kernel_rfl) (fun _ _ _ h => h) (Or.inr ⟨by kernel_rfl, rfl⟩) hHeld ?_; (try simp only [Act.put, List.setIfInBounds_toArray, List.set]); refine Qr 27 (some 113) undef rfl rfl (by kernel_rfl) (by kernel_rfl) (by kernel_rfl) (fun _ _ _ h => h) (Or.inr ⟨by kernel_rfl, rfl⟩) hHeld ?_; (try simp only [Act.put, List.setIfInBounds_toArray, List.set]); refine Qr 28 (some 114) undef rfl rfl (by kernel_rfl) (by kernel_rfl) (by kernel_rfl) (fun _ _ _ h => h) (Or.inr ⟨by kernel_rfl, rfl⟩) hHeld ?_; (try simp only [Act.put, List.setIfInBounds_toArray, List.set])
            refine Qr 29 (some 115) undef rfl rfl (by kernel_rfl) (by kernel_rfl) (by kernel_rfl) (fun _ _ _ h => h) (Or.inr ⟨by kernel_rfl, rfl⟩) hHeld ?_; (try simp only [Act.put, List.setIfInBounds_toArray, List.set]); refine Qr 30 (some 116) undef rfl rfl (by kernel_rfl) (by kernel_rfl) (by kernel_rfl) (fun _ _ _ h => h) (Or.inr ⟨by kernel_rfl, rfl⟩) hHeld ?_; (try simp only [Act.put, List.setIfInBounds_toArray, List.set]); refine Qr 31 (some 117) undef rfl rfl (by kernel_rfl) (by kernel_rfl) (by kernel_rfl) (fun _ _ _ h => h) (Or.inr ⟨by kernel_rfl, rfl⟩) hHeld ?_; (try simp only [Act.put, List.setIfInBounds_toArray, List.set]); refine Qr 32 (some 118) undef rfl rfl (by kernel_rfl) (by kernel_rfl) (by kernel_rfl) (fun _ _ _ h => h) (Or.inr ⟨by kernel_rfl, rfl⟩) hHeld ?_; (try simp only [Act.put, List.setIfInBounds_toArray, List.set]); refine tkq 33 (some 119) (.bool true) hHeld ?_; (try simp only [Act.put, List.setIfInBounds_toArray, List.set]); refine wpAnyH_done (by kernel_rfl) ?_ _; refine NoPanic.normal ?_; have HF := Qb hHeld.2; clear hHeld; go_wp2; go_ret; exact ⟨rfl, HF.out.bel⟩
          have HCN : Hid (Qnw y) := by show (0 : Int) <= y.p /\ _; omega
          have q1 := H5.out.2.a.cell 1 (.slice (some ⟨b, off, none⟩) n2 c2) rfl
          by_cases hj0 : j = 0
          · subst hj0; have HN := Qb (HST.out.2 ⟨by have := HCN.out.1; show (if (0 : Nat) = 0 then (-1 : Int) else _) < _; rw [if_pos rfl]; omega, HCN.out⟩); clear HST; go_wp2_with fail; refine wp_region_noPanic ?_; refine wp_region_held_drew (S := fun x => Qa x g 81 #[.int .i64 y.p, .int .u64 (y.r : Int)] /\ Rb w x b1 (taA (.slice a1 n1 c1) (.slice (some ⟨b, off, none⟩) n2 c2))) (by kernel_rfl) ⟨Qgj H5.out.1, H5.out.2.drewN 1⟩ (fun hHeld => ?_); generalize w5.drew = w6 at *; clear H5; refine tkq 0 (some 86) (.pointer (some ⟨g, 0, none⟩)) hHeld ?_; (try simp only [Act.put, List.setIfInBounds_toArray, List.set]); refine tkk 1 (some 87) (.int .i64 y.p) rfl rfl (by kernel_rfl) (by kernel_rfl) (fun x hSx => by have h1 := hSx.1.cell 0 (.int .i64 y.p) rfl; go_simp) hHeld ?_; (try simp only [Act.put, List.setIfInBounds_toArray, List.set]); refine tkq 2 (some 88) (.bool false) hHeld ?_; (try simp only [Act.put, List.setIfInBounds_toArray, List.set]); refine tkq 3 (some 89) (.bool false) hHeld ?_; (try simp only [Act.put, List.setIfInBounds_toArray, List.set]); refine tkq 4 (some 90) (.pointer (some ⟨g, 0, none⟩)) hHeld ?_; (try simp only [Act.put, List.setIfInBounds_toArray, List.set]); refine tkk 5 (some 91) (.int .i64 y.p) rfl rfl (by kernel_rfl) (by kernel_rfl) (fun x hSx => by have h1 := hSx.1.cell 0 (.int .i64 y.p) rfl; go_simp) hHeld ?_; (try simp only [Act.put, List.setIfInBounds_toArray, List.set]); refine tkq 6 (some 92) (.bool false) hHeld ?_; (try simp only [Act.put, List.setIfInBounds_toArray, List.set]); refine tkq 7 (some 93) (.bool false) hHeld ?_; (try simp only [Act.put, List.setIfInBounds_toArray, List.set]); refine tkq 8 (some 94) (.bool false) hHeld ?_; (try simp only [Act.put, List.setIfInBounds_toArray, List.set]); refine tkq 9 (some 95) (.pointer (some ⟨g, 1, none⟩)) hHeld ?_; (try simp only [Act.put, List.setIfInBounds_toArray, List.set]); refine tkk 10 (some 96) (.int .u64 (y.r : Int)) rfl rfl (by kernel_rfl) (by kernel_rfl) (fun x hSx => by have h1 := hSx.1.cell 1 (.int .u64 (y.r : Int)) rfl; go_simp) hHeld ?_; (try simp only [Act.put, List.setIfInBounds_toArray, List.set]); refine tkq 11 (some 97) (.bool false) hHeld ?_; (try simp only [Act.put, List.setIfInBounds_toArray, List.set]); refine tkq 12 (some 98) (.bool false) hHeld ?_; (try simp only [Act.put, List.setIfInBounds_toArray, List.set]); refine tkq 13 (some 99) (.bool false) hHeld ?_; (try simp only [Act.put, List.setIfInBounds_toArray, List.set]); refine tkq 14 (some 100) (.pointer (some ⟨g, 1, none⟩)) hHeld ?_
            (try simp only [Act.put, List.setIfInBounds_toArray, List.set])
            refine tkk 15 (some 101) (.int .u64 (y.r : Int)) rfl rfl (by kernel_rfl) (by kernel_rfl) (fun x hSx => by have h1 := hSx.1.cell 1 (.int .u64 (y.r : Int)) rfl; go_simp) hHeld ?_; (try simp only [Act.put, List.setIfInBounds_toArray, List.set]); refine tkq 16 (some 102) (.bool false) hHeld ?_; (try simp only [Act.put, List.setIfInBounds_toArray, List.set]); refine tkq 17 (some 103) (.bool false) hHeld ?_; (try simp only [Act.put, List.setIfInBounds_toArray, List.set]); refine tkq 18 (some 104) (.bool false) hHeld ?_; (try simp only [Act.put, List.setIfInBounds_toArray, List.set]); refine tkq 19 (some 105) (.int .i64 0) hHeld ?_; (try simp only [Act.put, List.setIfInBounds_toArray, List.set]); refine tkq 20 (some 106) (.bool false) hHeld ?_; (try simp only [Act.put, List.setIfInBounds_toArray, List.set]); refine tkq 21 (some 107) (.bool false) hHeld ?_; (try simp only [Act.put, List.setIfInBounds_toArray, List.set]); refine Qr 22 (some 108) undef rfl rfl (by kernel_rfl) (by kernel_rfl) (by kernel_rfl) (fun _ _ _ h => h) (Or.inr ⟨by kernel_rfl, rfl⟩) hHeld ?_; (try simp only [Act.put, List.setIfInBounds_toArray, List.set]); refine Qr 23 (some 109) undef rfl rfl (by kernel_rfl) (by kernel_rfl) (by kernel_rfl) (fun _ _ _ h => h) (Or.inr ⟨by kernel_rfl, rfl⟩) hHeld ?_; (try simp only [Act.put, List.setIfInBounds_toArray, List.set]); refine Qr 24 (some 110) undef rfl rfl (by kernel_rfl) (by kernel_rfl) (by kernel_rfl) (fun _ _ _ h => h) (Or.inr ⟨by kernel_rfl, rfl⟩) hHeld ?_; (try simp only [Act.put, List.setIfInBounds_toArray, List.set]); refine Qr 25 (some 111) undef rfl rfl (by kernel_rfl) (by kernel_rfl) (by kernel_rfl) (fun _ _ _ h => h) (Or.inr ⟨by kernel_rfl, rfl⟩) hHeld ?_; (try simp only [Act.put, List.setIfInBounds_toArray, List.set]); refine Qr 26 (some 112) undef rfl rfl (by kernel_rfl) (by kernel_rfl) (by kernel_rfl) (fun _ _ _ h => h) (Or.inr ⟨by kernel_rfl, rfl⟩) hHeld ?_; (try simp only [Act.put, List.setIfInBounds_toArray, List.set]); refine Qr 27 (some 113) undef rfl rfl (by kernel_rfl) (by kernel_rfl) (by kernel_rfl) (fun _ _ _ h => h) (Or.inr ⟨by kernel_rfl, rfl⟩) hHeld ?_; (try simp only [Act.put, List.setIfInBounds_toArray, List.set]); refine Qr 28 (some 114) undef rfl rfl (by kernel_rfl) (by kernel_rfl) (by kernel_rfl) (fun _ _ _ h => h) (Or.inr ⟨by kernel_rfl, rfl⟩) hHeld ?_; (try simp only [Act.put, List.setIfInBounds_toArray, List.set]); refine Qr 29 (some 115) undef rfl rfl (by kernel_rfl) (by kernel_rfl) (by kernel_rfl) (fun _ _ _ h => h) (Or.inr ⟨by kernel_rfl, rfl⟩) hHeld ?_
            (try simp only [Act.put, List.setIfInBounds_toArray, List.set])
            refine Qr 30 (some 116) undef rfl rfl (by kernel_rfl) (by kernel_rfl) (by kernel_rfl) (fun _ _ _ h => h) (Or.inr ⟨by kernel_rfl, rfl⟩) hHeld ?_; (try simp only [Act.put, List.setIfInBounds_toArray, List.set]); refine Qr 31 (some 117) undef rfl rfl (by kernel_rfl) (by kernel_rfl) (by kernel_rfl) (fun _ _ _ h => h) (Or.inr ⟨by kernel_rfl, rfl⟩) hHeld ?_; (try simp only [Act.put, List.setIfInBounds_toArray, List.set]); refine tkq 32 (some 118) (.bool false) hHeld ?_; (try simp only [Act.put, List.setIfInBounds_toArray, List.set]); refine tkq 33 (some 119) (.bool false) hHeld ?_; (try simp only [Act.put, List.setIfInBounds_toArray, List.set]); refine wpAnyH_done (by kernel_rfl) ?_ _; refine NoPanic.normal ?_; have HF := Qb hHeld.2; clear hHeld; clear q1 g0; go_wp2; go_roundw
            case rel => exact ⟨1, by omega, by go_num, HN.out, HF.out⟩
            case measure => simp [intOf] <;> omega
          · have hjp : (0 : Int) < (j : Int) := by omega
            have hjpn : 0 < j := by omega
            obtain ⟨i, hi⟩ : ∃ i, i = j - 1 := ⟨_, rfl⟩; have hij : (j : Int) - 1 = (i : Int) := by omega
            have hin : (i : Int) < (n2 : Int) := by omega
            have hinn : i < n2 := by omega
            have hwi : IntKind.i64.wrap (i : Int) = (i : Int) := by first | exact Qtw i (by omega) | (rw [IntKind.wrap_i64]; omega)
            have g9 : ∀ x, Below w.heap.size w x -> _ := fun x hx => HPV.out x hx (by omega)
            obtain ⟨z, hz⟩ : ∃ z, z = (D.getD (j - 1) Di.zero).p := ⟨_, rfl⟩; have HLS : Hid (Qmv D j = z) := by show (if j = 0 then _ else _) = z; rw [if_neg hj0, hz]
            rw [<- hz, <- hi] at g9; have G9 := Qb g9; rw [HLS.out] at HST; clear hz hi hj0
            by_cases hle : y.p <= z
            · obtain rfl : q = false := by
                cases q
                · rfl
                · have h9 := (HQ.out.1 rfl).2; have h8 := HST.out.1 (Qiw h9 (by show j + 1 <= D.length; rw [<- HNN.out.2]; omega)); have := h8.1; omega
              go_wp2_with fail; refine wp_region_noPanic ?_; refine wp_region_held_drew (S := fun x => Qa x g 81 #[.int .i64 y.p, .int .u64 (y.r : Int)] /\ Rb w x b1 (taA (.slice a1 n1 c1) (.slice (some ⟨b, off, none⟩) n2 c2))) (by kernel_rfl) ⟨Qgj H5.out.1, H5.out.2.drewN 1⟩ (fun hHeld => ?_); generalize w5.drew = w6 at *; clear H5; refine tkq 0 (some 86) (.pointer (some ⟨g, 0, none⟩)) hHeld ?_; (try simp only [Act.put, List.setIfInBounds_toArray, List.set]); refine tkk 1 (some 87) (.int .i64 y.p) rfl rfl (by kernel_rfl) (by kernel_rfl) (fun x hSx => by have h1 := hSx.1.cell 0 (.int .i64 y.p) rfl; go_simp) hHeld ?_; (try simp only [Act.put, List.setIfInBounds_toArray, List.set]); refine tkq 2 (some 88) (.bool false) hHeld ?_; (try simp only [Act.put, List.setIfInBounds_toArray, List.set]); refine tkq 3 (some 89) (.bool false) hHeld ?_; (try simp only [Act.put, List.setIfInBounds_toArray, List.set]); refine tkq 4 (some 90) (.pointer (some ⟨g, 0, none⟩)) hHeld ?_; (try simp only [Act.put, List.setIfInBounds_toArray, List.set]); refine tkk 5 (some 91) (.int .i64 y.p) rfl rfl (by kernel_rfl) (by kernel_rfl) (fun x hSx => by have h1 := hSx.1.cell 0 (.int .i64 y.p) rfl; go_simp) hHeld ?_; (try simp only [Act.put, List.setIfInBounds_toArray, List.set]); refine tkq 6 (some 92) (.bool false) hHeld ?_; (try simp only [Act.put, List.setIfInBounds_toArray, List.set]); refine tkq 7 (some 93) (.bool false) hHeld ?_; (try simp only [Act.put, List.setIfInBounds_toArray, List.set]); refine tkq 8 (some 94) (.bool false) hHeld ?_; (try simp only [Act.put, List.setIfInBounds_toArray, List.set]); refine tkq 9 (some 95) (.pointer (some ⟨g, 1, none⟩)) hHeld ?_; (try simp only [Act.put, List.setIfInBounds_toArray, List.set]); refine tkk 10 (some 96) (.int .u64 (y.r : Int)) rfl rfl (by kernel_rfl) (by kernel_rfl) (fun x hSx => by have h1 := hSx.1.cell 1 (.int .u64 (y.r : Int)) rfl; go_simp) hHeld ?_; (try simp only [Act.put, List.setIfInBounds_toArray, List.set]); refine tkq 11 (some 97) (.bool false) hHeld ?_; (try simp only [Act.put, List.setIfInBounds_toArray, List.set]); refine tkq 12 (some 98) (.bool false) hHeld ?_; (try simp only [Act.put, List.setIfInBounds_toArray, List.set]); refine tkq 13 (some 99) (.bool false) hHeld ?_; (try simp only [Act.put, List.setIfInBounds_toArray, List.set]); refine tkq 14 (some 100) (.pointer (some ⟨g, 1, none⟩)) hHeld ?_; (try simp only [Act.put, List.setIfInBounds_toArray, List.set]); refine tkk 15 (some 101) (.int .u64 (y.r : Int)) rfl rfl (by kernel_rfl) (by kernel_rfl) (fun x hSx => by have h1 := hSx.1.cell 1 (.int .u64 (y.r : Int)) rfl; go_simp) hHeld ?_
              (try simp only [Act.put, List.setIfInBounds_toArray, List.set])
              refine tkq 16 (some 102) (.bool false) hHeld ?_; (try simp only [Act.put, List.setIfInBounds_toArray, List.set]); refine tkq 17 (some 103) (.bool false) hHeld ?_; (try simp only [Act.put, List.setIfInBounds_toArray, List.set]); refine tkq 18 (some 104) (.bool false) hHeld ?_; (try simp only [Act.put, List.setIfInBounds_toArray, List.set]); refine tkq 19 (some 105) (.int .i64 (j : Int)) hHeld ?_; (try simp only [Act.put, List.setIfInBounds_toArray, List.set]); refine tkq 20 (some 106) (.bool true) hHeld ?_; (try simp only [Act.put, List.setIfInBounds_toArray, List.set]); refine tkq 21 (some 107) (.bool true) hHeld ?_; (try simp only [Act.put, List.setIfInBounds_toArray, List.set]); refine tkq 22 (some 108) (.pointer (some ⟨b1, 1, none⟩)) hHeld ?_; (try simp only [Act.put, List.setIfInBounds_toArray, List.set]); refine tkk 23 (some 109) (.slice (some ⟨b, off, none⟩) n2 c2) rfl rfl (by kernel_rfl) (by kernel_rfl) (fun x hSx => by have h1 := hSx.2.a.cell 1 (.slice (some ⟨b, off, none⟩) n2 c2) rfl; go_simp) hHeld ?_; (try simp only [Act.put, List.setIfInBounds_toArray, List.set]); refine tkq 24 (some 110) (.int .i64 (j : Int)) hHeld ?_; (try simp only [Act.put, List.setIfInBounds_toArray, List.set]); refine tkq 25 (some 111) (.int .i64 (i : Int)) hHeld ?_; (try simp only [Act.put, List.setIfInBounds_toArray, List.set]); refine tkq 26 (some 112) (.pointer (some ⟨b, off + i * 2, none⟩)) hHeld ?_; (try simp only [Act.put, List.setIfInBounds_toArray, List.set]); refine tkq 27 (some 113) (.pointer (some ⟨b, off + i * 2, none⟩)) hHeld ?_; (try simp only [Act.put, List.setIfInBounds_toArray, List.set]); refine tkk 28 (some 114) (.int .i64 z) rfl rfl (by kernel_rfl) (by kernel_rfl) (fun x hSx => by have h1 := G9.out x hSx.2.bel; go_simp) hHeld ?_; (try simp only [Act.put, List.setIfInBounds_toArray, List.set]); refine tkq 29 (some 115) (.pointer (some ⟨g, 0, none⟩)) hHeld ?_; (try simp only [Act.put, List.setIfInBounds_toArray, List.set]); refine tkk 30 (some 116) (.int .i64 y.p) rfl rfl (by kernel_rfl) (by kernel_rfl) (fun x hSx => by have h1 := hSx.1.cell 0 (.int .i64 y.p) rfl; go_simp) hHeld ?_; (try simp only [Act.put, List.setIfInBounds_toArray, List.set]); refine tkq 31 (some 117) (.bool true) hHeld ?_; (try simp only [Act.put, List.setIfInBounds_toArray, List.set]); refine tkq 32 (some 118) (.bool true) hHeld ?_; (try simp only [Act.put, List.setIfInBounds_toArray, List.set]); refine tkq 33 (some 119) (.bool true) hHeld ?_; (try simp only [Act.put, List.setIfInBounds_toArray, List.set])
              refine wpAnyH_done (by kernel_rfl) ?_ _; refine NoPanic.normal ?_; have HF := Qb hHeld.2; clear hHeld; go_wp2; go_ret; exact ⟨rfl, HF.out.bel⟩
            · have HN := Qb (HST.out.2 ⟨by omega, HCN.out⟩); clear HST HLS; go_wp2_with fail; refine wp_region_noPanic ?_; refine wp_region_held_drew (S := fun x => Qa x g 81 #[.int .i64 y.p, .int .u64 (y.r : Int)] /\ Rb w x b1 (taA (.slice a1 n1 c1) (.slice (some ⟨b, off, none⟩) n2 c2))) (by kernel_rfl) ⟨Qgj H5.out.1, H5.out.2.drewN 1⟩ (fun hHeld => ?_); generalize w5.drew = w6 at *; clear H5; refine tkq 0 (some 86) (.pointer (some ⟨g, 0, none⟩)) hHeld ?_; (try simp only [Act.put, List.setIfInBounds_toArray, List.set]); refine tkk 1 (some 87) (.int .i64 y.p) rfl rfl (by kernel_rfl) (by kernel_rfl) (fun x hSx => by have h1 := hSx.1.cell 0 (.int .i64 y.p) rfl; go_simp) hHeld ?_; (try simp only [Act.put, List.setIfInBounds_toArray, List.set]); refine tkq 2 (some 88) (.bool false) hHeld ?_; (try simp only [Act.put, List.setIfInBounds_toArray, List.set]); refine tkq 3 (some 89) (.bool false) hHeld ?_; (try simp only [Act.put, List.setIfInBounds_toArray, List.set]); refine tkq 4 (some 90) (.pointer (some ⟨g, 0, none⟩)) hHeld ?_; (try simp only [Act.put, List.setIfInBounds_toArray, List.set]); refine tkk 5 (some 91) (.int .i64 y.p) rfl rfl (by kernel_rfl) (by kernel_rfl) (fun x hSx => by have h1 := hSx.1.cell 0 (.int .i64 y.p) rfl; go_simp) hHeld ?_; (try simp only [Act.put, List.setIfInBounds_toArray, List.set]); refine tkq 6 (some 92) (.bool false) hHeld ?_; (try simp only [Act.put, List.setIfInBounds_toArray, List.set]); refine tkq 7 (some 93) (.bool false) hHeld ?_; (try simp only [Act.put, List.setIfInBounds_toArray, List.set]); refine tkq 8 (some 94) (.bool false) hHeld ?_; (try simp only [Act.put, List.setIfInBounds_toArray, List.set]); refine tkq 9 (some 95) (.pointer (some ⟨g, 1, none⟩)) hHeld ?_; (try simp only [Act.put, List.setIfInBounds_toArray, List.set]); refine tkk 10 (some 96) (.int .u64 (y.r : Int)) rfl rfl (by kernel_rfl) (by kernel_rfl) (fun x hSx => by have h1 := hSx.1.cell 1 (.int .u64 (y.r : Int)) rfl; go_simp) hHeld ?_; (try simp only [Act.put, List.setIfInBounds_toArray, List.set]); refine tkq 11 (some 97) (.bool false) hHeld ?_; (try simp only [Act.put, List.setIfInBounds_toArray, List.set]); refine tkq 12 (some 98) (.bool false) hHeld ?_; (try simp only [Act.put, List.setIfInBounds_toArray, List.set]); refine tkq 13 (some 99) (.bool false) hHeld ?_; (try simp only [Act.put, List.setIfInBounds_toArray, List.set]); refine tkq 14 (some 100) (.pointer (some ⟨g, 1, none⟩)) hHeld ?_; (try simp only [Act.put, List.setIfInBounds_toArray, List.set])
              refine tkk 15 (some 101) (.int .u64 (y.r : Int)) rfl rfl (by kernel_rfl) (by kernel_rfl) (fun x hSx => by have h1 := hSx.1.cell 1 (.int .u64 (y.r : Int)) rfl; go_simp) hHeld ?_; (try simp only [Act.put, List.setIfInBounds_toArray, List.set]); refine tkq 16 (some 102) (.bool false) hHeld ?_; (try simp only [Act.put, List.setIfInBounds_toArray, List.set]); refine tkq 17 (some 103) (.bool false) hHeld ?_; (try simp only [Act.put, List.setIfInBounds_toArray, List.set]); refine tkq 18 (some 104) (.bool false) hHeld ?_; (try simp only [Act.put, List.setIfInBounds_toArray, List.set]); refine tkq 19 (some 105) (.int .i64 (j : Int)) hHeld ?_; (try simp only [Act.put, List.setIfInBounds_toArray, List.set]); refine tkq 20 (some 106) (.bool true) hHeld ?_; (try simp only [Act.put, List.setIfInBounds_toArray, List.set]); refine tkq 21 (some 107) (.bool true) hHeld ?_; (try simp only [Act.put, List.setIfInBounds_toArray, List.set]); refine tkq 22 (some 108) (.pointer (some ⟨b1, 1, none⟩)) hHeld ?_; (try simp only [Act.put, List.setIfInBounds_toArray, List.set]); refine tkk 23 (some 109) (.slice (some ⟨b, off, none⟩) n2 c2) rfl rfl (by kernel_rfl) (by kernel_rfl) (fun x hSx => by have h1 := hSx.2.a.cell 1 (.slice (some ⟨b, off, none⟩) n2 c2) rfl; go_simp) hHeld ?_; (try simp only [Act.put, List.setIfInBounds_toArray, List.set]); refine tkq 24 (some 110) (.int .i64 (j : Int)) hHeld ?_; (try simp only [Act.put, List.setIfInBounds_toArray, List.set]); refine tkq 25 (some 111) (.int .i64 (i : Int)) hHeld ?_; (try simp only [Act.put, List.setIfInBounds_toArray, List.set]); refine tkq 26 (some 112) (.pointer (some ⟨b, off + i * 2, none⟩)) hHeld ?_; (try simp only [Act.put, List.setIfInBounds_toArray, List.set]); refine tkq 27 (some 113) (.pointer (some ⟨b, off + i * 2, none⟩)) hHeld ?_; (try simp only [Act.put, List.setIfInBounds_toArray, List.set]); refine tkk 28 (some 114) (.int .i64 z) rfl rfl (by kernel_rfl) (by kernel_rfl) (fun x hSx => by have h1 := G9.out x hSx.2.bel; go_simp) hHeld ?_; (try simp only [Act.put, List.setIfInBounds_toArray, List.set]); refine tkq 29 (some 115) (.pointer (some ⟨g, 0, none⟩)) hHeld ?_; (try simp only [Act.put, List.setIfInBounds_toArray, List.set]); refine tkk 30 (some 116) (.int .i64 y.p) rfl rfl (by kernel_rfl) (by kernel_rfl) (fun x hSx => by have h1 := hSx.1.cell 0 (.int .i64 y.p) rfl; go_simp) hHeld ?_; (try simp only [Act.put, List.setIfInBounds_toArray, List.set]); refine tkq 31 (some 117) (.bool false) hHeld ?_; (try simp only [Act.put, List.setIfInBounds_toArray, List.set])
              refine tkq 32 (some 118) (.bool false) hHeld ?_; (try simp only [Act.put, List.setIfInBounds_toArray, List.set]); refine tkq 33 (some 119) (.bool false) hHeld ?_; (try simp only [Act.put, List.setIfInBounds_toArray, List.set]); refine wpAnyH_done (by kernel_rfl) ?_ _; refine NoPanic.normal ?_; have HF := Qb hHeld.2; clear hHeld; clear q1 g0 g9 hij; go_wp2; go_roundw
              case rel => exact ⟨j + 1, by omega, by go_num, HN.out, HF.out⟩
              case measure => simp [intOf] <;> omega
        · have i5 : ¬ (j : Int) < (n2 : Int) := by omega
          have hjl : j = n2 := by omega
          have HDD : Hid (okD D D.length) := by
            have h9 := HOK.out; rw [hjl, HNN.out.2] at h9; exact h9
          obtain rfl : q = true := HQ.out.2 ⟨HTT.out, HDD.out⟩; go_wp2; go_ret; exact ⟨rfl, HJ.out.bel⟩
theorem le_mxT : ∀ (l : List Tx) (n : Nat), n <= l.foldl (fun n x => max n x.l) n /\ ∀ x ∈ l, x.l <= l.foldl (fun n x => max n x.l) n
  | [], n => ⟨Nat.le_refl _, fun x hx => (nomatch hx)⟩
  | y :: l, n => by
    obtain ⟨h1, h2⟩ := le_mxT l (max n y.l); refine ⟨Nat.le_trans (Nat.le_max_left _ _) h1, fun x hx => ?_⟩
    rcases List.mem_cons.1 hx with rfl | hx
    · exact Nat.le_trans (Nat.le_max_right _ _) h1
    · exact h2 x hx
theorem le_mxD : ∀ (l : List Di) (n : Nat), n <= l.foldl (fun n x => max n x.r) n /\ ∀ x ∈ l, x.r <= l.foldl (fun n x => max n x.r) n
  | [], n => ⟨Nat.le_refl _, fun x hx => (nomatch hx)⟩
  | y :: l, n => by
    obtain ⟨h1, h2⟩ := le_mxD l (max n y.r); refine ⟨Nat.le_trans (Nat.le_max_left _ _) h1, fun x hx => ?_⟩
    rcases List.mem_cons.1 hx with rfl | hx
    · exact Nat.le_trans (Nat.le_max_right _ _) h1
    · exact h2 x hx
theorem mx_t {t : Ta} {x : Tx} (h : x ∈ t.1) : x.l <= mxA t := Nat.le_trans ((le_mxT t.1 0).2 x h) (le_mxD t.2 _).1
theorem mx_d {t : Ta} {x : Di} (h : x ∈ t.2) : x.r <= mxA t := (le_mxD t.2 _).2 x h
theorem mxT_lt {L : Nat} : ∀ (l : List Tx) (n : Nat), n <= L -> (∀ x ∈ l, x.l <= L) -> l.foldl (fun n x => max n x.l) n <= L
  | [], _, h, _ => h
  | x :: l, n, h, hx => mxT_lt l (max n x.l) (by have := hx x (by simp); omega) (fun y hy => hx y (List.mem_cons_of_mem _ hy))
theorem mxD_lt {L : Nat} : ∀ (l : List Di) (n : Nat), n <= L -> (∀ x ∈ l, x.r <= L) -> l.foldl (fun n x => max n x.r) n <= L
  | [], _, h, _ => h
  | x :: l, n, h, hx => mxD_lt l (max n x.r) (by have := hx x (by simp); omega) (fun y hy => hx y (List.mem_cons_of_mem _ hy))
theorem mx_below {t : Ta} {f : Nat} (h0 : 0 < f) (h1 : ∀ x ∈ t.1, x.l < f) (h2 : ∀ x ∈ t.2, x.r < f) : mxA t < f := by
  have h : mxA t <= f - 1 := mxD_lt _ _ (mxT_lt _ _ (Nat.zero_le _) (fun x hx => by have := h1 x hx; omega)) (fun x hx => by have := h2 x hx; omega); omega
structure Rmo (w wr : World) (b1 b4 : Nat) (ta : Array Value) : Prop where
  a : Qa wr b1 32 ta
  o : Qa wr b4 32 (taA (.slice none 0 0) (.slice none 0 0))
  lo : w.heap.size <= b4
  bel : Below w.heap.size w wr
theorem Rmo.later {w wr y : World} {b1 b4 : Nat} {ta : Array Value} (h : Rmo w wr b1 b4 ta) (hb : Below wr.heap.size wr y) : Rmo w y b1 b4 ta := ⟨h.a.later hb, h.o.later hb, h.lo, h.bel.trans (hb.mono h.bel.size)⟩
theorem Rmo.drewN {w wr : World} {b1 b4 : Nat} {ta : Array Value} (h : Rmo w wr b1 b4 ta) (k : Nat) : Rmo w (wr.drewN k) b1 b4 ta := ⟨h.a, h.o, h.lo, Qoc h.bel _⟩
theorem rmore16 (w : World) (vT vD : Value) (T : List Tx) (D : List Di) (u : Value) (ms : List (Rec × Value × Value)) (hT : Qxb w vT T) (hD : Qxc w vD D) (h1 : T.length <= 300) (h2 : D.length <= 300) (hl : LogIn w u ms) (hf : ms.length <= 300) :
    Calls Try.prog 16 #[.agg (taA vT vD), u] w (Qrw w (T, D) (msR ms)) := by
  obtain ⟨m1, m2, m3⟩ := Qtc w (taA vT vD) (taA (.slice none 0 0) (.slice none 0 0)) 32 32; obtain ⟨y, hy⟩ : ∃ y, y = (w.alloc (.cells (taA vT vD) 32)).alloc (.cells (taA (.slice none 0 0) (.slice none 0 0)) 32) := ⟨_, rfl⟩; rw [<- hy] at m1 m2 m3; obtain ⟨b1, hb1⟩ : ∃ b, b = w.heap.size := ⟨_, rfl⟩; obtain ⟨b4, hb4⟩ : ∃ b, b = w.heap.size + 1 := ⟨_, rfl⟩; rw [<- hb1] at m1; rw [<- hb4] at m2; have H0 : Hid (Rmo w y b1 b4 (taA vT vD)) := ⟨m1, m2, by omega, m3⟩; have HB := Qb (And.intro hb1 hb4); have HY := Qb hy
  obtain ⟨q, hq⟩ : ∃ q : Bool, q = true ↔ Qrv (T, D) := by
    classical
    exact ⟨decide (Qrv (T, D)), decide_eq_true_iff⟩
  have HCB := Qb (fun x (hb : Below w.heap.size w x) => rcan16 x vT vD T D (hT.below hb) (hD.below hb) (by omega) (by omega) q hq); have HGO := Qb (fun x (hb : Below w.heap.size w x) => Qyw u ms x (hl.below hb)); have HAL := Qb (fun x (hb : Below w.heap.size w x) (ok : TaOk (T, D) 300) (hr : ∀ r ∈ msR ms, (1 <= r.k /\ r.k <= 8) /\ 0 < r.l) => rall16 x vT vD T D u ms (hT.below hb) (hD.below hb) ok (hl.below hb) hf hr); have HL := Qb hl; have HI := Qb (And.intro hT hD); obtain ⟨au, cu, rfl, hcap⟩ := hl.slice; obtain ⟨ln, hln⟩ : ∃ k, k = ms.length := ⟨_, rfl⟩; rw [<- hln] at HGO HAL HL hf hcap |-; have HLN := Qb hln; obtain ⟨a1, c1, e1, _⟩ := id hT; obtain ⟨a2, c2, e2, _⟩ := id hD; obtain ⟨n1, hn1⟩ : ∃ n, n = T.length := ⟨_, rfl⟩; obtain ⟨n2, hn2⟩ : ∃ n, n = D.length := ⟨_, rfl⟩; rw [<- hn1] at e1 h1; rw [<- hn2] at e2 h2; have HNN := Qb (And.intro hn1 hn2); have HEE := Qb (And.intro e1 e2); obtain ⟨ta, hta⟩ : ∃ t, t = taA vT vD := ⟨_, rfl⟩; have htz : ta.size = 2 := by rw [hta]; rfl
  have hti : (Try.prog.info? 32).map (·.size) = some ta.size := by rw [htz]; exact Qda
  have HC : Hid (∀ x, Rmo w x b1 b4 ta -> x.cell? ⟨b1, 0, none⟩ = some (.slice a1 n1 c1) /\ x.cell? ⟨b1, 1, none⟩ = some (.slice a2 n2 c2)) := fun x h => by
    have h9 := h.a; rw [hta, e1, e2] at h9; exact ⟨h9.cell 0 _ rfl, h9.cell 1 _ rfl⟩
  rw [<- hta] at HY H0 HCB HAL |-; have HQ := Qb hq; clear m1 m2 m3 hy hb1 hb4 hq hl hT hD hta hln e1 e2 hn1 hn2
  cases q
  · have HNO : Hid (¬ Qrv (T, D)) := fun h => by have := HQ.out.2 h; cases this
    go_enter Try.func16, Try.ntmps16; unfold taA at HY; go_wp2_with (with_reducible refine Qxa 8 rfl ?_); rw [<- HY.out, <- HB.out.2, <- HB.out.1]; refine Qg ?_; clear HY; go_wp2_with (refine Qd rfl 32 (.tmp 2) rfl b1 rfl ta H0.out.a _ Try.underlying32 rfl hti ?_); refine (HCB.out y H0.out.bel).mono ?_; rintro e w1 ⟨rfl, hb⟩; have H1 := Qb (H0.out.later hb); clear hb H0 HCB; have c0 := H1.out.o.cell 0 _ rfl; have c1 := H1.out.o.cell 1 _ rfl; have f0 := H1.out.o.free 0; have f1 := H1.out.o.free 1; go_wp2; refine bodyPost_ret (Qyk rfl _ _ b4 (taA (.slice none 0 0) (.slice none 0 0)) _ rfl ((H1.out.o.set 0 (.slice none 0 0)).set 1 (.slice none 0 0)) Try.underlying32 rfl Qda) rfl ?_; have hbl := (H1.out.bel.setCell (p := ⟨b4, 0, none⟩) H1.out.lo (.slice none 0 0)).setCell (p := ⟨b4, 1, none⟩) H1.out.lo (.slice none 0 0); exact .inl ⟨HNO.out, _, _, rfl, nilT _, nilD _, hbl⟩
  · have HTO := Qb (HQ.out.1 rfl)
    by_cases hr : Qgf 0 (msR ms) = false
    · have HG := Qb hr; have HNO : Hid (¬ Qnv (T, D) (msR ms)) := fun h => by rw [(Qea _ _).2 h.1] at hr; cases hr
      clear hr; go_enter Try.func16, Try.ntmps16; unfold taA at HY; go_wp2_with (with_reducible refine Qxa 8 rfl ?_); rw [<- HY.out, <- HB.out.2, <- HB.out.1]; refine Qg ?_; clear HY; go_wp2_with (refine Qd rfl 32 (.tmp 2) rfl b1 rfl ta H0.out.a _ Try.underlying32 rfl hti ?_); refine (HCB.out y H0.out.bel).mono ?_; rintro e w1 ⟨rfl, hb⟩; have H1 := Qb (H0.out.later hb); clear hb H0 HCB; go_wp2_with fail; refine (HGO.out w1 H1.out.bel).mono ?_; rintro e w2 ⟨rfl, hb⟩; rw [HG.out]; have H2 := Qb (H1.out.later hb); clear hb H1 HGO; have c0 := H2.out.o.cell 0 _ rfl; have c1 := H2.out.o.cell 1 _ rfl; have f0 := H2.out.o.free 0; have f1 := H2.out.o.free 1; go_wp2; refine bodyPost_ret (Qyk rfl _ _ b4 (taA (.slice none 0 0) (.slice none 0 0)) _ rfl ((H2.out.o.set 0 (.slice none 0 0)).set 1 (.slice none 0 0)) Try.underlying32 rfl Qda) rfl ?_; have hbl := (H2.out.bel.setCell (p := ⟨b4, 0, none⟩) H2.out.lo (.slice none 0 0)).setCell (p := ⟨b4, 1, none⟩) H2.out.lo (.slice none 0 0); exact .inr (.inl ⟨HTO.out, HNO.out, _, _, rfl, nilT _, nilD _, hbl⟩)
    · have HG : Hid (Qgf 0 (msR ms) = true) := by
        cases h : Qgf 0 (msR ms)
        · exact absurd h hr
        · rfl
      have HRI := Qb ((Qea _ _).1 HG.out); clear hr; have HFP : Hid (0 < ln -> 0 < ((msR ms).getD 0 Rec.zero).l) := fun h => (Qww HRI.out _ (Qja _ _ _ (by rw [Qka, <- HLN.out]; exact h))).2
      obtain ⟨f, hfl⟩ : ∃ f, f = ((msR ms).getD 0 Rec.zero).l := ⟨_, rfl⟩; rw [<- hfl] at HFP; have HFL := Qb hfl; clear hfl; go_enter Try.func16, Try.ntmps16; unfold taA at HY; go_wp2_with (with_reducible refine Qxa 8 rfl ?_); rw [<- HY.out, <- HB.out.2, <- HB.out.1]; refine Qg ?_; clear HY; go_wp2_with (refine Qd rfl 32 (.tmp 2) rfl b1 rfl ta H0.out.a _ Try.underlying32 rfl hti ?_); refine (HCB.out y H0.out.bel).mono ?_; rintro e w1 ⟨rfl, hb⟩; have H1 := Qb (H0.out.later hb); clear hb H0 HCB; go_wp2_with fail; refine (HGO.out w1 H1.out.bel).mono ?_; rintro e w2 ⟨rfl, hb⟩; rw [HG.out]; have H2 := Qb (H1.out.later hb); clear hb H1 HGO; have q1 := (HC.out w2 H2.out).1; go_wp2; clear q1; go_loopw [19] (fun i wr => ∃ j : Nat, j <= n1 /\ i = .int .i64 (j : Int) /\ Hid ((∀ i, i < j -> 0 < ln -> (T.getD i Tx.zero).l < f) /\ Rmo w wr b1 b4 ta)) (fun i _ => n1 - (intOf i).toNat)
      case atStart => exact ⟨0, Nat.zero_le _, rfl, fun i hi => absurd hi (by omega), H2.out⟩
      case round =>
        obtain ⟨j, hj, rfl, HJ0⟩ := hrel; have HJ := Qb HJ0.out.2; have HOK := Qb HJ0.out.1; clear HJ0
        by_cases hlt : j < n1
        · have i5 : (j : Int) < (n1 : Int) := by omega
          have hjT : j < T.length := by rw [<- HNN.out.1]; exact hlt
          obtain ⟨b, off, c, hv, _, hrx⟩ := HI.out.1.mid hjT; rw [HEE.out.1, <- HNN.out.1] at hv; injection hv with p1 p2 p3; have HRX := Qb hrx; obtain ⟨z, hz⟩ : ∃ z, z = (T.getD j Tx.zero).l := ⟨_, rfl⟩; have HZ := Qb (And.intro hz (Qja T j Tx.zero hjT)); have q1 := (HC.out wr HJ.out).1; rw [p1] at q1
          have g9 : wr.cell? ⟨b, off + j * 5 + 3, none⟩ = some (.int .u64 (z : Int)) := by
            rw [hz]; exact HRX.out wr HJ.out.bel 3 _ rfl
          clear hjT hrx p2 p3 hz
          by_cases h0 : ln = 0
          · have hl1 : ¬ (0 : Int) < (ln : Int) := by omega
            have hl2 : ¬ 0 < ln := by omega
            have HN : Hid (∀ i, i < j + 1 -> 0 < ln -> (T.getD i Tx.zero).l < f) := fun i _ h => absurd h (by omega)
            clear p1 h0; go_wp2_with fail; go_quiet (fail); have HF := Qb (HJ.out.drewN nq); go_wp2; go_roundw
            case rel => exact ⟨j + 1, by omega, by go_num, HN.out, HF.out⟩
            case measure => simp [intOf] <;> omega
          · have hl1 : (0 : Int) < (ln : Int) := by omega
            have hl2 : 0 < ln := by omega
            obtain ⟨b', off', e', _, hle, hx⟩ := HL.out.mid (show 0 < ms.length by rw [<- HLN.out]; omega)
            have k1 : wr.cell? ⟨b', off' + 1, none⟩ = some (.int .u64 (f : Int)) := by
              rw [HFL.out, <- hle]; exact (hx wr HJ.out.bel).1 1 _ rfl
            subst p1; subst e'; clear hle hx
            by_cases hc : (f : Int) <= (z : Int)
            · have hcn : f <= z := by omega
              have HNO : Hid (¬ Qnv (T, D) (msR ms)) := fun h => by
                have h9 := h.2 (by rw [Qka, <- HLN.out]; omega); rw [<- HFL.out] at h9; have h8 := mx_t (t := (T, D)) HZ.out.2; rw [<- HZ.out.1] at h8; omega
              go_wp2_with fail; go_quiet (fail); have HF := Qb (HJ.out.drewN nq); generalize wr.drewN nq = z9 at *; clear HJ g9 k1 q1; have c0 := HF.out.o.cell 0 _ rfl; have c1 := HF.out.o.cell 1 _ rfl; have f0 := HF.out.o.free 0; have f1 := HF.out.o.free 1; go_wp2; refine bodyPost_ret (Qyk rfl _ _ b4 (taA (.slice none 0 0) (.slice none 0 0)) _ rfl ((HF.out.o.set 0 (.slice none 0 0)).set 1 (.slice none 0 0)) Try.underlying32 rfl Qda) rfl ?_; have hbl := (HF.out.bel.setCell (p := ⟨b4, 0, none⟩) HF.out.lo (.slice none 0 0)).setCell (p := ⟨b4, 1, none⟩) HF.out.lo (.slice none 0 0); exact .inr (.inl ⟨HTO.out, HNO.out, _, _, rfl, nilT _, nilD _, hbl⟩)
            · have hcn : ¬ f <= z := by omega
              have HN : Hid (∀ i, i < j + 1 -> 0 < ln -> (T.getD i Tx.zero).l < f) := fun i hi h => by
                by_cases e : i = j
                · rw [e, <- HZ.out.1]; omega
                · exact HOK.out i (by omega) h
              go_wp2_with fail; go_quiet (fail); have HF := Qb (HJ.out.drewN nq); go_wp2; go_roundw
              case rel => exact ⟨j + 1, by omega, by go_num, HN.out, HF.out⟩
              case measure => simp [intOf] <;> omega
        · have i5 : ¬ (j : Int) < (n1 : Int) := by omega
          have hjl : j = n1 := by omega
          have HALLT : Hid (0 < ln -> ∀ x ∈ T, x.l < f) := fun h x hx => by
            obtain ⟨i, hi, rfl⟩ := List.getElem_of_mem hx; have h9 := HOK.out i (by rw [hjl, HNN.out.1]; exact hi) h; rwa [List.getD_eq_getElem?_getD, List.getElem?_eq_getElem hi] at h9
          clear HOK hjl; have q1 := (HC.out wr HJ.out).2; go_wp2; clear q1; go_loopw [43] (fun i wr => ∃ j : Nat, j <= n2 /\ i = .int .i64 (j : Int) /\ Hid ((∀ i, i < j -> 0 < ln -> (D.getD i Di.zero).r < f) /\ Rmo w wr b1 b4 ta)) (fun i _ => n2 - (intOf i).toNat)
          case atStart => exact ⟨0, Nat.zero_le _, rfl, fun i hi => absurd hi (by omega), HJ.out⟩
          case round =>
            obtain ⟨j, hj, rfl, HJ0⟩ := hrel; have HJ := Qb HJ0.out.2; have HOK := Qb HJ0.out.1; clear HJ0
            by_cases hlt : j < n2
            · have i5 : (j : Int) < (n2 : Int) := by omega
              have hjT : j < D.length := by rw [<- HNN.out.2]; exact hlt
              obtain ⟨b, off, c, hv, _, hrx⟩ := HI.out.2.mid hjT; rw [HEE.out.2, <- HNN.out.2] at hv; injection hv with p1 p2 p3; have HRX := Qb hrx; obtain ⟨z, hz⟩ : ∃ z, z = (D.getD j Di.zero).r := ⟨_, rfl⟩; have HZ := Qb (And.intro hz (Qja D j Di.zero hjT)); have q1 := (HC.out wr HJ.out).2; rw [p1] at q1
              have g9 : wr.cell? ⟨b, off + j * 2 + 1, none⟩ = some (.int .u64 (z : Int)) := by
                rw [hz]; exact HRX.out wr HJ.out.bel 1 _ rfl
              clear hjT hrx p2 p3 hz
              by_cases h0 : ln = 0
              · have hl1 : ¬ (0 : Int) < (ln : Int) := by omega
                have hl2 : ¬ 0 < ln := by omega
                have HN : Hid (∀ i, i < j + 1 -> 0 < ln -> (D.getD i Di.zero).r < f) := fun i _ h => absurd h (by omega)
                clear p1 h0; go_wp2_with fail; go_quiet (fail); have HF := Qb (HJ.out.drewN nq); go_wp2; go_roundw
                case rel => exact ⟨j + 1, by omega, by go_num, HN.out, HF.out⟩
                case measure => simp [intOf] <;> omega
              · have hl1 : (0 : Int) < (ln : Int) := by omega
                have hl2 : 0 < ln := by omega
                obtain ⟨b', off', e', _, hle, hx⟩ := HL.out.mid (show 0 < ms.length by rw [<- HLN.out]; omega)
                have k1 : wr.cell? ⟨b', off' + 1, none⟩ = some (.int .u64 (f : Int)) := by
                  rw [HFL.out, <- hle]; exact (hx wr HJ.out.bel).1 1 _ rfl
                subst p1; subst e'; clear hle hx
                by_cases hc : (f : Int) <= (z : Int)
                · have hcn : f <= z := by omega
                  have HNO : Hid (¬ Qnv (T, D) (msR ms)) := fun h => by
                    have h9 := h.2 (by rw [Qka, <- HLN.out]; omega); rw [<- HFL.out] at h9; have h8 := mx_d (t := (T, D)) HZ.out.2; rw [<- HZ.out.1] at h8; omega
                  go_wp2_with fail; go_quiet (fail); have HF := Qb (HJ.out.drewN nq); generalize wr.drewN nq = z9 at *; clear HJ g9 k1 q1; have c0 := HF.out.o.cell 0 _ rfl; have c1 := HF.out.o.cell 1 _ rfl; have f0 := HF.out.o.free 0; have f1 := HF.out.o.free 1; go_wp2; refine bodyPost_ret (Qyk rfl _ _ b4 (taA (.slice none 0 0) (.slice none 0 0)) _ rfl ((HF.out.o.set 0 (.slice none 0 0)).set 1 (.slice none 0 0)) Try.underlying32 rfl Qda) rfl ?_; have hbl := (HF.out.bel.setCell (p := ⟨b4, 0, none⟩) HF.out.lo (.slice none 0 0)).setCell (p := ⟨b4, 1, none⟩) HF.out.lo (.slice none 0 0); exact .inr (.inl ⟨HTO.out, HNO.out, _, _, rfl, nilT _, nilD _, hbl⟩)
                · have hcn : ¬ f <= z := by omega
                  have HN : Hid (∀ i, i < j + 1 -> 0 < ln -> (D.getD i Di.zero).r < f) := fun i hi h => by
                    by_cases e : i = j
                    · rw [e, <- HZ.out.1]; omega
                    · exact HOK.out i (by omega) h
                  go_wp2_with fail; go_quiet (fail); have HF := Qb (HJ.out.drewN nq); go_wp2; go_roundw
                  case rel => exact ⟨j + 1, by omega, by go_num, HN.out, HF.out⟩
                  case measure => simp [intOf] <;> omega
            · have i5 : ¬ (j : Int) < (n2 : Int) := by omega
              have hjl : j = n2 := by omega
              have HALLD : Hid (0 < ln -> ∀ x ∈ D, x.r < f) := fun h x hx => by
                obtain ⟨i, hi, rfl⟩ := List.getElem_of_mem hx; have h9 := HOK.out i (by rw [hjl, HNN.out.2]; exact hi) h; rwa [List.getD_eq_getElem?_getD, List.getElem?_eq_getElem hi] at h9
              clear HOK hjl
              have HYES : Hid (Qnv (T, D) (msR ms)) := ⟨HRI.out, fun h => by
                rw [Qka, <- HLN.out] at h; rw [<- HFL.out]
                exact mx_below (HFP.out h) (HALLT.out h) (HALLD.out h)⟩
              have HTA := Qb (HAL.out wr HJ.out.bel (Qew HTO.out (by rw [<- HNN.out.1]; exact h1) (by rw [<- HNN.out.2]; exact h2)) (Qww HRI.out)); clear HAL HALLT HALLD; go_wp2_with (refine Qd rfl 32 (.tmp 2) rfl b1 rfl ta HJ.out.a _ Try.underlying32 rfl hti ?_); refine HTA.out.mono ?_; rintro e w5 ⟨u1, u2, rfl, hx1, hx2, hb5⟩; have H5 := Qb (HJ.out.later hb5); obtain ⟨R, hR⟩ : ∃ R, R = Qha (T, D) (msR ms) := ⟨_, rfl⟩; rw [<- hR] at hx1 hx2; have HV := Qb (And.intro hx1 hx2); have HRR := Qb hR; obtain ⟨tb, htb⟩ : ∃ t, t = taA u1 u2 := ⟨_, rfl⟩; have hbz : tb.size = 2 := by rw [htb]; rfl
              have hbi : (Try.prog.info? 32).map (·.size) = some tb.size := by rw [hbz]; exact Qda
              have hbo : tb.all (·.oneCell') = true := by
                obtain ⟨x1, x2, g1, _⟩ := hx1; obtain ⟨x3, x4, g2, _⟩ := hx2; rw [htb, g1, g2]; simp [taA, Value.oneCell']
              have HTB := Qb htb; rw [<- htb]; clear htb hx1 hx2 hR HTA HJ hb5; go_wp2_with (refine Ql rfl 32 (.tmp 4) (.tmp 66) rfl b4 0 32 (taA (.slice none 0 0) (.slice none 0 0)) tb rfl rfl H5.out.o hbi (by rw [hbz]; exact Nat.le_refl 2) hbo ?_; intro w6 hr6 ho6; refine Qpa ?_); rw [Qn _ tb (by rw [hbz]; rfl)] at hr6; have HF : Hid (Qa w6 b4 32 tb /\ Qxb w6 u1 R.1 /\ Qxc w6 u2 R.2 /\ Below w.heap.size w w6) := ⟨hr6, Qsa HV.out.1 H5.out.o ho6.block ho6.size, Qnd HV.out.2 H5.out.o ho6.block ho6.size, ho6.below H5.out.bel H5.out.lo⟩; clear hr6 ho6 H5 HV; refine Qg ?_; go_wp2; refine bodyPost_ret (Qyk rfl _ _ b4 tb _ rfl HF.out.1 Try.underlying32 rfl hbi) rfl ?_; exact .inr (.inr ⟨HTO.out, HYES.out, _, _, by rw [HTB.out]; rfl, by rw [<- HRR.out]; exact HF.out.2.1, by rw [<- HRR.out]; exact HF.out.2.2.1, HF.out.2.2.2⟩)
def losB (x : Tx) : Bool := decide (x.s ≠ 3)
def Qpw (l : List Tx) : List Tx := l.filter losB
theorem Qqw {l : List Tx} {j : Nat} (hj : j < l.length) : Qpw (l.take (j + 1)) = Qpw (l.take j) ++ (if losB (l.getD j Tx.zero) = true then [l.getD j Tx.zero] else []) := by
  unfold Qpw; rw [List.take_succ_eq_append_getElem hj, List.filter_append, List.getD_eq_getElem?_getD, List.getElem?_eq_getElem hj]; show _ ++ List.filter _ [l[j]] = _ ++ (if losB (l[j]) = true then [l[j]] else [])
  by_cases h : losB (l[j]) = true
  · rw [if_pos h]; simp [h]
  · rw [if_neg h]; simp [h]
theorem losers16 (w : World) (vT vD : Value) (T : List Tx) (D : List Di) (hT : Qxb w vT T) (hD : Qxc w vD D) (h1 : T.length <= 900) :
    Calls Try.prog 17 #[.agg (taA vT vD)] w fun e w' => ∃ v', e = .returned v' /\ OwT w' w.heap.size v' (Qpw T) /\ Below w.heap.size w w' := by
  obtain ⟨a1, c1, rfl, _⟩ := id hT; obtain ⟨a2, c2, rfl, _⟩ := id hD; have HI := Qb hT; obtain ⟨n1, hn1⟩ : ∃ n, n = T.length := ⟨_, rfl⟩; obtain ⟨n2, hn2⟩ : ∃ n, n = D.length := ⟨_, rfl⟩; have HNN := Qb hn1; rw [<- hn1] at HI h1 |-; rw [<- hn2]; obtain ⟨y, hy⟩ : ∃ y, y = w.alloc (.cells (taA (.slice a1 n1 c1) (.slice a2 n2 c2)) 28) := ⟨_, rfl⟩; have m2 : Below w.heap.size w y := by rw [hy]; exact (Below.refl _ _).alloc (Nat.le_refl _) _
  have m1 : Qa y w.heap.size 28 (taA (.slice a1 n1 c1) (.slice a2 n2 c2)) := by rw [hy]; exact Qa.new w _ _
  obtain ⟨b1, hb1⟩ : ∃ b, b = w.heap.size := ⟨_, rfl⟩; rw [<- hb1] at m1; have HY := Qb hy; have HB := Qb hb1; obtain ⟨B, hB⟩ : ∃ B, B = w.heap.size := ⟨_, rfl⟩; have HBB := Qb hB; have H0 : Hid (OwT y B (.slice none 0 0) (Qpw (T.take 0)) /\ Below w.heap.size w y) := ⟨World.ownsRow_nil _ _ _ _, m2⟩; have q1 := m1.cell 0 (.slice a1 n1 c1) rfl; clear hT hD hn1 hn2 hy m1 m2 hb1 hB; go_enter Try.func17, Try.ntmps17; go_wp2_with (with_reducible refine Qxa 7 rfl ?_); rw [<- HY.out, <- HB.out]; refine Qg ?_; clear HY; go_wp2; clear q1; go_loopw [3, 9] (fun vo i wr => ∃ j : Nat, j <= n1 /\ i = .int .i64 (j : Int) /\ Hid (OwT wr B vo (Qpw (T.take j)) /\ Below w.heap.size w wr)) (fun _ i _ => n1 - (intOf i).toNat)
  case atStart => exact ⟨0, Nat.zero_le _, rfl, H0⟩
  case round =>
    obtain ⟨j, hj, rfl, HJ⟩ := hrel; clear H0; obtain ⟨ao, co, hvo, _, _⟩ := Qhh HJ.out.1; subst hvo
    by_cases hlt : j < n1
    · have i5 : (j : Int) < (n1 : Int) := by omega
      have hjT : j < T.length := by rw [<- HNN.out]; exact hlt
      have HNX := Qb (Qqw hjT)
      have hO : (Qpw (T.take j)).length <= 1000 := by
        have h1 : (Qpw (T.take j)).length <= (T.take j).length := List.length_filter_le _ _; rw [List.length_take] at h1; omega
      obtain ⟨b, off, c, hv, _, hrx⟩ := HI.out.mid hjT; injection hv with p1 p2 p3; have HLD0 := Qb (Qff wr b _ (T.getD j Tx.zero) (hrx wr HJ.out.2)); obtain ⟨O, hOO⟩ : ∃ O, O = Qpw (T.take j) := ⟨_, rfl⟩; obtain ⟨y, hyy⟩ : ∃ y, y = T.getD j Tx.zero := ⟨_, rfl⟩; rw [<- hOO] at HJ HNX hO |-; rw [<- hyy] at HLD0 HNX; have HLD : Hid ((Instr.loadAt 42 (.pointer (some ⟨b, off + j * 5, none⟩))).run Try.prog wr = .ok (.agg #[.int .i64 y.t, .int .i64 y.s, .int .u64 (y.f : Int), .int .u64 (y.l : Int), .int .u64 (y.n : Int)]) wr) := HLD0.out; clear hjT hrx p2 p3 hyy HLD0 hOO; subst p1; go_wp2_with (first | (refine Qt rfl 42 (.tmp 11) rfl _ (.agg #[.int .i64 y.t, .int .i64 y.s, .int .u64 (y.f : Int), .int .u64 (y.l : Int), .int .u64 (y.n : Int)]) rfl HLD.out ?_) | (refine Ql rfl 42 (.tmp 5) (.tmp 12) rfl wr.heap.size 0 42 (txA Tx.zero) #[.int .i64 y.t, .int .i64 y.s, .int .u64 (y.f : Int), .int .u64 (y.l : Int), .int .u64 (y.n : Int)] rfl rfl (Qa.new wr _ _) Qdc (Nat.le_refl 5) (by simp [Value.oneCell']) ?_; intro w5 hr5 ho5; refine Qpa ?_)); rw [Qn (txA Tx.zero) #[.int .i64 y.t, .int .i64 y.s, .int .u64 (y.f : Int), .int .u64 (y.l : Int), .int .u64 (y.n : Int)] rfl] at hr5; have hal : Below wr.heap.size wr (wr.alloc (.cells (txA Tx.zero) 42)) := (Below.refl _ _).alloc (Nat.le_refl _) _; have hb5 := ho5.below hal (Nat.le_refl _); have H5 : Hid (Qa w5 wr.heap.size 42 #[.int .i64 y.t, .int .i64 y.s, .int .u64 (y.f : Int), .int .u64 (y.l : Int), .int .u64 (y.n : Int)] /\ OwT w5 B (.slice ao O.length co) O /\ Below w.heap.size w w5) := ⟨hr5, Qob HJ.out.1 hb5, HJ.out.2.trans (hb5.mono HJ.out.2.size)⟩; obtain ⟨g, hg⟩ : ∃ g, g = wr.heap.size := ⟨_, rfl⟩; rw [<- hg] at H5 |-; clear hr5 ho5 hal hb5 hg HLD HJ; refine Qg ?_; have g1 : w5.cell? ⟨g, 1, none⟩ = some (.int .i64 y.s) := H5.out.1.cell 1 _ rfl
      by_cases hs : y.s = 3
      · have HN : Hid (Qpw (T.take (j + 1)) = O) := by
          show _ = _; rw [HNX.out, if_neg (by unfold losB; simp [hs]), List.append_nil]
        rw [hs] at g1; clear hs HNX; go_wp2; go_roundw
        case rel => exact ⟨j + 1, by omega, by go_num, by rw [HN.out]; exact H5.out.2⟩
        case measure => simp [intOf] <;> omega
      · have e1 : (y.s == 3) = false := by rw [beq_eq_false_iff_ne]; exact hs
        have e2 : (y.s != 3) = true := by rw [bne, e1]; rfl
        have HN : Hid (Qpw (T.take (j + 1)) = O ++ [y]) := by
          show _ = _; rw [HNX.out, if_pos (by unfold losB; simp [hs])]
        clear hs HNX; have hbB : B <= w5.heap.size := by rw [HBB.out]; exact H5.out.2.2.size
        go_wp2_with (first | (refine Qd rfl 42 (.tmp 5) rfl g rfl #[.int .i64 y.t, .int .i64 y.s, .int .u64 (y.f : Int), .int .u64 (y.l : Int), .int .u64 (y.n : Int)] H5.out.1 _ Try.underlying42 rfl Qdc ?_) | (refine Qu _ 25 42 5 40 (.agg #[.int .i64 0, .int .i64 0, .int .u64 0, .int .u64 0, .int .u64 0]) Try.underlying25 Qci rfl (by decide) (by decide) rfl (.tmp 16) (.tmp 18) rfl B (.slice ao O.length co) O.length (flT O) rfl (Qob H5.out.2.1 ((Below.refl w5.heap.size w5).alloc (Nat.le_refl _) _)) w5.heap.size #[.int .i64 y.t, .int .i64 y.s, .int .u64 (y.f : Int), .int .u64 (y.l : Int), .int .u64 (y.n : Int)] rfl (Qa.new w5 42 #[.int .i64 y.t, .int .i64 y.s, .int .u64 (y.f : Int), .int .u64 (y.l : Int), .int .u64 (y.n : Int)]) rfl (by simp [Value.oneCell']) hO (Nat.le_trans hbB (by simp)) ?_; intro v' w7 ho7 hg7; refine Qpa ?_))
        have H7 : Hid (OwT w7 B v' (Qpw (T.take (j + 1))) /\ Below w.heap.size w w7) := by
          rw [HN.out]; refine ⟨Qbx (x := y) ho7, Qhs (Qob H5.out.2.1 ((Below.refl w5.heap.size w5).alloc (Nat.le_refl _) _)) (by rw [HBB.out]; exact Nat.le_refl _) (H5.out.2.2.trans (((Below.refl w5.heap.size w5).alloc (Nat.le_refl _) _).mono H5.out.2.2.size)) (by simp; have := H5.out.2.2.size; omega) hg7⟩
        clear ho7 hg7 H5 g1; refine Qg ?_; go_wp2; go_roundw
        case rel => exact ⟨j + 1, by omega, by go_num, H7⟩
        case measure => simp [intOf] <;> omega
    · have i5 : ¬ (j : Int) < (n1 : Int) := by omega
      have HE : Hid (OwT wr w.heap.size (.slice ao (Qpw (T.take j)).length co) (Qpw T) /\ Below w.heap.size w wr) := by
        have h := HJ.out; have e : T.take j = T := List.take_of_length_le (by rw [<- HNN.out]; omega); rw [e, HBB.out] at h; rw [e]; exact h
      clear HJ; go_wp2; go_ret; exact ⟨_, rfl, HE.out.1, HE.out.2⟩
def ckR (b : Nat) (t : Ta) : Rec := ⟨8, 0, 0, 0, Ch.zero, 0, 0, b, t.1, t.2⟩
theorem check16 (w : World) (vT vD : Value) (T : List Tx) (D : List Di) (bg : Nat) (hT : Qxb w vT T) (hD : Qxc w vD D) (h1 : T.length <= 10000) (h2 : D.length <= 10000) :
    Calls Try.prog 18 #[.agg (taA vT vD), .int .u64 (bg : Int)] w fun e w' => ∃ s1 s2, e = .returned (.agg (rcF (ckR bg (T, D), slV s1 T.length, slV s2 D.length))) /\ TaAt w w' s1 s2 T D := by
  obtain ⟨n1, n2, n3⟩ := Qtc w (taA vT vD) Qvc 28 46; obtain ⟨y, hy⟩ : ∃ y, y = (w.alloc (.cells (taA vT vD) 28)).alloc (.cells Qvc 46) := ⟨_, rfl⟩; rw [<- hy] at n1 n2 n3; obtain ⟨b0, hb0⟩ : ∃ b, b = w.heap.size := ⟨_, rfl⟩; obtain ⟨b1, hb1⟩ : ∃ b, b = w.heap.size + 1 := ⟨_, rfl⟩; rw [<- hb0] at n1; rw [<- hb1] at n2; have HOW := Qb (own16 y vT vD T D (hT.below n3) (hD.below n3) h1 h2); have H0 : Hid (Qa y b0 28 (taA vT vD) /\ Qa y b1 46 Qvc /\ Below w.heap.size w y) := ⟨n1, n2, n3⟩; have HB := Qb (And.intro hb0 hb1); have HY := Qb hy
  have hone : (taA vT vD).all (·.oneCell') = true := by
    obtain ⟨a1, c1, e1, _⟩ := hT; obtain ⟨a2, c2, e2, _⟩ := hD; rw [e1, e2]; simp [taA, Value.oneCell']
  clear n1 n2 n3 hy hb0 hb1 hT hD h1 h2; obtain ⟨tb, htb⟩ : ∃ t, t = taA vT vD := ⟨_, rfl⟩; have htz : tb.size = 2 := by rw [htb]; rfl
  rw [<- htb] at HY H0 HOW hone |-; have hinf : (Try.prog.info? 28).map (·.size) = some tb.size := by rw [htz]; exact Qde
  clear htb; go_enter Try.func18, Try.ntmps18; unfold Qvc at HY; go_wp2_with (with_reducible refine Qxa 6 rfl ?_); rw [<- HY.out, <- HB.out.2, <- HB.out.1]; refine Qg ?_; go_wp2_with (refine Qd rfl 28 (.tmp 2) rfl b0 rfl tb H0.out.1 _ Try.underlying28 rfl hinf ?_); refine HOW.out.mono ?_; rintro e w1 ⟨s1, s2, rfl, hta⟩; have H1 := Qb (And.intro (H0.out.2.1.later hta.bel) (H0.out.2.2.trans (hta.bel.mono H0.out.2.2.size))); have HS := Qb H0.out.2.2.size; have HT1 := Qb hta; clear hta HOW H0 HY; obtain ⟨ra, hra⟩ : ∃ t, t = taA (slV s1 T.length) (slV s2 D.length) := ⟨_, rfl⟩; have hrz : ra.size = 2 := by rw [hra]; rfl
  have hro : ra.all (·.oneCell') = true := by rw [hra]; simp [taA, slV, Value.oneCell']
  have hrj : (Try.prog.info? 28).map (·.size) = some ra.size := by rw [hrz]; exact Qde
  rw [<- hra]; have HRA := Qb hra; clear hra; go_wp2_with (refine Qh rfl 28 (.tmp 5) (.tmp 7) rfl w1.heap.size #[.slice none 0 0, .slice none 0 0] ra rfl rfl (Qa.new w1 _ _) hrj (by rw [hrz]; rfl) hro ?_; intro w5 hr5 hk5 hrow5; refine Qpa ?_); have hb5 : Below w1.heap.size w1 w5 := hk5 _ w1 ((Below.refl _ _).alloc (Nat.le_refl _) _) (Nat.le_refl _); have H5 : Hid (Qa w5 b1 46 Qvc /\ Below w.heap.size w w5 /\ RT w5 s1 T /\ RD w5 s2 D) := ⟨H1.out.1.later hb5, H1.out.2.trans (hb5.mono H1.out.2.size), HT1.out.t.later hb5, HT1.out.d.later hb5⟩; rw [HRA.out] at hr5; obtain ⟨a1, l1, c1, e1⟩ : ∃ a l c, slV s1 T.length = .slice a l c := ⟨_, _, _, rfl⟩; obtain ⟨a2, l2, c2, e2⟩ : ∃ a l c, slV s2 D.length = .slice a l c := ⟨_, _, _, rfl⟩; unfold taA at hr5; rw [e1, e2] at hr5; have HE := Qb (And.intro e1 e2); have k0 := hr5.cell 0 (.slice a1 l1 c1) rfl; have k1 := hr5.cell 1 (.slice a2 l2 c2) rfl; have HRA2 := Qb HRA.out; clear hr5 hk5 hrow5 hb5 H1 e1 e2 HRA; generalize w1.heap.size = b5 at *; refine Qg ?_; go_wp2_with (with_reducible refine Qxa 12 rfl ?_); refine Qg ?_; refine Qsw (some 12) (.slice a2 l2 c2) rfl rfl (by go_simp) ?_; (try simp only [Act.put, List.setIfInBounds_toArray, List.set]); refine Qsw (some 13) (.agg #[.int .i64 8, .int .u64 0, .int .i64 0, .int .u64 0, .int .i64 0, .int .i64 0, .int .i64 0, .string ⟨#[]⟩, .string ⟨#[]⟩, .int .u64 0, .int .i64 0, .int .u64 (bg : Int), .slice a1 l1 c1, .slice a2 l2 c2]) rfl rfl ?hv ?_; (case hv => first | go_simp | kernel_rfl | rfl); (try simp only [Act.put, List.setIfInBounds_toArray, List.set]); refine Ql rfl 46 (.tmp 4) (.tmp 13) rfl b1 0 46 Qvc #[.int .i64 8, .int .u64 0, .int .i64 0, .int .u64 0, .int .i64 0, .int .i64 0, .int .i64 0, .string ⟨#[]⟩, .string ⟨#[]⟩, .int .u64 0, .int .i64 0, .int .u64 (bg : Int), .slice a1 l1 c1, .slice a2 l2 c2] rfl rfl H5.out.1 Qaa (by simp [Qvc]) (by simp [Value.oneCell']) ?_; intro w6 h6 hO6; rw [Qn Qvc #[.int .i64 8, .int .u64 0, .int .i64 0, .int .u64 0, .int .i64 0, .int .i64 0, .int .i64 0, .string ⟨#[]⟩, .string ⟨#[]⟩, .int .u64 0, .int .i64 0, .int .u64 (bg : Int), .slice a1 l1 c1, .slice a2 l2 c2] (by simp [Qvc])] at h6; have h0 : w.heap.size <= b1 := by have := HB.out.2; omega
  have HF : Hid (Qa w6 b1 46 #[.int .i64 8, .int .u64 0, .int .i64 0, .int .u64 0, .int .i64 0, .int .i64 0, .int .i64 0, .string ⟨#[]⟩, .string ⟨#[]⟩, .int .u64 0, .int .i64 0, .int .u64 (bg : Int), .slice a1 l1 c1, .slice a2 l2 c2] /\ TaAt w w6 s1 s2 T D) := by
    refine ⟨h6, H5.out.2.2.1.keep (fun b hb => hO6.block b (fun e => ?_)), H5.out.2.2.2.keep (fun b hb => hO6.block b (fun e => ?_)), fun b hb => Nat.le_trans HS.out (HT1.out.n1 b hb), fun b hb => Nat.le_trans HS.out (HT1.out.n2 b hb), hO6.below H5.out.2.1 h0⟩
    · exact H5.out.2.2.1.not H5.out.1 (by decide) (by rw [<- e]; exact hb)
    · exact H5.out.2.2.2.not H5.out.1 (by decide) (by rw [<- e]; exact hb)
  clear h6 hO6; (try simp only [Act.put]); go_wp2; refine bodyPost_ret (Qdb rfl _ _ b1 _ _ rfl HF.out.1 Try.underlying46 rfl Qaa) rfl ⟨s1, s2, ?_, HF.out.2⟩; rw [HE.out.1, HE.out.2]; rfl
section
open Go.ChangeShapes Go.WideShapes Go.ChangeAt Go.RowKit Go.Deep Go.Joins
section
variable {H : Type} {enc : TypeId × Value -> H} {W : World}
set_option maxRecDepth 40000 in
theorem op_txs16 {v : Value} {d : DataW H} {p : List MemPlace} {r : Reach} {b0 : Nat} (hv : Value.okWide Try.prog W r b0 25 v) (h : DataW.Trod enc Try.prog W 0 (fun _ => true) true 25 v d p) :
    ∃ cs : List Tx, Qxb W v cs /\ cs.length <= maxLen /\ (∀ c ∈ cs, c.fits) := by
  obtain ⟨fuel, hf⟩ := h; obtain ⟨a, len, cap, rfl⟩ := okWide_slice Try.underlying25 hv; have hf2 : DataW.trod enc Try.prog W 0 (fun _ => true) true fuel 25 [.slice a len cap] = some (d, p) := hf; exact Qzj (sz := 5) txA Tx.zero Tx.fits Qxw Try.underlying25 (by kernel_rfl) (fun _ => rfl) (by decide) hf2
set_option maxRecDepth 40000 in
theorem op_dis16 {v : Value} {d : DataW H} {p : List MemPlace} {r : Reach} {b0 : Nat} (hv : Value.okWide Try.prog W r b0 26 v) (h : DataW.Trod enc Try.prog W 0 (fun _ => true) true 26 v d p) :
    ∃ cs : List Di, Qxc W v cs /\ cs.length <= maxLen /\ (∀ c ∈ cs, c.fits) := by
  obtain ⟨fuel, hf⟩ := h; obtain ⟨a, len, cap, rfl⟩ := okWide_slice Try.underlying26 hv; have hf2 : DataW.trod enc Try.prog W 0 (fun _ => true) true fuel 26 [.slice a len cap] = some (d, p) := hf; exact Qzj (sz := 2) diA Di.zero Di.fits Qzw Try.underlying26 (by kernel_rfl) (fun _ => rfl) (by decide) hf2
end
end
def Qfx (r : Rec) : Rec := { r with l := 4 * r.l, p := 4 * r.p, n := 4 * r.n }
theorem Qiy {r : Rec} (h : r.right) (hk : r.k <= 6) (hl : r.l <= 1099511627776) : (Qfx r).right := by
  have g : Qtd = 4611686018427387904 := rfl
  refine ⟨h.k1, h.k8, by show 1 <= 4 * r.l; have := h.l1; omega, by show 4 * r.l <= Qtd; omega, fun _ => ?_, fun q => absurd hk (by show ¬ r.k <= 6; have : 6 < r.k := q; omega), h.ch, h.noch, fun q => ?_, fun q => ?_, h.save, h.nosave, fun q => ?_, h.nocheck⟩
  · have := h.own hk; exact ⟨this.1, this.2.1, by show 4 * r.p < 4 * r.l; omega⟩
  · have := h.next q; show 4 * r.n < 4 * r.l; omega
  · have := h.nonext q; show 4 * r.n = 0; omega
  · have : r.k = 8 := q; omega
theorem Qgx : ∀ (rs : List Rec) (a c : Nat), c <= 3 -> Qcb a rs -> (∀ r ∈ rs, r.k <= 6 /\ r.l <= 1099511627776) -> Qcb (4 * a + c) (rs.map Qfx)
  | [], _, _, _, _, _ => trivial
  | r :: rs, a, c, hc, ⟨h1, h2, h3⟩, hk => by
    have hr := hk r (by simp); refine ⟨Qiy h1 hr.1 hr.2, by show 4 * a + c < 4 * r.l; omega, ?_⟩; exact Qgx rs r.l 0 (Nat.zero_le _) h3 (fun x hx => hk x (List.mem_cons_of_mem _ hx))
theorem Qnx : ∀ (rs : List Rec) (a : Nat), Qya (4 * a) (rs.map Qfx) = 4 * Qya a rs
  | [], _ => rfl
  | r :: rs, a => Qnx rs r.l
theorem lastL_any : ∀ (rs : List Rec) (a b : Nat), rs ≠ [] -> Qya a rs = Qya b rs
  | [], _, _, h => absurd rfl h
  | _ :: _, _, _, _ => rfl
theorem Qhx : ∀ (rs ss : List Rec) (a : Nat), Qya a (rs ++ ss) = Qya (Qya a rs) ss
  | [], _, _ => rfl
  | r :: rs, ss, a => Qhx rs ss r.l
def Qox (n : Nat) : Rec := ⟨7, n, 0, 0, Ch.zero, 0, 0, 0, [], []⟩
theorem beg_right {n : Nat} (h1 : 1 <= n) (h2 : n <= Qtd) : (Qox n).right :=
  ⟨by show (1 : Int) <= 7; decide, by show (7 : Int) <= 8; decide, h1, h2, fun q => absurd q (by show ¬ (7 : Int) <= 6; decide), fun _ => ⟨rfl, rfl⟩, fun q => absurd q (by show ¬ (7 : Int) <= 2; decide), fun _ => rfl, fun q => absurd q (by show ¬ (7 : Int) = 2; decide), fun _ => rfl, fun q => absurd q (by show ¬ (7 : Int) = 6; decide), fun _ => rfl, fun q => absurd q (by show ¬ (7 : Int) = 8; decide), fun _ => ⟨rfl, rfl, rfl⟩⟩
def endR (n b : Nat) (t : Ta) : Rec := ⟨8, n, 0, 0, Ch.zero, 0, 0, b, t.1, t.2⟩
theorem end_right {n b L : Nat} {t : Ta} (h1 : L < n) (h2 : n <= Qtd) (hb : 1 <= b) (hbn : b < n) (hi : TabIn t L) (ho : Qrv t) (h16 : t.1.length <= 16) (h32 : t.2.length <= 32) : (endR n b t).right := by
  refine ⟨by show (1 : Int) <= 8; decide, by show (8 : Int) <= 8; decide, by show 1 <= n; omega, h2, fun q => absurd q (by show ¬ (8 : Int) <= 6; decide), fun _ => ⟨rfl, rfl⟩, fun q => absurd q (by show ¬ (8 : Int) <= 2; decide), fun _ => rfl, fun q => absurd q (by show ¬ (8 : Int) = 2; decide), fun _ => rfl, fun q => absurd q (by show ¬ (8 : Int) = 6; decide), fun _ => rfl, fun _ => ?_, fun q => absurd rfl q⟩
  refine ⟨h16, h32, fun i hi' => ?_, fun i hi' => ?_, hb, hbn⟩
  · obtain ⟨g1, g2⟩ := ho.1 i hi'; have g3 := hi.xt _ (Qja t.1 i Tx.zero hi'); obtain ⟨q1, q2, q3, q4, q5, q6, q7, q8⟩ := g1; exact ⟨⟨q1, q2, q3, q4, by show 1 <= (t.1.getD i Tx.zero).f; omega, by show (t.1.getD i Tx.zero).f <= (t.1.getD i Tx.zero).l; omega, by show (t.1.getD i Tx.zero).l < n; omega, by show (t.1.getD i Tx.zero).n <= (t.1.getD i Tx.zero).l; omega⟩, g2⟩
  · obtain ⟨g1, g2⟩ := ho.2 i hi'; have g3 := hi.xd _ (Qja t.2 i Di.zero hi'); obtain ⟨q1, q2, q3, q4⟩ := g1; exact ⟨⟨q1, by show (t.2.getD i Di.zero).p <= 31; omega, by show 1 <= (t.2.getD i Di.zero).r; omega, by show (t.2.getD i Di.zero).r < n; omega⟩, g2⟩
theorem few_pages {l : List Di} (h : okD l l.length) : l.length <= 32 := by
  have h1 : ∀ i, i < l.length -> (i : Int) <= (l.getD i Di.zero).p := by
    intro i
    induction i with
    | zero => intro hi; exact (h 0 hi).1.1
    | succ i ih =>
      intro hi; have g1 := ih (by omega); have g2 := (h (i + 1) hi).2 (by omega); rw [Nat.add_sub_cancel] at g2; omega
  rcases Nat.lt_or_ge 32 l.length with hl | hl
  · have g1 := h1 32 hl; have g2 := (h 32 hl).1.2.1; omega
  · exact hl
theorem Qfy {rs : List Rec} {m : Nat} : ∀ n, m <= n -> (∀ i, m <= i -> i < n -> (rs.getD i Rec.zero).k ≠ 8) -> ckL rs n = ckL rs m
  | 0, h, _ => by
    obtain rfl : m = 0 := by omega
    rfl
  | n + 1, h, hk => by
    by_cases e : m = n + 1
    · rw [e]
    · rw [ckL, if_neg (hk n (by omega) (Nat.lt_succ_self n))]; exact Qfy n (by omega) (fun i h1 h2 => hk i h1 (by omega))
def outR (A M Z : List Rec) : List Rec := (((A ++ [Qox (Qya 0 A + 1)]) ++ M) ++ [endR (Qya 0 ((A ++ [Qox (Qya 0 A + 1)]) ++ M) + 1) (Qya 0 A + 1) (ofA A)]) ++ Z
theorem out_of {A M Z : List Rec} (hA : ∀ r ∈ A, r.k <= 6) (hM : ∀ r ∈ M, r.k <= 6) (hZ : ∀ r ∈ Z, r.k <= 6) (hr : Qcb 0 (outR A M Z)) : ofA (outR A M Z) = Qha (ofA A) (M ++ Z) := by
  obtain ⟨E, hE⟩ : ∃ E, E = endR (Qya 0 ((A ++ [Qox (Qya 0 A + 1)]) ++ M) + 1) (Qya 0 A + 1) (ofA A) := ⟨_, rfl⟩; obtain ⟨B, hB⟩ : ∃ B, B = Qox (Qya 0 A + 1) := ⟨_, rfl⟩
  have e : outR A M Z = A ++ (B :: (M ++ (E :: Z))) := by
    unfold outR; rw [<- hB] at hE |-; rw [<- hE]; simp
  rw [e] at hr |-; obtain ⟨rs, hrs⟩ : ∃ rs, rs = A ++ (B :: (M ++ (E :: Z))) := ⟨_, rfl⟩; rw [<- hrs] at hr |-
  have hB1 : rs.getD A.length Rec.zero = B := by
    rw [hrs, List.getD_eq_getElem?_getD, List.getElem?_append_right (Nat.le_refl _)]; simp
  have hlen : rs.length = A.length + 1 + M.length + 1 + Z.length := by rw [hrs]; simp; omega
  have hE1 : rs.getD (A.length + 1 + M.length) Rec.zero = E := by
    rw [hrs, List.getD_eq_getElem?_getD, List.getElem?_append_right (by omega), show A.length + 1 + M.length - A.length = M.length + 1 by omega, List.getElem?_cons_succ, List.getElem?_append_right (Nat.le_refl _)]; simp
  have hbeg : Qat rs (rs.getD (A.length + 1 + M.length) Rec.zero).b = some A.length := by
    refine Qvo hr (by omega) ?_ ?_
    · rw [hB1, hE1, hB, hE]; rfl
    · rw [hB1, hB]; rfl
  have hck : ckL rs rs.length = some (A.length + 1 + M.length, A.length) := by
    rw [Qfy (m := A.length + 1 + M.length + 1) rs.length (by omega) (fun i h1 h2 => ?_), ckL, if_pos (by rw [hE1, hE]; rfl), hbeg]
    have h3 : rs.getD i Rec.zero ∈ Z := by
      rw [hrs, List.getD_eq_getElem?_getD, List.getElem?_append_right (by omega), show i - A.length = (i - A.length - 1) + 1 by omega, List.getElem?_cons_succ, List.getElem?_append_right (by omega), show i - A.length - 1 - M.length = (i - A.length - 1 - M.length - 1) + 1 by omega, List.getElem?_cons_succ, <- List.getD_eq_getElem?_getD]; exact Qja _ _ _ (by omega)
    have := hZ _ h3; omega
  unfold ofA ofT; rw [hck]; show Qha ((rs.getD (A.length + 1 + M.length) Rec.zero).ts, (rs.getD (A.length + 1 + M.length) Rec.zero).ds) (rs.drop (A.length + 1)) = _; rw [hE1]
  have hd : rs.drop (A.length + 1) = M ++ (E :: Z) := by
    have e9 : rs = (A ++ [B]) ++ (M ++ (E :: Z)) := by rw [hrs]; simp
    rw [e9, show A.length + 1 = (A ++ [B]).length by simp, List.drop_left]
  rw [hd, Qvv]
  have h5 : Qha (Qha (E.ts, E.ds) M) (E :: Z) = Qha (Qha (E.ts, E.ds) M) Z := by
    show Qha (Qe (Qha (E.ts, E.ds) M) E) Z = _
    have h6 : Qe (Qha (E.ts, E.ds) M) E = Qha (E.ts, E.ds) M := by
      unfold Qe; rw [if_pos (.inr (by rw [hE]; rfl))]
    rw [h6]
  rw [h5, <- Qvv]; have h7 : (E.ts, E.ds) = ofA A := by rw [hE]; rfl
  rw [h7]; rfl
theorem skips16 {rs : List Rec} (h : Qcb 0 rs) (hk : ∀ r ∈ rs, r.k <= 6 /\ r.l <= 1099511627776) {b n : Nat} (hb : b <= n) (hn : n <= rs.length) (h16 : (ofA ((rs.map Qfx).take b)).1.length <= 16) :
    Qcb 0 (outR ((rs.map Qfx).take b) (((rs.map Qfx).take n).drop b) ((rs.map Qfx).drop n)) /\
      ofA (outR ((rs.map Qfx).take b) (((rs.map Qfx).take n).drop b) ((rs.map Qfx).drop n)) = ofA (rs.map Qfx) := by
  have hq : Qcb 0 (rs.map Qfx) := Qgx rs 0 0 (Nat.zero_le _) h hk
  have hqk : ∀ r ∈ rs.map Qfx, r.k <= 6 := fun r hr => by
    obtain ⟨x, hx, rfl⟩ := List.mem_map.1 hr; exact (hk x hx).1
  have hP := parts16 hq hqk b; obtain ⟨ra, hra⟩ : ∃ ra, ra = rs.take b := ⟨_, rfl⟩; obtain ⟨rm, hrm⟩ : ∃ rm, rm = (rs.take n).drop b := ⟨_, rfl⟩; obtain ⟨rz, hrz⟩ : ∃ rz, rz = rs.drop n := ⟨_, rfl⟩
  have hsplit : rs = ra ++ (rm ++ rz) := by
    rw [hra, hrm, hrz]
    have e1 : rs.take n = rs.take b ++ (rs.take n).drop b := by
      have h9 := (List.take_append_drop b (rs.take n)).symm; rwa [List.take_take, Nat.min_eq_left hb] at h9
    rw [<- List.append_assoc, <- e1, List.take_append_drop]
  have eA : (rs.map Qfx).take b = ra.map Qfx := by rw [hra, List.map_take]
  have eM : ((rs.map Qfx).take n).drop b = rm.map Qfx := by rw [hrm, List.map_drop, List.map_take]
  have eZ : (rs.map Qfx).drop n = rz.map Qfx := by rw [hrz, List.map_drop]
  have eD : (rs.map Qfx).drop b = rm.map Qfx ++ rz.map Qfx := by
    have : rs.drop b = rm ++ rz := by
      have h8 : ra.length = b := by rw [hra, List.length_take]; omega
      rw [hsplit, <- h8, List.drop_left]
    rw [<- List.map_drop, this, List.map_append]
  rw [eA] at hP h16 |-; rw [eM, eZ]; rw [eD] at hP; rw [hsplit] at h hk; obtain ⟨r1, r2⟩ := (Qwj _ _ _).1 h; obtain ⟨r3, r4⟩ := (Qwj _ _ _).1 r2; have k1 : ∀ r ∈ ra, r.k <= 6 /\ r.l <= 1099511627776 := fun r hr => hk r (by simp [hr])
  have k2 : ∀ r ∈ rm, r.k <= 6 /\ r.l <= 1099511627776 := fun r hr => hk r (by simp [hr])
  have k3 : ∀ r ∈ rz, r.k <= 6 /\ r.l <= 1099511627776 := fun r hr => hk r (by simp [hr])
  have wk : ∀ l : List Rec, (∀ r ∈ l, r.k <= 6 /\ r.l <= 1099511627776) -> ∀ r ∈ l.map Qfx, r.k <= 6 := fun l hl r hr => by
    obtain ⟨x, hx, rfl⟩ := List.mem_map.1 hr; exact (hl x hx).1
  have hLa : Qya 0 (ra.map Qfx) = 4 * Qya 0 ra := Qnx ra 0
  have bnd : ∀ (l : List Rec) (a : Nat), a <= 1099511627776 -> (∀ r ∈ l, r.k <= 6 /\ r.l <= 1099511627776) -> Qya a l <= 1099511627776 := by
    intro l
    induction l with
    | nil => intro a ha _; exact ha
    | cons r l ih => intro a _ hl; exact ih r.l (hl r (by simp)).2 (fun x hx => hl x (List.mem_cons_of_mem _ hx))
  have b1 := bnd ra 0 (Nat.zero_le _) k1; have b2 := bnd rm (Qya 0 ra) b1 k2; have g : Qtd = 4611686018427387904 := rfl
  have hrise : Qcb 0 (outR (ra.map Qfx) (rm.map Qfx) (rz.map Qfx)) := by
    unfold outR; have w1 : Qcb 0 (ra.map Qfx) := Qgx ra 0 0 (Nat.zero_le _) r1 k1; have w2 : Qcb 0 (ra.map Qfx ++ [Qox (Qya 0 (ra.map Qfx) + 1)]) := (Qwj _ _ _).2 ⟨w1, beg_right (by omega) (by rw [hLa]; omega), Nat.lt_succ_self _, trivial⟩
    have w3 : Qcb 0 ((ra.map Qfx ++ [Qox (Qya 0 (ra.map Qfx) + 1)]) ++ rm.map Qfx) := by
      refine (Qwj _ _ _).2 ⟨w2, ?_⟩; rw [Qhx]; show Qcb (Qya 0 (ra.map Qfx) + 1) _; rw [hLa]; exact Qgx rm _ 1 (by omega) r3 k2
    have eL : Qya 0 ((ra.map Qfx ++ [Qox (Qya 0 (ra.map Qfx) + 1)]) ++ rm.map Qfx) = Qya (4 * Qya 0 ra + 1) (rm.map Qfx) := by
      rw [Qhx, Qhx]; show Qya (Qya 0 (ra.map Qfx) + 1) _ = _; rw [hLa]
    have hc : ∃ c, c <= 1 /\ Qya (4 * Qya 0 ra + 1) (rm.map Qfx) = 4 * Qya (Qya 0 ra) rm + c := by
      cases rm with
      | nil => exact ⟨1, Nat.le_refl _, rfl⟩
      | cons r l => exact ⟨0, by omega, Qnx l r.l⟩
    obtain ⟨c, hc1, hc2⟩ := hc
    have hin : TabIn (ofA (ra.map Qfx)) (4 * Qya 0 ra) := by
      rw [Qyv (wk ra k1), <- hLa]; exact TabIn.takes _ _ _ Qwx w1 (wk ra k1)
    have hge : 4 * Qya 0 ra + 1 <= Qya (4 * Qya 0 ra + 1) (rm.map Qfx) := Qfp _ _ (Qgx rm _ 1 (by omega) r3 k2)
    have w4 : (endR (Qya 0 ((ra.map Qfx ++ [Qox (Qya 0 (ra.map Qfx) + 1)]) ++ rm.map Qfx) + 1) (Qya 0 (ra.map Qfx) + 1) (ofA (ra.map Qfx))).right := by
      refine end_right (L := 4 * Qya 0 ra) ?_ ?_ (by omega) ?_ hin hP.2.1 h16 (few_pages hP.2.1.2)
      · rw [eL]; omega
      · rw [eL, hc2]; omega
      · rw [eL, hLa]; omega
    have w5 : Qcb 0 (((ra.map Qfx ++ [Qox (Qya 0 (ra.map Qfx) + 1)]) ++ rm.map Qfx) ++ [endR (Qya 0 ((ra.map Qfx ++ [Qox (Qya 0 (ra.map Qfx) + 1)]) ++ rm.map Qfx) + 1) (Qya 0 (ra.map Qfx) + 1) (ofA (ra.map Qfx))]) := (Qwj _ _ _).2 ⟨w3, w4, Nat.lt_succ_self _, trivial⟩; refine (Qwj _ _ _).2 ⟨w5, ?_⟩; rw [Qhx]; show Qcb (Qya 0 ((ra.map Qfx ++ [Qox (Qya 0 (ra.map Qfx) + 1)]) ++ rm.map Qfx) + 1) _; rw [eL, hc2, Nat.add_assoc]; exact Qgx rz _ _ (by omega) r4 k3
  refine ⟨hrise, ?_⟩; rw [out_of (wk ra k1) (wk rm k2) (wk rz k3) hrise]; exact hP.2.2.2
theorem ow_lt {x : World} {B n : Nat} {e : TypeId} {sz : Nat} {v : Value} {xs : List Value} (h : x.ownsRow B e sz v n xs) {k : Nat} (hk : v.ownBlock = some k) : k < x.heap.size := by
  rcases h.2 with ⟨rfl, _⟩ | ⟨g, cap, cur, rfl, _, c, _⟩
  · cases hk
  · have e2 : g = k := by
      injection hk
    rw [<- e2]; exact Qa.lt (show Qa x g e cur from c)
theorem Qxx {x y : World} {B n : Nat} {e : TypeId} {sz : Nat} {v : Value} {xs : List Value} (h : x.ownsRow B e sz v n xs) (hk : ∀ k, v.ownBlock = some k -> y.heap[k]? = x.heap[k]?) : y.ownsRow B e sz v n xs := by
  obtain ⟨h1, h2⟩ := h; refine ⟨h1, h2.imp id ?_⟩; rintro ⟨g, cap, cur, rfl, b, c, d⟩; exact ⟨g, cap, cur, rfl, b, (hk g rfl).trans c, d⟩
def Qix (m : Rec × Value × Value) : Rec × Value × Value := (Qfx m.1, m.2.1, m.2.2)
theorem wide_msR (ms : List (Rec × Value × Value)) : msR (ms.map Qix) = (msR ms).map Qfx := by
  unfold msR; rw [List.map_map, List.map_map]; rfl
theorem Qgy {ms : List (Rec × Value × Value)} {j : Nat} (hj : j < ms.length) : (ms.take (j + 1)).map Qix = (ms.take j).map Qix ++ [Qix (ms.getD j rcZ)] := by
  rw [List.take_succ_eq_append_getElem hj, List.map_append, List.getD_eq_getElem?_getD, List.getElem?_eq_getElem hj]; rfl
theorem wider16 (w : World) (v : Value) (ms : List (Rec × Value × Value)) (hl : LogIn w v ms) (hk : ∀ r ∈ msR ms, r.l <= 1099511627776 /\ r.p <= 1099511627776 /\ r.n <= 1099511627776) :
    Calls Try.prog 23 #[v] w fun e w' => ∃ v', e = .returned v' /\ OwM w' w.heap.size v' (ms.map Qix) /\ Below w.heap.size w w' := by
  have HL := Qb hl; have HKK := Qb hk; have hfew := hl.few; obtain ⟨au, cu, rfl, _⟩ := hl.slice; obtain ⟨ln, hln⟩ : ∃ k, k = ms.length := ⟨_, rfl⟩; rw [<- hln] at HL hfew |-; have HLN := Qb hln; obtain ⟨B, hB⟩ : ∃ B, B = w.heap.size := ⟨_, rfl⟩; have HB := Qb hB; have H0 : Hid (OwM w B (.slice none 0 0) ((ms.take 0).map Qix) /\ Below w.heap.size w w) := ⟨World.ownsRow_nil _ _ _ _, Below.refl _ _⟩; clear hl hln hB hk; go_enter Try.func23, Try.ntmps23; go_wp2; go_loopw [3, 8] (fun vo i wr => ∃ j : Nat, j <= ln /\ i = .int .i64 (j : Int) /\ Hid (OwM wr B vo ((ms.take j).map Qix) /\ Below w.heap.size w wr)) (fun _ i _ => ln - (intOf i).toNat)
  case atStart => exact ⟨0, Nat.zero_le _, rfl, H0⟩
  case round =>
    obtain ⟨j, hj, rfl, HJ⟩ := hrel; clear H0; obtain ⟨ao, co, hvo, _, _⟩ := Qhh HJ.out.1; subst hvo
    by_cases hlt : j < ln
    · have i5 : (j : Int) < (ln : Int) := by omega
      have hjm : j < ms.length := by rw [<- HLN.out]; exact hlt
      obtain ⟨b, off, rfl, hft, _, hx⟩ := HL.out.mid hjm; have HNX := Qb (Qgy hjm); have hkj := HKK.out _ (Qzx hjm)
      have hO : ((ms.take j).map Qix).length <= 1000 := by
        rw [List.length_map, List.length_take]; omega
      obtain ⟨O, hOO⟩ : ∃ O, O = (ms.take j).map Qix := ⟨_, rfl⟩; obtain ⟨m, hm⟩ : ∃ m, m = ms.getD j rcZ := ⟨_, rfl⟩; rw [<- hOO] at HJ HNX hO |-; rw [<- hm] at hft hx HNX hkj; obtain ⟨hr0, hin⟩ := hx wr HJ.out.2; have hsl := Qcj hin; obtain ⟨⟨x1, y1, hs1⟩, x2, y2, hs2⟩ := hsl; obtain ⟨l1, hl1⟩ : ∃ l, l = m.1.ts.length := ⟨_, rfl⟩; obtain ⟨l2, hl2⟩ : ∃ l, l = m.1.ds.length := ⟨_, rfl⟩; rw [<- hl1] at hs1; rw [<- hl2] at hs2
      have hrc : #[.int .i64 m.1.k, .int .u64 (m.1.l : Int), .int .i64 m.1.t, .int .u64 (m.1.p : Int), .int .i64 m.1.c.k, .int .i64 m.1.c.pg, .int .i64 m.1.c.sl, .string m.1.c.o, .string m.1.c.n, .int .u64 (m.1.n : Int), .int .i64 m.1.s, .int .u64 (m.1.b : Int), .slice x1 l1 y1, .slice x2 l2 y2] = rcF m := by
        rw [<- hs1, <- hs2]; rfl
      obtain ⟨q1, hq1⟩ : ∃ q, q = 4 * m.1.l := ⟨_, rfl⟩; obtain ⟨q3, hq3⟩ : ∃ q, q = 4 * m.1.p := ⟨_, rfl⟩; obtain ⟨q9, hq9⟩ : ∃ q, q = 4 * m.1.n := ⟨_, rfl⟩
      have hrw : #[.int .i64 m.1.k, .int .u64 (q1 : Int), .int .i64 m.1.t, .int .u64 (q3 : Int), .int .i64 m.1.c.k, .int .i64 m.1.c.pg, .int .i64 m.1.c.sl, .string m.1.c.o, .string m.1.c.n, .int .u64 (q9 : Int), .int .i64 m.1.s, .int .u64 (m.1.b : Int), .slice x1 l1 y1, .slice x2 l2 y2] = rcF (Qix m) := by
        rw [<- hs1, <- hs2, hq1, hq3, hq9]; rfl
      have HRW := Qb hrw
      have HLD : Hid ((Instr.loadAt 46 (.pointer (some ⟨b, off + j * 14, none⟩))).run Try.prog wr = .ok (.agg #[.int .i64 m.1.k, .int .u64 (m.1.l : Int), .int .i64 m.1.t, .int .u64 (m.1.p : Int), .int .i64 m.1.c.k, .int .i64 m.1.c.pg, .int .i64 m.1.c.sl, .string m.1.c.o, .string m.1.c.n, .int .u64 (m.1.n : Int), .int .i64 m.1.s, .int .u64 (m.1.b : Int), .slice x1 l1 y1, .slice x2 l2 y2]) wr) := by
        show _ = _; rw [hrc]; exact Qmf wr b (off + j * 14) m hr0
      have e1 : (4 : Int) * (m.1.l : Int) = (q1 : Int) := by omega
      have e3 : (4 : Int) * (m.1.p : Int) = (q3 : Int) := by omega
      have e9 : (4 : Int) * (m.1.n : Int) = (q9 : Int) := by omega
      have b1 : q1 <= 4398046511104 := by omega
      have b3 : q3 <= 4398046511104 := by omega
      have b9 : q9 <= 4398046511104 := by omega
      have u1 : IntKind.u64.wrap (q1 : Int) = (q1 : Int) := by rw [IntKind.wrap_u64]; omega
      have u3 : IntKind.u64.wrap (q3 : Int) = (q3 : Int) := by rw [IntKind.wrap_u64]; omega
      have u9 : IntKind.u64.wrap (q9 : Int) = (q9 : Int) := by rw [IntKind.wrap_u64]; omega
      clear hjm hft hx hr0 hin hs1 hs2 hrc hrw hm hOO hl1 hl2 hq1 hq3 hq9 hkj; go_wp2_with (first | (refine Qt rfl 46 (.tmp 13) rfl _ (.agg #[.int .i64 m.1.k, .int .u64 (m.1.l : Int), .int .i64 m.1.t, .int .u64 (m.1.p : Int), .int .i64 m.1.c.k, .int .i64 m.1.c.pg, .int .i64 m.1.c.sl, .string m.1.c.o, .string m.1.c.n, .int .u64 (m.1.n : Int), .int .i64 m.1.s, .int .u64 (m.1.b : Int), .slice x1 l1 y1, .slice x2 l2 y2]) rfl HLD.out ?_) | (refine Ql rfl 46 (.tmp 5) (.tmp 14) rfl wr.heap.size 0 46 Qvc #[.int .i64 m.1.k, .int .u64 (m.1.l : Int), .int .i64 m.1.t, .int .u64 (m.1.p : Int), .int .i64 m.1.c.k, .int .i64 m.1.c.pg, .int .i64 m.1.c.sl, .string m.1.c.o, .string m.1.c.n, .int .u64 (m.1.n : Int), .int .i64 m.1.s, .int .u64 (m.1.b : Int), .slice x1 l1 y1, .slice x2 l2 y2] rfl rfl (Qa.new wr _ _) Qaa (Nat.le_refl 14) (by simp [Value.oneCell']) ?_; intro w5 hr5 ho5; refine Qpa ?_)); rw [Qn Qvc #[.int .i64 m.1.k, .int .u64 (m.1.l : Int), .int .i64 m.1.t, .int .u64 (m.1.p : Int), .int .i64 m.1.c.k, .int .i64 m.1.c.pg, .int .i64 m.1.c.sl, .string m.1.c.o, .string m.1.c.n, .int .u64 (m.1.n : Int), .int .i64 m.1.s, .int .u64 (m.1.b : Int), .slice x1 l1 y1, .slice x2 l2 y2] rfl] at hr5; have hal : Below wr.heap.size wr (wr.alloc (.cells Qvc 46)) := (Below.refl _ _).alloc (Nat.le_refl _) _; have hb5 := ho5.below hal (Nat.le_refl _); obtain ⟨g, hg⟩ : ∃ g, g = wr.heap.size := ⟨_, rfl⟩; rw [<- hg] at hr5 |-; have H5 : Hid (Qa w5 g 46 #[.int .i64 m.1.k, .int .u64 (m.1.l : Int), .int .i64 m.1.t, .int .u64 (m.1.p : Int), .int .i64 m.1.c.k, .int .i64 m.1.c.pg, .int .i64 m.1.c.sl, .string m.1.c.o, .string m.1.c.n, .int .u64 (m.1.n : Int), .int .i64 m.1.s, .int .u64 (m.1.b : Int), .slice x1 l1 y1, .slice x2 l2 y2] /\ OwM w5 B (.slice ao O.length co) O /\ Below w.heap.size w w5 /\ w.heap.size <= g /\ ∀ k, (Value.slice ao O.length co).ownBlock = some k -> k < g) := ⟨hr5, Qob HJ.out.1 hb5, HJ.out.2.trans (hb5.mono HJ.out.2.size), by rw [hg]; exact HJ.out.2.size, fun k hk => by rw [hg]; exact ow_lt HJ.out.1 hk⟩; clear hr5 ho5 hal hb5 hg HLD HJ; refine Qg ?_; have d1 := H5.out.1.cell 1 (.int .u64 (m.1.l : Int)) rfl; have d3 := H5.out.1.cell 3 (.int .u64 (m.1.p : Int)) rfl; have d9 := H5.out.1.cell 9 (.int .u64 (m.1.n : Int)) rfl; have f1 := H5.out.1.free 1; have f3 := H5.out.1.free 3; have f9 := H5.out.1.free 9; go_wp2_with (with_reducible refine Qxa 28 rfl ?_); obtain ⟨z, hz⟩ : ∃ z, z = ((w5.setCell ⟨g, 1, none⟩ (.int .u64 (q1 : Int))).setCell ⟨g, 3, none⟩ (.int .u64 (q3 : Int))).setCell ⟨g, 9, none⟩ (.int .u64 (q9 : Int)) := ⟨_, rfl⟩
      have HZ : Hid (Qa z g 46 #[.int .i64 m.1.k, .int .u64 (q1 : Int), .int .i64 m.1.t, .int .u64 (q3 : Int), .int .i64 m.1.c.k, .int .i64 m.1.c.pg, .int .i64 m.1.c.sl, .string m.1.c.o, .string m.1.c.n, .int .u64 (q9 : Int), .int .i64 m.1.s, .int .u64 (m.1.b : Int), .slice x1 l1 y1, .slice x2 l2 y2] /\ OwM z B (.slice ao O.length co) O /\ Below w.heap.size w z) := by
        have ho : Only g w5 z := by
          rw [hz]; exact Only.trans16 (Only.trans16 (Qqb w5 g 1 _) (Qqb _ g 3 _)) (Qqb _ g 9 _)
        refine ⟨by rw [hz]; exact ((H5.out.1.set 1 (.int .u64 (q1 : Int))).set 3 (.int .u64 (q3 : Int))).set 9 (.int .u64 (q9 : Int)), Qxx H5.out.2.1 (fun k hk => ho.block k (by have := H5.out.2.2.2.2 k hk; omega)), ho.below H5.out.2.2.1 H5.out.2.2.2.1⟩
      rw [<- hz]; clear hz H5 d1 d3 d9 f1 f3 f9; refine Qg ?_; have hbB : B <= z.heap.size := by rw [HB.out]; exact HZ.out.2.2.size
      go_wp2_with (first | (refine Qd rfl 46 (.tmp 5) rfl g rfl #[.int .i64 m.1.k, .int .u64 (q1 : Int), .int .i64 m.1.t, .int .u64 (q3 : Int), .int .i64 m.1.c.k, .int .i64 m.1.c.pg, .int .i64 m.1.c.sl, .string m.1.c.o, .string m.1.c.n, .int .u64 (q9 : Int), .int .i64 m.1.s, .int .u64 (m.1.b : Int), .slice x1 l1 y1, .slice x2 l2 y2] HZ.out.1 _ Try.underlying46 rfl Qaa ?_) | (refine Qu _ 22 46 14 160 (.agg Qvc) Try.underlying22 Qjx rfl (by decide) (by decide) rfl (.tmp 27) (.tmp 29) rfl B (.slice ao O.length co) O.length (Qjd O) rfl (Qob HZ.out.2.1 ((Below.refl z.heap.size z).alloc (Nat.le_refl _) _)) z.heap.size #[.int .i64 m.1.k, .int .u64 (q1 : Int), .int .i64 m.1.t, .int .u64 (q3 : Int), .int .i64 m.1.c.k, .int .i64 m.1.c.pg, .int .i64 m.1.c.sl, .string m.1.c.o, .string m.1.c.n, .int .u64 (q9 : Int), .int .i64 m.1.s, .int .u64 (m.1.b : Int), .slice x1 l1 y1, .slice x2 l2 y2] rfl (Qa.new z 46 #[.int .i64 m.1.k, .int .u64 (q1 : Int), .int .i64 m.1.t, .int .u64 (q3 : Int), .int .i64 m.1.c.k, .int .i64 m.1.c.pg, .int .i64 m.1.c.sl, .string m.1.c.o, .string m.1.c.n, .int .u64 (q9 : Int), .int .i64 m.1.s, .int .u64 (m.1.b : Int), .slice x1 l1 y1, .slice x2 l2 y2]) rfl (by simp [Value.oneCell']) hO (Nat.le_trans hbB (by simp)) ?_; intro v' w7 ho7 hg7; refine Qpa ?_))
      have H7 : Hid (OwM w7 B v' ((ms.take (j + 1)).map Qix) /\ Below w.heap.size w w7) := by
        rw [HNX.out]; refine ⟨Qvx HRW.out ho7, Qhs (Qob HZ.out.2.1 ((Below.refl z.heap.size z).alloc (Nat.le_refl _) _)) (by rw [HB.out]; exact Nat.le_refl _) (HZ.out.2.2.trans (((Below.refl z.heap.size z).alloc (Nat.le_refl _) _).mono HZ.out.2.2.size)) (by simp; have := HZ.out.2.2.size; omega) hg7⟩
      clear ho7 hg7 HZ HRW; refine Qg ?_; go_wp2; go_roundw
      case rel => exact ⟨j + 1, by omega, by go_num, H7⟩
      case measure => simp [intOf] <;> omega
    · have i5 : ¬ (j : Int) < (ln : Int) := by omega
      obtain ⟨lo, hlo⟩ : ∃ n, n = ((ms.take j).map Qix).length := ⟨_, rfl⟩; rw [<- hlo] at HJ |-
      have HE : Hid (OwM wr w.heap.size (.slice ao lo co) (ms.map Qix) /\ Below w.heap.size w wr) := by
        have h := HJ.out; have e : ms.take j = ms := List.take_of_length_le (by rw [<- HLN.out]; omega); rw [e, HB.out] at h; exact h
      clear hlo; clear HJ; go_wp2; go_ret; exact ⟨_, rfl, HE.out.1, HE.out.2⟩
theorem Qpx : ∀ (rs : List Rec) (a : Nat), 0 < rs.length -> Qya a rs = (rs.getD (rs.length - 1) Rec.zero).l
  | [], _, h => absurd h (by show ¬ 0 < 0; omega)
  | [r], _, _ => rfl
  | r :: s :: rs, a, _ => by
    show Qya r.l (s :: rs) = _; rw [Qpx (s :: rs) r.l (Nat.zero_lt_succ _)]; rfl
theorem last16 (w : World) (v : Value) (ms : List (Rec × Value × Value)) (hl : LogIn w v ms) :
    Calls Try.prog 24 #[v] w fun e w' => e = .returned (.int .u64 (Qya 0 (msR ms) : Int)) /\ w' = w := by
  have HL := Qb hl; have hfew := hl.few; obtain ⟨au, cu, rfl, _⟩ := hl.slice; obtain ⟨ln, hln⟩ : ∃ k, k = ms.length := ⟨_, rfl⟩; rw [<- hln] at HL hfew |-; have HLN := Qb hln; clear hl hln
  by_cases h0 : ln = 0
  · have HE : Hid (Qya 0 (msR ms) = 0) := by
      have : ms = [] := List.eq_nil_of_length_eq_zero (by rw [<- HLN.out]; exact h0); show _ = _; rw [this]; rfl
    rw [HE.out]; subst h0; go_enter Try.func24, Try.ntmps24; go_wp2; go_ret; exact ⟨rfl, rfl⟩
  · obtain ⟨i, hi⟩ : ∃ i, i = ln - 1 := ⟨_, rfl⟩; have hij : (ln : Int) - 1 = (i : Int) := by omega
    have hin : i < ln := by omega
    have him : i < ms.length := by rw [<- HLN.out]; exact hin
    have i5 : (i : Int) < (ln : Int) := by omega
    have e0 : ((ln : Int) == 0) = false := by rw [beq_eq_false_iff_ne]; omega
    have hwi : IntKind.i64.wrap (i : Int) = (i : Int) := by first | exact Qtw i (by omega) | (rw [IntKind.wrap_i64]; omega)
    obtain ⟨b, off, rfl, _, hle, hx⟩ := HL.out.mid him
    have HE : Hid (Qya 0 (msR ms) = (ms.getD i rcZ).1.l) := by
      show _ = _; rw [Qpx _ _ (by rw [Qka, <- HLN.out]; omega), Qka, <- HLN.out, <- hi, <- hle]
    rw [HE.out]; have k1 : w.cell? ⟨b, off + i * 14 + 1, none⟩ = some (.int .u64 ((ms.getD i rcZ).1.l : Int)) := (hx w (Below.refl _ _)).1 1 _ rfl; clear hle hx him hi h0; go_enter Try.func24, Try.ntmps24; go_wp2; go_ret; exact ⟨rfl, rfl⟩
theorem Qrx (ms : List (Rec × Value × Value)) : (Qjd ms).length = ms.length * 14 := by
  induction ms with
  | nil => rfl
  | cons m ms ih =>
    show ((rcF m).toList ++ Qjd ms).length = _; rw [List.length_append, ih, List.length_cons, Nat.add_mul]; show 14 + _ = _; omega
theorem Qhy {w : World} {ms : List (Rec × Value × Value)} (h : ∀ m ∈ ms, Qwb w m.1 m.2.1 m.2.2) : ∀ u ∈ Qjd ms, u.oneCell' = true := by
  intro u hu; unfold Qjd at hu; rw [List.mem_flatMap] at hu; obtain ⟨m, hm, hu⟩ := hu; have h1 := all15 (h m hm); rw [Array.all_eq_true'] at h1; exact h1 u (by simpa using hu)
theorem join16 {B : Nat} {y : World} {v : Value} {ms ns : List (Rec × Value × Value)} (h : OwM y B v ms) {a : Option Addr} {k c : Nat} (hn : Qmi y (.slice a k c) ns) (hB : B <= y.heap.size) (hl : ms.length + ns.length <= 2000) (ty : TypeId) :
    ∃ v' y', (Builtin.append_ #[22, 22] ty #[v, .slice a k c]).run Try.prog y = .ok v' y' /\ OwM y' B v' (ms ++ ns) /\ y.grownBy y' v.ownBlock := by
  obtain ⟨i, hi0, hi1⟩ := Option.map_eq_some_iff.1 Qjx; simp only [Prod.mk.injEq] at hi1; obtain ⟨⟨a', c', e, hr⟩, hin⟩ := hn; injection e with e1 e2 e3; subst e1 e2 e3
  cases a with
  | none =>
    obtain rfl : ns = [] := by
      rcases Nat.eq_zero_or_pos ns.length with h0 | h0
      · exact List.eq_nil_of_length_eq_zero h0
      · obtain ⟨b, off, e, _⟩ := hr h0; cases e
    rw [List.append_nil]; refine ⟨v, y, ?_, h, World.grownBy.refl y _⟩
    rcases h.2 with ⟨rfl, _⟩ | ⟨g', cap, cur, rfl, hb, hr, hn, _⟩
    · simp [Builtin.append_, run_underlying (P := Try.prog) Try.underlying22, sizeOf, typeInfo, hi0, Builtin.lenOf, Builtin.firstCells]
    · simp [Builtin.append_, run_underlying (P := Try.prog) Try.underlying22, sizeOf, typeInfo, hi0, Builtin.lenOf, Builtin.firstCells, hn, storeCells]
  | some ad =>
    obtain ⟨v', y', r1, r2, r3, _⟩ := run_append_own_at (P := Try.prog) (w := y) B 22 ty 46 i (.agg Qvc) 14 160 Try.underlying22 hi0 hi1.1 hi1.2.1 hi1.2.2 rfl (by omega) v ms.length (Qjd ms) h ad ns.length c (Qjd ns) (Qrx ns) (fun j u hu => by
      have hj : j < ns.length * 14 := by
        have h9 := (List.getElem?_eq_some_iff.1 hu).1; rwa [Qrx] at h9
      have hpos : 0 < ns.length := by omega
      obtain ⟨b, off, e, hb, hcell⟩ := hr hpos; injection e with e; subst e; have hi2 : j / 14 < ns.length := by omega
      have hj2 : j % 14 < 14 := Nat.mod_lt _ (by omega); have hd : j / 14 * 14 + j % 14 = j := by omega
      have h8 := Qdj rcF 14 (fun _ => rfl) rcZ ns (j / 14) (j % 14) hi2 hj2; rw [hd] at h8; have h7 := hcell (j / 14) hi2 (j % 14) u (by rw [<- h8]; exact hu); rw [Addr.add_lit]; rw [show off + j / 14 * 14 + j % 14 = off + j by omega] at h7
      exact h7) (Qhy (fun m hm => (hin m hm).2)) (by unfold maxLen; omega) (by omega) hB
    refine ⟨v', y', r1, ?_, r3⟩; show y'.ownsRow _ _ _ _ (ms ++ ns).length (Qjd (ms ++ ns)); rw [List.length_append, Qip]; exact r2
end Go.Proofs.Ytkgniegdefaieaa
