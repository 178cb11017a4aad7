/-
  Texts that lean on one another, one behind the other: each opens with its own remark.
-/
import Derived.Test.YtohdmmfmjadipaaRows
import Derived.Deep.RegionHeld3
import Derived.Test.YtohdmmfmjadipaaK07
import Derived.Test.YtohdmmfmjadipaaK03
import Derived.Test.YtohdmmfmjadipaaK06
import Derived.Test.YtohdmmfmjadipaaK04

/-
  The contract of quaysideref15's change.
-/
namespace Go.Proofs.Ytohdmmfmjadipaa
open Go.RowKit
set_option linter.unusedVariables false

def acA (ac : Ac) : Array Value := #[.int .i64 ac.k, .int .i64 ac.n, .int .i64 ac.t, .int .i64 ac.pg, .int .i64 ac.sl, .bool ac.d, .string ac.v]
structure Ac.fits (ac : Ac) : Prop where
  k : (Lit.int .i64 ac.k).wf = true
  n : (Lit.int .i64 ac.n).wf = true
  t : (Lit.int .i64 ac.t).wf = true
  pg : (Lit.int .i64 ac.pg).wf = true
  sl : (Lit.int .i64 ac.sl).wf = true
  v : ac.v.size ≤ 9223372036854775807
/-- What the walks below want of a history's size. -/
structure Hs.few (h : Hs) : Prop where
  ck : ∀ n, n < 3 → h.ck n ≤ 50000
  hi : h.hi ≤ 50000
  pl : ∀ p, p < 4 → (h.pg p).l ≤ 50000
  ct : ∀ n, n < 3 → 0 ≤ h.ct n ∧ h.ct n ≤ 50000
  lg : ∀ n, n < 3 → (h.lg n).length ≤ 900
  past : ∀ p, p < 4 → (h.past p).length ≤ 900
theorem begun_no {h : Hs} {n i : Nat} (e : ¬ (h.tx i).nr = 0) : h.begun n i = h := by unfold Hs.begun; rw [if_neg e]
theorem begun_yes {h : Hs} {n i : Nat} (e : (h.tx i).nr = 0) : h.begun n i = (h.setCt n (h.ct n + 1)).setTx i ⟨h.ct n + 1, 1, (h.tx i).last, (h.tx i).next⟩ := by unfold Hs.begun; rw [if_pos e]
theorem setTx_two (h : Hs) (i : Nat) (a b : Tu) : (h.setTx i a).setTx i b = h.setTx i b := by
  unfold Hs.setTx upd
  simp only [Hs.mk.injEq, true_and, and_true]
  funext j
  by_cases e : j = i <;> simp [e]
theorem ceA_get15 (Q : Pg) (s : Nat) (hs : s < 8) : ∀ j, j < 2 → (pgA Q)[1 + s * 2 + j]? = (ceA (Q.u s) (Q.s s))[j]? := by
  intro j hj
  rcases (show j = 0 ∨ j = 1 by omega) with rfl | rfl
  · exact pgA_used Q s hs
  · exact pgA_val Q s hs
theorem load_cel15 (y : World) (g : Nat) (u : Bool) (v : ByteArray) (h : RowAt y g 63 (ceA u v)) : (Instr.loadAt 63 (.pointer (some ⟨g, 0, none⟩))).run Try.prog y = .ok (.agg #[.bool u, .string v]) y := by
  have h1 := run_loadAt_mid (P := Try.prog) y g 0 63 (ceA u v).toList _ (fun j u hu => by rw [Nat.zero_add]; exact h.cell j u (by simpa using hu)) Try.underlying63 rfl (by rw [infoCe15]; rfl)
  rwa [Array.toArray_toList] at h1
theorem rec_fits15c {r : Rec} (h : r.c.fits) (h1 : r.ts = []) (h2 : r.ds = []) : r.fits := by
  refine ⟨h, by rw [h1]; exact Nat.zero_le _, by rw [h2]; exact Nat.zero_le _, fun x hx => ?_, fun x hx => ?_⟩
  · rw [h1] at hx
    cases hx
  · rw [h2] at hx
    cases hx
theorem of_right15 (pg sl : Int) (fu : Bool) (fv : ByteArray) (tu : Bool) (tv : ByteArray) (h : Go.Proofs.Ytohdmmfmjadipaa.ofE pg sl fu fv tu tv = 0) : (Go.Proofs.Ytohdmmfmjadipaa.ofC pg sl fu fv tu tv).right := by
  unfold Go.Proofs.Ytohdmmfmjadipaa.ofC
  rw [if_pos h]
  unfold Go.Proofs.Ytohdmmfmjadipaa.ofE at h
  by_cases h1 : (fu = false ∧ fv.size ≠ 0) ∨ (tu = false ∧ tv.size ≠ 0)
  · rw [if_pos h1] at h
    cases h
  · rw [if_neg h1] at h
    by_cases h2 : (rawC pg sl fu fv tu tv).right
    · exact h2
    · rw [if_pos h2] at h
      cases h
/-- The pages, as a walk looks at them. -/
theorem HB.pgs {w : World} {B g : Nat} {F : Nat → Prop} {h : Hs} (H : HB w B g F h) : ∃ gp, w.cell? ⟨g, 1, none⟩ = some (.slice (some ⟨gp, 0, none⟩) 4 4) ∧ ∀ p s, p < 4 → s < 8 → (Instr.loadAt 63 (.pointer (some ⟨gp, p * 17 + 1 + s * 2, none⟩))).run Try.prog w = .ok (.agg (ceA ((h.pg p).u s) ((h.pg p).s s))) w := by
  obtain ⟨x, HX, _⟩ := H
  refine ⟨x.gp, HX.blk.cell _ _ HX.cells.c1, fun p s hp hs => ?_⟩
  have hl := HX.pat p hp
  have hlz : (pgA (h.pg p)).toList.length = 17 := rfl
  have h1 := load_part (P := Try.prog) w 77 63 x.gp (p * 17 + 1 + s * 2) 2 x.cp HX.prow _ Try.underlying63 rfl infoCe15 (by rw [HX.psz]; omega)
  have h2 : Lies x.cp (p * 17 + 1 + s * 2) (ceA ((h.pg p).u s) ((h.pg p).s s)).toList := fun j hj => by
    have hj2 : j < 2 := hj
    have h3 := hl (1 + s * 2 + j) (by rw [hlz]; omega)
    rw [show p * 17 + (1 + s * 2 + j) = p * 17 + 1 + s * 2 + j by omega] at h3
    rw [h3, Array.getElem?_toList, Array.getElem?_toList]
    exact ceA_get15 _ s hs j hj2
  rw [h2.ext 2 rfl (by rw [HX.psz]; omega)] at h1
  exact h1
theorem HB.pgs_later {w y : World} {B g : Nat} {F : Nat → Prop} {h : Hs} (H : HB w B g F h) (hb : Below w.heap.size w y) : HB y B g F h := H.later hb
set_option maxRecDepth 8000 in
set_option maxHeartbeats 6000000 in
theorem hchange15 (w : World) (B g n i o : Nat) (F : Nat → Prop) (h : Hs) (ac : Ac) (H : HB w B g F h) (hn : n < 3) (hi : i < 9) (ho : o = 9 + i * 4) (hf : ac.fits) (hw : h.few) :
    Calls Try.prog 52 #[.pointer (some ⟨g, 0, none⟩), .int .i64 (n : Int), .pointer (some ⟨g, o, none⟩), .agg (acA ac)] w fun e w' => ∃ F', e = .returned (.tuple #[]) ∧ HB w' B g F' (h.change n i ac) ∧ Aft15 F F' w w' := by
  have HO := hide ho
  have HW := hide hw
  have HFT := hide hf
  have i3 : (n : Int) < 3 := by omega
  have hac : acA ac = #[.int .i64 ac.k, .int .i64 ac.n, .int .i64 ac.t, .int .i64 ac.pg, .int .i64 ac.sl, .bool ac.d, .string ac.v] := rfl
  rw [hac]
  have hb0 : Below w.heap.size w (w.alloc (.cells #[.int .i64 ac.k, .int .i64 ac.n, .int .i64 ac.t, .int .i64 ac.pg, .int .i64 ac.sl, .bool ac.d, .string ac.v] 95)) := (Below.refl _ _).alloc (Nat.le_refl _) _
  obtain ⟨g7, hg7⟩ : ∃ k, k = w.heap.size := ⟨_, rfl⟩
  have HG7 := hide hg7
  have H0 : Hid (HB (w.alloc (.cells #[.int .i64 ac.k, .int .i64 ac.n, .int .i64 ac.t, .int .i64 ac.pg, .int .i64 ac.sl, .bool ac.d, .string ac.v] 95)) B g F h ∧ RowAt (w.alloc (.cells #[.int .i64 ac.k, .int .i64 ac.n, .int .i64 ac.t, .int .i64 ac.pg, .int .i64 ac.sl, .bool ac.d, .string ac.v] 95)) g7 95 #[.int .i64 ac.k, .int .i64 ac.n, .int .i64 ac.t, .int .i64 ac.pg, .int .i64 ac.sl, .bool ac.d, .string ac.v] ∧ Aft15 F F w (w.alloc (.cells #[.int .i64 ac.k, .int .i64 ac.n, .int .i64 ac.t, .int .i64 ac.pg, .int .i64 ac.sl, .bool ac.d, .string ac.v] 95)) ∧ ¬ F g7) := by
    rw [hg7]
    exact ⟨H.later hb0, RowAt.new w _ _, Aft15.first hb0 (Aft15.refl _ _), fun hk => by have := (H.here hk).2; omega⟩
  have HP1 := hide (fun w => (hpick15 ac.pg 4 w hf.pg (by decide) (by decide)).mono (fun e w' h => And.intro h.1 h.2.symm))
  have HP2 := hide (fun w => (hpick15 ac.sl 8 w hf.sl (by decide) (by decide)).mono (fun e w' h => And.intro h.1 h.2.symm))
  obtain ⟨p, hp⟩ : ∃ p, p = pick15 ac.pg 4 := ⟨_, rfl⟩
  obtain ⟨s, hs⟩ : ∃ p, p = pick15 ac.sl 8 := ⟨_, rfl⟩
  have p4 : p < 4 := by rw [hp]; exact pick15_lt _ _ (by decide)
  have s8 : s < 8 := by rw [hs]; exact pick15_lt _ _ (by decide)
  have ip4 : (p : Int) < 4 := by omega
  have is8 : (s : Int) < 8 := by omega
  rw [← hp] at HP1
  rw [← hs] at HP2
  have HCH : Hid (h.change n i ac = (h.begun n i).change1 n i p s ac) := by rw [hp, hs]; rfl
  clear hb0 hg7 H hp hs hac ho hf hw
  go_enter Try.func52, Try.ntmps52
  go_wp2_with fail
  rw [← HG7.out]
  refine gen_wp (fun y => HB y B g F h ∧ RowAt y g7 95 #[.int .i64 ac.k, .int .i64 ac.n, .int .i64 ac.t, .int .i64 ac.pg, .int .i64 ac.sl, .bool ac.d, .string ac.v] ∧ Aft15 F F w y ∧ ¬ F g7) H0.out ?_
  intro y HY0
  have HY := hide HY0
  have a3 := HY.out.2.1.cell 3 (.int .i64 ac.pg) rfl
  have a4 := HY.out.2.1.cell 4 (.int .i64 ac.sl) rfl
  clear HY0 H0
  go_quiet (first | (go_at_call 51; first | with_reducible exact Calls.quiet_of_same (HP1.out _) | with_reducible exact Calls.quiet_of_same (HP2.out _)))
  clear a3 a4 HP1 HP2
  refine gen_w (fun y => HB y B g F h ∧ RowAt y g7 95 #[.int .i64 ac.k, .int .i64 ac.n, .int .i64 ac.t, .int .i64 ac.pg, .int .i64 ac.sl, .bool ac.d, .string ac.v] ∧ Aft15 F F w y ∧ ¬ F g7) (show _ from ⟨HY.out.1.later (below_dn (Below.refl _ _) _), HY.out.2.1, HY.out.2.2.1.later (below_dn (Below.refl _ _) _), HY.out.2.2.2⟩) ?_
  clear HY
  intro y HY0
  have HY := hide HY0
  clear HY0
  have t0 := (HY.out.1.tu hi HO.out).1
  by_cases e0 : (h.tx i).nr = 0
  · have HBE := hide (begun_yes (n := n) e0)
    rw [e0] at t0
    go_wp2_with fail
    clear t0
    refine wp_region_noPanic ?_
    refine wp_region_held_drew (S := fun _ => True) (by kernel_rfl) trivial (fun hHeld => ?_)
    refine hand_take 0 (some 26) (.pointer (some ⟨g, 0, none⟩)) rfl rfl (by kernel_rfl) (by kernel_rfl) (by kernel_rfl) (fun _ _ _ h => h) (Or.inl ⟨by kernel_rfl, fun x' hSx => by go_simp⟩) hHeld ?_
    try simp only [Act.put, List.setIfInBounds_toArray, List.set_cons_zero, List.set_cons_succ]
    refine hand_take 1 (some 27) (.int .i64 (n : Int)) rfl rfl (by kernel_rfl) (by kernel_rfl) (by kernel_rfl) (fun _ _ _ h => h) (Or.inl ⟨by kernel_rfl, fun x' hSx => by go_simp⟩) hHeld ?_
    try simp only [Act.put, List.setIfInBounds_toArray, List.set_cons_zero, List.set_cons_succ]
    refine hand_take 2 (some 28) (.pointer (some ⟨g, 0, none⟩)) rfl rfl (by kernel_rfl) (by kernel_rfl) (by kernel_rfl) (fun _ _ _ h => h) (Or.inl ⟨by kernel_rfl, fun x' hSx => by go_simp⟩) hHeld ?_
    try simp only [Act.put, List.setIfInBounds_toArray, List.set_cons_zero, List.set_cons_succ]
    refine hand_take 3 (some 29) (.pointer (some ⟨g, 6, none⟩)) rfl rfl (by kernel_rfl) (by kernel_rfl) (by kernel_rfl) (fun _ _ _ h => h) (Or.inl ⟨by kernel_rfl, fun x' hSx => by go_simp⟩) hHeld ?_
    try simp only [Act.put, List.setIfInBounds_toArray, List.set_cons_zero, List.set_cons_succ]
    refine hand_take 4 (some 30) (.pointer (some ⟨g, 6 + n, none⟩)) rfl rfl (by kernel_rfl) (by kernel_rfl) (by kernel_rfl) (fun _ _ _ h => h) (Or.inl ⟨by kernel_rfl, fun x' hSx => by go_simp⟩) hHeld ?_
    try simp only [Act.put, List.setIfInBounds_toArray, List.set_cons_zero, List.set_cons_succ]
    refine hand_take 7 (some 33) (.pointer (some ⟨g, 0, none⟩)) rfl rfl (by kernel_rfl) (by kernel_rfl) (by kernel_rfl) (fun _ _ _ h => h) (Or.inl ⟨by kernel_rfl, fun x' hSx => by go_simp⟩) hHeld ?_
    try simp only [Act.put, List.setIfInBounds_toArray, List.set_cons_zero, List.set_cons_succ]
    refine hand_take 8 (some 34) (.pointer (some ⟨g, 6, none⟩)) rfl rfl (by kernel_rfl) (by kernel_rfl) (by kernel_rfl) (fun _ _ _ h => h) (Or.inl ⟨by kernel_rfl, fun x' hSx => by go_simp⟩) hHeld ?_
    try simp only [Act.put, List.setIfInBounds_toArray, List.set_cons_zero, List.set_cons_succ]
    refine hand_one 5 (by kernel_rfl) ?_
    have cnt := HY.out.1.ct hn
    have hct := HW.out.ct n hn
    obtain ⟨q, hq⟩ : ∃ q, q = h.ct n := ⟨_, rfl⟩
    rw [← hq] at cnt hct HBE
    have HQ := hide hq
    clear hq
    refine hand_run (some 31) rfl rfl rfl (.int .i64 q) y.drew ?hz ?_
    (case hz => go_simp)
    refine ⟨trivial, ?_⟩
    try simp only [Act.put, List.setIfInBounds_toArray, List.set_cons_zero, List.set_cons_succ]
    have ewq : IntKind.i64.wrap (q + 1) = q + 1 := by rw [IntKind.wrap_i64]; omega
    refine hand_take 6 (some 32) (.int .i64 (q + 1)) rfl rfl (by kernel_rfl) (by kernel_rfl) (by kernel_rfl) (fun _ _ _ h => h) (Or.inl ⟨by kernel_rfl, fun x' hSx => by go_simp⟩) hHeld ?_
    try simp only [Act.put, List.setIfInBounds_toArray, List.set_cons_zero, List.set_cons_succ]
    refine hand_take 9 (some 35) (.pointer (some ⟨g, 6 + n, none⟩)) rfl rfl (by kernel_rfl) (by kernel_rfl) (by kernel_rfl) (fun _ _ _ h => h) (Or.inl ⟨by kernel_rfl, fun x' hSx => by go_simp⟩) hHeld ?_
    try simp only [Act.put, List.setIfInBounds_toArray, List.set_cons_zero, List.set_cons_succ]
    refine hand_one 10 (by kernel_rfl) ?_
    have fr := HY.out.1.free (6 + n)
    refine hand_skip15 rfl rfl rfl (y.drew.setCell ⟨g, 6 + n, none⟩ (.int .i64 (q + 1))) ?hs ?_
    (case hs => go_simp)
    refine ⟨trivial, ?_⟩
    try simp only [Act.put, List.setIfInBounds_toArray, List.set_cons_zero, List.set_cons_succ]
    refine wpAnyH_done (by kernel_rfl) ?_ _
    refine NoPanic.normal ?_
    have q1 := HY.out.1.drew.cell (h' := h.setCt n (q + 1)) (6 + n) (.int .i64 (q + 1)) (fun cs a b c H => H.setCt hn (q + 1)) rfl rfl rfl
    have H1 : Hid (HB (y.drew.setCell ⟨g, 6 + n, none⟩ (.int .i64 (q + 1))) B g F (h.setCt n (q + 1)) ∧ RowAt (y.drew.setCell ⟨g, 6 + n, none⟩ (.int .i64 (q + 1))) g7 95 #[.int .i64 ac.k, .int .i64 ac.n, .int .i64 ac.t, .int .i64 ac.pg, .int .i64 ac.sl, .bool ac.d, .string ac.v] ∧ Aft15 F F w (y.drew.setCell ⟨g, 6 + n, none⟩ (.int .i64 (q + 1))) ∧ ¬ F g7) := ⟨q1.1, HY.out.2.1.other ⟨g, 6 + n, none⟩ _ (fun e => HY.out.2.2.2 (by rw [show g7 = g from e]; exact HY.out.1.mine)), (HY.out.2.2.1.later (below_drew (Below.refl _ _))).trans q1.2, HY.out.2.2.2⟩
    clear q1 fr cnt hHeld HY
    refine gen_w (fun y => HB y B g F (h.setCt n (q + 1)) ∧ RowAt y g7 95 #[.int .i64 ac.k, .int .i64 ac.n, .int .i64 ac.t, .int .i64 ac.pg, .int .i64 ac.sl, .bool ac.d, .string ac.v] ∧ Aft15 F F w y ∧ ¬ F g7) H1.out ?_
    clear H1
    intro y HY0
    have HY := hide HY0
    clear HY0
    have cnt : y.cell? ⟨g, 6 + n, none⟩ = some (.int .i64 (q + 1)) := by
      have h9 := HY.out.1.ct hn
      rw [show (h.setCt n (q + 1)).ct n = q + 1 from upd_same _ _ _] at h9
      exact h9
    have hnec : ¬ g = g7 := fun e => HY.out.2.2.2 (by rw [← e]; exact HY.out.1.mine)
    obtain ⟨t0, t1, -, -⟩ := HY.out.1.tu hi HO.out
    have f0 := HY.out.1.free o
    have f1 := HY.out.1.free (o + 1)
    go_wp2_with (with_reducible refine stop_at 55 rfl ?_)
    have HBQ : Hid (h.begun n i = ((h.setCt n (q + 1)).setTx i ⟨q + 1, (h.tx i).st, (h.tx i).last, (h.tx i).next⟩).setTx i ⟨q + 1, 1, (h.tx i).last, (h.tx i).next⟩) := by
      show h.begun n i = _
      rw [HBE.out, setTx_two]
    have q1 := HY.out.1.cell (h' := (h.setCt n (q + 1)).setTx i ⟨q + 1, (h.tx i).st, (h.tx i).last, (h.tx i).next⟩) o (.int .i64 (q + 1)) (fun cs a b c H => by rw [HO.out]; exact H.setTx hi _ 0 (by omega) _ rfl (fun k hk he => by
      rcases (show k = 0 ∨ k = 1 ∨ k = 2 ∨ k = 3 by omega) with rfl | rfl | rfl | rfl
      · exact absurd rfl he
      · rfl
      · rfl
      · rfl)) rfl rfl rfl
    have q2 := q1.1.cell (h' := ((h.setCt n (q + 1)).setTx i ⟨q + 1, (h.tx i).st, (h.tx i).last, (h.tx i).next⟩).setTx i ⟨q + 1, 1, (h.tx i).last, (h.tx i).next⟩) (o + 1) (.int .i64 1) (fun cs a b c H => by rw [HO.out]; exact H.setTx hi _ 1 (by omega) _ rfl (fun k hk he => by
      show tcell _ k = tcell (upd _ i _ i) k
      rw [upd_same]
      rcases (show k = 0 ∨ k = 1 ∨ k = 2 ∨ k = 3 by omega) with rfl | rfl | rfl | rfl
      · rfl
      · exact absurd rfl he
      · rfl
      · rfl)) rfl rfl rfl
    rw [← HBQ.out] at q2
    have hn7 : ∀ (z : World) (j : Nat) (v : Value), RowAt z g7 95 #[.int .i64 ac.k, .int .i64 ac.n, .int .i64 ac.t, .int .i64 ac.pg, .int .i64 ac.sl, .bool ac.d, .string ac.v] → RowAt (z.setCell ⟨g, j, none⟩ v) g7 95 #[.int .i64 ac.k, .int .i64 ac.n, .int .i64 ac.t, .int .i64 ac.pg, .int .i64 ac.sl, .bool ac.d, .string ac.v] := fun z j v hz => hz.other _ _ (fun e => hnec e.symm)
    have H1 : Hid (HB ((y.setCell ⟨g, o, none⟩ (.int .i64 (q + 1))).setCell ⟨g, o + 1, none⟩ (.int .i64 1)) B g F (h.begun n i) ∧ RowAt ((y.setCell ⟨g, o, none⟩ (.int .i64 (q + 1))).setCell ⟨g, o + 1, none⟩ (.int .i64 1)) g7 95 #[.int .i64 ac.k, .int .i64 ac.n, .int .i64 ac.t, .int .i64 ac.pg, .int .i64 ac.sl, .bool ac.d, .string ac.v] ∧ Aft15 F F w ((y.setCell ⟨g, o, none⟩ (.int .i64 (q + 1))).setCell ⟨g, o + 1, none⟩ (.int .i64 1)) ∧ ¬ F g7) := ⟨q2.1, hn7 _ _ _ (hn7 _ _ _ HY.out.2.1), (HY.out.2.2.1.trans q1.2).trans q2.2, HY.out.2.2.2⟩
    have HBF : Hid ((h.begun n i).lg = h.lg ∧ (h.begun n i).pg = h.pg ∧ (h.begun n i).past = h.past ∧ (h.begun n i).ck = h.ck ∧ (h.begun n i).hi = h.hi) := by
      show _ ∧ _
      rw [HBQ.out]
      exact ⟨rfl, rfl, rfl, rfl, rfl⟩
    clear q1 q2 hn7 cnt t0 t1 f0 f1 HBQ HBE HY hct HQ ewq
    refine gen_wp (fun y => HB y B g F (h.begun n i) ∧ RowAt y g7 95 #[.int .i64 ac.k, .int .i64 ac.n, .int .i64 ac.t, .int .i64 ac.pg, .int .i64 ac.sl, .bool ac.d, .string ac.v] ∧ Aft15 F F w y ∧ ¬ F g7) H1.out ?_
    clear H1
    intro y HY0
    have HY := hide HY0
    clear HY0
    obtain ⟨hb, hhb⟩ : ∃ hb, hb = h.begun n i := ⟨_, rfl⟩
    rw [← hhb] at HY HBF HCH
    clear hhb
    obtain ⟨t0, t1, -, -⟩ := HY.out.1.tu hi HO.out
    obtain ⟨l0, l1, -, -⟩ := HY.out.1.lo (show p * 8 + s < 32 by omega)
    rw [show 45 + (p * 8 + s) * 4 = 45 + p * 32 + s * 4 by omega] at l0 l1
    have HBAR : Hid (hb.barred n i (p * 8 + s) = (decide ((hb.tx i).st ≠ 1) || (decide ((hb.lk (p * 8 + s)).nr ≠ 0) && (decide ((hb.lk (p * 8 + s)).nd ≠ (n : Int)) || decide ((hb.lk (p * 8 + s)).nr ≠ (hb.tx i).nr))))) := rfl
    obtain ⟨nr, hnr⟩ : ∃ c, c = (hb.tx i).nr := ⟨_, rfl⟩
    obtain ⟨st, hst⟩ : ∃ c, c = (hb.tx i).st := ⟨_, rfl⟩
    obtain ⟨lnd, hlnd⟩ : ∃ c, c = (hb.lk (p * 8 + s)).nd := ⟨_, rfl⟩
    obtain ⟨lnr, hlnr⟩ : ∃ c, c = (hb.lk (p * 8 + s)).nr := ⟨_, rfl⟩
    rw [← hnr] at t0 HBAR
    rw [← hst] at t1 HBAR
    rw [← hlnd] at l0 HBAR
    rw [← hlnr] at l1 HBAR
    have HNR := hide hnr
    have HLNR := hide hlnr
    clear hnr hst hlnd hlnr
    by_cases e1 : st = 1
    · rw [e1] at t1
      by_cases e2 : lnr = 0
      · rw [e2] at l1
        have HNB : Hid (hb.barred n i (p * 8 + s) = false) := by show _ = false; rw [HBAR.out, e1, e2]; simp
        clear HBAR
        go_wp2_with fail
        go_quiet (fail)
        clear l0 l1 t0 t1
        refine gen_w (fun y => HB y B g F hb ∧ RowAt y g7 95 #[.int .i64 ac.k, .int .i64 ac.n, .int .i64 ac.t, .int .i64 ac.pg, .int .i64 ac.sl, .bool ac.d, .string ac.v] ∧ Aft15 F F w y ∧ ¬ F g7) (show _ from ⟨HY.out.1.later (below_dn (Below.refl _ _) _), HY.out.2.1, HY.out.2.2.1.later (below_dn (Below.refl _ _) _), HY.out.2.2.2⟩) ?_
        clear HY
        intro y HY0
        have HY := hide HY0
        clear HY0
        obtain ⟨gp, cp1, LCE⟩ := HY.out.1.pgs
        have LD := hide (LCE p s p4 s8)
        clear LCE
        have HBF2 : Hid (hb.ofE p s ac = Go.Proofs.Ytohdmmfmjadipaa.ofE (p : Int) (s : Int) ((hb.pg p).u s) ((hb.pg p).s s) ac.toU ac.toV ∧ hb.ofC p s ac = Go.Proofs.Ytohdmmfmjadipaa.ofC (p : Int) (s : Int) ((hb.pg p).u s) ((hb.pg p).s s) ac.toU ac.toV) := ⟨rfl, rfl⟩
        obtain ⟨fu, hfu⟩ : ∃ c, c = (hb.pg p).u s := ⟨_, rfl⟩
        obtain ⟨fv, hfv⟩ : ∃ c, c = (hb.pg p).s s := ⟨_, rfl⟩
        rw [← hfu, ← hfv] at LD HBF2
        have HFU : Hid (fu = (hb.pg p).u s ∧ fv = (hb.pg p).s s) := ⟨hfu, hfv⟩
        clear hfu hfv
        go_wp2_with (with_reducible refine stop_at 95 rfl ?_)
        refine unstop10 ?_
        refine wpList_load_val rfl 63 (.tmp 94) rfl _ (.agg (ceA fu fv)) rfl LD.out ?_
        obtain ⟨ga, hga⟩ : ∃ k, k = y.heap.size := ⟨_, rfl⟩
        have hb1 : Below y.heap.size y (y.alloc (.cells (ceA false ⟨#[]⟩) 63)) := (Below.refl _ _).alloc (Nat.le_refl _) _
        have N1 : Hid (RowAt (y.alloc (.cells (ceA false ⟨#[]⟩) 63)) ga 63 (ceA false ⟨#[]⟩) ∧ Below y.heap.size y (y.alloc (.cells (ceA false ⟨#[]⟩) 63))) := by rw [hga]; exact ⟨RowAt.new y _ _, hb1⟩
        have HGA := hide hga
        clear hb1 hga LD cp1
        go_wp2_with (refine wpList_store_at rfl 63 (.tmp 11) (.tmp 95) rfl ga (ceA false ⟨#[]⟩) (ceA fu fv) ?h1 rfl N1.out.1 infoCe15 rfl (ceA_one _ _) ?_; (case h1 => rw [HGA.out]; rfl); intro y1 hr1 hk1 hrow1; refine stop10 ?_)
        have hb1 := hk1 _ _ N1.out.2 (by rw [HGA.out]; exact Nat.le_refl _)
        have H1 : Hid (HB y1 B g F hb ∧ RowAt y1 g7 95 #[.int .i64 ac.k, .int .i64 ac.n, .int .i64 ac.t, .int .i64 ac.pg, .int .i64 ac.sl, .bool ac.d, .string ac.v] ∧ RowAt y1 ga 63 (ceA fu fv) ∧ Aft15 F F w y1 ∧ ¬ F g7 ∧ ¬ F ga) := ⟨HY.out.1.later hb1, HY.out.2.1.later hb1, hr1, HY.out.2.2.1.later hb1, HY.out.2.2.2, fun hk => by have := (HY.out.1.here hk).2; have := HGA.out; omega⟩
        clear hr1 hk1 hrow1 hb1 N1 HY
        refine unstop10 ?_
        have a6 := H1.out.2.1.cell 6 (.string ac.v) rfl
        have a5 := H1.out.2.1.cell 5 (.bool ac.d) rfl
        have hvs := HFT.out.v
        obtain ⟨m20, hm20⟩ : ∃ m, m = min 20 ac.v.size := ⟨_, rfl⟩
        have hmn1 : (if ac.v.size < 20 then (ac.v.size : Int) else 20) = (m20 : Int) := by rw [hm20]; by_cases hq : ac.v.size < 20 <;> simp [hq] <;> omega
        have hmn2 : (if ((ac.v.size : Nat) : Int) < 20 then (ac.v.size : Int) else 20) = (m20 : Int) := by rw [hm20]; by_cases hq : (ac.v.size : Int) < 20 <;> simp [hq] <;> omega
        have hml : m20 ≤ ac.v.size := by omega
        have hml2 : (m20 : Int) ≤ (ac.v.size : Int) := by omega
        have hcut : Hid (cut20 ac.v = ac.v.extract 0 m20) := by rw [hm20]; rfl
        clear hm20
        rw [← HGA.out]
        obtain ⟨gb, hgb⟩ : ∃ k, k = y1.heap.size := ⟨_, rfl⟩
        have hb2 : Below y1.heap.size y1 (y1.alloc (.cells (ceA false ⟨#[]⟩) 63)) := (Below.refl _ _).alloc (Nat.le_refl _) _
        have N2 : Hid (RowAt (y1.alloc (.cells (ceA false ⟨#[]⟩) 63)) gb 63 (ceA false ⟨#[]⟩) ∧ Below y1.heap.size y1 (y1.alloc (.cells (ceA false ⟨#[]⟩) 63))) := by rw [hgb]; exact ⟨RowAt.new y1 _ _, hb2⟩
        have HGB := hide hgb
        clear hb2 hgb
        go_wp2_with (refine wpList_store_at rfl 63 (.tmp 12) (.tmp 103) rfl gb (ceA false ⟨#[]⟩) (ceA true (ac.v.extract 0 m20)) ?h1 rfl N2.out.1 infoCe15 rfl (ceA_one _ _) ?_; (case h1 => rw [HGB.out]; rfl); intro y2 hr2 hk2 hrow2; refine stop10 ?_)
        have hb2 := hk2 _ _ N2.out.2 (by rw [HGB.out]; exact Nat.le_refl _)
        have H2 : Hid (HB y2 B g F hb ∧ RowAt y2 g7 95 #[.int .i64 ac.k, .int .i64 ac.n, .int .i64 ac.t, .int .i64 ac.pg, .int .i64 ac.sl, .bool ac.d, .string ac.v] ∧ RowAt y2 ga 63 (ceA fu fv) ∧ RowAt y2 gb 63 (ceA true (ac.v.extract 0 m20)) ∧ Aft15 F F w y2 ∧ ¬ F g7 ∧ ¬ F ga ∧ ¬ F gb ∧ ga ≠ gb ∧ w.heap.size ≤ gb) := ⟨H1.out.1.later hb2, H1.out.2.1.later hb2, H1.out.2.2.1.later hb2, hr2, H1.out.2.2.2.1.later hb2, H1.out.2.2.2.2.1, H1.out.2.2.2.2.2, fun hk => by have := (H1.out.1.here hk).2; have := HGB.out; omega, fun e => by have := H1.out.2.2.1.lt; have := HGB.out; omega, by rw [HGB.out]; exact H1.out.2.2.2.1.1.size⟩
        clear hr2 hk2 hrow2 hb2 N2 a6 a5 H1 hmn1 hmn2 hml hml2
        refine unstop10 ?_
        rw [← HGB.out]
        have a5 := H2.out.2.1.cell 5 (.bool ac.d) rfl
        cases hd : ac.d with
        | true =>
          rw [hd] at a5
          go_wp2_with (refine wpList_store_at rfl 63 (.tmp 12) (.tmp 106) rfl gb (ceA true (ac.v.extract 0 m20)) (ceA false ⟨#[]⟩) rfl rfl H2.out.2.2.2.1 infoCe15 rfl (ceA_one _ _) ?_; intro y3 hr3 hk3 hrow3; refine stop10 ?_)
          have ho3 : HB y3 B g F hb := by
            obtain ⟨xx, hxx, hff⟩ := H2.out.1
            exact ⟨xx, hxx.keep (fun k t cs hk hr => hrow3 k t cs (fun e => H2.out.2.2.2.2.2.2.2.1 (by rw [hff, ← e]; exact hk)) hr), hff⟩
          have hb3 := hk3 _ _ (Below.refl w.heap.size y2) H2.out.2.2.2.2.2.2.2.2.2
          have H3 : Hid (HB y3 B g F hb ∧ RowAt y3 ga 63 (ceA fu fv) ∧ RowAt y3 gb 63 (ceA ac.toU ac.toV) ∧ Aft15 F F w y3) := by
            have e1 : ac.toU = false := by unfold Ac.toU; rw [hd]; rfl
            have e2 : ac.toV = ⟨#[]⟩ := by unfold Ac.toV; rw [hd, if_pos rfl]
            rw [e1, e2]
            exact ⟨ho3, hrow3 ga _ _ H2.out.2.2.2.2.2.2.2.2.1 H2.out.2.2.1, hr3, ⟨⟨hb3.os.trans H2.out.2.2.2.2.1.1.os, hb3.tape.trans H2.out.2.2.2.2.1.1.tape, hb3.output.trans H2.out.2.2.2.2.1.1.output, Nat.le_trans H2.out.2.2.2.2.1.1.size hb3.size, fun k hk hnf => (hb3.block k hk).trans (H2.out.2.2.2.2.1.1.block k hk hnf)⟩, fun k hk => .inl hk⟩⟩
          clear hr3 hk3 hrow3 hb3 ho3 a5
          refine unstop10 ?_
          have HN9 : Hid (¬ F ga ∧ ¬ F gb) := ⟨H2.out.2.2.2.2.2.2.1, H2.out.2.2.2.2.2.2.2.1⟩
          clear H2
          have HOF := hide (fun w => rof_any (p : Int) (s : Int) fu fv ac.toU ac.toV w)
          clear hcut
          generalize Go.Proofs.Ytohdmmfmjadipaa.ofE (p : Int) (s : Int) fu fv ac.toU ac.toV = E at *
          generalize Go.Proofs.Ytohdmmfmjadipaa.ofC (p : Int) (s : Int) fu fv ac.toU ac.toV = C at *
          go_wp2_with (with_reducible refine stop_at 110 rfl ?_)
          refine unstop10 ?_
          refine wpList_load_at rfl 63 (.tmp 11) rfl ga rfl (ceA fu fv) H3.out.2.1 _ Try.underlying63 rfl infoCe15 ?_
          refine wpList_load_at rfl 63 (.tmp 12) rfl gb rfl (ceA ac.toU ac.toV) H3.out.2.2.1 _ Try.underlying63 rfl infoCe15 ?_
          go_wp2_with fail
          refine (HOF.out y3).mono ?_
          rintro e z ⟨rfl, hbz⟩
          have H4 : Hid (HB z B g F hb ∧ RowAt z ga 63 (ceA fu fv) ∧ Aft15 F F w z) := ⟨H3.out.1.later hbz, H3.out.2.1.later hbz, H3.out.2.2.2.later hbz⟩
          clear hbz H3 HOF
          obtain ⟨gc, hgc⟩ : ∃ k, k = z.heap.size := ⟨_, rfl⟩
          have hb5 : Below z.heap.size z (z.alloc (.cells (chA Ch.zero) 26)) := (Below.refl _ _).alloc (Nat.le_refl _) _
          have N5 : Hid (RowAt (z.alloc (.cells (chA Ch.zero) 26)) gc 26 (chA Ch.zero) ∧ Below z.heap.size z (z.alloc (.cells (chA Ch.zero) 26))) := by rw [hgc]; exact ⟨RowAt.new z _ _, hb5⟩
          have HGC := hide hgc
          clear hb5 hgc
          go_wp2_with (refine wpList_store_at rfl 26 (.tmp 13) (.tmp 113) rfl gc (chA Ch.zero) (chA C) ?h1 rfl N5.out.1 infoCh rfl (chA_one _) ?_; (case h1 => rw [HGC.out]; rfl); intro z2 hr2 hk2 hrow2; refine stop10 ?_)
          have hb5 := hk2 _ _ N5.out.2 (by rw [HGC.out]; exact Nat.le_refl _)
          have H5 : Hid (HB z2 B g F hb ∧ RowAt z2 ga 63 (ceA fu fv) ∧ RowAt z2 gc 26 (chA C) ∧ Aft15 F F w z2 ∧ ¬ F gc) := ⟨H4.out.1.later hb5, H4.out.2.1.later hb5, hr2, H4.out.2.2.later hb5, fun hk => by have := (H4.out.1.here hk).2; have := HGC.out; omega⟩
          clear hr2 hk2 hrow2 hb5 N5 H4
          refine unstop10 ?_
          rw [← HGC.out]
          by_cases hE : E = 0
          · rw [hE] at HBF2 ⊢
            have HCR : Hid (C.right ∧ C.pg < 4) := by
              have h9 : hb.ofC p s ac = rawC (p : Int) (s : Int) ((hb.pg p).u s) ((hb.pg p).s s) ac.toU ac.toV := by
                show Go.Proofs.Ytohdmmfmjadipaa.ofC (p : Int) (s : Int) ((hb.pg p).u s) ((hb.pg p).s s) ac.toU ac.toV = _
                unfold Go.Proofs.Ytohdmmfmjadipaa.ofC
                exact if_pos HBF2.out.1
              have h8 := (of_right15 (p : Int) (s : Int) ((hb.pg p).u s) ((hb.pg p).s s) ac.toU ac.toV HBF2.out.1)
              rw [← HBF2.out.2]
              refine ⟨h8, ?_⟩
              rw [h9]
              show (p : Int) < 4
              omega
            obtain ⟨l0, l1, l2, l3⟩ := H5.out.1.lo (show p * 8 + s < 32 by omega)
            rw [show 45 + (p * 8 + s) * 4 = 45 + p * 32 + s * 4 by omega] at l0 l1 l2 l3
            rw [← HLNR.out] at l1
            rw [e2] at l1
            go_wp2_with fail
            clear l0 l1 l2 l3
            obtain ⟨x, HX0, hFx⟩ := H5.out.1
            have HD : Hid (HAt z2.drew B g x hb ∧ RowAt z2.drew ga 63 (ceA fu fv) ∧ RowAt z2.drew gc 26 (chA C) ∧ Aft15 F F w z2.drew ∧ ¬ F gc) := ⟨HX0.drew, H5.out.2.1, H5.out.2.2.1, H5.out.2.2.2.1.later (below_drew (Below.refl _ _)), H5.out.2.2.2.2⟩
            have HFX := hide hFx
            have HFG : Hid (F g) := by show F g; rw [hFx]; exact .inl rfl
            have tnr : z2.drew.cell? ⟨g, o, none⟩ = some (.int .i64 nr) := by rw [HNR.out]; exact HX0.drew.nr hi HO.out
            have hsz : 45 + p * 32 + s * 4 + (#[.int .i64 (n : Int), .int .i64 nr, .bool fu, .string fv] : Array Value).size ≤ x.cs.size := by rw [HX0.cells.1]; show 45 + p * 32 + s * 4 + 4 ≤ 174; omega
            clear HX0 hFx H5
            refine wp_region_noPanic ?_
            refine wp_region_held_drew (S := fun z => RowAt z ga 63 (ceA fu fv) ∧ z.cell? ⟨g, o, none⟩ = some (.int .i64 nr)) (by kernel_rfl) ⟨HD.out.2.1, tnr⟩ (fun hHeld => ?_)
            refine hand_take 0 (some 122) (.pointer (some ⟨g, 45 + p * 32 + s * 4, none⟩)) rfl rfl (by kernel_rfl) (by kernel_rfl) (by kernel_rfl) (fun _ _ _ h => h) (Or.inl ⟨by kernel_rfl, fun x' hSx => by go_simp⟩) hHeld ?_
            try simp only [Act.put, List.setIfInBounds_toArray, List.set_cons_zero, List.set_cons_succ]
            refine hand_take 1 (some 123) (.int .i64 (n : Int)) rfl rfl (by kernel_rfl) (by kernel_rfl) (by kernel_rfl) (fun _ _ _ h => h) (Or.inl ⟨by kernel_rfl, fun x' hSx => by go_simp⟩) hHeld ?_
            try simp only [Act.put, List.setIfInBounds_toArray, List.set_cons_zero, List.set_cons_succ]
            refine hand_take 2 (some 124) (.pointer (some ⟨g, o, none⟩)) rfl rfl (by kernel_rfl) (by kernel_rfl) (by kernel_rfl) (fun _ _ _ h => h) (Or.inl ⟨by kernel_rfl, fun x' hSx => by go_simp⟩) hHeld ?_
            try simp only [Act.put, List.setIfInBounds_toArray, List.set_cons_zero, List.set_cons_succ]
            refine hand_take 3 (some 125) (.pointer (some ⟨g, o, none⟩)) rfl rfl (by kernel_rfl) (by kernel_rfl) (by kernel_rfl) (fun _ _ _ h => h) (Or.inl ⟨by kernel_rfl, fun x' hSx => by go_simp⟩) hHeld ?_
            try simp only [Act.put, List.setIfInBounds_toArray, List.set_cons_zero, List.set_cons_succ]
            refine hand_take 4 (some 126) (.pointer (some ⟨g, o, none⟩)) rfl rfl (by kernel_rfl) (by kernel_rfl) (by kernel_rfl) (fun _ _ _ h => h) (Or.inl ⟨by kernel_rfl, fun x' hSx => by go_simp⟩) hHeld ?_
            try simp only [Act.put, List.setIfInBounds_toArray, List.set_cons_zero, List.set_cons_succ]
            refine hand_take 5 (some 127) (.int .i64 nr) rfl rfl (by kernel_rfl) (by kernel_rfl) (by kernel_rfl) (fun _ _ _ h => h) (Or.inl ⟨by kernel_rfl, fun x' hSx => by have h : World.cell? x' ⟨g, o, none⟩ = some (.int .i64 nr) := hSx.2; go_simp⟩) hHeld ?_
            try simp only [Act.put, List.setIfInBounds_toArray, List.set_cons_zero, List.set_cons_succ]
            refine hand_take 6 (some 128) (.agg #[.bool fu, .string fv]) rfl rfl (by kernel_rfl) (by kernel_rfl) (by kernel_rfl) (fun _ _ _ h => h) (yieldsIf_load_run (by kernel_rfl) 63 _ rfl (.pointer (some ⟨ga, 0, none⟩)) rfl _ (fun x' hSx => load_cel15 x' ga fu fv hSx.1)) hHeld ?_
            try simp only [Act.put, List.setIfInBounds_toArray, List.set_cons_zero, List.set_cons_succ]
            refine hand_take 7 (some 129) (.agg #[.int .i64 (n : Int), .int .i64 nr, .bool fu, .string fv]) rfl rfl (by kernel_rfl) (by kernel_rfl) (by kernel_rfl) (fun _ _ _ h => h) (Or.inl ⟨by kernel_rfl, fun x' hSx => by go_simp⟩) hHeld ?_
            try simp only [Act.put, List.setIfInBounds_toArray, List.set_cons_zero, List.set_cons_succ]
            refine hand_take 8 (some 130) (.pointer (some ⟨g, 45 + p * 32 + s * 4, none⟩)) rfl rfl (by kernel_rfl) (by kernel_rfl) (by kernel_rfl) (fun _ _ _ h => h) (Or.inl ⟨by kernel_rfl, fun x' hSx => by go_simp⟩) hHeld ?_
            try simp only [Act.put, List.setIfInBounds_toArray, List.set_cons_zero, List.set_cons_succ]
            refine hand_one 9 (by kernel_rfl) ?_
            refine hand_store rfl rfl rfl 65 (.tmp 130) (.tmp 129) rfl g (45 + p * 32 + s * 4) 69 x.cs #[.int .i64 (n : Int), .int .i64 nr, .bool fu, .string fv] rfl rfl HD.out.1.blk infoLo15 hsz (by simp [Value.oneCell']) ?_
            intro z3 hr3 ho3
            have hcc := HD.out.1.cells.allLk (show p * 8 + s < 32 by omega) ⟨(n : Int), nr, fu, fv⟩
            rw [show 45 + (p * 8 + s) * 4 = 45 + p * 32 + s * 4 by omega] at hcc
            have hlk : hb.locked n i p s = hb.setLk (p * 8 + s) ⟨(n : Int), nr, fu, fv⟩ := by
              unfold Hs.locked
              rw [if_pos (by rw [← HLNR.out]; exact e2), ← HNR.out, ← HFU.out.1, ← HFU.out.2]
            have A3 := HD.out.1.part _ _ hr3 ho3 hcc rfl rfl rfl
            have af3 := aft_own (x := x) ho3 (partA x.cs (45 + p * 32 + s * 4) (loA ⟨(n : Int), nr, fu, fv⟩))
            have H6 : Hid (HB z3 B g F (hb.locked n i p s) ∧ RowAt z3 ga 63 (ceA fu fv) ∧ RowAt z3 gc 26 (chA C) ∧ Aft15 F F w z3 ∧ ¬ F gc) := by
              have n1 : ga ≠ g := fun e => HN9.out.1 (by rw [e]; exact HFG.out)
              have n2 : gc ≠ g := fun e => HD.out.2.2.2.2 (by rw [e]; exact HFG.out)
              have A4 := A3
              rw [← hlk] at A4
              refine ⟨⟨_, A4, HFX.out⟩, ho3.row HD.out.2.1 n1, ho3.row HD.out.2.2.1 n2, ?_, HD.out.2.2.2.2⟩
              have h9 := HD.out.2.2.2.1
              rw [HFX.out] at h9 ⊢
              exact h9.trans af3
            have tnr3 : z3.cell? ⟨g, o, none⟩ = some (.int .i64 nr) := by rw [HNR.out]; exact A3.nr hi HO.out
            refine ⟨⟨H6.out.2.1, tnr3⟩, ?_⟩
            try simp only [Act.put, List.setIfInBounds_toArray, List.set_cons_zero, List.set_cons_succ]
            refine wpAnyH_done (by kernel_rfl) ?_ _
            refine NoPanic.normal ?_
            clear hr3 ho3 hcc hlk A3 af3 tnr tnr3 hHeld hsz HD
            go_wp2_with fail
            obtain ⟨hl, hhl⟩ : ∃ hl, hl = hb.locked n i p s := ⟨_, rfl⟩
            have HLL : Hid (hl.ck = h.ck ∧ hl.hi = h.hi ∧ hl.lg = h.lg ∧ hl.pg = h.pg ∧ hl.past = h.past) := by
              have h9 : hl.ck = hb.ck ∧ hl.hi = hb.hi ∧ hl.lg = hb.lg ∧ hl.pg = hb.pg ∧ hl.past = hb.past := by
                rw [hhl]
                unfold Hs.locked
                by_cases hq : (hb.lk (p * 8 + s)).nr = 0
                · rw [if_pos hq]
                  exact ⟨rfl, rfl, rfl, rfl, rfl⟩
                · rw [if_neg hq]
                  exact ⟨rfl, rfl, rfl, rfl, rfl⟩
              exact ⟨h9.1.trans HBF.out.2.2.2.1, h9.2.1.trans HBF.out.2.2.2.2, h9.2.2.1.trans HBF.out.1, h9.2.2.2.1.trans HBF.out.2.1, h9.2.2.2.2.trans HBF.out.2.2.1⟩
            rw [← hhl] at H6
            obtain ⟨c9, hc9⟩ : ∃ c, c = hl.ck n := ⟨_, rfl⟩
            obtain ⟨h9i, hh9⟩ : ∃ c, c = hl.hi := ⟨_, rfl⟩
            obtain ⟨M, hM⟩ : ∃ M, M = max c9 h9i := ⟨_, rfl⟩
            have hmx : (if c9 < h9i then (h9i : Int) else (c9 : Int)) = (M : Int) := by
              rw [hM]
              by_cases hq : c9 < h9i
              · rw [if_pos hq]
                omega
              · rw [if_neg hq]
                omega
            have HM : Hid (M ≤ 50000 ∧ hb.lockedUp n i p s = hl.setCk n M) := by
              refine ⟨?_, ?_⟩
              · have a := HW.out.ck n hn
                have b := HW.out.hi
                rw [← HLL.out.1, ← hc9] at a
                rw [← HLL.out.2.1, ← hh9] at b
                omega
              · unfold Hs.lockedUp
                rw [← hhl, hM, hc9, hh9, HLL.out.1, HLL.out.2.1, HBF.out.2.2.2.1, HBF.out.2.2.2.2]
            clear hM hhl
            have ckc := H6.out.1.ck hn
            rw [← hc9] at ckc
            have hic := H6.out.1.hi
            rw [← hh9] at hic
            have frc := H6.out.1.free (3 + n)
            have HC9 : Hid (c9 = hl.ck n ∧ h9i = hl.hi) := ⟨hc9, hh9⟩
            clear hc9 hh9
            refine wp_region_noPanic ?_
            refine wp_region_held_drew (S := fun z => z.cell? ⟨g, 173, none⟩ = some (.int .u64 (h9i : Int))) (by kernel_rfl) hic (fun hHeld => ?_)
            refine hand_take 0 (some 131) (.pointer (some ⟨g, 0, none⟩)) rfl rfl (by kernel_rfl) (by kernel_rfl) (by kernel_rfl) (fun _ _ _ h => h) (Or.inl ⟨by kernel_rfl, fun x' hSx => by go_simp⟩) hHeld ?_
            try simp only [Act.put, List.setIfInBounds_toArray, List.set_cons_zero, List.set_cons_succ]
            refine hand_take 1 (some 132) (.int .i64 (n : Int)) rfl rfl (by kernel_rfl) (by kernel_rfl) (by kernel_rfl) (fun _ _ _ h => h) (Or.inl ⟨by kernel_rfl, fun x' hSx => by go_simp⟩) hHeld ?_
            try simp only [Act.put, List.setIfInBounds_toArray, List.set_cons_zero, List.set_cons_succ]
            refine hand_take 2 (some 133) (.pointer (some ⟨g, 0, none⟩)) rfl rfl (by kernel_rfl) (by kernel_rfl) (by kernel_rfl) (fun _ _ _ h => h) (Or.inl ⟨by kernel_rfl, fun x' hSx => by go_simp⟩) hHeld ?_
            try simp only [Act.put, List.setIfInBounds_toArray, List.set_cons_zero, List.set_cons_succ]
            refine hand_take 3 (some 134) (.int .i64 (n : Int)) rfl rfl (by kernel_rfl) (by kernel_rfl) (by kernel_rfl) (fun _ _ _ h => h) (Or.inl ⟨by kernel_rfl, fun x' hSx => by go_simp⟩) hHeld ?_
            try simp only [Act.put, List.setIfInBounds_toArray, List.set_cons_zero, List.set_cons_succ]
            refine hand_take 4 (some 135) (.pointer (some ⟨g, 0, none⟩)) rfl rfl (by kernel_rfl) (by kernel_rfl) (by kernel_rfl) (fun _ _ _ h => h) (Or.inl ⟨by kernel_rfl, fun x' hSx => by go_simp⟩) hHeld ?_
            try simp only [Act.put, List.setIfInBounds_toArray, List.set_cons_zero, List.set_cons_succ]
            refine hand_take 5 (some 136) (.pointer (some ⟨g, 3, none⟩)) rfl rfl (by kernel_rfl) (by kernel_rfl) (by kernel_rfl) (fun _ _ _ h => h) (Or.inl ⟨by kernel_rfl, fun x' hSx => by go_simp⟩) hHeld ?_
            try simp only [Act.put, List.setIfInBounds_toArray, List.set_cons_zero, List.set_cons_succ]
            refine hand_take 6 (some 137) (.pointer (some ⟨g, 3 + n, none⟩)) rfl rfl (by kernel_rfl) (by kernel_rfl) (by kernel_rfl) (fun _ _ _ h => h) (Or.inl ⟨by kernel_rfl, fun x' hSx => by go_simp⟩) hHeld ?_
            try simp only [Act.put, List.setIfInBounds_toArray, List.set_cons_zero, List.set_cons_succ]
            refine hand_take 8 (some 139) (.pointer (some ⟨g, 0, none⟩)) rfl rfl (by kernel_rfl) (by kernel_rfl) (by kernel_rfl) (fun _ _ _ h => h) (Or.inl ⟨by kernel_rfl, fun x' hSx => by go_simp⟩) hHeld ?_
            try simp only [Act.put, List.setIfInBounds_toArray, List.set_cons_zero, List.set_cons_succ]
            refine hand_take 9 (some 140) (.pointer (some ⟨g, 0, none⟩)) rfl rfl (by kernel_rfl) (by kernel_rfl) (by kernel_rfl) (fun _ _ _ h => h) (Or.inl ⟨by kernel_rfl, fun x' hSx => by go_simp⟩) hHeld ?_
            try simp only [Act.put, List.setIfInBounds_toArray, List.set_cons_zero, List.set_cons_succ]
            refine hand_take 10 (some 141) (.pointer (some ⟨g, 173, none⟩)) rfl rfl (by kernel_rfl) (by kernel_rfl) (by kernel_rfl) (fun _ _ _ h => h) (Or.inl ⟨by kernel_rfl, fun x' hSx => by go_simp⟩) hHeld ?_
            try simp only [Act.put, List.setIfInBounds_toArray, List.set_cons_zero, List.set_cons_succ]
            refine hand_take 11 (some 142) (.int .u64 (h9i : Int)) rfl rfl (by kernel_rfl) (by kernel_rfl) (by kernel_rfl) (fun _ _ _ h => h) (Or.inl ⟨by kernel_rfl, fun x' hSx => by have h : World.cell? x' ⟨g, 173, none⟩ = some (.int .u64 (h9i : Int)) := hSx; go_simp⟩) hHeld ?_
            try simp only [Act.put, List.setIfInBounds_toArray, List.set_cons_zero, List.set_cons_succ]
            refine hand_take 13 (some 144) (.pointer (some ⟨g, 0, none⟩)) rfl rfl (by kernel_rfl) (by kernel_rfl) (by kernel_rfl) (fun _ _ _ h => h) (Or.inl ⟨by kernel_rfl, fun x' hSx => by go_simp⟩) hHeld ?_
            try simp only [Act.put, List.setIfInBounds_toArray, List.set_cons_zero, List.set_cons_succ]
            refine hand_take 14 (some 145) (.pointer (some ⟨g, 3, none⟩)) rfl rfl (by kernel_rfl) (by kernel_rfl) (by kernel_rfl) (fun _ _ _ h => h) (Or.inl ⟨by kernel_rfl, fun x' hSx => by go_simp⟩) hHeld ?_
            try simp only [Act.put, List.setIfInBounds_toArray, List.set_cons_zero, List.set_cons_succ]
            refine hand_one 7 (by kernel_rfl) ?_
            refine hand_run (some 138) rfl rfl rfl (.int .u64 (c9 : Int)) z3.drew ?hz ?_
            (case hz => go_simp)
            refine ⟨hic, ?_⟩
            try simp only [Act.put, List.setIfInBounds_toArray, List.set_cons_zero, List.set_cons_succ]
            refine hand_take 12 (some 143) (.int .u64 (M : Int)) rfl rfl (by kernel_rfl) (by kernel_rfl) (by kernel_rfl) (fun _ _ _ h => h) (Or.inl ⟨by kernel_rfl, fun x' hSx => by go_simp⟩) hHeld ?_
            try simp only [Act.put, List.setIfInBounds_toArray, List.set_cons_zero, List.set_cons_succ]
            refine hand_take 15 (some 146) (.pointer (some ⟨g, 3 + n, none⟩)) rfl rfl (by kernel_rfl) (by kernel_rfl) (by kernel_rfl) (fun _ _ _ h => h) (Or.inl ⟨by kernel_rfl, fun x' hSx => by go_simp⟩) hHeld ?_
            try simp only [Act.put, List.setIfInBounds_toArray, List.set_cons_zero, List.set_cons_succ]
            refine hand_one 16 (by kernel_rfl) ?_
            have q5 := H6.out.1.drew.cell (h' := hl.setCk n M) (3 + n) (.int .u64 (M : Int)) (fun cs a b c H => H.setCk hn M) rfl rfl rfl
            refine hand_skip15 rfl rfl rfl (z3.drew.setCell ⟨g, 3 + n, none⟩ (.int .u64 (M : Int))) ?hs ?_
            (case hs => go_simp)
            have hic2 := q5.1.hi
            rw [show (hl.setCk n M).hi = h9i from HC9.out.2.symm] at hic2
            refine ⟨hic2, ?_⟩
            try simp only [Act.put, List.setIfInBounds_toArray, List.set_cons_zero, List.set_cons_succ]
            refine wpAnyH_done (by kernel_rfl) ?_ _
            refine NoPanic.normal ?_
            have H7 : Hid (HB (z3.drew.setCell ⟨g, 3 + n, none⟩ (.int .u64 (M : Int))) B g F (hb.lockedUp n i p s) ∧ RowAt (z3.drew.setCell ⟨g, 3 + n, none⟩ (.int .u64 (M : Int))) gc 26 (chA C) ∧ Aft15 F F w (z3.drew.setCell ⟨g, 3 + n, none⟩ (.int .u64 (M : Int)))) := by
              refine ⟨by rw [HM.out.2]; exact q5.1, H6.out.2.2.1.other ⟨g, 3 + n, none⟩ _ (fun e => H6.out.2.2.2.2 (by rw [show gc = g from e]; exact H6.out.1.mine)), (H6.out.2.2.2.1.later (below_drew (Below.refl _ _))).trans q5.2⟩
            have HLU : Hid ((hb.lockedUp n i p s).ck n = M ∧ (hb.lockedUp n i p s).lg = h.lg ∧ (hb.lockedUp n i p s).pg = h.pg ∧ (hb.lockedUp n i p s).past = h.past) := by
              rw [HM.out.2]
              exact ⟨upd_same _ _ _, HLL.out.2.2.1, HLL.out.2.2.2.1, HLL.out.2.2.2.2⟩
            clear q5 hic hic2 ckc frc hmx hHeld H6 HC9
            refine gen_w (fun z => HB z B g F (hb.lockedUp n i p s) ∧ RowAt z gc 26 (chA C) ∧ Aft15 F F w z) H7.out ?_
            clear H7
            intro z5 H70
            have H7 := hide H70
            clear H70
            have HTU := hide (fun (hcl : C.pg.toNat < 4) => hturn15 z5 B g n i o F (hb.lockedUp n i p s) (bare15 1 C 0) H7.out.1 hn hi HO.out ⟨rfl, rfl, rec_fits15c (ch_fits15 HCR.out.1) rfl rfl⟩ HCR.out.1 HCR.out.2 (by rw [HLU.out.1]; have := HM.out.1; omega) (by rw [HLU.out.2.2.1]; have := HW.out.pl _ hcl; exact Nat.le_trans this (by decide)) (by rw [HLU.out.2.1]; exact HW.out.lg n hn) (by rw [HLU.out.2.2.2]; exact HW.out.past _ hcl))
            have HTU2 := hide (HTU.out (by have := HCR.out; omega))
            clear HTU
            have hrl : rcF (bareM (bare15 1 C 0)) = #[.int .i64 1, .int .u64 0, .int .i64 0, .int .u64 0, .int .i64 C.k, .int .i64 C.pg, .int .i64 C.sl, .string C.o, .string C.n, .int .u64 0, .int .i64 0, .int .u64 0, .slice none 0 0, .slice none 0 0] := rfl
            rw [hrl] at HTU2
            clear hrl
            go_wp2_with (with_reducible refine stop_at 150 rfl ?_)
            refine unstop10 ?_
            refine wpList_load_at rfl 26 (.tmp 13) rfl gc rfl #[.int .i64 C.k, .int .i64 C.pg, .int .i64 C.sl, .string C.o, .string C.n] H7.out.2.1 _ Try.underlying26 rfl infoCh ?_
            go_wp2_with fail
            refine HTU2.out.mono ?_
            rintro e z6 ⟨F6, rfl, hb6, ha6⟩
            have HTD : Hid (h.change n i ac = (hb.turned n i p s ac).nextIs i ((hb.turned n i p s ac).tx i).last ∧ (hb.lockedUp n i p s).turn n i (bare15 1 C 0) = hb.turned n i p s ac) := by
              have h9 : (hb.lockedUp n i p s).turn n i (bare15 1 C 0) = hb.turned n i p s ac := by
                unfold Hs.turned
                rw [HBF2.out.2]
              refine ⟨?_, h9⟩
              rw [HCH.out]
              unfold Hs.change1
              rw [HNB.out, if_neg (by decide), if_neg (fun hq => hq HBF2.out.1)]
              rfl
            rw [HTD.out.2] at hb6
            obtain ⟨ht, hht⟩ : ∃ ht, ht = hb.turned n i p s ac := ⟨_, rfl⟩
            rw [← hht] at hb6 HTD
            have H8 : Hid (HB z6 B g F6 ht ∧ Aft15 F F6 w z6) := ⟨hb6, H7.out.2.2.trans ha6⟩
            obtain ⟨-, -, t2, t3⟩ := hb6.tu hi HO.out
            have f3 := hb6.free (o + 3)
            clear hht hb6 ha6 H7 HTU2
            obtain ⟨lst, hlst⟩ : ∃ c, c = (ht.tx i).last := ⟨_, rfl⟩
            rw [← hlst] at t2 HTD
            clear hlst
            go_wp2
            have q8 := H8.out.1.cell (h' := ht.nextIs i lst) (o + 3) (.int .u64 (lst : Int)) (fun cs a b c H => by rw [HO.out]; exact H.setTx hi _ 3 (by omega) _ rfl (fun k hk he => by
              rcases (show k = 0 ∨ k = 1 ∨ k = 2 ∨ k = 3 by omega) with rfl | rfl | rfl | rfl
              · rfl
              · rfl
              · rfl
              · exact absurd rfl he)) rfl rfl rfl
            refine bodyPost_end (results_none rfl _ _ _) rfl ⟨F6, rfl, ?_, H8.out.2.trans q8.2⟩
            rw [HTD.out.1]
            exact q8.1
          · have hEa : (E != 0) = true := by simpa using hE
            have hEb : decide (E = 0) = false := by simpa using hE
            go_wp2
            refine bodyPost_ret (results_none rfl _ _ _) rfl ⟨F, rfl, ?_, H5.out.2.2.2.1⟩
            rw [HCH.out, show hb.change1 n i p s ac = hb by unfold Hs.change1; rw [HNB.out, if_neg (by decide), HBF2.out.1, if_pos hE]]
            exact H5.out.1
        | false =>
          rw [hd] at a5
          have H3 : Hid (HB y2 B g F hb ∧ RowAt y2 ga 63 (ceA fu fv) ∧ RowAt y2 gb 63 (ceA ac.toU ac.toV) ∧ Aft15 F F w y2) := by
            have e1 : ac.toU = true := by unfold Ac.toU; rw [hd]; rfl
            have e2 : ac.toV = ac.v.extract 0 m20 := by unfold Ac.toV; rw [hd, if_neg (by decide), hcut.out]
            rw [e1, e2]
            exact ⟨H2.out.1, H2.out.2.2.1, H2.out.2.2.2.1, H2.out.2.2.2.2.1⟩
          go_wp2_with (with_reducible refine stop_at 110 rfl ?_)
          clear a5
          refine unstop10 ?_
          have HN9 : Hid (¬ F ga ∧ ¬ F gb) := ⟨H2.out.2.2.2.2.2.2.1, H2.out.2.2.2.2.2.2.2.1⟩
          clear H2
          have HOF := hide (fun w => rof_any (p : Int) (s : Int) fu fv ac.toU ac.toV w)
          clear hcut
          generalize Go.Proofs.Ytohdmmfmjadipaa.ofE (p : Int) (s : Int) fu fv ac.toU ac.toV = E at *
          generalize Go.Proofs.Ytohdmmfmjadipaa.ofC (p : Int) (s : Int) fu fv ac.toU ac.toV = C at *
          refine wpList_load_at rfl 63 (.tmp 11) rfl ga rfl (ceA fu fv) H3.out.2.1 _ Try.underlying63 rfl infoCe15 ?_
          refine wpList_load_at rfl 63 (.tmp 12) rfl gb rfl (ceA ac.toU ac.toV) H3.out.2.2.1 _ Try.underlying63 rfl infoCe15 ?_
          go_wp2_with fail
          refine (HOF.out y2).mono ?_
          rintro e z ⟨rfl, hbz⟩
          have H4 : Hid (HB z B g F hb ∧ RowAt z ga 63 (ceA fu fv) ∧ Aft15 F F w z) := ⟨H3.out.1.later hbz, H3.out.2.1.later hbz, H3.out.2.2.2.later hbz⟩
          clear hbz H3 HOF
          obtain ⟨gc, hgc⟩ : ∃ k, k = z.heap.size := ⟨_, rfl⟩
          have hb5 : Below z.heap.size z (z.alloc (.cells (chA Ch.zero) 26)) := (Below.refl _ _).alloc (Nat.le_refl _) _
          have N5 : Hid (RowAt (z.alloc (.cells (chA Ch.zero) 26)) gc 26 (chA Ch.zero) ∧ Below z.heap.size z (z.alloc (.cells (chA Ch.zero) 26))) := by rw [hgc]; exact ⟨RowAt.new z _ _, hb5⟩
          have HGC := hide hgc
          clear hb5 hgc
          go_wp2_with (refine wpList_store_at rfl 26 (.tmp 13) (.tmp 113) rfl gc (chA Ch.zero) (chA C) ?h1 rfl N5.out.1 infoCh rfl (chA_one _) ?_; (case h1 => rw [HGC.out]; rfl); intro z2 hr2 hk2 hrow2; refine stop10 ?_)
          have hb5 := hk2 _ _ N5.out.2 (by rw [HGC.out]; exact Nat.le_refl _)
          have H5 : Hid (HB z2 B g F hb ∧ RowAt z2 ga 63 (ceA fu fv) ∧ RowAt z2 gc 26 (chA C) ∧ Aft15 F F w z2 ∧ ¬ F gc) := ⟨H4.out.1.later hb5, H4.out.2.1.later hb5, hr2, H4.out.2.2.later hb5, fun hk => by have := (H4.out.1.here hk).2; have := HGC.out; omega⟩
          clear hr2 hk2 hrow2 hb5 N5 H4
          refine unstop10 ?_
          rw [← HGC.out]
          by_cases hE : E = 0
          · rw [hE] at HBF2 ⊢
            have HCR : Hid (C.right ∧ C.pg < 4) := by
              have h9 : hb.ofC p s ac = rawC (p : Int) (s : Int) ((hb.pg p).u s) ((hb.pg p).s s) ac.toU ac.toV := by
                show Go.Proofs.Ytohdmmfmjadipaa.ofC (p : Int) (s : Int) ((hb.pg p).u s) ((hb.pg p).s s) ac.toU ac.toV = _
                unfold Go.Proofs.Ytohdmmfmjadipaa.ofC
                exact if_pos HBF2.out.1
              have h8 := (of_right15 (p : Int) (s : Int) ((hb.pg p).u s) ((hb.pg p).s s) ac.toU ac.toV HBF2.out.1)
              rw [← HBF2.out.2]
              refine ⟨h8, ?_⟩
              rw [h9]
              show (p : Int) < 4
              omega
            obtain ⟨l0, l1, l2, l3⟩ := H5.out.1.lo (show p * 8 + s < 32 by omega)
            rw [show 45 + (p * 8 + s) * 4 = 45 + p * 32 + s * 4 by omega] at l0 l1 l2 l3
            rw [← HLNR.out] at l1
            rw [e2] at l1
            go_wp2_with fail
            clear l0 l1 l2 l3
            obtain ⟨x, HX0, hFx⟩ := H5.out.1
            have HD : Hid (HAt z2.drew B g x hb ∧ RowAt z2.drew ga 63 (ceA fu fv) ∧ RowAt z2.drew gc 26 (chA C) ∧ Aft15 F F w z2.drew ∧ ¬ F gc) := ⟨HX0.drew, H5.out.2.1, H5.out.2.2.1, H5.out.2.2.2.1.later (below_drew (Below.refl _ _)), H5.out.2.2.2.2⟩
            have HFX := hide hFx
            have HFG : Hid (F g) := by show F g; rw [hFx]; exact .inl rfl
            have tnr : z2.drew.cell? ⟨g, o, none⟩ = some (.int .i64 nr) := by rw [HNR.out]; exact HX0.drew.nr hi HO.out
            have hsz : 45 + p * 32 + s * 4 + (#[.int .i64 (n : Int), .int .i64 nr, .bool fu, .string fv] : Array Value).size ≤ x.cs.size := by rw [HX0.cells.1]; show 45 + p * 32 + s * 4 + 4 ≤ 174; omega
            clear HX0 hFx H5
            refine wp_region_noPanic ?_
            refine wp_region_held_drew (S := fun z => RowAt z ga 63 (ceA fu fv) ∧ z.cell? ⟨g, o, none⟩ = some (.int .i64 nr)) (by kernel_rfl) ⟨HD.out.2.1, tnr⟩ (fun hHeld => ?_)
            refine hand_take 0 (some 122) (.pointer (some ⟨g, 45 + p * 32 + s * 4, none⟩)) rfl rfl (by kernel_rfl) (by kernel_rfl) (by kernel_rfl) (fun _ _ _ h => h) (Or.inl ⟨by kernel_rfl, fun x' hSx => by go_simp⟩) hHeld ?_
            try simp only [Act.put, List.setIfInBounds_toArray, List.set_cons_zero, List.set_cons_succ]
            refine hand_take 1 (some 123) (.int .i64 (n : Int)) rfl rfl (by kernel_rfl) (by kernel_rfl) (by kernel_rfl) (fun _ _ _ h => h) (Or.inl ⟨by kernel_rfl, fun x' hSx => by go_simp⟩) hHeld ?_
            try simp only [Act.put, List.setIfInBounds_toArray, List.set_cons_zero, List.set_cons_succ]
            refine hand_take 2 (some 124) (.pointer (some ⟨g, o, none⟩)) rfl rfl (by kernel_rfl) (by kernel_rfl) (by kernel_rfl) (fun _ _ _ h => h) (Or.inl ⟨by kernel_rfl, fun x' hSx => by go_simp⟩) hHeld ?_
            try simp only [Act.put, List.setIfInBounds_toArray, List.set_cons_zero, List.set_cons_succ]
            refine hand_take 3 (some 125) (.pointer (some ⟨g, o, none⟩)) rfl rfl (by kernel_rfl) (by kernel_rfl) (by kernel_rfl) (fun _ _ _ h => h) (Or.inl ⟨by kernel_rfl, fun x' hSx => by go_simp⟩) hHeld ?_
            try simp only [Act.put, List.setIfInBounds_toArray, List.set_cons_zero, List.set_cons_succ]
            refine hand_take 4 (some 126) (.pointer (some ⟨g, o, none⟩)) rfl rfl (by kernel_rfl) (by kernel_rfl) (by kernel_rfl) (fun _ _ _ h => h) (Or.inl ⟨by kernel_rfl, fun x' hSx => by go_simp⟩) hHeld ?_
            try simp only [Act.put, List.setIfInBounds_toArray, List.set_cons_zero, List.set_cons_succ]
            refine hand_take 5 (some 127) (.int .i64 nr) rfl rfl (by kernel_rfl) (by kernel_rfl) (by kernel_rfl) (fun _ _ _ h => h) (Or.inl ⟨by kernel_rfl, fun x' hSx => by have h : World.cell? x' ⟨g, o, none⟩ = some (.int .i64 nr) := hSx.2; go_simp⟩) hHeld ?_
            try simp only [Act.put, List.setIfInBounds_toArray, List.set_cons_zero, List.set_cons_succ]
            refine hand_take 6 (some 128) (.agg #[.bool fu, .string fv]) rfl rfl (by kernel_rfl) (by kernel_rfl) (by kernel_rfl) (fun _ _ _ h => h) (yieldsIf_load_run (by kernel_rfl) 63 _ rfl (.pointer (some ⟨ga, 0, none⟩)) rfl _ (fun x' hSx => load_cel15 x' ga fu fv hSx.1)) hHeld ?_
            try simp only [Act.put, List.setIfInBounds_toArray, List.set_cons_zero, List.set_cons_succ]
            refine hand_take 7 (some 129) (.agg #[.int .i64 (n : Int), .int .i64 nr, .bool fu, .string fv]) rfl rfl (by kernel_rfl) (by kernel_rfl) (by kernel_rfl) (fun _ _ _ h => h) (Or.inl ⟨by kernel_rfl, fun x' hSx => by go_simp⟩) hHeld ?_
            try simp only [Act.put, List.setIfInBounds_toArray, List.set_cons_zero, List.set_cons_succ]
            refine hand_take 8 (some 130) (.pointer (some ⟨g, 45 + p * 32 + s * 4, none⟩)) rfl rfl (by kernel_rfl) (by kernel_rfl) (by kernel_rfl) (fun _ _ _ h => h) (Or.inl ⟨by kernel_rfl, fun x' hSx => by go_simp⟩) hHeld ?_
            try simp only [Act.put, List.setIfInBounds_toArray, List.set_cons_zero, List.set_cons_succ]
            refine hand_one 9 (by kernel_rfl) ?_
            refine hand_store rfl rfl rfl 65 (.tmp 130) (.tmp 129) rfl g (45 + p * 32 + s * 4) 69 x.cs #[.int .i64 (n : Int), .int .i64 nr, .bool fu, .string fv] rfl rfl HD.out.1.blk infoLo15 hsz (by simp [Value.oneCell']) ?_
            intro z3 hr3 ho3
            have hcc := HD.out.1.cells.allLk (show p * 8 + s < 32 by omega) ⟨(n : Int), nr, fu, fv⟩
            rw [show 45 + (p * 8 + s) * 4 = 45 + p * 32 + s * 4 by omega] at hcc
            have hlk : hb.locked n i p s = hb.setLk (p * 8 + s) ⟨(n : Int), nr, fu, fv⟩ := by
              unfold Hs.locked
              rw [if_pos (by rw [← HLNR.out]; exact e2), ← HNR.out, ← HFU.out.1, ← HFU.out.2]
            have A3 := HD.out.1.part _ _ hr3 ho3 hcc rfl rfl rfl
            have af3 := aft_own (x := x) ho3 (partA x.cs (45 + p * 32 + s * 4) (loA ⟨(n : Int), nr, fu, fv⟩))
            have H6 : Hid (HB z3 B g F (hb.locked n i p s) ∧ RowAt z3 ga 63 (ceA fu fv) ∧ RowAt z3 gc 26 (chA C) ∧ Aft15 F F w z3 ∧ ¬ F gc) := by
              have n1 : ga ≠ g := fun e => HN9.out.1 (by rw [e]; exact HFG.out)
              have n2 : gc ≠ g := fun e => HD.out.2.2.2.2 (by rw [e]; exact HFG.out)
              have A4 := A3
              rw [← hlk] at A4
              refine ⟨⟨_, A4, HFX.out⟩, ho3.row HD.out.2.1 n1, ho3.row HD.out.2.2.1 n2, ?_, HD.out.2.2.2.2⟩
              have h9 := HD.out.2.2.2.1
              rw [HFX.out] at h9 ⊢
              exact h9.trans af3
            have tnr3 : z3.cell? ⟨g, o, none⟩ = some (.int .i64 nr) := by rw [HNR.out]; exact A3.nr hi HO.out
            refine ⟨⟨H6.out.2.1, tnr3⟩, ?_⟩
            try simp only [Act.put, List.setIfInBounds_toArray, List.set_cons_zero, List.set_cons_succ]
            refine wpAnyH_done (by kernel_rfl) ?_ _
            refine NoPanic.normal ?_
            clear hr3 ho3 hcc hlk A3 af3 tnr tnr3 hHeld hsz HD
            go_wp2_with fail
            obtain ⟨hl, hhl⟩ : ∃ hl, hl = hb.locked n i p s := ⟨_, rfl⟩
            have HLL : Hid (hl.ck = h.ck ∧ hl.hi = h.hi ∧ hl.lg = h.lg ∧ hl.pg = h.pg ∧ hl.past = h.past) := by
              have h9 : hl.ck = hb.ck ∧ hl.hi = hb.hi ∧ hl.lg = hb.lg ∧ hl.pg = hb.pg ∧ hl.past = hb.past := by
                rw [hhl]
                unfold Hs.locked
                by_cases hq : (hb.lk (p * 8 + s)).nr = 0
                · rw [if_pos hq]
                  exact ⟨rfl, rfl, rfl, rfl, rfl⟩
                · rw [if_neg hq]
                  exact ⟨rfl, rfl, rfl, rfl, rfl⟩
              exact ⟨h9.1.trans HBF.out.2.2.2.1, h9.2.1.trans HBF.out.2.2.2.2, h9.2.2.1.trans HBF.out.1, h9.2.2.2.1.trans HBF.out.2.1, h9.2.2.2.2.trans HBF.out.2.2.1⟩
            rw [← hhl] at H6
            obtain ⟨c9, hc9⟩ : ∃ c, c = hl.ck n := ⟨_, rfl⟩
            obtain ⟨h9i, hh9⟩ : ∃ c, c = hl.hi := ⟨_, rfl⟩
            obtain ⟨M, hM⟩ : ∃ M, M = max c9 h9i := ⟨_, rfl⟩
            have hmx : (if c9 < h9i then (h9i : Int) else (c9 : Int)) = (M : Int) := by
              rw [hM]
              by_cases hq : c9 < h9i
              · rw [if_pos hq]
                omega
              · rw [if_neg hq]
                omega
            have HM : Hid (M ≤ 50000 ∧ hb.lockedUp n i p s = hl.setCk n M) := by
              refine ⟨?_, ?_⟩
              · have a := HW.out.ck n hn
                have b := HW.out.hi
                rw [← HLL.out.1, ← hc9] at a
                rw [← HLL.out.2.1, ← hh9] at b
                omega
              · unfold Hs.lockedUp
                rw [← hhl, hM, hc9, hh9, HLL.out.1, HLL.out.2.1, HBF.out.2.2.2.1, HBF.out.2.2.2.2]
            clear hM hhl
            have ckc := H6.out.1.ck hn
            rw [← hc9] at ckc
            have hic := H6.out.1.hi
            rw [← hh9] at hic
            have frc := H6.out.1.free (3 + n)
            have HC9 : Hid (c9 = hl.ck n ∧ h9i = hl.hi) := ⟨hc9, hh9⟩
            clear hc9 hh9
            refine wp_region_noPanic ?_
            refine wp_region_held_drew (S := fun z => z.cell? ⟨g, 173, none⟩ = some (.int .u64 (h9i : Int))) (by kernel_rfl) hic (fun hHeld => ?_)
            refine hand_take 0 (some 131) (.pointer (some ⟨g, 0, none⟩)) rfl rfl (by kernel_rfl) (by kernel_rfl) (by kernel_rfl) (fun _ _ _ h => h) (Or.inl ⟨by kernel_rfl, fun x' hSx => by go_simp⟩) hHeld ?_
            try simp only [Act.put, List.setIfInBounds_toArray, List.set_cons_zero, List.set_cons_succ]
            refine hand_take 1 (some 132) (.int .i64 (n : Int)) rfl rfl (by kernel_rfl) (by kernel_rfl) (by kernel_rfl) (fun _ _ _ h => h) (Or.inl ⟨by kernel_rfl, fun x' hSx => by go_simp⟩) hHeld ?_
            try simp only [Act.put, List.setIfInBounds_toArray, List.set_cons_zero, List.set_cons_succ]
            refine hand_take 2 (some 133) (.pointer (some ⟨g, 0, none⟩)) rfl rfl (by kernel_rfl) (by kernel_rfl) (by kernel_rfl) (fun _ _ _ h => h) (Or.inl ⟨by kernel_rfl, fun x' hSx => by go_simp⟩) hHeld ?_
            try simp only [Act.put, List.setIfInBounds_toArray, List.set_cons_zero, List.set_cons_succ]
            refine hand_take 3 (some 134) (.int .i64 (n : Int)) rfl rfl (by kernel_rfl) (by kernel_rfl) (by kernel_rfl) (fun _ _ _ h => h) (Or.inl ⟨by kernel_rfl, fun x' hSx => by go_simp⟩) hHeld ?_
            try simp only [Act.put, List.setIfInBounds_toArray, List.set_cons_zero, List.set_cons_succ]
            refine hand_take 4 (some 135) (.pointer (some ⟨g, 0, none⟩)) rfl rfl (by kernel_rfl) (by kernel_rfl) (by kernel_rfl) (fun _ _ _ h => h) (Or.inl ⟨by kernel_rfl, fun x' hSx => by go_simp⟩) hHeld ?_
            try simp only [Act.put, List.setIfInBounds_toArray, List.set_cons_zero, List.set_cons_succ]
            refine hand_take 5 (some 136) (.pointer (some ⟨g, 3, none⟩)) rfl rfl (by kernel_rfl) (by kernel_rfl) (by kernel_rfl) (fun _ _ _ h => h) (Or.inl ⟨by kernel_rfl, fun x' hSx => by go_simp⟩) hHeld ?_
            try simp only [Act.put, List.setIfInBounds_toArray, List.set_cons_zero, List.set_cons_succ]
            refine hand_take 6 (some 137) (.pointer (some ⟨g, 3 + n, none⟩)) rfl rfl (by kernel_rfl) (by kernel_rfl) (by kernel_rfl) (fun _ _ _ h => h) (Or.inl ⟨by kernel_rfl, fun x' hSx => by go_simp⟩) hHeld ?_
            try simp only [Act.put, List.setIfInBounds_toArray, List.set_cons_zero, List.set_cons_succ]
            refine hand_take 8 (some 139) (.pointer (some ⟨g, 0, none⟩)) rfl rfl (by kernel_rfl) (by kernel_rfl) (by kernel_rfl) (fun _ _ _ h => h) (Or.inl ⟨by kernel_rfl, fun x' hSx => by go_simp⟩) hHeld ?_
            try simp only [Act.put, List.setIfInBounds_toArray, List.set_cons_zero, List.set_cons_succ]
            refine hand_take 9 (some 140) (.pointer (some ⟨g, 0, none⟩)) rfl rfl (by kernel_rfl) (by kernel_rfl) (by kernel_rfl) (fun _ _ _ h => h) (Or.inl ⟨by kernel_rfl, fun x' hSx => by go_simp⟩) hHeld ?_
            try simp only [Act.put, List.setIfInBounds_toArray, List.set_cons_zero, List.set_cons_succ]
            refine hand_take 10 (some 141) (.pointer (some ⟨g, 173, none⟩)) rfl rfl (by kernel_rfl) (by kernel_rfl) (by kernel_rfl) (fun _ _ _ h => h) (Or.inl ⟨by kernel_rfl, fun x' hSx => by go_simp⟩) hHeld ?_
            try simp only [Act.put, List.setIfInBounds_toArray, List.set_cons_zero, List.set_cons_succ]
            refine hand_take 11 (some 142) (.int .u64 (h9i : Int)) rfl rfl (by kernel_rfl) (by kernel_rfl) (by kernel_rfl) (fun _ _ _ h => h) (Or.inl ⟨by kernel_rfl, fun x' hSx => by have h : World.cell? x' ⟨g, 173, none⟩ = some (.int .u64 (h9i : Int)) := hSx; go_simp⟩) hHeld ?_
            try simp only [Act.put, List.setIfInBounds_toArray, List.set_cons_zero, List.set_cons_succ]
            refine hand_take 13 (some 144) (.pointer (some ⟨g, 0, none⟩)) rfl rfl (by kernel_rfl) (by kernel_rfl) (by kernel_rfl) (fun _ _ _ h => h) (Or.inl ⟨by kernel_rfl, fun x' hSx => by go_simp⟩) hHeld ?_
            try simp only [Act.put, List.setIfInBounds_toArray, List.set_cons_zero, List.set_cons_succ]
            refine hand_take 14 (some 145) (.pointer (some ⟨g, 3, none⟩)) rfl rfl (by kernel_rfl) (by kernel_rfl) (by kernel_rfl) (fun _ _ _ h => h) (Or.inl ⟨by kernel_rfl, fun x' hSx => by go_simp⟩) hHeld ?_
            try simp only [Act.put, List.setIfInBounds_toArray, List.set_cons_zero, List.set_cons_succ]
            refine hand_one 7 (by kernel_rfl) ?_
            refine hand_run (some 138) rfl rfl rfl (.int .u64 (c9 : Int)) z3.drew ?hz ?_
            (case hz => go_simp)
            refine ⟨hic, ?_⟩
            try simp only [Act.put, List.setIfInBounds_toArray, List.set_cons_zero, List.set_cons_succ]
            refine hand_take 12 (some 143) (.int .u64 (M : Int)) rfl rfl (by kernel_rfl) (by kernel_rfl) (by kernel_rfl) (fun _ _ _ h => h) (Or.inl ⟨by kernel_rfl, fun x' hSx => by go_simp⟩) hHeld ?_
            try simp only [Act.put, List.setIfInBounds_toArray, List.set_cons_zero, List.set_cons_succ]
            refine hand_take 15 (some 146) (.pointer (some ⟨g, 3 + n, none⟩)) rfl rfl (by kernel_rfl) (by kernel_rfl) (by kernel_rfl) (fun _ _ _ h => h) (Or.inl ⟨by kernel_rfl, fun x' hSx => by go_simp⟩) hHeld ?_
            try simp only [Act.put, List.setIfInBounds_toArray, List.set_cons_zero, List.set_cons_succ]
            refine hand_one 16 (by kernel_rfl) ?_
            have q5 := H6.out.1.drew.cell (h' := hl.setCk n M) (3 + n) (.int .u64 (M : Int)) (fun cs a b c H => H.setCk hn M) rfl rfl rfl
            refine hand_skip15 rfl rfl rfl (z3.drew.setCell ⟨g, 3 + n, none⟩ (.int .u64 (M : Int))) ?hs ?_
            (case hs => go_simp)
            have hic2 := q5.1.hi
            rw [show (hl.setCk n M).hi = h9i from HC9.out.2.symm] at hic2
            refine ⟨hic2, ?_⟩
            try simp only [Act.put, List.setIfInBounds_toArray, List.set_cons_zero, List.set_cons_succ]
            refine wpAnyH_done (by kernel_rfl) ?_ _
            refine NoPanic.normal ?_
            have H7 : Hid (HB (z3.drew.setCell ⟨g, 3 + n, none⟩ (.int .u64 (M : Int))) B g F (hb.lockedUp n i p s) ∧ RowAt (z3.drew.setCell ⟨g, 3 + n, none⟩ (.int .u64 (M : Int))) gc 26 (chA C) ∧ Aft15 F F w (z3.drew.setCell ⟨g, 3 + n, none⟩ (.int .u64 (M : Int)))) := by
              refine ⟨by rw [HM.out.2]; exact q5.1, H6.out.2.2.1.other ⟨g, 3 + n, none⟩ _ (fun e => H6.out.2.2.2.2 (by rw [show gc = g from e]; exact H6.out.1.mine)), (H6.out.2.2.2.1.later (below_drew (Below.refl _ _))).trans q5.2⟩
            have HLU : Hid ((hb.lockedUp n i p s).ck n = M ∧ (hb.lockedUp n i p s).lg = h.lg ∧ (hb.lockedUp n i p s).pg = h.pg ∧ (hb.lockedUp n i p s).past = h.past) := by
              rw [HM.out.2]
              exact ⟨upd_same _ _ _, HLL.out.2.2.1, HLL.out.2.2.2.1, HLL.out.2.2.2.2⟩
            clear q5 hic hic2 ckc frc hmx hHeld H6 HC9
            refine gen_w (fun z => HB z B g F (hb.lockedUp n i p s) ∧ RowAt z gc 26 (chA C) ∧ Aft15 F F w z) H7.out ?_
            clear H7
            intro z5 H70
            have H7 := hide H70
            clear H70
            have HTU := hide (fun (hcl : C.pg.toNat < 4) => hturn15 z5 B g n i o F (hb.lockedUp n i p s) (bare15 1 C 0) H7.out.1 hn hi HO.out ⟨rfl, rfl, rec_fits15c (ch_fits15 HCR.out.1) rfl rfl⟩ HCR.out.1 HCR.out.2 (by rw [HLU.out.1]; have := HM.out.1; omega) (by rw [HLU.out.2.2.1]; have := HW.out.pl _ hcl; exact Nat.le_trans this (by decide)) (by rw [HLU.out.2.1]; exact HW.out.lg n hn) (by rw [HLU.out.2.2.2]; exact HW.out.past _ hcl))
            have HTU2 := hide (HTU.out (by have := HCR.out; omega))
            clear HTU
            have hrl : rcF (bareM (bare15 1 C 0)) = #[.int .i64 1, .int .u64 0, .int .i64 0, .int .u64 0, .int .i64 C.k, .int .i64 C.pg, .int .i64 C.sl, .string C.o, .string C.n, .int .u64 0, .int .i64 0, .int .u64 0, .slice none 0 0, .slice none 0 0] := rfl
            rw [hrl] at HTU2
            clear hrl
            go_wp2_with (with_reducible refine stop_at 150 rfl ?_)
            refine unstop10 ?_
            refine wpList_load_at rfl 26 (.tmp 13) rfl gc rfl #[.int .i64 C.k, .int .i64 C.pg, .int .i64 C.sl, .string C.o, .string C.n] H7.out.2.1 _ Try.underlying26 rfl infoCh ?_
            go_wp2_with fail
            refine HTU2.out.mono ?_
            rintro e z6 ⟨F6, rfl, hb6, ha6⟩
            have HTD : Hid (h.change n i ac = (hb.turned n i p s ac).nextIs i ((hb.turned n i p s ac).tx i).last ∧ (hb.lockedUp n i p s).turn n i (bare15 1 C 0) = hb.turned n i p s ac) := by
              have h9 : (hb.lockedUp n i p s).turn n i (bare15 1 C 0) = hb.turned n i p s ac := by
                unfold Hs.turned
                rw [HBF2.out.2]
              refine ⟨?_, h9⟩
              rw [HCH.out]
              unfold Hs.change1
              rw [HNB.out, if_neg (by decide), if_neg (fun hq => hq HBF2.out.1)]
              rfl
            rw [HTD.out.2] at hb6
            obtain ⟨ht, hht⟩ : ∃ ht, ht = hb.turned n i p s ac := ⟨_, rfl⟩
            rw [← hht] at hb6 HTD
            have H8 : Hid (HB z6 B g F6 ht ∧ Aft15 F F6 w z6) := ⟨hb6, H7.out.2.2.trans ha6⟩
            obtain ⟨-, -, t2, t3⟩ := hb6.tu hi HO.out
            have f3 := hb6.free (o + 3)
            clear hht hb6 ha6 H7 HTU2
            obtain ⟨lst, hlst⟩ : ∃ c, c = (ht.tx i).last := ⟨_, rfl⟩
            rw [← hlst] at t2 HTD
            clear hlst
            go_wp2
            have q8 := H8.out.1.cell (h' := ht.nextIs i lst) (o + 3) (.int .u64 (lst : Int)) (fun cs a b c H => by rw [HO.out]; exact H.setTx hi _ 3 (by omega) _ rfl (fun k hk he => by
              rcases (show k = 0 ∨ k = 1 ∨ k = 2 ∨ k = 3 by omega) with rfl | rfl | rfl | rfl
              · rfl
              · rfl
              · rfl
              · exact absurd rfl he)) rfl rfl rfl
            refine bodyPost_end (results_none rfl _ _ _) rfl ⟨F6, rfl, ?_, H8.out.2.trans q8.2⟩
            rw [HTD.out.1]
            exact q8.1
          · have hEa : (E != 0) = true := by simpa using hE
            have hEb : decide (E = 0) = false := by simpa using hE
            go_wp2
            refine bodyPost_ret (results_none rfl _ _ _) rfl ⟨F, rfl, ?_, H5.out.2.2.2.1⟩
            rw [HCH.out, show hb.change1 n i p s ac = hb by unfold Hs.change1; rw [HNB.out, if_neg (by decide), HBF2.out.1, if_pos hE]]
            exact H5.out.1
      · have e2a : (lnr != 0) = true := by simpa using e2
        have e2b : decide (lnr = 0) = false := by simpa using e2
        by_cases e3 : lnd = (n : Int)
        · rw [e3] at l0
          by_cases e4 : lnr = nr
          · rw [e4] at l1 e2a e2b
            have HNB : Hid (hb.barred n i (p * 8 + s) = false) := by show _ = false; rw [HBAR.out, e1, e3, e4]; simp
            clear HBAR
            go_wp2_with fail
            go_quiet (fail)
            clear l0 l1 t0 t1
            refine gen_w (fun y => HB y B g F hb ∧ RowAt y g7 95 #[.int .i64 ac.k, .int .i64 ac.n, .int .i64 ac.t, .int .i64 ac.pg, .int .i64 ac.sl, .bool ac.d, .string ac.v] ∧ Aft15 F F w y ∧ ¬ F g7) (show _ from ⟨HY.out.1.later (below_dn (Below.refl _ _) _), HY.out.2.1, HY.out.2.2.1.later (below_dn (Below.refl _ _) _), HY.out.2.2.2⟩) ?_
            clear HY
            intro y HY0
            have HY := hide HY0
            clear HY0
            obtain ⟨gp, cp1, LCE⟩ := HY.out.1.pgs
            have LD := hide (LCE p s p4 s8)
            clear LCE
            have HBF2 : Hid (hb.ofE p s ac = Go.Proofs.Ytohdmmfmjadipaa.ofE (p : Int) (s : Int) ((hb.pg p).u s) ((hb.pg p).s s) ac.toU ac.toV ∧ hb.ofC p s ac = Go.Proofs.Ytohdmmfmjadipaa.ofC (p : Int) (s : Int) ((hb.pg p).u s) ((hb.pg p).s s) ac.toU ac.toV) := ⟨rfl, rfl⟩
            obtain ⟨fu, hfu⟩ : ∃ c, c = (hb.pg p).u s := ⟨_, rfl⟩
            obtain ⟨fv, hfv⟩ : ∃ c, c = (hb.pg p).s s := ⟨_, rfl⟩
            rw [← hfu, ← hfv] at LD HBF2
            have HFU : Hid (fu = (hb.pg p).u s ∧ fv = (hb.pg p).s s) := ⟨hfu, hfv⟩
            clear hfu hfv
            go_wp2_with (with_reducible refine stop_at 95 rfl ?_)
            refine unstop10 ?_
            refine wpList_load_val rfl 63 (.tmp 94) rfl _ (.agg (ceA fu fv)) rfl LD.out ?_
            obtain ⟨ga, hga⟩ : ∃ k, k = y.heap.size := ⟨_, rfl⟩
            have hb1 : Below y.heap.size y (y.alloc (.cells (ceA false ⟨#[]⟩) 63)) := (Below.refl _ _).alloc (Nat.le_refl _) _
            have N1 : Hid (RowAt (y.alloc (.cells (ceA false ⟨#[]⟩) 63)) ga 63 (ceA false ⟨#[]⟩) ∧ Below y.heap.size y (y.alloc (.cells (ceA false ⟨#[]⟩) 63))) := by rw [hga]; exact ⟨RowAt.new y _ _, hb1⟩
            have HGA := hide hga
            clear hb1 hga LD cp1
            go_wp2_with (refine wpList_store_at rfl 63 (.tmp 11) (.tmp 95) rfl ga (ceA false ⟨#[]⟩) (ceA fu fv) ?h1 rfl N1.out.1 infoCe15 rfl (ceA_one _ _) ?_; (case h1 => rw [HGA.out]; rfl); intro y1 hr1 hk1 hrow1; refine stop10 ?_)
            have hb1 := hk1 _ _ N1.out.2 (by rw [HGA.out]; exact Nat.le_refl _)
            have H1 : Hid (HB y1 B g F hb ∧ RowAt y1 g7 95 #[.int .i64 ac.k, .int .i64 ac.n, .int .i64 ac.t, .int .i64 ac.pg, .int .i64 ac.sl, .bool ac.d, .string ac.v] ∧ RowAt y1 ga 63 (ceA fu fv) ∧ Aft15 F F w y1 ∧ ¬ F g7 ∧ ¬ F ga) := ⟨HY.out.1.later hb1, HY.out.2.1.later hb1, hr1, HY.out.2.2.1.later hb1, HY.out.2.2.2, fun hk => by have := (HY.out.1.here hk).2; have := HGA.out; omega⟩
            clear hr1 hk1 hrow1 hb1 N1 HY
            refine unstop10 ?_
            have a6 := H1.out.2.1.cell 6 (.string ac.v) rfl
            have a5 := H1.out.2.1.cell 5 (.bool ac.d) rfl
            have hvs := HFT.out.v
            obtain ⟨m20, hm20⟩ : ∃ m, m = min 20 ac.v.size := ⟨_, rfl⟩
            have hmn1 : (if ac.v.size < 20 then (ac.v.size : Int) else 20) = (m20 : Int) := by rw [hm20]; by_cases hq : ac.v.size < 20 <;> simp [hq] <;> omega
            have hmn2 : (if ((ac.v.size : Nat) : Int) < 20 then (ac.v.size : Int) else 20) = (m20 : Int) := by rw [hm20]; by_cases hq : (ac.v.size : Int) < 20 <;> simp [hq] <;> omega
            have hml : m20 ≤ ac.v.size := by omega
            have hml2 : (m20 : Int) ≤ (ac.v.size : Int) := by omega
            have hcut : Hid (cut20 ac.v = ac.v.extract 0 m20) := by rw [hm20]; rfl
            clear hm20
            rw [← HGA.out]
            obtain ⟨gb, hgb⟩ : ∃ k, k = y1.heap.size := ⟨_, rfl⟩
            have hb2 : Below y1.heap.size y1 (y1.alloc (.cells (ceA false ⟨#[]⟩) 63)) := (Below.refl _ _).alloc (Nat.le_refl _) _
            have N2 : Hid (RowAt (y1.alloc (.cells (ceA false ⟨#[]⟩) 63)) gb 63 (ceA false ⟨#[]⟩) ∧ Below y1.heap.size y1 (y1.alloc (.cells (ceA false ⟨#[]⟩) 63))) := by rw [hgb]; exact ⟨RowAt.new y1 _ _, hb2⟩
            have HGB := hide hgb
            clear hb2 hgb
            go_wp2_with (refine wpList_store_at rfl 63 (.tmp 12) (.tmp 103) rfl gb (ceA false ⟨#[]⟩) (ceA true (ac.v.extract 0 m20)) ?h1 rfl N2.out.1 infoCe15 rfl (ceA_one _ _) ?_; (case h1 => rw [HGB.out]; rfl); intro y2 hr2 hk2 hrow2; refine stop10 ?_)
            have hb2 := hk2 _ _ N2.out.2 (by rw [HGB.out]; exact Nat.le_refl _)
            have H2 : Hid (HB y2 B g F hb ∧ RowAt y2 g7 95 #[.int .i64 ac.k, .int .i64 ac.n, .int .i64 ac.t, .int .i64 ac.pg, .int .i64 ac.sl, .bool ac.d, .string ac.v] ∧ RowAt y2 ga 63 (ceA fu fv) ∧ RowAt y2 gb 63 (ceA true (ac.v.extract 0 m20)) ∧ Aft15 F F w y2 ∧ ¬ F g7 ∧ ¬ F ga ∧ ¬ F gb ∧ ga ≠ gb ∧ w.heap.size ≤ gb) := ⟨H1.out.1.later hb2, H1.out.2.1.later hb2, H1.out.2.2.1.later hb2, hr2, H1.out.2.2.2.1.later hb2, H1.out.2.2.2.2.1, H1.out.2.2.2.2.2, fun hk => by have := (H1.out.1.here hk).2; have := HGB.out; omega, fun e => by have := H1.out.2.2.1.lt; have := HGB.out; omega, by rw [HGB.out]; exact H1.out.2.2.2.1.1.size⟩
            clear hr2 hk2 hrow2 hb2 N2 a6 a5 H1 hmn1 hmn2 hml hml2
            refine unstop10 ?_
            rw [← HGB.out]
            have a5 := H2.out.2.1.cell 5 (.bool ac.d) rfl
            cases hd : ac.d with
            | true =>
              rw [hd] at a5
              go_wp2_with (refine wpList_store_at rfl 63 (.tmp 12) (.tmp 106) rfl gb (ceA true (ac.v.extract 0 m20)) (ceA false ⟨#[]⟩) rfl rfl H2.out.2.2.2.1 infoCe15 rfl (ceA_one _ _) ?_; intro y3 hr3 hk3 hrow3; refine stop10 ?_)
              have ho3 : HB y3 B g F hb := by
                obtain ⟨xx, hxx, hff⟩ := H2.out.1
                exact ⟨xx, hxx.keep (fun k t cs hk hr => hrow3 k t cs (fun e => H2.out.2.2.2.2.2.2.2.1 (by rw [hff, ← e]; exact hk)) hr), hff⟩
              have hb3 := hk3 _ _ (Below.refl w.heap.size y2) H2.out.2.2.2.2.2.2.2.2.2
              have H3 : Hid (HB y3 B g F hb ∧ RowAt y3 ga 63 (ceA fu fv) ∧ RowAt y3 gb 63 (ceA ac.toU ac.toV) ∧ Aft15 F F w y3) := by
                have e1 : ac.toU = false := by unfold Ac.toU; rw [hd]; rfl
                have e2 : ac.toV = ⟨#[]⟩ := by unfold Ac.toV; rw [hd, if_pos rfl]
                rw [e1, e2]
                exact ⟨ho3, hrow3 ga _ _ H2.out.2.2.2.2.2.2.2.2.1 H2.out.2.2.1, hr3, ⟨⟨hb3.os.trans H2.out.2.2.2.2.1.1.os, hb3.tape.trans H2.out.2.2.2.2.1.1.tape, hb3.output.trans H2.out.2.2.2.2.1.1.output, Nat.le_trans H2.out.2.2.2.2.1.1.size hb3.size, fun k hk hnf => (hb3.block k hk).trans (H2.out.2.2.2.2.1.1.block k hk hnf)⟩, fun k hk => .inl hk⟩⟩
              clear hr3 hk3 hrow3 hb3 ho3 a5
              refine unstop10 ?_
              have HN9 : Hid (¬ F ga ∧ ¬ F gb) := ⟨H2.out.2.2.2.2.2.2.1, H2.out.2.2.2.2.2.2.2.1⟩
              clear H2
              have HOF := hide (fun w => rof_any (p : Int) (s : Int) fu fv ac.toU ac.toV w)
              clear hcut
              generalize Go.Proofs.Ytohdmmfmjadipaa.ofE (p : Int) (s : Int) fu fv ac.toU ac.toV = E at *
              generalize Go.Proofs.Ytohdmmfmjadipaa.ofC (p : Int) (s : Int) fu fv ac.toU ac.toV = C at *
              go_wp2_with (with_reducible refine stop_at 110 rfl ?_)
              refine unstop10 ?_
              refine wpList_load_at rfl 63 (.tmp 11) rfl ga rfl (ceA fu fv) H3.out.2.1 _ Try.underlying63 rfl infoCe15 ?_
              refine wpList_load_at rfl 63 (.tmp 12) rfl gb rfl (ceA ac.toU ac.toV) H3.out.2.2.1 _ Try.underlying63 rfl infoCe15 ?_
              go_wp2_with fail
              refine (HOF.out y3).mono ?_
              rintro e z ⟨rfl, hbz⟩
              have H4 : Hid (HB z B g F hb ∧ RowAt z ga 63 (ceA fu fv) ∧ Aft15 F F w z) := ⟨H3.out.1.later hbz, H3.out.2.1.later hbz, H3.out.2.2.2.later hbz⟩
              clear hbz H3 HOF
              obtain ⟨gc, hgc⟩ : ∃ k, k = z.heap.size := ⟨_, rfl⟩
              have hb5 : Below z.heap.size z (z.alloc (.cells (chA Ch.zero) 26)) := (Below.refl _ _).alloc (Nat.le_refl _) _
              have N5 : Hid (RowAt (z.alloc (.cells (chA Ch.zero) 26)) gc 26 (chA Ch.zero) ∧ Below z.heap.size z (z.alloc (.cells (chA Ch.zero) 26))) := by rw [hgc]; exact ⟨RowAt.new z _ _, hb5⟩
              have HGC := hide hgc
              clear hb5 hgc
              go_wp2_with (refine wpList_store_at rfl 26 (.tmp 13) (.tmp 113) rfl gc (chA Ch.zero) (chA C) ?h1 rfl N5.out.1 infoCh rfl (chA_one _) ?_; (case h1 => rw [HGC.out]; rfl); intro z2 hr2 hk2 hrow2; refine stop10 ?_)
              have hb5 := hk2 _ _ N5.out.2 (by rw [HGC.out]; exact Nat.le_refl _)
              have H5 : Hid (HB z2 B g F hb ∧ RowAt z2 ga 63 (ceA fu fv) ∧ RowAt z2 gc 26 (chA C) ∧ Aft15 F F w z2 ∧ ¬ F gc) := ⟨H4.out.1.later hb5, H4.out.2.1.later hb5, hr2, H4.out.2.2.later hb5, fun hk => by have := (H4.out.1.here hk).2; have := HGC.out; omega⟩
              clear hr2 hk2 hrow2 hb5 N5 H4
              refine unstop10 ?_
              rw [← HGC.out]
              by_cases hE : E = 0
              · rw [hE] at HBF2 ⊢
                have HCR : Hid (C.right ∧ C.pg < 4) := by
                  have h9 : hb.ofC p s ac = rawC (p : Int) (s : Int) ((hb.pg p).u s) ((hb.pg p).s s) ac.toU ac.toV := by
                    show Go.Proofs.Ytohdmmfmjadipaa.ofC (p : Int) (s : Int) ((hb.pg p).u s) ((hb.pg p).s s) ac.toU ac.toV = _
                    unfold Go.Proofs.Ytohdmmfmjadipaa.ofC
                    exact if_pos HBF2.out.1
                  have h8 := (of_right15 (p : Int) (s : Int) ((hb.pg p).u s) ((hb.pg p).s s) ac.toU ac.toV HBF2.out.1)
                  rw [← HBF2.out.2]
                  refine ⟨h8, ?_⟩
                  rw [h9]
                  show (p : Int) < 4
                  omega
                obtain ⟨l0, l1, l2, l3⟩ := H5.out.1.lo (show p * 8 + s < 32 by omega)
                rw [show 45 + (p * 8 + s) * 4 = 45 + p * 32 + s * 4 by omega] at l0 l1 l2 l3
                rw [← HLNR.out] at l1
                rw [e4] at l1
                have e9 : (nr == 0) = false := by have := e2; rw [e4] at this; simpa using this
                have e8 : decide (nr = 0) = false := by have := e2; rw [e4] at this; simpa using this
                have H6 : Hid (HB z2 B g F (hb.locked n i p s) ∧ RowAt z2 ga 63 (ceA fu fv) ∧ RowAt z2 gc 26 (chA C) ∧ Aft15 F F w z2 ∧ ¬ F gc) := by
                  have hlk : hb.locked n i p s = hb := by
                    unfold Hs.locked
                    rw [if_neg (by rw [← HLNR.out]; exact e2)]
                  show HB z2 B g F (hb.locked n i p s) ∧ _
                  rw [hlk]
                  exact H5.out
                go_wp2_with fail
                clear l0 l1 l2 l3 e8 e9 H5
                obtain ⟨hl, hhl⟩ : ∃ hl, hl = hb.locked n i p s := ⟨_, rfl⟩
                have HLL : Hid (hl.ck = h.ck ∧ hl.hi = h.hi ∧ hl.lg = h.lg ∧ hl.pg = h.pg ∧ hl.past = h.past) := by
                  have h9 : hl.ck = hb.ck ∧ hl.hi = hb.hi ∧ hl.lg = hb.lg ∧ hl.pg = hb.pg ∧ hl.past = hb.past := by
                    rw [hhl]
                    unfold Hs.locked
                    by_cases hq : (hb.lk (p * 8 + s)).nr = 0
                    · rw [if_pos hq]
                      exact ⟨rfl, rfl, rfl, rfl, rfl⟩
                    · rw [if_neg hq]
                      exact ⟨rfl, rfl, rfl, rfl, rfl⟩
                  exact ⟨h9.1.trans HBF.out.2.2.2.1, h9.2.1.trans HBF.out.2.2.2.2, h9.2.2.1.trans HBF.out.1, h9.2.2.2.1.trans HBF.out.2.1, h9.2.2.2.2.trans HBF.out.2.2.1⟩
                rw [← hhl] at H6
                obtain ⟨c9, hc9⟩ : ∃ c, c = hl.ck n := ⟨_, rfl⟩
                obtain ⟨h9i, hh9⟩ : ∃ c, c = hl.hi := ⟨_, rfl⟩
                obtain ⟨M, hM⟩ : ∃ M, M = max c9 h9i := ⟨_, rfl⟩
                have hmx : (if c9 < h9i then (h9i : Int) else (c9 : Int)) = (M : Int) := by
                  rw [hM]
                  by_cases hq : c9 < h9i
                  · rw [if_pos hq]
                    omega
                  · rw [if_neg hq]
                    omega
                have HM : Hid (M ≤ 50000 ∧ hb.lockedUp n i p s = hl.setCk n M) := by
                  refine ⟨?_, ?_⟩
                  · have a := HW.out.ck n hn
                    have b := HW.out.hi
                    rw [← HLL.out.1, ← hc9] at a
                    rw [← HLL.out.2.1, ← hh9] at b
                    omega
                  · unfold Hs.lockedUp
                    rw [← hhl, hM, hc9, hh9, HLL.out.1, HLL.out.2.1, HBF.out.2.2.2.1, HBF.out.2.2.2.2]
                clear hM hhl
                have ckc := H6.out.1.ck hn
                rw [← hc9] at ckc
                have hic := H6.out.1.hi
                rw [← hh9] at hic
                have frc := H6.out.1.free (3 + n)
                have HC9 : Hid (c9 = hl.ck n ∧ h9i = hl.hi) := ⟨hc9, hh9⟩
                clear hc9 hh9
                refine wp_region_noPanic ?_
                refine wp_region_held_drew (S := fun z => z.cell? ⟨g, 173, none⟩ = some (.int .u64 (h9i : Int))) (by kernel_rfl) hic (fun hHeld => ?_)
                refine hand_take 0 (some 131) (.pointer (some ⟨g, 0, none⟩)) rfl rfl (by kernel_rfl) (by kernel_rfl) (by kernel_rfl) (fun _ _ _ h => h) (Or.inl ⟨by kernel_rfl, fun x' hSx => by go_simp⟩) hHeld ?_
                try simp only [Act.put, List.setIfInBounds_toArray, List.set_cons_zero, List.set_cons_succ]
                refine hand_take 1 (some 132) (.int .i64 (n : Int)) rfl rfl (by kernel_rfl) (by kernel_rfl) (by kernel_rfl) (fun _ _ _ h => h) (Or.inl ⟨by kernel_rfl, fun x' hSx => by go_simp⟩) hHeld ?_
                try simp only [Act.put, List.setIfInBounds_toArray, List.set_cons_zero, List.set_cons_succ]
                refine hand_take 2 (some 133) (.pointer (some ⟨g, 0, none⟩)) rfl rfl (by kernel_rfl) (by kernel_rfl) (by kernel_rfl) (fun _ _ _ h => h) (Or.inl ⟨by kernel_rfl, fun x' hSx => by go_simp⟩) hHeld ?_
                try simp only [Act.put, List.setIfInBounds_toArray, List.set_cons_zero, List.set_cons_succ]
                refine hand_take 3 (some 134) (.int .i64 (n : Int)) rfl rfl (by kernel_rfl) (by kernel_rfl) (by kernel_rfl) (fun _ _ _ h => h) (Or.inl ⟨by kernel_rfl, fun x' hSx => by go_simp⟩) hHeld ?_
                try simp only [Act.put, List.setIfInBounds_toArray, List.set_cons_zero, List.set_cons_succ]
                refine hand_take 4 (some 135) (.pointer (some ⟨g, 0, none⟩)) rfl rfl (by kernel_rfl) (by kernel_rfl) (by kernel_rfl) (fun _ _ _ h => h) (Or.inl ⟨by kernel_rfl, fun x' hSx => by go_simp⟩) hHeld ?_
                try simp only [Act.put, List.setIfInBounds_toArray, List.set_cons_zero, List.set_cons_succ]
                refine hand_take 5 (some 136) (.pointer (some ⟨g, 3, none⟩)) rfl rfl (by kernel_rfl) (by kernel_rfl) (by kernel_rfl) (fun _ _ _ h => h) (Or.inl ⟨by kernel_rfl, fun x' hSx => by go_simp⟩) hHeld ?_
                try simp only [Act.put, List.setIfInBounds_toArray, List.set_cons_zero, List.set_cons_succ]
                refine hand_take 6 (some 137) (.pointer (some ⟨g, 3 + n, none⟩)) rfl rfl (by kernel_rfl) (by kernel_rfl) (by kernel_rfl) (fun _ _ _ h => h) (Or.inl ⟨by kernel_rfl, fun x' hSx => by go_simp⟩) hHeld ?_
                try simp only [Act.put, List.setIfInBounds_toArray, List.set_cons_zero, List.set_cons_succ]
                refine hand_take 8 (some 139) (.pointer (some ⟨g, 0, none⟩)) rfl rfl (by kernel_rfl) (by kernel_rfl) (by kernel_rfl) (fun _ _ _ h => h) (Or.inl ⟨by kernel_rfl, fun x' hSx => by go_simp⟩) hHeld ?_
                try simp only [Act.put, List.setIfInBounds_toArray, List.set_cons_zero, List.set_cons_succ]
                refine hand_take 9 (some 140) (.pointer (some ⟨g, 0, none⟩)) rfl rfl (by kernel_rfl) (by kernel_rfl) (by kernel_rfl) (fun _ _ _ h => h) (Or.inl ⟨by kernel_rfl, fun x' hSx => by go_simp⟩) hHeld ?_
                try simp only [Act.put, List.setIfInBounds_toArray, List.set_cons_zero, List.set_cons_succ]
                refine hand_take 10 (some 141) (.pointer (some ⟨g, 173, none⟩)) rfl rfl (by kernel_rfl) (by kernel_rfl) (by kernel_rfl) (fun _ _ _ h => h) (Or.inl ⟨by kernel_rfl, fun x' hSx => by go_simp⟩) hHeld ?_
                try simp only [Act.put, List.setIfInBounds_toArray, List.set_cons_zero, List.set_cons_succ]
                refine hand_take 11 (some 142) (.int .u64 (h9i : Int)) rfl rfl (by kernel_rfl) (by kernel_rfl) (by kernel_rfl) (fun _ _ _ h => h) (Or.inl ⟨by kernel_rfl, fun x' hSx => by have h : World.cell? x' ⟨g, 173, none⟩ = some (.int .u64 (h9i : Int)) := hSx; go_simp⟩) hHeld ?_
                try simp only [Act.put, List.setIfInBounds_toArray, List.set_cons_zero, List.set_cons_succ]
                refine hand_take 13 (some 144) (.pointer (some ⟨g, 0, none⟩)) rfl rfl (by kernel_rfl) (by kernel_rfl) (by kernel_rfl) (fun _ _ _ h => h) (Or.inl ⟨by kernel_rfl, fun x' hSx => by go_simp⟩) hHeld ?_
                try simp only [Act.put, List.setIfInBounds_toArray, List.set_cons_zero, List.set_cons_succ]
                refine hand_take 14 (some 145) (.pointer (some ⟨g, 3, none⟩)) rfl rfl (by kernel_rfl) (by kernel_rfl) (by kernel_rfl) (fun _ _ _ h => h) (Or.inl ⟨by kernel_rfl, fun x' hSx => by go_simp⟩) hHeld ?_
                try simp only [Act.put, List.setIfInBounds_toArray, List.set_cons_zero, List.set_cons_succ]
                refine hand_one 7 (by kernel_rfl) ?_
                refine hand_run (some 138) rfl rfl rfl (.int .u64 (c9 : Int)) z2.drew ?hz ?_
                (case hz => go_simp)
                refine ⟨hic, ?_⟩
                try simp only [Act.put, List.setIfInBounds_toArray, List.set_cons_zero, List.set_cons_succ]
                refine hand_take 12 (some 143) (.int .u64 (M : Int)) rfl rfl (by kernel_rfl) (by kernel_rfl) (by kernel_rfl) (fun _ _ _ h => h) (Or.inl ⟨by kernel_rfl, fun x' hSx => by go_simp⟩) hHeld ?_
                try simp only [Act.put, List.setIfInBounds_toArray, List.set_cons_zero, List.set_cons_succ]
                refine hand_take 15 (some 146) (.pointer (some ⟨g, 3 + n, none⟩)) rfl rfl (by kernel_rfl) (by kernel_rfl) (by kernel_rfl) (fun _ _ _ h => h) (Or.inl ⟨by kernel_rfl, fun x' hSx => by go_simp⟩) hHeld ?_
                try simp only [Act.put, List.setIfInBounds_toArray, List.set_cons_zero, List.set_cons_succ]
                refine hand_one 16 (by kernel_rfl) ?_
                have q5 := H6.out.1.drew.cell (h' := hl.setCk n M) (3 + n) (.int .u64 (M : Int)) (fun cs a b c H => H.setCk hn M) rfl rfl rfl
                refine hand_skip15 rfl rfl rfl (z2.drew.setCell ⟨g, 3 + n, none⟩ (.int .u64 (M : Int))) ?hs ?_
                (case hs => go_simp)
                have hic2 := q5.1.hi
                rw [show (hl.setCk n M).hi = h9i from HC9.out.2.symm] at hic2
                refine ⟨hic2, ?_⟩
                try simp only [Act.put, List.setIfInBounds_toArray, List.set_cons_zero, List.set_cons_succ]
                refine wpAnyH_done (by kernel_rfl) ?_ _
                refine NoPanic.normal ?_
                have H7 : Hid (HB (z2.drew.setCell ⟨g, 3 + n, none⟩ (.int .u64 (M : Int))) B g F (hb.lockedUp n i p s) ∧ RowAt (z2.drew.setCell ⟨g, 3 + n, none⟩ (.int .u64 (M : Int))) gc 26 (chA C) ∧ Aft15 F F w (z2.drew.setCell ⟨g, 3 + n, none⟩ (.int .u64 (M : Int)))) := by
                  refine ⟨by rw [HM.out.2]; exact q5.1, H6.out.2.2.1.other ⟨g, 3 + n, none⟩ _ (fun e => H6.out.2.2.2.2 (by rw [show gc = g from e]; exact H6.out.1.mine)), (H6.out.2.2.2.1.later (below_drew (Below.refl _ _))).trans q5.2⟩
                have HLU : Hid ((hb.lockedUp n i p s).ck n = M ∧ (hb.lockedUp n i p s).lg = h.lg ∧ (hb.lockedUp n i p s).pg = h.pg ∧ (hb.lockedUp n i p s).past = h.past) := by
                  rw [HM.out.2]
                  exact ⟨upd_same _ _ _, HLL.out.2.2.1, HLL.out.2.2.2.1, HLL.out.2.2.2.2⟩
                clear q5 hic hic2 ckc frc hmx hHeld H6 HC9
                refine gen_w (fun z => HB z B g F (hb.lockedUp n i p s) ∧ RowAt z gc 26 (chA C) ∧ Aft15 F F w z) H7.out ?_
                clear H7
                intro z5 H70
                have H7 := hide H70
                clear H70
                have HTU := hide (fun (hcl : C.pg.toNat < 4) => hturn15 z5 B g n i o F (hb.lockedUp n i p s) (bare15 1 C 0) H7.out.1 hn hi HO.out ⟨rfl, rfl, rec_fits15c (ch_fits15 HCR.out.1) rfl rfl⟩ HCR.out.1 HCR.out.2 (by rw [HLU.out.1]; have := HM.out.1; omega) (by rw [HLU.out.2.2.1]; have := HW.out.pl _ hcl; exact Nat.le_trans this (by decide)) (by rw [HLU.out.2.1]; exact HW.out.lg n hn) (by rw [HLU.out.2.2.2]; exact HW.out.past _ hcl))
                have HTU2 := hide (HTU.out (by have := HCR.out; omega))
                clear HTU
                have hrl : rcF (bareM (bare15 1 C 0)) = #[.int .i64 1, .int .u64 0, .int .i64 0, .int .u64 0, .int .i64 C.k, .int .i64 C.pg, .int .i64 C.sl, .string C.o, .string C.n, .int .u64 0, .int .i64 0, .int .u64 0, .slice none 0 0, .slice none 0 0] := rfl
                rw [hrl] at HTU2
                clear hrl
                go_wp2_with (with_reducible refine stop_at 150 rfl ?_)
                refine unstop10 ?_
                refine wpList_load_at rfl 26 (.tmp 13) rfl gc rfl #[.int .i64 C.k, .int .i64 C.pg, .int .i64 C.sl, .string C.o, .string C.n] H7.out.2.1 _ Try.underlying26 rfl infoCh ?_
                go_wp2_with fail
                refine HTU2.out.mono ?_
                rintro e z6 ⟨F6, rfl, hb6, ha6⟩
                have HTD : Hid (h.change n i ac = (hb.turned n i p s ac).nextIs i ((hb.turned n i p s ac).tx i).last ∧ (hb.lockedUp n i p s).turn n i (bare15 1 C 0) = hb.turned n i p s ac) := by
                  have h9 : (hb.lockedUp n i p s).turn n i (bare15 1 C 0) = hb.turned n i p s ac := by
                    unfold Hs.turned
                    rw [HBF2.out.2]
                  refine ⟨?_, h9⟩
                  rw [HCH.out]
                  unfold Hs.change1
                  rw [HNB.out, if_neg (by decide), if_neg (fun hq => hq HBF2.out.1)]
                  rfl
                rw [HTD.out.2] at hb6
                obtain ⟨ht, hht⟩ : ∃ ht, ht = hb.turned n i p s ac := ⟨_, rfl⟩
                rw [← hht] at hb6 HTD
                have H8 : Hid (HB z6 B g F6 ht ∧ Aft15 F F6 w z6) := ⟨hb6, H7.out.2.2.trans ha6⟩
                obtain ⟨-, -, t2, t3⟩ := hb6.tu hi HO.out
                have f3 := hb6.free (o + 3)
                clear hht hb6 ha6 H7 HTU2
                obtain ⟨lst, hlst⟩ : ∃ c, c = (ht.tx i).last := ⟨_, rfl⟩
                rw [← hlst] at t2 HTD
                clear hlst
                go_wp2
                have q8 := H8.out.1.cell (h' := ht.nextIs i lst) (o + 3) (.int .u64 (lst : Int)) (fun cs a b c H => by rw [HO.out]; exact H.setTx hi _ 3 (by omega) _ rfl (fun k hk he => by
                  rcases (show k = 0 ∨ k = 1 ∨ k = 2 ∨ k = 3 by omega) with rfl | rfl | rfl | rfl
                  · rfl
                  · rfl
                  · rfl
                  · exact absurd rfl he)) rfl rfl rfl
                refine bodyPost_end (results_none rfl _ _ _) rfl ⟨F6, rfl, ?_, H8.out.2.trans q8.2⟩
                rw [HTD.out.1]
                exact q8.1
              · have hEa : (E != 0) = true := by simpa using hE
                have hEb : decide (E = 0) = false := by simpa using hE
                go_wp2
                refine bodyPost_ret (results_none rfl _ _ _) rfl ⟨F, rfl, ?_, H5.out.2.2.2.1⟩
                rw [HCH.out, show hb.change1 n i p s ac = hb by unfold Hs.change1; rw [HNB.out, if_neg (by decide), HBF2.out.1, if_pos hE]]
                exact H5.out.1
            | false =>
              rw [hd] at a5
              have H3 : Hid (HB y2 B g F hb ∧ RowAt y2 ga 63 (ceA fu fv) ∧ RowAt y2 gb 63 (ceA ac.toU ac.toV) ∧ Aft15 F F w y2) := by
                have e1 : ac.toU = true := by unfold Ac.toU; rw [hd]; rfl
                have e2 : ac.toV = ac.v.extract 0 m20 := by unfold Ac.toV; rw [hd, if_neg (by decide), hcut.out]
                rw [e1, e2]
                exact ⟨H2.out.1, H2.out.2.2.1, H2.out.2.2.2.1, H2.out.2.2.2.2.1⟩
              go_wp2_with (with_reducible refine stop_at 110 rfl ?_)
              clear a5
              refine unstop10 ?_
              have HN9 : Hid (¬ F ga ∧ ¬ F gb) := ⟨H2.out.2.2.2.2.2.2.1, H2.out.2.2.2.2.2.2.2.1⟩
              clear H2
              have HOF := hide (fun w => rof_any (p : Int) (s : Int) fu fv ac.toU ac.toV w)
              clear hcut
              generalize Go.Proofs.Ytohdmmfmjadipaa.ofE (p : Int) (s : Int) fu fv ac.toU ac.toV = E at *
              generalize Go.Proofs.Ytohdmmfmjadipaa.ofC (p : Int) (s : Int) fu fv ac.toU ac.toV = C at *
              refine wpList_load_at rfl 63 (.tmp 11) rfl ga rfl (ceA fu fv) H3.out.2.1 _ Try.underlying63 rfl infoCe15 ?_
              refine wpList_load_at rfl 63 (.tmp 12) rfl gb rfl (ceA ac.toU ac.toV) H3.out.2.2.1 _ Try.underlying63 rfl infoCe15 ?_
              go_wp2_with fail
              refine (HOF.out y2).mono ?_
              rintro e z ⟨rfl, hbz⟩
              have H4 : Hid (HB z B g F hb ∧ RowAt z ga 63 (ceA fu fv) ∧ Aft15 F F w z) := ⟨H3.out.1.later hbz, H3.out.2.1.later hbz, H3.out.2.2.2.later hbz⟩
              clear hbz H3 HOF
              obtain ⟨gc, hgc⟩ : ∃ k, k = z.heap.size := ⟨_, rfl⟩
              have hb5 : Below z.heap.size z (z.alloc (.cells (chA Ch.zero) 26)) := (Below.refl _ _).alloc (Nat.le_refl _) _
              have N5 : Hid (RowAt (z.alloc (.cells (chA Ch.zero) 26)) gc 26 (chA Ch.zero) ∧ Below z.heap.size z (z.alloc (.cells (chA Ch.zero) 26))) := by rw [hgc]; exact ⟨RowAt.new z _ _, hb5⟩
              have HGC := hide hgc
              clear hb5 hgc
              go_wp2_with (refine wpList_store_at rfl 26 (.tmp 13) (.tmp 113) rfl gc (chA Ch.zero) (chA C) ?h1 rfl N5.out.1 infoCh rfl (chA_one _) ?_; (case h1 => rw [HGC.out]; rfl); intro z2 hr2 hk2 hrow2; refine stop10 ?_)
              have hb5 := hk2 _ _ N5.out.2 (by rw [HGC.out]; exact Nat.le_refl _)
              have H5 : Hid (HB z2 B g F hb ∧ RowAt z2 ga 63 (ceA fu fv) ∧ RowAt z2 gc 26 (chA C) ∧ Aft15 F F w z2 ∧ ¬ F gc) := ⟨H4.out.1.later hb5, H4.out.2.1.later hb5, hr2, H4.out.2.2.later hb5, fun hk => by have := (H4.out.1.here hk).2; have := HGC.out; omega⟩
              clear hr2 hk2 hrow2 hb5 N5 H4
              refine unstop10 ?_
              rw [← HGC.out]
              by_cases hE : E = 0
              · rw [hE] at HBF2 ⊢
                have HCR : Hid (C.right ∧ C.pg < 4) := by
                  have h9 : hb.ofC p s ac = rawC (p : Int) (s : Int) ((hb.pg p).u s) ((hb.pg p).s s) ac.toU ac.toV := by
                    show Go.Proofs.Ytohdmmfmjadipaa.ofC (p : Int) (s : Int) ((hb.pg p).u s) ((hb.pg p).s s) ac.toU ac.toV = _
                    unfold Go.Proofs.Ytohdmmfmjadipaa.ofC
                    exact if_pos HBF2.out.1
                  have h8 := (of_right15 (p : Int) (s : Int) ((hb.pg p).u s) ((hb.pg p).s s) ac.toU ac.toV HBF2.out.1)
                  rw [← HBF2.out.2]
                  refine ⟨h8, ?_⟩
                  rw [h9]
                  show (p : Int) < 4
                  omega
                obtain ⟨l0, l1, l2, l3⟩ := H5.out.1.lo (show p * 8 + s < 32 by omega)
                rw [show 45 + (p * 8 + s) * 4 = 45 + p * 32 + s * 4 by omega] at l0 l1 l2 l3
                rw [← HLNR.out] at l1
                rw [e4] at l1
                have e9 : (nr == 0) = false := by have := e2; rw [e4] at this; simpa using this
                have e8 : decide (nr = 0) = false := by have := e2; rw [e4] at this; simpa using this
                have H6 : Hid (HB z2 B g F (hb.locked n i p s) ∧ RowAt z2 ga 63 (ceA fu fv) ∧ RowAt z2 gc 26 (chA C) ∧ Aft15 F F w z2 ∧ ¬ F gc) := by
                  have hlk : hb.locked n i p s = hb := by
                    unfold Hs.locked
                    rw [if_neg (by rw [← HLNR.out]; exact e2)]
                  show HB z2 B g F (hb.locked n i p s) ∧ _
                  rw [hlk]
                  exact H5.out
                go_wp2_with fail
                clear l0 l1 l2 l3 e8 e9 H5
                obtain ⟨hl, hhl⟩ : ∃ hl, hl = hb.locked n i p s := ⟨_, rfl⟩
                have HLL : Hid (hl.ck = h.ck ∧ hl.hi = h.hi ∧ hl.lg = h.lg ∧ hl.pg = h.pg ∧ hl.past = h.past) := by
                  have h9 : hl.ck = hb.ck ∧ hl.hi = hb.hi ∧ hl.lg = hb.lg ∧ hl.pg = hb.pg ∧ hl.past = hb.past := by
                    rw [hhl]
                    unfold Hs.locked
                    by_cases hq : (hb.lk (p * 8 + s)).nr = 0
                    · rw [if_pos hq]
                      exact ⟨rfl, rfl, rfl, rfl, rfl⟩
                    · rw [if_neg hq]
                      exact ⟨rfl, rfl, rfl, rfl, rfl⟩
                  exact ⟨h9.1.trans HBF.out.2.2.2.1, h9.2.1.trans HBF.out.2.2.2.2, h9.2.2.1.trans HBF.out.1, h9.2.2.2.1.trans HBF.out.2.1, h9.2.2.2.2.trans HBF.out.2.2.1⟩
                rw [← hhl] at H6
                obtain ⟨c9, hc9⟩ : ∃ c, c = hl.ck n := ⟨_, rfl⟩
                obtain ⟨h9i, hh9⟩ : ∃ c, c = hl.hi := ⟨_, rfl⟩
                obtain ⟨M, hM⟩ : ∃ M, M = max c9 h9i := ⟨_, rfl⟩
                have hmx : (if c9 < h9i then (h9i : Int) else (c9 : Int)) = (M : Int) := by
                  rw [hM]
                  by_cases hq : c9 < h9i
                  · rw [if_pos hq]
                    omega
                  · rw [if_neg hq]
                    omega
                have HM : Hid (M ≤ 50000 ∧ hb.lockedUp n i p s = hl.setCk n M) := by
                  refine ⟨?_, ?_⟩
                  · have a := HW.out.ck n hn
                    have b := HW.out.hi
                    rw [← HLL.out.1, ← hc9] at a
                    rw [← HLL.out.2.1, ← hh9] at b
                    omega
                  · unfold Hs.lockedUp
                    rw [← hhl, hM, hc9, hh9, HLL.out.1, HLL.out.2.1, HBF.out.2.2.2.1, HBF.out.2.2.2.2]
                clear hM hhl
                have ckc := H6.out.1.ck hn
                rw [← hc9] at ckc
                have hic := H6.out.1.hi
                rw [← hh9] at hic
                have frc := H6.out.1.free (3 + n)
                have HC9 : Hid (c9 = hl.ck n ∧ h9i = hl.hi) := ⟨hc9, hh9⟩
                clear hc9 hh9
                refine wp_region_noPanic ?_
                refine wp_region_held_drew (S := fun z => z.cell? ⟨g, 173, none⟩ = some (.int .u64 (h9i : Int))) (by kernel_rfl) hic (fun hHeld => ?_)
                refine hand_take 0 (some 131) (.pointer (some ⟨g, 0, none⟩)) rfl rfl (by kernel_rfl) (by kernel_rfl) (by kernel_rfl) (fun _ _ _ h => h) (Or.inl ⟨by kernel_rfl, fun x' hSx => by go_simp⟩) hHeld ?_
                try simp only [Act.put, List.setIfInBounds_toArray, List.set_cons_zero, List.set_cons_succ]
                refine hand_take 1 (some 132) (.int .i64 (n : Int)) rfl rfl (by kernel_rfl) (by kernel_rfl) (by kernel_rfl) (fun _ _ _ h => h) (Or.inl ⟨by kernel_rfl, fun x' hSx => by go_simp⟩) hHeld ?_
                try simp only [Act.put, List.setIfInBounds_toArray, List.set_cons_zero, List.set_cons_succ]
                refine hand_take 2 (some 133) (.pointer (some ⟨g, 0, none⟩)) rfl rfl (by kernel_rfl) (by kernel_rfl) (by kernel_rfl) (fun _ _ _ h => h) (Or.inl ⟨by kernel_rfl, fun x' hSx => by go_simp⟩) hHeld ?_
                try simp only [Act.put, List.setIfInBounds_toArray, List.set_cons_zero, List.set_cons_succ]
                refine hand_take 3 (some 134) (.int .i64 (n : Int)) rfl rfl (by kernel_rfl) (by kernel_rfl) (by kernel_rfl) (fun _ _ _ h => h) (Or.inl ⟨by kernel_rfl, fun x' hSx => by go_simp⟩) hHeld ?_
                try simp only [Act.put, List.setIfInBounds_toArray, List.set_cons_zero, List.set_cons_succ]
                refine hand_take 4 (some 135) (.pointer (some ⟨g, 0, none⟩)) rfl rfl (by kernel_rfl) (by kernel_rfl) (by kernel_rfl) (fun _ _ _ h => h) (Or.inl ⟨by kernel_rfl, fun x' hSx => by go_simp⟩) hHeld ?_
                try simp only [Act.put, List.setIfInBounds_toArray, List.set_cons_zero, List.set_cons_succ]
                refine hand_take 5 (some 136) (.pointer (some ⟨g, 3, none⟩)) rfl rfl (by kernel_rfl) (by kernel_rfl) (by kernel_rfl) (fun _ _ _ h => h) (Or.inl ⟨by kernel_rfl, fun x' hSx => by go_simp⟩) hHeld ?_
                try simp only [Act.put, List.setIfInBounds_toArray, List.set_cons_zero, List.set_cons_succ]
                refine hand_take 6 (some 137) (.pointer (some ⟨g, 3 + n, none⟩)) rfl rfl (by kernel_rfl) (by kernel_rfl) (by kernel_rfl) (fun _ _ _ h => h) (Or.inl ⟨by kernel_rfl, fun x' hSx => by go_simp⟩) hHeld ?_
                try simp only [Act.put, List.setIfInBounds_toArray, List.set_cons_zero, List.set_cons_succ]
                refine hand_take 8 (some 139) (.pointer (some ⟨g, 0, none⟩)) rfl rfl (by kernel_rfl) (by kernel_rfl) (by kernel_rfl) (fun _ _ _ h => h) (Or.inl ⟨by kernel_rfl, fun x' hSx => by go_simp⟩) hHeld ?_
                try simp only [Act.put, List.setIfInBounds_toArray, List.set_cons_zero, List.set_cons_succ]
                refine hand_take 9 (some 140) (.pointer (some ⟨g, 0, none⟩)) rfl rfl (by kernel_rfl) (by kernel_rfl) (by kernel_rfl) (fun _ _ _ h => h) (Or.inl ⟨by kernel_rfl, fun x' hSx => by go_simp⟩) hHeld ?_
                try simp only [Act.put, List.setIfInBounds_toArray, List.set_cons_zero, List.set_cons_succ]
                refine hand_take 10 (some 141) (.pointer (some ⟨g, 173, none⟩)) rfl rfl (by kernel_rfl) (by kernel_rfl) (by kernel_rfl) (fun _ _ _ h => h) (Or.inl ⟨by kernel_rfl, fun x' hSx => by go_simp⟩) hHeld ?_
                try simp only [Act.put, List.setIfInBounds_toArray, List.set_cons_zero, List.set_cons_succ]
                refine hand_take 11 (some 142) (.int .u64 (h9i : Int)) rfl rfl (by kernel_rfl) (by kernel_rfl) (by kernel_rfl) (fun _ _ _ h => h) (Or.inl ⟨by kernel_rfl, fun x' hSx => by have h : World.cell? x' ⟨g, 173, none⟩ = some (.int .u64 (h9i : Int)) := hSx; go_simp⟩) hHeld ?_
                try simp only [Act.put, List.setIfInBounds_toArray, List.set_cons_zero, List.set_cons_succ]
                refine hand_take 13 (some 144) (.pointer (some ⟨g, 0, none⟩)) rfl rfl (by kernel_rfl) (by kernel_rfl) (by kernel_rfl) (fun _ _ _ h => h) (Or.inl ⟨by kernel_rfl, fun x' hSx => by go_simp⟩) hHeld ?_
                try simp only [Act.put, List.setIfInBounds_toArray, List.set_cons_zero, List.set_cons_succ]
                refine hand_take 14 (some 145) (.pointer (some ⟨g, 3, none⟩)) rfl rfl (by kernel_rfl) (by kernel_rfl) (by kernel_rfl) (fun _ _ _ h => h) (Or.inl ⟨by kernel_rfl, fun x' hSx => by go_simp⟩) hHeld ?_
                try simp only [Act.put, List.setIfInBounds_toArray, List.set_cons_zero, List.set_cons_succ]
                refine hand_one 7 (by kernel_rfl) ?_
                refine hand_run (some 138) rfl rfl rfl (.int .u64 (c9 : Int)) z2.drew ?hz ?_
                (case hz => go_simp)
                refine ⟨hic, ?_⟩
                try simp only [Act.put, List.setIfInBounds_toArray, List.set_cons_zero, List.set_cons_succ]
                refine hand_take 12 (some 143) (.int .u64 (M : Int)) rfl rfl (by kernel_rfl) (by kernel_rfl) (by kernel_rfl) (fun _ _ _ h => h) (Or.inl ⟨by kernel_rfl, fun x' hSx => by go_simp⟩) hHeld ?_
                try simp only [Act.put, List.setIfInBounds_toArray, List.set_cons_zero, List.set_cons_succ]
                refine hand_take 15 (some 146) (.pointer (some ⟨g, 3 + n, none⟩)) rfl rfl (by kernel_rfl) (by kernel_rfl) (by kernel_rfl) (fun _ _ _ h => h) (Or.inl ⟨by kernel_rfl, fun x' hSx => by go_simp⟩) hHeld ?_
                try simp only [Act.put, List.setIfInBounds_toArray, List.set_cons_zero, List.set_cons_succ]
                refine hand_one 16 (by kernel_rfl) ?_
                have q5 := H6.out.1.drew.cell (h' := hl.setCk n M) (3 + n) (.int .u64 (M : Int)) (fun cs a b c H => H.setCk hn M) rfl rfl rfl
                refine hand_skip15 rfl rfl rfl (z2.drew.setCell ⟨g, 3 + n, none⟩ (.int .u64 (M : Int))) ?hs ?_
                (case hs => go_simp)
                have hic2 := q5.1.hi
                rw [show (hl.setCk n M).hi = h9i from HC9.out.2.symm] at hic2
                refine ⟨hic2, ?_⟩
                try simp only [Act.put, List.setIfInBounds_toArray, List.set_cons_zero, List.set_cons_succ]
                refine wpAnyH_done (by kernel_rfl) ?_ _
                refine NoPanic.normal ?_
                have H7 : Hid (HB (z2.drew.setCell ⟨g, 3 + n, none⟩ (.int .u64 (M : Int))) B g F (hb.lockedUp n i p s) ∧ RowAt (z2.drew.setCell ⟨g, 3 + n, none⟩ (.int .u64 (M : Int))) gc 26 (chA C) ∧ Aft15 F F w (z2.drew.setCell ⟨g, 3 + n, none⟩ (.int .u64 (M : Int)))) := by
                  refine ⟨by rw [HM.out.2]; exact q5.1, H6.out.2.2.1.other ⟨g, 3 + n, none⟩ _ (fun e => H6.out.2.2.2.2 (by rw [show gc = g from e]; exact H6.out.1.mine)), (H6.out.2.2.2.1.later (below_drew (Below.refl _ _))).trans q5.2⟩
                have HLU : Hid ((hb.lockedUp n i p s).ck n = M ∧ (hb.lockedUp n i p s).lg = h.lg ∧ (hb.lockedUp n i p s).pg = h.pg ∧ (hb.lockedUp n i p s).past = h.past) := by
                  rw [HM.out.2]
                  exact ⟨upd_same _ _ _, HLL.out.2.2.1, HLL.out.2.2.2.1, HLL.out.2.2.2.2⟩
                clear q5 hic hic2 ckc frc hmx hHeld H6 HC9
                refine gen_w (fun z => HB z B g F (hb.lockedUp n i p s) ∧ RowAt z gc 26 (chA C) ∧ Aft15 F F w z) H7.out ?_
                clear H7
                intro z5 H70
                have H7 := hide H70
                clear H70
                have HTU := hide (fun (hcl : C.pg.toNat < 4) => hturn15 z5 B g n i o F (hb.lockedUp n i p s) (bare15 1 C 0) H7.out.1 hn hi HO.out ⟨rfl, rfl, rec_fits15c (ch_fits15 HCR.out.1) rfl rfl⟩ HCR.out.1 HCR.out.2 (by rw [HLU.out.1]; have := HM.out.1; omega) (by rw [HLU.out.2.2.1]; have := HW.out.pl _ hcl; exact Nat.le_trans this (by decide)) (by rw [HLU.out.2.1]; exact HW.out.lg n hn) (by rw [HLU.out.2.2.2]; exact HW.out.past _ hcl))
                have HTU2 := hide (HTU.out (by have := HCR.out; omega))
                clear HTU
                have hrl : rcF (bareM (bare15 1 C 0)) = #[.int .i64 1, .int .u64 0, .int .i64 0, .int .u64 0, .int .i64 C.k, .int .i64 C.pg, .int .i64 C.sl, .string C.o, .string C.n, .int .u64 0, .int .i64 0, .int .u64 0, .slice none 0 0, .slice none 0 0] := rfl
                rw [hrl] at HTU2
                clear hrl
                go_wp2_with (with_reducible refine stop_at 150 rfl ?_)
                refine unstop10 ?_
                refine wpList_load_at rfl 26 (.tmp 13) rfl gc rfl #[.int .i64 C.k, .int .i64 C.pg, .int .i64 C.sl, .string C.o, .string C.n] H7.out.2.1 _ Try.underlying26 rfl infoCh ?_
                go_wp2_with fail
                refine HTU2.out.mono ?_
                rintro e z6 ⟨F6, rfl, hb6, ha6⟩
                have HTD : Hid (h.change n i ac = (hb.turned n i p s ac).nextIs i ((hb.turned n i p s ac).tx i).last ∧ (hb.lockedUp n i p s).turn n i (bare15 1 C 0) = hb.turned n i p s ac) := by
                  have h9 : (hb.lockedUp n i p s).turn n i (bare15 1 C 0) = hb.turned n i p s ac := by
                    unfold Hs.turned
                    rw [HBF2.out.2]
                  refine ⟨?_, h9⟩
                  rw [HCH.out]
                  unfold Hs.change1
                  rw [HNB.out, if_neg (by decide), if_neg (fun hq => hq HBF2.out.1)]
                  rfl
                rw [HTD.out.2] at hb6
                obtain ⟨ht, hht⟩ : ∃ ht, ht = hb.turned n i p s ac := ⟨_, rfl⟩
                rw [← hht] at hb6 HTD
                have H8 : Hid (HB z6 B g F6 ht ∧ Aft15 F F6 w z6) := ⟨hb6, H7.out.2.2.trans ha6⟩
                obtain ⟨-, -, t2, t3⟩ := hb6.tu hi HO.out
                have f3 := hb6.free (o + 3)
                clear hht hb6 ha6 H7 HTU2
                obtain ⟨lst, hlst⟩ : ∃ c, c = (ht.tx i).last := ⟨_, rfl⟩
                rw [← hlst] at t2 HTD
                clear hlst
                go_wp2
                have q8 := H8.out.1.cell (h' := ht.nextIs i lst) (o + 3) (.int .u64 (lst : Int)) (fun cs a b c H => by rw [HO.out]; exact H.setTx hi _ 3 (by omega) _ rfl (fun k hk he => by
                  rcases (show k = 0 ∨ k = 1 ∨ k = 2 ∨ k = 3 by omega) with rfl | rfl | rfl | rfl
                  · rfl
                  · rfl
                  · rfl
                  · exact absurd rfl he)) rfl rfl rfl
                refine bodyPost_end (results_none rfl _ _ _) rfl ⟨F6, rfl, ?_, H8.out.2.trans q8.2⟩
                rw [HTD.out.1]
                exact q8.1
              · have hEa : (E != 0) = true := by simpa using hE
                have hEb : decide (E = 0) = false := by simpa using hE
                go_wp2
                refine bodyPost_ret (results_none rfl _ _ _) rfl ⟨F, rfl, ?_, H5.out.2.2.2.1⟩
                rw [HCH.out, show hb.change1 n i p s ac = hb by unfold Hs.change1; rw [HNB.out, if_neg (by decide), HBF2.out.1, if_pos hE]]
                exact H5.out.1
          · have e4a : (lnr != nr) = true := by simpa using e4
            have e4b : decide (lnr = nr) = false := by simpa using e4
            go_wp2_with fail
            go_quiet (fail)
            go_wp2
            refine bodyPost_ret (results_none rfl _ _ _) rfl ⟨F, rfl, ?_, HY.out.2.2.1.later (below_dn (Below.refl _ _) _)⟩
            rw [HCH.out, show hb.change1 n i p s ac = hb by unfold Hs.change1; rw [HBAR.out, if_pos (by rw [e1, e3]; simp [e2, e4])]]
            exact HY.out.1.later (below_dn (Below.refl _ _) _)
        · have e3a : (lnd != (n : Int)) = true := by simpa using e3
          have e3b : decide (lnd = (n : Int)) = false := by simpa using e3
          go_wp2_with fail
          go_quiet (fail)
          go_wp2
          refine bodyPost_ret (results_none rfl _ _ _) rfl ⟨F, rfl, ?_, HY.out.2.2.1.later (below_dn (Below.refl _ _) _)⟩
          rw [HCH.out, show hb.change1 n i p s ac = hb by unfold Hs.change1; rw [HBAR.out, if_pos (by rw [e1]; simp [e2, e3])]]
          exact HY.out.1.later (below_dn (Below.refl _ _) _)
    · have e1a : (st != 1) = true := by simpa using e1
      have e1b : decide (st = 1) = false := by simpa using e1
      go_wp2_with fail
      go_quiet (fail)
      go_wp2
      refine bodyPost_ret (results_none rfl _ _ _) rfl ⟨F, rfl, ?_, HY.out.2.2.1.later (below_dn (Below.refl _ _) _)⟩
      rw [HCH.out, show hb.change1 n i p s ac = hb by unfold Hs.change1; rw [HBAR.out, if_pos (by simp [e1])]]
      exact HY.out.1.later (below_dn (Below.refl _ _) _)
  · have HBF : Hid ((h.begun n i).lg = h.lg ∧ (h.begun n i).pg = h.pg ∧ (h.begun n i).past = h.past ∧ (h.begun n i).ck = h.ck ∧ (h.begun n i).hi = h.hi) := by
      show _ ∧ _
      rw [begun_no e0]
      exact ⟨rfl, rfl, rfl, rfl, rfl⟩
    have hnec : ¬ g = g7 := fun e => HY.out.2.2.2 (by rw [← e]; exact HY.out.1.mine)
    have e0a : ((h.tx i).nr == 0) = false := by simpa using e0
    have HY1 : Hid (HB y B g F (h.begun n i) ∧ RowAt y g7 95 #[.int .i64 ac.k, .int .i64 ac.n, .int .i64 ac.t, .int .i64 ac.pg, .int .i64 ac.sl, .bool ac.d, .string ac.v] ∧ Aft15 F F w y ∧ ¬ F g7) := by
      show HB y B g F (h.begun n i) ∧ _
      rw [begun_no e0]
      exact HY.out
    go_wp2_with (with_reducible refine stop_at 55 rfl ?_)
    clear t0 e0a HY
    refine gen_wp (fun y => HB y B g F (h.begun n i) ∧ RowAt y g7 95 #[.int .i64 ac.k, .int .i64 ac.n, .int .i64 ac.t, .int .i64 ac.pg, .int .i64 ac.sl, .bool ac.d, .string ac.v] ∧ Aft15 F F w y ∧ ¬ F g7) HY1.out ?_
    clear HY1
    intro y HY0
    have HY := hide HY0
    clear HY0
    obtain ⟨hb, hhb⟩ : ∃ hb, hb = h.begun n i := ⟨_, rfl⟩
    rw [← hhb] at HY HBF HCH
    clear hhb
    obtain ⟨t0, t1, -, -⟩ := HY.out.1.tu hi HO.out
    obtain ⟨l0, l1, -, -⟩ := HY.out.1.lo (show p * 8 + s < 32 by omega)
    rw [show 45 + (p * 8 + s) * 4 = 45 + p * 32 + s * 4 by omega] at l0 l1
    have HBAR : Hid (hb.barred n i (p * 8 + s) = (decide ((hb.tx i).st ≠ 1) || (decide ((hb.lk (p * 8 + s)).nr ≠ 0) && (decide ((hb.lk (p * 8 + s)).nd ≠ (n : Int)) || decide ((hb.lk (p * 8 + s)).nr ≠ (hb.tx i).nr))))) := rfl
    obtain ⟨nr, hnr⟩ : ∃ c, c = (hb.tx i).nr := ⟨_, rfl⟩
    obtain ⟨st, hst⟩ : ∃ c, c = (hb.tx i).st := ⟨_, rfl⟩
    obtain ⟨lnd, hlnd⟩ : ∃ c, c = (hb.lk (p * 8 + s)).nd := ⟨_, rfl⟩
    obtain ⟨lnr, hlnr⟩ : ∃ c, c = (hb.lk (p * 8 + s)).nr := ⟨_, rfl⟩
    rw [← hnr] at t0 HBAR
    rw [← hst] at t1 HBAR
    rw [← hlnd] at l0 HBAR
    rw [← hlnr] at l1 HBAR
    have HNR := hide hnr
    have HLNR := hide hlnr
    clear hnr hst hlnd hlnr
    by_cases e1 : st = 1
    · rw [e1] at t1
      by_cases e2 : lnr = 0
      · rw [e2] at l1
        have HNB : Hid (hb.barred n i (p * 8 + s) = false) := by show _ = false; rw [HBAR.out, e1, e2]; simp
        clear HBAR
        go_wp2_with fail
        go_quiet (fail)
        clear l0 l1 t0 t1
        refine gen_w (fun y => HB y B g F hb ∧ RowAt y g7 95 #[.int .i64 ac.k, .int .i64 ac.n, .int .i64 ac.t, .int .i64 ac.pg, .int .i64 ac.sl, .bool ac.d, .string ac.v] ∧ Aft15 F F w y ∧ ¬ F g7) (show _ from ⟨HY.out.1.later (below_dn (Below.refl _ _) _), HY.out.2.1, HY.out.2.2.1.later (below_dn (Below.refl _ _) _), HY.out.2.2.2⟩) ?_
        clear HY
        intro y HY0
        have HY := hide HY0
        clear HY0
        obtain ⟨gp, cp1, LCE⟩ := HY.out.1.pgs
        have LD := hide (LCE p s p4 s8)
        clear LCE
        have HBF2 : Hid (hb.ofE p s ac = Go.Proofs.Ytohdmmfmjadipaa.ofE (p : Int) (s : Int) ((hb.pg p).u s) ((hb.pg p).s s) ac.toU ac.toV ∧ hb.ofC p s ac = Go.Proofs.Ytohdmmfmjadipaa.ofC (p : Int) (s : Int) ((hb.pg p).u s) ((hb.pg p).s s) ac.toU ac.toV) := ⟨rfl, rfl⟩
        obtain ⟨fu, hfu⟩ : ∃ c, c = (hb.pg p).u s := ⟨_, rfl⟩
        obtain ⟨fv, hfv⟩ : ∃ c, c = (hb.pg p).s s := ⟨_, rfl⟩
        rw [← hfu, ← hfv] at LD HBF2
        have HFU : Hid (fu = (hb.pg p).u s ∧ fv = (hb.pg p).s s) := ⟨hfu, hfv⟩
        clear hfu hfv
        go_wp2_with (with_reducible refine stop_at 95 rfl ?_)
        refine unstop10 ?_
        refine wpList_load_val rfl 63 (.tmp 94) rfl _ (.agg (ceA fu fv)) rfl LD.out ?_
        obtain ⟨ga, hga⟩ : ∃ k, k = y.heap.size := ⟨_, rfl⟩
        have hb1 : Below y.heap.size y (y.alloc (.cells (ceA false ⟨#[]⟩) 63)) := (Below.refl _ _).alloc (Nat.le_refl _) _
        have N1 : Hid (RowAt (y.alloc (.cells (ceA false ⟨#[]⟩) 63)) ga 63 (ceA false ⟨#[]⟩) ∧ Below y.heap.size y (y.alloc (.cells (ceA false ⟨#[]⟩) 63))) := by rw [hga]; exact ⟨RowAt.new y _ _, hb1⟩
        have HGA := hide hga
        clear hb1 hga LD cp1
        go_wp2_with (refine wpList_store_at rfl 63 (.tmp 11) (.tmp 95) rfl ga (ceA false ⟨#[]⟩) (ceA fu fv) ?h1 rfl N1.out.1 infoCe15 rfl (ceA_one _ _) ?_; (case h1 => rw [HGA.out]; rfl); intro y1 hr1 hk1 hrow1; refine stop10 ?_)
        have hb1 := hk1 _ _ N1.out.2 (by rw [HGA.out]; exact Nat.le_refl _)
        have H1 : Hid (HB y1 B g F hb ∧ RowAt y1 g7 95 #[.int .i64 ac.k, .int .i64 ac.n, .int .i64 ac.t, .int .i64 ac.pg, .int .i64 ac.sl, .bool ac.d, .string ac.v] ∧ RowAt y1 ga 63 (ceA fu fv) ∧ Aft15 F F w y1 ∧ ¬ F g7 ∧ ¬ F ga) := ⟨HY.out.1.later hb1, HY.out.2.1.later hb1, hr1, HY.out.2.2.1.later hb1, HY.out.2.2.2, fun hk => by have := (HY.out.1.here hk).2; have := HGA.out; omega⟩
        clear hr1 hk1 hrow1 hb1 N1 HY
        refine unstop10 ?_
        have a6 := H1.out.2.1.cell 6 (.string ac.v) rfl
        have a5 := H1.out.2.1.cell 5 (.bool ac.d) rfl
        have hvs := HFT.out.v
        obtain ⟨m20, hm20⟩ : ∃ m, m = min 20 ac.v.size := ⟨_, rfl⟩
        have hmn1 : (if ac.v.size < 20 then (ac.v.size : Int) else 20) = (m20 : Int) := by rw [hm20]; by_cases hq : ac.v.size < 20 <;> simp [hq] <;> omega
        have hmn2 : (if ((ac.v.size : Nat) : Int) < 20 then (ac.v.size : Int) else 20) = (m20 : Int) := by rw [hm20]; by_cases hq : (ac.v.size : Int) < 20 <;> simp [hq] <;> omega
        have hml : m20 ≤ ac.v.size := by omega
        have hml2 : (m20 : Int) ≤ (ac.v.size : Int) := by omega
        have hcut : Hid (cut20 ac.v = ac.v.extract 0 m20) := by rw [hm20]; rfl
        clear hm20
        rw [← HGA.out]
        obtain ⟨gb, hgb⟩ : ∃ k, k = y1.heap.size := ⟨_, rfl⟩
        have hb2 : Below y1.heap.size y1 (y1.alloc (.cells (ceA false ⟨#[]⟩) 63)) := (Below.refl _ _).alloc (Nat.le_refl _) _
        have N2 : Hid (RowAt (y1.alloc (.cells (ceA false ⟨#[]⟩) 63)) gb 63 (ceA false ⟨#[]⟩) ∧ Below y1.heap.size y1 (y1.alloc (.cells (ceA false ⟨#[]⟩) 63))) := by rw [hgb]; exact ⟨RowAt.new y1 _ _, hb2⟩
        have HGB := hide hgb
        clear hb2 hgb
        go_wp2_with (refine wpList_store_at rfl 63 (.tmp 12) (.tmp 103) rfl gb (ceA false ⟨#[]⟩) (ceA true (ac.v.extract 0 m20)) ?h1 rfl N2.out.1 infoCe15 rfl (ceA_one _ _) ?_; (case h1 => rw [HGB.out]; rfl); intro y2 hr2 hk2 hrow2; refine stop10 ?_)
        have hb2 := hk2 _ _ N2.out.2 (by rw [HGB.out]; exact Nat.le_refl _)
        have H2 : Hid (HB y2 B g F hb ∧ RowAt y2 g7 95 #[.int .i64 ac.k, .int .i64 ac.n, .int .i64 ac.t, .int .i64 ac.pg, .int .i64 ac.sl, .bool ac.d, .string ac.v] ∧ RowAt y2 ga 63 (ceA fu fv) ∧ RowAt y2 gb 63 (ceA true (ac.v.extract 0 m20)) ∧ Aft15 F F w y2 ∧ ¬ F g7 ∧ ¬ F ga ∧ ¬ F gb ∧ ga ≠ gb ∧ w.heap.size ≤ gb) := ⟨H1.out.1.later hb2, H1.out.2.1.later hb2, H1.out.2.2.1.later hb2, hr2, H1.out.2.2.2.1.later hb2, H1.out.2.2.2.2.1, H1.out.2.2.2.2.2, fun hk => by have := (H1.out.1.here hk).2; have := HGB.out; omega, fun e => by have := H1.out.2.2.1.lt; have := HGB.out; omega, by rw [HGB.out]; exact H1.out.2.2.2.1.1.size⟩
        clear hr2 hk2 hrow2 hb2 N2 a6 a5 H1 hmn1 hmn2 hml hml2
        refine unstop10 ?_
        rw [← HGB.out]
        have a5 := H2.out.2.1.cell 5 (.bool ac.d) rfl
        cases hd : ac.d with
        | true =>
          rw [hd] at a5
          go_wp2_with (refine wpList_store_at rfl 63 (.tmp 12) (.tmp 106) rfl gb (ceA true (ac.v.extract 0 m20)) (ceA false ⟨#[]⟩) rfl rfl H2.out.2.2.2.1 infoCe15 rfl (ceA_one _ _) ?_; intro y3 hr3 hk3 hrow3; refine stop10 ?_)
          have ho3 : HB y3 B g F hb := by
            obtain ⟨xx, hxx, hff⟩ := H2.out.1
            exact ⟨xx, hxx.keep (fun k t cs hk hr => hrow3 k t cs (fun e => H2.out.2.2.2.2.2.2.2.1 (by rw [hff, ← e]; exact hk)) hr), hff⟩
          have hb3 := hk3 _ _ (Below.refl w.heap.size y2) H2.out.2.2.2.2.2.2.2.2.2
          have H3 : Hid (HB y3 B g F hb ∧ RowAt y3 ga 63 (ceA fu fv) ∧ RowAt y3 gb 63 (ceA ac.toU ac.toV) ∧ Aft15 F F w y3) := by
            have e1 : ac.toU = false := by unfold Ac.toU; rw [hd]; rfl
            have e2 : ac.toV = ⟨#[]⟩ := by unfold Ac.toV; rw [hd, if_pos rfl]
            rw [e1, e2]
            exact ⟨ho3, hrow3 ga _ _ H2.out.2.2.2.2.2.2.2.2.1 H2.out.2.2.1, hr3, ⟨⟨hb3.os.trans H2.out.2.2.2.2.1.1.os, hb3.tape.trans H2.out.2.2.2.2.1.1.tape, hb3.output.trans H2.out.2.2.2.2.1.1.output, Nat.le_trans H2.out.2.2.2.2.1.1.size hb3.size, fun k hk hnf => (hb3.block k hk).trans (H2.out.2.2.2.2.1.1.block k hk hnf)⟩, fun k hk => .inl hk⟩⟩
          clear hr3 hk3 hrow3 hb3 ho3 a5
          refine unstop10 ?_
          have HN9 : Hid (¬ F ga ∧ ¬ F gb) := ⟨H2.out.2.2.2.2.2.2.1, H2.out.2.2.2.2.2.2.2.1⟩
          clear H2
          have HOF := hide (fun w => rof_any (p : Int) (s : Int) fu fv ac.toU ac.toV w)
          clear hcut
          generalize Go.Proofs.Ytohdmmfmjadipaa.ofE (p : Int) (s : Int) fu fv ac.toU ac.toV = E at *
          generalize Go.Proofs.Ytohdmmfmjadipaa.ofC (p : Int) (s : Int) fu fv ac.toU ac.toV = C at *
          go_wp2_with (with_reducible refine stop_at 110 rfl ?_)
          refine unstop10 ?_
          refine wpList_load_at rfl 63 (.tmp 11) rfl ga rfl (ceA fu fv) H3.out.2.1 _ Try.underlying63 rfl infoCe15 ?_
          refine wpList_load_at rfl 63 (.tmp 12) rfl gb rfl (ceA ac.toU ac.toV) H3.out.2.2.1 _ Try.underlying63 rfl infoCe15 ?_
          go_wp2_with fail
          refine (HOF.out y3).mono ?_
          rintro e z ⟨rfl, hbz⟩
          have H4 : Hid (HB z B g F hb ∧ RowAt z ga 63 (ceA fu fv) ∧ Aft15 F F w z) := ⟨H3.out.1.later hbz, H3.out.2.1.later hbz, H3.out.2.2.2.later hbz⟩
          clear hbz H3 HOF
          obtain ⟨gc, hgc⟩ : ∃ k, k = z.heap.size := ⟨_, rfl⟩
          have hb5 : Below z.heap.size z (z.alloc (.cells (chA Ch.zero) 26)) := (Below.refl _ _).alloc (Nat.le_refl _) _
          have N5 : Hid (RowAt (z.alloc (.cells (chA Ch.zero) 26)) gc 26 (chA Ch.zero) ∧ Below z.heap.size z (z.alloc (.cells (chA Ch.zero) 26))) := by rw [hgc]; exact ⟨RowAt.new z _ _, hb5⟩
          have HGC := hide hgc
          clear hb5 hgc
          go_wp2_with (refine wpList_store_at rfl 26 (.tmp 13) (.tmp 113) rfl gc (chA Ch.zero) (chA C) ?h1 rfl N5.out.1 infoCh rfl (chA_one _) ?_; (case h1 => rw [HGC.out]; rfl); intro z2 hr2 hk2 hrow2; refine stop10 ?_)
          have hb5 := hk2 _ _ N5.out.2 (by rw [HGC.out]; exact Nat.le_refl _)
          have H5 : Hid (HB z2 B g F hb ∧ RowAt z2 ga 63 (ceA fu fv) ∧ RowAt z2 gc 26 (chA C) ∧ Aft15 F F w z2 ∧ ¬ F gc) := ⟨H4.out.1.later hb5, H4.out.2.1.later hb5, hr2, H4.out.2.2.later hb5, fun hk => by have := (H4.out.1.here hk).2; have := HGC.out; omega⟩
          clear hr2 hk2 hrow2 hb5 N5 H4
          refine unstop10 ?_
          rw [← HGC.out]
          by_cases hE : E = 0
          · rw [hE] at HBF2 ⊢
            have HCR : Hid (C.right ∧ C.pg < 4) := by
              have h9 : hb.ofC p s ac = rawC (p : Int) (s : Int) ((hb.pg p).u s) ((hb.pg p).s s) ac.toU ac.toV := by
                show Go.Proofs.Ytohdmmfmjadipaa.ofC (p : Int) (s : Int) ((hb.pg p).u s) ((hb.pg p).s s) ac.toU ac.toV = _
                unfold Go.Proofs.Ytohdmmfmjadipaa.ofC
                exact if_pos HBF2.out.1
              have h8 := (of_right15 (p : Int) (s : Int) ((hb.pg p).u s) ((hb.pg p).s s) ac.toU ac.toV HBF2.out.1)
              rw [← HBF2.out.2]
              refine ⟨h8, ?_⟩
              rw [h9]
              show (p : Int) < 4
              omega
            obtain ⟨l0, l1, l2, l3⟩ := H5.out.1.lo (show p * 8 + s < 32 by omega)
            rw [show 45 + (p * 8 + s) * 4 = 45 + p * 32 + s * 4 by omega] at l0 l1 l2 l3
            rw [← HLNR.out] at l1
            rw [e2] at l1
            go_wp2_with fail
            clear l0 l1 l2 l3
            obtain ⟨x, HX0, hFx⟩ := H5.out.1
            have HD : Hid (HAt z2.drew B g x hb ∧ RowAt z2.drew ga 63 (ceA fu fv) ∧ RowAt z2.drew gc 26 (chA C) ∧ Aft15 F F w z2.drew ∧ ¬ F gc) := ⟨HX0.drew, H5.out.2.1, H5.out.2.2.1, H5.out.2.2.2.1.later (below_drew (Below.refl _ _)), H5.out.2.2.2.2⟩
            have HFX := hide hFx
            have HFG : Hid (F g) := by show F g; rw [hFx]; exact .inl rfl
            have tnr : z2.drew.cell? ⟨g, o, none⟩ = some (.int .i64 nr) := by rw [HNR.out]; exact HX0.drew.nr hi HO.out
            have hsz : 45 + p * 32 + s * 4 + (#[.int .i64 (n : Int), .int .i64 nr, .bool fu, .string fv] : Array Value).size ≤ x.cs.size := by rw [HX0.cells.1]; show 45 + p * 32 + s * 4 + 4 ≤ 174; omega
            clear HX0 hFx H5
            refine wp_region_noPanic ?_
            refine wp_region_held_drew (S := fun z => RowAt z ga 63 (ceA fu fv) ∧ z.cell? ⟨g, o, none⟩ = some (.int .i64 nr)) (by kernel_rfl) ⟨HD.out.2.1, tnr⟩ (fun hHeld => ?_)
            refine hand_take 0 (some 122) (.pointer (some ⟨g, 45 + p * 32 + s * 4, none⟩)) rfl rfl (by kernel_rfl) (by kernel_rfl) (by kernel_rfl) (fun _ _ _ h => h) (Or.inl ⟨by kernel_rfl, fun x' hSx => by go_simp⟩) hHeld ?_
            try simp only [Act.put, List.setIfInBounds_toArray, List.set_cons_zero, List.set_cons_succ]
            refine hand_take 1 (some 123) (.int .i64 (n : Int)) rfl rfl (by kernel_rfl) (by kernel_rfl) (by kernel_rfl) (fun _ _ _ h => h) (Or.inl ⟨by kernel_rfl, fun x' hSx => by go_simp⟩) hHeld ?_
            try simp only [Act.put, List.setIfInBounds_toArray, List.set_cons_zero, List.set_cons_succ]
            refine hand_take 2 (some 124) (.pointer (some ⟨g, o, none⟩)) rfl rfl (by kernel_rfl) (by kernel_rfl) (by kernel_rfl) (fun _ _ _ h => h) (Or.inl ⟨by kernel_rfl, fun x' hSx => by go_simp⟩) hHeld ?_
            try simp only [Act.put, List.setIfInBounds_toArray, List.set_cons_zero, List.set_cons_succ]
            refine hand_take 3 (some 125) (.pointer (some ⟨g, o, none⟩)) rfl rfl (by kernel_rfl) (by kernel_rfl) (by kernel_rfl) (fun _ _ _ h => h) (Or.inl ⟨by kernel_rfl, fun x' hSx => by go_simp⟩) hHeld ?_
            try simp only [Act.put, List.setIfInBounds_toArray, List.set_cons_zero, List.set_cons_succ]
            refine hand_take 4 (some 126) (.pointer (some ⟨g, o, none⟩)) rfl rfl (by kernel_rfl) (by kernel_rfl) (by kernel_rfl) (fun _ _ _ h => h) (Or.inl ⟨by kernel_rfl, fun x' hSx => by go_simp⟩) hHeld ?_
            try simp only [Act.put, List.setIfInBounds_toArray, List.set_cons_zero, List.set_cons_succ]
            refine hand_take 5 (some 127) (.int .i64 nr) rfl rfl (by kernel_rfl) (by kernel_rfl) (by kernel_rfl) (fun _ _ _ h => h) (Or.inl ⟨by kernel_rfl, fun x' hSx => by have h : World.cell? x' ⟨g, o, none⟩ = some (.int .i64 nr) := hSx.2; go_simp⟩) hHeld ?_
            try simp only [Act.put, List.setIfInBounds_toArray, List.set_cons_zero, List.set_cons_succ]
            refine hand_take 6 (some 128) (.agg #[.bool fu, .string fv]) rfl rfl (by kernel_rfl) (by kernel_rfl) (by kernel_rfl) (fun _ _ _ h => h) (yieldsIf_load_run (by kernel_rfl) 63 _ rfl (.pointer (some ⟨ga, 0, none⟩)) rfl _ (fun x' hSx => load_cel15 x' ga fu fv hSx.1)) hHeld ?_
            try simp only [Act.put, List.setIfInBounds_toArray, List.set_cons_zero, List.set_cons_succ]
            refine hand_take 7 (some 129) (.agg #[.int .i64 (n : Int), .int .i64 nr, .bool fu, .string fv]) rfl rfl (by kernel_rfl) (by kernel_rfl) (by kernel_rfl) (fun _ _ _ h => h) (Or.inl ⟨by kernel_rfl, fun x' hSx => by go_simp⟩) hHeld ?_
            try simp only [Act.put, List.setIfInBounds_toArray, List.set_cons_zero, List.set_cons_succ]
            refine hand_take 8 (some 130) (.pointer (some ⟨g, 45 + p * 32 + s * 4, none⟩)) rfl rfl (by kernel_rfl) (by kernel_rfl) (by kernel_rfl) (fun _ _ _ h => h) (Or.inl ⟨by kernel_rfl, fun x' hSx => by go_simp⟩) hHeld ?_
            try simp only [Act.put, List.setIfInBounds_toArray, List.set_cons_zero, List.set_cons_succ]
            refine hand_one 9 (by kernel_rfl) ?_
            refine hand_store rfl rfl rfl 65 (.tmp 130) (.tmp 129) rfl g (45 + p * 32 + s * 4) 69 x.cs #[.int .i64 (n : Int), .int .i64 nr, .bool fu, .string fv] rfl rfl HD.out.1.blk infoLo15 hsz (by simp [Value.oneCell']) ?_
            intro z3 hr3 ho3
            have hcc := HD.out.1.cells.allLk (show p * 8 + s < 32 by omega) ⟨(n : Int), nr, fu, fv⟩
            rw [show 45 + (p * 8 + s) * 4 = 45 + p * 32 + s * 4 by omega] at hcc
            have hlk : hb.locked n i p s = hb.setLk (p * 8 + s) ⟨(n : Int), nr, fu, fv⟩ := by
              unfold Hs.locked
              rw [if_pos (by rw [← HLNR.out]; exact e2), ← HNR.out, ← HFU.out.1, ← HFU.out.2]
            have A3 := HD.out.1.part _ _ hr3 ho3 hcc rfl rfl rfl
            have af3 := aft_own (x := x) ho3 (partA x.cs (45 + p * 32 + s * 4) (loA ⟨(n : Int), nr, fu, fv⟩))
            have H6 : Hid (HB z3 B g F (hb.locked n i p s) ∧ RowAt z3 ga 63 (ceA fu fv) ∧ RowAt z3 gc 26 (chA C) ∧ Aft15 F F w z3 ∧ ¬ F gc) := by
              have n1 : ga ≠ g := fun e => HN9.out.1 (by rw [e]; exact HFG.out)
              have n2 : gc ≠ g := fun e => HD.out.2.2.2.2 (by rw [e]; exact HFG.out)
              have A4 := A3
              rw [← hlk] at A4
              refine ⟨⟨_, A4, HFX.out⟩, ho3.row HD.out.2.1 n1, ho3.row HD.out.2.2.1 n2, ?_, HD.out.2.2.2.2⟩
              have h9 := HD.out.2.2.2.1
              rw [HFX.out] at h9 ⊢
              exact h9.trans af3
            have tnr3 : z3.cell? ⟨g, o, none⟩ = some (.int .i64 nr) := by rw [HNR.out]; exact A3.nr hi HO.out
            refine ⟨⟨H6.out.2.1, tnr3⟩, ?_⟩
            try simp only [Act.put, List.setIfInBounds_toArray, List.set_cons_zero, List.set_cons_succ]
            refine wpAnyH_done (by kernel_rfl) ?_ _
            refine NoPanic.normal ?_
            clear hr3 ho3 hcc hlk A3 af3 tnr tnr3 hHeld hsz HD
            go_wp2_with fail
            obtain ⟨hl, hhl⟩ : ∃ hl, hl = hb.locked n i p s := ⟨_, rfl⟩
            have HLL : Hid (hl.ck = h.ck ∧ hl.hi = h.hi ∧ hl.lg = h.lg ∧ hl.pg = h.pg ∧ hl.past = h.past) := by
              have h9 : hl.ck = hb.ck ∧ hl.hi = hb.hi ∧ hl.lg = hb.lg ∧ hl.pg = hb.pg ∧ hl.past = hb.past := by
                rw [hhl]
                unfold Hs.locked
                by_cases hq : (hb.lk (p * 8 + s)).nr = 0
                · rw [if_pos hq]
                  exact ⟨rfl, rfl, rfl, rfl, rfl⟩
                · rw [if_neg hq]
                  exact ⟨rfl, rfl, rfl, rfl, rfl⟩
              exact ⟨h9.1.trans HBF.out.2.2.2.1, h9.2.1.trans HBF.out.2.2.2.2, h9.2.2.1.trans HBF.out.1, h9.2.2.2.1.trans HBF.out.2.1, h9.2.2.2.2.trans HBF.out.2.2.1⟩
            rw [← hhl] at H6
            obtain ⟨c9, hc9⟩ : ∃ c, c = hl.ck n := ⟨_, rfl⟩
            obtain ⟨h9i, hh9⟩ : ∃ c, c = hl.hi := ⟨_, rfl⟩
            obtain ⟨M, hM⟩ : ∃ M, M = max c9 h9i := ⟨_, rfl⟩
            have hmx : (if c9 < h9i then (h9i : Int) else (c9 : Int)) = (M : Int) := by
              rw [hM]
              by_cases hq : c9 < h9i
              · rw [if_pos hq]
                omega
              · rw [if_neg hq]
                omega
            have HM : Hid (M ≤ 50000 ∧ hb.lockedUp n i p s = hl.setCk n M) := by
              refine ⟨?_, ?_⟩
              · have a := HW.out.ck n hn
                have b := HW.out.hi
                rw [← HLL.out.1, ← hc9] at a
                rw [← HLL.out.2.1, ← hh9] at b
                omega
              · unfold Hs.lockedUp
                rw [← hhl, hM, hc9, hh9, HLL.out.1, HLL.out.2.1, HBF.out.2.2.2.1, HBF.out.2.2.2.2]
            clear hM hhl
            have ckc := H6.out.1.ck hn
            rw [← hc9] at ckc
            have hic := H6.out.1.hi
            rw [← hh9] at hic
            have frc := H6.out.1.free (3 + n)
            have HC9 : Hid (c9 = hl.ck n ∧ h9i = hl.hi) := ⟨hc9, hh9⟩
            clear hc9 hh9
            refine wp_region_noPanic ?_
            refine wp_region_held_drew (S := fun z => z.cell? ⟨g, 173, none⟩ = some (.int .u64 (h9i : Int))) (by kernel_rfl) hic (fun hHeld => ?_)
            refine hand_take 0 (some 131) (.pointer (some ⟨g, 0, none⟩)) rfl rfl (by kernel_rfl) (by kernel_rfl) (by kernel_rfl) (fun _ _ _ h => h) (Or.inl ⟨by kernel_rfl, fun x' hSx => by go_simp⟩) hHeld ?_
            try simp only [Act.put, List.setIfInBounds_toArray, List.set_cons_zero, List.set_cons_succ]
            refine hand_take 1 (some 132) (.int .i64 (n : Int)) rfl rfl (by kernel_rfl) (by kernel_rfl) (by kernel_rfl) (fun _ _ _ h => h) (Or.inl ⟨by kernel_rfl, fun x' hSx => by go_simp⟩) hHeld ?_
            try simp only [Act.put, List.setIfInBounds_toArray, List.set_cons_zero, List.set_cons_succ]
            refine hand_take 2 (some 133) (.pointer (some ⟨g, 0, none⟩)) rfl rfl (by kernel_rfl) (by kernel_rfl) (by kernel_rfl) (fun _ _ _ h => h) (Or.inl ⟨by kernel_rfl, fun x' hSx => by go_simp⟩) hHeld ?_
            try simp only [Act.put, List.setIfInBounds_toArray, List.set_cons_zero, List.set_cons_succ]
            refine hand_take 3 (some 134) (.int .i64 (n : Int)) rfl rfl (by kernel_rfl) (by kernel_rfl) (by kernel_rfl) (fun _ _ _ h => h) (Or.inl ⟨by kernel_rfl, fun x' hSx => by go_simp⟩) hHeld ?_
            try simp only [Act.put, List.setIfInBounds_toArray, List.set_cons_zero, List.set_cons_succ]
            refine hand_take 4 (some 135) (.pointer (some ⟨g, 0, none⟩)) rfl rfl (by kernel_rfl) (by kernel_rfl) (by kernel_rfl) (fun _ _ _ h => h) (Or.inl ⟨by kernel_rfl, fun x' hSx => by go_simp⟩) hHeld ?_
            try simp only [Act.put, List.setIfInBounds_toArray, List.set_cons_zero, List.set_cons_succ]
            refine hand_take 5 (some 136) (.pointer (some ⟨g, 3, none⟩)) rfl rfl (by kernel_rfl) (by kernel_rfl) (by kernel_rfl) (fun _ _ _ h => h) (Or.inl ⟨by kernel_rfl, fun x' hSx => by go_simp⟩) hHeld ?_
            try simp only [Act.put, List.setIfInBounds_toArray, List.set_cons_zero, List.set_cons_succ]
            refine hand_take 6 (some 137) (.pointer (some ⟨g, 3 + n, none⟩)) rfl rfl (by kernel_rfl) (by kernel_rfl) (by kernel_rfl) (fun _ _ _ h => h) (Or.inl ⟨by kernel_rfl, fun x' hSx => by go_simp⟩) hHeld ?_
            try simp only [Act.put, List.setIfInBounds_toArray, List.set_cons_zero, List.set_cons_succ]
            refine hand_take 8 (some 139) (.pointer (some ⟨g, 0, none⟩)) rfl rfl (by kernel_rfl) (by kernel_rfl) (by kernel_rfl) (fun _ _ _ h => h) (Or.inl ⟨by kernel_rfl, fun x' hSx => by go_simp⟩) hHeld ?_
            try simp only [Act.put, List.setIfInBounds_toArray, List.set_cons_zero, List.set_cons_succ]
            refine hand_take 9 (some 140) (.pointer (some ⟨g, 0, none⟩)) rfl rfl (by kernel_rfl) (by kernel_rfl) (by kernel_rfl) (fun _ _ _ h => h) (Or.inl ⟨by kernel_rfl, fun x' hSx => by go_simp⟩) hHeld ?_
            try simp only [Act.put, List.setIfInBounds_toArray, List.set_cons_zero, List.set_cons_succ]
            refine hand_take 10 (some 141) (.pointer (some ⟨g, 173, none⟩)) rfl rfl (by kernel_rfl) (by kernel_rfl) (by kernel_rfl) (fun _ _ _ h => h) (Or.inl ⟨by kernel_rfl, fun x' hSx => by go_simp⟩) hHeld ?_
            try simp only [Act.put, List.setIfInBounds_toArray, List.set_cons_zero, List.set_cons_succ]
            refine hand_take 11 (some 142) (.int .u64 (h9i : Int)) rfl rfl (by kernel_rfl) (by kernel_rfl) (by kernel_rfl) (fun _ _ _ h => h) (Or.inl ⟨by kernel_rfl, fun x' hSx => by have h : World.cell? x' ⟨g, 173, none⟩ = some (.int .u64 (h9i : Int)) := hSx; go_simp⟩) hHeld ?_
            try simp only [Act.put, List.setIfInBounds_toArray, List.set_cons_zero, List.set_cons_succ]
            refine hand_take 13 (some 144) (.pointer (some ⟨g, 0, none⟩)) rfl rfl (by kernel_rfl) (by kernel_rfl) (by kernel_rfl) (fun _ _ _ h => h) (Or.inl ⟨by kernel_rfl, fun x' hSx => by go_simp⟩) hHeld ?_
            try simp only [Act.put, List.setIfInBounds_toArray, List.set_cons_zero, List.set_cons_succ]
            refine hand_take 14 (some 145) (.pointer (some ⟨g, 3, none⟩)) rfl rfl (by kernel_rfl) (by kernel_rfl) (by kernel_rfl) (fun _ _ _ h => h) (Or.inl ⟨by kernel_rfl, fun x' hSx => by go_simp⟩) hHeld ?_
            try simp only [Act.put, List.setIfInBounds_toArray, List.set_cons_zero, List.set_cons_succ]
            refine hand_one 7 (by kernel_rfl) ?_
            refine hand_run (some 138) rfl rfl rfl (.int .u64 (c9 : Int)) z3.drew ?hz ?_
            (case hz => go_simp)
            refine ⟨hic, ?_⟩
            try simp only [Act.put, List.setIfInBounds_toArray, List.set_cons_zero, List.set_cons_succ]
            refine hand_take 12 (some 143) (.int .u64 (M : Int)) rfl rfl (by kernel_rfl) (by kernel_rfl) (by kernel_rfl) (fun _ _ _ h => h) (Or.inl ⟨by kernel_rfl, fun x' hSx => by go_simp⟩) hHeld ?_
            try simp only [Act.put, List.setIfInBounds_toArray, List.set_cons_zero, List.set_cons_succ]
            refine hand_take 15 (some 146) (.pointer (some ⟨g, 3 + n, none⟩)) rfl rfl (by kernel_rfl) (by kernel_rfl) (by kernel_rfl) (fun _ _ _ h => h) (Or.inl ⟨by kernel_rfl, fun x' hSx => by go_simp⟩) hHeld ?_
            try simp only [Act.put, List.setIfInBounds_toArray, List.set_cons_zero, List.set_cons_succ]
            refine hand_one 16 (by kernel_rfl) ?_
            have q5 := H6.out.1.drew.cell (h' := hl.setCk n M) (3 + n) (.int .u64 (M : Int)) (fun cs a b c H => H.setCk hn M) rfl rfl rfl
            refine hand_skip15 rfl rfl rfl (z3.drew.setCell ⟨g, 3 + n, none⟩ (.int .u64 (M : Int))) ?hs ?_
            (case hs => go_simp)
            have hic2 := q5.1.hi
            rw [show (hl.setCk n M).hi = h9i from HC9.out.2.symm] at hic2
            refine ⟨hic2, ?_⟩
            try simp only [Act.put, List.setIfInBounds_toArray, List.set_cons_zero, List.set_cons_succ]
            refine wpAnyH_done (by kernel_rfl) ?_ _
            refine NoPanic.normal ?_
            have H7 : Hid (HB (z3.drew.setCell ⟨g, 3 + n, none⟩ (.int .u64 (M : Int))) B g F (hb.lockedUp n i p s) ∧ RowAt (z3.drew.setCell ⟨g, 3 + n, none⟩ (.int .u64 (M : Int))) gc 26 (chA C) ∧ Aft15 F F w (z3.drew.setCell ⟨g, 3 + n, none⟩ (.int .u64 (M : Int)))) := by
              refine ⟨by rw [HM.out.2]; exact q5.1, H6.out.2.2.1.other ⟨g, 3 + n, none⟩ _ (fun e => H6.out.2.2.2.2 (by rw [show gc = g from e]; exact H6.out.1.mine)), (H6.out.2.2.2.1.later (below_drew (Below.refl _ _))).trans q5.2⟩
            have HLU : Hid ((hb.lockedUp n i p s).ck n = M ∧ (hb.lockedUp n i p s).lg = h.lg ∧ (hb.lockedUp n i p s).pg = h.pg ∧ (hb.lockedUp n i p s).past = h.past) := by
              rw [HM.out.2]
              exact ⟨upd_same _ _ _, HLL.out.2.2.1, HLL.out.2.2.2.1, HLL.out.2.2.2.2⟩
            clear q5 hic hic2 ckc frc hmx hHeld H6 HC9
            refine gen_w (fun z => HB z B g F (hb.lockedUp n i p s) ∧ RowAt z gc 26 (chA C) ∧ Aft15 F F w z) H7.out ?_
            clear H7
            intro z5 H70
            have H7 := hide H70
            clear H70
            have HTU := hide (fun (hcl : C.pg.toNat < 4) => hturn15 z5 B g n i o F (hb.lockedUp n i p s) (bare15 1 C 0) H7.out.1 hn hi HO.out ⟨rfl, rfl, rec_fits15c (ch_fits15 HCR.out.1) rfl rfl⟩ HCR.out.1 HCR.out.2 (by rw [HLU.out.1]; have := HM.out.1; omega) (by rw [HLU.out.2.2.1]; have := HW.out.pl _ hcl; exact Nat.le_trans this (by decide)) (by rw [HLU.out.2.1]; exact HW.out.lg n hn) (by rw [HLU.out.2.2.2]; exact HW.out.past _ hcl))
            have HTU2 := hide (HTU.out (by have := HCR.out; omega))
            clear HTU
            have hrl : rcF (bareM (bare15 1 C 0)) = #[.int .i64 1, .int .u64 0, .int .i64 0, .int .u64 0, .int .i64 C.k, .int .i64 C.pg, .int .i64 C.sl, .string C.o, .string C.n, .int .u64 0, .int .i64 0, .int .u64 0, .slice none 0 0, .slice none 0 0] := rfl
            rw [hrl] at HTU2
            clear hrl
            go_wp2_with (with_reducible refine stop_at 150 rfl ?_)
            refine unstop10 ?_
            refine wpList_load_at rfl 26 (.tmp 13) rfl gc rfl #[.int .i64 C.k, .int .i64 C.pg, .int .i64 C.sl, .string C.o, .string C.n] H7.out.2.1 _ Try.underlying26 rfl infoCh ?_
            go_wp2_with fail
            refine HTU2.out.mono ?_
            rintro e z6 ⟨F6, rfl, hb6, ha6⟩
            have HTD : Hid (h.change n i ac = (hb.turned n i p s ac).nextIs i ((hb.turned n i p s ac).tx i).last ∧ (hb.lockedUp n i p s).turn n i (bare15 1 C 0) = hb.turned n i p s ac) := by
              have h9 : (hb.lockedUp n i p s).turn n i (bare15 1 C 0) = hb.turned n i p s ac := by
                unfold Hs.turned
                rw [HBF2.out.2]
              refine ⟨?_, h9⟩
              rw [HCH.out]
              unfold Hs.change1
              rw [HNB.out, if_neg (by decide), if_neg (fun hq => hq HBF2.out.1)]
              rfl
            rw [HTD.out.2] at hb6
            obtain ⟨ht, hht⟩ : ∃ ht, ht = hb.turned n i p s ac := ⟨_, rfl⟩
            rw [← hht] at hb6 HTD
            have H8 : Hid (HB z6 B g F6 ht ∧ Aft15 F F6 w z6) := ⟨hb6, H7.out.2.2.trans ha6⟩
            obtain ⟨-, -, t2, t3⟩ := hb6.tu hi HO.out
            have f3 := hb6.free (o + 3)
            clear hht hb6 ha6 H7 HTU2
            obtain ⟨lst, hlst⟩ : ∃ c, c = (ht.tx i).last := ⟨_, rfl⟩
            rw [← hlst] at t2 HTD
            clear hlst
            go_wp2
            have q8 := H8.out.1.cell (h' := ht.nextIs i lst) (o + 3) (.int .u64 (lst : Int)) (fun cs a b c H => by rw [HO.out]; exact H.setTx hi _ 3 (by omega) _ rfl (fun k hk he => by
              rcases (show k = 0 ∨ k = 1 ∨ k = 2 ∨ k = 3 by omega) with rfl | rfl | rfl | rfl
              · rfl
              · rfl
              · rfl
              · exact absurd rfl he)) rfl rfl rfl
            refine bodyPost_end (results_none rfl _ _ _) rfl ⟨F6, rfl, ?_, H8.out.2.trans q8.2⟩
            rw [HTD.out.1]
            exact q8.1
          · have hEa : (E != 0) = true := by simpa using hE
            have hEb : decide (E = 0) = false := by simpa using hE
            go_wp2
            refine bodyPost_ret (results_none rfl _ _ _) rfl ⟨F, rfl, ?_, H5.out.2.2.2.1⟩
            rw [HCH.out, show hb.change1 n i p s ac = hb by unfold Hs.change1; rw [HNB.out, if_neg (by decide), HBF2.out.1, if_pos hE]]
            exact H5.out.1
        | false =>
          rw [hd] at a5
          have H3 : Hid (HB y2 B g F hb ∧ RowAt y2 ga 63 (ceA fu fv) ∧ RowAt y2 gb 63 (ceA ac.toU ac.toV) ∧ Aft15 F F w y2) := by
            have e1 : ac.toU = true := by unfold Ac.toU; rw [hd]; rfl
            have e2 : ac.toV = ac.v.extract 0 m20 := by unfold Ac.toV; rw [hd, if_neg (by decide), hcut.out]
            rw [e1, e2]
            exact ⟨H2.out.1, H2.out.2.2.1, H2.out.2.2.2.1, H2.out.2.2.2.2.1⟩
          go_wp2_with (with_reducible refine stop_at 110 rfl ?_)
          clear a5
          refine unstop10 ?_
          have HN9 : Hid (¬ F ga ∧ ¬ F gb) := ⟨H2.out.2.2.2.2.2.2.1, H2.out.2.2.2.2.2.2.2.1⟩
          clear H2
          have HOF := hide (fun w => rof_any (p : Int) (s : Int) fu fv ac.toU ac.toV w)
          clear hcut
          generalize Go.Proofs.Ytohdmmfmjadipaa.ofE (p : Int) (s : Int) fu fv ac.toU ac.toV = E at *
          generalize Go.Proofs.Ytohdmmfmjadipaa.ofC (p : Int) (s : Int) fu fv ac.toU ac.toV = C at *
          refine wpList_load_at rfl 63 (.tmp 11) rfl ga rfl (ceA fu fv) H3.out.2.1 _ Try.underlying63 rfl infoCe15 ?_
          refine wpList_load_at rfl 63 (.tmp 12) rfl gb rfl (ceA ac.toU ac.toV) H3.out.2.2.1 _ Try.underlying63 rfl infoCe15 ?_
          go_wp2_with fail
          refine (HOF.out y2).mono ?_
          rintro e z ⟨rfl, hbz⟩
          have H4 : Hid (HB z B g F hb ∧ RowAt z ga 63 (ceA fu fv) ∧ Aft15 F F w z) := ⟨H3.out.1.later hbz, H3.out.2.1.later hbz, H3.out.2.2.2.later hbz⟩
          clear hbz H3 HOF
          obtain ⟨gc, hgc⟩ : ∃ k, k = z.heap.size := ⟨_, rfl⟩
          have hb5 : Below z.heap.size z (z.alloc (.cells (chA Ch.zero) 26)) := (Below.refl _ _).alloc (Nat.le_refl _) _
          have N5 : Hid (RowAt (z.alloc (.cells (chA Ch.zero) 26)) gc 26 (chA Ch.zero) ∧ Below z.heap.size z (z.alloc (.cells (chA Ch.zero) 26))) := by rw [hgc]; exact ⟨RowAt.new z _ _, hb5⟩
          have HGC := hide hgc
          clear hb5 hgc
          go_wp2_with (refine wpList_store_at rfl 26 (.tmp 13) (.tmp 113) rfl gc (chA Ch.zero) (chA C) ?h1 rfl N5.out.1 infoCh rfl (chA_one _) ?_; (case h1 => rw [HGC.out]; rfl); intro z2 hr2 hk2 hrow2; refine stop10 ?_)
          have hb5 := hk2 _ _ N5.out.2 (by rw [HGC.out]; exact Nat.le_refl _)
          have H5 : Hid (HB z2 B g F hb ∧ RowAt z2 ga 63 (ceA fu fv) ∧ RowAt z2 gc 26 (chA C) ∧ Aft15 F F w z2 ∧ ¬ F gc) := ⟨H4.out.1.later hb5, H4.out.2.1.later hb5, hr2, H4.out.2.2.later hb5, fun hk => by have := (H4.out.1.here hk).2; have := HGC.out; omega⟩
          clear hr2 hk2 hrow2 hb5 N5 H4
          refine unstop10 ?_
          rw [← HGC.out]
          by_cases hE : E = 0
          · rw [hE] at HBF2 ⊢
            have HCR : Hid (C.right ∧ C.pg < 4) := by
              have h9 : hb.ofC p s ac = rawC (p : Int) (s : Int) ((hb.pg p).u s) ((hb.pg p).s s) ac.toU ac.toV := by
                show Go.Proofs.Ytohdmmfmjadipaa.ofC (p : Int) (s : Int) ((hb.pg p).u s) ((hb.pg p).s s) ac.toU ac.toV = _
                unfold Go.Proofs.Ytohdmmfmjadipaa.ofC
                exact if_pos HBF2.out.1
              have h8 := (of_right15 (p : Int) (s : Int) ((hb.pg p).u s) ((hb.pg p).s s) ac.toU ac.toV HBF2.out.1)
              rw [← HBF2.out.2]
              refine ⟨h8, ?_⟩
              rw [h9]
              show (p : Int) < 4
              omega
            obtain ⟨l0, l1, l2, l3⟩ := H5.out.1.lo (show p * 8 + s < 32 by omega)
            rw [show 45 + (p * 8 + s) * 4 = 45 + p * 32 + s * 4 by omega] at l0 l1 l2 l3
            rw [← HLNR.out] at l1
            rw [e2] at l1
            go_wp2_with fail
            clear l0 l1 l2 l3
            obtain ⟨x, HX0, hFx⟩ := H5.out.1
            have HD : Hid (HAt z2.drew B g x hb ∧ RowAt z2.drew ga 63 (ceA fu fv) ∧ RowAt z2.drew gc 26 (chA C) ∧ Aft15 F F w z2.drew ∧ ¬ F gc) := ⟨HX0.drew, H5.out.2.1, H5.out.2.2.1, H5.out.2.2.2.1.later (below_drew (Below.refl _ _)), H5.out.2.2.2.2⟩
            have HFX := hide hFx
            have HFG : Hid (F g) := by show F g; rw [hFx]; exact .inl rfl
            have tnr : z2.drew.cell? ⟨g, o, none⟩ = some (.int .i64 nr) := by rw [HNR.out]; exact HX0.drew.nr hi HO.out
            have hsz : 45 + p * 32 + s * 4 + (#[.int .i64 (n : Int), .int .i64 nr, .bool fu, .string fv] : Array Value).size ≤ x.cs.size := by rw [HX0.cells.1]; show 45 + p * 32 + s * 4 + 4 ≤ 174; omega
            clear HX0 hFx H5
            refine wp_region_noPanic ?_
            refine wp_region_held_drew (S := fun z => RowAt z ga 63 (ceA fu fv) ∧ z.cell? ⟨g, o, none⟩ = some (.int .i64 nr)) (by kernel_rfl) ⟨HD.out.2.1, tnr⟩ (fun hHeld => ?_)
            refine hand_take 0 (some 122) (.pointer (some ⟨g, 45 + p * 32 + s * 4, none⟩)) rfl rfl (by kernel_rfl) (by kernel_rfl) (by kernel_rfl) (fun _ _ _ h => h) (Or.inl ⟨by kernel_rfl, fun x' hSx => by go_simp⟩) hHeld ?_
            try simp only [Act.put, List.setIfInBounds_toArray, List.set_cons_zero, List.set_cons_succ]
            refine hand_take 1 (some 123) (.int .i64 (n : Int)) rfl rfl (by kernel_rfl) (by kernel_rfl) (by kernel_rfl) (fun _ _ _ h => h) (Or.inl ⟨by kernel_rfl, fun x' hSx => by go_simp⟩) hHeld ?_
            try simp only [Act.put, List.setIfInBounds_toArray, List.set_cons_zero, List.set_cons_succ]
            refine hand_take 2 (some 124) (.pointer (some ⟨g, o, none⟩)) rfl rfl (by kernel_rfl) (by kernel_rfl) (by kernel_rfl) (fun _ _ _ h => h) (Or.inl ⟨by kernel_rfl, fun x' hSx => by go_simp⟩) hHeld ?_
            try simp only [Act.put, List.setIfInBounds_toArray, List.set_cons_zero, List.set_cons_succ]
            refine hand_take 3 (some 125) (.pointer (some ⟨g, o, none⟩)) rfl rfl (by kernel_rfl) (by kernel_rfl) (by kernel_rfl) (fun _ _ _ h => h) (Or.inl ⟨by kernel_rfl, fun x' hSx => by go_simp⟩) hHeld ?_
            try simp only [Act.put, List.setIfInBounds_toArray, List.set_cons_zero, List.set_cons_succ]
            refine hand_take 4 (some 126) (.pointer (some ⟨g, o, none⟩)) rfl rfl (by kernel_rfl) (by kernel_rfl) (by kernel_rfl) (fun _ _ _ h => h) (Or.inl ⟨by kernel_rfl, fun x' hSx => by go_simp⟩) hHeld ?_
            try simp only [Act.put, List.setIfInBounds_toArray, List.set_cons_zero, List.set_cons_succ]
            refine hand_take 5 (some 127) (.int .i64 nr) rfl rfl (by kernel_rfl) (by kernel_rfl) (by kernel_rfl) (fun _ _ _ h => h) (Or.inl ⟨by kernel_rfl, fun x' hSx => by have h : World.cell? x' ⟨g, o, none⟩ = some (.int .i64 nr) := hSx.2; go_simp⟩) hHeld ?_
            try simp only [Act.put, List.setIfInBounds_toArray, List.set_cons_zero, List.set_cons_succ]
            refine hand_take 6 (some 128) (.agg #[.bool fu, .string fv]) rfl rfl (by kernel_rfl) (by kernel_rfl) (by kernel_rfl) (fun _ _ _ h => h) (yieldsIf_load_run (by kernel_rfl) 63 _ rfl (.pointer (some ⟨ga, 0, none⟩)) rfl _ (fun x' hSx => load_cel15 x' ga fu fv hSx.1)) hHeld ?_
            try simp only [Act.put, List.setIfInBounds_toArray, List.set_cons_zero, List.set_cons_succ]
            refine hand_take 7 (some 129) (.agg #[.int .i64 (n : Int), .int .i64 nr, .bool fu, .string fv]) rfl rfl (by kernel_rfl) (by kernel_rfl) (by kernel_rfl) (fun _ _ _ h => h) (Or.inl ⟨by kernel_rfl, fun x' hSx => by go_simp⟩) hHeld ?_
            try simp only [Act.put, List.setIfInBounds_toArray, List.set_cons_zero, List.set_cons_succ]
            refine hand_take 8 (some 130) (.pointer (some ⟨g, 45 + p * 32 + s * 4, none⟩)) rfl rfl (by kernel_rfl) (by kernel_rfl) (by kernel_rfl) (fun _ _ _ h => h) (Or.inl ⟨by kernel_rfl, fun x' hSx => by go_simp⟩) hHeld ?_
            try simp only [Act.put, List.setIfInBounds_toArray, List.set_cons_zero, List.set_cons_succ]
            refine hand_one 9 (by kernel_rfl) ?_
            refine hand_store rfl rfl rfl 65 (.tmp 130) (.tmp 129) rfl g (45 + p * 32 + s * 4) 69 x.cs #[.int .i64 (n : Int), .int .i64 nr, .bool fu, .string fv] rfl rfl HD.out.1.blk infoLo15 hsz (by simp [Value.oneCell']) ?_
            intro z3 hr3 ho3
            have hcc := HD.out.1.cells.allLk (show p * 8 + s < 32 by omega) ⟨(n : Int), nr, fu, fv⟩
            rw [show 45 + (p * 8 + s) * 4 = 45 + p * 32 + s * 4 by omega] at hcc
            have hlk : hb.locked n i p s = hb.setLk (p * 8 + s) ⟨(n : Int), nr, fu, fv⟩ := by
              unfold Hs.locked
              rw [if_pos (by rw [← HLNR.out]; exact e2), ← HNR.out, ← HFU.out.1, ← HFU.out.2]
            have A3 := HD.out.1.part _ _ hr3 ho3 hcc rfl rfl rfl
            have af3 := aft_own (x := x) ho3 (partA x.cs (45 + p * 32 + s * 4) (loA ⟨(n : Int), nr, fu, fv⟩))
            have H6 : Hid (HB z3 B g F (hb.locked n i p s) ∧ RowAt z3 ga 63 (ceA fu fv) ∧ RowAt z3 gc 26 (chA C) ∧ Aft15 F F w z3 ∧ ¬ F gc) := by
              have n1 : ga ≠ g := fun e => HN9.out.1 (by rw [e]; exact HFG.out)
              have n2 : gc ≠ g := fun e => HD.out.2.2.2.2 (by rw [e]; exact HFG.out)
              have A4 := A3
              rw [← hlk] at A4
              refine ⟨⟨_, A4, HFX.out⟩, ho3.row HD.out.2.1 n1, ho3.row HD.out.2.2.1 n2, ?_, HD.out.2.2.2.2⟩
              have h9 := HD.out.2.2.2.1
              rw [HFX.out] at h9 ⊢
              exact h9.trans af3
            have tnr3 : z3.cell? ⟨g, o, none⟩ = some (.int .i64 nr) := by rw [HNR.out]; exact A3.nr hi HO.out
            refine ⟨⟨H6.out.2.1, tnr3⟩, ?_⟩
            try simp only [Act.put, List.setIfInBounds_toArray, List.set_cons_zero, List.set_cons_succ]
            refine wpAnyH_done (by kernel_rfl) ?_ _
            refine NoPanic.normal ?_
            clear hr3 ho3 hcc hlk A3 af3 tnr tnr3 hHeld hsz HD
            go_wp2_with fail
            obtain ⟨hl, hhl⟩ : ∃ hl, hl = hb.locked n i p s := ⟨_, rfl⟩
            have HLL : Hid (hl.ck = h.ck ∧ hl.hi = h.hi ∧ hl.lg = h.lg ∧ hl.pg = h.pg ∧ hl.past = h.past) := by
              have h9 : hl.ck = hb.ck ∧ hl.hi = hb.hi ∧ hl.lg = hb.lg ∧ hl.pg = hb.pg ∧ hl.past = hb.past := by
                rw [hhl]
                unfold Hs.locked
                by_cases hq : (hb.lk (p * 8 + s)).nr = 0
                · rw [if_pos hq]
                  exact ⟨rfl, rfl, rfl, rfl, rfl⟩
                · rw [if_neg hq]
                  exact ⟨rfl, rfl, rfl, rfl, rfl⟩
              exact ⟨h9.1.trans HBF.out.2.2.2.1, h9.2.1.trans HBF.out.2.2.2.2, h9.2.2.1.trans HBF.out.1, h9.2.2.2.1.trans HBF.out.2.1, h9.2.2.2.2.trans HBF.out.2.2.1⟩
            rw [← hhl] at H6
            obtain ⟨c9, hc9⟩ : ∃ c, c = hl.ck n := ⟨_, rfl⟩
            obtain ⟨h9i, hh9⟩ : ∃ c, c = hl.hi := ⟨_, rfl⟩
            obtain ⟨M, hM⟩ : ∃ M, M = max c9 h9i := ⟨_, rfl⟩
            have hmx : (if c9 < h9i then (h9i : Int) else (c9 : Int)) = (M : Int) := by
              rw [hM]
              by_cases hq : c9 < h9i
              · rw [if_pos hq]
                omega
              · rw [if_neg hq]
                omega
            have HM : Hid (M ≤ 50000 ∧ hb.lockedUp n i p s = hl.setCk n M) := by
              refine ⟨?_, ?_⟩
              · have a := HW.out.ck n hn
                have b := HW.out.hi
                rw [← HLL.out.1, ← hc9] at a
                rw [← HLL.out.2.1, ← hh9] at b
                omega
              · unfold Hs.lockedUp
                rw [← hhl, hM, hc9, hh9, HLL.out.1, HLL.out.2.1, HBF.out.2.2.2.1, HBF.out.2.2.2.2]
            clear hM hhl
            have ckc := H6.out.1.ck hn
            rw [← hc9] at ckc
            have hic := H6.out.1.hi
            rw [← hh9] at hic
            have frc := H6.out.1.free (3 + n)
            have HC9 : Hid (c9 = hl.ck n ∧ h9i = hl.hi) := ⟨hc9, hh9⟩
            clear hc9 hh9
            refine wp_region_noPanic ?_
            refine wp_region_held_drew (S := fun z => z.cell? ⟨g, 173, none⟩ = some (.int .u64 (h9i : Int))) (by kernel_rfl) hic (fun hHeld => ?_)
            refine hand_take 0 (some 131) (.pointer (some ⟨g, 0, none⟩)) rfl rfl (by kernel_rfl) (by kernel_rfl) (by kernel_rfl) (fun _ _ _ h => h) (Or.inl ⟨by kernel_rfl, fun x' hSx => by go_simp⟩) hHeld ?_
            try simp only [Act.put, List.setIfInBounds_toArray, List.set_cons_zero, List.set_cons_succ]
            refine hand_take 1 (some 132) (.int .i64 (n : Int)) rfl rfl (by kernel_rfl) (by kernel_rfl) (by kernel_rfl) (fun _ _ _ h => h) (Or.inl ⟨by kernel_rfl, fun x' hSx => by go_simp⟩) hHeld ?_
            try simp only [Act.put, List.setIfInBounds_toArray, List.set_cons_zero, List.set_cons_succ]
            refine hand_take 2 (some 133) (.pointer (some ⟨g, 0, none⟩)) rfl rfl (by kernel_rfl) (by kernel_rfl) (by kernel_rfl) (fun _ _ _ h => h) (Or.inl ⟨by kernel_rfl, fun x' hSx => by go_simp⟩) hHeld ?_
            try simp only [Act.put, List.setIfInBounds_toArray, List.set_cons_zero, List.set_cons_succ]
            refine hand_take 3 (some 134) (.int .i64 (n : Int)) rfl rfl (by kernel_rfl) (by kernel_rfl) (by kernel_rfl) (fun _ _ _ h => h) (Or.inl ⟨by kernel_rfl, fun x' hSx => by go_simp⟩) hHeld ?_
            try simp only [Act.put, List.setIfInBounds_toArray, List.set_cons_zero, List.set_cons_succ]
            refine hand_take 4 (some 135) (.pointer (some ⟨g, 0, none⟩)) rfl rfl (by kernel_rfl) (by kernel_rfl) (by kernel_rfl) (fun _ _ _ h => h) (Or.inl ⟨by kernel_rfl, fun x' hSx => by go_simp⟩) hHeld ?_
            try simp only [Act.put, List.setIfInBounds_toArray, List.set_cons_zero, List.set_cons_succ]
            refine hand_take 5 (some 136) (.pointer (some ⟨g, 3, none⟩)) rfl rfl (by kernel_rfl) (by kernel_rfl) (by kernel_rfl) (fun _ _ _ h => h) (Or.inl ⟨by kernel_rfl, fun x' hSx => by go_simp⟩) hHeld ?_
            try simp only [Act.put, List.setIfInBounds_toArray, List.set_cons_zero, List.set_cons_succ]
            refine hand_take 6 (some 137) (.pointer (some ⟨g, 3 + n, none⟩)) rfl rfl (by kernel_rfl) (by kernel_rfl) (by kernel_rfl) (fun _ _ _ h => h) (Or.inl ⟨by kernel_rfl, fun x' hSx => by go_simp⟩) hHeld ?_
            try simp only [Act.put, List.setIfInBounds_toArray, List.set_cons_zero, List.set_cons_succ]
            refine hand_take 8 (some 139) (.pointer (some ⟨g, 0, none⟩)) rfl rfl (by kernel_rfl) (by kernel_rfl) (by kernel_rfl) (fun _ _ _ h => h) (Or.inl ⟨by kernel_rfl, fun x' hSx => by go_simp⟩) hHeld ?_
            try simp only [Act.put, List.setIfInBounds_toArray, List.set_cons_zero, List.set_cons_succ]
            refine hand_take 9 (some 140) (.pointer (some ⟨g, 0, none⟩)) rfl rfl (by kernel_rfl) (by kernel_rfl) (by kernel_rfl) (fun _ _ _ h => h) (Or.inl ⟨by kernel_rfl, fun x' hSx => by go_simp⟩) hHeld ?_
            try simp only [Act.put, List.setIfInBounds_toArray, List.set_cons_zero, List.set_cons_succ]
            refine hand_take 10 (some 141) (.pointer (some ⟨g, 173, none⟩)) rfl rfl (by kernel_rfl) (by kernel_rfl) (by kernel_rfl) (fun _ _ _ h => h) (Or.inl ⟨by kernel_rfl, fun x' hSx => by go_simp⟩) hHeld ?_
            try simp only [Act.put, List.setIfInBounds_toArray, List.set_cons_zero, List.set_cons_succ]
            refine hand_take 11 (some 142) (.int .u64 (h9i : Int)) rfl rfl (by kernel_rfl) (by kernel_rfl) (by kernel_rfl) (fun _ _ _ h => h) (Or.inl ⟨by kernel_rfl, fun x' hSx => by have h : World.cell? x' ⟨g, 173, none⟩ = some (.int .u64 (h9i : Int)) := hSx; go_simp⟩) hHeld ?_
            try simp only [Act.put, List.setIfInBounds_toArray, List.set_cons_zero, List.set_cons_succ]
            refine hand_take 13 (some 144) (.pointer (some ⟨g, 0, none⟩)) rfl rfl (by kernel_rfl) (by kernel_rfl) (by kernel_rfl) (fun _ _ _ h => h) (Or.inl ⟨by kernel_rfl, fun x' hSx => by go_simp⟩) hHeld ?_
            try simp only [Act.put, List.setIfInBounds_toArray, List.set_cons_zero, List.set_cons_succ]
            refine hand_take 14 (some 145) (.pointer (some ⟨g, 3, none⟩)) rfl rfl (by kernel_rfl) (by kernel_rfl) (by kernel_rfl) (fun _ _ _ h => h) (Or.inl ⟨by kernel_rfl, fun x' hSx => by go_simp⟩) hHeld ?_
            try simp only [Act.put, List.setIfInBounds_toArray, List.set_cons_zero, List.set_cons_succ]
            refine hand_one 7 (by kernel_rfl) ?_
            refine hand_run (some 138) rfl rfl rfl (.int .u64 (c9 : Int)) z3.drew ?hz ?_
            (case hz => go_simp)
            refine ⟨hic, ?_⟩
            try simp only [Act.put, List.setIfInBounds_toArray, List.set_cons_zero, List.set_cons_succ]
            refine hand_take 12 (some 143) (.int .u64 (M : Int)) rfl rfl (by kernel_rfl) (by kernel_rfl) (by kernel_rfl) (fun _ _ _ h => h) (Or.inl ⟨by kernel_rfl, fun x' hSx => by go_simp⟩) hHeld ?_
            try simp only [Act.put, List.setIfInBounds_toArray, List.set_cons_zero, List.set_cons_succ]
            refine hand_take 15 (some 146) (.pointer (some ⟨g, 3 + n, none⟩)) rfl rfl (by kernel_rfl) (by kernel_rfl) (by kernel_rfl) (fun _ _ _ h => h) (Or.inl ⟨by kernel_rfl, fun x' hSx => by go_simp⟩) hHeld ?_
            try simp only [Act.put, List.setIfInBounds_toArray, List.set_cons_zero, List.set_cons_succ]
            refine hand_one 16 (by kernel_rfl) ?_
            have q5 := H6.out.1.drew.cell (h' := hl.setCk n M) (3 + n) (.int .u64 (M : Int)) (fun cs a b c H => H.setCk hn M) rfl rfl rfl
            refine hand_skip15 rfl rfl rfl (z3.drew.setCell ⟨g, 3 + n, none⟩ (.int .u64 (M : Int))) ?hs ?_
            (case hs => go_simp)
            have hic2 := q5.1.hi
            rw [show (hl.setCk n M).hi = h9i from HC9.out.2.symm] at hic2
            refine ⟨hic2, ?_⟩
            try simp only [Act.put, List.setIfInBounds_toArray, List.set_cons_zero, List.set_cons_succ]
            refine wpAnyH_done (by kernel_rfl) ?_ _
            refine NoPanic.normal ?_
            have H7 : Hid (HB (z3.drew.setCell ⟨g, 3 + n, none⟩ (.int .u64 (M : Int))) B g F (hb.lockedUp n i p s) ∧ RowAt (z3.drew.setCell ⟨g, 3 + n, none⟩ (.int .u64 (M : Int))) gc 26 (chA C) ∧ Aft15 F F w (z3.drew.setCell ⟨g, 3 + n, none⟩ (.int .u64 (M : Int)))) := by
              refine ⟨by rw [HM.out.2]; exact q5.1, H6.out.2.2.1.other ⟨g, 3 + n, none⟩ _ (fun e => H6.out.2.2.2.2 (by rw [show gc = g from e]; exact H6.out.1.mine)), (H6.out.2.2.2.1.later (below_drew (Below.refl _ _))).trans q5.2⟩
            have HLU : Hid ((hb.lockedUp n i p s).ck n = M ∧ (hb.lockedUp n i p s).lg = h.lg ∧ (hb.lockedUp n i p s).pg = h.pg ∧ (hb.lockedUp n i p s).past = h.past) := by
              rw [HM.out.2]
              exact ⟨upd_same _ _ _, HLL.out.2.2.1, HLL.out.2.2.2.1, HLL.out.2.2.2.2⟩
            clear q5 hic hic2 ckc frc hmx hHeld H6 HC9
            refine gen_w (fun z => HB z B g F (hb.lockedUp n i p s) ∧ RowAt z gc 26 (chA C) ∧ Aft15 F F w z) H7.out ?_
            clear H7
            intro z5 H70
            have H7 := hide H70
            clear H70
            have HTU := hide (fun (hcl : C.pg.toNat < 4) => hturn15 z5 B g n i o F (hb.lockedUp n i p s) (bare15 1 C 0) H7.out.1 hn hi HO.out ⟨rfl, rfl, rec_fits15c (ch_fits15 HCR.out.1) rfl rfl⟩ HCR.out.1 HCR.out.2 (by rw [HLU.out.1]; have := HM.out.1; omega) (by rw [HLU.out.2.2.1]; have := HW.out.pl _ hcl; exact Nat.le_trans this (by decide)) (by rw [HLU.out.2.1]; exact HW.out.lg n hn) (by rw [HLU.out.2.2.2]; exact HW.out.past _ hcl))
            have HTU2 := hide (HTU.out (by have := HCR.out; omega))
            clear HTU
            have hrl : rcF (bareM (bare15 1 C 0)) = #[.int .i64 1, .int .u64 0, .int .i64 0, .int .u64 0, .int .i64 C.k, .int .i64 C.pg, .int .i64 C.sl, .string C.o, .string C.n, .int .u64 0, .int .i64 0, .int .u64 0, .slice none 0 0, .slice none 0 0] := rfl
            rw [hrl] at HTU2
            clear hrl
            go_wp2_with (with_reducible refine stop_at 150 rfl ?_)
            refine unstop10 ?_
            refine wpList_load_at rfl 26 (.tmp 13) rfl gc rfl #[.int .i64 C.k, .int .i64 C.pg, .int .i64 C.sl, .string C.o, .string C.n] H7.out.2.1 _ Try.underlying26 rfl infoCh ?_
            go_wp2_with fail
            refine HTU2.out.mono ?_
            rintro e z6 ⟨F6, rfl, hb6, ha6⟩
            have HTD : Hid (h.change n i ac = (hb.turned n i p s ac).nextIs i ((hb.turned n i p s ac).tx i).last ∧ (hb.lockedUp n i p s).turn n i (bare15 1 C 0) = hb.turned n i p s ac) := by
              have h9 : (hb.lockedUp n i p s).turn n i (bare15 1 C 0) = hb.turned n i p s ac := by
                unfold Hs.turned
                rw [HBF2.out.2]
              refine ⟨?_, h9⟩
              rw [HCH.out]
              unfold Hs.change1
              rw [HNB.out, if_neg (by decide), if_neg (fun hq => hq HBF2.out.1)]
              rfl
            rw [HTD.out.2] at hb6
            obtain ⟨ht, hht⟩ : ∃ ht, ht = hb.turned n i p s ac := ⟨_, rfl⟩
            rw [← hht] at hb6 HTD
            have H8 : Hid (HB z6 B g F6 ht ∧ Aft15 F F6 w z6) := ⟨hb6, H7.out.2.2.trans ha6⟩
            obtain ⟨-, -, t2, t3⟩ := hb6.tu hi HO.out
            have f3 := hb6.free (o + 3)
            clear hht hb6 ha6 H7 HTU2
            obtain ⟨lst, hlst⟩ : ∃ c, c = (ht.tx i).last := ⟨_, rfl⟩
            rw [← hlst] at t2 HTD
            clear hlst
            go_wp2
            have q8 := H8.out.1.cell (h' := ht.nextIs i lst) (o + 3) (.int .u64 (lst : Int)) (fun cs a b c H => by rw [HO.out]; exact H.setTx hi _ 3 (by omega) _ rfl (fun k hk he => by
              rcases (show k = 0 ∨ k = 1 ∨ k = 2 ∨ k = 3 by omega) with rfl | rfl | rfl | rfl
              · rfl
              · rfl
              · rfl
              · exact absurd rfl he)) rfl rfl rfl
            refine bodyPost_end (results_none rfl _ _ _) rfl ⟨F6, rfl, ?_, H8.out.2.trans q8.2⟩
            rw [HTD.out.1]
            exact q8.1
          · have hEa : (E != 0) = true := by simpa using hE
            have hEb : decide (E = 0) = false := by simpa using hE
            go_wp2
            refine bodyPost_ret (results_none rfl _ _ _) rfl ⟨F, rfl, ?_, H5.out.2.2.2.1⟩
            rw [HCH.out, show hb.change1 n i p s ac = hb by unfold Hs.change1; rw [HNB.out, if_neg (by decide), HBF2.out.1, if_pos hE]]
            exact H5.out.1
      · have e2a : (lnr != 0) = true := by simpa using e2
        have e2b : decide (lnr = 0) = false := by simpa using e2
        by_cases e3 : lnd = (n : Int)
        · rw [e3] at l0
          by_cases e4 : lnr = nr
          · rw [e4] at l1 e2a e2b
            have HNB : Hid (hb.barred n i (p * 8 + s) = false) := by show _ = false; rw [HBAR.out, e1, e3, e4]; simp
            clear HBAR
            go_wp2_with fail
            go_quiet (fail)
            clear l0 l1 t0 t1
            refine gen_w (fun y => HB y B g F hb ∧ RowAt y g7 95 #[.int .i64 ac.k, .int .i64 ac.n, .int .i64 ac.t, .int .i64 ac.pg, .int .i64 ac.sl, .bool ac.d, .string ac.v] ∧ Aft15 F F w y ∧ ¬ F g7) (show _ from ⟨HY.out.1.later (below_dn (Below.refl _ _) _), HY.out.2.1, HY.out.2.2.1.later (below_dn (Below.refl _ _) _), HY.out.2.2.2⟩) ?_
            clear HY
            intro y HY0
            have HY := hide HY0
            clear HY0
            obtain ⟨gp, cp1, LCE⟩ := HY.out.1.pgs
            have LD := hide (LCE p s p4 s8)
            clear LCE
            have HBF2 : Hid (hb.ofE p s ac = Go.Proofs.Ytohdmmfmjadipaa.ofE (p : Int) (s : Int) ((hb.pg p).u s) ((hb.pg p).s s) ac.toU ac.toV ∧ hb.ofC p s ac = Go.Proofs.Ytohdmmfmjadipaa.ofC (p : Int) (s : Int) ((hb.pg p).u s) ((hb.pg p).s s) ac.toU ac.toV) := ⟨rfl, rfl⟩
            obtain ⟨fu, hfu⟩ : ∃ c, c = (hb.pg p).u s := ⟨_, rfl⟩
            obtain ⟨fv, hfv⟩ : ∃ c, c = (hb.pg p).s s := ⟨_, rfl⟩
            rw [← hfu, ← hfv] at LD HBF2
            have HFU : Hid (fu = (hb.pg p).u s ∧ fv = (hb.pg p).s s) := ⟨hfu, hfv⟩
            clear hfu hfv
            go_wp2_with (with_reducible refine stop_at 95 rfl ?_)
            refine unstop10 ?_
            refine wpList_load_val rfl 63 (.tmp 94) rfl _ (.agg (ceA fu fv)) rfl LD.out ?_
            obtain ⟨ga, hga⟩ : ∃ k, k = y.heap.size := ⟨_, rfl⟩
            have hb1 : Below y.heap.size y (y.alloc (.cells (ceA false ⟨#[]⟩) 63)) := (Below.refl _ _).alloc (Nat.le_refl _) _
            have N1 : Hid (RowAt (y.alloc (.cells (ceA false ⟨#[]⟩) 63)) ga 63 (ceA false ⟨#[]⟩) ∧ Below y.heap.size y (y.alloc (.cells (ceA false ⟨#[]⟩) 63))) := by rw [hga]; exact ⟨RowAt.new y _ _, hb1⟩
            have HGA := hide hga
            clear hb1 hga LD cp1
            go_wp2_with (refine wpList_store_at rfl 63 (.tmp 11) (.tmp 95) rfl ga (ceA false ⟨#[]⟩) (ceA fu fv) ?h1 rfl N1.out.1 infoCe15 rfl (ceA_one _ _) ?_; (case h1 => rw [HGA.out]; rfl); intro y1 hr1 hk1 hrow1; refine stop10 ?_)
            have hb1 := hk1 _ _ N1.out.2 (by rw [HGA.out]; exact Nat.le_refl _)
            have H1 : Hid (HB y1 B g F hb ∧ RowAt y1 g7 95 #[.int .i64 ac.k, .int .i64 ac.n, .int .i64 ac.t, .int .i64 ac.pg, .int .i64 ac.sl, .bool ac.d, .string ac.v] ∧ RowAt y1 ga 63 (ceA fu fv) ∧ Aft15 F F w y1 ∧ ¬ F g7 ∧ ¬ F ga) := ⟨HY.out.1.later hb1, HY.out.2.1.later hb1, hr1, HY.out.2.2.1.later hb1, HY.out.2.2.2, fun hk => by have := (HY.out.1.here hk).2; have := HGA.out; omega⟩
            clear hr1 hk1 hrow1 hb1 N1 HY
            refine unstop10 ?_
            have a6 := H1.out.2.1.cell 6 (.string ac.v) rfl
            have a5 := H1.out.2.1.cell 5 (.bool ac.d) rfl
            have hvs := HFT.out.v
            obtain ⟨m20, hm20⟩ : ∃ m, m = min 20 ac.v.size := ⟨_, rfl⟩
            have hmn1 : (if ac.v.size < 20 then (ac.v.size : Int) else 20) = (m20 : Int) := by rw [hm20]; by_cases hq : ac.v.size < 20 <;> simp [hq] <;> omega
            have hmn2 : (if ((ac.v.size : Nat) : Int) < 20 then (ac.v.size : Int) else 20) = (m20 : Int) := by rw [hm20]; by_cases hq : (ac.v.size : Int) < 20 <;> simp [hq] <;> omega
            have hml : m20 ≤ ac.v.size := by omega
            have hml2 : (m20 : Int) ≤ (ac.v.size : Int) := by omega
            have hcut : Hid (cut20 ac.v = ac.v.extract 0 m20) := by rw [hm20]; rfl
            clear hm20
            rw [← HGA.out]
            obtain ⟨gb, hgb⟩ : ∃ k, k = y1.heap.size := ⟨_, rfl⟩
            have hb2 : Below y1.heap.size y1 (y1.alloc (.cells (ceA false ⟨#[]⟩) 63)) := (Below.refl _ _).alloc (Nat.le_refl _) _
            have N2 : Hid (RowAt (y1.alloc (.cells (ceA false ⟨#[]⟩) 63)) gb 63 (ceA false ⟨#[]⟩) ∧ Below y1.heap.size y1 (y1.alloc (.cells (ceA false ⟨#[]⟩) 63))) := by rw [hgb]; exact ⟨RowAt.new y1 _ _, hb2⟩
            have HGB := hide hgb
            clear hb2 hgb
            go_wp2_with (refine wpList_store_at rfl 63 (.tmp 12) (.tmp 103) rfl gb (ceA false ⟨#[]⟩) (ceA true (ac.v.extract 0 m20)) ?h1 rfl N2.out.1 infoCe15 rfl (ceA_one _ _) ?_; (case h1 => rw [HGB.out]; rfl); intro y2 hr2 hk2 hrow2; refine stop10 ?_)
            have hb2 := hk2 _ _ N2.out.2 (by rw [HGB.out]; exact Nat.le_refl _)
            have H2 : Hid (HB y2 B g F hb ∧ RowAt y2 g7 95 #[.int .i64 ac.k, .int .i64 ac.n, .int .i64 ac.t, .int .i64 ac.pg, .int .i64 ac.sl, .bool ac.d, .string ac.v] ∧ RowAt y2 ga 63 (ceA fu fv) ∧ RowAt y2 gb 63 (ceA true (ac.v.extract 0 m20)) ∧ Aft15 F F w y2 ∧ ¬ F g7 ∧ ¬ F ga ∧ ¬ F gb ∧ ga ≠ gb ∧ w.heap.size ≤ gb) := ⟨H1.out.1.later hb2, H1.out.2.1.later hb2, H1.out.2.2.1.later hb2, hr2, H1.out.2.2.2.1.later hb2, H1.out.2.2.2.2.1, H1.out.2.2.2.2.2, fun hk => by have := (H1.out.1.here hk).2; have := HGB.out; omega, fun e => by have := H1.out.2.2.1.lt; have := HGB.out; omega, by rw [HGB.out]; exact H1.out.2.2.2.1.1.size⟩
            clear hr2 hk2 hrow2 hb2 N2 a6 a5 H1 hmn1 hmn2 hml hml2
            refine unstop10 ?_
            rw [← HGB.out]
            have a5 := H2.out.2.1.cell 5 (.bool ac.d) rfl
            cases hd : ac.d with
            | true =>
              rw [hd] at a5
              go_wp2_with (refine wpList_store_at rfl 63 (.tmp 12) (.tmp 106) rfl gb (ceA true (ac.v.extract 0 m20)) (ceA false ⟨#[]⟩) rfl rfl H2.out.2.2.2.1 infoCe15 rfl (ceA_one _ _) ?_; intro y3 hr3 hk3 hrow3; refine stop10 ?_)
              have ho3 : HB y3 B g F hb := by
                obtain ⟨xx, hxx, hff⟩ := H2.out.1
                exact ⟨xx, hxx.keep (fun k t cs hk hr => hrow3 k t cs (fun e => H2.out.2.2.2.2.2.2.2.1 (by rw [hff, ← e]; exact hk)) hr), hff⟩
              have hb3 := hk3 _ _ (Below.refl w.heap.size y2) H2.out.2.2.2.2.2.2.2.2.2
              have H3 : Hid (HB y3 B g F hb ∧ RowAt y3 ga 63 (ceA fu fv) ∧ RowAt y3 gb 63 (ceA ac.toU ac.toV) ∧ Aft15 F F w y3) := by
                have e1 : ac.toU = false := by unfold Ac.toU; rw [hd]; rfl
                have e2 : ac.toV = ⟨#[]⟩ := by unfold Ac.toV; rw [hd, if_pos rfl]
                rw [e1, e2]
                exact ⟨ho3, hrow3 ga _ _ H2.out.2.2.2.2.2.2.2.2.1 H2.out.2.2.1, hr3, ⟨⟨hb3.os.trans H2.out.2.2.2.2.1.1.os, hb3.tape.trans H2.out.2.2.2.2.1.1.tape, hb3.output.trans H2.out.2.2.2.2.1.1.output, Nat.le_trans H2.out.2.2.2.2.1.1.size hb3.size, fun k hk hnf => (hb3.block k hk).trans (H2.out.2.2.2.2.1.1.block k hk hnf)⟩, fun k hk => .inl hk⟩⟩
              clear hr3 hk3 hrow3 hb3 ho3 a5
              refine unstop10 ?_
              have HN9 : Hid (¬ F ga ∧ ¬ F gb) := ⟨H2.out.2.2.2.2.2.2.1, H2.out.2.2.2.2.2.2.2.1⟩
              clear H2
              have HOF := hide (fun w => rof_any (p : Int) (s : Int) fu fv ac.toU ac.toV w)
              clear hcut
              generalize Go.Proofs.Ytohdmmfmjadipaa.ofE (p : Int) (s : Int) fu fv ac.toU ac.toV = E at *
              generalize Go.Proofs.Ytohdmmfmjadipaa.ofC (p : Int) (s : Int) fu fv ac.toU ac.toV = C at *
              go_wp2_with (with_reducible refine stop_at 110 rfl ?_)
              refine unstop10 ?_
              refine wpList_load_at rfl 63 (.tmp 11) rfl ga rfl (ceA fu fv) H3.out.2.1 _ Try.underlying63 rfl infoCe15 ?_
              refine wpList_load_at rfl 63 (.tmp 12) rfl gb rfl (ceA ac.toU ac.toV) H3.out.2.2.1 _ Try.underlying63 rfl infoCe15 ?_
              go_wp2_with fail
              refine (HOF.out y3).mono ?_
              rintro e z ⟨rfl, hbz⟩
              have H4 : Hid (HB z B g F hb ∧ RowAt z ga 63 (ceA fu fv) ∧ Aft15 F F w z) := ⟨H3.out.1.later hbz, H3.out.2.1.later hbz, H3.out.2.2.2.later hbz⟩
              clear hbz H3 HOF
              obtain ⟨gc, hgc⟩ : ∃ k, k = z.heap.size := ⟨_, rfl⟩
              have hb5 : Below z.heap.size z (z.alloc (.cells (chA Ch.zero) 26)) := (Below.refl _ _).alloc (Nat.le_refl _) _
              have N5 : Hid (RowAt (z.alloc (.cells (chA Ch.zero) 26)) gc 26 (chA Ch.zero) ∧ Below z.heap.size z (z.alloc (.cells (chA Ch.zero) 26))) := by rw [hgc]; exact ⟨RowAt.new z _ _, hb5⟩
              have HGC := hide hgc
              clear hb5 hgc
              go_wp2_with (refine wpList_store_at rfl 26 (.tmp 13) (.tmp 113) rfl gc (chA Ch.zero) (chA C) ?h1 rfl N5.out.1 infoCh rfl (chA_one _) ?_; (case h1 => rw [HGC.out]; rfl); intro z2 hr2 hk2 hrow2; refine stop10 ?_)
              have hb5 := hk2 _ _ N5.out.2 (by rw [HGC.out]; exact Nat.le_refl _)
              have H5 : Hid (HB z2 B g F hb ∧ RowAt z2 ga 63 (ceA fu fv) ∧ RowAt z2 gc 26 (chA C) ∧ Aft15 F F w z2 ∧ ¬ F gc) := ⟨H4.out.1.later hb5, H4.out.2.1.later hb5, hr2, H4.out.2.2.later hb5, fun hk => by have := (H4.out.1.here hk).2; have := HGC.out; omega⟩
              clear hr2 hk2 hrow2 hb5 N5 H4
              refine unstop10 ?_
              rw [← HGC.out]
              by_cases hE : E = 0
              · rw [hE] at HBF2 ⊢
                have HCR : Hid (C.right ∧ C.pg < 4) := by
                  have h9 : hb.ofC p s ac = rawC (p : Int) (s : Int) ((hb.pg p).u s) ((hb.pg p).s s) ac.toU ac.toV := by
                    show Go.Proofs.Ytohdmmfmjadipaa.ofC (p : Int) (s : Int) ((hb.pg p).u s) ((hb.pg p).s s) ac.toU ac.toV = _
                    unfold Go.Proofs.Ytohdmmfmjadipaa.ofC
                    exact if_pos HBF2.out.1
                  have h8 := (of_right15 (p : Int) (s : Int) ((hb.pg p).u s) ((hb.pg p).s s) ac.toU ac.toV HBF2.out.1)
                  rw [← HBF2.out.2]
                  refine ⟨h8, ?_⟩
                  rw [h9]
                  show (p : Int) < 4
                  omega
                obtain ⟨l0, l1, l2, l3⟩ := H5.out.1.lo (show p * 8 + s < 32 by omega)
                rw [show 45 + (p * 8 + s) * 4 = 45 + p * 32 + s * 4 by omega] at l0 l1 l2 l3
                rw [← HLNR.out] at l1
                rw [e4] at l1
                have e9 : (nr == 0) = false := by have := e2; rw [e4] at this; simpa using this
                have e8 : decide (nr = 0) = false := by have := e2; rw [e4] at this; simpa using this
                have H6 : Hid (HB z2 B g F (hb.locked n i p s) ∧ RowAt z2 ga 63 (ceA fu fv) ∧ RowAt z2 gc 26 (chA C) ∧ Aft15 F F w z2 ∧ ¬ F gc) := by
                  have hlk : hb.locked n i p s = hb := by
                    unfold Hs.locked
                    rw [if_neg (by rw [← HLNR.out]; exact e2)]
                  show HB z2 B g F (hb.locked n i p s) ∧ _
                  rw [hlk]
                  exact H5.out
                go_wp2_with fail
                clear l0 l1 l2 l3 e8 e9 H5
                obtain ⟨hl, hhl⟩ : ∃ hl, hl = hb.locked n i p s := ⟨_, rfl⟩
                have HLL : Hid (hl.ck = h.ck ∧ hl.hi = h.hi ∧ hl.lg = h.lg ∧ hl.pg = h.pg ∧ hl.past = h.past) := by
                  have h9 : hl.ck = hb.ck ∧ hl.hi = hb.hi ∧ hl.lg = hb.lg ∧ hl.pg = hb.pg ∧ hl.past = hb.past := by
                    rw [hhl]
                    unfold Hs.locked
                    by_cases hq : (hb.lk (p * 8 + s)).nr = 0
                    · rw [if_pos hq]
                      exact ⟨rfl, rfl, rfl, rfl, rfl⟩
                    · rw [if_neg hq]
                      exact ⟨rfl, rfl, rfl, rfl, rfl⟩
                  exact ⟨h9.1.trans HBF.out.2.2.2.1, h9.2.1.trans HBF.out.2.2.2.2, h9.2.2.1.trans HBF.out.1, h9.2.2.2.1.trans HBF.out.2.1, h9.2.2.2.2.trans HBF.out.2.2.1⟩
                rw [← hhl] at H6
                obtain ⟨c9, hc9⟩ : ∃ c, c = hl.ck n := ⟨_, rfl⟩
                obtain ⟨h9i, hh9⟩ : ∃ c, c = hl.hi := ⟨_, rfl⟩
                obtain ⟨M, hM⟩ : ∃ M, M = max c9 h9i := ⟨_, rfl⟩
                have hmx : (if c9 < h9i then (h9i : Int) else (c9 : Int)) = (M : Int) := by
                  rw [hM]
                  by_cases hq : c9 < h9i
                  · rw [if_pos hq]
                    omega
                  · rw [if_neg hq]
                    omega
                have HM : Hid (M ≤ 50000 ∧ hb.lockedUp n i p s = hl.setCk n M) := by
                  refine ⟨?_, ?_⟩
                  · have a := HW.out.ck n hn
                    have b := HW.out.hi
                    rw [← HLL.out.1, ← hc9] at a
                    rw [← HLL.out.2.1, ← hh9] at b
                    omega
                  · unfold Hs.lockedUp
                    rw [← hhl, hM, hc9, hh9, HLL.out.1, HLL.out.2.1, HBF.out.2.2.2.1, HBF.out.2.2.2.2]
                clear hM hhl
                have ckc := H6.out.1.ck hn
                rw [← hc9] at ckc
                have hic := H6.out.1.hi
                rw [← hh9] at hic
                have frc := H6.out.1.free (3 + n)
                have HC9 : Hid (c9 = hl.ck n ∧ h9i = hl.hi) := ⟨hc9, hh9⟩
                clear hc9 hh9
                refine wp_region_noPanic ?_
                refine wp_region_held_drew (S := fun z => z.cell? ⟨g, 173, none⟩ = some (.int .u64 (h9i : Int))) (by kernel_rfl) hic (fun hHeld => ?_)
                refine hand_take 0 (some 131) (.pointer (some ⟨g, 0, none⟩)) rfl rfl (by kernel_rfl) (by kernel_rfl) (by kernel_rfl) (fun _ _ _ h => h) (Or.inl ⟨by kernel_rfl, fun x' hSx => by go_simp⟩) hHeld ?_
                try simp only [Act.put, List.setIfInBounds_toArray, List.set_cons_zero, List.set_cons_succ]
                refine hand_take 1 (some 132) (.int .i64 (n : Int)) rfl rfl (by kernel_rfl) (by kernel_rfl) (by kernel_rfl) (fun _ _ _ h => h) (Or.inl ⟨by kernel_rfl, fun x' hSx => by go_simp⟩) hHeld ?_
                try simp only [Act.put, List.setIfInBounds_toArray, List.set_cons_zero, List.set_cons_succ]
                refine hand_take 2 (some 133) (.pointer (some ⟨g, 0, none⟩)) rfl rfl (by kernel_rfl) (by kernel_rfl) (by kernel_rfl) (fun _ _ _ h => h) (Or.inl ⟨by kernel_rfl, fun x' hSx => by go_simp⟩) hHeld ?_
                try simp only [Act.put, List.setIfInBounds_toArray, List.set_cons_zero, List.set_cons_succ]
                refine hand_take 3 (some 134) (.int .i64 (n : Int)) rfl rfl (by kernel_rfl) (by kernel_rfl) (by kernel_rfl) (fun _ _ _ h => h) (Or.inl ⟨by kernel_rfl, fun x' hSx => by go_simp⟩) hHeld ?_
                try simp only [Act.put, List.setIfInBounds_toArray, List.set_cons_zero, List.set_cons_succ]
                refine hand_take 4 (some 135) (.pointer (some ⟨g, 0, none⟩)) rfl rfl (by kernel_rfl) (by kernel_rfl) (by kernel_rfl) (fun _ _ _ h => h) (Or.inl ⟨by kernel_rfl, fun x' hSx => by go_simp⟩) hHeld ?_
                try simp only [Act.put, List.setIfInBounds_toArray, List.set_cons_zero, List.set_cons_succ]
                refine hand_take 5 (some 136) (.pointer (some ⟨g, 3, none⟩)) rfl rfl (by kernel_rfl) (by kernel_rfl) (by kernel_rfl) (fun _ _ _ h => h) (Or.inl ⟨by kernel_rfl, fun x' hSx => by go_simp⟩) hHeld ?_
                try simp only [Act.put, List.setIfInBounds_toArray, List.set_cons_zero, List.set_cons_succ]
                refine hand_take 6 (some 137) (.pointer (some ⟨g, 3 + n, none⟩)) rfl rfl (by kernel_rfl) (by kernel_rfl) (by kernel_rfl) (fun _ _ _ h => h) (Or.inl ⟨by kernel_rfl, fun x' hSx => by go_simp⟩) hHeld ?_
                try simp only [Act.put, List.setIfInBounds_toArray, List.set_cons_zero, List.set_cons_succ]
                refine hand_take 8 (some 139) (.pointer (some ⟨g, 0, none⟩)) rfl rfl (by kernel_rfl) (by kernel_rfl) (by kernel_rfl) (fun _ _ _ h => h) (Or.inl ⟨by kernel_rfl, fun x' hSx => by go_simp⟩) hHeld ?_
                try simp only [Act.put, List.setIfInBounds_toArray, List.set_cons_zero, List.set_cons_succ]
                refine hand_take 9 (some 140) (.pointer (some ⟨g, 0, none⟩)) rfl rfl (by kernel_rfl) (by kernel_rfl) (by kernel_rfl) (fun _ _ _ h => h) (Or.inl ⟨by kernel_rfl, fun x' hSx => by go_simp⟩) hHeld ?_
                try simp only [Act.put, List.setIfInBounds_toArray, List.set_cons_zero, List.set_cons_succ]
                refine hand_take 10 (some 141) (.pointer (some ⟨g, 173, none⟩)) rfl rfl (by kernel_rfl) (by kernel_rfl) (by kernel_rfl) (fun _ _ _ h => h) (Or.inl ⟨by kernel_rfl, fun x' hSx => by go_simp⟩) hHeld ?_
                try simp only [Act.put, List.setIfInBounds_toArray, List.set_cons_zero, List.set_cons_succ]
                refine hand_take 11 (some 142) (.int .u64 (h9i : Int)) rfl rfl (by kernel_rfl) (by kernel_rfl) (by kernel_rfl) (fun _ _ _ h => h) (Or.inl ⟨by kernel_rfl, fun x' hSx => by have h : World.cell? x' ⟨g, 173, none⟩ = some (.int .u64 (h9i : Int)) := hSx; go_simp⟩) hHeld ?_
                try simp only [Act.put, List.setIfInBounds_toArray, List.set_cons_zero, List.set_cons_succ]
                refine hand_take 13 (some 144) (.pointer (some ⟨g, 0, none⟩)) rfl rfl (by kernel_rfl) (by kernel_rfl) (by kernel_rfl) (fun _ _ _ h => h) (Or.inl ⟨by kernel_rfl, fun x' hSx => by go_simp⟩) hHeld ?_
                try simp only [Act.put, List.setIfInBounds_toArray, List.set_cons_zero, List.set_cons_succ]
                refine hand_take 14 (some 145) (.pointer (some ⟨g, 3, none⟩)) rfl rfl (by kernel_rfl) (by kernel_rfl) (by kernel_rfl) (fun _ _ _ h => h) (Or.inl ⟨by kernel_rfl, fun x' hSx => by go_simp⟩) hHeld ?_
                try simp only [Act.put, List.setIfInBounds_toArray, List.set_cons_zero, List.set_cons_succ]
                refine hand_one 7 (by kernel_rfl) ?_
                refine hand_run (some 138) rfl rfl rfl (.int .u64 (c9 : Int)) z2.drew ?hz ?_
                (case hz => go_simp)
                refine ⟨hic, ?_⟩
                try simp only [Act.put, List.setIfInBounds_toArray, List.set_cons_zero, List.set_cons_succ]
                refine hand_take 12 (some 143) (.int .u64 (M : Int)) rfl rfl (by kernel_rfl) (by kernel_rfl) (by kernel_rfl) (fun _ _ _ h => h) (Or.inl ⟨by kernel_rfl, fun x' hSx => by go_simp⟩) hHeld ?_
                try simp only [Act.put, List.setIfInBounds_toArray, List.set_cons_zero, List.set_cons_succ]
                refine hand_take 15 (some 146) (.pointer (some ⟨g, 3 + n, none⟩)) rfl rfl (by kernel_rfl) (by kernel_rfl) (by kernel_rfl) (fun _ _ _ h => h) (Or.inl ⟨by kernel_rfl, fun x' hSx => by go_simp⟩) hHeld ?_
                try simp only [Act.put, List.setIfInBounds_toArray, List.set_cons_zero, List.set_cons_succ]
                refine hand_one 16 (by kernel_rfl) ?_
                have q5 := H6.out.1.drew.cell (h' := hl.setCk n M) (3 + n) (.int .u64 (M : Int)) (fun cs a b c H => H.setCk hn M) rfl rfl rfl
                refine hand_skip15 rfl rfl rfl (z2.drew.setCell ⟨g, 3 + n, none⟩ (.int .u64 (M : Int))) ?hs ?_
                (case hs => go_simp)
                have hic2 := q5.1.hi
                rw [show (hl.setCk n M).hi = h9i from HC9.out.2.symm] at hic2
                refine ⟨hic2, ?_⟩
                try simp only [Act.put, List.setIfInBounds_toArray, List.set_cons_zero, List.set_cons_succ]
                refine wpAnyH_done (by kernel_rfl) ?_ _
                refine NoPanic.normal ?_
                have H7 : Hid (HB (z2.drew.setCell ⟨g, 3 + n, none⟩ (.int .u64 (M : Int))) B g F (hb.lockedUp n i p s) ∧ RowAt (z2.drew.setCell ⟨g, 3 + n, none⟩ (.int .u64 (M : Int))) gc 26 (chA C) ∧ Aft15 F F w (z2.drew.setCell ⟨g, 3 + n, none⟩ (.int .u64 (M : Int)))) := by
                  refine ⟨by rw [HM.out.2]; exact q5.1, H6.out.2.2.1.other ⟨g, 3 + n, none⟩ _ (fun e => H6.out.2.2.2.2 (by rw [show gc = g from e]; exact H6.out.1.mine)), (H6.out.2.2.2.1.later (below_drew (Below.refl _ _))).trans q5.2⟩
                have HLU : Hid ((hb.lockedUp n i p s).ck n = M ∧ (hb.lockedUp n i p s).lg = h.lg ∧ (hb.lockedUp n i p s).pg = h.pg ∧ (hb.lockedUp n i p s).past = h.past) := by
                  rw [HM.out.2]
                  exact ⟨upd_same _ _ _, HLL.out.2.2.1, HLL.out.2.2.2.1, HLL.out.2.2.2.2⟩
                clear q5 hic hic2 ckc frc hmx hHeld H6 HC9
                refine gen_w (fun z => HB z B g F (hb.lockedUp n i p s) ∧ RowAt z gc 26 (chA C) ∧ Aft15 F F w z) H7.out ?_
                clear H7
                intro z5 H70
                have H7 := hide H70
                clear H70
                have HTU := hide (fun (hcl : C.pg.toNat < 4) => hturn15 z5 B g n i o F (hb.lockedUp n i p s) (bare15 1 C 0) H7.out.1 hn hi HO.out ⟨rfl, rfl, rec_fits15c (ch_fits15 HCR.out.1) rfl rfl⟩ HCR.out.1 HCR.out.2 (by rw [HLU.out.1]; have := HM.out.1; omega) (by rw [HLU.out.2.2.1]; have := HW.out.pl _ hcl; exact Nat.le_trans this (by decide)) (by rw [HLU.out.2.1]; exact HW.out.lg n hn) (by rw [HLU.out.2.2.2]; exact HW.out.past _ hcl))
                have HTU2 := hide (HTU.out (by have := HCR.out; omega))
                clear HTU
                have hrl : rcF (bareM (bare15 1 C 0)) = #[.int .i64 1, .int .u64 0, .int .i64 0, .int .u64 0, .int .i64 C.k, .int .i64 C.pg, .int .i64 C.sl, .string C.o, .string C.n, .int .u64 0, .int .i64 0, .int .u64 0, .slice none 0 0, .slice none 0 0] := rfl
                rw [hrl] at HTU2
                clear hrl
                go_wp2_with (with_reducible refine stop_at 150 rfl ?_)
                refine unstop10 ?_
                refine wpList_load_at rfl 26 (.tmp 13) rfl gc rfl #[.int .i64 C.k, .int .i64 C.pg, .int .i64 C.sl, .string C.o, .string C.n] H7.out.2.1 _ Try.underlying26 rfl infoCh ?_
                go_wp2_with fail
                refine HTU2.out.mono ?_
                rintro e z6 ⟨F6, rfl, hb6, ha6⟩
                have HTD : Hid (h.change n i ac = (hb.turned n i p s ac).nextIs i ((hb.turned n i p s ac).tx i).last ∧ (hb.lockedUp n i p s).turn n i (bare15 1 C 0) = hb.turned n i p s ac) := by
                  have h9 : (hb.lockedUp n i p s).turn n i (bare15 1 C 0) = hb.turned n i p s ac := by
                    unfold Hs.turned
                    rw [HBF2.out.2]
                  refine ⟨?_, h9⟩
                  rw [HCH.out]
                  unfold Hs.change1
                  rw [HNB.out, if_neg (by decide), if_neg (fun hq => hq HBF2.out.1)]
                  rfl
                rw [HTD.out.2] at hb6
                obtain ⟨ht, hht⟩ : ∃ ht, ht = hb.turned n i p s ac := ⟨_, rfl⟩
                rw [← hht] at hb6 HTD
                have H8 : Hid (HB z6 B g F6 ht ∧ Aft15 F F6 w z6) := ⟨hb6, H7.out.2.2.trans ha6⟩
                obtain ⟨-, -, t2, t3⟩ := hb6.tu hi HO.out
                have f3 := hb6.free (o + 3)
                clear hht hb6 ha6 H7 HTU2
                obtain ⟨lst, hlst⟩ : ∃ c, c = (ht.tx i).last := ⟨_, rfl⟩
                rw [← hlst] at t2 HTD
                clear hlst
                go_wp2
                have q8 := H8.out.1.cell (h' := ht.nextIs i lst) (o + 3) (.int .u64 (lst : Int)) (fun cs a b c H => by rw [HO.out]; exact H.setTx hi _ 3 (by omega) _ rfl (fun k hk he => by
                  rcases (show k = 0 ∨ k = 1 ∨ k = 2 ∨ k = 3 by omega) with rfl | rfl | rfl | rfl
                  · rfl
                  · rfl
                  · rfl
                  · exact absurd rfl he)) rfl rfl rfl
                refine bodyPost_end (results_none rfl _ _ _) rfl ⟨F6, rfl, ?_, H8.out.2.trans q8.2⟩
                rw [HTD.out.1]
                exact q8.1
              · have hEa : (E != 0) = true := by simpa using hE
                have hEb : decide (E = 0) = false := by simpa using hE
                go_wp2
                refine bodyPost_ret (results_none rfl _ _ _) rfl ⟨F, rfl, ?_, H5.out.2.2.2.1⟩
                rw [HCH.out, show hb.change1 n i p s ac = hb by unfold Hs.change1; rw [HNB.out, if_neg (by decide), HBF2.out.1, if_pos hE]]
                exact H5.out.1
            | false =>
              rw [hd] at a5
              have H3 : Hid (HB y2 B g F hb ∧ RowAt y2 ga 63 (ceA fu fv) ∧ RowAt y2 gb 63 (ceA ac.toU ac.toV) ∧ Aft15 F F w y2) := by
                have e1 : ac.toU = true := by unfold Ac.toU; rw [hd]; rfl
                have e2 : ac.toV = ac.v.extract 0 m20 := by unfold Ac.toV; rw [hd, if_neg (by decide), hcut.out]
                rw [e1, e2]
                exact ⟨H2.out.1, H2.out.2.2.1, H2.out.2.2.2.1, H2.out.2.2.2.2.1⟩
              go_wp2_with (with_reducible refine stop_at 110 rfl ?_)
              clear a5
              refine unstop10 ?_
              have HN9 : Hid (¬ F ga ∧ ¬ F gb) := ⟨H2.out.2.2.2.2.2.2.1, H2.out.2.2.2.2.2.2.2.1⟩
              clear H2
              have HOF := hide (fun w => rof_any (p : Int) (s : Int) fu fv ac.toU ac.toV w)
              clear hcut
              generalize Go.Proofs.Ytohdmmfmjadipaa.ofE (p : Int) (s : Int) fu fv ac.toU ac.toV = E at *
              generalize Go.Proofs.Ytohdmmfmjadipaa.ofC (p : Int) (s : Int) fu fv ac.toU ac.toV = C at *
              refine wpList_load_at rfl 63 (.tmp 11) rfl ga rfl (ceA fu fv) H3.out.2.1 _ Try.underlying63 rfl infoCe15 ?_
              refine wpList_load_at rfl 63 (.tmp 12) rfl gb rfl (ceA ac.toU ac.toV) H3.out.2.2.1 _ Try.underlying63 rfl infoCe15 ?_
              go_wp2_with fail
              refine (HOF.out y2).mono ?_
              rintro e z ⟨rfl, hbz⟩
              have H4 : Hid (HB z B g F hb ∧ RowAt z ga 63 (ceA fu fv) ∧ Aft15 F F w z) := ⟨H3.out.1.later hbz, H3.out.2.1.later hbz, H3.out.2.2.2.later hbz⟩
              clear hbz H3 HOF
              obtain ⟨gc, hgc⟩ : ∃ k, k = z.heap.size := ⟨_, rfl⟩
              have hb5 : Below z.heap.size z (z.alloc (.cells (chA Ch.zero) 26)) := (Below.refl _ _).alloc (Nat.le_refl _) _
              have N5 : Hid (RowAt (z.alloc (.cells (chA Ch.zero) 26)) gc 26 (chA Ch.zero) ∧ Below z.heap.size z (z.alloc (.cells (chA Ch.zero) 26))) := by rw [hgc]; exact ⟨RowAt.new z _ _, hb5⟩
              have HGC := hide hgc
              clear hb5 hgc
              go_wp2_with (refine wpList_store_at rfl 26 (.tmp 13) (.tmp 113) rfl gc (chA Ch.zero) (chA C) ?h1 rfl N5.out.1 infoCh rfl (chA_one _) ?_; (case h1 => rw [HGC.out]; rfl); intro z2 hr2 hk2 hrow2; refine stop10 ?_)
              have hb5 := hk2 _ _ N5.out.2 (by rw [HGC.out]; exact Nat.le_refl _)
              have H5 : Hid (HB z2 B g F hb ∧ RowAt z2 ga 63 (ceA fu fv) ∧ RowAt z2 gc 26 (chA C) ∧ Aft15 F F w z2 ∧ ¬ F gc) := ⟨H4.out.1.later hb5, H4.out.2.1.later hb5, hr2, H4.out.2.2.later hb5, fun hk => by have := (H4.out.1.here hk).2; have := HGC.out; omega⟩
              clear hr2 hk2 hrow2 hb5 N5 H4
              refine unstop10 ?_
              rw [← HGC.out]
              by_cases hE : E = 0
              · rw [hE] at HBF2 ⊢
                have HCR : Hid (C.right ∧ C.pg < 4) := by
                  have h9 : hb.ofC p s ac = rawC (p : Int) (s : Int) ((hb.pg p).u s) ((hb.pg p).s s) ac.toU ac.toV := by
                    show Go.Proofs.Ytohdmmfmjadipaa.ofC (p : Int) (s : Int) ((hb.pg p).u s) ((hb.pg p).s s) ac.toU ac.toV = _
                    unfold Go.Proofs.Ytohdmmfmjadipaa.ofC
                    exact if_pos HBF2.out.1
                  have h8 := (of_right15 (p : Int) (s : Int) ((hb.pg p).u s) ((hb.pg p).s s) ac.toU ac.toV HBF2.out.1)
                  rw [← HBF2.out.2]
                  refine ⟨h8, ?_⟩
                  rw [h9]
                  show (p : Int) < 4
                  omega
                obtain ⟨l0, l1, l2, l3⟩ := H5.out.1.lo (show p * 8 + s < 32 by omega)
                rw [show 45 + (p * 8 + s) * 4 = 45 + p * 32 + s * 4 by omega] at l0 l1 l2 l3
                rw [← HLNR.out] at l1
                rw [e4] at l1
                have e9 : (nr == 0) = false := by have := e2; rw [e4] at this; simpa using this
                have e8 : decide (nr = 0) = false := by have := e2; rw [e4] at this; simpa using this
                have H6 : Hid (HB z2 B g F (hb.locked n i p s) ∧ RowAt z2 ga 63 (ceA fu fv) ∧ RowAt z2 gc 26 (chA C) ∧ Aft15 F F w z2 ∧ ¬ F gc) := by
                  have hlk : hb.locked n i p s = hb := by
                    unfold Hs.locked
                    rw [if_neg (by rw [← HLNR.out]; exact e2)]
                  show HB z2 B g F (hb.locked n i p s) ∧ _
                  rw [hlk]
                  exact H5.out
                go_wp2_with fail
                clear l0 l1 l2 l3 e8 e9 H5
                obtain ⟨hl, hhl⟩ : ∃ hl, hl = hb.locked n i p s := ⟨_, rfl⟩
                have HLL : Hid (hl.ck = h.ck ∧ hl.hi = h.hi ∧ hl.lg = h.lg ∧ hl.pg = h.pg ∧ hl.past = h.past) := by
                  have h9 : hl.ck = hb.ck ∧ hl.hi = hb.hi ∧ hl.lg = hb.lg ∧ hl.pg = hb.pg ∧ hl.past = hb.past := by
                    rw [hhl]
                    unfold Hs.locked
                    by_cases hq : (hb.lk (p * 8 + s)).nr = 0
                    · rw [if_pos hq]
                      exact ⟨rfl, rfl, rfl, rfl, rfl⟩
                    · rw [if_neg hq]
                      exact ⟨rfl, rfl, rfl, rfl, rfl⟩
                  exact ⟨h9.1.trans HBF.out.2.2.2.1, h9.2.1.trans HBF.out.2.2.2.2, h9.2.2.1.trans HBF.out.1, h9.2.2.2.1.trans HBF.out.2.1, h9.2.2.2.2.trans HBF.out.2.2.1⟩
                rw [← hhl] at H6
                obtain ⟨c9, hc9⟩ : ∃ c, c = hl.ck n := ⟨_, rfl⟩
                obtain ⟨h9i, hh9⟩ : ∃ c, c = hl.hi := ⟨_, rfl⟩
                obtain ⟨M, hM⟩ : ∃ M, M = max c9 h9i := ⟨_, rfl⟩
                have hmx : (if c9 < h9i then (h9i : Int) else (c9 : Int)) = (M : Int) := by
                  rw [hM]
                  by_cases hq : c9 < h9i
                  · rw [if_pos hq]
                    omega
                  · rw [if_neg hq]
                    omega
                have HM : Hid (M ≤ 50000 ∧ hb.lockedUp n i p s = hl.setCk n M) := by
                  refine ⟨?_, ?_⟩
                  · have a := HW.out.ck n hn
                    have b := HW.out.hi
                    rw [← HLL.out.1, ← hc9] at a
                    rw [← HLL.out.2.1, ← hh9] at b
                    omega
                  · unfold Hs.lockedUp
                    rw [← hhl, hM, hc9, hh9, HLL.out.1, HLL.out.2.1, HBF.out.2.2.2.1, HBF.out.2.2.2.2]
                clear hM hhl
                have ckc := H6.out.1.ck hn
                rw [← hc9] at ckc
                have hic := H6.out.1.hi
                rw [← hh9] at hic
                have frc := H6.out.1.free (3 + n)
                have HC9 : Hid (c9 = hl.ck n ∧ h9i = hl.hi) := ⟨hc9, hh9⟩
                clear hc9 hh9
                refine wp_region_noPanic ?_
                refine wp_region_held_drew (S := fun z => z.cell? ⟨g, 173, none⟩ = some (.int .u64 (h9i : Int))) (by kernel_rfl) hic (fun hHeld => ?_)
                refine hand_take 0 (some 131) (.pointer (some ⟨g, 0, none⟩)) rfl rfl (by kernel_rfl) (by kernel_rfl) (by kernel_rfl) (fun _ _ _ h => h) (Or.inl ⟨by kernel_rfl, fun x' hSx => by go_simp⟩) hHeld ?_
                try simp only [Act.put, List.setIfInBounds_toArray, List.set_cons_zero, List.set_cons_succ]
                refine hand_take 1 (some 132) (.int .i64 (n : Int)) rfl rfl (by kernel_rfl) (by kernel_rfl) (by kernel_rfl) (fun _ _ _ h => h) (Or.inl ⟨by kernel_rfl, fun x' hSx => by go_simp⟩) hHeld ?_
                try simp only [Act.put, List.setIfInBounds_toArray, List.set_cons_zero, List.set_cons_succ]
                refine hand_take 2 (some 133) (.pointer (some ⟨g, 0, none⟩)) rfl rfl (by kernel_rfl) (by kernel_rfl) (by kernel_rfl) (fun _ _ _ h => h) (Or.inl ⟨by kernel_rfl, fun x' hSx => by go_simp⟩) hHeld ?_
                try simp only [Act.put, List.setIfInBounds_toArray, List.set_cons_zero, List.set_cons_succ]
                refine hand_take 3 (some 134) (.int .i64 (n : Int)) rfl rfl (by kernel_rfl) (by kernel_rfl) (by kernel_rfl) (fun _ _ _ h => h) (Or.inl ⟨by kernel_rfl, fun x' hSx => by go_simp⟩) hHeld ?_
                try simp only [Act.put, List.setIfInBounds_toArray, List.set_cons_zero, List.set_cons_succ]
                refine hand_take 4 (some 135) (.pointer (some ⟨g, 0, none⟩)) rfl rfl (by kernel_rfl) (by kernel_rfl) (by kernel_rfl) (fun _ _ _ h => h) (Or.inl ⟨by kernel_rfl, fun x' hSx => by go_simp⟩) hHeld ?_
                try simp only [Act.put, List.setIfInBounds_toArray, List.set_cons_zero, List.set_cons_succ]
                refine hand_take 5 (some 136) (.pointer (some ⟨g, 3, none⟩)) rfl rfl (by kernel_rfl) (by kernel_rfl) (by kernel_rfl) (fun _ _ _ h => h) (Or.inl ⟨by kernel_rfl, fun x' hSx => by go_simp⟩) hHeld ?_
                try simp only [Act.put, List.setIfInBounds_toArray, List.set_cons_zero, List.set_cons_succ]
                refine hand_take 6 (some 137) (.pointer (some ⟨g, 3 + n, none⟩)) rfl rfl (by kernel_rfl) (by kernel_rfl) (by kernel_rfl) (fun _ _ _ h => h) (Or.inl ⟨by kernel_rfl, fun x' hSx => by go_simp⟩) hHeld ?_
                try simp only [Act.put, List.setIfInBounds_toArray, List.set_cons_zero, List.set_cons_succ]
                refine hand_take 8 (some 139) (.pointer (some ⟨g, 0, none⟩)) rfl rfl (by kernel_rfl) (by kernel_rfl) (by kernel_rfl) (fun _ _ _ h => h) (Or.inl ⟨by kernel_rfl, fun x' hSx => by go_simp⟩) hHeld ?_
                try simp only [Act.put, List.setIfInBounds_toArray, List.set_cons_zero, List.set_cons_succ]
                refine hand_take 9 (some 140) (.pointer (some ⟨g, 0, none⟩)) rfl rfl (by kernel_rfl) (by kernel_rfl) (by kernel_rfl) (fun _ _ _ h => h) (Or.inl ⟨by kernel_rfl, fun x' hSx => by go_simp⟩) hHeld ?_
                try simp only [Act.put, List.setIfInBounds_toArray, List.set_cons_zero, List.set_cons_succ]
                refine hand_take 10 (some 141) (.pointer (some ⟨g, 173, none⟩)) rfl rfl (by kernel_rfl) (by kernel_rfl) (by kernel_rfl) (fun _ _ _ h => h) (Or.inl ⟨by kernel_rfl, fun x' hSx => by go_simp⟩) hHeld ?_
                try simp only [Act.put, List.setIfInBounds_toArray, List.set_cons_zero, List.set_cons_succ]
                refine hand_take 11 (some 142) (.int .u64 (h9i : Int)) rfl rfl (by kernel_rfl) (by kernel_rfl) (by kernel_rfl) (fun _ _ _ h => h) (Or.inl ⟨by kernel_rfl, fun x' hSx => by have h : World.cell? x' ⟨g, 173, none⟩ = some (.int .u64 (h9i : Int)) := hSx; go_simp⟩) hHeld ?_
                try simp only [Act.put, List.setIfInBounds_toArray, List.set_cons_zero, List.set_cons_succ]
                refine hand_take 13 (some 144) (.pointer (some ⟨g, 0, none⟩)) rfl rfl (by kernel_rfl) (by kernel_rfl) (by kernel_rfl) (fun _ _ _ h => h) (Or.inl ⟨by kernel_rfl, fun x' hSx => by go_simp⟩) hHeld ?_
                try simp only [Act.put, List.setIfInBounds_toArray, List.set_cons_zero, List.set_cons_succ]
                refine hand_take 14 (some 145) (.pointer (some ⟨g, 3, none⟩)) rfl rfl (by kernel_rfl) (by kernel_rfl) (by kernel_rfl) (fun _ _ _ h => h) (Or.inl ⟨by kernel_rfl, fun x' hSx => by go_simp⟩) hHeld ?_
                try simp only [Act.put, List.setIfInBounds_toArray, List.set_cons_zero, List.set_cons_succ]
                refine hand_one 7 (by kernel_rfl) ?_
                refine hand_run (some 138) rfl rfl rfl (.int .u64 (c9 : Int)) z2.drew ?hz ?_
                (case hz => go_simp)
                refine ⟨hic, ?_⟩
                try simp only [Act.put, List.setIfInBounds_toArray, List.set_cons_zero, List.set_cons_succ]
                refine hand_take 12 (some 143) (.int .u64 (M : Int)) rfl rfl (by kernel_rfl) (by kernel_rfl) (by kernel_rfl) (fun _ _ _ h => h) (Or.inl ⟨by kernel_rfl, fun x' hSx => by go_simp⟩) hHeld ?_
                try simp only [Act.put, List.setIfInBounds_toArray, List.set_cons_zero, List.set_cons_succ]
                refine hand_take 15 (some 146) (.pointer (some ⟨g, 3 + n, none⟩)) rfl rfl (by kernel_rfl) (by kernel_rfl) (by kernel_rfl) (fun _ _ _ h => h) (Or.inl ⟨by kernel_rfl, fun x' hSx => by go_simp⟩) hHeld ?_
                try simp only [Act.put, List.setIfInBounds_toArray, List.set_cons_zero, List.set_cons_succ]
                refine hand_one 16 (by kernel_rfl) ?_
                have q5 := H6.out.1.drew.cell (h' := hl.setCk n M) (3 + n) (.int .u64 (M : Int)) (fun cs a b c H => H.setCk hn M) rfl rfl rfl
                refine hand_skip15 rfl rfl rfl (z2.drew.setCell ⟨g, 3 + n, none⟩ (.int .u64 (M : Int))) ?hs ?_
                (case hs => go_simp)
                have hic2 := q5.1.hi
                rw [show (hl.setCk n M).hi = h9i from HC9.out.2.symm] at hic2
                refine ⟨hic2, ?_⟩
                try simp only [Act.put, List.setIfInBounds_toArray, List.set_cons_zero, List.set_cons_succ]
                refine wpAnyH_done (by kernel_rfl) ?_ _
                refine NoPanic.normal ?_
                have H7 : Hid (HB (z2.drew.setCell ⟨g, 3 + n, none⟩ (.int .u64 (M : Int))) B g F (hb.lockedUp n i p s) ∧ RowAt (z2.drew.setCell ⟨g, 3 + n, none⟩ (.int .u64 (M : Int))) gc 26 (chA C) ∧ Aft15 F F w (z2.drew.setCell ⟨g, 3 + n, none⟩ (.int .u64 (M : Int)))) := by
                  refine ⟨by rw [HM.out.2]; exact q5.1, H6.out.2.2.1.other ⟨g, 3 + n, none⟩ _ (fun e => H6.out.2.2.2.2 (by rw [show gc = g from e]; exact H6.out.1.mine)), (H6.out.2.2.2.1.later (below_drew (Below.refl _ _))).trans q5.2⟩
                have HLU : Hid ((hb.lockedUp n i p s).ck n = M ∧ (hb.lockedUp n i p s).lg = h.lg ∧ (hb.lockedUp n i p s).pg = h.pg ∧ (hb.lockedUp n i p s).past = h.past) := by
                  rw [HM.out.2]
                  exact ⟨upd_same _ _ _, HLL.out.2.2.1, HLL.out.2.2.2.1, HLL.out.2.2.2.2⟩
                clear q5 hic hic2 ckc frc hmx hHeld H6 HC9
                refine gen_w (fun z => HB z B g F (hb.lockedUp n i p s) ∧ RowAt z gc 26 (chA C) ∧ Aft15 F F w z) H7.out ?_
                clear H7
                intro z5 H70
                have H7 := hide H70
                clear H70
                have HTU := hide (fun (hcl : C.pg.toNat < 4) => hturn15 z5 B g n i o F (hb.lockedUp n i p s) (bare15 1 C 0) H7.out.1 hn hi HO.out ⟨rfl, rfl, rec_fits15c (ch_fits15 HCR.out.1) rfl rfl⟩ HCR.out.1 HCR.out.2 (by rw [HLU.out.1]; have := HM.out.1; omega) (by rw [HLU.out.2.2.1]; have := HW.out.pl _ hcl; exact Nat.le_trans this (by decide)) (by rw [HLU.out.2.1]; exact HW.out.lg n hn) (by rw [HLU.out.2.2.2]; exact HW.out.past _ hcl))
                have HTU2 := hide (HTU.out (by have := HCR.out; omega))
                clear HTU
                have hrl : rcF (bareM (bare15 1 C 0)) = #[.int .i64 1, .int .u64 0, .int .i64 0, .int .u64 0, .int .i64 C.k, .int .i64 C.pg, .int .i64 C.sl, .string C.o, .string C.n, .int .u64 0, .int .i64 0, .int .u64 0, .slice none 0 0, .slice none 0 0] := rfl
                rw [hrl] at HTU2
                clear hrl
                go_wp2_with (with_reducible refine stop_at 150 rfl ?_)
                refine unstop10 ?_
                refine wpList_load_at rfl 26 (.tmp 13) rfl gc rfl #[.int .i64 C.k, .int .i64 C.pg, .int .i64 C.sl, .string C.o, .string C.n] H7.out.2.1 _ Try.underlying26 rfl infoCh ?_
                go_wp2_with fail
                refine HTU2.out.mono ?_
                rintro e z6 ⟨F6, rfl, hb6, ha6⟩
                have HTD : Hid (h.change n i ac = (hb.turned n i p s ac).nextIs i ((hb.turned n i p s ac).tx i).last ∧ (hb.lockedUp n i p s).turn n i (bare15 1 C 0) = hb.turned n i p s ac) := by
                  have h9 : (hb.lockedUp n i p s).turn n i (bare15 1 C 0) = hb.turned n i p s ac := by
                    unfold Hs.turned
                    rw [HBF2.out.2]
                  refine ⟨?_, h9⟩
                  rw [HCH.out]
                  unfold Hs.change1
                  rw [HNB.out, if_neg (by decide), if_neg (fun hq => hq HBF2.out.1)]
                  rfl
                rw [HTD.out.2] at hb6
                obtain ⟨ht, hht⟩ : ∃ ht, ht = hb.turned n i p s ac := ⟨_, rfl⟩
                rw [← hht] at hb6 HTD
                have H8 : Hid (HB z6 B g F6 ht ∧ Aft15 F F6 w z6) := ⟨hb6, H7.out.2.2.trans ha6⟩
                obtain ⟨-, -, t2, t3⟩ := hb6.tu hi HO.out
                have f3 := hb6.free (o + 3)
                clear hht hb6 ha6 H7 HTU2
                obtain ⟨lst, hlst⟩ : ∃ c, c = (ht.tx i).last := ⟨_, rfl⟩
                rw [← hlst] at t2 HTD
                clear hlst
                go_wp2
                have q8 := H8.out.1.cell (h' := ht.nextIs i lst) (o + 3) (.int .u64 (lst : Int)) (fun cs a b c H => by rw [HO.out]; exact H.setTx hi _ 3 (by omega) _ rfl (fun k hk he => by
                  rcases (show k = 0 ∨ k = 1 ∨ k = 2 ∨ k = 3 by omega) with rfl | rfl | rfl | rfl
                  · rfl
                  · rfl
                  · rfl
                  · exact absurd rfl he)) rfl rfl rfl
                refine bodyPost_end (results_none rfl _ _ _) rfl ⟨F6, rfl, ?_, H8.out.2.trans q8.2⟩
                rw [HTD.out.1]
                exact q8.1
              · have hEa : (E != 0) = true := by simpa using hE
                have hEb : decide (E = 0) = false := by simpa using hE
                go_wp2
                refine bodyPost_ret (results_none rfl _ _ _) rfl ⟨F, rfl, ?_, H5.out.2.2.2.1⟩
                rw [HCH.out, show hb.change1 n i p s ac = hb by unfold Hs.change1; rw [HNB.out, if_neg (by decide), HBF2.out.1, if_pos hE]]
                exact H5.out.1
          · have e4a : (lnr != nr) = true := by simpa using e4
            have e4b : decide (lnr = nr) = false := by simpa using e4
            go_wp2_with fail
            go_quiet (fail)
            go_wp2
            refine bodyPost_ret (results_none rfl _ _ _) rfl ⟨F, rfl, ?_, HY.out.2.2.1.later (below_dn (Below.refl _ _) _)⟩
            rw [HCH.out, show hb.change1 n i p s ac = hb by unfold Hs.change1; rw [HBAR.out, if_pos (by rw [e1, e3]; simp [e2, e4])]]
            exact HY.out.1.later (below_dn (Below.refl _ _) _)
        · have e3a : (lnd != (n : Int)) = true := by simpa using e3
          have e3b : decide (lnd = (n : Int)) = false := by simpa using e3
          go_wp2_with fail
          go_quiet (fail)
          go_wp2
          refine bodyPost_ret (results_none rfl _ _ _) rfl ⟨F, rfl, ?_, HY.out.2.2.1.later (below_dn (Below.refl _ _) _)⟩
          rw [HCH.out, show hb.change1 n i p s ac = hb by unfold Hs.change1; rw [HBAR.out, if_pos (by rw [e1]; simp [e2, e3])]]
          exact HY.out.1.later (below_dn (Below.refl _ _) _)
    · have e1a : (st != 1) = true := by simpa using e1
      have e1b : decide (st = 1) = false := by simpa using e1
      go_wp2_with fail
      go_quiet (fail)
      go_wp2
      refine bodyPost_ret (results_none rfl _ _ _) rfl ⟨F, rfl, ?_, HY.out.2.2.1.later (below_dn (Below.refl _ _) _)⟩
      rw [HCH.out, show hb.change1 n i p s ac = hb by unfold Hs.change1; rw [HBAR.out, if_pos (by simp [e1])]]
      exact HY.out.1.later (below_dn (Below.refl _ _) _)
end Go.Proofs.Ytohdmmfmjadipaa

/-
  Acts of a history, in lists that come in, opened.
-/
namespace Go.Proofs.Ytohdmmfmjadipaa
open Go.ChangeShapes Go.WideShapes Go.ChangeAt Go.RowKit Go.Deep Go.Joins
set_option linter.unusedVariables false

section
variable {H : Type} {enc : TypeId × Value → H} {W : World}
set_option maxRecDepth 40000 in
theorem trod_st7 {P : Program} {t : TypeId} {f0 f1 f2 f3 f4 f5 f6 : Field} {fuel : Nat} {cs : List Value} {x : DataW H × List MemPlace} (ht : P.underlying t = some (.struct #[f0, f1, f2, f3, f4, f5, f6]))
    (h : DataW.trod enc P W 0 (fun _ => true) true fuel t cs = some x) : ∃ y0 y1 y2 y3 y4 y5 y6 n, cs.length = P.cellsOf t ∧ DataW.trod enc P W 0 (fun _ => true) true n f0.type ((cs.drop f0.offset).take (P.cellsOf f0.type)) = some y0 ∧ DataW.trod enc P W 0 (fun _ => true) true n f1.type ((cs.drop f1.offset).take (P.cellsOf f1.type)) = some y1 ∧ DataW.trod enc P W 0 (fun _ => true) true n f2.type ((cs.drop f2.offset).take (P.cellsOf f2.type)) = some y2 ∧ DataW.trod enc P W 0 (fun _ => true) true n f3.type ((cs.drop f3.offset).take (P.cellsOf f3.type)) = some y3 ∧ DataW.trod enc P W 0 (fun _ => true) true n f4.type ((cs.drop f4.offset).take (P.cellsOf f4.type)) = some y4 ∧ DataW.trod enc P W 0 (fun _ => true) true n f5.type ((cs.drop f5.offset).take (P.cellsOf f5.type)) = some y5 ∧ DataW.trod enc P W 0 (fun _ => true) true n f6.type ((cs.drop f6.offset).take (P.cellsOf f6.type)) = some y6 := by
  obtain ⟨xs, n, _, rfl, hl, hlen, hf⟩ := DataW.trod_struct ht h
  match xs, hlen with
  | [y0, y1, y2, y3, y4, y5, y6], _ => exact ⟨y0, y1, y2, y3, y4, y5, y6, n, hl, by simpa using hf 0 f0 rfl, by simpa using hf 1 f1 rfl, by simpa using hf 2 f2 rfl, by simpa using hf 3 f3 rfl, by simpa using hf 4 f4 rfl, by simpa using hf 5 f5 rfl, by simpa using hf 6 f6 rfl⟩
set_option maxRecDepth 40000 in
theorem elem_ac (n : Nat) (cs : List Value) (y : DataW H × List MemPlace) (h : DataW.trod enc Try.prog W 0 (fun _ => true) true n 95 cs = some y) : ∃ c : Ac, cs = (acA c).toList ∧ c.fits := by
  obtain ⟨y0, y1, y2, y3, y4, y5, y6, m, hl, h0, h1, h2, h3, h4, h5, h6⟩ := trod_st7 Try.underlying95 h
  have hC : Try.prog.cellsOf 95 = 7 := by kernel_rfl
  rw [hC] at hl
  match cs, hl with
  | [c0, c1, c2, c3, c4, c5, c6], _ =>
    have e0 : Try.prog.cellsOf 3 = 1 := by kernel_rfl
    have e1 : Try.prog.cellsOf 4 = 1 := by kernel_rfl
    have e2 : Try.prog.cellsOf 9 = 1 := by kernel_rfl
    simp only [e0, e1, e2, List.drop_zero, List.drop_succ_cons, List.take_succ_cons, List.take_zero] at h0 h1 h2 h3 h4 h5 h6
    obtain ⟨i0, g0, _, w0⟩ := DataW.trod_int Try.underlying3 h0
    obtain ⟨i1, g1, _, w1⟩ := DataW.trod_int Try.underlying3 h1
    obtain ⟨i2, g2, _, w2⟩ := DataW.trod_int Try.underlying3 h2
    obtain ⟨i3, g3, _, w3⟩ := DataW.trod_int Try.underlying3 h3
    obtain ⟨i4, g4, _, w4⟩ := DataW.trod_int Try.underlying3 h4
    obtain ⟨b5, g5, _⟩ := DataW.trod_bool Try.underlying4 h5
    obtain ⟨s6, g6, _, w6⟩ := DataW.trod_string Try.underlying9 h6
    simp only [List.cons.injEq, and_true] at g0 g1 g2 g3 g4 g5 g6
    subst g0 g1 g2 g3 g4 g5 g6
    exact ⟨⟨i0, i1, i2, i3, i4, b5, s6⟩, rfl, w0, w1, w2, w3, w4, Nat.le_trans w6 (by decide)⟩
set_option maxRecDepth 40000 in
theorem op_cap15 {t e : TypeId} {fuel : Nat} {a : Option Addr} {len cap : Nat} {x : DataW H × List MemPlace} (ht : Try.prog.underlying t = some (.slice e)) (h : DataW.trod enc Try.prog W 0 (fun _ => true) true fuel t [.slice a len cap] = some x) : ∀ a' l' c', Value.slice a len cap = .slice a' l' c' → l' ≤ c' := by
  intro a' l' c' e'
  injection e' with e1 e2 e3
  subst e1 e2 e3
  rcases open_slice ht h with ⟨hcs, _⟩ | ⟨a, l, c, m, n, D, Pl, hcs, _, hl, hm, _⟩
  · simp only [List.cons.injEq, and_true, Value.slice.injEq] at hcs
    omega
  · simp only [List.cons.injEq, and_true, Value.slice.injEq] at hcs
    omega
set_option maxRecDepth 40000 in
/-- What is played. -/
def AcsIn (w : World) (v : Value) (cs : List Ac) : Prop := RowsIn acA Ac.zero 7 w v cs ∧ cs.length ≤ maxLen ∧ (∀ c ∈ cs, c.fits) ∧ ∀ a len cap, v = .slice a len cap → len ≤ cap
set_option maxRecDepth 40000 in
theorem AcsIn.below {w x : World} {v : Value} {cs : List Ac} (h : AcsIn w v cs) (hb : Below w.heap.size w x) : AcsIn x v cs := ⟨h.1.below hb, h.2⟩
set_option maxRecDepth 40000 in
theorem op_acs {v : Value} {d : DataW H} {p : List MemPlace} {r : Reach} {b0 : Nat} (hv : Value.okWide Try.prog W r b0 51 v) (h : DataW.Trod enc Try.prog W 0 (fun _ => true) true 51 v d p) : ∃ cs : List Ac, AcsIn W v cs := by
  obtain ⟨fuel, hf⟩ := h
  obtain ⟨a, len, cap, rfl⟩ := okWide_slice Try.underlying51 hv
  have hf2 : DataW.trod enc Try.prog W 0 (fun _ => true) true fuel 51 [.slice a len cap] = some (d, p) := hf
  obtain ⟨cs, h1, h2, h3⟩ := op_rows (sz := 7) acA Ac.zero Ac.fits elem_ac Try.underlying51 (by kernel_rfl) (fun _ => rfl) (by decide) hf2
  exact ⟨cs, h1, h2, h3, op_cap15 Try.underlying51 hf2⟩
end
set_option maxRecDepth 40000 in
/-- One act as the code loads it. -/
theorem load_ac (y : World) (b k : Nat) (m : Ac) (h : y.rangeAt b k (acA m).toList) : (Instr.loadAt 95 (.pointer (some ⟨b, k, none⟩))).run Try.prog y = .ok (.agg (acA m)) y := by
  have h1 := run_loadAt_mid (P := Try.prog) y b k 95 (acA m).toList _ h Try.underlying95 rfl (by kernel_rfl)
  rwa [Array.toArray_toList] at h1
set_option maxRecDepth 40000 in
theorem AcsIn.mid {w : World} {a : Option Addr} {len c : Nat} {ms : List Ac} (h : AcsIn w (.slice a len c) ms) {i : Nat} (hi : i < ms.length) : ∃ b off, a = some ⟨b, off, none⟩ ∧ b < w.heap.size ∧ (ms.getD i Ac.zero).fits ∧ w.rangeAt b (off + i * 7) (acA (ms.getD i Ac.zero)).toList := by
  obtain ⟨a', cap, e, h2⟩ := h.1
  injection e with e1 e2 e3
  subst e1
  obtain ⟨b, off, h3, h4, h5⟩ := h2 (by omega)
  refine ⟨b, off, h3, h4, h.2.2.1 _ ?_, h5 i hi⟩
  rw [List.getD_eq_getElem?_getD, List.getElem?_eq_getElem hi]
  exact List.getElem_mem hi
end Go.Proofs.Ytohdmmfmjadipaa

/-
  A region that draws its order, with loads of structs taken first. Of no program.
-/
namespace Go.Proofs.Ytohdmmfmjadipaa
set_option linter.unusedVariables false

section
variable {P : Program} {ops : Array Oper} {S : World → Prop} {a : Act} {o : Oper}

theorem yields_load (hw : Region.wanted o (yielded ops a.tmps) = true) (t : TypeId) (x : Operand) (ho : o.op = .load t x) (u v : Value) (hu : a.eval x = u) (hv : ∀ y, S y → (Instr.loadAt t u).run P y = .ok v y) : YieldsIf P ops S o v a :=
  Or.inl ⟨hw, fun y hy => by unfold execOp; simp only [ho, hu, Sem.run_bind, hv y hy, Result.andThen_ok, Sem.run_pure]⟩
end
end Go.Proofs.Ytohdmmfmjadipaa

/-
  The contract of the document's Get: the first record of a number.
-/
namespace Go.Proofs.Ytohdmmfmjadipaa
open Go.RowKit
set_option linter.unusedVariables false

theorem find_lt {l : List Rec} {n j : Nat} (h : ∀ i, i < j → (l.getD i Rec.zero).l ≠ n) (hj : j < l.length) (he : (l.getD j Rec.zero).l = n) : getT l n = some (l.getD j Rec.zero) := by
  unfold getT
  rw [List.find?_eq_some_iff_getElem]
  refine ⟨by simpa using he, j, hj, ?_, fun i hi => ?_⟩
  · rw [List.getD_eq_getElem?_getD, List.getElem?_eq_getElem hj]
    rfl
  · have h1 := h i hi
    rw [List.getD_eq_getElem?_getD, List.getElem?_eq_getElem (by omega)] at h1
    simpa using h1
theorem find_all {l : List Rec} {n : Nat} (h : ∀ i, i < l.length → (l.getD i Rec.zero).l ≠ n) : getT l n = none := by
  refine getT_none fun r hr => ?_
  obtain ⟨i, hi, rfl⟩ := List.mem_iff_getElem.1 hr
  have := h i hi
  rwa [List.getD_eq_getElem?_getD, List.getElem?_eq_getElem hi] at this
/-- What a look for a number answers: a record with its lists, or none. -/
def GetAns15 (l : List Rec) (n : Nat) (w : World) (e : Ending) (w' : World) : Prop := ∃ (m : Rec × Value × Value) (q : Bool), e = .returned (.tuple #[.agg (rcF m), .bool q]) ∧ ((q = true ∧ getT l n = some m.1) ∨ (q = false ∧ getT l n = none ∧ m.1 = Rec.zero)) ∧ m.1.fits ∧ RcIn w' m.1 m.2.1 m.2.2 ∧ Below w.heap.size w w'
theorem zero_in15 (w : World) : RcIn w Rec.zero (.slice none 0 0) (.slice none 0 0) := ⟨⟨none, 0, rfl, fun h => absurd h (by simp [Rec.zero])⟩, ⟨none, 0, rfl, fun h => absurd h (by simp [Rec.zero])⟩⟩
theorem zero_fits15 : Rec.zero.fits := ⟨⟨by decide, by decide, by decide, by show (0 : Nat) ≤ maxLen; omega, by show (0 : Nat) ≤ maxLen; omega⟩, Nat.zero_le _, Nat.zero_le _, fun x hx => (nomatch hx), fun x hx => (nomatch hx)⟩
theorem rcZ_cells : rcF rcZ = zeroA := rfl

set_option maxRecDepth 8000 in
set_option maxHeartbeats 3200000 in
theorem rget15 (v : Value) (ms : List (Rec × Value × Value)) (n : Nat) (w : World) (h : LogIn w v ms) :
    Calls Try.prog 11 #[v, .int .u64 (n : Int)] w (GetAns15 (msR ms) n w) := by
  have hb0 : Below w.heap.size w (w.alloc (.cells zeroA 30)) := (Below.refl _ _).alloc (Nat.le_refl _) _
  obtain ⟨gR, hgR⟩ : ∃ g, g = w.heap.size := ⟨_, rfl⟩
  have H0 : Hid (RowAt (w.alloc (.cells zeroA 30)) gR 30 zeroA ∧ Below w.heap.size w (w.alloc (.cells zeroA 30))) := by
    rw [hgR]
    exact ⟨RowAt.new w _ _, hb0⟩
  clear hb0
  have HA := hide h
  obtain ⟨aa, ca, rfl, hlc⟩ := h.slice
  have hl := h.few
  clear h
  obtain ⟨ln, hln⟩ : ∃ ln, ln = ms.length := ⟨_, rfl⟩
  rw [← hln] at HA hl hlc ⊢
  have HN := hide hln
  clear hln
  have HGR := hide hgR
  go_enter Try.func11, Try.ntmps11
  go_wp2
  refine gen_wp (fun x => RowAt x gR 30 zeroA ∧ Below w.heap.size w x) H0.out ?_
  intro y HY
  have HYY := hide HY
  clear HY H0
  rw [← hgR]
  clear hgR
  go_loopw [9] (fun i wr => ∃ (j : Nat), j ≤ ln ∧ i = .int .i64 (j : Int) ∧ Hid (∀ k, k < j → ((msR ms).getD k Rec.zero).l ≠ n) ∧ Hid (RowAt wr gR 30 zeroA ∧ Below w.heap.size w wr)) (fun i _ => ln - (intOf i).toNat)
  case atStart => exact ⟨0, Nat.zero_le _, rfl, fun k hk => absurd hk (by omega), HYY.out⟩
  case round =>
    obtain ⟨j, hj, rfl, HNO, HBR⟩ := hrel
    by_cases hlt : j < ln
    · have hjm : j < ms.length := by rw [← HN.out]; exact hlt
      obtain ⟨b, off, rfl, hf, he, hx⟩ := HA.out.mid hjm
      obtain ⟨m, hm⟩ : ∃ m, m = ms.getD j rcZ := ⟨_, rfl⟩
      rw [← hm] at hf hx he
      clear hm
      have ij : (j : Int) < (ln : Int) := by omega
      obtain ⟨hr0, hin⟩ := hx wr HBR.out.2
      have c1 : wr.cell? ⟨b, off + j * 14 + 1, none⟩ = some (.int .u64 (m.1.l : Int)) := hr0 1 _ rfl
      have HLD := hide (load_mid wr b (off + j * 14) m hr0)
      have hall := all15 hin
      have HE := hide he
      have HF := hide (And.intro hf hx)
      clear hr0 hx hf he hin
      by_cases hn : m.1.l = n
      · have ibe : ((m.1.l : Int) == (n : Int)) = true := by rw [hn]; simp
        go_wp2_with (first | (refine wpList_load_val rfl 30 (.tmp 21) rfl _ _ rfl HLD.out ?_) | (refine wpList_store_at rfl 30 (.tmp 4) (.tmp 22) rfl gR zeroA (rcF m) rfl rfl HBR.out.1 infoRc rfl hall ?_; intro w2 hr2 hk2 hrow2; refine stop10 ?_))
        have hb2 := hk2 _ _ HBR.out.2 (by rw [HGR.out]; exact Nat.le_refl _)
        have H2 := hide (And.intro hr2 hb2)
        clear hr2 hk2 hrow2 hb2
        refine unstop10 ?_
        go_wp2
        refine bodyPost_ret (res_at rfl _ _ gR (rcF m) _ rfl H2.out.1 Try.underlying30 rfl infoRc) rfl ⟨m, true, rfl, .inl ⟨rfl, ?_⟩, HF.out.1, (HF.out.2 w2 H2.out.2).2, H2.out.2⟩
        rw [find_lt (j := j) HNO.out (by rw [msR_len]; exact hjm) (by rw [← HE.out]; exact hn), ← HE.out]
      · have ibe : ((m.1.l : Int) == (n : Int)) = false := by simp; omega
        go_wp2
        go_roundw
        case rel =>
          refine ⟨j + 1, by omega, by go_num, fun k hk => ?_, HBR⟩
          by_cases hkj : k < j
          · exact HNO.out k hkj
          · obtain rfl : k = j := by omega
            rw [← HE.out]
            exact hn
        case measure => simp [intOf]; omega
    · obtain rfl : j = ln := by omega
      go_wp2_with (refine wpList_store_at rfl 30 (.tmp 4) (.tmp 24) rfl gR zeroA zeroA rfl rfl HBR.out.1 infoRc rfl (by simp [zeroA, Value.oneCell']) ?_; intro w2 hr2 hk2 hrow2; refine stop10 ?_)
      have hb2 := hk2 _ _ HBR.out.2 (by rw [HGR.out]; exact Nat.le_refl _)
      have H2 := hide (And.intro hr2 hb2)
      clear hr2 hk2 hrow2 hb2
      refine unstop10 ?_
      go_wp2
      refine bodyPost_ret (res_at rfl _ _ gR zeroA _ rfl H2.out.1 Try.underlying30 rfl infoRc) rfl ⟨rcZ, false, rfl, .inr ⟨rfl, ?_, rfl⟩, zero_fits15, zero_in15 _, H2.out.2⟩
      refine find_all fun i hi => HNO.out i ?_
      rw [msR_len] at hi
      rw [HN.out]
      exact hi
end Go.Proofs.Ytohdmmfmjadipaa
