/-
  Texts that lean on one another, one behind the other: each opens with its own remark.
-/
import Derived.Deep.RegionHeld3
import Derived.Laws.AppendOwn
import Derived.Laws.OwnMore
import Derived.Test.YtbnlkfcaahgpmaaK08
import Derived.Test.YtbnlkfcaahgpmaaK09
import Derived.Test.YtbnlkfcaahgpmaaK00
import Derived.Test.YtbnlkfcaahgpmaaK01

/-
  A region that draws its order, walked by hand, operation by operation, each by its number and the slot that it writes. Of no program.
-/
namespace Go.Proofs.Ytbnlkfcaahgpmaa
open Go.RowKit
set_option linter.unusedVariables false

section
variable {P : Program} {md : Region.Mode} {ops : Array Oper} {Q : Exit → Act → World → Prop} {S : World → Prop} {fuel : Nat} {listed : Array Bool} {a : Act} {w : World} {o : Oper}

theorem hand_take (i : Nat) (d : Option Tmp) (v : Value) (hi : ops[i]? = some o) (hd : o.dst = d) (hs : Region.noSelect ops = true) (hf : Region.free md ops listed i = true) (hr : (Region.ready md ops listed).contains i = true)
    (hQ : ∀ c a w, Q (.panic c) (a.put d v) w → Q (.panic c) a w) (hy : YieldsIf P ops S o v a) (hS : S w)
    (h : wpAnyH P md ops Q S fuel (listed.setIfInBounds i true) (a.put d v) w) : wpAnyH P md ops Q S (fuel + 1) listed a w := by
  subst hd
  exact wpAnyH_take hi hs hf hr hQ hy hS h
/-- hand_take in few words. -/
theorem tkk {Q : Exit → Act → World → Prop} (i : Nat) (d : Option Tmp) (v : Value) (hi : ops[i]? = some o) (hd : o.dst = d) (hk : (Region.noSelect ops && Region.free md ops listed i && (Region.ready md ops listed).contains i) = true) (hw : Region.wanted o (yielded ops a.tmps) = true)
    (hy : ∀ x, S x → (execOp a.eval o).run P x = .ok (.value v) x) (hS : S w) (h : wpAnyH P md ops (NoPanic Q) S fuel (listed.setIfInBounds i true) (a.put d v) w) : wpAnyH P md ops (NoPanic Q) S (fuel + 1) listed a w := by
  simp only [Bool.and_eq_true] at hk
  exact hand_take i d v hi hd hk.1.1 hk.1.2 hk.2 (fun _ _ _ h => h) (Or.inl ⟨hw, hy⟩) hS h
theorem tkq {Q : Exit → Act → World → Prop} (i : Nat) (d : Option Tmp) (v : Value) (hS : S w) (h : wpAnyH P md ops (NoPanic Q) S fuel (listed.setIfInBounds i true) (a.put d v) w) (hi : ops[i]? = some o := by rfl) (hd : o.dst = d := by rfl) (hk : (Region.noSelect ops && Region.free md ops listed i && (Region.ready md ops listed).contains i) = true := by kernel_rfl) (hw : Region.wanted o (yielded ops a.tmps) = true := by kernel_rfl)
    (hy : ∀ x, S x → (execOp a.eval o).run P x = .ok (.value v) x := by intro x _; go_simp) : wpAnyH P md ops (NoPanic Q) S (fuel + 1) listed a w := tkk i d v hi hd hk hw hy hS h
theorem hand_one (i : Nat) (hr : Region.ready md ops listed = [i]) (h : wpOp P ops Q i (fun a' w' => S w' ∧ wpAnyH P md ops Q S fuel (listed.setIfInBounds i true) a' w') a w) : wpAnyH P md ops Q S (fuel + 1) listed a w :=
  wpAnyH_all hr (by simp) (fun k hk => by
    obtain rfl : k = i := by simpa using hk
    exact h)
theorem hand_two (i j : Nat) (hr : Region.ready md ops listed = [i, j]) (h : wpOp P ops Q i (fun a' w' => S w' ∧ wpAnyH P md ops Q S fuel (listed.setIfInBounds i true) a' w') a w) (h2 : wpOp P ops Q j (fun a' w' => S w' ∧ wpAnyH P md ops Q S fuel (listed.setIfInBounds j true) a' w') a w) : wpAnyH P md ops Q S (fuel + 1) listed a w :=
  wpAnyH_all hr (by simp) (fun k hk => by
    rcases List.mem_cons.1 hk with rfl | hk
    · exact h
    · obtain rfl : k = j := by simpa using hk
      exact h2)
variable {K : Act → World → Prop} {i : Nat}
theorem hand_call (d : Option Tmp) (ho : ops[i]? = some o) (hd : o.dst = d) (hg : o.guard = none) (f : FuncId) (args : Array Value) (he : (execOp a.eval o).run P w = .ok (.enter f args) w)
    (hc : Calls P f args w fun e w' => ∃ v, e = .returned v ∧ K (a.put d v) w') : wpOp P ops Q i K a w := by
  subst hd
  exact wpOp_step ho (fun K' hK => step_call10 hg f args he (hc.mono fun e w' ⟨v, h1, h2⟩ => ⟨v, h1, hK _ _ h2⟩))
/-- An operation by what it answers. -/
theorem hand_run (d : Option Tmp) (ho : ops[i]? = some o) (hd : o.dst = d) (hg : o.guard = none) (v : Value) (w' : World) (he : (execOp a.eval o).run P w = .ok (.value v) w') (h : K (a.put d v) w') : wpOp P ops Q i K a w := by
  subst hd
  refine wpOp_step ho (fun K' hK => ?_)
  have hw : Region.wanted o (yielded ops a.tmps) = true := by simp [Region.wanted, hg]
  rw [if_pos hw]
  unfold Oper.wp
  rw [he]
  exact hK _ _ h
/-- A call under a guard that wants it. -/
theorem hand_callw (d : Option Tmp) (ho : ops[i]? = some o) (hd : o.dst = d) (hw : Region.wanted o (yielded ops a.tmps) = true) (f : FuncId) (args : Array Value) (he : (execOp a.eval o).run P w = .ok (.enter f args) w)
    (hc : Calls P f args w fun e w' => ∃ v, e = .returned v ∧ K (a.put d v) w') : wpOp P ops Q i K a w := by
  subst hd
  refine wpOp_step ho (fun K' hK => ?_)
  rw [if_pos hw]
  unfold Oper.wp
  rw [he, Oper.upon_enter]
  refine hc.mono ?_
  rintro e w' ⟨v, rfl, h⟩
  exact hK _ _ h
theorem hand_runw (d : Option Tmp) (ho : ops[i]? = some o) (hd : o.dst = d) (hw : Region.wanted o (yielded ops a.tmps) = true) (v : Value) (w' : World) (he : (execOp a.eval o).run P w = .ok (.value v) w') (h : K (a.put d v) w') : wpOp P ops Q i K a w := by
  subst hd
  refine wpOp_step ho (fun K' hK => ?_)
  rw [if_pos hw]
  unfold Oper.wp
  rw [he]
  exact hK _ _ h
theorem hand_store (ho : ops[i]? = some o) (hd : o.dst = none) (hg : o.guard = none) (ty : TypeId) (x y : Operand) (hop : o.op = .store ty x y) (g off : Nat) (t : TypeId) (c0 cs : Array Value) (hx : a.eval x = .pointer (some ⟨g, off, none⟩)) (hy : a.eval y = .agg cs) (hr : RowAt w g t c0)
    (hi : (P.info? ty).map (·.size) = some cs.size) (hf : off + cs.size ≤ c0.size) (h1 : cs.all (·.oneCell') = true) (h : ∀ w2, RowAt w2 g t (partA c0 off cs.toList) → Only g w w2 → K a w2) : wpOp P ops Q i K a w := by
  refine wpOp_step ho (fun K' hK => ?_)
  refine step_store_part hg ty x y hop g off t c0 cs hx hy hr hi hf h1 (fun w2 h2 h3 => ?_)
  rw [hd]
  exact hK _ _ (h w2 h2 h3)
theorem exec_load (ty : TypeId) (x : Operand) (ho : o.op = .load ty x) (u : Value) (hu : a.eval x = u) (v : Value) (hv : (Instr.loadAt ty u).run P w = .ok v w) : (execOp a.eval o).run P w = .ok (.value v) w := by
  unfold execOp
  simp only [ho, hu, Sem.run_bind, hv, Result.andThen_ok, Sem.run_pure]
/-- A whole row stored anew. -/
theorem partA_all (c0 cs : Array Value) (h : c0.size = cs.size) : partA c0 0 cs.toList = cs := by
  unfold partA
  rw [List.take_zero, List.nil_append, Array.length_toList, Nat.zero_add, List.drop_of_length_le (by rw [Array.length_toList]; omega), List.append_nil, Array.toArray_toList]
end
end Go.Proofs.Ytbnlkfcaahgpmaa

/-
  What Clr answers, and loads of changes.
-/
namespace Go.Proofs.Ytbnlkfcaahgpmaa
open Go.RowKit
set_option linter.unusedVariables false

/-- A record's change, loaded out of a row. -/
theorem load_chg (y : World) (b k : Nat) (m : Rec × Value × Value) (h : y.rangeAt b k (rcF m).toList) : (Instr.loadAt 26 (.pointer (some ⟨b, k + 4, none⟩))).run Try.prog y = .ok (.agg (chA m.1.c)) y := by
  have h2 : y.rangeAt b (k + 4) (chA m.1.c).toList := fun j u hu => by
    have hj : j < 5 := (List.getElem?_eq_some_iff.1 hu).1
    have := h (4 + j) u (by
      have e : (rcF m).toList[4 + j]? = (chA m.1.c).toList[j]? := by
        rcases (show j = 0 ∨ j = 1 ∨ j = 2 ∨ j = 3 ∨ j = 4 by omega) with rfl | rfl | rfl | rfl | rfl <;> rfl
      rw [e]
      exact hu)
    rw [← Nat.add_assoc] at this
    exact this
  have h1 := run_loadAt_mid (P := Try.prog) y b (k + 4) 26 (chA m.1.c).toList _ h2 Try.underlying26 rfl (by rw [infoCh]; rfl)
  rwa [Array.toArray_toList] at h1
theorem load_ch15 (y : World) (g : Nat) (c : Ch) (h : RowAt y g 26 (chA c)) : (Instr.loadAt 26 (.pointer (some ⟨g, 0, none⟩))).run Try.prog y = .ok (.agg #[.int .i64 c.k, .int .i64 c.pg, .int .i64 c.sl, .string c.o, .string c.n]) y := by
  have h1 := run_loadAt_mid (P := Try.prog) y g 0 26 (chA c).toList _ (fun j u hu => by rw [Nat.zero_add]; exact h.cell j u (by simpa using hu)) Try.underlying26 rfl (by rw [infoCh]; rfl)
  rwa [Array.toArray_toList] at h1
/-- The record that takes a change back, with its (empty) lists. -/
def clrM (l : List Rec) (r : Rec) : Rec × Value × Value := (clrOf l r, .slice none 0 0, .slice none 0 0)
theorem clrM_in (l : List Rec) (r : Rec) (w : World) : RcIn w (clrM l r).1 (clrM l r).2.1 (clrM l r).2.2 := ⟨⟨none, 0, rfl, fun h => absurd h (by simp [clrM, clrOf])⟩, ⟨none, 0, rfl, fun h => absurd h (by simp [clrM, clrOf])⟩⟩
/-- What Clr answers of a log. -/
def clrA (l : List Rec) (n : Nat) : (Rec × Value × Value) × Int := match getT l n with
  | some r => if r.k = 1 then (clrM l r, 0) else (rcZ, 5)
  | none => (rcZ, 5)
theorem clrA_yes {l : List Rec} (hl : Rise 0 l) {r : Rec} (hr : r ∈ l) (hk : r.k = 1) : clrA l r.l = (clrM l r, 0) := by
  unfold clrA
  rw [getT_mem hl hr]
  simp only
  rw [if_pos hk]
theorem clrA_no {l : List Rec} (hl : Rise 0 l) {r : Rec} (hr : r ∈ l) (hk : ¬ r.k = 1) : clrA l r.l = (rcZ, 5) := by
  unfold clrA
  rw [getT_mem hl hr]
  simp only
  rw [if_neg hk]
theorem clrA_none {l : List Rec} {n : Nat} (h : ∀ r ∈ l, r.l ≠ n) : clrA l n = (rcZ, 5) := by
  unfold clrA
  rw [getT_none h]
end Go.Proofs.Ytbnlkfcaahgpmaa

/-
  The contract of txn.clr: the record that takes a change back.
-/
namespace Go.Proofs.Ytbnlkfcaahgpmaa
open Go.RowKit
set_option linter.unusedVariables false

set_option maxRecDepth 8000 in
set_option maxHeartbeats 3200000 in
theorem clr15 (v : Value) (ms : List (Rec × Value × Value)) (i : Nat) (w : World) (h : LogIn w v ms) (hr : Rise 0 (msR ms)) (hi : i < ms.length) :
    Calls Try.prog 32 #[v, .int .i64 (i : Int)] w fun e w' => e = .returned (.agg (rcF (clrM (msR ms) (ms.getD i rcZ).1))) ∧ Below w.heap.size w w' := by
  have hb0 : Below w.heap.size w (w.alloc (.cells zeroA 30)) := (Below.refl _ _).alloc (Nat.le_refl _) _
  obtain ⟨gR, hgR⟩ : ∃ g, g = w.heap.size := ⟨_, rfl⟩
  have H0 : Hid (RowAt (w.alloc (.cells zeroA 30)) gR 30 zeroA ∧ Below w.heap.size w (w.alloc (.cells zeroA 30))) := by
    rw [hgR]
    exact ⟨RowAt.new w _ _, hb0⟩
  clear hb0
  have HA := hide h
  obtain ⟨aa, ca, rfl, hlc⟩ := h.slice
  have hl := h.few
  obtain ⟨b, off, rfl, hf, _, hx⟩ := h.mid hi
  obtain ⟨ln, hln⟩ : ∃ ln, ln = ms.length := ⟨_, rfl⟩
  have HNX := hide (fun x k (hb : Below w.heap.size w x) => next15 _ ms k x (h.below hb) hr)
  clear h hr
  rw [← hln] at HA HNX hl hlc hi ⊢
  have HN := hide hln
  clear hln
  obtain ⟨m, hm⟩ : ∃ m, m = ms.getD i rcZ := ⟨_, rfl⟩
  rw [← hm] at hx ⊢
  clear hm hf
  have ij : (i : Int) < (ln : Int) := by omega
  have i0 : ¬ (i : Int) < 0 := by omega
  have HX := hide hx
  clear hx
  have HGR := hide hgR
  have HI := hide (fun w => inverse_any m.1.c w)
  go_enter Try.func32, Try.ntmps32
  go_wp2_with (refine wpList_load_val rfl 26 (.tmp 11) rfl _ (.agg (chA m.1.c)) rfl (load_chg _ b (off + i * 14) m (HX.out _ H0.out.2).1) ?_)
  rw [← hgR]
  refine gen_calls (fun x => RowAt x gR 30 zeroA ∧ Below w.heap.size w x) H0.out ?_
  intro y HY
  have HYY := hide HY
  clear HY H0 hgR
  refine (HI.out y).mono ?_
  rintro e w1 ⟨rfl, hb1⟩
  have H1 := hide (And.intro (HYY.out.1.later hb1) (HYY.out.2.trans (hb1.mono HYY.out.2.size)))
  clear hb1 HYY HI
  obtain ⟨c, hc⟩ : ∃ c, c = invC m.1.c := ⟨_, rfl⟩
  rw [← hc]
  have HC := hide hc
  clear hc
  have hb2 : Below w1.heap.size w1 (w1.alloc (.cells (chA Ch.zero) 26)) := (Below.refl _ _).alloc (Nat.le_refl _) _
  obtain ⟨gC, hgC⟩ : ∃ g, g = w1.heap.size := ⟨_, rfl⟩
  have HZ : Hid (RowAt (w1.alloc (.cells (chA Ch.zero) 26)) gC 26 (chA Ch.zero) ∧ RowAt (w1.alloc (.cells (chA Ch.zero) 26)) gR 30 zeroA ∧ Below w.heap.size w (w1.alloc (.cells (chA Ch.zero) 26)) ∧ w.heap.size ≤ gC) := by
    rw [hgC]
    exact ⟨RowAt.new w1 _ _, H1.out.1.later hb2, H1.out.2.trans (hb2.mono H1.out.2.size), H1.out.2.size⟩
  have HGC := hide hgC
  clear hb2 hgC
  go_wp2_with (refine wpList_store_at rfl 26 (.tmp 5) (.tmp 14) rfl gC (chA Ch.zero) (chA c) ?h1 rfl HZ.out.1 infoCh rfl (chA_one _) ?_; (case h1 => rw [HGC.out]; rfl); intro w2 hr2 hk2 hrow2; refine stop10 ?_)
  have hb2 := hk2 _ _ HZ.out.2.2.1 HZ.out.2.2.2
  have H2 : Hid (RowAt w2 gC 26 (chA c) ∧ RowAt w2 gR 30 zeroA ∧ Below w.heap.size w w2 ∧ gR ≠ gC) := by
    have hne : gR ≠ gC := fun e => by
      have h1 := HZ.out.1
      rw [← e] at h1
      exact absurd (row_kind h1 HZ.out.2.1) (by decide)
    exact ⟨hr2, hrow2 gR _ _ hne HZ.out.2.1, hb2, hne⟩
  clear hr2 hk2 hrow2 hb2 HZ H1
  refine unstop10 ?_
  go_wp2_with fail
  rw [← HGC.out]
  have HD : Hid (RowAt w2.drew gC 26 (chA c) ∧ RowAt w2.drew gR 30 zeroA ∧ Below w.heap.size w w2.drew) := hide ⟨H2.out.1, H2.out.2.1, below_dn H2.out.2.2.1 1⟩
  have HGO := hide H2.out.2.2.2
  clear H2
  refine wp_region_noPanic ?_
  refine wp_region_held_drew (S := fun z => RowAt z gC 26 (chA c) ∧ z.rangeAt b (off + i * 14) (rcF m).toList) (by kernel_rfl) (⟨HD.out.1, (HX.out _ HD.out.2.2).1⟩) (fun hHeld => ?_)
  refine hand_take 0 (some 16) (.slice (some ⟨b, off, none⟩) ln ca) rfl rfl (by kernel_rfl) (by kernel_rfl) (by kernel_rfl) (fun _ _ _ h => h) (Or.inl ⟨by kernel_rfl, fun x hSx => by go_simp⟩) hHeld ?_
  try simp only [Act.put, List.setIfInBounds_toArray, List.set_cons_zero, List.set_cons_succ]
  refine hand_take 1 (some 17) (.int .i64 (i : Int)) rfl rfl (by kernel_rfl) (by kernel_rfl) (by kernel_rfl) (fun _ _ _ h => h) (Or.inl ⟨by kernel_rfl, fun x hSx => by go_simp⟩) hHeld ?_
  try simp only [Act.put, List.setIfInBounds_toArray, List.set_cons_zero, List.set_cons_succ]
  refine hand_take 2 (some 18) (.pointer (some ⟨b, off + i * 14, none⟩)) rfl rfl (by kernel_rfl) (by kernel_rfl) (by kernel_rfl) (fun _ _ _ h => h) (Or.inl ⟨by kernel_rfl, fun x hSx => by go_simp⟩) hHeld ?_
  try simp only [Act.put, List.setIfInBounds_toArray, List.set_cons_zero, List.set_cons_succ]
  refine hand_take 3 (some 19) (.pointer (some ⟨b, off + i * 14 + 2, none⟩)) rfl rfl (by kernel_rfl) (by kernel_rfl) (by kernel_rfl) (fun _ _ _ h => h) (Or.inl ⟨by kernel_rfl, fun x hSx => by go_simp⟩) hHeld ?_
  try simp only [Act.put, List.setIfInBounds_toArray, List.set_cons_zero, List.set_cons_succ]
  refine hand_take 4 (some 20) (.int .i64 m.1.t) rfl rfl (by kernel_rfl) (by kernel_rfl) (by kernel_rfl) (fun _ _ _ h => h) (Or.inl ⟨by kernel_rfl, fun x hSx => by have h := (rec_cells hSx.2).2.1; go_simp⟩) hHeld ?_
  try simp only [Act.put, List.setIfInBounds_toArray, List.set_cons_zero, List.set_cons_succ]
  refine hand_take 5 (some 21) (.agg #[.int .i64 c.k, .int .i64 c.pg, .int .i64 c.sl, .string c.o, .string c.n]) rfl rfl (by kernel_rfl) (by kernel_rfl) (by kernel_rfl) (fun _ _ _ h => h) (yieldsIf_load_run (by kernel_rfl) 26 _ rfl (.pointer (some ⟨gC, 0, none⟩)) rfl _ (fun x hSx => load_ch15 x gC c hSx.1)) hHeld ?_
  try simp only [Act.put, List.setIfInBounds_toArray, List.set_cons_zero, List.set_cons_succ]
  refine hand_take 6 (some 22) (.slice (some ⟨b, off, none⟩) ln ca) rfl rfl (by kernel_rfl) (by kernel_rfl) (by kernel_rfl) (fun _ _ _ h => h) (Or.inl ⟨by kernel_rfl, fun x hSx => by go_simp⟩) hHeld ?_
  try simp only [Act.put, List.setIfInBounds_toArray, List.set_cons_zero, List.set_cons_succ]
  refine hand_take 7 (some 23) (.slice (some ⟨b, off, none⟩) ln ca) rfl rfl (by kernel_rfl) (by kernel_rfl) (by kernel_rfl) (fun _ _ _ h => h) (Or.inl ⟨by kernel_rfl, fun x hSx => by go_simp⟩) hHeld ?_
  try simp only [Act.put, List.setIfInBounds_toArray, List.set_cons_zero, List.set_cons_succ]
  refine hand_take 8 (some 24) (.int .i64 (i : Int)) rfl rfl (by kernel_rfl) (by kernel_rfl) (by kernel_rfl) (fun _ _ _ h => h) (Or.inl ⟨by kernel_rfl, fun x hSx => by go_simp⟩) hHeld ?_
  try simp only [Act.put, List.setIfInBounds_toArray, List.set_cons_zero, List.set_cons_succ]
  refine hand_take 9 (some 25) (.pointer (some ⟨b, off + i * 14, none⟩)) rfl rfl (by kernel_rfl) (by kernel_rfl) (by kernel_rfl) (fun _ _ _ h => h) (Or.inl ⟨by kernel_rfl, fun x hSx => by go_simp⟩) hHeld ?_
  try simp only [Act.put, List.setIfInBounds_toArray, List.set_cons_zero, List.set_cons_succ]
  refine hand_take 10 (some 26) (.pointer (some ⟨b, off + i * 14 + 3, none⟩)) rfl rfl (by kernel_rfl) (by kernel_rfl) (by kernel_rfl) (fun _ _ _ h => h) (Or.inl ⟨by kernel_rfl, fun x hSx => by go_simp⟩) hHeld ?_
  try simp only [Act.put, List.setIfInBounds_toArray, List.set_cons_zero, List.set_cons_succ]
  refine hand_take 11 (some 27) (.int .u64 (m.1.p : Int)) rfl rfl (by kernel_rfl) (by kernel_rfl) (by kernel_rfl) (fun _ _ _ h => h) (Or.inl ⟨by kernel_rfl, fun x hSx => by have h := (rec_cells hSx.2).2.2.1; go_simp⟩) hHeld ?_
  try simp only [Act.put, List.setIfInBounds_toArray, List.set_cons_zero, List.set_cons_succ]
  refine hand_one 12 (by kernel_rfl) ?_
  refine hand_call (some 28) rfl rfl rfl 30 #[.slice (some ⟨b, off, none⟩) ln ca, .int .u64 (m.1.p : Int)] ?he ((HNX.out _ m.1.p HD.out.2.2).mono ?_)
  (case he => go_simp)
  rintro e w3 ⟨rfl, hb3⟩
  have H3 : Hid (RowAt w3 gC 26 (chA c) ∧ RowAt w3 gR 30 zeroA ∧ Below w.heap.size w w3) := hide ⟨HD.out.1.later hb3, HD.out.2.1.later hb3, HD.out.2.2.trans (hb3.mono HD.out.2.2.size)⟩
  obtain ⟨q, hq⟩ : ∃ q, q = nextT (msR ms) m.1.p := ⟨_, rfl⟩
  rw [← hq]
  have HQ := hide hq
  clear hb3 hq
  refine ⟨_, rfl, ⟨H3.out.1, (HX.out _ H3.out.2.2).1⟩, ?_⟩
  try simp only [Act.put, List.setIfInBounds_toArray, List.set_cons_zero, List.set_cons_succ]
  have hHeld := (show RowAt w3 gC 26 (chA c) ∧ w3.rangeAt b (off + i * 14) (rcF m).toList from ⟨H3.out.1, (HX.out _ H3.out.2.2).1⟩)
  refine hand_take 13 (some 29) (.agg #[.int .i64 2, .int .u64 0, .int .i64 m.1.t, .int .u64 0, .int .i64 c.k, .int .i64 c.pg, .int .i64 c.sl, .string c.o, .string c.n, .int .u64 (q : Int), .int .i64 0, .int .u64 0, .slice none 0 0, .slice none 0 0]) rfl rfl (by kernel_rfl) (by kernel_rfl) (by kernel_rfl) (fun _ _ _ h => h) (Or.inl ⟨by kernel_rfl, fun x hSx => by go_simp⟩) hHeld ?_
  try simp only [Act.put, List.setIfInBounds_toArray, List.set_cons_zero, List.set_cons_succ]
  refine hand_one 14 (by kernel_rfl) ?_
  refine hand_store rfl rfl rfl 30 (.tmp 4) (.tmp 29) rfl gR 0 30 zeroA #[.int .i64 2, .int .u64 0, .int .i64 m.1.t, .int .u64 0, .int .i64 c.k, .int .i64 c.pg, .int .i64 c.sl, .string c.o, .string c.n, .int .u64 (q : Int), .int .i64 0, .int .u64 0, .slice none 0 0, .slice none 0 0] ?hp rfl H3.out.2.1 infoRc (by simp [zeroA]) (by simp [Value.oneCell']) ?_
  (case hp => rw [HGR.out]; rfl)
  intro w4 hr4 ho4
  have hpa := partA_all zeroA #[.int .i64 2, .int .u64 0, .int .i64 m.1.t, .int .u64 0, .int .i64 c.k, .int .i64 c.pg, .int .i64 c.sl, .string c.o, .string c.n, .int .u64 (q : Int), .int .i64 0, .int .u64 0, .slice none 0 0, .slice none 0 0] rfl
  rw [hpa] at hr4
  have H4 : Hid (RowAt w4 gR 30 #[.int .i64 2, .int .u64 0, .int .i64 m.1.t, .int .u64 0, .int .i64 c.k, .int .i64 c.pg, .int .i64 c.sl, .string c.o, .string c.n, .int .u64 (q : Int), .int .i64 0, .int .u64 0, .slice none 0 0, .slice none 0 0] ∧ Below w.heap.size w w4) := hide ⟨hr4, ho4.below H3.out.2.2 (by rw [HGR.out]; exact Nat.le_refl _)⟩
  refine ⟨⟨ho4.row H3.out.1 (fun e => HGO.out e.symm), (HX.out _ H4.out.2).1⟩, ?_⟩
  clear hr4 ho4
  try simp only [Act.put, List.setIfInBounds_toArray, List.set_cons_zero, List.set_cons_succ]
  refine wpAnyH_done (by kernel_rfl) ?_ _
  refine NoPanic.normal ?_
  go_wp2
  refine bodyPost_ret (res_one rfl _ _ gR _ _ ?hp H4.out.1 Try.underlying30 rfl infoRc) rfl ⟨?_, H4.out.2⟩
  (case hp => rw [HGR.out]; rfl)
  rw [HQ.out, HC.out]
  rfl
end Go.Proofs.Ytbnlkfcaahgpmaa

/-
  The contracts of txn.Next and txn.Clr.
-/
namespace Go.Proofs.Ytbnlkfcaahgpmaa
open Go.RowKit
set_option linter.unusedVariables false

set_option maxRecDepth 8000 in
set_option maxHeartbeats 3200000 in
theorem Next15 (v : Value) (ms : List (Rec × Value × Value)) (n : Nat) (w : World) (h : LogIn w v ms) :
    Calls Try.prog 17 #[v, .int .u64 (n : Int)] w fun e w' => ((Rise 0 (msR ms) ∧ e = .returned (.tuple #[.int .u64 (nextT (msR ms) n : Int), .int .i64 0])) ∨ (¬ Rise 0 (msR ms) ∧ e = .returned (.tuple #[.int .u64 0, .int .i64 2]))) ∧ Below w.heap.size w w' := by
  have HG := hide (good15 v ms w h)
  have HA := hide h
  by_cases hr : Rise 0 (msR ms)
  · rw [(riseB_iff _ _).2 hr] at HG
    have HR := hide hr
    clear h hr
    go_enter Try.func17, Try.ntmps17
    go_wp2_with fail
    refine HG.out.mono ?_
    rintro e w1 ⟨rfl, hb1⟩
    have HN := hide (next15 v ms n w1 (HA.out.below hb1) HR.out)
    have HB := hide hb1
    clear hb1 HG
    go_wp2_with fail
    refine HN.out.mono ?_
    rintro e w2 ⟨rfl, hb2⟩
    have HB2 := hide (HB.out.trans (hb2.mono HB.out.size))
    clear hb2 HN HB
    go_wp2
    go_ret2
    exact ⟨.inl ⟨HR.out, rfl⟩, HB2.out⟩
  · rw [riseB_no hr] at HG
    have HR := hide hr
    clear h hr
    go_enter Try.func17, Try.ntmps17
    go_wp2_with fail
    refine HG.out.mono ?_
    rintro e w1 ⟨rfl, hb1⟩
    have HB := hide hb1
    clear hb1 HG
    go_wp2
    go_ret2
    exact ⟨.inr ⟨HR.out, rfl⟩, HB.out⟩

set_option maxRecDepth 8000 in
set_option maxHeartbeats 3200000 in
theorem Clr15 (v : Value) (ms : List (Rec × Value × Value)) (n : Nat) (w : World) (h : LogIn w v ms) :
    Calls Try.prog 18 #[v, .int .u64 (n : Int)] w fun e w' => ((Rise 0 (msR ms) ∧ e = .returned (.tuple #[.agg (rcF (clrA (msR ms) n).1), .int .i64 (clrA (msR ms) n).2])) ∨ (¬ Rise 0 (msR ms) ∧ e = .returned (.tuple #[.agg (rcF rcZ), .int .i64 2]))) ∧ Below w.heap.size w w' := by
  have hb0 : Below w.heap.size w (w.alloc (.cells zeroA 30)) := (Below.refl _ _).alloc (Nat.le_refl _) _
  obtain ⟨gR, hgR⟩ : ∃ g, g = w.heap.size := ⟨_, rfl⟩
  have H0 : Hid (RowAt (w.alloc (.cells zeroA 30)) gR 30 zeroA ∧ Below w.heap.size w (w.alloc (.cells zeroA 30))) := by
    rw [hgR]
    exact ⟨RowAt.new w _ _, hb0⟩
  clear hb0
  have HG := hide (fun x (hx : Below w.heap.size w x) => good15 v ms x (h.below hx))
  have HA := hide h
  obtain ⟨aa, ca, rfl, hlc⟩ := h.slice
  have hl := h.few
  have HGR := hide hgR
  have hall0 : zeroA.all (·.oneCell') = true := by simp [zeroA, Value.oneCell']
  clear h
  by_cases hr : Rise 0 (msR ms)
  · rw [(riseB_iff _ _).2 hr] at HG
    have HR := hide hr
    have HF := hide (fun x (hx : Below w.heap.size w x) => find15 _ ms n x (HA.out.below hx) hr)
    have HC := hide (fun i x (hx : Below w.heap.size w x) (hi : i < ms.length) => clr15 _ ms i x (HA.out.below hx) hr hi)
    clear hr
    obtain ⟨ln, hln⟩ : ∃ ln, ln = ms.length := ⟨_, rfl⟩
    rw [← hln] at HA HF HC HG hl hlc ⊢
    have HN := hide hln
    clear hln
    go_enter Try.func18, Try.ntmps18
    go_wp2_with fail
    rw [← hgR]
    refine gen_calls (fun x => RowAt x gR 30 zeroA ∧ Below w.heap.size w x) H0.out ?_
    intro y HY
    have HYY := hide HY
    clear HY H0 hgR
    refine (HG.out y HYY.out.2).mono ?_
    rintro e w1 ⟨rfl, hb1⟩
    have H1 := hide (And.intro (HYY.out.1.later hb1) (HYY.out.2.trans (hb1.mono HYY.out.2.size)))
    clear hb1 HYY HG
    go_wp2_with fail
    refine (HF.out w1 H1.out.2).mono ?_
    rintro e w2 ⟨i, q, rfl, hcase, hb2⟩
    have H2 := hide (And.intro (H1.out.1.later hb2) (H1.out.2.trans (hb2.mono H1.out.2.size)))
    clear hb2 H1 HF
    rcases hcase with ⟨rfl, hi, he⟩ | ⟨rfl, hno⟩
    · obtain ⟨b, off, rfl, hf, _, hx⟩ := HA.out.mid hi
      have hmem := msR_mem hi
      have ij : (i : Int) < (ln : Int) := by have := HN.out; omega
      have HCC := hide (fun x (hx : Below w.heap.size w x) => HC.out i x hx (by have := HN.out; omega))
      clear HC
      obtain ⟨m, hm⟩ : ∃ m, m = ms.getD i rcZ := ⟨_, rfl⟩
      rw [← hm] at hx hmem he HCC
      clear hm hf
      obtain ⟨c0, -⟩ := rec_cells (hx w2 H2.out.2).1
      clear hx hi
      by_cases hk : m.1.k = 1
      · have HE := hide (show clrA (msR ms) n = (clrM (msR ms) m.1, 0) by rw [← he]; exact clrA_yes HR.out hmem hk)
        have hall : (rcF (clrM (msR ms) m.1)).all (·.oneCell') = true := all15 (clrM_in _ _ w)
        clear hmem he
        go_wp2_with fail
        refine (HCC.out w2 H2.out.2).mono ?_
        rintro e w3 ⟨rfl, hb3⟩
        have H3 := hide (And.intro (H2.out.1.later hb3) (H2.out.2.trans (hb3.mono H2.out.2.size)))
        clear hb3 H2 HCC
        go_wp2_with (refine wpList_store_at rfl 30 (.tmp 4) (.tmp 31) rfl gR zeroA (rcF (clrM (msR ms) m.1)) rfl rfl H3.out.1 infoRc rfl hall ?_; intro w4 hr4 hk4 hrow4; refine stop10 ?_)
        have hb4 := hk4 _ _ H3.out.2 (by rw [HGR.out]; exact Nat.le_refl _)
        have H4 := hide (And.intro hr4 hb4)
        clear hr4 hk4 hrow4 hb4 H3
        refine unstop10 ?_
        go_wp2
        refine bodyPost_ret (res_at rfl _ _ gR _ _ rfl H4.out.1 Try.underlying30 rfl infoRc) rfl ⟨.inl ⟨HR.out, ?_⟩, H4.out.2⟩
        rw [HE.out]
        rfl
      · have HE := hide (show clrA (msR ms) n = (rcZ, 5) by rw [← he]; exact clrA_no HR.out hmem hk)
        have hk' : (m.1.k == 1) = false := by simpa using hk
        clear hmem he
        go_wp2_with (refine wpList_store_at rfl 30 (.tmp 4) (.tmp 28) rfl gR zeroA zeroA rfl rfl H2.out.1 infoRc rfl hall0 ?_; intro w4 hr4 hk4 hrow4; refine stop10 ?_)
        have hb4 := hk4 _ _ H2.out.2 (by rw [HGR.out]; exact Nat.le_refl _)
        have H4 := hide (And.intro hr4 hb4)
        clear hr4 hk4 hrow4 hb4 H2
        refine unstop10 ?_
        go_wp2
        refine bodyPost_ret (res_at rfl _ _ gR _ _ rfl H4.out.1 Try.underlying30 rfl infoRc) rfl ⟨.inl ⟨HR.out, ?_⟩, H4.out.2⟩
        rw [HE.out]
        rfl
    · have HE := hide (clrA_none hno)
      go_wp2_with (refine wpList_store_at rfl 30 (.tmp 4) (.tmp 28) rfl gR zeroA zeroA rfl rfl H2.out.1 infoRc rfl hall0 ?_; intro w4 hr4 hk4 hrow4; refine stop10 ?_)
      have hb4 := hk4 _ _ H2.out.2 (by rw [HGR.out]; exact Nat.le_refl _)
      have H4 := hide (And.intro hr4 hb4)
      clear hr4 hk4 hrow4 hb4 H2
      refine unstop10 ?_
      go_wp2
      refine bodyPost_ret (res_at rfl _ _ gR _ _ rfl H4.out.1 Try.underlying30 rfl infoRc) rfl ⟨.inl ⟨HR.out, ?_⟩, H4.out.2⟩
      rw [HE.out]
      rfl
  · rw [riseB_no hr] at HG
    have HR := hide hr
    clear hr
    obtain ⟨ln, hln⟩ : ∃ ln, ln = ms.length := ⟨_, rfl⟩
    rw [← hln] at HA HG hl hlc ⊢
    clear hln
    go_enter Try.func18, Try.ntmps18
    go_wp2_with fail
    rw [← hgR]
    refine gen_calls (fun x => RowAt x gR 30 zeroA ∧ Below w.heap.size w x) H0.out ?_
    intro y HY
    have HYY := hide HY
    clear HY H0 hgR
    refine (HG.out y HYY.out.2).mono ?_
    rintro e w1 ⟨rfl, hb1⟩
    have H1 := hide (And.intro (HYY.out.1.later hb1) (HYY.out.2.trans (hb1.mono HYY.out.2.size)))
    clear hb1 HYY HG
    go_wp2_with (refine wpList_store_at rfl 30 (.tmp 4) (.tmp 11) rfl gR zeroA zeroA rfl rfl H1.out.1 infoRc rfl hall0 ?_; intro w4 hr4 hk4 hrow4; refine stop10 ?_)
    have hb4 := hk4 _ _ H1.out.2 (by rw [HGR.out]; exact Nat.le_refl _)
    have H4 := hide (And.intro hr4 hb4)
    clear hr4 hk4 hrow4 hb4 H1
    refine unstop10 ?_
    go_wp2
    refine bodyPost_ret (res_at rfl _ _ gR _ _ rfl H4.out.1 Try.underlying30 rfl infoRc) rfl ⟨.inr ⟨HR.out, rfl⟩, H4.out.2⟩
end Go.Proofs.Ytbnlkfcaahgpmaa

/-
  Rows of one's own: behind calls, stores elsewhere, appends; their shape. Of no program.
-/
namespace Go.Proofs.Ytbnlkfcaahgpmaa
open Go.RowKit
set_option linter.unusedVariables false

theorem ow_later {x y : World} {B n : Nat} {e : TypeId} {sz : Nat} {v : Value} {xs : List Value} (h : x.ownsRow B e sz v n xs) (hb : Below x.heap.size x y) : y.ownsRow B e sz v n xs := by
  obtain ⟨h1, h2⟩ := h
  refine ⟨h1, h2.imp id ?_⟩
  rintro ⟨g, cap, cur, a, b, c, d⟩
  exact ⟨g, cap, cur, a, b, RowAt.later (show RowAt x g e cur from c) hb, d⟩
theorem ow_below {w0 x y : World} {B C n : Nat} {e : TypeId} {sz : Nat} {v : Value} {xs : List Value} (h : x.ownsRow C e sz v n xs) (hC : B ≤ C) (hb : Below B w0 x) (hB : B ≤ x.heap.size) (hg : x.grownBy y v.ownBlock) : Below B w0 y := by
  have key : ∀ k, some k = v.ownBlock → B ≤ k := by
    intro k hk
    rcases h.2 with ⟨rfl, _⟩ | ⟨g, cap, cur, rfl, hB, _⟩
    · cases hk
    · injection hk with hk
      rw [hk]
      exact Nat.le_trans hC hB
  refine ⟨hg.os.trans hb.1, hg.tape.trans hb.2, hg.output.trans hb.3, Nat.le_trans hb.4 hg.size, fun k hk => ?_⟩
  exact (hg.block k (by omega) (fun e => by have := key k e; omega)).trans (hb.5 k hk)
theorem ow_turn {F : Nat → Prop} {x y : World} {B n : Nat} {e : TypeId} {sz : Nat} {v : Value} {xs : List Value} (h : x.ownsRow B e sz v n xs) (q : Tn F x y) (hF : ∀ k, F k → k < B) : y.ownsRow B e sz v n xs := by
  obtain ⟨h1, h2⟩ := h
  refine ⟨h1, h2.imp id ?_⟩
  rintro ⟨g, cap, cur, a, b, c, d⟩
  exact ⟨g, cap, cur, a, b, q.row (show RowAt x g e cur from c) (fun hf => by have := hF g hf; omega), d⟩
theorem ow_shape {w : World} {B n : Nat} {e : TypeId} {sz : Nat} {v : Value} {xs : List Value} (h : w.ownsRow B e sz v n xs) : ∃ a c, v = .slice a n c ∧ n ≤ c ∧ (0 < n → ∃ b, a = some ⟨b, 0, none⟩ ∧ B ≤ b) := by
  rcases h.2 with ⟨rfl, h0⟩ | ⟨g, cap, cur, rfl, hB, _, h1, _⟩
  · exact ⟨none, 0, by rw [h0], by omega, fun h => absurd h (by omega)⟩
  · exact ⟨_, _, rfl, h1, fun _ => ⟨g, rfl, hB⟩⟩
end Go.Proofs.Ytbnlkfcaahgpmaa

/-
  A list of records of one's own that grows: records whose own lists are empty.
-/
namespace Go.Proofs.Ytbnlkfcaahgpmaa
open Go.RowKit
set_option linter.unusedVariables false

/-- A record without lists of its own. -/
def bareM (r : Rec) : Rec × Value × Value := (r, .slice none 0 0, .slice none 0 0)
def Rec.bare (r : Rec) : Prop := r.ts = [] ∧ r.ds = [] ∧ r.fits
def bareMs (l : List Rec) : List (Rec × Value × Value) := l.map bareM
theorem bareMs_len (l : List Rec) : (bareMs l).length = l.length := by simp [bareMs]
theorem bareMs_R (l : List Rec) : msR (bareMs l) = l := by
  unfold msR bareMs
  rw [List.map_map]
  exact List.map_id l
theorem bareMs_snoc (l : List Rec) (r : Rec) : bareMs (l ++ [r]) = bareMs l ++ [bareM r] := by simp [bareMs]
theorem flatR_snoc15 (ms : List (Rec × Value × Value)) (m : Rec × Value × Value) : flatR (ms ++ [m]) = flatR ms ++ (rcF m).toList := by
  unfold flatR
  rw [List.flatMap_append]
  simp
theorem bareM_in {r : Rec} (h : r.bare) (w : World) : RcIn w r (.slice none 0 0) (.slice none 0 0) :=
  ⟨⟨none, 0, by rw [h.1]; rfl, fun h0 => absurd h0 (by rw [h.1]; simp)⟩, ⟨none, 0, by rw [h.2.1]; rfl, fun h0 => absurd h0 (by rw [h.2.1]; simp)⟩⟩
/-- The list, of one's own since some block. -/
def OwnL (w : World) (base : Nat) (v : Value) (l : List Rec) : Prop := w.ownsRow base 30 14 v l.length (flatR (bareMs l)) ∧ ∀ r ∈ l, r.bare
theorem OwnL.nil (w : World) (base : Nat) : OwnL w base (.slice none 0 0) [] := ⟨World.ownsRow_nil _ _ _ _, fun r h => (nomatch h)⟩
theorem OwnL.later {x y : World} {base : Nat} {v : Value} {l : List Rec} (h : OwnL x base v l) (hb : Below x.heap.size x y) : OwnL y base v l := ⟨ow_later h.1 hb, h.2⟩
theorem OwnL.turn {F : Nat → Prop} {x y : World} {base : Nat} {v : Value} {l : List Rec} (h : OwnL x base v l) (q : Tn F x y) (hF : ∀ k, F k → k < base) : OwnL y base v l := ⟨ow_turn h.1 q hF, h.2⟩
theorem OwnL.rs {w : World} {base : Nat} {v : Value} {l : List Rec} (h : OwnL w base v l) : RsIn w v (bareMs l) := by
  have h1 := h.1
  rw [← bareMs_len l] at h1
  refine ⟨own_rows rcF rcZ 14 (fun _ => rfl) h1, fun m hm => ?_⟩
  obtain ⟨r, hr, rfl⟩ := List.mem_map.1 hm
  exact ⟨(h.2 r hr).2.2, bareM_in (h.2 r hr) w⟩
theorem OwnL.log {w : World} {base : Nat} {v : Value} {l : List Rec} (h : OwnL w base v l) (hf : l.length ≤ 1000) : LogIn w v (bareMs l) := by
  refine ⟨h.rs, by rw [bareMs_len]; exact hf, fun a len c e => ?_⟩
  obtain ⟨a', c', e', h2, _⟩ := ow_shape h.1
  rw [e'] at e
  injection e with e1 e2 e3
  omega
/-- append(s, x) of one struct, s the call's own. -/
theorem wpList_append_one (w : World) {ops : Array Oper} {rest : List Oper} {o : Oper} {a : Act} {Q : Exit → Act → World → Prop} (tS tE : TypeId) (size bytes : Nat) (z : Value) (hu : Try.prog.underlying tS = some (.slice tE)) (hI : (Try.prog.info? tE).map (fun i => (i.zero, i.size, i.bytes)) = some (some z, size, bytes)) (hzs : z.cells.size = size) (hpos : 0 < size) (hby : bytes ≤ 1000)
    (hg : o.guard = none) (s x : Operand) (hop : o.op = Op.call { callee := Callee.builtin Builtin.append, args := #[s, x], argTypes := #[tS, tS] })
    (base : Nat) (v : Value) (n : Nat) (xs : List Value) (hs : a.eval s = v) (hown : w.ownsRow base tE size v n xs)
    (b : Nat) (cs : Array Value) (hx : a.eval x = .slice (some ⟨b, 0, none⟩) 1 1) (hB : RowAt w b tE cs) (hcs : cs.size = size) (hone : cs.all (·.oneCell') = true) (hz : n ≤ 1000) (hbase : base ≤ w.heap.size)
    (hK : ∀ v' w', w'.ownsRow base tE size v' (n + 1) (xs ++ cs.toList) → w.grownBy w' v.ownBlock → wpList Try.prog ops Q rest (a.put o.dst v') w') :
    wpList Try.prog ops Q (o :: rest) a w := by
  obtain ⟨i, hi0, hi1⟩ := Option.map_eq_some_iff.1 hI
  simp only [Prod.mk.injEq] at hi1
  refine wpList_append_own w hg s x tS hop base tE i z size bytes hu hi0 hi1.1 hi1.2.1 hi1.2.2 hzs hpos v n xs hs hown ⟨b, 0, none⟩ 1 1 cs.toList hx (by rw [Array.length_toList, hcs, Nat.one_mul]) ?_ ?_ (by unfold maxLen; omega) ?_ hbase (fun v' w' h1 h2 _ => hK v' w' h1 h2)
  · intro j u hu
    rw [Array.getElem?_toList] at hu
    rw [Addr.add_lit, Nat.zero_add]
    exact hB.cell j u hu
  · intro u hu
    rw [Array.all_eq_true'] at hone
    exact hone u (by simpa using hu)
  · have := Nat.mul_le_mul (show n + 1 ≤ 1001 by omega) hby
    omega
/-- One more record. -/
theorem OwnL.push {w' : World} {base : Nat} {v' : Value} {l : List Rec} {r : Rec} (h : w'.ownsRow base 30 14 v' (l.length + 1) (flatR (bareMs l) ++ (rcF (bareM r)).toList)) (hl : ∀ q ∈ l, q.bare) (hr : r.bare) : OwnL w' base v' (l ++ [r]) := by
  refine ⟨?_, fun q hq => ?_⟩
  · rw [List.length_append, List.length_singleton, bareMs_snoc, flatR_snoc15]
    exact h
  · rcases List.mem_append.1 hq with hq | hq
    · exact hl q hq
    · rw [List.mem_singleton.1 hq]
      exact hr
theorem wf_txn15 {t : Int} (h1 : 0 ≤ t) (h2 : t ≤ 1048575) : (Lit.int .i64 t).wf = true := by
  have m1 : IntKind.i64.min = -9223372036854775808 := by decide
  have m2 : IntKind.i64.max = 9223372036854775807 := by decide
  simp only [Lit.wf, m1, m2, Bool.and_eq_true, decide_eq_true_eq]
  omega
theorem ch_fits15 {c : Ch} (h : c.right) : c.fits := by
  obtain ⟨h1, h2⟩ := h
  refine ⟨wf_txn15 ?_ ?_, wf_txn15 (by omega) (by omega), wf_txn15 (by omega) (by omega), by unfold maxLen; omega, by unfold maxLen; omega⟩
  · rcases h2 with h | h | h <;> omega
  · rcases h2 with h | h | h <;> omega
theorem clr_bare {l : List Rec} {r : Rec} (hr : r.right) (hk : r.k = 1) : (clrOf l r).bare := by
  refine ⟨rfl, rfl, ⟨?_, Nat.zero_le _, Nat.zero_le _, fun x hx => (nomatch hx), fun x hx => (nomatch hx)⟩⟩
  exact ch_fits15 (inv_right r.c (hr.ch (by omega))).1
end Go.Proofs.Ytbnlkfcaahgpmaa

/-
  The contracts of Last: the program's, from the end, and the document's.
-/
namespace Go.Proofs.Ytbnlkfcaahgpmaa
open Go.RowKit
set_option linter.unusedVariables false

theorem last_cells {x : World} {b o : Nat} {m : Rec × Value × Value} (h : x.rangeAt b o (rcF m).toList) : x.cell? ⟨b, o + 1, none⟩ = some (.int .u64 (m.1.l : Int)) ∧ x.cell? ⟨b, o + 2, none⟩ = some (.int .i64 m.1.t) := ⟨h 1 _ rfl, h 2 _ rfl⟩
theorem lastT_back (l : List Rec) (t : Int) : ∀ (m : List Rec), (∀ r ∈ m, r.t ≠ t) → lastT (l ++ m) t = lastT l t := by
  intro m
  induction m using snoc_ind with
  | h0 => intro _; rw [List.append_nil]
  | h1 m s ih =>
    intro h
    rw [← List.append_assoc, lastT_snoc, if_neg (fun x => h s (by simp) x.2)]
    exact ih (fun r hr => h r (List.mem_append.2 (.inl hr)))
set_option maxRecDepth 8000 in
set_option maxHeartbeats 3200000 in
theorem last15 (v : Value) (ms : List (Rec × Value × Value)) (t : Int) (w : World) (h : LogIn w v ms) :
    Calls Try.prog 13 #[v, .int .i64 t] w fun e w' => e = .returned (.int .u64 (lastT (msR ms) t : Int)) ∧ Below w.heap.size w w' := by
  by_cases ht : t < 1
  · rw [lastT_none _ _ (fun r hr x => by omega)]
    go_enter Try.func13, Try.ntmps13
    go_wp2
    go_ret
    exact ⟨rfl, Below.refl _ _⟩
  · have HA := hide h
    obtain ⟨aa, ca, rfl, hlc⟩ := h.slice
    have hl := h.few
    clear h
    obtain ⟨ln, hln⟩ : ∃ ln, ln = ms.length := ⟨_, rfl⟩
    rw [← hln] at HA hl hlc ⊢
    have HN := hide hln
    clear hln
    obtain ⟨q, hq⟩ : ∃ q, q = lastT (msR ms) t := ⟨_, rfl⟩
    have HQ := hide hq
    rw [← hq]
    clear hq
    go_enter Try.func13, Try.ntmps13
    go_wp2
    go_loopw [5] (fun i wr => ∃ (j : Nat), j ≤ ln ∧ i = .int .i64 ((j : Int) - 1) ∧ Hid (q = lastT ((msR ms).take j) t) ∧ Hid (Below w.heap.size w wr)) (fun i _ => (intOf i + 1).toNat)
    case atStart => exact ⟨ln, Nat.le_refl _, rfl, by show q = _; rw [HQ.out, HN.out, ← msR_len, List.take_length], Below.refl _ _⟩
    case round =>
      obtain ⟨j, hj, rfl, HTK, HBR⟩ := hrel
      cases j with
      | zero =>
        have i0 : ¬ (0 : Int) ≤ ((0 : Nat) : Int) - 1 := by omega
        go_wp2
        go_ret
        refine ⟨?_, HBR.out⟩
        have h1 := HTK.out
        rw [List.take_zero] at h1
        rw [h1]
        rfl
      | succ j =>
        have hjm : j < ms.length := by rw [← HN.out]; omega
        have HS := hide (msR_take_succ hjm)
        obtain ⟨b, off, rfl, hf, _, hx⟩ := HA.out.mid hjm
        obtain ⟨m, hm⟩ : ∃ m, m = ms.getD j rcZ := ⟨_, rfl⟩
        rw [← hm] at hf hx HS
        clear hm
        obtain ⟨c1, c2⟩ := last_cells (hx wr HBR.out).1
        clear hf hx
        have e0 : (((j + 1 : Nat) : Int) - 1) = (j : Int) := by omega
        rw [e0]
        have ij : (j : Int) < (ln : Int) := by omega
        have i1 : (0 : Int) ≤ (j : Int) := by omega
        by_cases hm : m.1.t = t
        · go_wp2
          go_ret
          refine ⟨?_, HBR.out⟩
          have h1 := HTK.out
          rw [HS.out, lastT_snoc, if_pos ⟨by omega, hm⟩] at h1
          rw [h1]
          rfl
        · go_wp2
          go_roundw
          case rel =>
            refine ⟨j, by omega, rfl, ?_, HBR⟩
            have h1 := HTK.out
            rw [HS.out, lastT_snoc, if_neg (fun x => hm x.2)] at h1
            exact h1
          case measure => simp [intOf]
set_option maxRecDepth 8000 in
set_option maxHeartbeats 3200000 in
theorem rlast15 (v : Value) (ms : List (Rec × Value × Value)) (t : Int) (w : World) (h : LogIn w v ms) :
    Calls Try.prog 14 #[v, .int .i64 t] w fun e w' => e = .returned (.int .u64 (lastT (msR ms) t : Int)) ∧ Below w.heap.size w w' := by
  have HA := hide h
  obtain ⟨aa, ca, rfl, hlc⟩ := h.slice
  have hl := h.few
  clear h
  obtain ⟨ln, hln⟩ : ∃ ln, ln = ms.length := ⟨_, rfl⟩
  rw [← hln] at HA hl hlc ⊢
  have HN := hide hln
  clear hln
  go_enter Try.func14, Try.ntmps14
  go_wp2
  go_loopw [5, 9] (fun v i wr => ∃ (j ll : Nat), j ≤ ln ∧ i = .int .i64 (j : Int) ∧ v = .int .u64 (ll : Int) ∧ Hid (ll = lastT ((msR ms).take j) t) ∧ Hid (Below w.heap.size w wr)) (fun _ i _ => ln - (intOf i).toNat)
  case atStart => exact ⟨0, 0, Nat.zero_le _, rfl, rfl, by rw [List.take_zero]; rfl, Below.refl _ _⟩
  case round =>
    obtain ⟨j, ll, hj, rfl, rfl, HLL, HBR⟩ := hrel
    by_cases hlt : j < ln
    · have hjm : j < ms.length := by rw [← HN.out]; exact hlt
      have HS := hide (msR_take_succ hjm)
      obtain ⟨b, off, rfl, hf, _, hx⟩ := HA.out.mid hjm
      obtain ⟨m, hm⟩ : ∃ m, m = ms.getD j rcZ := ⟨_, rfl⟩
      rw [← hm] at hf hx HS
      clear hm
      have ij : (j : Int) < (ln : Int) := by omega
      obtain ⟨c1, c2⟩ := last_cells (hx wr HBR.out).1
      clear hf hx
      by_cases ht : 1 ≤ t
      · by_cases hm : m.1.t = t
        · go_wp2
          go_roundw
          case rel =>
            refine ⟨j + 1, m.1.l, by omega, by go_num, rfl, ?_, HBR⟩
            rw [HS.out, lastT_snoc, if_pos ⟨ht, hm⟩]
            exact rfl
          case measure => simp [intOf]; omega
        · go_wp2
          go_roundw
          case rel =>
            refine ⟨j + 1, ll, by omega, by go_num, rfl, ?_, HBR⟩
            rw [HS.out, lastT_snoc, if_neg (fun x => hm x.2)]
            exact HLL.out
          case measure => simp [intOf]; omega
      · go_wp2
        go_roundw
        case rel =>
          refine ⟨j + 1, ll, by omega, by go_num, rfl, ?_, HBR⟩
          rw [HS.out, lastT_snoc, if_neg (fun x => ht x.1)]
          exact HLL.out
        case measure => simp [intOf]; omega
    · obtain rfl : j = ln := by omega
      go_wp2
      go_ret
      refine ⟨?_, HBR.out⟩
      have h1 := HLL.out
      rw [HN.out, ← msR_len, List.take_length] at h1
      rw [h1]
      rfl
end Go.Proofs.Ytbnlkfcaahgpmaa

/-
  The contract of txn.Plan: all records that take a transaction back.
-/
namespace Go.Proofs.Ytbnlkfcaahgpmaa
open Go.RowKit
set_option linter.unusedVariables false

/-- Its cells, letter by letter. -/
def clrCells (t : Int) (c : Ch) (q : Nat) : Array Value := #[.int .i64 2, .int .u64 0, .int .i64 t, .int .u64 0, .int .i64 c.k, .int .i64 c.pg, .int .i64 c.sl, .string c.o, .string c.n, .int .u64 (q : Int), .int .i64 0, .int .u64 0, .slice none 0 0, .slice none 0 0]
theorem clr_cells (l : List Rec) (r : Rec) : rcF (bareM (clrOf l r)) = clrCells r.t (invC r.c) (nextT l r.p) := rfl
/-- A plan that is being made: what there is, and what is still to come. -/
structure Pl (w wr : World) (l : List Rec) (all : List Rec) (u : Nat) (v : Value) (j : Nat) (ps : List Rec) : Prop where
  all : all = ps ++ planL l j u
  next : nextT l j = j
  own : OwnL wr w.heap.size v ps
  bel : Below w.heap.size w wr
theorem own_lt15 {w : World} {B n sz k : Nat} {e : TypeId} {v : Value} {xs : List Value} (h : w.ownsRow B e sz v n xs) (hk : v.ownBlock = some k) : k < w.heap.size := by
  rcases h.2 with ⟨rfl, _⟩ | ⟨g, cap, cur, rfl, _, h1, _⟩
  · cases hk
  · injection hk with hk
    subst hk
    exact (show RowAt w g e cur from h1).lt
theorem plan_few {l : List Rec} (hl : Rise 0 l) (u : Nat) : ∀ (f n : Nat), n ≤ f → nextT l n = n → (planL l n u).length ≤ l.length := by
  intro f
  induction l using snoc_ind generalizing f with
  | h0 => intro n _ _; rw [planL_nil]; exact Nat.zero_le _
  | h1 l s ih =>
    intro n hn h
    obtain ⟨h1, h2, h3⟩ := rise_last15 hl
    rw [planL_snoc, List.length_append, List.length_singleton]
    by_cases e : s.l = n
    · rw [if_pos e]
      by_cases hu : u < n ∧ s.k = 1
      · rw [if_pos hu, List.length_cons]
        have := ih h1 (nextT l s.p) _ (Nat.le_refl _) (nextT_again h1 s.p)
        omega
      · rw [if_neg hu]
        exact Nat.zero_le _
    · rw [if_neg e]
      rw [nextT_snoc, if_neg e] at h
      have := ih h1 f n hn h
      omega
set_option maxRecDepth 8000 in
set_option maxHeartbeats 3200000 in
theorem Plan15 (v : Value) (ms : List (Rec × Value × Value)) (t : Int) (u : Nat) (w : World) (h : LogIn w v ms) :
    Calls Try.prog 21 #[v, .int .i64 t, .int .u64 (u : Int)] w fun e w' => ((Rise 0 (msR ms) ∧ ∃ vp, e = .returned (.tuple #[vp, .int .i64 0]) ∧ OwnL w' w.heap.size vp (planT (msR ms) t u)) ∨ (¬ Rise 0 (msR ms) ∧ e = .returned (.tuple #[.slice none 0 0, .int .i64 2]))) ∧ Below w.heap.size w w' := by
  have HG := hide (good15 v ms w h)
  have HA := hide h
  obtain ⟨aa, ca, rfl, hlc⟩ := h.slice
  have hl := h.few
  clear h
  by_cases hr : Rise 0 (msR ms)
  · rw [(riseB_iff _ _).2 hr] at HG
    have HR := hide hr
    have HF := hide (fun n x (hx : Below w.heap.size w x) => find15 _ ms n x (HA.out.below hx) hr)
    have HC := hide (fun i x (hx : Below w.heap.size w x) (hi : i < ms.length) => clr15 _ ms i x (HA.out.below hx) hr hi)
    have HL := hide (fun x (hx : Below w.heap.size w x) => last15 _ ms t x (HA.out.below hx))
    have HX := hide (fun n x (hx : Below w.heap.size w x) => next15 _ ms n x (HA.out.below hx) hr)
    clear hr
    have HLL := hide hl
    obtain ⟨ln, hln⟩ : ∃ ln, ln = ms.length := ⟨_, rfl⟩
    rw [← hln] at HA HF HC HG HL HX hl hlc ⊢
    have HN := hide hln
    clear hln
    obtain ⟨all, hall⟩ : ∃ all, all = planT (msR ms) t u := ⟨_, rfl⟩
    rw [← hall]
    have HALL := hide hall
    clear hall
    go_enter Try.func21, Try.ntmps21
    go_wp2_with fail
    refine HG.out.mono ?_
    rintro e w1 ⟨rfl, hb1⟩
    have H1 := hide hb1
    clear hb1 HG
    go_wp2_with fail
    refine (HL.out w1 H1.out).mono ?_
    rintro e w2 ⟨rfl, hb2⟩
    have H2 := hide (H1.out.trans (hb2.mono H1.out.size))
    clear hb2 H1 HL
    go_wp2_with fail
    refine (HX.out _ w2 H2.out).mono ?_
    rintro e w3 ⟨rfl, hb3⟩
    have H3 := hide (H2.out.trans (hb3.mono H2.out.size))
    clear hb3 H2 HX
    have H0 : Hid (Pl w w3 (msR ms) all u (.slice none 0 0) (nextT (msR ms) (lastT (msR ms) t)) []) := ⟨by rw [HALL.out]; rfl, nextT_again HR.out _, OwnL.nil _ _, H3.out⟩
    have HAL : Hid (all.length ≤ 1000) := by
      have h1 := plan_few HR.out u _ (nextT (msR ms) (lastT (msR ms) t)) (Nat.le_refl _) (nextT_again HR.out _)
      rw [msR_len] at h1
      have h2 := HLL.out
      show all.length ≤ 1000
      rw [HALL.out]
      unfold planT
      omega
    generalize nextT (msR ms) (lastT (msR ms) t) = n0 at *
    clear H3 HLL
    go_wp2
    go_loopw [8, 9] (fun p n wr => ∃ (j : Nat) (ps : List Rec) (vp : Value), vp = p ∧ n = .int .u64 (j : Int) ∧ Hid (Pl w wr (msR ms) all u vp j ps)) (fun _ n _ => (intOf n).toNat)
    case atStart => exact ⟨n0, [], _, rfl, rfl, H0.out⟩
    case round =>
      obtain ⟨j, ps, vp, rfl, rfl, HP⟩ := hrel
      clear H0
      by_cases hlt : u < j
      · have iu : (u : Int) < (j : Int) := by omega
        rcases planL_next HR.out j u HP.out.next with ⟨h1, _⟩ | ⟨r, hr1, hr2, hr3, _, hr4⟩
        · omega
        · have HE := hide hr4
          have HRM := hide hr1
          have HRR := hide (rise_right _ 0 HR.out r hr1)
          have hless := clr_less HR.out hr1
          rw [hr2] at hless
          have HK := hide hr3
          have HRJ := hide hr2
          clear hr4 hr1 hr2 hr3
          go_wp2_with fail
          refine (HF.out j wr HP.out.bel).mono ?_
          rintro e w4 ⟨i, q, rfl, hcase, hb4⟩
          have H4 := hide (And.intro (HP.out.own.later hb4) (HP.out.bel.trans (hb4.mono HP.out.bel.size)))
          clear hb4
          rcases hcase with ⟨rfl, hi, he⟩ | ⟨rfl, hno⟩
          · have ij : (i : Int) < (ln : Int) := by have := HN.out; omega
            have hir : (ms.getD i rcZ).1 = r := by
              have h1 := msR_mem hi
              have h2 := getT_mem HR.out h1
              have h3 := getT_mem HR.out HRM.out
              rw [he] at h2
              rw [HRJ.out] at h3
              rw [h2] at h3
              injection h3
            have HCC := hide (HC.out i w4 H4.out.2 (by have := HN.out; omega))
            rw [hir] at HCC
            clear he hi hir
            go_wp2_with fail
            refine HCC.out.mono ?_
            rintro e w5 ⟨rfl, hb5⟩
            have hb6 : Below w5.heap.size w5 (w5.alloc (.cells zeroA 30)) := (Below.refl _ _).alloc (Nat.le_refl _) _
            have H5 : Hid (OwnL w5 w.heap.size vp ps ∧ Below w.heap.size w w5 ∧ RowAt (w5.alloc (.cells zeroA 30)) w5.heap.size 30 zeroA ∧ Below w5.heap.size w5 (w5.alloc (.cells zeroA 30))) := by
              have a1 := H4.out.2.trans (hb5.mono H4.out.2.size)
              exact ⟨H4.out.1.later hb5, a1, RowAt.new w5 _ _, hb6⟩
            clear hb5 hb6 H4 HCC
            have HB : Hid (rcF (clrM (msR ms) r) = clrCells r.t (invC r.c) (nextT (msR ms) r.p) ∧ (clrOf (msR ms) r).n = nextT (msR ms) r.p ∧ (clrOf (msR ms) r).bare) := ⟨rfl, rfl, clr_bare HRR.out HK.out⟩
            rw [HB.out.1]
            have hlq : nextT (msR ms) r.p < j := by rw [← HB.out.2.1]; exact hless
            generalize nextT (msR ms) r.p = q at *
            generalize invC r.c = c at *
            generalize r.t = tt at *
            have hps : ps.length ≤ 1000 := by
              have h1 := HAL.out
              rw [HP.out.all, List.length_append] at h1
              omega
            go_wp2_with (refine wpList_store_at rfl 30 (.tmp 12) (.tmp 32) rfl w5.heap.size zeroA (clrCells tt c q) rfl rfl H5.out.2.2.1 infoRc rfl (by simp [clrCells, Value.oneCell']) ?_; intro w6 hr6 hk6 hrow6; refine stop10 ?_)
            have hb6 := hk6 _ _ H5.out.2.2.2 (Nat.le_refl _)
            obtain ⟨g5, hg5⟩ : ∃ g, g = w5.heap.size := ⟨_, rfl⟩
            have H6 : Hid (OwnL w6 w.heap.size vp ps ∧ Below w.heap.size w w6 ∧ RowAt w6 g5 30 (clrCells tt c q) ∧ ∀ k, vp.ownBlock = some k → k ≠ g5) := by
              rw [hg5]
              exact ⟨H5.out.1.later hb6, H5.out.2.1.trans (hb6.mono H5.out.2.1.size), hr6, fun k hk => by have := own_lt15 H5.out.1.1 hk; omega⟩
            rw [← hg5]
            clear hr6 hk6 hrow6 hb6 H5 hg5
            refine unstop10 ?_
            go_wp2_with (first | (refine wpList_load_at rfl 30 (.tmp 12) rfl g5 rfl #[.int .i64 2, .int .u64 0, .int .i64 tt, .int .u64 0, .int .i64 c.k, .int .i64 c.pg, .int .i64 c.sl, .string c.o, .string c.n, .int .u64 (q : Int), .int .i64 0, .int .u64 0, .slice none 0 0, .slice none 0 0] H6.out.2.2.1 _ Try.underlying30 rfl infoRc ?_) | (refine wpList_append_one _ 22 30 14 160 (.agg zeroA) Try.underlying22 infoRc3 rfl (by decide) (by decide) rfl (.tmp 33) (.tmp 35) rfl w.heap.size vp ps.length (flatR (bareMs ps)) rfl (ow_later H6.out.1.1 ((Below.refl w6.heap.size w6).alloc (Nat.le_refl _) _)) w6.heap.size #[.int .i64 2, .int .u64 0, .int .i64 tt, .int .u64 0, .int .i64 c.k, .int .i64 c.pg, .int .i64 c.sl, .string c.o, .string c.n, .int .u64 (q : Int), .int .i64 0, .int .u64 0, .slice none 0 0, .slice none 0 0] rfl (RowAt.new w6 30 #[.int .i64 2, .int .u64 0, .int .i64 tt, .int .u64 0, .int .i64 c.k, .int .i64 c.pg, .int .i64 c.sl, .string c.o, .string c.n, .int .u64 (q : Int), .int .i64 0, .int .u64 0, .slice none 0 0, .slice none 0 0]) rfl (by simp [Value.oneCell']) hps (Nat.le_trans H6.out.2.1.size (by simp)) ?_; intro v' w7 ho7 hg7; refine stop10 ?_))
            have hba : Below w6.heap.size w6 (w6.alloc (.cells #[.int .i64 2, .int .u64 0, .int .i64 tt, .int .u64 0, .int .i64 c.k, .int .i64 c.pg, .int .i64 c.sl, .string c.o, .string c.n, .int .u64 (q : Int), .int .i64 0, .int .u64 0, .slice none 0 0, .slice none 0 0] 30)) := (Below.refl _ _).alloc (Nat.le_refl _) _
            have H7 : Hid (OwnL w7 w.heap.size v' (ps ++ [clrOf (msR ms) r]) ∧ Below w.heap.size w w7 ∧ RowAt w7 g5 30 (clrCells tt c q)) := by
              refine ⟨OwnL.push ?_ H6.out.1.2 HB.out.2.2, ?_, ?_⟩
              · show w7.ownsRow _ _ _ _ _ (_ ++ (rcF (clrM (msR ms) r)).toList)
                rw [HB.out.1]
                exact ho7
              · exact ow_below (ow_later H6.out.1.1 hba) (Nat.le_refl _) (H6.out.2.1.trans (hba.mono H6.out.2.1.size)) (Nat.le_trans H6.out.2.1.size hba.size) hg7
              · have h1 := H6.out.2.2.1.later hba
                exact (hg7.block g5 h1.lt (fun e => H6.out.2.2.2 g5 e.symm rfl)).trans h1
            clear ho7 hg7 hba H6
            refine unstop10 ?_
            have c9 := H7.out.2.2.cell 9 (.int .u64 (q : Int)) rfl
            go_wp2
            go_roundw
            case rel =>
              refine ⟨q, ps ++ [clrOf (msR ms) r], v', rfl, rfl, ⟨?_, ?_, H7.out.1, H7.out.2.1⟩⟩
              · rw [HP.out.all, HE.out, HB.out.2.1, List.append_assoc]
                rfl
              · rw [← HB.out.2.1]
                exact clr_again HR.out r
            case measure => simp [intOf] <;> omega
          · exact absurd HRJ.out (hno r HRM.out)
      · have iu : ¬ (u : Int) < (j : Int) := by omega
        go_wp2
        go_ret2
        refine ⟨.inl ⟨HR.out, vp, rfl, ?_⟩, HP.out.bel⟩
        have h1 := HP.out.all
        rcases planL_next HR.out j u HP.out.next with ⟨_, h2⟩ | ⟨r, _, _, _, h3, _⟩
        · rw [h2, List.append_nil] at h1
          rw [h1]
          exact HP.out.own
        · omega
  · rw [riseB_no hr] at HG
    have HR := hide hr
    clear hr
    obtain ⟨ln, hln⟩ : ∃ ln, ln = ms.length := ⟨_, rfl⟩
    rw [← hln] at HA HG hl hlc ⊢
    clear hln
    go_enter Try.func21, Try.ntmps21
    go_wp2_with fail
    refine HG.out.mono ?_
    rintro e w1 ⟨rfl, hb1⟩
    have HB := hide hb1
    clear hb1 HG
    go_wp2
    go_ret2
    exact ⟨.inr ⟨HR.out, rfl⟩, HB.out⟩
end Go.Proofs.Ytbnlkfcaahgpmaa

/-
  The contract of quaysidelaw15.awake.
-/
namespace Go.Proofs.Ytbnlkfcaahgpmaa
open Go.RowKit
set_option linter.unusedVariables false

def awC15 : Ch := ⟨1, 0, 0, ⟨#[]⟩, ⟨#[97]⟩⟩
def awR15 : Rec := ⟨1, 3, 1, 0, awC15, 0, 0, 0, [], []⟩
def awS15 : Rec := ⟨6, 4, 1, 3, Ch.zero, 0, 1, 0, [], []⟩
theorem awC15_right : awC15.right := ⟨by decide, .inl ⟨rfl, rfl⟩⟩
theorem awR15_right : awR15.right := by
  refine ⟨by decide, by decide, by decide, by decide, fun _ => by decide, fun h => absurd h (by decide), fun _ => awC15_right, fun h => absurd h (by decide), fun h => absurd h (by decide), fun _ => rfl, fun h => absurd h (by decide), fun _ => rfl, fun h => absurd h (by decide), fun _ => ⟨rfl, rfl, rfl⟩⟩
theorem awS15_right : awS15.right := by
  refine ⟨by decide, by decide, by decide, by decide, fun _ => by decide, fun h => absurd h (by decide), fun h => absurd h (by decide), fun _ => rfl, fun h => absurd h (by decide), fun _ => rfl, fun _ => by decide, fun h => absurd rfl h, fun h => absurd h (by decide), fun _ => ⟨rfl, rfl, rfl⟩⟩
def awL15 : List Rec := [awR15, awS15]
theorem awL15_rise : Rise 0 awL15 := ⟨awR15_right, by decide, awS15_right, by decide, trivial⟩
theorem awL15_next : nextT awL15 4 = 3 := by simp [nextT, awL15, nextR, awR15, awS15]
theorem awL15_last : lastT awL15 1 = 4 := by simp [lastT, awL15, awR15, awS15]
theorem awL15_plan : planT awL15 1 0 = [clrOf [] awR15] := by
  unfold planT
  rw [awL15_last, awL15_next]
  simp [planL, planR, awL15, awR15, awS15]
theorem rec_fits15 {r : Rec} (h : r.c.fits) (h1 : r.ts = []) (h2 : r.ds = []) : r.fits := by
  refine ⟨h, by rw [h1]; exact Nat.zero_le _, by rw [h2]; exact Nat.zero_le _, fun x hx => ?_, fun x hx => ?_⟩
  · rw [h1] at hx
    cases hx
  · rw [h2] at hx
    cases hx
def awA15 : Array Value := #[.int .i64 1, .int .u64 3, .int .i64 1, .int .u64 0, .int .i64 1, .int .i64 0, .int .i64 0, .string ⟨#[]⟩, .string ⟨#[97]⟩, .int .u64 0, .int .i64 0, .int .u64 0, .slice none 0 0, .slice none 0 0,
  .int .i64 6, .int .u64 4, .int .i64 1, .int .u64 3, .int .i64 0, .int .i64 0, .int .i64 0, .string ⟨#[]⟩, .string ⟨#[]⟩, .int .u64 0, .int .i64 1, .int .u64 0, .slice none 0 0, .slice none 0 0]
theorem awL15_log (x : World) (g : Nat) (h : RowAt x g 30 awA15) : LogIn x (.slice (some ⟨g, 0, none⟩) 2 2) (bareMs awL15) := by
  have b1 : awR15.bare := ⟨rfl, rfl, rec_fits15 (ch_fits15 awC15_right) rfl rfl⟩
  have b2 : awS15.bare := ⟨rfl, rfl, rec_fits15 ⟨by decide, by decide, by decide, by show (0 : Nat) ≤ maxLen; omega, by show (0 : Nat) ≤ maxLen; omega⟩ rfl rfl⟩
  refine ⟨⟨⟨some ⟨g, 0, none⟩, 2, rfl, fun _ => ⟨g, 0, rfl, h.lt, fun i hi => ?_⟩⟩, fun m hm => ?_⟩, by decide, fun a l c e => ?_⟩
  · have hi2 : i < 2 := hi
    rcases (show i = 0 ∨ i = 1 by omega) with rfl | rfl
    · intro j u hu
      have hj : j < 14 := (List.getElem?_eq_some_iff.1 hu).1
      refine (h.cell (0 + 0 * 14 + j) u ?_)
      rw [← hu]
      rcases (show j = 0 ∨ j = 1 ∨ j = 2 ∨ j = 3 ∨ j = 4 ∨ j = 5 ∨ j = 6 ∨ j = 7 ∨ j = 8 ∨ j = 9 ∨ j = 10 ∨ j = 11 ∨ j = 12 ∨ j = 13 by omega) with rfl | rfl | rfl | rfl | rfl | rfl | rfl | rfl | rfl | rfl | rfl | rfl | rfl | rfl <;> rfl
    · intro j u hu
      have hj : j < 14 := (List.getElem?_eq_some_iff.1 hu).1
      refine (h.cell (0 + 1 * 14 + j) u ?_)
      rw [← hu]
      rcases (show j = 0 ∨ j = 1 ∨ j = 2 ∨ j = 3 ∨ j = 4 ∨ j = 5 ∨ j = 6 ∨ j = 7 ∨ j = 8 ∨ j = 9 ∨ j = 10 ∨ j = 11 ∨ j = 12 ∨ j = 13 by omega) with rfl | rfl | rfl | rfl | rfl | rfl | rfl | rfl | rfl | rfl | rfl | rfl | rfl | rfl <;> rfl
  · simp only [bareMs, awL15, List.map_cons, List.map_nil, List.mem_cons, List.not_mem_nil, or_false] at hm
    rcases hm with rfl | rfl
    · exact ⟨b1.2.2, bareM_in b1 x⟩
    · exact ⟨b2.2.2, bareM_in b2 x⟩
  · injection e with e1 e2 e3
    omega
/-- The first cell of a list of one's own. -/
theorem own_first15 {w : World} {base : Nat} {v : Value} {r : Rec} (h : OwnL w base v [r]) : ∃ b c, v = .slice (some ⟨b, 0, none⟩) 1 c ∧ w.cell? ⟨b, 0, none⟩ = some (.int .i64 r.k) := by
  obtain ⟨a, c, hv, _, h3⟩ := ow_shape h.1
  obtain ⟨b, rfl, _⟩ := h3 (Nat.zero_lt_succ _)
  have h4 := h.rs
  rw [hv] at h4
  obtain ⟨b', off, h5, _, h6, _⟩ := h4.at (i := 0) (Nat.zero_lt_succ _)
  injection h5 with h5
  injection h5 with h5 h7
  subst h5 h7
  exact ⟨b, c, hv, h6 0 _ rfl⟩
set_option maxRecDepth 8000 in
set_option maxHeartbeats 3200000 in
theorem awake15 (w : World) : Calls Try.prog 9 #[] w fun e w' => e = .returned (.bool true) ∧ Below w.heap.size w w' := by
  have hb0 : Below w.heap.size w (w.alloc (.cells (chA Ch.zero) 26)) := (Below.refl _ _).alloc (Nat.le_refl _) _
  have HZ := hide (And.intro (RowAt.new w 26 (chA Ch.zero)) hb0)
  have HNX := hide (fun x g (h : RowAt x g 30 awA15) => Next15 _ _ 4 x (awL15_log x g h))
  have HPL := hide (fun x g (h : RowAt x g 30 awA15) => Plan15 _ _ 1 0 x (awL15_log x g h))
  have HGO := hide (fun x g (h : RowAt x g 30 awA15) => good15 _ _ x (awL15_log x g h))
  rw [bareMs_R, awL15_next] at HNX
  rw [bareMs_R, awL15_plan] at HPL
  rw [bareMs_R, (riseB_iff _ _).2 awL15_rise] at HGO
  clear hb0
  go_enter Try.func9, Try.ntmps9
  go_wp2_with (refine wpList_store_at rfl 26 (.tmp 1) (.tmp 7) rfl w.heap.size (chA Ch.zero) (chA awC15) rfl rfl HZ.out.1 infoCh rfl (chA_one _) ?_; intro w2 hr2 hk2 hrow2; refine stop10 ?_)
  have hb2 := hk2 _ _ HZ.out.2 (Nat.le_refl _)
  have H2 := hide (And.intro hr2 hb2)
  clear hr2 hk2 hrow2 hb2 HZ
  refine unstop10 ?_
  go_wp2_with (refine wpList_load_at rfl 26 (.tmp 1) rfl w.heap.size rfl #[.int .i64 1, .int .i64 0, .int .i64 0, .string ⟨#[]⟩, .string ⟨#[97]⟩] H2.out.1 _ Try.underlying26 rfl infoCh ?_)
  have hb3 : Below w2.heap.size w2 (w2.alloc (.cells awA15 30)) := (Below.refl _ _).alloc (Nat.le_refl _) _
  obtain ⟨g, hg⟩ : ∃ g, g = w2.heap.size := ⟨_, rfl⟩
  have H3 : Hid (RowAt (w2.alloc (.cells awA15 30)) g 30 awA15 ∧ Below w.heap.size w (w2.alloc (.cells awA15 30))) := by
    rw [hg]
    exact ⟨RowAt.new w2 _ _, H2.out.2.trans (hb3.mono H2.out.2.size)⟩
  rw [← hg]
  clear hb3 hg H2
  refine gen_calls (fun x => RowAt x g 30 awA15 ∧ Below w.heap.size w x) H3.out ?_
  intro y HY
  have HYY := hide HY
  clear HY H3
  refine (HNX.out y g HYY.out.1).mono ?_
  rintro e w4 ⟨hcase, hb4⟩
  obtain rfl : e = .returned (.tuple #[.int .u64 3, .int .i64 0]) := by
    rcases hcase with ⟨_, h1⟩ | ⟨h1, _⟩
    · exact h1
    · exact absurd awL15_rise h1
  have H4 := hide (And.intro (HYY.out.1.later hb4) (HYY.out.2.trans (hb4.mono HYY.out.2.size)))
  clear hcase hb4 HYY HNX
  go_wp2_with fail
  refine (HPL.out w4 g H4.out.1).mono ?_
  rintro e w5 ⟨hcase, hb5⟩
  obtain ⟨vp, rfl, hown⟩ : ∃ vp, e = .returned (.tuple #[vp, .int .i64 0]) ∧ OwnL w5 w4.heap.size vp [clrOf [] awR15] := by
    rcases hcase with ⟨_, h1⟩ | ⟨h1, _⟩
    · exact h1
    · exact absurd awL15_rise h1
  have H5 := hide (And.intro (H4.out.1.later hb5) (H4.out.2.trans (hb5.mono H4.out.2.size)))
  obtain ⟨b, c, rfl, hc0⟩ := own_first15 hown
  have hc1 : w5.cell? ⟨b, 0, none⟩ = some (.int .i64 2) := hc0
  clear hcase hb5 H4 HPL hown hc0
  go_wp2_with fail
  refine (HGO.out w5 g H5.out.1).mono ?_
  rintro e w6 ⟨rfl, hb6⟩
  have HB6 := hide (H5.out.2.trans (hb6.mono H5.out.2.size))
  clear hb6 H5 HGO hc1
  go_wp2
  go_ret
  exact ⟨rfl, HB6.out⟩
end Go.Proofs.Ytbnlkfcaahgpmaa

/-
  The contract of quaysideref06.Right, of changes.
-/
namespace Go.Proofs.Ytbnlkfcaahgpmaa
open Go.RowKit
set_option linter.unusedVariables false

set_option maxRecDepth 8000 in
set_option maxHeartbeats 3200000 in
theorem rright6_1 (r : Rec) (va vb : Value) (w : World) (q : Bool) (Hq : Hid (q = true ↔ r.right)) (hk : r.k = 1) (hf : r.c.fits) (hin : RcIn w r va vb) :
    Calls Try.prog 29 #[.agg (rcA r va vb)] w fun e w' => e = .returned (.bool q) ∧ Below w.heap.size w w' := by
  have HIN := hide hin
  obtain ⟨⟨e1, cap1, rfl, -⟩, ⟨e2, cap2, rfl, -⟩⟩ := hin
  have HFI := hide hf
  clear hf
  have HK0 := hide (Keeps.one w 30 (rcA r (.slice e1 r.ts.length cap1) (.slice e2 r.ds.length cap2)))
  have HF : Hid (¬ r.right → q = false) := fun h => by
    cases q
    · rfl
    · exact absurd (Hq.out.1 rfl) h
  have HT : Hid (r.right → q = true) := fun h => Hq.out.2 h
  have HOW := hide (fun w => own_at r.k w true (hide (decide_eq_true (by omega))))
  rw [hk] at HOW
  by_cases l1 : (r.l : Int) < 1
  case pos =>
    obtain rfl := HF.out (fun h => by have := h.l1; omega)
    clear HF HT Hq HFI HIN
    obtain ⟨c0, c1, -⟩ := rc_cells HK0.out.1.1
    rw [hk] at c0
    have hb0 := HK0.out.2
    clear HK0 HOW
    go_enter Try.func29, Try.ntmps29
    go_wp2
    go_ret
    exact ⟨rfl, hb0⟩
  by_cases l2 : (4611686018427387904 : Int) < (r.l : Int)
  case pos =>
    obtain rfl := HF.out (fun h => by have := h.lm; unfold maxP at this; omega)
    clear HF HT Hq HFI HIN
    obtain ⟨c0, c1, -⟩ := rc_cells HK0.out.1.1
    rw [hk] at c0
    have hb0 := HK0.out.2
    clear HK0 HOW
    go_enter Try.func29, Try.ntmps29
    go_wp2
    go_ret
    exact ⟨rfl, hb0⟩
  obtain ⟨c0, c1, -⟩ := rc_cells HK0.out.1.1
  rw [hk] at c0
  go_enter Try.func29, Try.ntmps29
  go_wp2_with fail
  refine gen_calls (fun x => Hid (Keeps w x [(w.heap.size, 30, rcA r (.slice e1 r.ts.length cap1) (.slice e2 r.ds.length cap2))])) HK0 ?_
  clear HK0 c0 c1
  intro w0 HK0
  obtain ⟨c0, c1, c2, c3, c9, c10, c11, c12, c13⟩ := rc_cells HK0.out.1.1
  rw [hk] at c0
  have hb0 := HK0.out.2
  refine (HOW.out _).mono ?_
  rintro e w1 ⟨rfl, rfl⟩
  by_cases t1 : r.t < 1
  case pos =>
    obtain rfl := HF.out (fun h => by have := h.own (by omega); omega)
    clear HF HT Hq HFI HIN
    clear HK0 HOW c9 c10 c11 c12 c13
    go_wp2
    go_ret
    exact ⟨rfl, hb0⟩
  by_cases t2 : 1048575 < r.t
  case pos =>
    obtain rfl := HF.out (fun h => by have := h.own (by omega); omega)
    clear HF HT Hq HFI HIN
    clear HK0 HOW c9 c10 c11 c12 c13
    go_wp2
    go_ret
    exact ⟨rfl, hb0⟩
  by_cases p1 : (r.l : Int) ≤ (r.p : Int)
  case pos =>
    obtain rfl := HF.out (fun h => by have := h.own (by omega); omega)
    clear HF HT Hq HFI HIN
    clear HK0 HOW c9 c10 c11 c12 c13
    go_wp2
    go_ret
    exact ⟨rfl, hb0⟩
  go_wp2_with fail
  refine (HOW.out _).mono ?_
  rintro e w1 ⟨rfl, rfl⟩
  clear HOW
  obtain ⟨d4, d5, d6, d7, d8⟩ := rc_chg HK0.out.1.1
  go_wp2_with fail
  clear d4 d5 d6 d7 d8
  by_cases cc : r.c.right
  case neg =>
    obtain rfl := HF.out (fun h => cc (h.ch (by omega)))
    clear HF HT Hq HFI HIN
    refine (rcright_at r.c _ false (hide (decide_eq_false cc))).mono ?_
    rintro e w2 ⟨rfl, hb2⟩
    have d2 := hb0.trans (hb2.mono hb0.size)
    clear hb2 HK0 c0 c1 c2 c3 c9 c10 c11 c12 c13 cc
    go_wp2
    go_ret
    exact ⟨rfl, d2⟩
  refine (rcright_at r.c _ true (hide (decide_eq_true cc))).mono ?_
  rintro e w2 ⟨rfl, hb2⟩
  have HK2 := hide (HK0.out.later hb2)
  clear HK0 hb2 hb0 c0 c1 c2 c3 c9 c10 c11 c12 c13
  obtain ⟨c0, c1, c2, c3, c9, c10, c11, c12, c13⟩ := rc_cells HK2.out.1.1
  rw [hk] at c0
  have hb0 := HK2.out.2
  have HCC := hide cc
  clear cc HK2
  by_cases n1 : ¬ (r.n : Int) = 0
  case pos =>
    obtain rfl := HF.out (fun h => by have := h.nonext (by omega); omega)
    have n1e : ((r.n : Int) == 0) = false := by rw [beq_eq_false_iff_ne]; exact n1
    have n1f : ((r.n : Int) != 0) = true := by rw [bne, n1e]; rfl
    clear HF HT Hq HFI HIN
    clear HCC
    go_wp2
    go_ret
    exact ⟨rfl, hb0⟩
  have n1e : (r.n : Int) = 0 := Decidable.of_not_not n1
  by_cases s1 : ¬ r.s = 0
  case pos =>
    obtain rfl := HF.out (fun h => s1 (h.nosave (by omega)))
    have s1e : (r.s == 0) = false := by rw [beq_eq_false_iff_ne]; exact s1
    have s1f : (r.s != 0) = true := by rw [bne, s1e]; rfl
    clear HF HT Hq HFI HIN
    clear HCC
    go_wp2
    go_ret
    exact ⟨rfl, hb0⟩
  have s1e : r.s = 0 := Decidable.of_not_not s1
  by_cases b1 : ¬ (r.b : Int) = 0
  case pos =>
    obtain rfl := HF.out (fun h => by have := h.nocheck (by omega); omega)
    have b1e : ((r.b : Int) == 0) = false := by rw [beq_eq_false_iff_ne]; exact b1
    have b1f : ((r.b : Int) != 0) = true := by rw [bne, b1e]; rfl
    clear HF HT Hq HFI HIN
    clear HCC
    go_wp2
    go_ret
    exact ⟨rfl, hb0⟩
  have b1e : (r.b : Int) = 0 := Decidable.of_not_not b1
  by_cases z1 : ¬ (r.ts.length : Int) = 0
  case pos =>
    obtain rfl := HF.out (fun h => by have := (h.nocheck (by omega)).2.1; rw [this] at z1; exact z1 rfl)
    have z1e : ((r.ts.length : Int) == 0) = false := by rw [beq_eq_false_iff_ne]; exact z1
    have z1f : ((r.ts.length : Int) != 0) = true := by rw [bne, z1e]; rfl
    clear HF HT Hq HFI HIN
    clear HCC
    go_wp2
    go_ret
    exact ⟨rfl, hb0⟩
  have z1e : (r.ts.length : Int) = 0 := Decidable.of_not_not z1
  by_cases z2 : ¬ (r.ds.length : Int) = 0
  case pos =>
    obtain rfl := HF.out (fun h => by have := (h.nocheck (by omega)).2.2; rw [this] at z2; exact z2 rfl)
    have z2e : ((r.ds.length : Int) == 0) = false := by rw [beq_eq_false_iff_ne]; exact z2
    have z2f : ((r.ds.length : Int) != 0) = true := by rw [bne, z2e]; rfl
    clear HF HT Hq HFI HIN
    clear HCC
    go_wp2
    go_ret
    exact ⟨rfl, hb0⟩
  have z2e : (r.ds.length : Int) = 0 := Decidable.of_not_not z2
  obtain rfl := HT.out ⟨by omega, by omega, by omega, by unfold maxP; omega, fun _ => ⟨by omega, by omega, by omega⟩, fun h => absurd h (by omega), fun _ => HCC.out, fun h => absurd h (by omega), fun h => absurd h (by omega), fun _ => by omega, fun h => absurd h (by omega), fun _ => by omega, fun h => absurd h (by omega), fun _ => ⟨by omega, List.eq_nil_of_length_eq_zero (by omega), List.eq_nil_of_length_eq_zero (by omega)⟩⟩
  clear HF HT Hq HFI HIN HCC
  go_wp2
  go_ret
  exact ⟨rfl, hb0⟩

set_option maxRecDepth 8000 in
set_option maxHeartbeats 3200000 in
theorem rright6_2 (r : Rec) (va vb : Value) (w : World) (q : Bool) (Hq : Hid (q = true ↔ r.right)) (hk : r.k = 2) (hf : r.c.fits) (hin : RcIn w r va vb) :
    Calls Try.prog 29 #[.agg (rcA r va vb)] w fun e w' => e = .returned (.bool q) ∧ Below w.heap.size w w' := by
  have HIN := hide hin
  obtain ⟨⟨e1, cap1, rfl, -⟩, ⟨e2, cap2, rfl, -⟩⟩ := hin
  have HFI := hide hf
  clear hf
  have HK0 := hide (Keeps.one w 30 (rcA r (.slice e1 r.ts.length cap1) (.slice e2 r.ds.length cap2)))
  have HF : Hid (¬ r.right → q = false) := fun h => by
    cases q
    · rfl
    · exact absurd (Hq.out.1 rfl) h
  have HT : Hid (r.right → q = true) := fun h => Hq.out.2 h
  have HOW := hide (fun w => own_at r.k w true (hide (decide_eq_true (by omega))))
  rw [hk] at HOW
  by_cases l1 : (r.l : Int) < 1
  case pos =>
    obtain rfl := HF.out (fun h => by have := h.l1; omega)
    clear HF HT Hq HFI HIN
    obtain ⟨c0, c1, -⟩ := rc_cells HK0.out.1.1
    rw [hk] at c0
    have hb0 := HK0.out.2
    clear HK0 HOW
    go_enter Try.func29, Try.ntmps29
    go_wp2
    go_ret
    exact ⟨rfl, hb0⟩
  by_cases l2 : (4611686018427387904 : Int) < (r.l : Int)
  case pos =>
    obtain rfl := HF.out (fun h => by have := h.lm; unfold maxP at this; omega)
    clear HF HT Hq HFI HIN
    obtain ⟨c0, c1, -⟩ := rc_cells HK0.out.1.1
    rw [hk] at c0
    have hb0 := HK0.out.2
    clear HK0 HOW
    go_enter Try.func29, Try.ntmps29
    go_wp2
    go_ret
    exact ⟨rfl, hb0⟩
  obtain ⟨c0, c1, -⟩ := rc_cells HK0.out.1.1
  rw [hk] at c0
  go_enter Try.func29, Try.ntmps29
  go_wp2_with fail
  refine gen_calls (fun x => Hid (Keeps w x [(w.heap.size, 30, rcA r (.slice e1 r.ts.length cap1) (.slice e2 r.ds.length cap2))])) HK0 ?_
  clear HK0 c0 c1
  intro w0 HK0
  obtain ⟨c0, c1, c2, c3, c9, c10, c11, c12, c13⟩ := rc_cells HK0.out.1.1
  rw [hk] at c0
  have hb0 := HK0.out.2
  refine (HOW.out _).mono ?_
  rintro e w1 ⟨rfl, rfl⟩
  by_cases t1 : r.t < 1
  case pos =>
    obtain rfl := HF.out (fun h => by have := h.own (by omega); omega)
    clear HF HT Hq HFI HIN
    clear HK0 HOW c9 c10 c11 c12 c13
    go_wp2
    go_ret
    exact ⟨rfl, hb0⟩
  by_cases t2 : 1048575 < r.t
  case pos =>
    obtain rfl := HF.out (fun h => by have := h.own (by omega); omega)
    clear HF HT Hq HFI HIN
    clear HK0 HOW c9 c10 c11 c12 c13
    go_wp2
    go_ret
    exact ⟨rfl, hb0⟩
  by_cases p1 : (r.l : Int) ≤ (r.p : Int)
  case pos =>
    obtain rfl := HF.out (fun h => by have := h.own (by omega); omega)
    clear HF HT Hq HFI HIN
    clear HK0 HOW c9 c10 c11 c12 c13
    go_wp2
    go_ret
    exact ⟨rfl, hb0⟩
  go_wp2_with fail
  refine (HOW.out _).mono ?_
  rintro e w1 ⟨rfl, rfl⟩
  clear HOW
  obtain ⟨d4, d5, d6, d7, d8⟩ := rc_chg HK0.out.1.1
  go_wp2_with fail
  clear d4 d5 d6 d7 d8
  by_cases cc : r.c.right
  case neg =>
    obtain rfl := HF.out (fun h => cc (h.ch (by omega)))
    clear HF HT Hq HFI HIN
    refine (rcright_at r.c _ false (hide (decide_eq_false cc))).mono ?_
    rintro e w2 ⟨rfl, hb2⟩
    have d2 := hb0.trans (hb2.mono hb0.size)
    clear hb2 HK0 c0 c1 c2 c3 c9 c10 c11 c12 c13 cc
    go_wp2
    go_ret
    exact ⟨rfl, d2⟩
  refine (rcright_at r.c _ true (hide (decide_eq_true cc))).mono ?_
  rintro e w2 ⟨rfl, hb2⟩
  have HK2 := hide (HK0.out.later hb2)
  clear HK0 hb2 hb0 c0 c1 c2 c3 c9 c10 c11 c12 c13
  obtain ⟨c0, c1, c2, c3, c9, c10, c11, c12, c13⟩ := rc_cells HK2.out.1.1
  rw [hk] at c0
  have hb0 := HK2.out.2
  have HCC := hide cc
  clear cc HK2
  by_cases n1 : (r.l : Int) ≤ (r.n : Int)
  case pos =>
    obtain rfl := HF.out (fun h => by have := h.next (by omega); omega)
    clear HF HT Hq HFI HIN
    clear HCC
    go_wp2
    go_ret
    exact ⟨rfl, hb0⟩
  by_cases s1 : ¬ r.s = 0
  case pos =>
    obtain rfl := HF.out (fun h => s1 (h.nosave (by omega)))
    have s1e : (r.s == 0) = false := by rw [beq_eq_false_iff_ne]; exact s1
    have s1f : (r.s != 0) = true := by rw [bne, s1e]; rfl
    clear HF HT Hq HFI HIN
    clear HCC
    go_wp2
    go_ret
    exact ⟨rfl, hb0⟩
  have s1e : r.s = 0 := Decidable.of_not_not s1
  by_cases b1 : ¬ (r.b : Int) = 0
  case pos =>
    obtain rfl := HF.out (fun h => by have := h.nocheck (by omega); omega)
    have b1e : ((r.b : Int) == 0) = false := by rw [beq_eq_false_iff_ne]; exact b1
    have b1f : ((r.b : Int) != 0) = true := by rw [bne, b1e]; rfl
    clear HF HT Hq HFI HIN
    clear HCC
    go_wp2
    go_ret
    exact ⟨rfl, hb0⟩
  have b1e : (r.b : Int) = 0 := Decidable.of_not_not b1
  by_cases z1 : ¬ (r.ts.length : Int) = 0
  case pos =>
    obtain rfl := HF.out (fun h => by have := (h.nocheck (by omega)).2.1; rw [this] at z1; exact z1 rfl)
    have z1e : ((r.ts.length : Int) == 0) = false := by rw [beq_eq_false_iff_ne]; exact z1
    have z1f : ((r.ts.length : Int) != 0) = true := by rw [bne, z1e]; rfl
    clear HF HT Hq HFI HIN
    clear HCC
    go_wp2
    go_ret
    exact ⟨rfl, hb0⟩
  have z1e : (r.ts.length : Int) = 0 := Decidable.of_not_not z1
  by_cases z2 : ¬ (r.ds.length : Int) = 0
  case pos =>
    obtain rfl := HF.out (fun h => by have := (h.nocheck (by omega)).2.2; rw [this] at z2; exact z2 rfl)
    have z2e : ((r.ds.length : Int) == 0) = false := by rw [beq_eq_false_iff_ne]; exact z2
    have z2f : ((r.ds.length : Int) != 0) = true := by rw [bne, z2e]; rfl
    clear HF HT Hq HFI HIN
    clear HCC
    go_wp2
    go_ret
    exact ⟨rfl, hb0⟩
  have z2e : (r.ds.length : Int) = 0 := Decidable.of_not_not z2
  obtain rfl := HT.out ⟨by omega, by omega, by omega, by unfold maxP; omega, fun _ => ⟨by omega, by omega, by omega⟩, fun h => absurd h (by omega), fun _ => HCC.out, fun h => absurd h (by omega), fun _ => by omega, fun h => absurd hk h, fun h => absurd h (by omega), fun _ => by omega, fun h => absurd h (by omega), fun _ => ⟨by omega, List.eq_nil_of_length_eq_zero (by omega), List.eq_nil_of_length_eq_zero (by omega)⟩⟩
  clear HF HT Hq HFI HIN HCC
  go_wp2
  go_ret
  exact ⟨rfl, hb0⟩

end Go.Proofs.Ytbnlkfcaahgpmaa
