/-
  The contracts of lock.bars, of the closure that asks it, of slices.IndexFunc, ContainsFunc and Index at locks.
-/
import Derived.Test.YtmlbghloddiflaaLkMem
import Derived.Test.YtmlbghloddiflaaModeCode
import Derived.Test.YtmlbghloddiflaaQuietIn
import Derived.DeepKeys
import Derived.Laws.StructEq
namespace Go.Proofs.Ytmlbghloddiflaa
open Go.RowKit
set_option linter.unusedVariables false

theorem two_rows (w : World) (t : TypeId) (A B : Array Value) : RowAt ((w.alloc (.cells A t)).alloc (.cells B t)) w.heap.size t A ∧ RowAt ((w.alloc (.cells A t)).alloc (.cells B t)) (w.heap.size + 1) t B ∧ Below w.heap.size w ((w.alloc (.cells A t)).alloc (.cells B t)) := by
  have h1 : RowAt (w.alloc (.cells A t)) w.heap.size t A := RowAt.new w t A
  have h2 : RowAt ((w.alloc (.cells A t)).alloc (.cells B t)) (w.alloc (.cells A t)).heap.size t B := RowAt.new _ t B
  have e : (w.alloc (.cells A t)).heap.size = w.heap.size + 1 := by simp
  rw [e] at h2
  have b1 : Below w.heap.size w (w.alloc (.cells A t)) := (Below.refl w.heap.size w).alloc (Nat.le_refl _) _
  have b2 : Below (w.heap.size + 1) (w.alloc (.cells A t)) ((w.alloc (.cells A t)).alloc (.cells B t)) := (Below.refl _ _).alloc (by rw [e]; exact Nat.le_refl _) _
  exact ⟨h1.below b2 (by omega), h2, b1.trans (b2.mono (by omega))⟩
set_option maxRecDepth 4000 in
set_option maxHeartbeats 1600000 in
theorem bars13 (k h : Hd) (w : World) : Calls Try.prog 68 #[.agg (hdA k), .agg (hdA h)] w fun e w' => e = .returned (.bool (bars k h)) ∧ Below w.heap.size w w' := by
  obtain ⟨r1, r2, HB⟩ := two_rows w 46 (hdA k) (hdA h)
  have c0 := r1.cell 0 (.int .i64 k.w) rfl
  have c2 := r1.cell 2 (.int .i64 k.m) rfl
  have d0 := r2.cell 0 (.int .i64 h.w) rfl
  have d2 := r2.cell 2 (.int .i64 h.m) rfl
  have HB := hide HB
  have HF := hide (fun w => fits12 k.m h.m w)
  clear r1 r2
  unfold bars
  by_cases e : k.w = h.w
  · have e1 : decide (k.w ≠ h.w) = false := by simp [e]
    have e2 : (k.w == h.w) = true := by simp [e]
    rw [e1]
    clear e e1
    generalize hdA k = A at *
    generalize hdA h = B at *
    go_enter Try.func68, Try.ntmps68
    go_wp2
    go_ret
    exact ⟨by simp, HB.out⟩
  · have e1 : decide (k.w ≠ h.w) = true := by simp [e]
    have e2 : (k.w == h.w) = false := by simpa using e
    rw [e1]
    clear e1
    generalize hdA k = A at *
    generalize hdA h = B at *
    generalize fit k.m h.m = q at *
    go_enter Try.func68, Try.ntmps68
    go_wp2_with fail
    refine (HF.out _).mono ?_
    rintro e w1 ⟨rfl, rfl⟩
    go_wp2
    go_ret
    exact ⟨by simp [e], HB.out⟩
set_option maxRecDepth 4000 in
/-- The closure: its captured lock lies in block g. -/
theorem clos13 (k h : Hd) (g : Nat) (w : World) (hg : RowAt w g 46 (hdA h)) : Calls Try.prog 73 #[.agg (hdA k), .pointer (some ⟨g, 0, none⟩)] w fun e w' => e = .returned (.bool (bars k h)) ∧ Below w.heap.size w w' := by
  have b1 : Below w.heap.size w (w.alloc (.cells (hdA k) 46)) := (Below.refl w.heap.size w).alloc (Nat.le_refl _) _
  have r1 := RowAt.new w 46 (hdA k)
  have r2 := hg.later b1
  have c0 := r1.cell 0 (.int .i64 k.w) rfl
  have c1 := r1.cell 1 (.int .i64 k.x) rfl
  have c2 := r1.cell 2 (.int .i64 k.m) rfl
  have d0 := r2.cell 0 (.int .i64 h.w) rfl
  have d1 := r2.cell 1 (.int .i64 h.x) rfl
  have d2 := r2.cell 2 (.int .i64 h.m) rfl
  have HB := hide b1
  have HF := hide (fun w => bars13 k h w)
  clear r1 r2 b1
  unfold hdA at HF
  generalize bars k h = q at *
  generalize hdA k = A at *
  go_enter Try.func73, Try.ntmps73
  go_wp2_with fail
  refine (HF.out _).mono ?_
  rintro e w1 ⟨rfl, hb⟩
  have HB2 := hide (HB.out.trans (hb.mono HB.out.size))
  clear hb
  go_wp2
  go_ret
  exact ⟨rfl, HB2.out⟩
set_option maxRecDepth 8000 in
set_option maxHeartbeats 1600000 in
theorem idxf13 (s : Sl) (l : List Hd) (h : Hd) (g : Nat) (w : World) (hb : HB w s l) (hg : RowAt w g 46 (hdA h)) (hl : l.length ≤ 1000000) :
    Calls Try.prog 93 #[slV s l.length, .func (.func 73) #[] #[.pointer (some ⟨g, 0, none⟩)]] w fun e w' => ∃ i : Int, e = .returned (.int .i64 i) ∧ (0 ≤ i ↔ (l.any fun k => bars k h) = true) ∧ Below w.heap.size w w' := by
  have hcap := hb.cap
  have H := hide hb
  have HG := hide hg
  have HO := hide (fun k x hx => clos13 k h g x hx)
  obtain ⟨ln, hln⟩ : ∃ ln, ln = l.length := ⟨_, rfl⟩
  rw [← hln] at hcap hl ⊢
  have HLN := hide hln
  clear hln hb hg
  unfold slV
  obtain ⟨ad, had⟩ : ∃ ad, ad = adr s.b := ⟨_, rfl⟩
  have HAD := hide had
  rw [← had]
  clear had
  generalize s.c = cap at *
  go_enter Try.func93, Try.ntmps93
  go_wp2
  go_loopw [8] (fun v wr => ∃ j : Nat, j ≤ ln ∧ v = .int .i64 j ∧ Hid (∀ k a, k < j → l[k]? = some a → bars a h = false) ∧ Hid (Below w.heap.size w wr)) (fun v _ => ln - (intOf v).toNat)
  case atStart => exact ⟨0, Nat.zero_le _, rfl, fun k a hk => absurd hk (Nat.not_lt_zero _), Below.refl _ _⟩
  case round =>
    obtain ⟨j, hj, rfl, HNo, HB⟩ := hrel
    by_cases hlt : j < ln
    · have i1 : (j : Int) < ln := by omega
      obtain ⟨m, hmm⟩ : ∃ m, l[j]? = some m := ⟨_, List.getElem?_eq_getElem (by have := HLN.out; omega)⟩
      obtain ⟨b, hb0, hbl, c0, c1, c2⟩ := (H.out.later HB.out).at hmm
      have hmeq := HAD.out
      rw [hb0] at hmeq
      have hmeq2 : ad = some ⟨b, 0, none⟩ := hmeq
      subst hmeq2
      have HMM := hide hmm
      have HO1 := hide (HO.out m wr (HG.out.later HB.out))
      clear hmm hmeq hb0
      unfold hdA at HO1
      cases hq : bars m h with
      | true =>
        rw [hq] at HO1
        have HQ := hide hq
        clear hq
        go_wp2_with fail
        refine HO1.out.mono ?_
        rintro e w1 ⟨rfl, hb1⟩
        have HB1 := hide (HB.out.trans (hb1.mono HB.out.size))
        clear hb1 HB HO1 c0 c1 c2 hbl
        go_wp2
        go_ret
        refine ⟨(j : Int), rfl, ⟨fun _ => List.any_eq_true.2 ⟨m, List.mem_of_getElem? HMM.out, HQ.out⟩, fun _ => by omega⟩, HB1.out⟩
      | false =>
        rw [hq] at HO1
        have HQ := hide hq
        clear hq
        go_wp2_with fail
        refine HO1.out.mono ?_
        rintro e w1 ⟨rfl, hb1⟩
        have HB1 := hide (HB.out.trans (hb1.mono HB.out.size))
        clear hb1 HB HO1 c0 c1 c2 hbl
        go_wp2
        go_roundw
        case rel =>
          refine ⟨j + 1, by omega, by go_num, fun k a hk ha => ?_, HB1.out⟩
          by_cases e : k = j
          · subst e
            have e2 := HMM.out
            rw [ha] at e2
            injection e2 with e2
            rw [e2]
            exact HQ.out
          · exact HNo.out k a (by omega) ha
        case measure => simp [intOf]; omega
    · have i1 : ¬ (j : Int) < ln := by omega
      go_wp2
      go_ret
      refine ⟨-1, rfl, ⟨fun h => absurd h (by decide), fun h2 => ?_⟩, HB.out⟩
      obtain ⟨a, ha, hq⟩ : ∃ a, a ∈ l ∧ bars a h = true := by first | exact h2 | exact List.any_eq_true.1 h2
      obtain ⟨q, hq1, hq2⟩ := List.getElem_of_mem ha
      have := HNo.out q a (by have := HLN.out; omega) (by rw [List.getElem?_eq_getElem hq1, hq2])
      rw [this] at hq
      cases hq
set_option maxRecDepth 4000 in
set_option maxHeartbeats 800000 in
theorem has13 (s : Sl) (l : List Hd) (h : Hd) (g : Nat) (w : World) (hb : HB w s l) (hg : RowAt w g 46 (hdA h)) (hl : l.length ≤ 1000000) :
    Calls Try.prog 72 #[slV s l.length, .func (.func 73) #[] #[.pointer (some ⟨g, 0, none⟩)]] w fun e w' => e = .returned (.bool (l.any fun k => bars k h)) ∧ Below w.heap.size w w' := by
  have HI := hide (idxf13 s l h g w hb hg hl)
  clear hb hg
  generalize (l.any fun k => bars k h) = q at *
  generalize slV s l.length = v at *
  go_enter Try.func72, Try.ntmps72
  go_wp2_with fail
  refine HI.out.mono ?_
  rintro e w1 ⟨i, rfl, hi, hb⟩
  have HB := hide hb
  have HQ := hide hi
  clear hb hi
  go_wp2
  go_ret
  refine ⟨?_, HB.out⟩
  have := HQ.out
  cases q <;> simp_all
/-! ### Two locks held against each other -/
def Hd.fine (h : Hd) : Prop := (Lit.int .i64 h.w).wf = true ∧ (Lit.int .i64 h.x).wf = true ∧ (Lit.int .i64 h.m).wf = true
def litsH (h : Hd) : List Lit := [.int .i64 h.w, .int .i64 h.x, .int .i64 h.m]
theorem litsH_iff (c d : Hd) : litsH c = litsH d ↔ c = d := by
  unfold litsH
  simp only [List.cons.injEq, and_true, Lit.int.injEq, true_and]
  constructor
  · rintro ⟨h1, h2, h3⟩
    cases c
    cases d
    simp_all
  · rintro rfl
    exact ⟨rfl, rfl, rfl⟩
theorem lits_hold (c : Hd) (h : c.fine) : Try.prog.keyLits 2 46 (hdA c).toList = some (litsH c) := by
  have e0 : Try.prog.cellsOf 3 = 1 := by kernel_rfl
  have e1 : Try.prog.cellsOf 44 = 1 := by kernel_rfl
  have e2 : Try.prog.cellsOf 46 = 3 := by kernel_rfl
  obtain ⟨h1, h2, h3⟩ := h
  simp [Program.keyLits, Try.underlying46, Try.underlying3, Try.underlying44, e0, e1, e2, hdA, litsH, h1, h2, h3]
theorem run_hold_eql (c d : Hd) (hc : c.fine) (hd : d.fine) (w : World) : (binOp .eql 46 (.agg (hdA c)) (.agg (hdA d))).run Try.prog w = .ok (.bool (decide (c = d))) w := by
  obtain ⟨r, hr, hiff⟩ := run_equalIn_deep (P := Try.prog) 9998 2 46 (by kernel_rfl) w 2 2 (.agg (hdA c)) (.agg (hdA d)) (litsH c) (litsH d) (by kernel_rfl) (by kernel_rfl) (lits_hold c hc) (lits_hold d hd)
  have e : r = decide (c = d) := by
    rw [Bool.eq_iff_iff, hiff, litsH_iff, decide_eq_true_iff]
  rw [e] at hr
  have hr2 : (Op.equal 46 (.agg (hdA c)) (.agg (hdA d))).run Try.prog w = .ok (decide (c = d)) w := hr
  simp [binOp, hr2]
theorem hold_guard (op : BinOp) (x y : Operand) (c d : Hd) (w : World) : (eqGuard op 46 x y (.agg (hdA c)) (.agg (hdA d))).run Try.prog w = .ok () w := run_eqGuard_agg (P := Try.prog) w op 46 x y (hdA c) (hdA d) (by kernel_rfl)
theorem load_hold {w : World} {b o : Nat} {h : Hd} (h0 : w.cell? ⟨b, o, none⟩ = some (.int .i64 h.w)) (h1 : w.cell? ⟨b, o + 1, none⟩ = some (.int .i64 h.x)) (h2 : w.cell? ⟨b, o + 2, none⟩ = some (.int .i64 h.m)) :
    (Instr.loadAt 46 (.pointer (some ⟨b, o, none⟩))).run Try.prog w = .ok (.agg (hdA h)) w := by
  have hr : w.rangeAt b o (hdL h) := by
    intro j u hu
    match j with
    | 0 => simp [hdL] at hu; subst hu; exact h0
    | 1 => simp [hdL] at hu; subst hu; exact h1
    | 2 => simp [hdL] at hu; subst hu; exact h2
    | j + 3 => simp [hdL] at hu
  exact run_loadAt_mid (P := Try.prog) w b o 46 (hdL h) _ hr Try.underlying46 rfl infoHs
set_option maxRecDepth 8000 in
set_option maxHeartbeats 1600000 in
/-- The first place of a lock in a row. -/
theorem index13 (s : Sl) (l : List Hd) (h : Hd) (i : Nat) (w : World) (hb : HB w s l) (hf : h.fine) (hfl : ∀ k ∈ l, k.fine) (hi : l[i]? = some h) (hn : ∀ j k, j < i → l[j]? = some k → k ≠ h) (hl : l.length ≤ 1000000) :
    Calls Try.prog 69 #[slV s l.length, .agg (hdA h)] w fun e w' => e = .returned (.int .i64 (i : Int)) ∧ Below w.heap.size w w' := by
  have hcap := hb.cap
  have H := hide hb
  have HF := hide (And.intro hf hfl)
  have HI := hide hi
  have HN := hide hn
  have hil : i < l.length := (List.getElem?_eq_some_iff.1 hi).1
  have b1 : Below w.heap.size w (w.alloc (.cells (hdA h) 46)) := (Below.refl w.heap.size w).alloc (Nat.le_refl _) _
  have HR := hide (And.intro (RowAt.new w 46 (hdA h)) b1)
  obtain ⟨ln, hln⟩ : ∃ ln, ln = l.length := ⟨_, rfl⟩
  rw [← hln] at hcap hl hil ⊢
  have HLN := hide hln
  clear hln hb hf hfl hi hn b1
  unfold slV
  obtain ⟨ad, had⟩ : ∃ ad, ad = adr s.b := ⟨_, rfl⟩
  have HAD := hide had
  rw [← had]
  clear had
  generalize s.c = cap at *
  obtain ⟨A, hA⟩ : ∃ A, A = hdA h := ⟨_, rfl⟩
  have HA := hide hA
  rw [← hA] at HR ⊢
  clear hA
  go_enter Try.func69, Try.ntmps69
  go_wp2
  go_loopw [8] (fun v wr => ∃ j : Nat, j ≤ i ∧ v = .int .i64 j ∧ Hid (RowAt wr w.heap.size 46 A ∧ Below w.heap.size w wr)) (fun v _ => ln - (intOf v).toNat)
  case atStart => exact ⟨0, Nat.zero_le _, rfl, HR.out⟩
  case round =>
    obtain ⟨j, hj, rfl, HB⟩ := hrel
    have hlt : j < ln := by omega
    have i1 : (j : Int) < ln := by omega
    obtain ⟨m, hmm⟩ : ∃ m, l[j]? = some m := ⟨_, List.getElem?_eq_getElem (by have := HLN.out; omega)⟩
    obtain ⟨b, hb0, hbl, _⟩ := H.out.at hmm
    have hmeq := HAD.out
    rw [hb0] at hmeq
    have hmeq2 : ad = some ⟨b, 0, none⟩ := hmeq
    subst hmeq2
    have HMM := hide hmm
    have HBL := hide hbl
    clear hmm hmeq hb0 hbl
    have HC : ∀ x, (RowAt x w.heap.size 46 A ∧ Below w.heap.size w x) → (Instr.loadAt 46 (.pointer (some ⟨w.heap.size, 0, none⟩))).run Try.prog x = .ok (.agg A) x ∧ (Instr.loadAt 46 (.pointer (some ⟨b, j * 3, none⟩))).run Try.prog x = .ok (.agg (hdA m)) x := fun x hx => by
      obtain ⟨b', hb', _, c0, c1, c2⟩ := (H.out.later hx.2).at HMM.out
      obtain ⟨b2, hb2, _⟩ := H.out.at HMM.out
      have e := HAD.out
      rw [hb'] at e
      injection e with e
      injection e with e
      subst e
      refine ⟨?_, load_hold c0 c1 c2⟩
      have r := hx.1
      rw [HA.out] at r ⊢
      exact load_hold (r.cell 0 _ rfl) (r.cell 1 _ rfl) (r.cell 2 _ rfl)
    have HCC := hide HC
    clear HC
    have HEQ := hide (show ∀ x, (binOp .eql 46 (.agg A) (.agg (hdA m))).run Try.prog x = .ok (.bool (decide (h = m))) x ∧ ∀ p q, (eqGuard .eql 46 p q (.agg A) (.agg (hdA m))).run Try.prog x = .ok () x from fun x => by
      rw [HA.out]
      exact ⟨run_hold_eql h m HF.out.1 (HF.out.2 m (List.mem_of_getElem? HMM.out)) x, fun p q => hold_guard _ _ _ h m x⟩)
    by_cases hji : j = i
    · subst hji
      have hmh : decide (h = m) = true := by
        have e := HI.out
        rw [HMM.out] at e
        injection e with e
        simp [e]
      rw [hmh] at HEQ
      clear hmh
      generalize hdA m = M at *
      go_wp2_with fail
      refine wp_region_in (fun x => RowAt x w.heap.size 46 A ∧ Below w.heap.size w x) (by kernel_rfl) (by kernel_rfl) ⟨HB.out.1, HB.out.2.drew⟩ ?_
      repeat (first
        | go_big_quiet_skip
        | (refine wpQuiet_load rfl 46 (.tmp 3) rfl _ (.agg A) rfl (fun y hy => (HCC.out y hy).1) ?_; simp only [Act.put, Array.setIfInBounds, List.size_toArray, List.length_cons, List.length_nil, Nat.reduceAdd, Nat.reduceLT, ↓reduceDIte, List.set_toArray, List.set_cons_succ, List.set_cons_zero])
        | (refine wpQuiet_load rfl 46 (.tmp 14) rfl _ (.agg M) rfl (fun y hy => (HCC.out y hy).2) ?_; simp only [Act.put, Array.setIfInBounds, List.size_toArray, List.length_cons, List.length_nil, Nat.reduceAdd, Nat.reduceLT, ↓reduceDIte, List.set_toArray, List.set_cons_succ, List.set_cons_zero])
        | (refine wpQuiet_binop rfl .eql 46 46 (.tmp 11) (.tmp 15) rfl _ _ (.bool true) rfl rfl (fun y => (HEQ.out y).2 _ _) (fun y => (HEQ.out y).1) ?_; simp only [Act.put, Array.setIfInBounds, List.size_toArray, List.length_cons, List.length_nil, Nat.reduceAdd, Nat.reduceLT, ↓reduceDIte, List.set_toArray, List.set_cons_succ, List.set_cons_zero])
        | (refine wpQuiet_plain rfl (fun K hK => ?_); go_simp; refine hK _ ?_; clear hK K))
      refine wpQuiet_nil ?_
      intro x hx
      have HX := hide hx
      clear hx
      go_wp2
      go_ret
      exact ⟨rfl, HX.out.2⟩
    · have hmh : decide (h = m) = false := by
        have e := HN.out j m (by omega) HMM.out
        simp only [decide_eq_false_iff_not]
        exact fun e2 => e e2.symm
      rw [hmh] at HEQ
      clear hmh
      generalize hdA m = M at *
      go_wp2_with fail
      refine wp_region_in (fun x => RowAt x w.heap.size 46 A ∧ Below w.heap.size w x) (by kernel_rfl) (by kernel_rfl) ⟨HB.out.1, HB.out.2.drew⟩ ?_
      repeat (first
        | go_big_quiet_skip
        | (refine wpQuiet_load rfl 46 (.tmp 3) rfl _ (.agg A) rfl (fun y hy => (HCC.out y hy).1) ?_; simp only [Act.put, Array.setIfInBounds, List.size_toArray, List.length_cons, List.length_nil, Nat.reduceAdd, Nat.reduceLT, ↓reduceDIte, List.set_toArray, List.set_cons_succ, List.set_cons_zero])
        | (refine wpQuiet_load rfl 46 (.tmp 14) rfl _ (.agg M) rfl (fun y hy => (HCC.out y hy).2) ?_; simp only [Act.put, Array.setIfInBounds, List.size_toArray, List.length_cons, List.length_nil, Nat.reduceAdd, Nat.reduceLT, ↓reduceDIte, List.set_toArray, List.set_cons_succ, List.set_cons_zero])
        | (refine wpQuiet_binop rfl .eql 46 46 (.tmp 11) (.tmp 15) rfl _ _ (.bool false) rfl rfl (fun y => (HEQ.out y).2 _ _) (fun y => (HEQ.out y).1) ?_; simp only [Act.put, Array.setIfInBounds, List.size_toArray, List.length_cons, List.length_nil, Nat.reduceAdd, Nat.reduceLT, ↓reduceDIte, List.set_toArray, List.set_cons_succ, List.set_cons_zero])
        | (refine wpQuiet_plain rfl (fun K hK => ?_); go_simp; refine hK _ ?_; clear hK K))
      refine wpQuiet_nil ?_
      intro x hx
      have HX := hide hx
      clear hx
      go_wp2
      go_roundw
      case rel => exact ⟨j + 1, by omega, by go_num, HX⟩
      case measure => simp [intOf]; omega
end Go.Proofs.Ytmlbghloddiflaa
