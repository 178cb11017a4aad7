/-
  The contract of record.Right.
-/
import Derived.Test.YtmapgfakfeddmaaRecSame
import Derived.Test.YtmapgfakfeddmaaRecUses
import Derived.Test.YtmapgfakfeddmaaRecUsed
import Derived.Test.YtmapgfakfeddmaaRecRefBytes
namespace Go.Proofs.Ytmapgfakfeddmaa
open Go.RowKit
set_option linter.unusedVariables false

theorem used_fits {r : Rec} (h : r.fits) : r.used.fits := by
  refine ⟨?_, ?_, ?_, ?_, ?_⟩
  · show (if r.k ≤ 2 then r.c else Ch.zero).fits
    by_cases hk : r.k ≤ 2
    · rw [if_pos hk]
      exact h.c
    · rw [if_neg hk]
      exact zero_fits
  · show (if r.k = 8 then r.ts else []).length ≤ maxLen
    by_cases hk : r.k = 8
    · rw [if_pos hk]
      exact h.tl
    · rw [if_neg hk]
      exact Nat.zero_le _
  · show (if r.k = 8 then r.ds else []).length ≤ maxLen
    by_cases hk : r.k = 8
    · rw [if_pos hk]
      exact h.dl
    · rw [if_neg hk]
      exact Nat.zero_le _
  · show ∀ x ∈ (if r.k = 8 then r.ts else []), x.fits
    by_cases hk : r.k = 8
    · rw [if_pos hk]
      exact h.ts
    · rw [if_neg hk]
      exact fun x hx => nomatch hx
  · show ∀ x ∈ (if r.k = 8 then r.ds else []), x.fits
    by_cases hk : r.k = 8
    · rw [if_pos hk]
      exact h.ds
    · rw [if_neg hk]
      exact fun x hx => nomatch hx

theorem load_rc (y : World) (g : Nat) (cs : Array Value) (h : RowAt y g 28 cs) (hz : cs.size = 14) : (Instr.loadAt 28 (.pointer (some ⟨g, 0, none⟩))).run Try.prog y = .ok (.agg cs) y := by
  have h1 := run_loadAt_mid (P := Try.prog) y g 0 28 cs.toList _ (fun j v hv => by rw [Nat.zero_add]; exact h.cell j v (by rw [← Array.getElem?_toList]; exact hv)) Try.underlying28 rfl (by rw [infoRc, Array.length_toList, hz])
  rwa [Array.toArray_toList] at h1
set_option maxRecDepth 4000 in
set_option maxHeartbeats 3200000 in
theorem right_at (r : Rec) (va vb : Value) (w : World) (q : Bool) (Hq : Hid (q = true ↔ r.right)) (hf : r.fits) (hin : RcIn w r va vb) :
    Calls Try.prog 13 #[.agg (rcA r va vb)] w fun e w' => e = .returned (.bool q) ∧ Below w.heap.size w w' := by
  have HIN := hide hin
  have HFI := hide hf
  clear hin hf
  have HK0 := hide (Keeps.one w 28 (rcA r va vb))
  have HF : Hid (¬ r.right → q = false) := fun h => by
    cases q
    · rfl
    · exact absurd (Hq.out.1 rfl) h
  have HT : Hid (r.right → q = true) := fun h => Hq.out.2 h
  clear Hq
  by_cases l1 : (1 : Int) ≤ (r.l : Int)
  case neg =>
    obtain rfl := HF.out (fun h => by have := h.l1; omega)
    have l1f : ((1 : Int) ≤ (r.l : Int)) = False := eq_false l1
    clear HF HT HIN HFI l1
    go_enter Try.func13, Try.ntmps13
    go_wp2_with fail
    refine wp_region_in (fun y => Keeps w y [(w.heap.size, 28, rcA r va vb)]) (by kernel_rfl) (by kernel_rfl) HK0.out.drew ?_
    clear HK0
    repeat (first
      | go_big_quiet_skip
      | (refine wpQuiet_load rfl 22 (.tmp 3) rfl _ (.int .u64 (r.l : Int)) rfl (fun y hy => load_u64 y _ (hy.1.1.cell 1 _ rfl)) ?_; simp only [Act.put, Array.setIfInBounds, List.size_toArray, List.length_cons, List.length_nil, Nat.reduceAdd, Nat.reduceLT, ↓reduceDIte, List.set_toArray, List.set_cons_succ, List.set_cons_zero])
      | (refine wpQuiet_plain rfl (fun K hK => ?_); go_simp; refine hK _ ?_; clear hK K))
    refine wpQuiet_nil ?_
    intro w3 h3
    have d3 := h3.2
    clear h3
    go_wp2
    go_ret
    exact ⟨by rfl, d3⟩
  by_cases l2 : (r.l : Int) ≤ 4611686018427387904
  case neg =>
    obtain rfl := HF.out (fun h => by have := h.lm; unfold maxP at this; omega)
    have l2f : ((r.l : Int) ≤ 4611686018427387904) = False := eq_false l2
    clear HF HT HIN HFI l2
    go_enter Try.func13, Try.ntmps13
    go_wp2_with fail
    refine wp_region_in (fun y => Keeps w y [(w.heap.size, 28, rcA r va vb)]) (by kernel_rfl) (by kernel_rfl) HK0.out.drew ?_
    clear HK0
    repeat (first
      | go_big_quiet_skip
      | (refine wpQuiet_load rfl 22 (.tmp 3) rfl _ (.int .u64 (r.l : Int)) rfl (fun y hy => load_u64 y _ (hy.1.1.cell 1 _ rfl)) ?_; simp only [Act.put, Array.setIfInBounds, List.size_toArray, List.length_cons, List.length_nil, Nat.reduceAdd, Nat.reduceLT, ↓reduceDIte, List.set_toArray, List.set_cons_succ, List.set_cons_zero])
      | (refine wpQuiet_load rfl 22 (.tmp 7) rfl _ (.int .u64 (r.l : Int)) rfl (fun y hy => load_u64 y _ (hy.1.1.cell 1 _ rfl)) ?_; simp only [Act.put, Array.setIfInBounds, List.size_toArray, List.length_cons, List.length_nil, Nat.reduceAdd, Nat.reduceLT, ↓reduceDIte, List.set_toArray, List.set_cons_succ, List.set_cons_zero])
      | (refine wpQuiet_plain rfl (fun K hK => ?_); go_simp; refine hK _ ?_; clear hK K))
    refine wpQuiet_nil ?_
    intro w3 h3
    have d3 := h3.2
    clear h3
    go_wp2
    go_ret
    exact ⟨by rfl, d3⟩
  have l2t : ((r.l : Int) ≤ 4611686018427387904) = True := eq_true l2
  have HLM : Hid (1 ≤ r.l ∧ r.l ≤ maxP) := ⟨by omega, by unfold maxP; omega⟩
  clear l2
  by_cases hu : r.uses
  case neg =>
    obtain rfl := HF.out (fun h => hu (right_uses.1 h).2.2.1)
    have HU := hide (fun x h => uses_any r va vb x false (hide ⟨fun h => (nomatch h), fun h => absurd h hu⟩) h)
    clear HF HT HFI hu
    go_enter Try.func13, Try.ntmps13
    go_wp2_with fail
    refine wp_region_in (fun y => Keeps w y [(w.heap.size, 28, rcA r va vb)]) (by kernel_rfl) (by kernel_rfl) HK0.out.drew ?_
    clear HK0
    repeat (first
      | go_big_quiet_skip
      | (refine wpQuiet_load rfl 22 (.tmp 3) rfl _ (.int .u64 (r.l : Int)) rfl (fun y hy => load_u64 y _ (hy.1.1.cell 1 _ rfl)) ?_; simp only [Act.put, Array.setIfInBounds, List.size_toArray, List.length_cons, List.length_nil, Nat.reduceAdd, Nat.reduceLT, ↓reduceDIte, List.set_toArray, List.set_cons_succ, List.set_cons_zero])
      | (refine wpQuiet_load rfl 22 (.tmp 7) rfl _ (.int .u64 (r.l : Int)) rfl (fun y hy => load_u64 y _ (hy.1.1.cell 1 _ rfl)) ?_; simp only [Act.put, Array.setIfInBounds, List.size_toArray, List.length_cons, List.length_nil, Nat.reduceAdd, Nat.reduceLT, ↓reduceDIte, List.set_toArray, List.set_cons_succ, List.set_cons_zero])
      | (refine wpQuiet_load rfl 28 (.tmp 1) rfl _ (.agg (rcA r va vb)) rfl (fun y hy => load_rc y _ _ hy.1.1 rfl) ?_; simp only [Act.put, Array.setIfInBounds, List.size_toArray, List.length_cons, List.length_nil, Nat.reduceAdd, Nat.reduceLT, ↓reduceDIte, List.set_toArray, List.set_cons_succ, List.set_cons_zero])
      | (refine wpQuiet_call rfl 24 #[.agg (rcA r va vb)] (.bool false) ?_ (fun x hx => (HU.out x (HIN.out.below hx.2)).mono fun e x' h => ⟨h.1, hx.later h.2⟩) ?_; (intro x; go_simp); simp only [Act.put, Array.setIfInBounds, List.size_toArray, List.length_cons, List.length_nil, Nat.reduceAdd, Nat.reduceLT, ↓reduceDIte, List.set_toArray, List.set_cons_succ, List.set_cons_zero])
      | (refine wpQuiet_plain rfl (fun K hK => ?_); go_simp; refine hK _ ?_; clear hK K))
    refine wpQuiet_nil ?_
    intro w3 h3
    have d3 := h3.2
    clear h3
    go_wp2
    go_ret
    exact ⟨by rfl, d3⟩
  have HU := hide (fun x h => uses_any r va vb x true (hide ⟨fun _ => hu, fun _ => rfl⟩) h)
  have HX := hide (fun x h => used_any r va vb x ⟨hu.1, hu.2.1⟩ h)
  have HQ2 : Hid (q = true ↔ r = r.used) := by
    constructor
    · intro h
      by_cases hd : r = r.used
      · exact hd
      · rw [HF.out (fun h => hd (right_uses.1 h).2.2.2)] at h
        cases h
    · intro hd
      exact HT.out (right_uses.2 ⟨HLM.out.1, HLM.out.2, hu, hd⟩)
  have HS := hide (fun x h => same_at r r.used va vb (uV r va) (uV r vb) x q HQ2 HFI.out (used_fits HFI.out) h (uV_in h))
  clear HF HT HFI HQ2 hu HLM
  go_enter Try.func13, Try.ntmps13
  go_wp2_with fail
  refine wp_region_in (fun y => Keeps w y [(w.heap.size, 28, rcA r va vb)]) (by kernel_rfl) (by kernel_rfl) HK0.out.drew ?_
  clear HK0
  repeat (first
    | go_big_quiet_skip
    | (refine wpQuiet_load rfl 22 (.tmp 3) rfl _ (.int .u64 (r.l : Int)) rfl (fun y hy => load_u64 y _ (hy.1.1.cell 1 _ rfl)) ?_; simp only [Act.put, Array.setIfInBounds, List.size_toArray, List.length_cons, List.length_nil, Nat.reduceAdd, Nat.reduceLT, ↓reduceDIte, List.set_toArray, List.set_cons_succ, List.set_cons_zero])
    | (refine wpQuiet_load rfl 22 (.tmp 7) rfl _ (.int .u64 (r.l : Int)) rfl (fun y hy => load_u64 y _ (hy.1.1.cell 1 _ rfl)) ?_; simp only [Act.put, Array.setIfInBounds, List.size_toArray, List.length_cons, List.length_nil, Nat.reduceAdd, Nat.reduceLT, ↓reduceDIte, List.set_toArray, List.set_cons_succ, List.set_cons_zero])
    | (refine wpQuiet_load rfl 28 (.tmp 1) rfl _ (.agg (rcA r va vb)) rfl (fun y hy => load_rc y _ _ hy.1.1 rfl) ?_; simp only [Act.put, Array.setIfInBounds, List.size_toArray, List.length_cons, List.length_nil, Nat.reduceAdd, Nat.reduceLT, ↓reduceDIte, List.set_toArray, List.set_cons_succ, List.set_cons_zero])
    | (refine wpQuiet_call rfl 24 #[.agg (rcA r va vb)] (.bool true) ?_ (fun x hx => (HU.out x (HIN.out.below hx.2)).mono fun e x' h => ⟨h.1, hx.later h.2⟩) ?_; (intro x; go_simp); simp only [Act.put, Array.setIfInBounds, List.size_toArray, List.length_cons, List.length_nil, Nat.reduceAdd, Nat.reduceLT, ↓reduceDIte, List.set_toArray, List.set_cons_succ, List.set_cons_zero])
    | (refine wpQuiet_call rfl 25 #[.agg (rcA r va vb)] (.agg (rcA r.used (uV r va) (uV r vb))) ?_ (fun x hx => (HX.out x (HIN.out.below hx.2)).mono fun e x' h => ⟨h.1, hx.later h.2⟩) ?_; (intro x; go_simp); simp only [Act.put, Array.setIfInBounds, List.size_toArray, List.length_cons, List.length_nil, Nat.reduceAdd, Nat.reduceLT, ↓reduceDIte, List.set_toArray, List.set_cons_succ, List.set_cons_zero])
    | (refine wpQuiet_call rfl 18 #[.agg (rcA r va vb), .agg (rcA r.used (uV r va) (uV r vb))] (.bool q) ?_ (fun x hx => (HS.out x (HIN.out.below hx.2)).mono fun e x' h => ⟨h.1, hx.later h.2⟩) ?_; (intro x; go_simp); simp only [Act.put, Array.setIfInBounds, List.size_toArray, List.length_cons, List.length_nil, Nat.reduceAdd, Nat.reduceLT, ↓reduceDIte, List.set_toArray, List.set_cons_succ, List.set_cons_zero])
    | (refine wpQuiet_plain rfl (fun K hK => ?_); go_simp; refine hK _ ?_; clear hK K))
  refine wpQuiet_nil ?_
  intro w3 h3
  have d3 := h3.2
  clear h3
  go_wp2
  go_ret
  exact ⟨by rfl, d3⟩

/-- THE CONTRACT. -/
theorem right_any (r : Rec) (va vb : Value) (w : World) (hf : r.fits) (hin : RcIn w r va vb) :
    Calls Try.prog 13 #[.agg (rcA r va vb)] w fun e w' => e = .returned (.bool r.rightB) ∧ Below w.heap.size w w' :=
  right_at r va vb w _ (hide rightB_iff) hf hin
end Go.Proofs.Ytmapgfakfeddmaa
