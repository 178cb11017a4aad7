/-
  Texts that lean on one another, one behind the other: each opens with its own remark.
-/
import Derived.ArgAppend
import Derived.Deep.RegionLawGrows
import Derived.Laws.AppendOwn
import Derived.Laws.AppendOwnNone
import Derived.Lib.AppendStr
import Derived.Lib.AppendZerosOnto
import Derived.Test.YthamodoedlpmdaaProg
import Derived.WalkSpells
import Derived.Laws.CopyOwn
import Derived.Room.AppendFits
import Derived.Laws.OwnMore
import Derived.Test.YthamodoedlpmdaaK01
import Derived.Test.YthamodoedlpmdaaK04
import Derived.Test.YthamodoedlpmdaaK00
import Derived.Test.YthamodoedlpmdaaK03

/-
  The contract of record.Right.
-/
namespace Go.Proofs.Ythamodoedlpmdaa
open Go.RowKit
set_option linter.unusedVariables false

theorem used_fits {r : Rec} (h : r.fits) : r.used.fits := by
  refine ⟨?_, ?_, ?_, ?_, ?_⟩
  · show (if r.k ≤ 2 then r.c else Ch.zero).fits
    by_cases hk : r.k ≤ 2
    · rw [if_pos hk]
      exact h.c
    · rw [if_neg hk]
      exact zero_fits
  · show (if r.k = 8 then r.ts else []).length ≤ maxLen
    by_cases hk : r.k = 8
    · rw [if_pos hk]
      exact h.tl
    · rw [if_neg hk]
      exact Nat.zero_le _
  · show (if r.k = 8 then r.ds else []).length ≤ maxLen
    by_cases hk : r.k = 8
    · rw [if_pos hk]
      exact h.dl
    · rw [if_neg hk]
      exact Nat.zero_le _
  · show ∀ x ∈ (if r.k = 8 then r.ts else []), x.fits
    by_cases hk : r.k = 8
    · rw [if_pos hk]
      exact h.ts
    · rw [if_neg hk]
      exact fun x hx => nomatch hx
  · show ∀ x ∈ (if r.k = 8 then r.ds else []), x.fits
    by_cases hk : r.k = 8
    · rw [if_pos hk]
      exact h.ds
    · rw [if_neg hk]
      exact fun x hx => nomatch hx

theorem load_rc (y : World) (g : Nat) (cs : Array Value) (h : RowAt y g 43 cs) (hz : cs.size = 14) : (Instr.loadAt 43 (.pointer (some ⟨g, 0, none⟩))).run Try.prog y = .ok (.agg cs) y := by
  have h1 := run_loadAt_mid (P := Try.prog) y g 0 43 cs.toList _ (fun j v hv => by rw [Nat.zero_add]; exact h.cell j v (by rw [← Array.getElem?_toList]; exact hv)) Try.underlying43 rfl (by rw [infoRc, Array.length_toList, hz])
  rwa [Array.toArray_toList] at h1
set_option maxRecDepth 4000 in
set_option maxHeartbeats 3200000 in
theorem right_at (r : Rec) (va vb : Value) (w : World) (q : Bool) (Hq : Hid (q = true ↔ r.right)) (hf : r.fits) (hin : RcIn w r va vb) :
    Calls Try.prog 63 #[.agg (rcA r va vb)] w fun e w' => e = .returned (.bool q) ∧ Below w.heap.size w w' := by
  have HIN := hide hin
  have HFI := hide hf
  clear hin hf
  have HK0 := hide (Keeps.one w 43 (rcA r va vb))
  have HF : Hid (¬ r.right → q = false) := fun h => by
    cases q
    · rfl
    · exact absurd (Hq.out.1 rfl) h
  have HT : Hid (r.right → q = true) := fun h => Hq.out.2 h
  clear Hq
  by_cases l1 : (1 : Int) ≤ (r.l : Int)
  case neg =>
    obtain rfl := HF.out (fun h => by have := h.l1; omega)
    have l1f : ((1 : Int) ≤ (r.l : Int)) = False := eq_false l1
    clear HF HT HIN HFI l1
    go_enter Try.func63, Try.ntmps63
    go_wp2_with fail
    refine wp_region_in (fun y => Keeps w y [(w.heap.size, 43, rcA r va vb)]) (by kernel_rfl) (by kernel_rfl) HK0.out.drew ?_
    clear HK0
    repeat (first
      | go_big_quiet_skip
      | (refine wpQuiet_load rfl 31 (.tmp 3) rfl _ (.int .u64 (r.l : Int)) rfl (fun y hy => load_u64 y _ (hy.1.1.cell 1 _ rfl)) ?_; simp only [Act.put, Array.setIfInBounds, List.size_toArray, List.length_cons, List.length_nil, Nat.reduceAdd, Nat.reduceLT, ↓reduceDIte, List.set_toArray, List.set_cons_succ, List.set_cons_zero])
      | (refine wpQuiet_plain rfl (fun K hK => ?_); go_simp; refine hK _ ?_; clear hK K))
    refine wpQuiet_nil ?_
    intro w3 h3
    have d3 := h3.2
    clear h3
    go_wp2
    go_ret
    exact ⟨by rfl, d3⟩
  by_cases l2 : (r.l : Int) ≤ 4611686018427387904
  case neg =>
    obtain rfl := HF.out (fun h => by have := h.lm; unfold maxP at this; omega)
    have l2f : ((r.l : Int) ≤ 4611686018427387904) = False := eq_false l2
    clear HF HT HIN HFI l2
    go_enter Try.func63, Try.ntmps63
    go_wp2_with fail
    refine wp_region_in (fun y => Keeps w y [(w.heap.size, 43, rcA r va vb)]) (by kernel_rfl) (by kernel_rfl) HK0.out.drew ?_
    clear HK0
    repeat (first
      | go_big_quiet_skip
      | (refine wpQuiet_load rfl 31 (.tmp 3) rfl _ (.int .u64 (r.l : Int)) rfl (fun y hy => load_u64 y _ (hy.1.1.cell 1 _ rfl)) ?_; simp only [Act.put, Array.setIfInBounds, List.size_toArray, List.length_cons, List.length_nil, Nat.reduceAdd, Nat.reduceLT, ↓reduceDIte, List.set_toArray, List.set_cons_succ, List.set_cons_zero])
      | (refine wpQuiet_load rfl 31 (.tmp 7) rfl _ (.int .u64 (r.l : Int)) rfl (fun y hy => load_u64 y _ (hy.1.1.cell 1 _ rfl)) ?_; simp only [Act.put, Array.setIfInBounds, List.size_toArray, List.length_cons, List.length_nil, Nat.reduceAdd, Nat.reduceLT, ↓reduceDIte, List.set_toArray, List.set_cons_succ, List.set_cons_zero])
      | (refine wpQuiet_plain rfl (fun K hK => ?_); go_simp; refine hK _ ?_; clear hK K))
    refine wpQuiet_nil ?_
    intro w3 h3
    have d3 := h3.2
    clear h3
    go_wp2
    go_ret
    exact ⟨by rfl, d3⟩
  have l2t : ((r.l : Int) ≤ 4611686018427387904) = True := eq_true l2
  have HLM : Hid (1 ≤ r.l ∧ r.l ≤ maxP) := ⟨by omega, by unfold maxP; omega⟩
  clear l2
  by_cases hu : r.uses
  case neg =>
    obtain rfl := HF.out (fun h => hu (right_uses.1 h).2.2.1)
    have HU := hide (fun x h => uses_any r va vb x false (hide ⟨fun h => (nomatch h), fun h => absurd h hu⟩) h)
    clear HF HT HFI hu
    go_enter Try.func63, Try.ntmps63
    go_wp2_with fail
    refine wp_region_in (fun y => Keeps w y [(w.heap.size, 43, rcA r va vb)]) (by kernel_rfl) (by kernel_rfl) HK0.out.drew ?_
    clear HK0
    repeat (first
      | go_big_quiet_skip
      | (refine wpQuiet_load rfl 31 (.tmp 3) rfl _ (.int .u64 (r.l : Int)) rfl (fun y hy => load_u64 y _ (hy.1.1.cell 1 _ rfl)) ?_; simp only [Act.put, Array.setIfInBounds, List.size_toArray, List.length_cons, List.length_nil, Nat.reduceAdd, Nat.reduceLT, ↓reduceDIte, List.set_toArray, List.set_cons_succ, List.set_cons_zero])
      | (refine wpQuiet_load rfl 31 (.tmp 7) rfl _ (.int .u64 (r.l : Int)) rfl (fun y hy => load_u64 y _ (hy.1.1.cell 1 _ rfl)) ?_; simp only [Act.put, Array.setIfInBounds, List.size_toArray, List.length_cons, List.length_nil, Nat.reduceAdd, Nat.reduceLT, ↓reduceDIte, List.set_toArray, List.set_cons_succ, List.set_cons_zero])
      | (refine wpQuiet_load rfl 43 (.tmp 1) rfl _ (.agg (rcA r va vb)) rfl (fun y hy => load_rc y _ _ hy.1.1 rfl) ?_; simp only [Act.put, Array.setIfInBounds, List.size_toArray, List.length_cons, List.length_nil, Nat.reduceAdd, Nat.reduceLT, ↓reduceDIte, List.set_toArray, List.set_cons_succ, List.set_cons_zero])
      | (refine wpQuiet_call rfl 79 #[.agg (rcA r va vb)] (.bool false) ?_ (fun x hx => (HU.out x (HIN.out.below hx.2)).mono fun e x' h => ⟨h.1, hx.later h.2⟩) ?_; (intro x; go_simp); simp only [Act.put, Array.setIfInBounds, List.size_toArray, List.length_cons, List.length_nil, Nat.reduceAdd, Nat.reduceLT, ↓reduceDIte, List.set_toArray, List.set_cons_succ, List.set_cons_zero])
      | (refine wpQuiet_plain rfl (fun K hK => ?_); go_simp; refine hK _ ?_; clear hK K))
    refine wpQuiet_nil ?_
    intro w3 h3
    have d3 := h3.2
    clear h3
    go_wp2
    go_ret
    exact ⟨by rfl, d3⟩
  have HU := hide (fun x h => uses_any r va vb x true (hide ⟨fun _ => hu, fun _ => rfl⟩) h)
  have HX := hide (fun x h => used_any r va vb x ⟨hu.1, hu.2.1⟩ h)
  have HQ2 : Hid (q = true ↔ r = r.used) := by
    constructor
    · intro h
      by_cases hd : r = r.used
      · exact hd
      · rw [HF.out (fun h => hd (right_uses.1 h).2.2.2)] at h
        cases h
    · intro hd
      exact HT.out (right_uses.2 ⟨HLM.out.1, HLM.out.2, hu, hd⟩)
  have HS := hide (fun x h => same_at r r.used va vb (uV r va) (uV r vb) x q HQ2 HFI.out (used_fits HFI.out) h (uV_in h))
  clear HF HT HFI HQ2 hu HLM
  go_enter Try.func63, Try.ntmps63
  go_wp2_with fail
  refine wp_region_in (fun y => Keeps w y [(w.heap.size, 43, rcA r va vb)]) (by kernel_rfl) (by kernel_rfl) HK0.out.drew ?_
  clear HK0
  repeat (first
    | go_big_quiet_skip
    | (refine wpQuiet_load rfl 31 (.tmp 3) rfl _ (.int .u64 (r.l : Int)) rfl (fun y hy => load_u64 y _ (hy.1.1.cell 1 _ rfl)) ?_; simp only [Act.put, Array.setIfInBounds, List.size_toArray, List.length_cons, List.length_nil, Nat.reduceAdd, Nat.reduceLT, ↓reduceDIte, List.set_toArray, List.set_cons_succ, List.set_cons_zero])
    | (refine wpQuiet_load rfl 31 (.tmp 7) rfl _ (.int .u64 (r.l : Int)) rfl (fun y hy => load_u64 y _ (hy.1.1.cell 1 _ rfl)) ?_; simp only [Act.put, Array.setIfInBounds, List.size_toArray, List.length_cons, List.length_nil, Nat.reduceAdd, Nat.reduceLT, ↓reduceDIte, List.set_toArray, List.set_cons_succ, List.set_cons_zero])
    | (refine wpQuiet_load rfl 43 (.tmp 1) rfl _ (.agg (rcA r va vb)) rfl (fun y hy => load_rc y _ _ hy.1.1 rfl) ?_; simp only [Act.put, Array.setIfInBounds, List.size_toArray, List.length_cons, List.length_nil, Nat.reduceAdd, Nat.reduceLT, ↓reduceDIte, List.set_toArray, List.set_cons_succ, List.set_cons_zero])
    | (refine wpQuiet_call rfl 79 #[.agg (rcA r va vb)] (.bool true) ?_ (fun x hx => (HU.out x (HIN.out.below hx.2)).mono fun e x' h => ⟨h.1, hx.later h.2⟩) ?_; (intro x; go_simp); simp only [Act.put, Array.setIfInBounds, List.size_toArray, List.length_cons, List.length_nil, Nat.reduceAdd, Nat.reduceLT, ↓reduceDIte, List.set_toArray, List.set_cons_succ, List.set_cons_zero])
    | (refine wpQuiet_call rfl 81 #[.agg (rcA r va vb)] (.agg (rcA r.used (uV r va) (uV r vb))) ?_ (fun x hx => (HX.out x (HIN.out.below hx.2)).mono fun e x' h => ⟨h.1, hx.later h.2⟩) ?_; (intro x; go_simp); simp only [Act.put, Array.setIfInBounds, List.size_toArray, List.length_cons, List.length_nil, Nat.reduceAdd, Nat.reduceLT, ↓reduceDIte, List.set_toArray, List.set_cons_succ, List.set_cons_zero])
    | (refine wpQuiet_call rfl 80 #[.agg (rcA r va vb), .agg (rcA r.used (uV r va) (uV r vb))] (.bool q) ?_ (fun x hx => (HS.out x (HIN.out.below hx.2)).mono fun e x' h => ⟨h.1, hx.later h.2⟩) ?_; (intro x; go_simp); simp only [Act.put, Array.setIfInBounds, List.size_toArray, List.length_cons, List.length_nil, Nat.reduceAdd, Nat.reduceLT, ↓reduceDIte, List.set_toArray, List.set_cons_succ, List.set_cons_zero])
    | (refine wpQuiet_plain rfl (fun K hK => ?_); go_simp; refine hK _ ?_; clear hK K))
  refine wpQuiet_nil ?_
  intro w3 h3
  have d3 := h3.2
  clear h3
  go_wp2
  go_ret
  exact ⟨by rfl, d3⟩

/-- THE CONTRACT. -/
theorem right_any (r : Rec) (va vb : Value) (w : World) (hf : r.fits) (hin : RcIn w r va vb) :
    Calls Try.prog 63 #[.agg (rcA r va vb)] w fun e w' => e = .returned (.bool r.rightB) ∧ Below w.heap.size w w' :=
  right_at r va vb w _ (hide rightB_iff) hf hin
end Go.Proofs.Ythamodoedlpmdaa

/-
  Bytes put behind bytes where there is no room: a new row. Of no program.
-/
namespace Go.Proofs.Ythamodoedlpmdaa
open Go.RowKit
set_option linter.unusedVariables false

theorem isB_cells {w : World} {b off n : Nat} {bs : List UInt8} (h : IsB w (some ⟨b, off, none⟩) n bs) : ∀ j u, (toV bs)[j]? = some u → w.cell? ((⟨b, off, none⟩ : Addr).add j) = some u := by
  intro j u hu
  have hj : j < bs.length := by
    have := (List.getElem?_eq_some_iff.1 hu).1
    rwa [toV_length] at this
  obtain ⟨b', off', hb, _, hc⟩ := h.2 (by have := h.1; omega)
  cases hb
  rw [Addr.add_lit, hc j (by have := h.1; omega), ← toV_get bs j hj]
  exact hu

theorem wpList_append_b {P : Program} (w : World) {ops : Array Oper} {rest : List Oper} {o : Oper} {a : Act} {Q : Exit → Act → World → Prop}
    (hg : o.guard = none) (s x : Operand) (t : TypeId) (hop : o.op = Op.call { callee := Callee.builtin Builtin.append, args := #[s, x], argTypes := #[t, t] })
    (e : TypeId) (ht : P.underlying t = some (.slice e)) (hi : (P.info? e).map (fun i => (i.zero, i.size, i.bytes)) = some (some (.int .u8 0), 1, 1))
    (b off n cap : Nat) (xs : List UInt8) (hs : a.eval s = .slice (some ⟨b, off, none⟩) n cap) (hB : IsB w (some ⟨b, off, none⟩) n xs)
    (b2 off2 m c : Nat) (ys : List UInt8) (hx : a.eval x = .slice (some ⟨b2, off2, none⟩) m c) (hB2 : IsB w (some ⟨b2, off2, none⟩) m ys)
    (hfull : cap < n + m) (hz : n + m ≤ 140737488355328)
    (hK : ∀ v' w', w'.ownsRow w.heap.size e 1 v' (n + m) (toV (xs ++ ys)) → w.grownBy w' none → wpList P ops Q rest (a.put o.dst v') w') :
    wpList P ops Q (o :: rest) a w := by
  obtain ⟨i, hi0, hi1⟩ := Option.map_eq_some_iff.1 hi
  simp only [Prod.mk.injEq] at hi1
  refine wpList_append_grows w hg s x t hop e i (.int .u8 0) 1 1 ht hi0 hi1.1 hi1.2.1 hi1.2.2 rfl (by omega) (some ⟨b, off, none⟩) n cap (toV xs) hs (fun h => nomatch h) (by rw [toV_length, hB.1, Nat.mul_one]) ?_
    ⟨b2, off2, none⟩ m c (toV ys) hx (by rw [toV_length, hB2.1, Nat.mul_one]) (isB_cells hB2) ?_ hfull (by unfold maxLen; omega) (by omega) ?_
  · intro b' hb'
    cases hb'
    exact isB_cells hB
  · intro u hu
    obtain ⟨y, _, rfl⟩ := List.mem_map.1 hu
    rfl
  · intro v' w' h1 h2
    refine hK v' w' ?_ h2
    have e2 : toV xs ++ toV ys = toV (xs ++ ys) := by simp [toV]
    rw [← e2]
    exact h1

/-- .. as one step of a region that draws its order. -/
theorem step_append_b {P : Program} {ops : Array Oper} {o : Oper} {a : Act} {w : World} {K : Act → World → Prop} {Q : Exit → Act → World → Prop} {E : Prop}
    (hg : o.guard = none) (s x : Operand) (t : TypeId) (hop : o.op = Op.call { callee := Callee.builtin Builtin.append, args := #[s, x], argTypes := #[t, t] })
    (e : TypeId) (ht : P.underlying t = some (.slice e)) (hi : (P.info? e).map (fun i => (i.zero, i.size, i.bytes)) = some (some (.int .u8 0), 1, 1))
    (b off n cap : Nat) (xs : List UInt8) (hs : a.eval s = .slice (some ⟨b, off, none⟩) n cap) (hB : IsB w (some ⟨b, off, none⟩) n xs)
    (b2 off2 m c : Nat) (ys : List UInt8) (hx : a.eval x = .slice (some ⟨b2, off2, none⟩) m c) (hB2 : IsB w (some ⟨b2, off2, none⟩) m ys)
    (hfull : cap < n + m) (hz : n + m ≤ 140737488355328)
    (hK : ∀ v' w', w'.ownsRow w.heap.size e 1 v' (n + m) (toV (xs ++ ys)) → w.grownBy w' none → K (a.put o.dst v') w') :
    if Region.wanted o (yielded ops a.tmps) = true then Oper.wp P o a w K Q else E := by
  obtain ⟨i, hi0, hi1⟩ := Option.map_eq_some_iff.1 hi
  simp only [Prod.mk.injEq] at hi1
  refine step_append_grows hg s x t hop e i (.int .u8 0) 1 1 ht hi0 hi1.1 hi1.2.1 hi1.2.2 rfl (by omega) (some ⟨b, off, none⟩) n cap (toV xs) hs (fun h => nomatch h) (by rw [toV_length, hB.1, Nat.mul_one]) ?_
    ⟨b2, off2, none⟩ m c (toV ys) hx (by rw [toV_length, hB2.1, Nat.mul_one]) (isB_cells hB2) ?_ hfull (by unfold maxLen; omega) (by omega) ?_
  · intro b' hb'
    cases hb'
    exact isB_cells hB
  · intro u hu
    obtain ⟨y, _, rfl⟩ := List.mem_map.1 hu
    rfl
  · intro v' w' h1 h2
    refine hK v' w' ?_ h2
    have e2 : toV xs ++ toV ys = toV (xs ++ ys) := by simp [toV]
    rw [← e2]
    exact h1
end Go.Proofs.Ythamodoedlpmdaa

/-
  Bytes, a text, zeros put behind bytes that the call owns. Of no program.
-/
namespace Go.Proofs.Ythamodoedlpmdaa
open Go.RowKit
set_option linter.unusedVariables false

section
variable {P : Program} (w : World) {ops : Array Oper} {rest : List Oper} {o : Oper} {a : Act} {Q : Exit → Act → World → Prop}

theorem toV_oneCell (bs : List UInt8) : ∀ u ∈ toV bs, u.oneCell' = true := by
  intro u hu
  obtain ⟨y, _, rfl⟩ := List.mem_map.1 hu
  rfl

/-- append(s, x...), both of bytes, s the call's own. -/
theorem wpList_append_ob (hg : o.guard = none) (s x : Operand) (t : TypeId) (hop : o.op = Op.call { callee := Callee.builtin Builtin.append, args := #[s, x], argTypes := #[t, t] })
    (e : TypeId) (ht : P.underlying t = some (.slice e)) (hi : (P.info? e).map (fun i => (i.zero, i.size, i.bytes)) = some (some (.int .u8 0), 1, 1))
    (base : Nat) (v : Value) (n : Nat) (xs : List UInt8) (hs : a.eval s = v) (hown : w.ownsRow base e 1 v n (toV xs))
    (ad : Option Addr) (m c : Nat) (ys : List UInt8) (hx : a.eval x = .slice ad m c) (hB : IsB w ad m ys) (hnil : ad = none → c = 0) (hz : n + m ≤ 140737488355328) (hbase : base ≤ w.heap.size)
    (hK : ∀ v' w', w'.ownsRow base e 1 v' (n + m) (toV (xs ++ ys)) → w.grownBy w' v.ownBlock → wpList P ops Q rest (a.put o.dst v') w') :
    wpList P ops Q (o :: rest) a w := by
  obtain ⟨i, hi0, hi1⟩ := Option.map_eq_some_iff.1 hi
  simp only [Prod.mk.injEq] at hi1
  have hl := hB.1
  cases ad with
  | none =>
    obtain rfl : m = 0 := by
      by_cases hm : 0 < m
      · obtain ⟨b, off, h1, _⟩ := hB.2 hm
        cases h1
      · omega
    obtain rfl := List.eq_nil_of_length_eq_zero hl
    obtain rfl := hnil rfl
    refine wpList_append_own_none hg s x t hop base e i 1 ht hi0 v n (toV xs) hs hown hx (hK v w ?_ ⟨rfl, rfl, rfl, Nat.le_refl _, fun _ _ _ => rfl⟩)
    simpa using hown
  | some b =>
    refine wpList_append_own w hg s x t hop base e i (.int .u8 0) 1 1 ht hi0 hi1.1 hi1.2.1 hi1.2.2 rfl (by omega) v n (toV xs) hs hown b m c (toV ys) hx (by rw [toV_length, hl, Nat.mul_one]) ?_ (toV_oneCell ys) (by unfold maxLen; omega) (by omega) hbase ?_
    · intro j u hu
      have hj : j < ys.length := by
        have := (List.getElem?_eq_some_iff.1 hu).1
        rwa [toV_length] at this
      obtain ⟨b', off', hb, _, hc⟩ := hB.2 (by omega)
      cases hb
      rw [Addr.add_lit, hc j (by omega), ← toV_get ys j hj]
      exact hu
    · intro v' w' h1 h2 _
      rw [← toV_append] at h1
      exact hK v' w' h1 h2

/-- append(s, x...), x a text. -/
theorem wpList_append_os (hg : o.guard = none) (s x : Operand) (t u : TypeId) (hop : o.op = Op.call { callee := Callee.builtin Builtin.append, args := #[s, x], argTypes := #[t, u] })
    (e : TypeId) (ht : P.underlying t = some (.slice e)) (hu : P.underlying u = some .string) (hi : (P.info? e).map (fun i => (i.zero, i.size, i.bytes)) = some (some (.int .u8 0), 1, 1))
    (base : Nat) (v : Value) (n : Nat) (xs : List UInt8) (hs : a.eval s = v) (hown : w.ownsRow base e 1 v n (toV xs))
    (y : ByteArray) (hx : a.eval x = .string y) (hz : n + y.size ≤ 140737488355328) (hbase : base ≤ w.heap.size)
    (hK : ∀ v' w', w'.ownsRow base e 1 v' (n + y.size) (toV (xs ++ y.data.toList)) → w.grownBy w' v.ownBlock → wpList P ops Q rest (a.put o.dst v') w') :
    wpList P ops Q (o :: rest) a w := by
  obtain ⟨i, hi0, hi1⟩ := Option.map_eq_some_iff.1 hi
  simp only [Prod.mk.injEq] at hi1
  refine Lib.wpList_append_own_string w hg s x t u hop base e i ht hu hi0 hi1.1 hi1.2.1 hi1.2.2 v n (toV xs) hs hown y hx (by unfold maxLen; omega) hz hbase ?_
  intro v' w' h1 h2 _
  rw [toV_str] at h1
  exact hK v' w' h1 h2

theorem zeroCells_one (k : Nat) : Builtin.zeroCells (Value.int .u8 0).cells k = (zrow k).toArray := by
  apply Array.ext'
  have e : (Value.int IntKind.u8 0).cells = #[.int .u8 0] := rfl
  rw [e]
  unfold Builtin.zeroCells zrow
  simp only [Array.toList_map, Array.toList_range]
  apply List.ext_getElem
  · simp
  · intro i h1 h2
    simp [Nat.mod_one]
theorem toV_zeros (k : Nat) : zrow k = toV (List.replicate k 0) := by simp [zrow, toV]

theorem run_append_own_zeros (base : Nat) (t tn ty e : TypeId) (i : TypeInfo) (kn : IntKind) (ht : P.underlying t = some (.slice e)) (htn : P.underlying tn = some (.int kn)) (hi : P.info? e = some i) (hz : i.zero = some (.int .u8 0)) (hsize : i.size = 1) (hby : i.bytes = 1)
    (v : Value) (n : Nat) (xs : List Value) (hown : w.ownsRow base e 1 v n xs) (k : Nat) (h0 : 0 < k) (hbytes : n + k ≤ 140737488355328) (hbase : base ≤ w.heap.size) :
    ∃ v' w', (Builtin.append_ #[t, tn] ty #[v, .int .i64 (k : Int)]).run P w = .ok v' w' ∧ w'.ownsRow base e 1 v' (n + k) (xs ++ zrow k) ∧ w.grownBy w' v.ownBlock := by
  have h63 : n + k ≤ maxLen := by unfold maxLen; omega
  have hxl : xs.length = n := by simpa using hown.1
  have hlen : (xs ++ zrow k).length = (n + k) * 1 := by rw [List.length_append, hxl, zrow_length, Nat.mul_one]
  have grown : ∀ (old : Nat), ∀ (row : Option Nat),
      (w.drew.alloc (.cells (xs.toArray ++ (zrow k).toArray ++ (zrow (grownCap w (n + k) old e - (n + k))).toArray) e)).ownsRow base e 1
        (.slice (some ⟨w.heap.size, 0, none⟩) (n + k) (grownCap w (n + k) old e)) (n + k) (xs ++ zrow k) ∧
      w.grownBy (w.drew.alloc (.cells (xs.toArray ++ (zrow k).toArray ++ (zrow (grownCap w (n + k) old e - (n + k))).toArray) e)) row := by
    intro old row
    have hge := grownCap_ge w (n + k) old e
    have hcm : grownCap w (n + k) old e ≤ maxLen := grownCap_le_maxLen w (n + k) old e h63
    refine ⟨⟨hlen, .inr ⟨w.heap.size, _, _, rfl, hbase, heap_alloc_new w.drew _, hge, hcm, ?_, ?_⟩⟩, ⟨rfl, rfl, rfl, by simp, fun k hk _ => Below.heap_alloc w.drew _ k hk⟩⟩
    · simp only [Array.size_append, List.size_toArray, zrow_length, hxl]
      omega
    · simp only [Array.toList_append, List.append_assoc]
      rw [← List.append_assoc, ← hlen]
      exact List.take_left
  have hk : k ≠ 0 := by omega
  rcases hown.2 with ⟨rfl, rfl⟩ | ⟨g, cap, cur, rfl, hbg, hg, hnc, hcm, hcs, htake⟩
  · have hx : xs = [] := List.eq_nil_of_length_eq_zero hxl
    subst hx
    have hr := Lib.run_append_nil_zeros (P := P) w t tn ty e i (.int .u8 0) .i64 kn ht htn hi hz k h0 (by omega) (by omega) (by rw [hby]; omega)
    have hgr := grown 0 (Value.ownBlock (.slice none 0 0))
    rw [zeroCells_one, zeroCells_one] at hr
    simp only [Nat.zero_add, List.nil_append, Array.empty_append] at hgr ⊢
    exact ⟨_, _, hr, hgr.1, hgr.2⟩
  · by_cases hroom : n + k ≤ cap
    · have hcs' : cur.size = cap := by simpa using hcs
      have hw : IntKind.i64.wrap (k : Int) = k := by rw [IntKind.wrap_i64]; omega
      have h48i : ¬ (281474976710656 < (k : Int) * (i.bytes : Int)) := by rw [hby]; omega
      have hneg : ¬ ((k : Int) < 0) := by omega
      have hst := run_storeCells_at P g n e (zrow k) 0 cur w hg (by rw [zrow_length]; omega) (by intro u hu; rw [toV_zeros] at hu; exact toV_oneCell _ u hu)
      simp only [Nat.add_zero, zrow_length] at hst
      have hr : (Builtin.append_ #[t, tn] ty #[.slice (some ⟨g, 0, none⟩) n cap, .int .i64 (k : Int)]).run P w =
          .ok (.slice (some ⟨g, 0, none⟩) (n + k) cap) (w.setRow g (cur.toList.take n ++ zrow k ++ cur.toList.drop (n + k)).toArray) := by
        have h48i2 : ¬ (281474976710656 < (k : Int)) := by omega
        simp [Builtin.append_, run_underlying ht, run_underlying htn, sizeOf, typeInfo, zeroValue, hi, hz, asInt, asIntOf, hw, hk, hneg, hby, hsize, h48i2, hroom, zeroCells_one, Addr.add_lit, hst]
      refine ⟨_, _, hr, ⟨hlen, .inr ⟨g, cap, _, rfl, hbg, setRow_heap w g cur _ e _ hg, hroom, hcm, ?_, ?_⟩⟩, ⟨rfl, rfl, rfl, by simp, fun k _ hk => setRow_other w g k _ (fun e => hk (by simp [Value.ownBlock, e]))⟩⟩
      · simp only [List.size_toArray, List.length_append, List.length_take, List.length_drop, Array.length_toList, zrow_length]
        omega
      · have ht' : cur.toList.take n = xs := by simpa using htake
        rw [ht', ← hlen]
        exact List.take_left
    · have holds : ∀ j u, xs[j]? = some u → w.cell? ((⟨g, 0, none⟩ : Addr).add j) = some u := hown.cells (g := g) rfl
      have hfo := run_firstCells_some (P := P) w.drew i.size n ⟨g, 0, none⟩ n cap xs (by rw [hsize, hxl, Nat.mul_one]) (by simpa using holds)
      have hr := Lib.run_append_grow_zeros (P := P) w t tn ty e i (.int .u8 0) .i64 kn ht htn hi hz (some ⟨g, 0, none⟩) n cap xs hfo k h0 (by omega) (by omega) (by omega) (by rw [hby]; omega) (by rw [hby]; exact growslice_fits (by omega) (by omega))
      rw [zeroCells_one, zeroCells_one] at hr
      have hgr := grown cap (Value.ownBlock (.slice (some ⟨g, 0, none⟩) n cap))
      exact ⟨_, _, hr, hgr.1, hgr.2⟩

/-- append(s, make([]byte, k)...). -/
theorem wpList_append_oz (hg : o.guard = none) (s x : Operand) (t tn : TypeId) (hop : o.op = Op.call { callee := Callee.builtin Builtin.append, args := #[s, x], argTypes := #[t, tn] })
    (e : TypeId) (kn : IntKind) (ht : P.underlying t = some (.slice e)) (htn : P.underlying tn = some (.int kn)) (hi : (P.info? e).map (fun i => (i.zero, i.size, i.bytes)) = some (some (.int .u8 0), 1, 1))
    (base : Nat) (v : Value) (n : Nat) (xs : List UInt8) (hs : a.eval s = v) (hown : w.ownsRow base e 1 v n (toV xs))
    (k : Nat) (hx : a.eval x = .int .i64 (k : Int)) (h0 : 0 < k) (hz : n + k ≤ 140737488355328) (hbase : base ≤ w.heap.size)
    (hK : ∀ v' w', w'.ownsRow base e 1 v' (n + k) (toV (xs ++ List.replicate k 0)) → w.grownBy w' v.ownBlock → wpList P ops Q rest (a.put o.dst v') w') :
    wpList P ops Q (o :: rest) a w := by
  obtain ⟨i, hi0, hi1⟩ := Option.map_eq_some_iff.1 hi
  simp only [Prod.mk.injEq] at hi1
  obtain ⟨v', w', hr, h1, h2⟩ := run_append_own_zeros (P := P) w base t tn o.type e i kn ht htn hi0 hi1.1 hi1.2.1 hi1.2.2 v n (toV xs) hown k h0 hz hbase
  rw [toV_zeros, ← toV_append] at h1
  exact Lib.wpList_append_run w hg s x t tn hop v _ hs hx v' w' hr (hK v' w' h1 h2)
end
end Go.Proofs.Ythamodoedlpmdaa

/-
  What the program says of bytes.
-/
namespace Go.Proofs.Ythamodoedlpmdaa
open Go.RowKit

theorem info8 : (Try.prog.info? 5).map (fun i => (i.zero, i.size, i.bytes)) = some (some (.int .u8 0), 1, 1) := by kernel_rfl
theorem info8s : (Try.prog.info? 5).map (·.size) = some 1 := by kernel_rfl
end Go.Proofs.Ythamodoedlpmdaa

/-
  The contracts of pack.Fits, pack.longer, pack.Put.
-/
namespace Go.Proofs.Ythamodoedlpmdaa
open Go.RowKit
set_option linter.unusedVariables false

set_option maxRecDepth 4000 in
set_option maxHeartbeats 400000 in
theorem fits_no1 (k n : Int) (w : World) (h : k < 1) :
    Calls Try.prog 68 #[.int .i64 k, .int .u64 n] w fun e w' => e = .returned (.bool false) ∧ w = w' := by
  have h1 : ¬ (1 : Int) ≤ k := by omega
  go_enter Try.func68, Try.ntmps68
  go_wp2
  go_ret
  exact ⟨rfl, rfl⟩

set_option maxRecDepth 4000 in
set_option maxHeartbeats 400000 in
theorem fits_no2 (k n : Int) (w : World) (h : 8 < k) :
    Calls Try.prog 68 #[.int .i64 k, .int .u64 n] w fun e w' => e = .returned (.bool false) ∧ w = w' := by
  have h1 : (1 : Int) ≤ k := by omega
  have h2 : ¬ k ≤ 8 := by omega
  go_enter Try.func68, Try.ntmps68
  go_wp2
  go_ret
  exact ⟨rfl, rfl⟩

set_option maxRecDepth 4000 in
set_option maxHeartbeats 400000 in
theorem fits_yes (k n : Nat) (w : World) (h1 : 1 ≤ k) (h2 : k ≤ 8) (hn : n < 18446744073709551616) :
    Calls Try.prog 68 #[.int .i64 k, .int .u64 n] w fun e w' => e = .returned (.bool (decide (n < 256 ^ k))) ∧ w = w' := by
  have h3 : (1 : Int) ≤ (k : Int) := by omega
  have h4 : (k : Int) ≤ 8 := by omega
  go_enter Try.func68, Try.ntmps68
  go_wp2
  go_ret
  exact ⟨by rw [← shr_zero n k]; rfl, rfl⟩

theorem fits_true (k n : Nat) (w : World) (h1 : 1 ≤ k) (h2 : k ≤ 8) (hn : n < 256 ^ k) :
    Calls Try.prog 68 #[.int .i64 k, .int .u64 n] w fun e w' => e = .returned (.bool true) ∧ w = w' := by
  have F := fits_yes k n w h1 h2 (Nat.lt_of_lt_of_le hn (pow256_le k h2))
  rwa [decide_eq_true hn] at F

theorem fits_false (k n : Int) (w : World) (h : k < 1 ∨ 8 < k ∨ (256 : Int) ^ k.toNat ≤ n) (h0 : 0 ≤ n) (hn : n < 18446744073709551616) :
    Calls Try.prog 68 #[.int .i64 k, .int .u64 n] w fun e w' => e = .returned (.bool false) ∧ w = w' := by
  by_cases h1 : k < 1
  · exact fits_no1 k n w h1
  by_cases h2 : 8 < k
  · exact fits_no2 k n w h2
  obtain ⟨kn, rfl⟩ := Int.eq_ofNat_of_zero_le (show 0 ≤ k by omega)
  obtain ⟨nn, rfl⟩ := Int.eq_ofNat_of_zero_le h0
  have h3 : (256 : Int) ^ kn ≤ (nn : Int) := by rcases h with h | h | h <;> first | omega | exact h
  have h4 : ((256 ^ kn : Nat) : Int) ≤ (nn : Int) := by simpa using h3
  have F := fits_yes kn nn w (by omega) (by omega) (by omega)
  rwa [decide_eq_false (show ¬ nn < 256 ^ kn by omega)] at F


set_option maxRecDepth 4000 in
set_option maxHeartbeats 400000 in
theorem longer_any (a : Option Addr) (len cap m : Nat) (bs : List UInt8) (w : World) (hB : IsB w a len bs) (hl : len + m ≤ 281474976710656) :
    Calls Try.prog 69 #[.slice a len cap, .int .i64 m] w fun e w' => e = .returned (.slice (some ⟨w.heap.size, 0, none⟩) len (len + m)) ∧
      w'.ownsRow w.heap.size 5 1 (.slice (some ⟨w.heap.size, 0, none⟩) len (len + m)) len (toV bs) ∧ Below w.heap.size w w' := by
  have hmk := run_mk (P := Try.prog) 60 5 Try.underlying60 info8 len m hl
  have hrow : (w.alloc (.cells (zrow (len + m)).toArray 5)).heap[w.heap.size]? = some (.cells (zrow (len + m)).toArray 5 (0, 0)) := heap_alloc_new w _
  go_enter Try.func69, Try.ntmps69
  go_wp2_with (refine wpList_copy_splice rfl (.tmp 13) (.tmp 14) 60 60 rfl 5 Try.underlying60 info8s (some ⟨w.heap.size, 0, none⟩) a len (len + m) len cap rfl rfl w.heap.size 0 (zrow (len + m)) 5 hrow (toV bs) (by rw [toV_length, hB.1]; exact (Nat.min_self _).symm) (hB.hpos _ _) (by rw [toV_length, zrow_length, hB.1]; omega) (toV_one bs) w.heap.size w ((Below.refl _ _).alloc (Nat.le_refl _) _) (Nat.le_refl _) ?_)
  intro w2 HG hb2
  go_wp2
  go_ret
  exact ⟨rfl, owns_spliced hB.1 (Nat.le_refl _) hl HG.out, hb2⟩

set_option maxRecDepth 4000 in
set_option maxHeartbeats 400000 in
theorem put_ok (a : Option Addr) (len cap k n : Nat) (bs : List UInt8) (w : World) (hB : IsB w a len bs) (hl : len + 8 ≤ 281474976710656) (h1 : 1 ≤ k) (h2 : k ≤ 8) (hn : n < 256 ^ k) :
    Calls Try.prog 52 #[.slice a len cap, .int .i64 k, .int .u64 n] w fun e w' => e = .returned (.tuple #[.slice (some ⟨w.heap.size, 0, none⟩) (len + k) (len + k), .int .i64 0]) ∧
      w'.ownsRow w.heap.size 5 1 (.slice (some ⟨w.heap.size, 0, none⟩) (len + k) (len + k)) (len + k) (toV (bs ++ beB k n)) ∧ Below w.heap.size w w' := by
  have hn2 : n < 18446744073709551616 := Nat.lt_of_lt_of_le hn (pow256_le k h2)
  obtain ⟨i0, hi, hz0, hz1, hz2⟩ := info_parts info8
  go_enter Try.func52, Try.ntmps52
  go_wp2_with fail
  refine (fits_true k n _ h1 h2 hn).mono ?_
  rintro e w1 ⟨rfl, rfl⟩
  go_wp2_with fail
  refine (longer_any a len cap k bs _ hB (by omega)).mono ?_
  rintro e w1 ⟨rfl, hown, hbel⟩
  go_wp2
  go_loopw [8, 18] (fun v i wr => ∃ j : Nat, j ≤ k ∧ i = .int .i64 j ∧ v = .slice (some ⟨w.heap.size, 0, none⟩) (len + j) (len + k) ∧ wr.ownsRow w.heap.size 5 1 (.slice (some ⟨w.heap.size, 0, none⟩) (len + j) (len + k)) (len + j) (toV (bs ++ (beB k n).take j)) ∧ Below w.heap.size w wr) (fun _ i _ => k - (intOf i).toNat)
  case atStart => exact ⟨0, Nat.zero_le _, rfl, rfl, by simpa using hown, hbel⟩
  case round =>
    obtain ⟨j, hj, rfl, rfl, hownr, hbr⟩ := hrel
    clear hown hbel
    by_cases hlt : j < k
    · go_wp2_with (at_builtin; refine wpList_append_fits _ rfl (.tmp 21) (.tmp 30) 60 rfl w.heap.size 5 i0 1 Try.underlying60 hi hz1 w.heap.size (len + j) (len + k) _ rfl (hownr.alloc _) ⟨wr.heap.size, 0, none⟩ 1 1 [.int .u8 ((n : Int) / 2 ^ (8 * (k - 1 - j)) % 256)] rfl rfl (cell_one_new _ _ _) (by simp [Value.oneCell']) (by omega) ?_)
      intro w2 hown2 hgr
      rw [byte_at] at hown2
      have hown3 := put_row hown2 (beB_take k n j hlt)
      have hb3 : Below w.heap.size w w2 := (hbr.alloc hbr.size _).grown hgr (by simp; have := hbr.size; omega) (by simp)
      clear hown2 hgr hownr
      go_wp2
      go_roundw
      case rel => exact ⟨j + 1, by omega, by go_num, by simp [Nat.add_assoc], hown3, hb3⟩
      case measure => simp [intOf]; omega
    · go_wp2
      go_ret2
      obtain rfl : j = k := by omega
      exact ⟨rfl, by simpa [List.take_of_length_le, beB_length] using hownr, hbr⟩

set_option maxRecDepth 4000 in
set_option maxHeartbeats 400000 in
theorem put_no (a : Option Addr) (len cap : Nat) (k n : Int) (w : World) (h : k < 1 ∨ 8 < k ∨ (256 : Int) ^ k.toNat ≤ n) (h0 : 0 ≤ n) (hn : n < 18446744073709551616) :
    Calls Try.prog 52 #[.slice a len cap, .int .i64 k, .int .u64 n] w fun e w' => e = .returned (.tuple #[.slice none 0 0, .int .i64 1]) ∧ w = w' := by
  have H : Hid (k < 1 ∨ 8 < k ∨ (256 : Int) ^ k.toNat ≤ n) := h
  clear h
  go_enter Try.func52, Try.ntmps52
  go_wp2_with fail
  refine (fits_false k n _ H.out h0 hn).mono ?_
  rintro e w1 ⟨rfl, rfl⟩
  go_wp2
  go_ret2
  exact ⟨rfl, rfl⟩
end Go.Proofs.Ythamodoedlpmdaa

/-
  The contract of pack.PutText.
-/
namespace Go.Proofs.Ythamodoedlpmdaa
open Go.RowKit
set_option linter.unusedVariables false

set_option maxRecDepth 4000 in
set_option maxHeartbeats 400000 in
theorem puttext_no (a : Option Addr) (len cap : Nat) (s : ByteArray) (w : World) (h : 255 < (s.size : Int)) :
    Calls Try.prog 96 #[.slice a len cap, .string s] w fun e w' => e = .returned (.tuple #[.slice none 0 0, .int .i64 1]) ∧ w = w' := by
  go_enter Try.func96, Try.ntmps96
  go_wp2
  go_ret2
  exact ⟨rfl, rfl⟩

theorem text_row {w : World} {base g len cap : Nat} {e : TypeId} {bs : List UInt8} {s : ByteArray} (h : s.size ≤ 255)
    (hw : w.ownsRow base e 1 (.slice (some ⟨g, 0, none⟩) (len + 1 + s.size) cap) (len + 1 + s.size) (toV bs ++ Value.int .u8 (s.size : Int) :: Lib.strCells s)) :
    w.ownsRow base e 1 (.slice (some ⟨g, 0, none⟩) (len + (1 + s.size)) cap) (len + (1 + s.size)) (toV (bs ++ textB s.data.toList)) := by
  have e1 : toV (bs ++ textB s.data.toList) = toV bs ++ Value.int .u8 (s.size : Int) :: Lib.strCells s := by
    have e2 : ((UInt8.ofNat s.data.toList.length).toNat : Int) = (s.size : Int) := by
      rw [toNat_ofNat]
      simp
      omega
    simp only [toV, textB, List.map_append, List.map_cons, e2, Lib.strCells]
  rw [e1, ← Nat.add_assoc]
  exact hw

set_option maxRecDepth 4000 in
set_option maxHeartbeats 400000 in
theorem puttext_ok (a : Option Addr) (len cap : Nat) (bs : List UInt8) (s : ByteArray) (w : World) (hB : IsB w a len bs) (hl : len + 256 ≤ 281474976710656) (h : s.size ≤ 255) :
    Calls Try.prog 96 #[.slice a len cap, .string s] w fun e w' => e = .returned (.tuple #[.slice (some ⟨w.heap.size, 0, none⟩) (len + (1 + s.size)) (len + (1 + s.size)), .int .i64 0]) ∧
      w'.ownsRow w.heap.size 5 1 (.slice (some ⟨w.heap.size, 0, none⟩) (len + (1 + s.size)) (len + (1 + s.size))) (len + (1 + s.size)) (toV (bs ++ textB s.data.toList)) ∧ Below w.heap.size w w' := by
  obtain ⟨i0, hi, hz0, hz1, hz2⟩ := info_parts info8
  have h1 : ¬ 255 < (s.size : Int) := by omega
  go_enter Try.func96, Try.ntmps96
  go_wp2_with fail
  rw [show (1 : Int) + (s.size : Int) = ((1 + s.size : Nat) : Int) from by omega]
  refine (longer_any a len cap (1 + s.size) bs _ hB (by omega)).mono ?_
  rintro e w1 ⟨rfl, hown, hbel⟩
  go_wp2_with (at_builtin; refine wpList_append_fits _ rfl (.tmp 15) (.tmp 19) 60 rfl w.heap.size 5 i0 1 Try.underlying60 hi hz1 w.heap.size len (len + (1 + s.size)) _ rfl (hown.alloc _) ⟨w1.heap.size, 0, none⟩ 1 1 [.int .u8 (s.size : Int)] rfl rfl (cell_one_new _ _ _) (by simp [Value.oneCell']) (by omega) ?_)
  intro w2 hown2 hgr
  have hb2 : Below w.heap.size w w2 := (hbel.alloc hbel.size _).grown hgr (by simp; have := hbel.size; omega) (by simp)
  clear hgr hown
  go_wp2_with (at_builtin; refine Lib.wpList_append_fits_string _ rfl (.tmp 21) (.tmp 22) 60 9 rfl w.heap.size 5 i0 Try.underlying60 Try.underlying9 hi hz1 (some ⟨w.heap.size, 0, none⟩) (len + 1) (len + (1 + s.size)) _ rfl hown2 s rfl (by omega) (by omega) ?_)
  intro w3 hown3 hgr3
  have hb3 : Below w.heap.size w w3 := hb2.grown hgr3 hb2.size (by simp [Value.ownBlock])
  have hown4 := text_row (bs := bs) (s := s) h hown3
  clear hgr3 hown2 hown3
  go_wp2
  go_ret2
  exact ⟨by simp [Nat.add_assoc], hown4, hb3⟩
end Go.Proofs.Ythamodoedlpmdaa

/-
  The writer of package record: a block that holds a row of bytes; number and text.
-/
namespace Go.Proofs.Ythamodoedlpmdaa
open Go.RowKit
set_option linter.unusedVariables false

/-- A writer in memory, and the bytes that it holds. -/
def Wr (w : World) (g : Nat) (bs : List UInt8) : Prop := ∃ v, RowAt w g 108 #[v] ∧ w.ownsRow (g + 1) 5 1 v bs.length (toV bs)
/-- What a writer's step leaves: all ahead of it, and every struct beside it. -/
structure Mv (g : Nat) (w w' : World) : Prop where
  below : Below g w w'
  rows : ∀ k t cs, k ≠ g → t ≠ 5 → RowAt w k t cs → RowAt w' k t cs
theorem Mv.refl (g : Nat) (w : World) : Mv g w w := ⟨Below.refl _ _, fun _ _ _ _ _ h => h⟩
theorem Mv.trans {g : Nat} {w x y : World} (h : Mv g w x) (k : Mv g x y) : Mv g w y := ⟨h.below.trans k.below, fun a t cs h1 h2 h3 => k.rows a t cs h1 h2 (h.rows a t cs h1 h2 h3)⟩
theorem Mv.later {g : Nat} {w x : World} (hg : g ≤ w.heap.size) (h : Below w.heap.size w x) : Mv g w x := ⟨h.mono hg, fun k t cs _ _ hr => hr.later h⟩
theorem Wr.lt {w : World} {g : Nat} {bs : List UInt8} (h : Wr w g bs) : g < w.heap.size := by
  obtain ⟨v, hr, _⟩ := h
  exact hr.lt
theorem Wr.later {w x : World} {g : Nat} {bs : List UInt8} (h : Wr w g bs) (hb : Below w.heap.size w x) : Wr x g bs := by
  obtain ⟨v, hr, ho⟩ := h
  exact ⟨v, hr.later hb, ownsRow_below ho hb⟩
/-- The writer, and structs beside it. -/
def WK (g : Nat) (w x : World) (bs : List UInt8) (l : List (Nat × TypeId × Array Value)) : Prop := Wr x g bs ∧ Mv g w x ∧ Has x l
def Aside (g : Nat) (l : List (Nat × TypeId × Array Value)) : Prop := ∀ e ∈ l, e.1 ≠ g ∧ e.2.1 ≠ 5
theorem Has.moved {g : Nat} {x y : World} (h : Mv g x y) : ∀ {l : List (Nat × TypeId × Array Value)}, Aside g l → Has x l → Has y l
  | [], _, _ => trivial
  | e :: l, ha, hh => ⟨h.rows _ _ _ (ha e (by simp)).1 (ha e (by simp)).2 hh.1, Has.moved h (fun e he => ha e (by simp [he])) hh.2⟩
theorem WK.step {g : Nat} {w x y : World} {bs cs : List UInt8} {l : List (Nat × TypeId × Array Value)} (h : WK g w x bs l) (hw : Wr y g cs) (hm : Mv g x y) (ha : Aside g l) : WK g w y cs l := ⟨hw, h.2.1.trans hm, h.2.2.moved hm ha⟩

theorem wr_put {w1 w2 : World} {g n k : Nat} {v v' : Value} {bs cs : List UInt8} (hr : RowAt w1 g 108 #[v]) (hown : w1.ownsRow (g + 1) 5 1 v n (toV bs)) (hn : n = bs.length) (hk : k = cs.length)
    (ho : w2.ownsRow (g + 1) 5 1 v' (n + k) (toV (bs ++ cs))) (hg : w1.grownBy w2 v.ownBlock) :
    RowAt w2 g 108 #[v] ∧ Wr (w2.setCell ⟨g, 0, none⟩ v') g (bs ++ cs) ∧ Mv g w1 (w2.setCell ⟨g, 0, none⟩ v') := by
  have hne : ∀ j, j ≤ g → some j ≠ v.ownBlock := fun j hj e => by
    have := (hown.lt j e.symm).1
    omega
  have hr2 : RowAt w2 g 108 #[v] := (hg.block g hr.lt (hne g (Nat.le_refl _))).trans hr
  have hb : Below g w1 w2 := ⟨hg.os, hg.tape, hg.output, hg.size, fun j hj => hg.block j (by have := hr.lt; omega) (hne j (by omega))⟩
  refine ⟨hr2, ⟨v', hr2.set 0 v', ?_⟩, ⟨hb.setCell (Nat.le_refl _) _, fun j t cs' hj ht hrow => ?_⟩⟩
  · have := ownsRow_setCell_below ho (a := ⟨g, 0, none⟩) (by show g < g + 1; omega) v'
    rwa [show n + k = (bs ++ cs).length by rw [List.length_append]; omega] at this
  · refine RowAt.other ((hg.block j hrow.lt ?_).trans hrow) _ _ hj
    intro e
    obtain ⟨-, h2⟩ := hown
    rcases h2 with ⟨h2, _⟩ | ⟨g', cap, cur, h2, -, h4, -⟩
    · subst h2
      cases e
    · subst h2
      simp only [Value.ownBlock, Option.some.injEq] at e
      subst e
      have h5 := hrow.symm.trans h4
      simp only [Option.some.injEq, Obj.cells.injEq] at h5
      exact ht h5.2.1

theorem own_shape {w : World} {base n : Nat} {e : TypeId} {v : Value} {xs : List Value} (h : w.ownsRow base e 1 v n xs) : ∃ a c, v = .slice a n c := by
  rcases h.2 with ⟨h1, h2⟩ | ⟨g', cap, cur, h2, _⟩
  · exact ⟨none, 0, by rw [h1, h2]⟩
  · exact ⟨_, _, h2⟩
theorem textB_len (s : ByteArray) : (textB s.data.toList).length = 1 + s.size := by
  unfold textB
  rw [List.length_cons, data_length]
  omega
theorem isB_nil (w : World) : IsB w none 0 [] := ⟨rfl, fun h => absurd h (by omega)⟩

/-- A load, by its value. -/
theorem wpList_load_val {P : Program} {ops : Array Oper} {rest : List Oper} {o : Oper} {a : Act} {w : World} {Q : Exit → Act → World → Prop} (hw : Region.wanted o (yielded ops a.tmps) = true) (t : TypeId) (x : Operand) (ho : o.op = .load t x) (u v : Value) (hu : a.eval x = u) (hv : (Instr.loadAt t u).run P w = .ok v w)
    (h : wpList P ops Q rest (a.put o.dst v) w) : wpList P ops Q (o :: rest) a w :=
  wpList_val hw v (by unfold execOp; simp only [ho, hu, Sem.run_bind, hv, Result.andThen_ok, Sem.run_pure]) h
theorem load_b8 {b j : Nat} (x : World) (v : Value) (a : Option Addr) (n c : Nat) (hv : v = .slice a n c) (h : x.cell? ⟨b, j, none⟩ = some v) : (Instr.loadAt 60 (.pointer (some ⟨b, j, none⟩))).run Try.prog x = .ok v x := by
  subst hv
  go_simp

set_option maxRecDepth 4000 in
set_option maxHeartbeats 1600000 in
theorem wnum_any (g k n : Nat) (bs : List UInt8) (w : World) (h : Wr w g bs) (hk : 1 ≤ k ∧ k ≤ 8) (hn : n < 256 ^ k) (hl : bs.length ≤ 1000000) :
    Calls Try.prog 64 #[.pointer (some ⟨g, 0, none⟩), .int .i64 (k : Int), .int .u64 (n : Int)] w fun e w' => e = .returned (.tuple #[]) ∧ Wr w' g (bs ++ beB k n) ∧ Mv g w w' := by
  obtain ⟨v, hr, ho⟩ := h
  obtain ⟨a, c, hv⟩ := own_shape ho
  have HP := hide (put_ok none 0 0 k n [] w (isB_nil w) (by omega) hk.1 hk.2 hn)
  simp only [Nat.zero_add, List.nil_append] at HP
  have HV := hide hv
  have HR := hide hr
  have HO := hide ho
  have HLT := hide hr.lt
  have HKK := hide hk
  have HL := hide hl
  clear hr ho hk hl hv
  go_enter Try.func64, Try.ntmps64
  go_wp2_with fail
  refine HP.out.mono ?_
  rintro e w1 ⟨rfl, hrow, hb⟩
  have HR1 := hide (HR.out.later hb)
  have HO1 := hide (ownsRow_below HO.out hb)
  have HM1 := hide (Mv.later (Nat.le_of_lt HR.out.lt) hb)
  have HB1 := hide (hrow.isB (beB_length k n))
  have HS := hide hb.size
  clear hb hrow HP HR HO
  obtain ⟨m, hm⟩ : ∃ m, m = bs.length := ⟨_, rfl⟩
  rw [← hm] at HO1 HL HV
  have HM := hide hm
  clear hm
  generalize w.heap.size = b at *
  go_wp2_with (first | (refine wpList_load_val rfl 60 (.tmp 17) rfl _ v rfl (load_b8 w1 v a m c HV.out (HR1.out.cell 0 v rfl)) ?_) | (at_builtin; refine wpList_append_ob _ rfl (.tmp 18) (.tmp 19) 60 rfl 5 Try.underlying60 info8 (g + 1) v m bs rfl HO1.out (some ⟨b, 0, none⟩) (k) (k) (beB k n) rfl HB1.out (fun h => nomatch h) (by have := HL.out; have := HKK.out.2; omega) (by have := HR1.out.lt; omega) ?_))
  intro v' w2 ho2 hg2
  obtain ⟨hr2, hw2, hm2⟩ := wr_put HR1.out HO1.out HM.out (beB_length k n).symm ho2 hg2
  obtain ⟨a2, c2, rfl⟩ := own_shape ho2
  have HW := hide hw2
  have HMV := hide (HM1.out.trans hm2)
  have f0 := hr2.free 0
  have d2 := hr2.cell 0 _ rfl
  clear ho2 hg2 hr2 hw2 hm2 HR1 HO1 HM1 HB1
  go_wp2
  go_end0
  exact ⟨rfl, HW.out, HMV.out⟩

set_option maxRecDepth 4000 in
set_option maxHeartbeats 1600000 in
theorem wtext_any (g : Nat) (s : ByteArray) (bs : List UInt8) (w : World) (h : Wr w g bs) (hk : s.size ≤ 255) (hl : bs.length ≤ 1000000) :
    Calls Try.prog 82 #[.pointer (some ⟨g, 0, none⟩), .string s] w fun e w' => e = .returned (.tuple #[]) ∧ Wr w' g (bs ++ textB s.data.toList) ∧ Mv g w w' := by
  obtain ⟨v, hr, ho⟩ := h
  obtain ⟨a, c, hv⟩ := own_shape ho
  have HP := hide (puttext_ok none 0 0 [] s w (isB_nil w) (by omega) hk)
  simp only [Nat.zero_add, List.nil_append] at HP
  have HV := hide hv
  have HR := hide hr
  have HO := hide ho
  have HLT := hide hr.lt
  have HKK := hide hk
  have HL := hide hl
  clear hr ho hk hl hv
  go_enter Try.func82, Try.ntmps82
  go_wp2_with fail
  refine HP.out.mono ?_
  rintro e w1 ⟨rfl, hrow, hb⟩
  have HR1 := hide (HR.out.later hb)
  have HO1 := hide (ownsRow_below HO.out hb)
  have HM1 := hide (Mv.later (Nat.le_of_lt HR.out.lt) hb)
  have HB1 := hide (hrow.isB (textB_len s))
  have HS := hide hb.size
  clear hb hrow HP HR HO
  obtain ⟨m, hm⟩ : ∃ m, m = bs.length := ⟨_, rfl⟩
  rw [← hm] at HO1 HL HV
  have HM := hide hm
  clear hm
  generalize w.heap.size = b at *
  go_wp2_with (first | (refine wpList_load_val rfl 60 (.tmp 14) rfl _ v rfl (load_b8 w1 v a m c HV.out (HR1.out.cell 0 v rfl)) ?_) | (at_builtin; refine wpList_append_ob _ rfl (.tmp 15) (.tmp 16) 60 rfl 5 Try.underlying60 info8 (g + 1) v m bs rfl HO1.out (some ⟨b, 0, none⟩) (1 + s.size) (1 + s.size) (textB s.data.toList) rfl HB1.out (fun h => nomatch h) (by have := HL.out; have := HKK.out; omega) (by have := HR1.out.lt; omega) ?_))
  intro v' w2 ho2 hg2
  obtain ⟨hr2, hw2, hm2⟩ := wr_put HR1.out HO1.out HM.out (textB_len s).symm ho2 hg2
  obtain ⟨a2, c2, rfl⟩ := own_shape ho2
  have HW := hide hw2
  have HMV := hide (HM1.out.trans hm2)
  have f0 := hr2.free 0
  have d2 := hr2.cell 0 _ rfl
  clear ho2 hg2 hr2 hw2 hm2 HR1 HO1 HM1 HB1
  go_wp2
  go_end0
  exact ⟨rfl, HW.out, HMV.out⟩

end Go.Proofs.Ythamodoedlpmdaa

/-
  The contract of pack.Take: of any bytes, at any place, in any width it answers 'takeS', and turns nothing.
-/
namespace Go.Proofs.Ythamodoedlpmdaa
open Go.RowKit
set_option linter.unusedVariables false

set_option maxRecDepth 4000 in
set_option maxHeartbeats 400000 in
theorem take_arg1 (a : Option Addr) (len cap : Nat) (p k : Int) (w : World) (h : k < 1) :
    Calls Try.prog 86 #[.slice a len cap, .int .i64 p, .int .i64 k] w fun e w' => e = .returned (.tuple #[.int .u64 0, .int .i64 1]) ∧ w = w' := by
  have h1 : ¬ (1 : Int) ≤ k := by omega
  go_enter Try.func86, Try.ntmps86
  go_wp2
  go_ret2
  exact ⟨rfl, rfl⟩

set_option maxRecDepth 4000 in
set_option maxHeartbeats 400000 in
theorem take_arg2 (a : Option Addr) (len cap : Nat) (p k : Int) (w : World) (h : 8 < k) :
    Calls Try.prog 86 #[.slice a len cap, .int .i64 p, .int .i64 k] w fun e w' => e = .returned (.tuple #[.int .u64 0, .int .i64 1]) ∧ w = w' := by
  have h1 : (1 : Int) ≤ k := by omega
  have h2 : ¬ k ≤ 8 := by omega
  go_enter Try.func86, Try.ntmps86
  go_wp2
  go_ret2
  exact ⟨rfl, rfl⟩

set_option maxRecDepth 4000 in
set_option maxHeartbeats 400000 in
theorem take_arg3 (a : Option Addr) (len cap : Nat) (p k : Int) (w : World) (h1 : 1 ≤ k) (h2 : k ≤ 8) (h3 : p < 0) :
    Calls Try.prog 86 #[.slice a len cap, .int .i64 p, .int .i64 k] w fun e w' => e = .returned (.tuple #[.int .u64 0, .int .i64 1]) ∧ w = w' := by
  go_enter Try.func86, Try.ntmps86
  go_wp2
  go_ret2
  exact ⟨rfl, rfl⟩

set_option maxRecDepth 4000 in
set_option maxHeartbeats 400000 in
theorem take_short (a : Option Addr) (len cap : Nat) (p k : Int) (w : World) (hl : len ≤ 9223372036854775807) (hp : p ≤ 9223372036854775807) (h1 : 1 ≤ k) (h2 : k ≤ 8) (h3 : 0 ≤ p) (h4 : (len : Int) - p < k) :
    Calls Try.prog 86 #[.slice a len cap, .int .i64 p, .int .i64 k] w fun e w' => e = .returned (.tuple #[.int .u64 0, .int .i64 4]) ∧ w = w' := by
  have h5 : ¬ p < 0 := by omega
  go_enter Try.func86, Try.ntmps86
  go_wp2
  go_ret2
  exact ⟨rfl, rfl⟩

set_option maxRecDepth 4000 in
set_option maxHeartbeats 400000 in
theorem take_ok (b off : Nat) (len cap : Nat) (bs : List UInt8) (p k : Nat) (w : World) (hl : len ≤ 9223372036854775807) (h1 : 1 ≤ k) (h2 : k ≤ 8) (h4 : p + k ≤ len) (hb : bs.length = len)
    (hc : ∀ j, j < len → w.cell? ⟨b, off + j, none⟩ = some (.int .u8 ((bs.getD j 0).toNat : Int))) :
    Calls Try.prog 86 #[.slice (some ⟨b, off, none⟩) len cap, .int .i64 p, .int .i64 k] w fun e w' => e = .returned (.tuple #[.int .u64 (beAt bs p k : Nat), .int .i64 0]) ∧ w = w' := by
  have h3 : ¬ (p : Int) < 0 := by omega
  have h5 : ¬ (len : Int) - (p : Int) < (k : Int) := by omega
  have h6 : (1 : Int) ≤ (k : Int) := by omega
  have h7 : (k : Int) ≤ 8 := by omega
  go_enter Try.func86, Try.ntmps86
  go_wp2
  go_loop [8, 24] (fun n i => ∃ j : Nat, j ≤ k ∧ i = .int .i64 j ∧ n = .int .u64 (beAt bs p j : Nat)) (fun _ i => k - (intOf i).toNat)
  case atStart => exact ⟨0, Nat.zero_le _, rfl, by rw [beAt_zero]; rfl⟩
  case round =>
    obtain ⟨j, hj, rfl, rfl⟩ := hrel
    by_cases hlt : j < k
    · have hcj : w.cell? ⟨b, off + (p + j), none⟩ = some (.int .u8 ((bs.getD (p + j) 0).toNat : Int)) := hc (p + j) (by omega)
      have hby : (bs.getD (p + j) 0).toNat < 256 := (bs.getD (p + j) 0).toNat_lt
      have hn := beAt_lt7 bs p j (by omega)
      go_wp2
      go_round
      case rel => exact ⟨j + 1, by omega, by go_num, by rw [take_step bs p j (by omega) (by omega)]⟩
      case measure => simp [intOf]; omega
    · go_wp2
      go_ret2
      obtain rfl : j = k := by omega
      exact ⟨rfl, rfl⟩

/-- THE CONTRACT. -/
theorem take_any (a : Option Addr) (len cap : Nat) (bs : List UInt8) (p k : Int) (w : World) (hB : IsB w a len bs) (hl : len ≤ 9223372036854775807) (hp : p ≤ 9223372036854775807) :
    Calls Try.prog 86 #[.slice a len cap, .int .i64 p, .int .i64 k] w fun e w' => e = .returned (.tuple #[.int .u64 (takeS bs p k).1, .int .i64 (takeS bs p k).2]) ∧ w = w' := by
  obtain ⟨hb, hc⟩ := hB
  by_cases h1 : k < 1
  · rw [takeS_arg bs p k (Or.inl h1)]
    exact take_arg1 a len cap p k w h1
  by_cases h2 : 8 < k
  · rw [takeS_arg bs p k (Or.inr (Or.inl h2))]
    exact take_arg2 a len cap p k w h2
  by_cases h3 : p < 0
  · rw [takeS_arg bs p k (Or.inr (Or.inr h3))]
    exact take_arg3 a len cap p k w (by omega) (by omega) h3
  have h0 : ¬ (k < 1 ∨ 8 < k ∨ p < 0) := by omega
  by_cases h4 : (bs.length : Int) - p < k
  · rw [takeS_short bs p k h0 h4]
    exact take_short a len cap p k w hl hp (by omega) (by omega) (by omega) (by omega)
  · rw [takeS_ok bs p k h0 h4]
    obtain ⟨b, off, rfl, _, hcell⟩ := hc (by omega)
    obtain ⟨pn, rfl⟩ := Int.eq_ofNat_of_zero_le (show 0 ≤ p by omega)
    obtain ⟨kn, rfl⟩ := Int.eq_ofNat_of_zero_le (show 0 ≤ k by omega)
    exact take_ok b off len cap bs pn kn w hl (by omega) (by omega) (by omega) hb hcell
end Go.Proofs.Ythamodoedlpmdaa

/-
  The contract of pack.TakeText: of any bytes, at any place it answers 'textS', and turns nothing.
-/
namespace Go.Proofs.Ythamodoedlpmdaa
open Go.RowKit
set_option linter.unusedVariables false

theorem take_one (b off len cap p : Nat) (bs : List UInt8) (m : Nat) (w : World) (hl : len ≤ 9223372036854775807) (hb : bs.length = len)
    (hc : ∀ j, j < len → w.cell? ⟨b, off + j, none⟩ = some (.int .u8 ((bs.getD j 0).toNat : Int))) (h1 : p < len) (hm : (bs.getD p 0).toNat = m) :
    Calls Try.prog 86 #[.slice (some ⟨b, off, none⟩) len cap, .int .i64 p, .int .i64 1] w fun e w' => e = .returned (.tuple #[.int .u64 m, .int .i64 0]) ∧ w = w' := by
  have T := take_ok b off len cap bs p 1 w hl (by omega) (by omega) (by omega) hb hc
  have e : beAt bs p 1 = m := by
    have e1 : beAt bs p 1 = beAt bs p 0 * 256 + (bs.getD p 0).toNat := beAt_succ bs p 0 (by omega)
    rw [beAt_zero, hm] at e1
    omega
  rw [e] at T
  exact T

set_option maxRecDepth 4000 in
set_option maxHeartbeats 400000 in
theorem ttext_ok (b off len cap p : Nat) (bs : List UInt8) (m : Nat) (w : World) (hl : len ≤ 9223372036854775807) (hcap : len ≤ cap) (hb : bs.length = len)
    (hc : ∀ j, j < len → w.cell? ⟨b, off + j, none⟩ = some (.int .u8 ((bs.getD j 0).toNat : Int))) (hbl : b < w.heap.size) (h1 : p < len) (hm : (bs.getD p 0).toNat = m) (h2 : p + 1 + m ≤ len) :
    Calls Try.prog 109 #[.slice (some ⟨b, off, none⟩) len cap, .int .i64 p] w fun e w' => e = .returned (.tuple #[.string ⟨((bs.drop (p + 1)).take m).toArray⟩, .int .i64 ((p : Int) + 1 + (m : Int)), .int .i64 0]) ∧ w = w' := by
  have T := take_one b off len cap p bs m w hl hb hc h1 hm
  have HT : Hid (Calls Try.prog 86 #[.slice (some ⟨b, off, none⟩) len cap, .int .i64 p, .int .i64 1] w fun e w' => e = .returned (.tuple #[.int .u64 m, .int .i64 0]) ∧ w = w') := T
  clear T
  have hm2 : m < 256 := by rw [← hm]; exact (bs.getD p 0).toNat_lt
  have hcv := run_toString (P := Try.prog) w 60 9 5 Try.underlying60 Try.underlying5 Try.underlying9 (some ⟨b, off + (p + 1), none⟩) m (cap - (p + 1)) _ (IsB.cut hb hbl hc (p + 1) m h2)
  have hcv0 := run_toString (P := Try.prog) w 60 9 5 Try.underlying60 Try.underlying5 Try.underlying9 (some ⟨b, off, none⟩) 0 0 _ (IsB.none_left w _)
  clear hm
  by_cases hcp : cap = p + 1
  · obtain rfl : m = 0 := by omega
    obtain rfl : len = p + 1 := by omega
    subst hcp
    clear hcv
    go_enter Try.func109, Try.ntmps109
    go_wp2_with fail
    refine HT.out.mono ?_
    rintro e w1 ⟨rfl, rfl⟩
    go_wp2
    go_ret3
    exact ⟨by simp, rfl⟩
  · clear hcv0
    go_enter Try.func109, Try.ntmps109
    go_wp2_with fail
    refine HT.out.mono ?_
    rintro e w1 ⟨rfl, rfl⟩
    go_wp2
    go_ret3
    exact ⟨rfl, rfl⟩

set_option maxRecDepth 4000 in
set_option maxHeartbeats 400000 in
theorem ttext_few (b off len cap p : Nat) (bs : List UInt8) (m : Nat) (w : World) (hl : len ≤ 9223372036854775807) (hb : bs.length = len)
    (hc : ∀ j, j < len → w.cell? ⟨b, off + j, none⟩ = some (.int .u8 ((bs.getD j 0).toNat : Int))) (h1 : p < len) (hm : (bs.getD p 0).toNat = m) (h2 : len < p + 1 + m) :
    Calls Try.prog 109 #[.slice (some ⟨b, off, none⟩) len cap, .int .i64 p] w fun e w' => e = .returned (.tuple #[.string ⟨#[]⟩, .int .i64 0, .int .i64 4]) ∧ w = w' := by
  have T := take_one b off len cap p bs m w hl hb hc h1 hm
  have HT : Hid (Calls Try.prog 86 #[.slice (some ⟨b, off, none⟩) len cap, .int .i64 p, .int .i64 1] w fun e w' => e = .returned (.tuple #[.int .u64 m, .int .i64 0]) ∧ w = w') := T
  clear T
  have hm2 : m < 256 := by rw [← hm]; exact (bs.getD p 0).toNat_lt
  clear hm
  go_enter Try.func109, Try.ntmps109
  go_wp2_with fail
  refine HT.out.mono ?_
  rintro e w1 ⟨rfl, rfl⟩
  go_wp2
  go_ret3
  exact ⟨rfl, rfl⟩

set_option maxRecDepth 4000 in
set_option maxHeartbeats 400000 in
theorem ttext_err (a : Option Addr) (len cap : Nat) (p : Int) (x : Int) (w : World) (hx : (x != 0) = true)
    (HT : Hid (Calls Try.prog 86 #[.slice a len cap, .int .i64 p, .int .i64 1] w fun e w' => e = .returned (.tuple #[.int .u64 0, .int .i64 x]) ∧ w = w')) :
    Calls Try.prog 109 #[.slice a len cap, .int .i64 p] w fun e w' => e = .returned (.tuple #[.string ⟨#[]⟩, .int .i64 0, .int .i64 x]) ∧ w = w' := by
  go_enter Try.func109, Try.ntmps109
  go_wp2_with fail
  refine HT.out.mono ?_
  rintro e w1 ⟨rfl, rfl⟩
  go_wp2
  go_ret3
  exact ⟨rfl, rfl⟩

/-- THE CONTRACT. -/
theorem ttext_any (a : Option Addr) (len cap : Nat) (bs : List UInt8) (p : Int) (w : World) (hB : IsB w a len bs) (hl : len ≤ 9223372036854775807) (hcap : len ≤ cap) (hp : p ≤ 9223372036854775807) :
    Calls Try.prog 109 #[.slice a len cap, .int .i64 p] w fun e w' => e = .returned (.tuple #[.string ⟨(textS bs p).1.toArray⟩, .int .i64 (textS bs p).2.1, .int .i64 (textS bs p).2.2]) ∧ w = w' := by
  have hb := hB.1
  by_cases h1 : p < 0
  · rw [textS_arg bs p h1]
    exact ttext_err a len cap p 1 w (by decide) (take_arg3 a len cap p 1 w (by omega) (by omega) h1)
  by_cases h2 : (bs.length : Int) ≤ p
  · rw [textS_short bs p h1 h2]
    exact ttext_err a len cap p 4 w (by decide) (take_short a len cap p 1 w hl hp (by omega) (by omega) (by omega) (by omega))
  obtain ⟨pn, rfl⟩ := Int.eq_ofNat_of_zero_le (show 0 ≤ p by omega)
  obtain ⟨b, off, rfl, hbl, hc⟩ := hB.2 (by omega)
  by_cases h3 : pn + 1 + (bs.getD pn 0).toNat ≤ len
  · rw [textS_ok bs pn _ (by omega) rfl (by omega)]
    exact ttext_ok b off len cap pn bs _ w hl hcap hb hc hbl (by omega) rfl h3
  · rw [textS_few bs pn _ (by omega) rfl (by omega)]
    exact ttext_few b off len cap pn bs _ w hl hb hc (by omega) rfl (by omega)
end Go.Proofs.Ythamodoedlpmdaa

/-
  The reader of package record: number, text, kind, count.
-/
namespace Go.Proofs.Ythamodoedlpmdaa
open Go.RowKit
set_option linter.unusedVariables false

/-- A reader's cells: its bytes, how far they are read, the first error, the record so far. -/
def rdB (v : Value) (k : Nat) (e : Int) (r : Rec) (va vb : Value) : Array Value := #[v, .int .i64 (k : Int), .int .i64 e, .int .i64 r.k, .int .u64 (r.l : Int), .int .i64 r.t, .int .u64 (r.p : Int), .int .i64 r.c.k, .int .i64 r.c.pg, .int .i64 r.c.sl, .string r.c.o, .string r.c.n, .int .u64 (r.n : Int), .int .i64 r.s, .int .u64 (r.b : Int), va, vb]
/-- A reader in memory, and what is left to read. -/
structure RbAt (w : World) (g : Nat) (a : Option Addr) (len cap : Nat) (bs : List UInt8) (s : St) (r : Rec) (va vb : Value) : Prop where
  row : ∃ k : Nat, RowAt w g 130 (rdB (.slice a len cap) k s.e r va vb) ∧ k ≤ bs.length ∧ (s.e = 0 → bs.drop k = s.l)
  bytes : IsB w a len bs
  room : len ≤ 140737488355328 ∧ len ≤ cap
  apart : 0 < len → ∀ x, a = some x → x.block < g

theorem isB_grown {w x : World} {a : Option Addr} {len g : Nat} {bs : List UInt8} (h : IsB w a len bs) (hg : w.grownBy x (some g)) (hn : 0 < len → ∀ y, a = some y → y.block ≠ g) : IsB x a len bs := by
  refine ⟨h.1, fun hp => ?_⟩
  obtain ⟨b, off, ha, hlt, hc⟩ := h.2 hp
  refine ⟨b, off, ha, Nat.lt_of_lt_of_le hlt hg.size, fun j hj => ?_⟩
  rw [World.cell?_of_block (a := ⟨b, off + j, none⟩) (hg.block b hlt (fun e => hn hp _ ha (by cases e; rfl)))]
  exact hc j hj
theorem apart_ne {len g : Nat} {a : Option Addr} (h : 0 < len → ∀ x, a = some x → x.block < g) : 0 < len → ∀ x, a = some x → x.block ≠ g := fun hp x hx => Nat.ne_of_lt (h hp x hx)
theorem row_grown {w x : World} {g k : Nat} {t : TypeId} {cs : Array Value} (h : RowAt w k t cs) (hg : w.grownBy x (some g)) (hn : k ≠ g) : RowAt x k t cs := (hg.block k h.lt (fun e => hn (by cases e; rfl))).trans h
theorem grown_none {w x : World} (h : w.grownBy x none) : Below w.heap.size w x := ⟨h.os, h.tape, h.output, h.size, fun k hk => h.block k hk (by simp)⟩
theorem of_below {w x : World} {o : Option Nat} (h : Below w.heap.size w x) : w.grownBy x o := ⟨h.os, h.tape, h.output, h.size, fun k hk _ => h.block k hk⟩

theorem num_zero {k : Nat} {s : St} (h : (pNum k s).2.e ≠ 0) : (pNum k s).1 = 0 := by
  unfold pNum at h ⊢
  by_cases he : s.e ≠ 0
  · rw [if_pos he]
  · rw [if_neg he] at h ⊢
    by_cases hk : k ≤ s.l.length
    · rw [if_pos hk] at h
      exact absurd rfl h
    · rw [if_neg hk]
theorem text_zero {s : St} (h : (pText s).2.e ≠ 0) : (pText s).1 = ⟨#[]⟩ := by
  unfold pText at h ⊢
  by_cases he : s.e ≠ 0
  · rw [if_pos he]
  · rw [if_neg he] at h ⊢
    cases hs : s.l with
    | nil => rfl
    | cons b l =>
      rw [hs] at h
      simp only at h ⊢
      by_cases hk : b.toNat ≤ l.length
      · rw [if_pos hk] at h
        exact absurd rfl h
      · rw [if_neg hk]

set_option maxRecDepth 4000 in
set_option maxHeartbeats 1600000 in
theorem bnum_any (g : Nat) (a : Option Addr) (len cap : Nat) (bs : List UInt8) (s : St) (r : Rec) (va vb : Value) (k : Nat) (w : World) (hk : 1 ≤ k ∧ k ≤ 8) (h : RbAt w g a len cap bs s r va vb) :
    Calls Try.prog 99 #[.pointer (some ⟨g, 0, none⟩), .int .i64 (k : Int)] w fun e w' => e = .returned (.int .u64 ((pNum k s).1 : Int)) ∧ RbAt w' g a len cap bs (pNum k s).2 r va vb ∧ w.grownBy w' (some g) := by
  obtain ⟨p, hr, hp, hs⟩ := h.row
  have HBY := hide h.bytes
  have HRM := hide h.room
  have HAP := hide h.apart
  have c2 := hr.cell 2 (.int .i64 s.e) rfl
  have HR := hide hr
  have hbl := h.bytes.1
  clear hr h
  by_cases he : s.e = 0
  · obtain ⟨hl⟩ := And.intro (hs he) trivial
    obtain ⟨t1, t2, t3⟩ := num_take ⟨bs.toArray⟩ s p k hk he (by rw [size_mk]; exact hp) hl
    have HT := hide (fun w hB => take_any a len cap bs (p : Int) (k : Int) w hB (by have := HRM.out.1; omega) (by have := HRM.out.1; omega))
    rw [show (⟨bs.toArray⟩ : ByteArray).data.toList = bs from rfl] at t1 t2 t3
    rw [size_mk] at t3
    rw [t1, t2] at HT
    have H3 := hide t3
    have HZ := hide (num_zero (k := k) (s := s))
    have ew : IntKind.i64.wrap ((p : Int) + (k : Int)) = (p : Int) + (k : Int) := by rw [IntKind.wrap_i64]; have := HRM.out.1; omega
    clear t1 t2 t3
    rw [he] at c2 HR
    clear hs hl he
    generalize pNum k s = ns at *
    obtain ⟨n, s'⟩ := ns
    simp only at HT H3 HZ
    go_enter Try.func99, Try.ntmps99
    go_wp2_with fail
    refine wp_region_in (fun x => w.grownBy x none ∧ RowAt x g 130 (rdB (.slice a len cap) p 0 r va vb) ∧ IsB x a len bs) (by kernel_rfl) (by kernel_rfl) ⟨grown_drew (grown_refl w none), HR.out, HBY.out⟩ ?_
    clear HR c2
    repeat (first
      | go_big_quiet_skip
      | (refine wpQuiet_load rfl 60 (.tmp 15) rfl _ (.slice a len cap) rfl (fun y hy => load_b8 y _ a len cap rfl (hy.2.1.cell 0 _ rfl)) ?_; simp only [Act.put, Array.setIfInBounds, List.size_toArray, List.length_cons, List.length_nil, Nat.reduceAdd, Nat.reduceLT, ↓reduceDIte, List.set_toArray, List.set_cons_succ, List.set_cons_zero])
      | (refine wpQuiet_load rfl 3 (.tmp 19) rfl _ (.int .i64 (p : Int)) rfl (fun y hy => load_i64 y (p : Int) (hy.2.1.cell 1 (.int .i64 (p : Int)) rfl)) ?_; simp only [Act.put, Array.setIfInBounds, List.size_toArray, List.length_cons, List.length_nil, Nat.reduceAdd, Nat.reduceLT, ↓reduceDIte, List.set_toArray, List.set_cons_succ, List.set_cons_zero])
      | (refine wpQuiet_call rfl 86 #[.slice a len cap, .int .i64 (p : Int), .int .i64 (k : Int)] (.tuple #[.int .u64 (n : Int), .int .i64 s'.e]) ?_ (fun x hC => (HT.out x hC.2.2).mono fun e x' h => ⟨h.1, h.2 ▸ hC⟩) ?_; (intro x; go_simp); simp only [Act.put, Array.setIfInBounds, List.size_toArray, List.length_cons, List.length_nil, Nat.reduceAdd, Nat.reduceLT, ↓reduceDIte, List.set_toArray, List.set_cons_succ, List.set_cons_zero])
      | (refine wpQuiet_plain rfl (fun K hK => ?_); go_simp; refine hK _ ?_; clear hK K))
    refine wpQuiet_nil ?_
    intro x hx
    have q1 := hx.2.1.cell 1 (.int .i64 (p : Int)) rfl
    have q2 := hx.2.1.cell 2 (.int .i64 0) rfl
    have f1 := hx.2.1.free 1
    have f2 := hx.2.1.free 2
    have HG := hide (grown_any (o := some g) hx.1)
    by_cases h0 : s'.e = 0
    · have HX : Hid (RbAt (x.setCell ⟨g, 1, none⟩ (.int .i64 ((p : Int) + (k : Int)))) g a len cap bs s' r va vb ∧ w.grownBy (x.setCell ⟨g, 1, none⟩ (.int .i64 ((p : Int) + (k : Int)))) (some g)) := by
        have hg := grown_set (j := 1) (.int .i64 ((p : Int) + (k : Int))) HG.out
        refine ⟨⟨⟨p + k, ?_, (H3.out h0).1, fun _ => (H3.out h0).2⟩, isB_grown HBY.out hg (apart_ne HAP.out), HRM.out, HAP.out⟩, hg⟩
        rw [h0]
        have h := hx.2.1.set 1 (.int .i64 ((p + k : Nat) : Int))
        rw [show ((p + k : Nat) : Int) = (p : Int) + (k : Int) by omega] at h
        unfold rdB at h ⊢
        rw [show ((p + k : Nat) : Int) = (p : Int) + (k : Int) by omega]
        exact h
      rw [h0]
      clear hx HT H3 HZ HG HBY HRM HAP h0
      go_wp2
      go_ret
      exact ⟨rfl, HX.out.1, HX.out.2⟩
    · have HX : Hid (RbAt (x.setCell ⟨g, 2, none⟩ (.int .i64 s'.e)) g a len cap bs s' r va vb ∧ w.grownBy (x.setCell ⟨g, 2, none⟩ (.int .i64 s'.e)) (some g)) := by
        have hg := grown_set (j := 2) (.int .i64 s'.e) HG.out
        exact ⟨⟨⟨p, hx.2.1.set 2 (.int .i64 s'.e), hp, fun h => absurd h h0⟩, isB_grown HBY.out hg (apart_ne HAP.out), HRM.out, HAP.out⟩, hg⟩
      have n0 := HZ.out h0
      have k0 : (s'.e == 0) = false := by rw [beq_eq_false_iff_ne]; exact h0
      have k1 : (s'.e != 0) = true := by rw [bne, k0]; rfl
      clear hx HT H3 HZ HG HBY HRM HAP h0
      have HN := hide n0
      clear n0
      generalize s'.e = es at *
      go_wp2
      go_ret
      exact ⟨by rw [HN.out]; rfl, HX.out.1, HX.out.2⟩
  · have e : pNum k s = (0, s) := by unfold pNum; rw [if_pos he]
    rw [e]
    have k0 : (s.e == 0) = false := by rw [beq_eq_false_iff_ne]; exact he
    have k1 : (s.e != 0) = true := by rw [bne, k0]; rfl
    have HP := hide (show RbAt w g a len cap bs s r va vb from ⟨⟨p, HR.out, hp, hs⟩, HBY.out, HRM.out, HAP.out⟩)
    clear HR he hs e
    generalize s.e = es at *
    go_enter Try.func99, Try.ntmps99
    go_wp2
    go_ret
    exact ⟨rfl, HP.out, grown_refl _ _⟩

set_option maxRecDepth 4000 in
set_option maxHeartbeats 1600000 in
theorem btext_any (g : Nat) (a : Option Addr) (len cap : Nat) (bs : List UInt8) (s : St) (r : Rec) (va vb : Value) (w : World) (h : RbAt w g a len cap bs s r va vb) :
    Calls Try.prog 107 #[.pointer (some ⟨g, 0, none⟩)] w fun e w' => e = .returned (.string (pText s).1) ∧ RbAt w' g a len cap bs (pText s).2 r va vb ∧ w.grownBy w' (some g) := by
  obtain ⟨p, hr, hp, hs⟩ := h.row
  have HBY := hide h.bytes
  have HRM := hide h.room
  have HAP := hide h.apart
  have c2 := hr.cell 2 (.int .i64 s.e) rfl
  have HR := hide hr
  have hbl := h.bytes.1
  clear hr h
  by_cases he : s.e = 0
  · obtain ⟨hl⟩ := And.intro (hs he) trivial
    obtain ⟨k2, t1, t2, t3, t4, t5⟩ := text_take ⟨bs.toArray⟩ s p he (by rw [size_mk]; exact hp) hl
    have HT := hide (fun w hB => ttext_any a len cap bs (p : Int) w hB (by have := HRM.out.1; omega) HRM.out.2 (by have := HRM.out.1; omega))
    rw [show (⟨bs.toArray⟩ : ByteArray).data.toList = bs from rfl] at t1 t3 t4 t5
    rw [size_mk] at t2
    rw [t1, t3, t4] at HT
    have H3 := hide (fun h => And.intro t2 (t5 h))
    have HZ := hide (text_zero (s := s))
    clear t1 t2 t3 t4 t5
    rw [he] at c2 HR
    clear hs hl he
    generalize pText s = ns at *
    obtain ⟨n, s'⟩ := ns
    simp only at HT H3 HZ
    go_enter Try.func107, Try.ntmps107
    go_wp2_with fail
    refine wp_region_in (fun x => w.grownBy x none ∧ RowAt x g 130 (rdB (.slice a len cap) p 0 r va vb) ∧ IsB x a len bs) (by kernel_rfl) (by kernel_rfl) ⟨grown_drew (grown_refl w none), HR.out, HBY.out⟩ ?_
    clear HR c2
    repeat (first
      | go_big_quiet_skip
      | (refine wpQuiet_load rfl 60 (.tmp 14) rfl _ (.slice a len cap) rfl (fun y hy => load_b8 y _ a len cap rfl (hy.2.1.cell 0 _ rfl)) ?_; simp only [Act.put, Array.setIfInBounds, List.size_toArray, List.length_cons, List.length_nil, Nat.reduceAdd, Nat.reduceLT, ↓reduceDIte, List.set_toArray, List.set_cons_succ, List.set_cons_zero])
      | (refine wpQuiet_load rfl 3 (.tmp 18) rfl _ (.int .i64 (p : Int)) rfl (fun y hy => load_i64 y (p : Int) (hy.2.1.cell 1 (.int .i64 (p : Int)) rfl)) ?_; simp only [Act.put, Array.setIfInBounds, List.size_toArray, List.length_cons, List.length_nil, Nat.reduceAdd, Nat.reduceLT, ↓reduceDIte, List.set_toArray, List.set_cons_succ, List.set_cons_zero])
      | (refine wpQuiet_call rfl 109 #[.slice a len cap, .int .i64 (p : Int)] (.tuple #[.string n, .int .i64 (k2 : Int), .int .i64 s'.e]) ?_ (fun x hC => (HT.out x hC.2.2).mono fun e x' h => ⟨h.1, h.2 ▸ hC⟩) ?_; (intro x; go_simp); simp only [Act.put, Array.setIfInBounds, List.size_toArray, List.length_cons, List.length_nil, Nat.reduceAdd, Nat.reduceLT, ↓reduceDIte, List.set_toArray, List.set_cons_succ, List.set_cons_zero])
      | (refine wpQuiet_plain rfl (fun K hK => ?_); go_simp; refine hK _ ?_; clear hK K))
    refine wpQuiet_nil ?_
    intro x hx
    have q1 := hx.2.1.cell 1 (.int .i64 (p : Int)) rfl
    have q2 := hx.2.1.cell 2 (.int .i64 0) rfl
    have f1 := hx.2.1.free 1
    have f2 := hx.2.1.free 2
    have HG := hide (grown_any (o := some g) hx.1)
    by_cases h0 : s'.e = 0
    · have HX : Hid (RbAt (x.setCell ⟨g, 1, none⟩ (.int .i64 (k2 : Int))) g a len cap bs s' r va vb ∧ w.grownBy (x.setCell ⟨g, 1, none⟩ (.int .i64 (k2 : Int))) (some g)) := by
        have hg := grown_set (j := 1) (.int .i64 ((k2 : Int))) HG.out
        refine ⟨⟨⟨k2, ?_, (H3.out h0).1, fun _ => (H3.out h0).2⟩, isB_grown HBY.out hg (apart_ne HAP.out), HRM.out, HAP.out⟩, hg⟩
        rw [h0]
        have h := hx.2.1.set 1 (.int .i64 ((k2 : Nat) : Int))
        skip
        skip
        skip
        exact h
      rw [h0]
      clear hx HT H3 HZ HG HBY HRM HAP h0
      go_wp2
      go_ret
      exact ⟨rfl, HX.out.1, HX.out.2⟩
    · have HX : Hid (RbAt (x.setCell ⟨g, 2, none⟩ (.int .i64 s'.e)) g a len cap bs s' r va vb ∧ w.grownBy (x.setCell ⟨g, 2, none⟩ (.int .i64 s'.e)) (some g)) := by
        have hg := grown_set (j := 2) (.int .i64 s'.e) HG.out
        exact ⟨⟨⟨p, hx.2.1.set 2 (.int .i64 s'.e), hp, fun h => absurd h h0⟩, isB_grown HBY.out hg (apart_ne HAP.out), HRM.out, HAP.out⟩, hg⟩
      have n0 := HZ.out h0
      have k0 : (s'.e == 0) = false := by rw [beq_eq_false_iff_ne]; exact h0
      have k1 : (s'.e != 0) = true := by rw [bne, k0]; rfl
      clear hx HT H3 HZ HG HBY HRM HAP h0
      have HN := hide n0
      clear n0
      generalize s'.e = es at *
      go_wp2
      go_ret
      exact ⟨by rw [HN.out]; rfl, HX.out.1, HX.out.2⟩
  · have e : pText s = (⟨#[]⟩, s) := by unfold pText; rw [if_pos he]
    rw [e]
    have k0 : (s.e == 0) = false := by rw [beq_eq_false_iff_ne]; exact he
    have k1 : (s.e != 0) = true := by rw [bne, k0]; rfl
    have HP := hide (show RbAt w g a len cap bs s r va vb from ⟨⟨p, HR.out, hp, hs⟩, HBY.out, HRM.out, HAP.out⟩)
    clear HR he hs e
    generalize s.e = es at *
    go_enter Try.func107, Try.ntmps107
    go_wp2
    go_ret
    exact ⟨rfl, HP.out, grown_refl _ _⟩

theorem num_lt (k : Nat) (s : St) : (pNum k s).1 < 256 ^ k := by
  have hp : 0 < 256 ^ k := Nat.pow_pos (by omega)
  unfold pNum
  by_cases he : s.e ≠ 0
  · rw [if_pos he]
    exact hp
  · rw [if_neg he]
    by_cases hk : k ≤ s.l.length
    · rw [if_pos hk]
      have h := be_lt (s.l.take k)
      rw [List.length_take, Nat.min_eq_left hk] at h
      exact h
    · rw [if_neg hk]
      exact hp
theorem in_val (lo hi : Nat) (s : St) : (pIn lo hi s).1 = (pNum 1 s).1 := by
  unfold pIn
  split <;> rfl

set_option maxRecDepth 4000 in
set_option maxHeartbeats 1600000 in
theorem bkind_any (g : Nat) (a : Option Addr) (len cap : Nat) (bs : List UInt8) (s : St) (r : Rec) (va vb : Value) (w : World) (h : RbAt w g a len cap bs s r va vb) :
    Calls Try.prog 98 #[.pointer (some ⟨g, 0, none⟩)] w fun e w' => e = .returned (.int .i64 ((pIn 1 8 s).1 : Int)) ∧ RbAt w' g a len cap bs (pIn 1 8 s).2 r va vb ∧ w.grownBy w' (some g) := by
  have HN := hide (bnum_any g a len cap bs s r va vb 1 w (by omega) h)
  have hn := num_lt 1 s
  have HI : Hid ((pIn 1 8 s).2 = (if (pNum 1 s).2.e = 0 ∧ ((pNum 1 s).1 < 1 ∨ 8 < (pNum 1 s).1) then ⟨(pNum 1 s).2.l, 2⟩ else (pNum 1 s).2)) := by
    show (pIn 1 8 s).2 = _
    unfold pIn
    split <;> rfl
  rw [in_val]
  generalize pNum 1 s = ns at *
  obtain ⟨n, s'⟩ := ns
  simp only at HN HI hn ⊢
  have ew : IntKind.i64.wrap (n : Int) = (n : Int) := by rw [IntKind.wrap_i64]; omega
  clear h
  go_enter Try.func98, Try.ntmps98
  go_wp2_with fail
  refine HN.out.mono ?_
  rintro e w1 ⟨rfl, hrb, hg⟩
  have HRB := hide hrb
  have HG := hide hg
  clear HN hrb hg
  obtain ⟨p, hr, hp, hs⟩ := HRB.out.row
  have c2 := hr.cell 2 (.int .i64 s'.e) rfl
  have f2 := hr.free 2
  have HRO := hide hr
  have HHP := hide hp
  clear hr hp hs
  by_cases h0 : s'.e = 0
  · rw [h0] at c2
    by_cases hb : n < 1 ∨ 8 < n
    · have HX : Hid (RbAt (w1.setCell ⟨g, 2, none⟩ (.int .i64 2)) g a len cap bs (pIn 1 8 s).2 r va vb ∧ w.grownBy (w1.setCell ⟨g, 2, none⟩ (.int .i64 2)) (some g)) := by
        rw [HI.out, if_pos ⟨h0, hb⟩]
        have hg := grown_set (j := 2) (.int .i64 2) HG.out
        have hg1 := grown_set (j := 2) (.int .i64 2) (grown_refl w1 (some g))
        exact ⟨⟨⟨p, HRO.out.set 2 (.int .i64 2), HHP.out, fun h => absurd h (by simp)⟩, isB_grown HRB.out.bytes hg1 (apart_ne HRB.out.apart), HRB.out.room, HRB.out.apart⟩, hg⟩
      clear HRB HG HI HRO HHP h0
      by_cases h1 : (n : Int) < 1
      · clear hb
        go_wp2
        go_ret
        exact ⟨rfl, HX.out.1, HX.out.2⟩
      · have h8 : (8 : Int) < (n : Int) := by omega
        clear hb
        go_wp2
        go_ret
        exact ⟨rfl, HX.out.1, HX.out.2⟩
    · have HX : Hid (RbAt w1 g a len cap bs (pIn 1 8 s).2 r va vb ∧ w.grownBy w1 (some g)) := by
        rw [HI.out, if_neg (fun h => hb h.2)]
        exact ⟨HRB.out, HG.out⟩
      have h1 : ¬ (n : Int) < 1 := by omega
      have h8 : ¬ (8 : Int) < (n : Int) := by omega
      clear HRB HG HI HRO HHP h0 hb
      go_wp2
      go_ret
      exact ⟨rfl, HX.out.1, HX.out.2⟩
  · have HX : Hid (RbAt w1 g a len cap bs (pIn 1 8 s).2 r va vb ∧ w.grownBy w1 (some g)) := by
      rw [HI.out, if_neg (fun h => h0 h.1)]
      exact ⟨HRB.out, HG.out⟩
    have k0 : (s'.e == 0) = false := by rw [beq_eq_false_iff_ne]; exact h0
    clear HRB HG HI HRO HHP h0
    generalize s'.e = es at *
    go_wp2
    go_ret
    exact ⟨rfl, HX.out.1, HX.out.2⟩

/-- How many rows are read. -/
def cntN (m : Nat) (s : St) : Nat := if (pIn 0 m s).2.e = 0 then (pIn 0 m s).1 else 0
set_option maxRecDepth 4000 in
set_option maxHeartbeats 1600000 in
theorem bcount_any (g : Nat) (a : Option Addr) (len cap : Nat) (bs : List UInt8) (s : St) (r : Rec) (va vb : Value) (m : Nat) (w : World) (hm : m ≤ 255) (h : RbAt w g a len cap bs s r va vb) :
    Calls Try.prog 108 #[.pointer (some ⟨g, 0, none⟩), .int .i64 (m : Int)] w fun e w' => e = .returned (.int .i64 (cntN m s : Int)) ∧ RbAt w' g a len cap bs (pIn 0 m s).2 r va vb ∧ w.grownBy w' (some g) := by
  have HN := hide (bnum_any g a len cap bs s r va vb 1 w (by omega) h)
  have hn := num_lt 1 s
  have HI : Hid (pIn 0 m s = (if (pNum 1 s).2.e = 0 ∧ ((pNum 1 s).1 < 0 ∨ m < (pNum 1 s).1) then ((pNum 1 s).1, ⟨(pNum 1 s).2.l, 2⟩) else pNum 1 s)) := rfl
  have HZ := hide (num_zero (k := 1) (s := s))
  unfold cntN
  generalize pNum 1 s = ns at *
  obtain ⟨n, s'⟩ := ns
  simp only at HN HI HZ hn ⊢
  have ew : IntKind.i64.wrap (n : Int) = (n : Int) := by rw [IntKind.wrap_i64]; omega
  clear h
  by_cases hb : m < n
  · have h0 : s'.e = 0 := by
      by_cases h : s'.e = 0
      · exact h
      · have := HZ.out h
        omega
    have hi : pIn 0 m s = (n, ⟨s'.l, 2⟩) := by rw [HI.out, if_pos ⟨h0, .inr hb⟩]
    rw [hi]
    have i1 : (m : Int) < (n : Int) := by omega
    clear HI hi HZ h0 hb
    go_enter Try.func108, Try.ntmps108
    go_wp2_with fail
    refine HN.out.mono ?_
    rintro e w1 ⟨rfl, hrb, hg⟩
    obtain ⟨p, hr, hp, hs⟩ := hrb.row
    have c2 := hr.cell 2 (.int .i64 s'.e) rfl
    have f2 := hr.free 2
    have HX : Hid (RbAt (w1.setCell ⟨g, 2, none⟩ (.int .i64 2)) g a len cap bs ⟨s'.l, 2⟩ r va vb ∧ w.grownBy (w1.setCell ⟨g, 2, none⟩ (.int .i64 2)) (some g)) := by
      have hg' := grown_set (j := 2) (.int .i64 2) hg
      have hg1 := grown_set (j := 2) (.int .i64 2) (grown_refl w1 (some g))
      exact ⟨⟨⟨p, hr.set 2 (.int .i64 2), hp, fun h => absurd h (by simp)⟩, isB_grown hrb.bytes hg1 (apart_ne hrb.apart), hrb.room, hrb.apart⟩, hg'⟩
    clear hrb hg hr hp hs HN
    generalize s'.e = es at *
    go_wp2
    go_ret
    exact ⟨rfl, HX.out.1, HX.out.2⟩
  · have hi : pIn 0 m s = (n, s') := by rw [HI.out, if_neg (fun h => by omega)]
    rw [hi]
    have hc : (if s'.e = 0 then n else 0) = n := by
      by_cases h : s'.e = 0
      · rw [if_pos h]
      · rw [if_neg h, HZ.out h]
    simp only
    rw [hc]
    have i1 : ¬ (m : Int) < (n : Int) := by omega
    clear HI hi HZ hb hc
    go_enter Try.func108, Try.ntmps108
    go_wp2_with fail
    refine HN.out.mono ?_
    rintro e w1 ⟨rfl, hrb, hg⟩
    have HX : Hid (RbAt w1 g a len cap bs s' r va vb ∧ w.grownBy w1 (some g)) := ⟨hrb, hg⟩
    clear hrb hg HN
    go_wp2
    go_ret
    exact ⟨rfl, HX.out.1, HX.out.2⟩
end Go.Proofs.Ythamodoedlpmdaa

/-
  The reader of package record: structs beside it, and change.
-/
namespace Go.Proofs.Ythamodoedlpmdaa
open Go.RowKit
set_option linter.unusedVariables false

/-- The reader, and structs beside it: what was there when it began is as it was, but for the reader's block. -/
structure RK (w x : World) (g : Nat) (a : Option Addr) (len cap : Nat) (bs : List UInt8) (s : St) (r : Rec) (va vb : Value) (l : List (Nat × TypeId × Array Value)) : Prop where
  rb : RbAt x g a len cap bs s r va vb
  gr : w.grownBy x (some g)
  has : Has x l
def Off (g : Nat) (l : List (Nat × TypeId × Array Value)) : Prop := ∀ e ∈ l, e.1 ≠ g
theorem has_grown {g : Nat} {x y : World} (h : x.grownBy y (some g)) : ∀ {l : List (Nat × TypeId × Array Value)}, Off g l → Has x l → Has y l
  | [], _, _ => trivial
  | e :: l, ha, hh => ⟨row_grown hh.1 h (ha e (by simp)), has_grown h (fun e he => ha e (by simp [he])) hh.2⟩
theorem RK.step {w x y : World} {g : Nat} {a : Option Addr} {len cap : Nat} {bs : List UInt8} {s s' : St} {r r' : Rec} {va vb va' vb' : Value} {l : List (Nat × TypeId × Array Value)} (h : RK w x g a len cap bs s r va vb l) (hb : RbAt y g a len cap bs s' r' va' vb') (hg : x.grownBy y (some g)) (ho : Off g l) : RK w y g a len cap bs s' r' va' vb' l :=
  ⟨hb, grown_trans h.gr hg, has_grown hg ho h.has⟩
theorem RbAt.other {w : World} {g : Nat} {a : Option Addr} {len cap : Nat} {bs : List UInt8} {s : St} {r : Rec} {va vb : Value} (h : RbAt w g a len cap bs s r va vb) {b : Nat} (hb : g < b) (j : Nat) (v : Value) : RbAt (w.setCell ⟨b, j, none⟩ v) g a len cap bs s r va vb := by
  obtain ⟨k, h1, h2, h3⟩ := h.row
  exact ⟨⟨k, h1.other _ _ (Nat.ne_of_lt hb), h2, h3⟩, isB_grown h.bytes (grown_set v (grown_refl w (some b))) (fun hp x hx => Nat.ne_of_lt (Nat.lt_trans (h.apart hp x hx) hb)), h.room, h.apart⟩
theorem RbAt.later {w x : World} {g : Nat} {a : Option Addr} {len cap : Nat} {bs : List UInt8} {s : St} {r : Rec} {va vb : Value} (h : RbAt w g a len cap bs s r va vb) (hb : Below w.heap.size w x) : RbAt x g a len cap bs s r va vb := by
  obtain ⟨k, h1, h2, h3⟩ := h.row
  exact ⟨⟨k, h1.later hb, h2, h3⟩, h.bytes.below hb, h.room, h.apart⟩
theorem RbAt.lt {w : World} {g : Nat} {a : Option Addr} {len cap : Nat} {bs : List UInt8} {s : St} {r : Rec} {va vb : Value} (h : RbAt w g a len cap bs s r va vb) : g < w.heap.size := by
  obtain ⟨k, h1, _⟩ := h.row
  exact h1.lt
theorem RK.later {w x y : World} {g : Nat} {a : Option Addr} {len cap : Nat} {bs : List UInt8} {s : St} {r : Rec} {va vb : Value} {l : List (Nat × TypeId × Array Value)} (h : RK w x g a len cap bs s r va vb l) (hb : Below x.heap.size x y) : RK w y g a len cap bs s r va vb l :=
  ⟨h.rb.later hb, grown_trans h.gr (of_below hb), h.has.later hb⟩
/-- A cell of the newest struct beside the reader is written. -/
theorem RK.put {w x : World} {g : Nat} {a : Option Addr} {len cap : Nat} {bs : List UInt8} {s : St} {r : Rec} {va vb : Value} {b : Nat} {t : TypeId} {cs : Array Value} {l : List (Nat × TypeId × Array Value)} (h : RK w x g a len cap bs s r va vb ((b, t, cs) :: l)) (hb : g < b) (hw : w.heap.size ≤ b) (hl : ∀ e ∈ l, e.1 ≠ b) (j : Nat) (v : Value) :
    RK w (x.setCell ⟨b, j, none⟩ v) g a len cap bs s r va vb ((b, t, cs.setIfInBounds j v) :: l) := by
  refine ⟨h.rb.other hb j v, ?_, h.has.1.set j v, ?_⟩
  · have hs := grown_set (g := b) (j := j) v (grown_refl x (some b))
    refine ⟨hs.os.trans h.gr.os, hs.tape.trans h.gr.tape, hs.output.trans h.gr.output, Nat.le_trans h.gr.size hs.size, fun k hk hne => ?_⟩
    rw [hs.block k (Nat.lt_of_lt_of_le hk h.gr.size) (fun e => by cases e; omega)]
    exact h.gr.block k hk hne
  · have : ∀ l : List (Nat × TypeId × Array Value), (∀ e ∈ l, e.1 ≠ b) → Has x l → Has (x.setCell ⟨b, j, none⟩ v) l := by
      intro l
      induction l with
      | nil => exact fun _ _ => trivial
      | cons e l ih => exact fun hl hh => ⟨hh.1.other _ _ (hl e (by simp)), ih (fun e he => hl e (by simp [he])) hh.2⟩
    exact this l hl h.has.2
theorem conv_i64 (n : Nat) (h : n < 9223372036854775808) : IntKind.i64.wrap (n : Int) = (n : Int) := by
  rw [IntKind.wrap_i64]
  omega

set_option maxRecDepth 4000 in
set_option maxHeartbeats 1600000 in
theorem bchange_any (g : Nat) (a : Option Addr) (len cap : Nat) (bs : List UInt8) (s : St) (r : Rec) (va vb : Value) (w : World) (h : RbAt w g a len cap bs s r va vb) :
    Calls Try.prog 100 #[.pointer (some ⟨g, 0, none⟩)] w fun e w' => e = .returned (.agg (chA (pCh s).1)) ∧ RbAt w' g a len cap bs (pCh s).2 r va vb ∧ w.grownBy w' (some g) := by
  obtain ⟨n1, s1, h1⟩ : ∃ n s', pNum 1 s = (n, s') := ⟨_, _, rfl⟩
  have b1 : n1 < 256 ^ 1 := by have := num_lt 1 s; rw [h1] at this; exact this
  have N1 := hide (fun x h => bnum_any g a len cap bs s r va vb 1 x (by omega) h)
  have ew1 := conv_i64 n1 (by omega)
  rw [h1] at N1
  obtain ⟨n2, s2, h2⟩ : ∃ n s', pNum 2 s1 = (n, s') := ⟨_, _, rfl⟩
  have b2 : n2 < 256 ^ 2 := by have := num_lt 2 s1; rw [h2] at this; exact this
  have N2 := hide (fun x h => bnum_any g a len cap bs s1 r va vb 2 x (by omega) h)
  have ew2 := conv_i64 n2 (by omega)
  rw [h2] at N2
  obtain ⟨n3, s3, h3⟩ : ∃ n s', pNum 1 s2 = (n, s') := ⟨_, _, rfl⟩
  have b3 : n3 < 256 ^ 1 := by have := num_lt 1 s2; rw [h3] at this; exact this
  have N3 := hide (fun x h => bnum_any g a len cap bs s2 r va vb 1 x (by omega) h)
  have ew3 := conv_i64 n3 (by omega)
  rw [h3] at N3
  obtain ⟨n4, s4, h4⟩ : ∃ n s', pText s3 = (n, s') := ⟨_, _, rfl⟩
  have N4 := hide (fun x h => btext_any g a len cap bs s3 r va vb x h)
  rw [h4] at N4
  obtain ⟨n5, s5, h5⟩ : ∃ n s', pText s4 = (n, s') := ⟨_, _, rfl⟩
  have N5 := hide (fun x h => btext_any g a len cap bs s4 r va vb x h)
  rw [h5] at N5
  have hP : pCh s = (⟨n1, n2, n3, n4, n5⟩, s5) := by
    simp only [pCh, bindP, pureP, h1, h2, h3, h4, h5]
  rw [hP]
  clear hP h1 h2 h3 h4 h5 b1 b2 b3
  have K2 := Keeps.two w 39 39 #[.int .i64 0, .int .i64 0, .int .i64 0, .string ⟨#[]⟩, .string ⟨#[]⟩] #[.int .i64 0, .int .i64 0, .int .i64 0, .string ⟨#[]⟩, .string ⟨#[]⟩]
  have HKI : Hid (RK w ((w.alloc (.cells #[.int .i64 0, .int .i64 0, .int .i64 0, .string ⟨#[]⟩, .string ⟨#[]⟩] 39)).alloc (.cells #[.int .i64 0, .int .i64 0, .int .i64 0, .string ⟨#[]⟩, .string ⟨#[]⟩] 39)) g a len cap bs s r va vb [(w.heap.size + 1, 39, #[.int .i64 0, .int .i64 0, .int .i64 0, .string ⟨#[]⟩, .string ⟨#[]⟩]), (w.heap.size, 39, #[.int .i64 0, .int .i64 0, .int .i64 0, .string ⟨#[]⟩, .string ⟨#[]⟩])]) := ⟨h.later K2.2, of_below K2.2, K2.1⟩
  have hlt := h.lt
  have HGI : Hid (g < w.heap.size + 1 ∧ w.heap.size ≤ w.heap.size + 1 ∧ w.heap.size ≠ w.heap.size + 1 ∧ g < w.heap.size) := ⟨by omega, by omega, by omega, hlt⟩
  clear K2 h hlt
  obtain ⟨g1, hg1⟩ : ∃ g1, g1 = w.heap.size := ⟨_, rfl⟩
  obtain ⟨g2, hg2⟩ : ∃ g2, g2 = w.heap.size + 1 := ⟨_, rfl⟩
  go_enter Try.func100, Try.ntmps100
  go_wp2_with fail
  rw [← hg2, ← hg1] at HKI
  rw [← hg2, ← hg1]
  rw [← hg2] at HGI
  have HGG : Hid (g < g2 ∧ w.heap.size ≤ g2) := ⟨HGI.out.1, HGI.out.2.1⟩
  have HG1 : Hid (g1 ≠ g2 ∧ g < g1 ∧ w.heap.size ≤ g1) := ⟨by rw [hg1]; exact HGI.out.2.2.1, by rw [hg1]; exact HGI.out.2.2.2, by rw [hg1]; exact Nat.le_refl _⟩
  have HRS : Hid (∀ e ∈ ([(g1, 39, #[.int .i64 0, .int .i64 0, .int .i64 0, .string ⟨#[]⟩, .string ⟨#[]⟩])] : List (Nat × TypeId × Array Value)), e.1 ≠ g2) := fun e he => by
    simp only [List.mem_cons, List.not_mem_nil, or_false] at he
    subst he
    exact HG1.out.1
  have HO0 : Hid (∀ cs : Array Value, Off g [(g2, 39, cs), (g1, 39, #[.int .i64 0, .int .i64 0, .int .i64 0, .string ⟨#[]⟩, .string ⟨#[]⟩])]) := fun cs e he => by
    simp only [List.mem_cons, List.not_mem_nil, or_false] at he
    rcases he with rfl | rfl
    · exact Nat.ne_of_gt HGG.out.1
    · exact Nat.ne_of_gt HG1.out.2.1
  refine gen_calls (fun x => Hid (RK w x g a len cap bs s r va vb [(g2, 39, #[.int .i64 0, .int .i64 0, .int .i64 0, .string ⟨#[]⟩, .string ⟨#[]⟩]), (g1, 39, #[.int .i64 0, .int .i64 0, .int .i64 0, .string ⟨#[]⟩, .string ⟨#[]⟩])])) HKI ?_
  clear HKI HGI hg1 hg2
  intro y0 HK0
  refine (N1.out _ HK0.out.rb).mono ?_
  rintro e x1 ⟨rfl, hb, hg⟩
  have HL1 := hide (HK0.out.step hb hg (HO0.out _))
  clear hb hg HK0 N1
  have d := HL1.out.has.1.cell 0 (.int .i64 0) rfl
  have f := HL1.out.has.1.free 0
  have HK1 : Hid (RK w (x1.setCell ⟨g2, 0, none⟩ (.int .i64 (n1 : Int))) g a len cap bs s1 r va vb [(g2, 39, #[.int .i64 (n1 : Int), .int .i64 0, .int .i64 0, .string ⟨#[]⟩, .string ⟨#[]⟩]), (g1, 39, #[.int .i64 0, .int .i64 0, .int .i64 0, .string ⟨#[]⟩, .string ⟨#[]⟩])]) := HL1.out.put HGG.out.1 HGG.out.2 HRS.out 0 (.int .i64 (n1 : Int))
  clear HL1
  go_wp2_with fail
  refine gen_calls (fun x => Hid (RK w x g a len cap bs s1 r va vb [(g2, 39, #[.int .i64 (n1 : Int), .int .i64 0, .int .i64 0, .string ⟨#[]⟩, .string ⟨#[]⟩]), (g1, 39, #[.int .i64 0, .int .i64 0, .int .i64 0, .string ⟨#[]⟩, .string ⟨#[]⟩])])) HK1 ?_
  clear HK1 d f
  intro y1 HK1
  refine (N2.out _ HK1.out.rb).mono ?_
  rintro e x2 ⟨rfl, hb, hg⟩
  have HL2 := hide (HK1.out.step hb hg (HO0.out _))
  clear hb hg HK1 N2
  have d := HL2.out.has.1.cell 1 (.int .i64 0) rfl
  have f := HL2.out.has.1.free 1
  have HK2 : Hid (RK w (x2.setCell ⟨g2, 1, none⟩ (.int .i64 (n2 : Int))) g a len cap bs s2 r va vb [(g2, 39, #[.int .i64 (n1 : Int), .int .i64 (n2 : Int), .int .i64 0, .string ⟨#[]⟩, .string ⟨#[]⟩]), (g1, 39, #[.int .i64 0, .int .i64 0, .int .i64 0, .string ⟨#[]⟩, .string ⟨#[]⟩])]) := HL2.out.put HGG.out.1 HGG.out.2 HRS.out 1 (.int .i64 (n2 : Int))
  clear HL2
  go_wp2_with fail
  refine gen_calls (fun x => Hid (RK w x g a len cap bs s2 r va vb [(g2, 39, #[.int .i64 (n1 : Int), .int .i64 (n2 : Int), .int .i64 0, .string ⟨#[]⟩, .string ⟨#[]⟩]), (g1, 39, #[.int .i64 0, .int .i64 0, .int .i64 0, .string ⟨#[]⟩, .string ⟨#[]⟩])])) HK2 ?_
  clear HK2 d f
  intro y2 HK2
  refine (N3.out _ HK2.out.rb).mono ?_
  rintro e x3 ⟨rfl, hb, hg⟩
  have HL3 := hide (HK2.out.step hb hg (HO0.out _))
  clear hb hg HK2 N3
  have d := HL3.out.has.1.cell 2 (.int .i64 0) rfl
  have f := HL3.out.has.1.free 2
  have HK3 : Hid (RK w (x3.setCell ⟨g2, 2, none⟩ (.int .i64 (n3 : Int))) g a len cap bs s3 r va vb [(g2, 39, #[.int .i64 (n1 : Int), .int .i64 (n2 : Int), .int .i64 (n3 : Int), .string ⟨#[]⟩, .string ⟨#[]⟩]), (g1, 39, #[.int .i64 0, .int .i64 0, .int .i64 0, .string ⟨#[]⟩, .string ⟨#[]⟩])]) := HL3.out.put HGG.out.1 HGG.out.2 HRS.out 2 (.int .i64 (n3 : Int))
  clear HL3
  go_wp2_with fail
  refine gen_calls (fun x => Hid (RK w x g a len cap bs s3 r va vb [(g2, 39, #[.int .i64 (n1 : Int), .int .i64 (n2 : Int), .int .i64 (n3 : Int), .string ⟨#[]⟩, .string ⟨#[]⟩]), (g1, 39, #[.int .i64 0, .int .i64 0, .int .i64 0, .string ⟨#[]⟩, .string ⟨#[]⟩])])) HK3 ?_
  clear HK3 d f
  intro y3 HK3
  refine (N4.out _ HK3.out.rb).mono ?_
  rintro e x4 ⟨rfl, hb, hg⟩
  have HL4 := hide (HK3.out.step hb hg (HO0.out _))
  clear hb hg HK3 N4
  have d := HL4.out.has.1.cell 3 (.string ⟨#[]⟩) rfl
  have f := HL4.out.has.1.free 3
  have HK4 : Hid (RK w (x4.setCell ⟨g2, 3, none⟩ (.string n4)) g a len cap bs s4 r va vb [(g2, 39, #[.int .i64 (n1 : Int), .int .i64 (n2 : Int), .int .i64 (n3 : Int), .string n4, .string ⟨#[]⟩]), (g1, 39, #[.int .i64 0, .int .i64 0, .int .i64 0, .string ⟨#[]⟩, .string ⟨#[]⟩])]) := HL4.out.put HGG.out.1 HGG.out.2 HRS.out 3 (.string n4)
  clear HL4
  go_wp2_with fail
  refine gen_calls (fun x => Hid (RK w x g a len cap bs s4 r va vb [(g2, 39, #[.int .i64 (n1 : Int), .int .i64 (n2 : Int), .int .i64 (n3 : Int), .string n4, .string ⟨#[]⟩]), (g1, 39, #[.int .i64 0, .int .i64 0, .int .i64 0, .string ⟨#[]⟩, .string ⟨#[]⟩])])) HK4 ?_
  clear HK4 d f
  intro y4 HK4
  refine (N5.out _ HK4.out.rb).mono ?_
  rintro e x5 ⟨rfl, hb, hg⟩
  have HL5 := hide (HK4.out.step hb hg (HO0.out _))
  clear hb hg HK4 N5
  have d := HL5.out.has.1.cell 4 (.string ⟨#[]⟩) rfl
  have f := HL5.out.has.1.free 4
  have HK5 : Hid (RK w (x5.setCell ⟨g2, 4, none⟩ (.string n5)) g a len cap bs s5 r va vb [(g2, 39, #[.int .i64 (n1 : Int), .int .i64 (n2 : Int), .int .i64 (n3 : Int), .string n4, .string n5]), (g1, 39, #[.int .i64 0, .int .i64 0, .int .i64 0, .string ⟨#[]⟩, .string ⟨#[]⟩])]) := HL5.out.put HGG.out.1 HGG.out.2 HRS.out 4 (.string n5)
  clear HL5
  go_wp2_with (first | (refine wpList_load_at rfl 39 (.tmp 3) rfl g2 rfl #[.int .i64 (n1 : Int), .int .i64 (n2 : Int), .int .i64 (n3 : Int), .string n4, .string n5] HK5.out.has.1 _ Try.underlying39 rfl infoCh ?_) | (refine wpList_store_at rfl 39 (.tmp 2) (.tmp 23) rfl g1 #[.int .i64 0, .int .i64 0, .int .i64 0, .string ⟨#[]⟩, .string ⟨#[]⟩] #[.int .i64 (n1 : Int), .int .i64 (n2 : Int), .int .i64 (n3 : Int), .string n4, .string n5] rfl rfl HK5.out.has.2.1 infoCh rfl (by simp [Value.oneCell']) ?_))
  intro w9 hr9 hk9 ho9
  have HROW := hide hr9
  have HX : Hid (RbAt w9 g a len cap bs s5 r va vb ∧ w.grownBy w9 (some g)) := by
    have hb := hk9 _ _ (Below.refl g1 _) (Nat.le_refl _)
    obtain ⟨k, q1, q2, q3⟩ := HK5.out.rb.row
    refine ⟨⟨⟨k, ho9 _ _ _ (Nat.ne_of_lt HG1.out.2.1) q1, q2, q3⟩, ?_, HK5.out.rb.room, HK5.out.rb.apart⟩, ?_⟩
    · refine ⟨HK5.out.rb.bytes.1, fun hp => ?_⟩
      obtain ⟨b, off, ha, hlt, hc⟩ := HK5.out.rb.bytes.2 hp
      have hbg : b < g1 := Nat.lt_trans (HK5.out.rb.apart hp _ ha) HG1.out.2.1
      exact ⟨b, off, ha, Nat.lt_of_lt_of_le hlt hb.size, fun j hj => (hb.cell (p := ⟨b, off + j, none⟩) hbg).trans (hc j hj)⟩
    · have hg := HK5.out.gr
      refine ⟨hb.os.trans hg.os, hb.tape.trans hg.tape, hb.output.trans hg.output, Nat.le_trans hg.size hb.size, fun k hk hne => ?_⟩
      rw [hb.block k (Nat.lt_of_lt_of_le hk HG1.out.2.2)]
      exact hg.block k hk hne
  clear hr9 hk9 ho9 HK5 d f
  go_wp2
  (try simp only [Exit.inBlock, Exit.then])
  refine bodyPost_ret (res_one rfl _ _ g1 #[.int .i64 (n1 : Int), .int .i64 (n2 : Int), .int .i64 (n3 : Int), .string n4, .string n5] _ rfl HROW.out Try.underlying39 rfl infoCh) rfl ?_
  exact ⟨rfl, HX.out.1, HX.out.2⟩
end Go.Proofs.Ythamodoedlpmdaa

/-
  The reader of package record: rows that are read.
-/
namespace Go.Proofs.Ythamodoedlpmdaa
open Go.RowKit
set_option linter.unusedVariables false

/-! ### Read again and again -/
def itS {α : Type} (p : St → α × St) : Nat → St → St
  | 0, s => s
  | n + 1, s => itS p n (p s).2
def itL {α : Type} (p : St → α × St) : Nat → St → List α
  | 0, _ => []
  | n + 1, s => (p s).1 :: itL p n (p s).2
theorem itS_more {α : Type} (p : St → α × St) : ∀ n s, itS p (n + 1) s = (p (itS p n s)).2
  | 0, _ => rfl
  | n + 1, s => itS_more p n (p s).2
theorem itL_more {α : Type} (p : St → α × St) : ∀ n s, itL p (n + 1) s = itL p n s ++ [(p (itS p n s)).1]
  | 0, _ => rfl
  | n + 1, s => by
    show (p s).1 :: itL p (n + 1) (p s).2 = _
    rw [itL_more p n (p s).2]
    rfl
theorem itL_length {α : Type} (p : St → α × St) : ∀ n s, (itL p n s).length = n
  | 0, _ => rfl
  | n + 1, s => by
    show (itL p n (p s).2).length + 1 = n + 1
    rw [itL_length p n]
theorem itS_stick {α : Type} {p : St → α × St} (hp : Good p) : ∀ n s, s.e ≠ 0 → itS p n s = s
  | 0, _, _ => rfl
  | n + 1, s, h => by
    show itS p n (p s).2 = s
    rw [hp.stick s h]
    exact itS_stick hp n s h
theorem some_it {α : Type} {p : St → α × St} (hp : Good p) : ∀ n s, (pSome p n s).2 = itS p n s ∧ ((pSome p n s).2.e = 0 → (pSome p n s).1 = itL p n s)
  | 0, _ => ⟨rfl, fun _ => rfl⟩
  | n + 1, s => by
    by_cases h : s.e ≠ 0
    · have e : pSome p (n + 1) s = ([], s) := by rw [pSome, if_pos h]
      rw [e, itS_stick hp (n + 1) s h]
      exact ⟨rfl, fun h2 => absurd h2 h⟩
    · have e : pSome p (n + 1) s = ((p s).1 :: (pSome p n (p s).2).1, (pSome p n (p s).2).2) := by rw [pSome, if_neg h]
      have ih := some_it hp n (p s).2
      rw [e]
      refine ⟨ih.1, fun h2 => ?_⟩
      show (p s).1 :: (pSome p n (p s).2).1 = (p s).1 :: itL p n (p s).2
      rw [ih.2 h2]

/-! ### A row of structs beside the reader -/
structure TK (w x : World) (g : Nat) (a : Option Addr) (len cap : Nat) (bs : List UInt8) (s : St) (r : Rec) (va vb : Value) (T : TypeId) (sz : Nat) (v : Value) (n : Nat) (xs : List Value) (l : List (Nat × TypeId × Array Value)) : Prop where
  rk : RK w x g a len cap bs s r va vb l
  own : x.ownsRow w.heap.size T sz v n xs
  off : ∀ e ∈ l, v.ownBlock ≠ some e.1
  glt : g < w.heap.size
theorem TK.rb {w x : World} {g : Nat} {a : Option Addr} {len cap : Nat} {bs : List UInt8} {s : St} {r : Rec} {va vb : Value} {T : TypeId} {sz : Nat} {v : Value} {n : Nat} {xs : List Value} {l : List (Nat × TypeId × Array Value)} (h : TK w x g a len cap bs s r va vb T sz v n xs l) : RbAt x g a len cap bs s r va vb := h.rk.rb
theorem TK.has {w x : World} {g : Nat} {a : Option Addr} {len cap : Nat} {bs : List UInt8} {s : St} {r : Rec} {va vb : Value} {T : TypeId} {sz : Nat} {v : Value} {n : Nat} {xs : List Value} {l : List (Nat × TypeId × Array Value)} (h : TK w x g a len cap bs s r va vb T sz v n xs l) : Has x l := h.rk.has
theorem own_ne {w x : World} {T : TypeId} {sz : Nat} {v : Value} {n : Nat} {xs : List Value} (h : x.ownsRow w.heap.size T sz v n xs) {k : Nat} (hk : k < w.heap.size) : some k ≠ v.ownBlock := fun e => by
  have := (h.lt k e.symm).1
  omega
theorem TK.step {w x y : World} {g : Nat} {a : Option Addr} {len cap : Nat} {bs : List UInt8} {s s' : St} {r : Rec} {va vb : Value} {T : TypeId} {sz : Nat} {v : Value} {n : Nat} {xs : List Value} {l : List (Nat × TypeId × Array Value)} (h : TK w x g a len cap bs s r va vb T sz v n xs l) (hb : RbAt y g a len cap bs s' r va vb) (hg : x.grownBy y (some g)) (ho : Off g l) : TK w y g a len cap bs s' r va vb T sz v n xs l :=
  ⟨h.rk.step hb hg ho, h.own.kept hg (.inr (fun e => own_ne h.own h.glt e.symm)), h.off, h.glt⟩
theorem TK.put {w x : World} {g : Nat} {a : Option Addr} {len cap : Nat} {bs : List UInt8} {s : St} {r : Rec} {va vb : Value} {T : TypeId} {sz : Nat} {v : Value} {n : Nat} {xs : List Value} {b : Nat} {t : TypeId} {cs : Array Value} {l : List (Nat × TypeId × Array Value)} (h : TK w x g a len cap bs s r va vb T sz v n xs ((b, t, cs) :: l)) (hb : g < b) (hw : w.heap.size ≤ b) (hl : ∀ e ∈ l, e.1 ≠ b) (j : Nat) (u : Value) :
    TK w (x.setCell ⟨b, j, none⟩ u) g a len cap bs s r va vb T sz v n xs ((b, t, cs.setIfInBounds j u) :: l) :=
  ⟨h.rk.put hb hw hl j u, h.own.kept (grown_set u (grown_refl x (some b))) (.inr (h.off _ (List.mem_cons_self ..))), fun e he => by
    rcases List.mem_cons.1 he with rfl | he
    · exact h.off (b, t, cs) (List.mem_cons_self ..)
    · exact h.off e (List.mem_cons_of_mem _ he), h.glt⟩
/-- One more struct. -/
theorem TK.push {w x y z : World} {g : Nat} {a : Option Addr} {len cap : Nat} {bs : List UInt8} {s : St} {r : Rec} {va vb : Value} {T : TypeId} {sz : Nat} {v v' : Value} {n n' : Nat} {xs xs' : List Value} {l : List (Nat × TypeId × Array Value)} (h : TK w x g a len cap bs s r va vb T sz v n xs l) (hb : Below x.heap.size x y) (ho : z.ownsRow w.heap.size T sz v' n' xs') (hg : y.grownBy z v.ownBlock) : TK w z g a len cap bs s r va vb T sz v' n' xs' [] := by
  have h2 := h.rk.later hb
  obtain ⟨k, q1, q2, q3⟩ := h2.rb.row
  have hsz : ∀ k, k < w.heap.size → z.heap[k]? = y.heap[k]? := fun k hk => hg.block k (Nat.lt_of_lt_of_le hk h2.gr.size) (own_ne h.own hk)
  refine ⟨⟨⟨⟨k, (hsz g h.glt).trans q1, q2, q3⟩, ⟨h2.rb.bytes.1, fun hp => ?_⟩, h2.rb.room, h2.rb.apart⟩, ?_, trivial⟩, ho, fun e he => (nomatch he), h.glt⟩
  · obtain ⟨b, off, ha, hlt, hc⟩ := h2.rb.bytes.2 hp
    have hbg : b < w.heap.size := Nat.lt_trans (h2.rb.apart hp _ ha) h.glt
    exact ⟨b, off, ha, Nat.lt_of_lt_of_le hlt hg.size, fun j hj => (World.cell?_of_block (a := ⟨b, off + j, none⟩) (hsz b hbg)).trans (hc j hj)⟩
  · exact ⟨hg.os.trans h2.gr.os, hg.tape.trans h2.gr.tape, hg.output.trans h2.gr.output, Nat.le_trans h2.gr.size hg.size, fun k hk hne => (hsz k hk).trans (h2.gr.block k hk hne)⟩
/-- A new struct beside it. -/
theorem TK.more {w x y : World} {g : Nat} {a : Option Addr} {len cap : Nat} {bs : List UInt8} {s : St} {r : Rec} {va vb : Value} {T : TypeId} {sz : Nat} {v : Value} {n : Nat} {xs : List Value} (h : TK w x g a len cap bs s r va vb T sz v n xs []) (hb : Below x.heap.size x y) {t : TypeId} {cs : Array Value} (hr : RowAt y x.heap.size t cs) : TK w y g a len cap bs s r va vb T sz v n xs [(x.heap.size, t, cs)] := by
  refine ⟨⟨h.rk.rb.later hb, grown_trans h.rk.gr (of_below hb), hr, trivial⟩, h.own.kept (of_below (o := none) hb) (by cases hv : v.ownBlock <;> simp), fun e he => ?_, h.glt⟩
  simp only [List.mem_cons, List.not_mem_nil, or_false] at he
  subst he
  intro e
  have := (h.own.lt _ e).2
  exact absurd this (Nat.lt_irrefl _)

/-- append(s, x), s the call's own. -/
theorem wpList_append_row (w : World) {P : Program} {ops : Array Oper} {rest : List Oper} {o : Oper} {a : Act} {Q : Exit → Act → World → Prop} (hg : o.guard = none) (s x : Operand) (t e : TypeId) (hop : o.op = Op.call { callee := Callee.builtin Builtin.append, args := #[s, x], argTypes := #[t, t] })
    (z : Array Value) (sz by' : Nat) (ht : P.underlying t = some (.slice e)) (hi : (P.info? e).map (fun i => (i.zero, i.size, i.bytes)) = some (some (.agg z), sz, by')) (hzs : z.size = sz) (hsz : 0 < sz)
    (base : Nat) (v : Value) (n : Nat) (xs : List Value) (hs : a.eval s = v) (hown : w.ownsRow base e sz v n xs)
    (b : Nat) (c : Array Value) (hc : c.size = sz) (h1 : c.all (·.oneCell') = true) (hx : a.eval x = .slice (some ⟨b, 0, none⟩) 1 1) (hB : RowAt w b e c) (hn : n ≤ 1000) (hby : by' ≤ 1000) (hbase : base ≤ w.heap.size)
    (hK : ∀ v' w', w'.ownsRow base e sz v' (n + 1) (xs ++ c.toList) → w.grownBy w' v.ownBlock → wpList P ops Q rest (a.put o.dst v') w') :
    wpList P ops Q (o :: rest) a w := by
  obtain ⟨i, hi0, hi1⟩ := Option.map_eq_some_iff.1 hi
  simp only [Prod.mk.injEq] at hi1
  refine wpList_append_own w hg s x t hop base e i (.agg z) sz by' ht hi0 hi1.1 hi1.2.1 hi1.2.2 hzs hsz v n xs hs hown ⟨b, 0, none⟩ 1 1 c.toList hx (by rw [Array.length_toList, hc, Nat.one_mul]) ?_ ?_ (by unfold maxLen; omega) ?_ hbase (fun v' w' h1 h2 _ => hK v' w' h1 h2)
  · intro j u hu
    rw [Array.getElem?_toList] at hu
    rw [Addr.add_lit, Nat.zero_add]
    exact hB.cell j u hu
  · intro u hu
    rw [Array.all_eq_true'] at h1
    exact h1 u (by simpa using hu)
  · have : (n + 1) * by' ≤ 1001 * 1000 := Nat.mul_le_mul (by omega) hby
    omega
theorem row_new2 (w : World) (t : TypeId) (cs : Array Value) {g : Nat} (hg : w.heap.size = g) : RowAt (w.alloc (.cells cs t)) g t cs := by
  subst hg
  exact RowAt.new w t cs
theorem infoTx3 : (Try.prog.info? 81).map (fun i => (i.zero, i.size, i.bytes)) = some (some (.agg #[.int .i64 0, .int .i64 0, .int .u64 0, .int .u64 0, .int .u64 0]), 5, 40) := by kernel_rfl
theorem infoDi3 : (Try.prog.info? 83).map (fun i => (i.zero, i.size, i.bytes)) = some (some (.agg #[.int .i64 0, .int .u64 0]), 2, 16) := by kernel_rfl
def flatT (ts : List Tx) : List Value := ts.flatMap fun x => (txA x).toList
def flatD (ts : List Di) : List Value := ts.flatMap fun x => (diA x).toList
end Go.Proofs.Ythamodoedlpmdaa

/-
  The reader of package record: txns.
-/
namespace Go.Proofs.Ythamodoedlpmdaa
open Go.RowKit
set_option linter.unusedVariables false

set_option maxRecDepth 4000 in
set_option maxHeartbeats 3200000 in
theorem btxns_any (g : Nat) (a : Option Addr) (len cap : Nat) (bs : List UInt8) (s : St) (r : Rec) (va vb : Value) (w : World) (h : RbAt w g a len cap bs s r va vb) :
    Calls Try.prog 101 #[.pointer (some ⟨g, 0, none⟩)] w fun e w' => ∃ v, e = .returned v ∧ w'.ownsRow w.heap.size 81 5 v (cntN 16 s) (flatT (itL pTx (cntN 16 s) (pIn 0 16 s).2)) ∧ RbAt w' g a len cap bs (itS pTx (cntN 16 s) (pIn 0 16 s).2) r va vb ∧ w.grownBy w' (some g) := by
  have HC := hide (fun x h => bcount_any g a len cap bs s r va vb 16 x (by omega) h)
  have hcn : cntN 16 s ≤ 255 := by
    unfold cntN
    split
    · rw [in_val]
      have := num_lt 1 s
      omega
    · omega
  have HG := hide h.lt
  generalize hcN : cntN 16 s = cn at *
  generalize hs0 : (pIn 0 16 s).2 = s0 at *
  clear hcN hs0
  have hb0 := (Below.refl w.heap.size w).alloc (Nat.le_refl _) (.cells #[] 81)
  have HK0 : Hid (TK w (w.alloc (.cells #[] 81)) g a len cap bs s r va vb 81 5 (.slice (some ⟨w.heap.size, 0, none⟩) 0 0) 0 [] []) :=
    ⟨⟨h.later hb0, of_below hb0, trivial⟩, World.ownsRow_made w #[] 0 (Nat.le_refl _) (by unfold maxLen; omega) rfl, fun e he => (nomatch he), h.lt⟩
  clear hb0 h
  go_enter Try.func101, Try.ntmps101
  go_wp2_with fail
  refine (HC.out _ HK0.out.rb).mono ?_
  rintro e x1 ⟨rfl, hb, hg⟩
  have HK1 := hide (HK0.out.step hb hg (fun e he => nomatch he))
  clear hb hg HK0 HC
  obtain ⟨v0, hv0⟩ : ∃ v0, v0 = Value.slice (some ⟨w.heap.size, 0, none⟩) 0 0 := ⟨_, rfl⟩
  rw [← hv0] at HK1
  go_wp2
  rw [← hv0]
  clear hv0
  go_loopw [8, 3] (fun i v wr => ∃ j : Nat, j ≤ cn ∧ i = .int .i64 j ∧ TK w wr g a len cap bs (itS pTx j s0) r va vb 81 5 v j (flatT (itL pTx j s0)) []) (fun i _ _ => cn - (intOf i).toNat)
  case atStart => exact ⟨0, Nat.zero_le _, rfl, HK1.out⟩
  case round =>
    obtain ⟨j, hj, rfl, hk⟩ := hrel
    have HKJ := hide hk
    clear hk HK1
    by_cases hlt : j < cn
    case neg =>
      obtain rfl : j = cn := by omega
      have HX := HKJ
      clear HKJ HG
      go_wp2
      go_ret
      exact ⟨_, rfl, HX.out.own, HX.out.rb, HX.out.rk.gr⟩
    have jlt : (j : Int) < (cn : Int) := by omega
    obtain ⟨s, hsj⟩ : ∃ s', s' = itS pTx j s0 := ⟨_, rfl⟩
    obtain ⟨xs, hxs⟩ : ∃ xs, xs = flatT (itL pTx j s0) := ⟨_, rfl⟩
    rw [← hsj, ← hxs] at HKJ
    have HSJ := hide hsj
    have HXS := hide hxs
    clear hsj hxs
    obtain ⟨n1, s1, h1⟩ : ∃ n s', pNum 4 s = (n, s') := ⟨_, _, rfl⟩
    have b1 : n1 < 256 ^ 4 := by have := num_lt 4 s; rw [h1] at this; exact this
    have N1 := hide (fun x h => bnum_any g a len cap bs s r va vb 4 x (by omega) h)
    have ew1 := conv_i64 n1 (by omega)
    rw [h1] at N1
    obtain ⟨n2, s2, h2⟩ : ∃ n s', pNum 1 s1 = (n, s') := ⟨_, _, rfl⟩
    have b2 : n2 < 256 ^ 1 := by have := num_lt 1 s1; rw [h2] at this; exact this
    have N2 := hide (fun x h => bnum_any g a len cap bs s1 r va vb 1 x (by omega) h)
    have ew2 := conv_i64 n2 (by omega)
    rw [h2] at N2
    obtain ⟨n3, s3, h3⟩ : ∃ n s', pNum 8 s2 = (n, s') := ⟨_, _, rfl⟩
    have b3 : n3 < 256 ^ 8 := by have := num_lt 8 s2; rw [h3] at this; exact this
    have N3 := hide (fun x h => bnum_any g a len cap bs s2 r va vb 8 x (by omega) h)
    rw [h3] at N3
    obtain ⟨n4, s4, h4⟩ : ∃ n s', pNum 8 s3 = (n, s') := ⟨_, _, rfl⟩
    have b4 : n4 < 256 ^ 8 := by have := num_lt 8 s3; rw [h4] at this; exact this
    have N4 := hide (fun x h => bnum_any g a len cap bs s3 r va vb 8 x (by omega) h)
    rw [h4] at N4
    obtain ⟨n5, s5, h5⟩ : ∃ n s', pNum 8 s4 = (n, s') := ⟨_, _, rfl⟩
    have b5 : n5 < 256 ^ 8 := by have := num_lt 8 s4; rw [h5] at this; exact this
    have N5 := hide (fun x h => bnum_any g a len cap bs s4 r va vb 8 x (by omega) h)
    rw [h5] at N5
    have hP : pTx s = (⟨n1, n2, n3, n4, n5⟩, s5) := by
      simp only [pTx, bindP, pureP, h1, h2, h3, h4, h5]
    have HP := hide hP
    clear hP h1 b1 h2 b2 h3 b3 h4 b4 h5 b5
    obtain ⟨gt, hgt⟩ : ∃ gt, gt = wr.heap.size := ⟨_, rfl⟩
    have HK0 : Hid (TK w (wr.alloc (.cells #[.int .i64 0, .int .i64 0, .int .u64 0, .int .u64 0, .int .u64 0] 81)) g a len cap bs s r va vb 81 5 u3 j xs [(wr.heap.size, 81, #[.int .i64 0, .int .i64 0, .int .u64 0, .int .u64 0, .int .u64 0])]) := HKJ.out.more ((Below.refl _ _).alloc (Nat.le_refl _) _) (RowAt.new _ _ _)
    have HGG : Hid (g < gt ∧ w.heap.size ≤ gt) := ⟨by rw [hgt]; exact HKJ.out.rb.lt, by rw [hgt]; exact HKJ.out.rk.gr.size⟩
    have HRS : Hid (∀ e ∈ ([] : List (Nat × TypeId × Array Value)), e.1 ≠ gt) := fun e he => nomatch he
    have HO0 : Hid (∀ cs : Array Value, Off g [(gt, 81, cs)]) := fun cs e he => by
      simp only [List.mem_cons, List.not_mem_nil, or_false] at he
      subst he
      exact Nat.ne_of_gt HGG.out.1
    clear HKJ
    go_wp2_with fail
    rw [← hgt] at HK0
    rw [← hgt]
    refine gen_calls (fun x => Hid (TK w x g a len cap bs s r va vb 81 5 u3 j xs [(gt, 81, #[.int .i64 0, .int .i64 0, .int .u64 0, .int .u64 0, .int .u64 0])])) HK0 ?_
    clear HK0 hgt
    intro y0 HK0
    refine (N1.out _ HK0.out.rb).mono ?_
    rintro e x1 ⟨rfl, hb, hg⟩
    have HL1 := hide (HK0.out.step hb hg (HO0.out _))
    clear hb hg HK0 N1
    have d := HL1.out.has.1.cell 0 (.int .i64 0) rfl
    have f := HL1.out.has.1.free 0
    have HK1 : Hid (TK w (x1.setCell ⟨gt, 0, none⟩ (.int .i64 (n1 : Int))) g a len cap bs s1 r va vb 81 5 u3 j xs [(gt, 81, #[.int .i64 (n1 : Int), .int .i64 0, .int .u64 0, .int .u64 0, .int .u64 0])]) := HL1.out.put HGG.out.1 HGG.out.2 HRS.out 0 (.int .i64 (n1 : Int))
    clear HL1
    go_wp2_with fail
    refine gen_calls (fun x => Hid (TK w x g a len cap bs s1 r va vb 81 5 u3 j xs [(gt, 81, #[.int .i64 (n1 : Int), .int .i64 0, .int .u64 0, .int .u64 0, .int .u64 0])])) HK1 ?_
    clear HK1 d f
    intro y1 HK1
    refine (N2.out _ HK1.out.rb).mono ?_
    rintro e x2 ⟨rfl, hb, hg⟩
    have HL2 := hide (HK1.out.step hb hg (HO0.out _))
    clear hb hg HK1 N2
    have d := HL2.out.has.1.cell 1 (.int .i64 0) rfl
    have f := HL2.out.has.1.free 1
    have HK2 : Hid (TK w (x2.setCell ⟨gt, 1, none⟩ (.int .i64 (n2 : Int))) g a len cap bs s2 r va vb 81 5 u3 j xs [(gt, 81, #[.int .i64 (n1 : Int), .int .i64 (n2 : Int), .int .u64 0, .int .u64 0, .int .u64 0])]) := HL2.out.put HGG.out.1 HGG.out.2 HRS.out 1 (.int .i64 (n2 : Int))
    clear HL2
    go_wp2_with fail
    refine gen_calls (fun x => Hid (TK w x g a len cap bs s2 r va vb 81 5 u3 j xs [(gt, 81, #[.int .i64 (n1 : Int), .int .i64 (n2 : Int), .int .u64 0, .int .u64 0, .int .u64 0])])) HK2 ?_
    clear HK2 d f
    intro y2 HK2
    refine (N3.out _ HK2.out.rb).mono ?_
    rintro e x3 ⟨rfl, hb, hg⟩
    have HL3 := hide (HK2.out.step hb hg (HO0.out _))
    clear hb hg HK2 N3
    have d := HL3.out.has.1.cell 2 (.int .u64 0) rfl
    have f := HL3.out.has.1.free 2
    have HK3 : Hid (TK w (x3.setCell ⟨gt, 2, none⟩ (.int .u64 (n3 : Int))) g a len cap bs s3 r va vb 81 5 u3 j xs [(gt, 81, #[.int .i64 (n1 : Int), .int .i64 (n2 : Int), .int .u64 (n3 : Int), .int .u64 0, .int .u64 0])]) := HL3.out.put HGG.out.1 HGG.out.2 HRS.out 2 (.int .u64 (n3 : Int))
    clear HL3
    go_wp2_with fail
    refine gen_calls (fun x => Hid (TK w x g a len cap bs s3 r va vb 81 5 u3 j xs [(gt, 81, #[.int .i64 (n1 : Int), .int .i64 (n2 : Int), .int .u64 (n3 : Int), .int .u64 0, .int .u64 0])])) HK3 ?_
    clear HK3 d f
    intro y3 HK3
    refine (N4.out _ HK3.out.rb).mono ?_
    rintro e x4 ⟨rfl, hb, hg⟩
    have HL4 := hide (HK3.out.step hb hg (HO0.out _))
    clear hb hg HK3 N4
    have d := HL4.out.has.1.cell 3 (.int .u64 0) rfl
    have f := HL4.out.has.1.free 3
    have HK4 : Hid (TK w (x4.setCell ⟨gt, 3, none⟩ (.int .u64 (n4 : Int))) g a len cap bs s4 r va vb 81 5 u3 j xs [(gt, 81, #[.int .i64 (n1 : Int), .int .i64 (n2 : Int), .int .u64 (n3 : Int), .int .u64 (n4 : Int), .int .u64 0])]) := HL4.out.put HGG.out.1 HGG.out.2 HRS.out 3 (.int .u64 (n4 : Int))
    clear HL4
    go_wp2_with fail
    refine gen_calls (fun x => Hid (TK w x g a len cap bs s4 r va vb 81 5 u3 j xs [(gt, 81, #[.int .i64 (n1 : Int), .int .i64 (n2 : Int), .int .u64 (n3 : Int), .int .u64 (n4 : Int), .int .u64 0])])) HK4 ?_
    clear HK4 d f
    intro y4 HK4
    refine (N5.out _ HK4.out.rb).mono ?_
    rintro e x5 ⟨rfl, hb, hg⟩
    have HL5 := hide (HK4.out.step hb hg (HO0.out _))
    clear hb hg HK4 N5
    have d := HL5.out.has.1.cell 4 (.int .u64 0) rfl
    have f := HL5.out.has.1.free 4
    have HK5 : Hid (TK w (x5.setCell ⟨gt, 4, none⟩ (.int .u64 (n5 : Int))) g a len cap bs s5 r va vb 81 5 u3 j xs [(gt, 81, #[.int .i64 (n1 : Int), .int .i64 (n2 : Int), .int .u64 (n3 : Int), .int .u64 (n4 : Int), .int .u64 (n5 : Int)])]) := HL5.out.put HGG.out.1 HGG.out.2 HRS.out 4 (.int .u64 (n5 : Int))
    clear HL5
    go_wp2_with (first | (refine wpList_load_at rfl 81 (.tmp 4) rfl gt rfl #[.int .i64 (n1 : Int), .int .i64 (n2 : Int), .int .u64 (n3 : Int), .int .u64 (n4 : Int), .int .u64 (n5 : Int)] HK5.out.has.1 _ Try.underlying81 rfl infoTx ?_) | (at_builtin; refine wpList_append_row _ rfl (.tmp 28) (.tmp 30) 40 81 rfl #[.int .i64 0, .int .i64 0, .int .u64 0, .int .u64 0, .int .u64 0] 5 40 Try.underlying40 infoTx3 rfl (by decide) w.heap.size u3 j xs rfl (ownsRow_below HK5.out.own ((Below.refl (x5.setCell ⟨gt, 4, none⟩ (.int .u64 (n5 : Int))).heap.size (x5.setCell ⟨gt, 4, none⟩ (.int .u64 (n5 : Int)))).alloc (Nat.le_refl _) (.cells #[.int .i64 (n1 : Int), .int .i64 (n2 : Int), .int .u64 (n3 : Int), .int .u64 (n4 : Int), .int .u64 (n5 : Int)] 81))) x5.heap.size #[.int .i64 (n1 : Int), .int .i64 (n2 : Int), .int .u64 (n3 : Int), .int .u64 (n4 : Int), .int .u64 (n5 : Int)] rfl (by simp [Value.oneCell']) rfl (row_new2 (x5.setCell ⟨gt, 4, none⟩ (.int .u64 (n5 : Int))) 81 #[.int .i64 (n1 : Int), .int .i64 (n2 : Int), .int .u64 (n3 : Int), .int .u64 (n4 : Int), .int .u64 (n5 : Int)] (by simp)) (by omega) (by omega) (Nat.le_trans HK5.out.rk.gr.size (by simp)) ?_))
    intro v' w9 ho9 hg9
    have HN := hide (HK5.out.push ((Below.refl (x5.setCell ⟨gt, 4, none⟩ (.int .u64 (n5 : Int))).heap.size (x5.setCell ⟨gt, 4, none⟩ (.int .u64 (n5 : Int)))).alloc (Nat.le_refl _) (.cells #[.int .i64 (n1 : Int), .int .i64 (n2 : Int), .int .u64 (n3 : Int), .int .u64 (n4 : Int), .int .u64 (n5 : Int)] 81)) ho9 hg9)
    clear ho9 hg9 HK5 d f HGG HRS HO0
    go_wp2
    go_roundw
    case rel =>
      refine ⟨j + 1, by omega, by go_num, ?_⟩
      have e1 : itS pTx (j + 1) s0 = s5 := by rw [itS_more, ← HSJ.out, HP.out]
      have e2 : flatT (itL pTx (j + 1) s0) = xs ++ (#[.int .i64 (n1 : Int), .int .i64 (n2 : Int), .int .u64 (n3 : Int), .int .u64 (n4 : Int), .int .u64 (n5 : Int)] : Array Value).toList := by
        rw [itL_more, ← HSJ.out, HP.out, HXS.out]
        unfold flatT
        rw [List.flatMap_append]
        simp [txA]
      rw [e1, e2]
      exact HN.out
    case measure => simp [intOf]; omega
end Go.Proofs.Ythamodoedlpmdaa

/-
  The reader of package record: dirty.
-/
namespace Go.Proofs.Ythamodoedlpmdaa
open Go.RowKit
set_option linter.unusedVariables false

set_option maxRecDepth 4000 in
set_option maxHeartbeats 3200000 in
theorem bdirty_any (g : Nat) (a : Option Addr) (len cap : Nat) (bs : List UInt8) (s : St) (r : Rec) (va vb : Value) (w : World) (h : RbAt w g a len cap bs s r va vb) :
    Calls Try.prog 102 #[.pointer (some ⟨g, 0, none⟩)] w fun e w' => ∃ v, e = .returned v ∧ w'.ownsRow w.heap.size 83 2 v (cntN 32 s) (flatD (itL pDi (cntN 32 s) (pIn 0 32 s).2)) ∧ RbAt w' g a len cap bs (itS pDi (cntN 32 s) (pIn 0 32 s).2) r va vb ∧ w.grownBy w' (some g) := by
  have HC := hide (fun x h => bcount_any g a len cap bs s r va vb 32 x (by omega) h)
  have hcn : cntN 32 s ≤ 255 := by
    unfold cntN
    split
    · rw [in_val]
      have := num_lt 1 s
      omega
    · omega
  have HG := hide h.lt
  generalize hcN : cntN 32 s = cn at *
  generalize hs0 : (pIn 0 32 s).2 = s0 at *
  clear hcN hs0
  have hb0 := (Below.refl w.heap.size w).alloc (Nat.le_refl _) (.cells #[] 83)
  have HK0 : Hid (TK w (w.alloc (.cells #[] 83)) g a len cap bs s r va vb 83 2 (.slice (some ⟨w.heap.size, 0, none⟩) 0 0) 0 [] []) :=
    ⟨⟨h.later hb0, of_below hb0, trivial⟩, World.ownsRow_made w #[] 0 (Nat.le_refl _) (by unfold maxLen; omega) rfl, fun e he => (nomatch he), h.lt⟩
  clear hb0 h
  go_enter Try.func102, Try.ntmps102
  go_wp2_with fail
  refine (HC.out _ HK0.out.rb).mono ?_
  rintro e x1 ⟨rfl, hb, hg⟩
  have HK1 := hide (HK0.out.step hb hg (fun e he => nomatch he))
  clear hb hg HK0 HC
  obtain ⟨v0, hv0⟩ : ∃ v0, v0 = Value.slice (some ⟨w.heap.size, 0, none⟩) 0 0 := ⟨_, rfl⟩
  rw [← hv0] at HK1
  go_wp2
  rw [← hv0]
  clear hv0
  go_loopw [8, 3] (fun i v wr => ∃ j : Nat, j ≤ cn ∧ i = .int .i64 j ∧ TK w wr g a len cap bs (itS pDi j s0) r va vb 83 2 v j (flatD (itL pDi j s0)) []) (fun i _ _ => cn - (intOf i).toNat)
  case atStart => exact ⟨0, Nat.zero_le _, rfl, HK1.out⟩
  case round =>
    obtain ⟨j, hj, rfl, hk⟩ := hrel
    have HKJ := hide hk
    clear hk HK1
    by_cases hlt : j < cn
    case neg =>
      obtain rfl : j = cn := by omega
      have HX := HKJ
      clear HKJ HG
      go_wp2
      go_ret
      exact ⟨_, rfl, HX.out.own, HX.out.rb, HX.out.rk.gr⟩
    have jlt : (j : Int) < (cn : Int) := by omega
    obtain ⟨s, hsj⟩ : ∃ s', s' = itS pDi j s0 := ⟨_, rfl⟩
    obtain ⟨xs, hxs⟩ : ∃ xs, xs = flatD (itL pDi j s0) := ⟨_, rfl⟩
    rw [← hsj, ← hxs] at HKJ
    have HSJ := hide hsj
    have HXS := hide hxs
    clear hsj hxs
    obtain ⟨n1, s1, h1⟩ : ∃ n s', pNum 2 s = (n, s') := ⟨_, _, rfl⟩
    have b1 : n1 < 256 ^ 2 := by have := num_lt 2 s; rw [h1] at this; exact this
    have N1 := hide (fun x h => bnum_any g a len cap bs s r va vb 2 x (by omega) h)
    have ew1 := conv_i64 n1 (by omega)
    rw [h1] at N1
    obtain ⟨n2, s2, h2⟩ : ∃ n s', pNum 8 s1 = (n, s') := ⟨_, _, rfl⟩
    have b2 : n2 < 256 ^ 8 := by have := num_lt 8 s1; rw [h2] at this; exact this
    have N2 := hide (fun x h => bnum_any g a len cap bs s1 r va vb 8 x (by omega) h)
    rw [h2] at N2
    have hP : pDi s = (⟨n1, n2⟩, s2) := by
      simp only [pDi, bindP, pureP, h1, h2]
    have HP := hide hP
    clear hP h1 b1 h2 b2
    obtain ⟨gt, hgt⟩ : ∃ gt, gt = wr.heap.size := ⟨_, rfl⟩
    have HK0 : Hid (TK w (wr.alloc (.cells #[.int .i64 0, .int .u64 0] 83)) g a len cap bs s r va vb 83 2 u3 j xs [(wr.heap.size, 83, #[.int .i64 0, .int .u64 0])]) := HKJ.out.more ((Below.refl _ _).alloc (Nat.le_refl _) _) (RowAt.new _ _ _)
    have HGG : Hid (g < gt ∧ w.heap.size ≤ gt) := ⟨by rw [hgt]; exact HKJ.out.rb.lt, by rw [hgt]; exact HKJ.out.rk.gr.size⟩
    have HRS : Hid (∀ e ∈ ([] : List (Nat × TypeId × Array Value)), e.1 ≠ gt) := fun e he => nomatch he
    have HO0 : Hid (∀ cs : Array Value, Off g [(gt, 83, cs)]) := fun cs e he => by
      simp only [List.mem_cons, List.not_mem_nil, or_false] at he
      subst he
      exact Nat.ne_of_gt HGG.out.1
    clear HKJ
    go_wp2_with fail
    rw [← hgt] at HK0
    rw [← hgt]
    refine gen_calls (fun x => Hid (TK w x g a len cap bs s r va vb 83 2 u3 j xs [(gt, 83, #[.int .i64 0, .int .u64 0])])) HK0 ?_
    clear HK0 hgt
    intro y0 HK0
    refine (N1.out _ HK0.out.rb).mono ?_
    rintro e x1 ⟨rfl, hb, hg⟩
    have HL1 := hide (HK0.out.step hb hg (HO0.out _))
    clear hb hg HK0 N1
    have d := HL1.out.has.1.cell 0 (.int .i64 0) rfl
    have f := HL1.out.has.1.free 0
    have HK1 : Hid (TK w (x1.setCell ⟨gt, 0, none⟩ (.int .i64 (n1 : Int))) g a len cap bs s1 r va vb 83 2 u3 j xs [(gt, 83, #[.int .i64 (n1 : Int), .int .u64 0])]) := HL1.out.put HGG.out.1 HGG.out.2 HRS.out 0 (.int .i64 (n1 : Int))
    clear HL1
    go_wp2_with fail
    refine gen_calls (fun x => Hid (TK w x g a len cap bs s1 r va vb 83 2 u3 j xs [(gt, 83, #[.int .i64 (n1 : Int), .int .u64 0])])) HK1 ?_
    clear HK1 d f
    intro y1 HK1
    refine (N2.out _ HK1.out.rb).mono ?_
    rintro e x2 ⟨rfl, hb, hg⟩
    have HL2 := hide (HK1.out.step hb hg (HO0.out _))
    clear hb hg HK1 N2
    have d := HL2.out.has.1.cell 1 (.int .u64 0) rfl
    have f := HL2.out.has.1.free 1
    have HK2 : Hid (TK w (x2.setCell ⟨gt, 1, none⟩ (.int .u64 (n2 : Int))) g a len cap bs s2 r va vb 83 2 u3 j xs [(gt, 83, #[.int .i64 (n1 : Int), .int .u64 (n2 : Int)])]) := HL2.out.put HGG.out.1 HGG.out.2 HRS.out 1 (.int .u64 (n2 : Int))
    clear HL2
    go_wp2_with (first | (refine wpList_load_at rfl 83 (.tmp 4) rfl gt rfl #[.int .i64 (n1 : Int), .int .u64 (n2 : Int)] HK2.out.has.1 _ Try.underlying83 rfl infoDi ?_) | (at_builtin; refine wpList_append_row _ rfl (.tmp 18) (.tmp 20) 41 83 rfl #[.int .i64 0, .int .u64 0] 2 16 Try.underlying41 infoDi3 rfl (by decide) w.heap.size u3 j xs rfl (ownsRow_below HK2.out.own ((Below.refl (x2.setCell ⟨gt, 1, none⟩ (.int .u64 (n2 : Int))).heap.size (x2.setCell ⟨gt, 1, none⟩ (.int .u64 (n2 : Int)))).alloc (Nat.le_refl _) (.cells #[.int .i64 (n1 : Int), .int .u64 (n2 : Int)] 83))) x2.heap.size #[.int .i64 (n1 : Int), .int .u64 (n2 : Int)] rfl (by simp [Value.oneCell']) rfl (row_new2 (x2.setCell ⟨gt, 1, none⟩ (.int .u64 (n2 : Int))) 83 #[.int .i64 (n1 : Int), .int .u64 (n2 : Int)] (by simp)) (by omega) (by omega) (Nat.le_trans HK2.out.rk.gr.size (by simp)) ?_))
    intro v' w9 ho9 hg9
    have HN := hide (HK2.out.push ((Below.refl (x2.setCell ⟨gt, 1, none⟩ (.int .u64 (n2 : Int))).heap.size (x2.setCell ⟨gt, 1, none⟩ (.int .u64 (n2 : Int)))).alloc (Nat.le_refl _) (.cells #[.int .i64 (n1 : Int), .int .u64 (n2 : Int)] 83)) ho9 hg9)
    clear ho9 hg9 HK2 d f HGG HRS HO0
    go_wp2
    go_roundw
    case rel =>
      refine ⟨j + 1, by omega, by go_num, ?_⟩
      have e1 : itS pDi (j + 1) s0 = s2 := by rw [itS_more, ← HSJ.out, HP.out]
      have e2 : flatD (itL pDi (j + 1) s0) = xs ++ (#[.int .i64 (n1 : Int), .int .u64 (n2 : Int)] : Array Value).toList := by
        rw [itL_more, ← HSJ.out, HP.out, HXS.out]
        unfold flatD
        rw [List.flatMap_append]
        simp [diA]
      rw [e1, e2]
      exact HN.out
    case measure => simp [intOf]; omega
end Go.Proofs.Ythamodoedlpmdaa

/-
  The reader of package record: what is written into its own block; what the parser answers.
-/
namespace Go.Proofs.Ythamodoedlpmdaa
open Go.RowKit
set_option linter.unusedVariables false

theorem RbAt.setc {w : World} {g : Nat} {a : Option Addr} {len cap : Nat} {bs : List UInt8} {s : St} {r : Rec} {va vb : Value} (h : RbAt w g a len cap bs s r va vb) (j : Nat) (v : Value) (r' : Rec) (va' vb' : Value)
    (hs : ∀ k, (rdB (.slice a len cap) k s.e r va vb).setIfInBounds j v = rdB (.slice a len cap) k s.e r' va' vb') : RbAt (w.setCell ⟨g, j, none⟩ v) g a len cap bs s r' va' vb' := by
  obtain ⟨k, h1, h2, h3⟩ := h.row
  have hr := h1.set j v
  rw [hs] at hr
  exact ⟨⟨k, hr, h2, h3⟩, isB_grown h.bytes (grown_set v (grown_refl w (some g))) (apart_ne h.apart), h.room, h.apart⟩
theorem RbAt.setch {w : World} {g : Nat} {a : Option Addr} {len cap : Nat} {bs : List UInt8} {s : St} {r : Rec} {va vb : Value} (h : RbAt w g a len cap bs s r va vb) (c : Ch) : RbAt (w.setCells g 7 (chA c).toList) g a len cap bs s ⟨r.k, r.l, r.t, r.p, c, r.n, r.s, r.b, r.ts, r.ds⟩ va vb :=
  ((((h.setc 7 (.int .i64 c.k) ⟨r.k, r.l, r.t, r.p, ⟨c.k, r.c.pg, r.c.sl, r.c.o, r.c.n⟩, r.n, r.s, r.b, r.ts, r.ds⟩ va vb (fun _ => rfl)).setc 8 (.int .i64 c.pg) ⟨r.k, r.l, r.t, r.p, ⟨c.k, c.pg, r.c.sl, r.c.o, r.c.n⟩, r.n, r.s, r.b, r.ts, r.ds⟩ va vb (fun _ => rfl)).setc 9 (.int .i64 c.sl) ⟨r.k, r.l, r.t, r.p, ⟨c.k, c.pg, c.sl, r.c.o, r.c.n⟩, r.n, r.s, r.b, r.ts, r.ds⟩ va vb (fun _ => rfl)).setc 10 (.string c.o) ⟨r.k, r.l, r.t, r.p, ⟨c.k, c.pg, c.sl, c.o, r.c.n⟩, r.n, r.s, r.b, r.ts, r.ds⟩ va vb (fun _ => rfl)).setc 11 (.string c.n) ⟨r.k, r.l, r.t, r.p, c, r.n, r.s, r.b, r.ts, r.ds⟩ va vb (fun _ => rfl)
theorem grown_setch {w x : World} {g : Nat} (h : w.grownBy x (some g)) (c : Ch) : w.grownBy (x.setCells g 7 (chA c).toList) (some g) := grown_set _ (grown_set _ (grown_set _ (grown_set _ (grown_set _ h))))
theorem RbAt.there {w : World} {g : Nat} {a : Option Addr} {len cap : Nat} {bs : List UInt8} {s : St} {r : Rec} {va vb : Value} (h : RbAt w g a len cap bs s r va vb) : w.there g 7 5 := by
  obtain ⟨k, h1, _⟩ := h.row
  exact row_there h1 7 5 (by show 7 + 5 ≤ 17; omega)

theorem own_shape5 {w : World} {base n sz : Nat} {e : TypeId} {v : Value} {xs : List Value} (h : w.ownsRow base e sz v n xs) : ∃ a c, v = .slice a n c := by
  rcases h.2 with ⟨h1, h2⟩ | ⟨g', cap, cur, h2, _⟩
  · exact ⟨none, 0, by rw [h1, h2]⟩
  · exact ⟨_, _, h2⟩

theorem own_mono {w : World} {base base' n sz : Nat} {e : TypeId} {v : Value} {xs : List Value} (h : w.ownsRow base e sz v n xs) (hb : base' ≤ base) : w.ownsRow base' e sz v n xs := by
  refine ⟨h.1, h.2.imp id ?_⟩
  rintro ⟨g', cap, cur, h2, h3, h4⟩
  exact ⟨g', cap, cur, h2, Nat.le_trans hb h3, h4⟩

/-! ### The parser, in the order of the code -/
def recRest (k : Nat) : St → Rec × St := bindP (pNum 8) fun l => bindP (pNum 4) fun t => bindP (pNum 8) fun p => bindP (pMay (k ≤ 2) Ch.zero pCh) fun c => bindP (pMay (k = 2) 0 (pNum 8)) fun n => bindP (pMay (k = 6) 0 (pNum 1)) fun s =>
    bindP (pMay (k = 8) (0, [], []) pCheck) fun x => pureP ⟨k, l, t, p, c, n, s, x.1, x.2.1, x.2.2⟩
theorem rec_rest (s : St) : pRec s = recRest (pIn 1 8 s).1 (pIn 1 8 s).2 := rfl
theorem Good.rest (k : Nat) : Good (recRest k) := (Good.num 8).bind fun _ => (Good.num 4).bind fun _ => (Good.num 8).bind fun _ => (Good.may Good.ch).bind fun _ => (Good.may (Good.num 8)).bind fun _ => (Good.may (Good.num 1)).bind fun _ => (Good.may Good.check).bind fun _ => Good.pure _
theorem kind_bad {s : St} (hs : s.e = 0) (h : (pIn 1 8 s).2.e ≠ 0) : (pIn 1 8 s).1 < 1 ∨ 8 < (pIn 1 8 s).1 := by
  rw [in_val]
  by_cases h1 : (pNum 1 s).2.e = 0
  · by_cases hb : (pNum 1 s).1 < 1 ∨ 8 < (pNum 1 s).1
    · exact hb
    · have e : pIn 1 8 s = pNum 1 s := by unfold pIn; rw [if_neg (fun h => hb h.2)]
      rw [e] at h
      exact absurd h1 h
  · rw [num_zero h1]
    omega
theorem kind_good {s : St} (h : (pIn 1 8 s).2.e = 0) : 1 ≤ (pIn 1 8 s).1 ∧ (pIn 1 8 s).1 ≤ 8 := by
  by_cases hb : (pNum 1 s).2.e = 0 ∧ ((pNum 1 s).1 < 1 ∨ 8 < (pNum 1 s).1)
  · have e : pIn 1 8 s = ((pNum 1 s).1, ⟨(pNum 1 s).2.l, 2⟩) := by unfold pIn; rw [if_pos hb]
    rw [e] at h
    cases h
  · have e : pIn 1 8 s = pNum 1 s := by unfold pIn; rw [if_neg hb]
    rw [e] at h ⊢
    by_cases h2 : (pNum 1 s).1 < 1 ∨ 8 < (pNum 1 s).1
    · exact absurd ⟨h, h2⟩ hb
    · omega
theorem cnt_some {α : Type} {p : St → α × St} (hp : Good p) (m : Nat) (s : St) : (pSome p (pIn 0 m s).1 (pIn 0 m s).2).2 = itS p (cntN m s) (pIn 0 m s).2 ∧ ((pSome p (pIn 0 m s).1 (pIn 0 m s).2).2.e = 0 → (pSome p (pIn 0 m s).1 (pIn 0 m s).2).1 = itL p (cntN m s) (pIn 0 m s).2) := by
  by_cases h : (pIn 0 m s).2.e = 0
  · have e : cntN m s = (pIn 0 m s).1 := by unfold cntN; rw [if_pos h]
    rw [e]
    exact some_it hp _ _
  · have e : cntN m s = 0 := by unfold cntN; rw [if_neg h]
    rw [e, (Good.some hp _).stick _ h]
    exact ⟨rfl, fun h2 => absurd h2 h⟩
/-- What the call 'record' leaves. -/
def RecDone (w w' : World) (g : Nat) (a : Option Addr) (len cap : Nat) (bs : List UInt8) (s : St) : Prop :=
  ∃ r va vb, RbAt w' g a len cap bs (pRec s).2 r va vb ∧ ((pRec s).2.e = 0 → r = (pRec s).1) ∧ w'.ownsRow w.heap.size 81 5 va r.ts.length (flatT r.ts) ∧ w'.ownsRow w.heap.size 83 2 vb r.ds.length (flatD r.ds) ∧ w.grownBy w' (some g)
end Go.Proofs.Ythamodoedlpmdaa

/-
  The reader of package record: record, a kind that is none.
-/
namespace Go.Proofs.Ythamodoedlpmdaa
open Go.RowKit
set_option linter.unusedVariables false

set_option maxRecDepth 4000 in
set_option maxHeartbeats 3200000 in
theorem brec_no (g : Nat) (a : Option Addr) (len cap : Nat) (bs : List UInt8) (s : St) (hs : s.e = 0) (w : World) (hk : (pIn 1 8 s).2.e ≠ 0) (h : RbAt w g a len cap bs s Rec.zero (.slice none 0 0) (.slice none 0 0)) :
    Calls Try.prog 88 #[.pointer (some ⟨g, 0, none⟩)] w fun e w' => e = .returned (.tuple #[]) ∧ RecDone w w' g a len cap bs s := by
  obtain ⟨kd, s0, h0⟩ : ∃ n s', pIn 1 8 s = (n, s') := ⟨_, _, rfl⟩
  obtain ⟨l, s1, h1⟩ : ∃ n s', pNum 8 s0 = (n, s') := ⟨_, _, rfl⟩
  obtain ⟨t, s2, h2⟩ : ∃ n s', pNum 4 s1 = (n, s') := ⟨_, _, rfl⟩
  obtain ⟨p, s3, h3⟩ : ∃ n s', pNum 8 s2 = (n, s') := ⟨_, _, rfl⟩
  have bt : t < 256 ^ 4 := by have := num_lt 4 s1; rw [h2] at this; exact this
  have ewt := conv_i64 t (by omega)
  have C0 := hide (fun r va vb x h => bkind_any g a len cap bs s r va vb x h)
  have C1 := hide (fun r va vb x h => bnum_any g a len cap bs s0 r va vb 8 x (by omega) h)
  have C2 := hide (fun r va vb x h => bnum_any g a len cap bs s1 r va vb 4 x (by omega) h)
  have C3 := hide (fun r va vb x h => bnum_any g a len cap bs s2 r va vb 8 x (by omega) h)
  rw [h0] at C0
  rw [h1] at C1
  rw [h2] at C2
  rw [h3] at C3
  have HGL := hide h.lt
  have hbad := kind_bad hs (by rw [h0] at hk; rw [h0]; exact hk)
  rw [h0] at hbad hk
  simp only at hbad hk
  have hst : (pRec s).2 = s0 := by
    rw [rec_rest, h0]
    exact (Good.rest kd).stick s0 hk
  have e1 : pNum 8 s0 = (0, s0) := by unfold pNum; rw [if_pos hk]
  rw [e1] at h1
  cases h1
  have e2 : pNum 4 s0 = (0, s0) := by unfold pNum; rw [if_pos hk]
  rw [e2] at h2
  cases h2
  have e3 : pNum 8 s0 = (0, s0) := by unfold pNum; rw [if_pos hk]
  rw [e3] at h3
  cases h3
  have hfin : Hid ((pRec s).2 = s0 ∧ s0.e ≠ 0) := ⟨hst, hk⟩
  have m1 : ((kd : Int) == 1) = false := by rw [beq_eq_false_iff_ne]; omega
  have m2 : ((kd : Int) == 2) = false := by rw [beq_eq_false_iff_ne]; omega
  have m6 : ((kd : Int) == 6) = false := by rw [beq_eq_false_iff_ne]; omega
  have m8 : ((kd : Int) == 8) = false := by rw [beq_eq_false_iff_ne]; omega
  clear hk hst e1 e2 e3 hbad hs bt h0
  have HB0 : Hid (RbAt w g a len cap bs s Rec.zero (.slice none 0 0) (.slice none 0 0) ∧ w.grownBy w (some g)) := ⟨h, grown_refl w _⟩
  clear h
  go_enter Try.func88, Try.ntmps88
  go_wp2_with fail
  refine (C0.out _ _ _ _ HB0.out.1).mono ?_
  rintro e x1 ⟨rfl, hb, hg⟩
  have HX : Hid (RbAt x1 g a len cap bs s0 Rec.zero (.slice none 0 0) (.slice none 0 0) ∧ w.grownBy x1 (some g)) := ⟨hb, grown_trans HB0.out.2 hg⟩
  clear hb hg HB0 C0
  obtain ⟨k, q, -, -⟩ := HX.out.1.row
  have c := q.cell 3 (.int .i64 0) rfl
  have f := q.free 3
  clear q
  have HB1 : Hid (RbAt (x1.setCell ⟨g, 3, none⟩ (.int .i64 ((kd : Nat) : Int))) g a len cap bs s0 ⟨kd, 0, 0, 0, Ch.zero, 0, 0, 0, [], []⟩ (.slice none 0 0) (.slice none 0 0) ∧ w.grownBy (x1.setCell ⟨g, 3, none⟩ (.int .i64 ((kd : Nat) : Int))) (some g)) := ⟨HX.out.1.setc 3 (.int .i64 ((kd : Nat) : Int)) ⟨kd, 0, 0, 0, Ch.zero, 0, 0, 0, [], []⟩ _ _ (fun _ => rfl), grown_set _ HX.out.2⟩
  clear HX
  go_wp2_with fail
  refine gen_calls (fun x => Hid (RbAt x g a len cap bs s0 ⟨kd, 0, 0, 0, Ch.zero, 0, 0, 0, [], []⟩ (.slice none 0 0) (.slice none 0 0) ∧ w.grownBy x (some g))) HB1 ?_
  clear HB1 c f
  intro y1 HB1
  refine (C1.out _ _ _ _ HB1.out.1).mono ?_
  rintro e x2 ⟨rfl, hb, hg⟩
  have HX : Hid (RbAt x2 g a len cap bs s0 ⟨kd, 0, 0, 0, Ch.zero, 0, 0, 0, [], []⟩ (.slice none 0 0) (.slice none 0 0) ∧ w.grownBy x2 (some g)) := ⟨hb, grown_trans HB1.out.2 hg⟩
  clear hb hg HB1 C1
  obtain ⟨k, q, -, -⟩ := HX.out.1.row
  have c := q.cell 4 (.int .u64 0) rfl
  have f := q.free 4
  clear q
  have HB2 : Hid (RbAt (x2.setCell ⟨g, 4, none⟩ (.int .u64 0)) g a len cap bs s0 ⟨kd, 0, 0, 0, Ch.zero, 0, 0, 0, [], []⟩ (.slice none 0 0) (.slice none 0 0) ∧ w.grownBy (x2.setCell ⟨g, 4, none⟩ (.int .u64 0)) (some g)) := ⟨HX.out.1.setc 4 (.int .u64 0) ⟨kd, 0, 0, 0, Ch.zero, 0, 0, 0, [], []⟩ _ _ (fun _ => rfl), grown_set _ HX.out.2⟩
  clear HX
  go_wp2_with fail
  refine gen_calls (fun x => Hid (RbAt x g a len cap bs s0 ⟨kd, 0, 0, 0, Ch.zero, 0, 0, 0, [], []⟩ (.slice none 0 0) (.slice none 0 0) ∧ w.grownBy x (some g))) HB2 ?_
  clear HB2 c f
  intro y2 HB2
  refine (C2.out _ _ _ _ HB2.out.1).mono ?_
  rintro e x3 ⟨rfl, hb, hg⟩
  have HX : Hid (RbAt x3 g a len cap bs s0 ⟨kd, 0, 0, 0, Ch.zero, 0, 0, 0, [], []⟩ (.slice none 0 0) (.slice none 0 0) ∧ w.grownBy x3 (some g)) := ⟨hb, grown_trans HB2.out.2 hg⟩
  clear hb hg HB2 C2
  obtain ⟨k, q, -, -⟩ := HX.out.1.row
  have c := q.cell 5 (.int .i64 0) rfl
  have f := q.free 5
  clear q
  have HB3 : Hid (RbAt (x3.setCell ⟨g, 5, none⟩ (.int .i64 0)) g a len cap bs s0 ⟨kd, 0, 0, 0, Ch.zero, 0, 0, 0, [], []⟩ (.slice none 0 0) (.slice none 0 0) ∧ w.grownBy (x3.setCell ⟨g, 5, none⟩ (.int .i64 0)) (some g)) := ⟨HX.out.1.setc 5 (.int .i64 0) ⟨kd, 0, 0, 0, Ch.zero, 0, 0, 0, [], []⟩ _ _ (fun _ => rfl), grown_set _ HX.out.2⟩
  clear HX
  go_wp2_with fail
  refine gen_calls (fun x => Hid (RbAt x g a len cap bs s0 ⟨kd, 0, 0, 0, Ch.zero, 0, 0, 0, [], []⟩ (.slice none 0 0) (.slice none 0 0) ∧ w.grownBy x (some g))) HB3 ?_
  clear HB3 c f
  intro y3 HB3
  refine (C3.out _ _ _ _ HB3.out.1).mono ?_
  rintro e x4 ⟨rfl, hb, hg⟩
  have HX : Hid (RbAt x4 g a len cap bs s0 ⟨kd, 0, 0, 0, Ch.zero, 0, 0, 0, [], []⟩ (.slice none 0 0) (.slice none 0 0) ∧ w.grownBy x4 (some g)) := ⟨hb, grown_trans HB3.out.2 hg⟩
  clear hb hg HB3 C3
  obtain ⟨k, q, -, -⟩ := HX.out.1.row
  have c := q.cell 6 (.int .u64 0) rfl
  have f := q.free 6
  have c3 := q.cell 3 (.int .i64 ((kd : Nat) : Int)) rfl
  clear q
  have HB4 : Hid (RbAt (x4.setCell ⟨g, 6, none⟩ (.int .u64 0)) g a len cap bs s0 ⟨kd, 0, 0, 0, Ch.zero, 0, 0, 0, [], []⟩ (.slice none 0 0) (.slice none 0 0) ∧ w.grownBy (x4.setCell ⟨g, 6, none⟩ (.int .u64 0)) (some g)) := ⟨HX.out.1.setc 6 (.int .u64 0) ⟨kd, 0, 0, 0, Ch.zero, 0, 0, 0, [], []⟩ _ _ (fun _ => rfl), grown_set _ HX.out.2⟩
  clear HX
  go_wp2
  go_end0
  refine ⟨rfl, ⟨kd, 0, 0, 0, Ch.zero, 0, 0, 0, [], []⟩, _, _, by rw [hfin.out.1]; exact HB4.out.1, fun h => absurd h (by rw [hfin.out.1]; exact hfin.out.2), World.ownsRow_nil _ _ _ _, World.ownsRow_nil _ _ _ _, HB4.out.2⟩
end Go.Proofs.Ythamodoedlpmdaa

/-
  The reader of package record: record, kind 1.
-/
namespace Go.Proofs.Ythamodoedlpmdaa
open Go.RowKit
set_option linter.unusedVariables false

set_option maxRecDepth 4000 in
set_option maxHeartbeats 3200000 in
theorem brec_1 (g : Nat) (a : Option Addr) (len cap : Nat) (bs : List UInt8) (s : St) (hs : s.e = 0) (w : World) (hk : (pIn 1 8 s).1 = 1) (h : RbAt w g a len cap bs s Rec.zero (.slice none 0 0) (.slice none 0 0)) :
    Calls Try.prog 88 #[.pointer (some ⟨g, 0, none⟩)] w fun e w' => e = .returned (.tuple #[]) ∧ RecDone w w' g a len cap bs s := by
  obtain ⟨kd, s0, h0⟩ : ∃ n s', pIn 1 8 s = (n, s') := ⟨_, _, rfl⟩
  obtain ⟨l, s1, h1⟩ : ∃ n s', pNum 8 s0 = (n, s') := ⟨_, _, rfl⟩
  obtain ⟨t, s2, h2⟩ : ∃ n s', pNum 4 s1 = (n, s') := ⟨_, _, rfl⟩
  obtain ⟨p, s3, h3⟩ : ∃ n s', pNum 8 s2 = (n, s') := ⟨_, _, rfl⟩
  have bt : t < 256 ^ 4 := by have := num_lt 4 s1; rw [h2] at this; exact this
  have ewt := conv_i64 t (by omega)
  have C0 := hide (fun r va vb x h => bkind_any g a len cap bs s r va vb x h)
  have C1 := hide (fun r va vb x h => bnum_any g a len cap bs s0 r va vb 8 x (by omega) h)
  have C2 := hide (fun r va vb x h => bnum_any g a len cap bs s1 r va vb 4 x (by omega) h)
  have C3 := hide (fun r va vb x h => bnum_any g a len cap bs s2 r va vb 8 x (by omega) h)
  rw [h0] at C0
  rw [h1] at C1
  rw [h2] at C2
  rw [h3] at C3
  have HGL := hide h.lt
  have hkd : kd = 1 := by rw [h0] at hk; exact hk
  subst hkd
  obtain ⟨ch, s4, h4⟩ : ∃ n s', pCh s3 = (n, s') := ⟨_, _, rfl⟩
  have C4 := hide (fun r va vb x h => bchange_any g a len cap bs s3 r va vb x h)
  rw [h4] at C4
  have hfin : Hid (pRec s = (⟨1, l, t, p, ch, 0, 0, 0, [], []⟩, s4)) := by
    show pRec s = _
    rw [rec_rest, h0]
    simp [recRest, bindP, pureP, pMay, h1, h2, h3, h4]
  clear h4
  clear hs hk bt h0 h1 h2 h3
  have HB0 : Hid (RbAt w g a len cap bs s Rec.zero (.slice none 0 0) (.slice none 0 0) ∧ w.grownBy w (some g)) := ⟨h, grown_refl w _⟩
  clear h
  go_enter Try.func88, Try.ntmps88
  go_wp2_with fail
  refine (C0.out _ _ _ _ HB0.out.1).mono ?_
  rintro e x1 ⟨rfl, hb, hg⟩
  have HX : Hid (RbAt x1 g a len cap bs s0 Rec.zero (.slice none 0 0) (.slice none 0 0) ∧ w.grownBy x1 (some g)) := ⟨hb, grown_trans HB0.out.2 hg⟩
  clear hb hg HB0 C0
  obtain ⟨k, q, -, -⟩ := HX.out.1.row
  have c := q.cell 3 (.int .i64 0) rfl
  have f := q.free 3
  clear q
  have HB1 : Hid (RbAt (x1.setCell ⟨g, 3, none⟩ (.int .i64 1)) g a len cap bs s0 ⟨1, 0, 0, 0, Ch.zero, 0, 0, 0, [], []⟩ (.slice none 0 0) (.slice none 0 0) ∧ w.grownBy (x1.setCell ⟨g, 3, none⟩ (.int .i64 1)) (some g)) := ⟨HX.out.1.setc 3 (.int .i64 1) ⟨1, 0, 0, 0, Ch.zero, 0, 0, 0, [], []⟩ _ _ (fun _ => rfl), grown_set _ HX.out.2⟩
  clear HX
  go_wp2_with fail
  refine gen_calls (fun x => Hid (RbAt x g a len cap bs s0 ⟨1, 0, 0, 0, Ch.zero, 0, 0, 0, [], []⟩ (.slice none 0 0) (.slice none 0 0) ∧ w.grownBy x (some g))) HB1 ?_
  clear HB1 c f
  intro y1 HB1
  refine (C1.out _ _ _ _ HB1.out.1).mono ?_
  rintro e x2 ⟨rfl, hb, hg⟩
  have HX : Hid (RbAt x2 g a len cap bs s1 ⟨1, 0, 0, 0, Ch.zero, 0, 0, 0, [], []⟩ (.slice none 0 0) (.slice none 0 0) ∧ w.grownBy x2 (some g)) := ⟨hb, grown_trans HB1.out.2 hg⟩
  clear hb hg HB1 C1
  obtain ⟨k, q, -, -⟩ := HX.out.1.row
  have c := q.cell 4 (.int .u64 0) rfl
  have f := q.free 4
  clear q
  have HB2 : Hid (RbAt (x2.setCell ⟨g, 4, none⟩ (.int .u64 ((l : Nat) : Int))) g a len cap bs s1 ⟨1, l, 0, 0, Ch.zero, 0, 0, 0, [], []⟩ (.slice none 0 0) (.slice none 0 0) ∧ w.grownBy (x2.setCell ⟨g, 4, none⟩ (.int .u64 ((l : Nat) : Int))) (some g)) := ⟨HX.out.1.setc 4 (.int .u64 ((l : Nat) : Int)) ⟨1, l, 0, 0, Ch.zero, 0, 0, 0, [], []⟩ _ _ (fun _ => rfl), grown_set _ HX.out.2⟩
  clear HX
  go_wp2_with fail
  refine gen_calls (fun x => Hid (RbAt x g a len cap bs s1 ⟨1, l, 0, 0, Ch.zero, 0, 0, 0, [], []⟩ (.slice none 0 0) (.slice none 0 0) ∧ w.grownBy x (some g))) HB2 ?_
  clear HB2 c f
  intro y2 HB2
  refine (C2.out _ _ _ _ HB2.out.1).mono ?_
  rintro e x3 ⟨rfl, hb, hg⟩
  have HX : Hid (RbAt x3 g a len cap bs s2 ⟨1, l, 0, 0, Ch.zero, 0, 0, 0, [], []⟩ (.slice none 0 0) (.slice none 0 0) ∧ w.grownBy x3 (some g)) := ⟨hb, grown_trans HB2.out.2 hg⟩
  clear hb hg HB2 C2
  obtain ⟨k, q, -, -⟩ := HX.out.1.row
  have c := q.cell 5 (.int .i64 0) rfl
  have f := q.free 5
  clear q
  have HB3 : Hid (RbAt (x3.setCell ⟨g, 5, none⟩ (.int .i64 (t : Int))) g a len cap bs s2 ⟨1, l, t, 0, Ch.zero, 0, 0, 0, [], []⟩ (.slice none 0 0) (.slice none 0 0) ∧ w.grownBy (x3.setCell ⟨g, 5, none⟩ (.int .i64 (t : Int))) (some g)) := ⟨HX.out.1.setc 5 (.int .i64 (t : Int)) ⟨1, l, t, 0, Ch.zero, 0, 0, 0, [], []⟩ _ _ (fun _ => rfl), grown_set _ HX.out.2⟩
  clear HX
  go_wp2_with fail
  refine gen_calls (fun x => Hid (RbAt x g a len cap bs s2 ⟨1, l, t, 0, Ch.zero, 0, 0, 0, [], []⟩ (.slice none 0 0) (.slice none 0 0) ∧ w.grownBy x (some g))) HB3 ?_
  clear HB3 c f
  intro y3 HB3
  refine (C3.out _ _ _ _ HB3.out.1).mono ?_
  rintro e x4 ⟨rfl, hb, hg⟩
  have HX : Hid (RbAt x4 g a len cap bs s3 ⟨1, l, t, 0, Ch.zero, 0, 0, 0, [], []⟩ (.slice none 0 0) (.slice none 0 0) ∧ w.grownBy x4 (some g)) := ⟨hb, grown_trans HB3.out.2 hg⟩
  clear hb hg HB3 C3
  obtain ⟨k, q, -, -⟩ := HX.out.1.row
  have c := q.cell 6 (.int .u64 0) rfl
  have f := q.free 6
  have c3 := q.cell 3 (.int .i64 1) rfl
  clear q
  have HB4 : Hid (RbAt (x4.setCell ⟨g, 6, none⟩ (.int .u64 ((p : Nat) : Int))) g a len cap bs s3 ⟨1, l, t, p, Ch.zero, 0, 0, 0, [], []⟩ (.slice none 0 0) (.slice none 0 0) ∧ w.grownBy (x4.setCell ⟨g, 6, none⟩ (.int .u64 ((p : Nat) : Int))) (some g)) := ⟨HX.out.1.setc 6 (.int .u64 ((p : Nat) : Int)) ⟨1, l, t, p, Ch.zero, 0, 0, 0, [], []⟩ _ _ (fun _ => rfl), grown_set _ HX.out.2⟩
  clear HX
  go_wp2_with fail
  refine gen_calls (fun x => Hid (RbAt x g a len cap bs s3 ⟨1, l, t, p, Ch.zero, 0, 0, 0, [], []⟩ (.slice none 0 0) (.slice none 0 0) ∧ w.grownBy x (some g))) HB4 ?_
  clear HB4 c f c3
  intro y4 HB4
  refine (C4.out _ _ _ _ HB4.out.1).mono ?_
  rintro e x5 ⟨rfl, hb, hg⟩
  have HX : Hid (RbAt x5 g a len cap bs s4 ⟨1, l, t, p, Ch.zero, 0, 0, 0, [], []⟩ (.slice none 0 0) (.slice none 0 0) ∧ w.grownBy x5 (some g)) := ⟨hb, grown_trans HB4.out.2 hg⟩
  have HTH := hide hb.there
  clear hb hg HB4 C4
  have HB5 : Hid (RbAt (x5.setCells g 7 (chA ch).toList) g a len cap bs s4 ⟨1, l, t, p, ch, 0, 0, 0, [], []⟩ (.slice none 0 0) (.slice none 0 0) ∧ w.grownBy (x5.setCells g 7 (chA ch).toList) (some g)) := ⟨HX.out.1.setch ch, grown_setch HX.out.2 ch⟩
  clear HX
  go_wp2_with (refine wpList_store_mid rfl 39 (.tmp 39) (.tmp 36) rfl g 7 (chA ch) rfl rfl HTH.out infoCh (chA_one _) ?_)
  go_end0
  refine ⟨rfl, ⟨1, l, t, p, ch, 0, 0, 0, [], []⟩, _, _, by rw [hfin.out]; exact HB5.out.1, fun _ => by rw [hfin.out], World.ownsRow_nil _ _ _ _, World.ownsRow_nil _ _ _ _, HB5.out.2⟩
end Go.Proofs.Ythamodoedlpmdaa

/-
  The reader of package record: record, kind 2.
-/
namespace Go.Proofs.Ythamodoedlpmdaa
open Go.RowKit
set_option linter.unusedVariables false

set_option maxRecDepth 4000 in
set_option maxHeartbeats 3200000 in
theorem brec_2 (g : Nat) (a : Option Addr) (len cap : Nat) (bs : List UInt8) (s : St) (hs : s.e = 0) (w : World) (hk : (pIn 1 8 s).1 = 2) (h : RbAt w g a len cap bs s Rec.zero (.slice none 0 0) (.slice none 0 0)) :
    Calls Try.prog 88 #[.pointer (some ⟨g, 0, none⟩)] w fun e w' => e = .returned (.tuple #[]) ∧ RecDone w w' g a len cap bs s := by
  obtain ⟨kd, s0, h0⟩ : ∃ n s', pIn 1 8 s = (n, s') := ⟨_, _, rfl⟩
  obtain ⟨l, s1, h1⟩ : ∃ n s', pNum 8 s0 = (n, s') := ⟨_, _, rfl⟩
  obtain ⟨t, s2, h2⟩ : ∃ n s', pNum 4 s1 = (n, s') := ⟨_, _, rfl⟩
  obtain ⟨p, s3, h3⟩ : ∃ n s', pNum 8 s2 = (n, s') := ⟨_, _, rfl⟩
  have bt : t < 256 ^ 4 := by have := num_lt 4 s1; rw [h2] at this; exact this
  have ewt := conv_i64 t (by omega)
  have C0 := hide (fun r va vb x h => bkind_any g a len cap bs s r va vb x h)
  have C1 := hide (fun r va vb x h => bnum_any g a len cap bs s0 r va vb 8 x (by omega) h)
  have C2 := hide (fun r va vb x h => bnum_any g a len cap bs s1 r va vb 4 x (by omega) h)
  have C3 := hide (fun r va vb x h => bnum_any g a len cap bs s2 r va vb 8 x (by omega) h)
  rw [h0] at C0
  rw [h1] at C1
  rw [h2] at C2
  rw [h3] at C3
  have HGL := hide h.lt
  have hkd : kd = 2 := by rw [h0] at hk; exact hk
  subst hkd
  obtain ⟨ch, s4, h4⟩ : ∃ n s', pCh s3 = (n, s') := ⟨_, _, rfl⟩
  have C4 := hide (fun r va vb x h => bchange_any g a len cap bs s3 r va vb x h)
  rw [h4] at C4
  obtain ⟨n, s5, h5⟩ : ∃ n s', pNum 8 s4 = (n, s') := ⟨_, _, rfl⟩
  have C5 := hide (fun r va vb x h => bnum_any g a len cap bs s4 r va vb 8 x (by omega) h)
  rw [h5] at C5
  have hfin : Hid (pRec s = (⟨2, l, t, p, ch, n, 0, 0, [], []⟩, s5)) := by
    show pRec s = _
    rw [rec_rest, h0]
    simp [recRest, bindP, pureP, pMay, h1, h2, h3, h4, h5]
  clear h4 h5
  clear hs hk bt h0 h1 h2 h3
  have HB0 : Hid (RbAt w g a len cap bs s Rec.zero (.slice none 0 0) (.slice none 0 0) ∧ w.grownBy w (some g)) := ⟨h, grown_refl w _⟩
  clear h
  go_enter Try.func88, Try.ntmps88
  go_wp2_with fail
  refine (C0.out _ _ _ _ HB0.out.1).mono ?_
  rintro e x1 ⟨rfl, hb, hg⟩
  have HX : Hid (RbAt x1 g a len cap bs s0 Rec.zero (.slice none 0 0) (.slice none 0 0) ∧ w.grownBy x1 (some g)) := ⟨hb, grown_trans HB0.out.2 hg⟩
  clear hb hg HB0 C0
  obtain ⟨k, q, -, -⟩ := HX.out.1.row
  have c := q.cell 3 (.int .i64 0) rfl
  have f := q.free 3
  clear q
  have HB1 : Hid (RbAt (x1.setCell ⟨g, 3, none⟩ (.int .i64 2)) g a len cap bs s0 ⟨2, 0, 0, 0, Ch.zero, 0, 0, 0, [], []⟩ (.slice none 0 0) (.slice none 0 0) ∧ w.grownBy (x1.setCell ⟨g, 3, none⟩ (.int .i64 2)) (some g)) := ⟨HX.out.1.setc 3 (.int .i64 2) ⟨2, 0, 0, 0, Ch.zero, 0, 0, 0, [], []⟩ _ _ (fun _ => rfl), grown_set _ HX.out.2⟩
  clear HX
  go_wp2_with fail
  refine gen_calls (fun x => Hid (RbAt x g a len cap bs s0 ⟨2, 0, 0, 0, Ch.zero, 0, 0, 0, [], []⟩ (.slice none 0 0) (.slice none 0 0) ∧ w.grownBy x (some g))) HB1 ?_
  clear HB1 c f
  intro y1 HB1
  refine (C1.out _ _ _ _ HB1.out.1).mono ?_
  rintro e x2 ⟨rfl, hb, hg⟩
  have HX : Hid (RbAt x2 g a len cap bs s1 ⟨2, 0, 0, 0, Ch.zero, 0, 0, 0, [], []⟩ (.slice none 0 0) (.slice none 0 0) ∧ w.grownBy x2 (some g)) := ⟨hb, grown_trans HB1.out.2 hg⟩
  clear hb hg HB1 C1
  obtain ⟨k, q, -, -⟩ := HX.out.1.row
  have c := q.cell 4 (.int .u64 0) rfl
  have f := q.free 4
  clear q
  have HB2 : Hid (RbAt (x2.setCell ⟨g, 4, none⟩ (.int .u64 ((l : Nat) : Int))) g a len cap bs s1 ⟨2, l, 0, 0, Ch.zero, 0, 0, 0, [], []⟩ (.slice none 0 0) (.slice none 0 0) ∧ w.grownBy (x2.setCell ⟨g, 4, none⟩ (.int .u64 ((l : Nat) : Int))) (some g)) := ⟨HX.out.1.setc 4 (.int .u64 ((l : Nat) : Int)) ⟨2, l, 0, 0, Ch.zero, 0, 0, 0, [], []⟩ _ _ (fun _ => rfl), grown_set _ HX.out.2⟩
  clear HX
  go_wp2_with fail
  refine gen_calls (fun x => Hid (RbAt x g a len cap bs s1 ⟨2, l, 0, 0, Ch.zero, 0, 0, 0, [], []⟩ (.slice none 0 0) (.slice none 0 0) ∧ w.grownBy x (some g))) HB2 ?_
  clear HB2 c f
  intro y2 HB2
  refine (C2.out _ _ _ _ HB2.out.1).mono ?_
  rintro e x3 ⟨rfl, hb, hg⟩
  have HX : Hid (RbAt x3 g a len cap bs s2 ⟨2, l, 0, 0, Ch.zero, 0, 0, 0, [], []⟩ (.slice none 0 0) (.slice none 0 0) ∧ w.grownBy x3 (some g)) := ⟨hb, grown_trans HB2.out.2 hg⟩
  clear hb hg HB2 C2
  obtain ⟨k, q, -, -⟩ := HX.out.1.row
  have c := q.cell 5 (.int .i64 0) rfl
  have f := q.free 5
  clear q
  have HB3 : Hid (RbAt (x3.setCell ⟨g, 5, none⟩ (.int .i64 (t : Int))) g a len cap bs s2 ⟨2, l, t, 0, Ch.zero, 0, 0, 0, [], []⟩ (.slice none 0 0) (.slice none 0 0) ∧ w.grownBy (x3.setCell ⟨g, 5, none⟩ (.int .i64 (t : Int))) (some g)) := ⟨HX.out.1.setc 5 (.int .i64 (t : Int)) ⟨2, l, t, 0, Ch.zero, 0, 0, 0, [], []⟩ _ _ (fun _ => rfl), grown_set _ HX.out.2⟩
  clear HX
  go_wp2_with fail
  refine gen_calls (fun x => Hid (RbAt x g a len cap bs s2 ⟨2, l, t, 0, Ch.zero, 0, 0, 0, [], []⟩ (.slice none 0 0) (.slice none 0 0) ∧ w.grownBy x (some g))) HB3 ?_
  clear HB3 c f
  intro y3 HB3
  refine (C3.out _ _ _ _ HB3.out.1).mono ?_
  rintro e x4 ⟨rfl, hb, hg⟩
  have HX : Hid (RbAt x4 g a len cap bs s3 ⟨2, l, t, 0, Ch.zero, 0, 0, 0, [], []⟩ (.slice none 0 0) (.slice none 0 0) ∧ w.grownBy x4 (some g)) := ⟨hb, grown_trans HB3.out.2 hg⟩
  clear hb hg HB3 C3
  obtain ⟨k, q, -, -⟩ := HX.out.1.row
  have c := q.cell 6 (.int .u64 0) rfl
  have f := q.free 6
  have c3 := q.cell 3 (.int .i64 2) rfl
  clear q
  have HB4 : Hid (RbAt (x4.setCell ⟨g, 6, none⟩ (.int .u64 ((p : Nat) : Int))) g a len cap bs s3 ⟨2, l, t, p, Ch.zero, 0, 0, 0, [], []⟩ (.slice none 0 0) (.slice none 0 0) ∧ w.grownBy (x4.setCell ⟨g, 6, none⟩ (.int .u64 ((p : Nat) : Int))) (some g)) := ⟨HX.out.1.setc 6 (.int .u64 ((p : Nat) : Int)) ⟨2, l, t, p, Ch.zero, 0, 0, 0, [], []⟩ _ _ (fun _ => rfl), grown_set _ HX.out.2⟩
  clear HX
  go_wp2_with fail
  refine gen_calls (fun x => Hid (RbAt x g a len cap bs s3 ⟨2, l, t, p, Ch.zero, 0, 0, 0, [], []⟩ (.slice none 0 0) (.slice none 0 0) ∧ w.grownBy x (some g))) HB4 ?_
  clear HB4 c f c3
  intro y4 HB4
  refine (C4.out _ _ _ _ HB4.out.1).mono ?_
  rintro e x5 ⟨rfl, hb, hg⟩
  have HX : Hid (RbAt x5 g a len cap bs s4 ⟨2, l, t, p, Ch.zero, 0, 0, 0, [], []⟩ (.slice none 0 0) (.slice none 0 0) ∧ w.grownBy x5 (some g)) := ⟨hb, grown_trans HB4.out.2 hg⟩
  have HTH := hide hb.there
  clear hb hg HB4 C4
  have HB5 : Hid (RbAt (x5.setCells g 7 (chA ch).toList) g a len cap bs s4 ⟨2, l, t, p, ch, 0, 0, 0, [], []⟩ (.slice none 0 0) (.slice none 0 0) ∧ w.grownBy (x5.setCells g 7 (chA ch).toList) (some g)) := ⟨HX.out.1.setch ch, grown_setch HX.out.2 ch⟩
  clear HX
  go_wp2_with (refine wpList_store_mid rfl 39 (.tmp 47) (.tmp 44) rfl g 7 (chA ch) rfl rfl HTH.out infoCh (chA_one _) ?_; refine gen_w (fun x => Hid (RbAt x g a len cap bs s4 ⟨2, l, t, p, ch, 0, 0, 0, [], []⟩ (.slice none 0 0) (.slice none 0 0) ∧ w.grownBy x (some g))) HB5 ?_; clear HB5 HTH; intro y5 HB5)
  refine (C5.out _ _ _ _ HB5.out.1).mono ?_
  rintro e x6 ⟨rfl, hb, hg⟩
  have HX : Hid (RbAt x6 g a len cap bs s5 ⟨2, l, t, p, ch, 0, 0, 0, [], []⟩ (.slice none 0 0) (.slice none 0 0) ∧ w.grownBy x6 (some g)) := ⟨hb, grown_trans HB5.out.2 hg⟩
  clear hb hg HB5 C5
  obtain ⟨k, q, -, -⟩ := HX.out.1.row
  have c := q.cell 12 (.int .u64 0) rfl
  have f := q.free 12
  clear q
  have HB6 : Hid (RbAt (x6.setCell ⟨g, 12, none⟩ (.int .u64 ((n : Nat) : Int))) g a len cap bs s5 ⟨2, l, t, p, ch, n, 0, 0, [], []⟩ (.slice none 0 0) (.slice none 0 0) ∧ w.grownBy (x6.setCell ⟨g, 12, none⟩ (.int .u64 ((n : Nat) : Int))) (some g)) := ⟨HX.out.1.setc 12 (.int .u64 ((n : Nat) : Int)) ⟨2, l, t, p, ch, n, 0, 0, [], []⟩ _ _ (fun _ => rfl), grown_set _ HX.out.2⟩
  clear HX
  go_wp2
  go_end0
  refine ⟨rfl, ⟨2, l, t, p, ch, n, 0, 0, [], []⟩, _, _, by rw [hfin.out]; exact HB6.out.1, fun _ => by rw [hfin.out], World.ownsRow_nil _ _ _ _, World.ownsRow_nil _ _ _ _, HB6.out.2⟩
end Go.Proofs.Ythamodoedlpmdaa

/-
  The reader of package record: record, kind 3.
-/
namespace Go.Proofs.Ythamodoedlpmdaa
open Go.RowKit
set_option linter.unusedVariables false

set_option maxRecDepth 4000 in
set_option maxHeartbeats 3200000 in
theorem brec_3 (g : Nat) (a : Option Addr) (len cap : Nat) (bs : List UInt8) (s : St) (hs : s.e = 0) (w : World) (hk : (pIn 1 8 s).1 = 3) (h : RbAt w g a len cap bs s Rec.zero (.slice none 0 0) (.slice none 0 0)) :
    Calls Try.prog 88 #[.pointer (some ⟨g, 0, none⟩)] w fun e w' => e = .returned (.tuple #[]) ∧ RecDone w w' g a len cap bs s := by
  obtain ⟨kd, s0, h0⟩ : ∃ n s', pIn 1 8 s = (n, s') := ⟨_, _, rfl⟩
  obtain ⟨l, s1, h1⟩ : ∃ n s', pNum 8 s0 = (n, s') := ⟨_, _, rfl⟩
  obtain ⟨t, s2, h2⟩ : ∃ n s', pNum 4 s1 = (n, s') := ⟨_, _, rfl⟩
  obtain ⟨p, s3, h3⟩ : ∃ n s', pNum 8 s2 = (n, s') := ⟨_, _, rfl⟩
  have bt : t < 256 ^ 4 := by have := num_lt 4 s1; rw [h2] at this; exact this
  have ewt := conv_i64 t (by omega)
  have C0 := hide (fun r va vb x h => bkind_any g a len cap bs s r va vb x h)
  have C1 := hide (fun r va vb x h => bnum_any g a len cap bs s0 r va vb 8 x (by omega) h)
  have C2 := hide (fun r va vb x h => bnum_any g a len cap bs s1 r va vb 4 x (by omega) h)
  have C3 := hide (fun r va vb x h => bnum_any g a len cap bs s2 r va vb 8 x (by omega) h)
  rw [h0] at C0
  rw [h1] at C1
  rw [h2] at C2
  rw [h3] at C3
  have HGL := hide h.lt
  have hkd : kd = 3 := by rw [h0] at hk; exact hk
  subst hkd
  have hfin : Hid (pRec s = (⟨3, l, t, p, Ch.zero, 0, 0, 0, [], []⟩, s3)) := by
    show pRec s = _
    rw [rec_rest, h0]
    simp [recRest, bindP, pureP, pMay, h1, h2, h3]
  clear hs hk bt h0 h1 h2 h3
  have HB0 : Hid (RbAt w g a len cap bs s Rec.zero (.slice none 0 0) (.slice none 0 0) ∧ w.grownBy w (some g)) := ⟨h, grown_refl w _⟩
  clear h
  go_enter Try.func88, Try.ntmps88
  go_wp2_with fail
  refine (C0.out _ _ _ _ HB0.out.1).mono ?_
  rintro e x1 ⟨rfl, hb, hg⟩
  have HX : Hid (RbAt x1 g a len cap bs s0 Rec.zero (.slice none 0 0) (.slice none 0 0) ∧ w.grownBy x1 (some g)) := ⟨hb, grown_trans HB0.out.2 hg⟩
  clear hb hg HB0 C0
  obtain ⟨k, q, -, -⟩ := HX.out.1.row
  have c := q.cell 3 (.int .i64 0) rfl
  have f := q.free 3
  clear q
  have HB1 : Hid (RbAt (x1.setCell ⟨g, 3, none⟩ (.int .i64 3)) g a len cap bs s0 ⟨3, 0, 0, 0, Ch.zero, 0, 0, 0, [], []⟩ (.slice none 0 0) (.slice none 0 0) ∧ w.grownBy (x1.setCell ⟨g, 3, none⟩ (.int .i64 3)) (some g)) := ⟨HX.out.1.setc 3 (.int .i64 3) ⟨3, 0, 0, 0, Ch.zero, 0, 0, 0, [], []⟩ _ _ (fun _ => rfl), grown_set _ HX.out.2⟩
  clear HX
  go_wp2_with fail
  refine gen_calls (fun x => Hid (RbAt x g a len cap bs s0 ⟨3, 0, 0, 0, Ch.zero, 0, 0, 0, [], []⟩ (.slice none 0 0) (.slice none 0 0) ∧ w.grownBy x (some g))) HB1 ?_
  clear HB1 c f
  intro y1 HB1
  refine (C1.out _ _ _ _ HB1.out.1).mono ?_
  rintro e x2 ⟨rfl, hb, hg⟩
  have HX : Hid (RbAt x2 g a len cap bs s1 ⟨3, 0, 0, 0, Ch.zero, 0, 0, 0, [], []⟩ (.slice none 0 0) (.slice none 0 0) ∧ w.grownBy x2 (some g)) := ⟨hb, grown_trans HB1.out.2 hg⟩
  clear hb hg HB1 C1
  obtain ⟨k, q, -, -⟩ := HX.out.1.row
  have c := q.cell 4 (.int .u64 0) rfl
  have f := q.free 4
  clear q
  have HB2 : Hid (RbAt (x2.setCell ⟨g, 4, none⟩ (.int .u64 ((l : Nat) : Int))) g a len cap bs s1 ⟨3, l, 0, 0, Ch.zero, 0, 0, 0, [], []⟩ (.slice none 0 0) (.slice none 0 0) ∧ w.grownBy (x2.setCell ⟨g, 4, none⟩ (.int .u64 ((l : Nat) : Int))) (some g)) := ⟨HX.out.1.setc 4 (.int .u64 ((l : Nat) : Int)) ⟨3, l, 0, 0, Ch.zero, 0, 0, 0, [], []⟩ _ _ (fun _ => rfl), grown_set _ HX.out.2⟩
  clear HX
  go_wp2_with fail
  refine gen_calls (fun x => Hid (RbAt x g a len cap bs s1 ⟨3, l, 0, 0, Ch.zero, 0, 0, 0, [], []⟩ (.slice none 0 0) (.slice none 0 0) ∧ w.grownBy x (some g))) HB2 ?_
  clear HB2 c f
  intro y2 HB2
  refine (C2.out _ _ _ _ HB2.out.1).mono ?_
  rintro e x3 ⟨rfl, hb, hg⟩
  have HX : Hid (RbAt x3 g a len cap bs s2 ⟨3, l, 0, 0, Ch.zero, 0, 0, 0, [], []⟩ (.slice none 0 0) (.slice none 0 0) ∧ w.grownBy x3 (some g)) := ⟨hb, grown_trans HB2.out.2 hg⟩
  clear hb hg HB2 C2
  obtain ⟨k, q, -, -⟩ := HX.out.1.row
  have c := q.cell 5 (.int .i64 0) rfl
  have f := q.free 5
  clear q
  have HB3 : Hid (RbAt (x3.setCell ⟨g, 5, none⟩ (.int .i64 (t : Int))) g a len cap bs s2 ⟨3, l, t, 0, Ch.zero, 0, 0, 0, [], []⟩ (.slice none 0 0) (.slice none 0 0) ∧ w.grownBy (x3.setCell ⟨g, 5, none⟩ (.int .i64 (t : Int))) (some g)) := ⟨HX.out.1.setc 5 (.int .i64 (t : Int)) ⟨3, l, t, 0, Ch.zero, 0, 0, 0, [], []⟩ _ _ (fun _ => rfl), grown_set _ HX.out.2⟩
  clear HX
  go_wp2_with fail
  refine gen_calls (fun x => Hid (RbAt x g a len cap bs s2 ⟨3, l, t, 0, Ch.zero, 0, 0, 0, [], []⟩ (.slice none 0 0) (.slice none 0 0) ∧ w.grownBy x (some g))) HB3 ?_
  clear HB3 c f
  intro y3 HB3
  refine (C3.out _ _ _ _ HB3.out.1).mono ?_
  rintro e x4 ⟨rfl, hb, hg⟩
  have HX : Hid (RbAt x4 g a len cap bs s3 ⟨3, l, t, 0, Ch.zero, 0, 0, 0, [], []⟩ (.slice none 0 0) (.slice none 0 0) ∧ w.grownBy x4 (some g)) := ⟨hb, grown_trans HB3.out.2 hg⟩
  clear hb hg HB3 C3
  obtain ⟨k, q, -, -⟩ := HX.out.1.row
  have c := q.cell 6 (.int .u64 0) rfl
  have f := q.free 6
  have c3 := q.cell 3 (.int .i64 3) rfl
  clear q
  have HB4 : Hid (RbAt (x4.setCell ⟨g, 6, none⟩ (.int .u64 ((p : Nat) : Int))) g a len cap bs s3 ⟨3, l, t, p, Ch.zero, 0, 0, 0, [], []⟩ (.slice none 0 0) (.slice none 0 0) ∧ w.grownBy (x4.setCell ⟨g, 6, none⟩ (.int .u64 ((p : Nat) : Int))) (some g)) := ⟨HX.out.1.setc 6 (.int .u64 ((p : Nat) : Int)) ⟨3, l, t, p, Ch.zero, 0, 0, 0, [], []⟩ _ _ (fun _ => rfl), grown_set _ HX.out.2⟩
  clear HX
  go_wp2
  go_end0
  refine ⟨rfl, ⟨3, l, t, p, Ch.zero, 0, 0, 0, [], []⟩, _, _, by rw [hfin.out]; exact HB4.out.1, fun _ => by rw [hfin.out], World.ownsRow_nil _ _ _ _, World.ownsRow_nil _ _ _ _, HB4.out.2⟩
end Go.Proofs.Ythamodoedlpmdaa

/-
  The reader of package record: record, kind 4.
-/
namespace Go.Proofs.Ythamodoedlpmdaa
open Go.RowKit
set_option linter.unusedVariables false

set_option maxRecDepth 4000 in
set_option maxHeartbeats 3200000 in
theorem brec_4 (g : Nat) (a : Option Addr) (len cap : Nat) (bs : List UInt8) (s : St) (hs : s.e = 0) (w : World) (hk : (pIn 1 8 s).1 = 4) (h : RbAt w g a len cap bs s Rec.zero (.slice none 0 0) (.slice none 0 0)) :
    Calls Try.prog 88 #[.pointer (some ⟨g, 0, none⟩)] w fun e w' => e = .returned (.tuple #[]) ∧ RecDone w w' g a len cap bs s := by
  obtain ⟨kd, s0, h0⟩ : ∃ n s', pIn 1 8 s = (n, s') := ⟨_, _, rfl⟩
  obtain ⟨l, s1, h1⟩ : ∃ n s', pNum 8 s0 = (n, s') := ⟨_, _, rfl⟩
  obtain ⟨t, s2, h2⟩ : ∃ n s', pNum 4 s1 = (n, s') := ⟨_, _, rfl⟩
  obtain ⟨p, s3, h3⟩ : ∃ n s', pNum 8 s2 = (n, s') := ⟨_, _, rfl⟩
  have bt : t < 256 ^ 4 := by have := num_lt 4 s1; rw [h2] at this; exact this
  have ewt := conv_i64 t (by omega)
  have C0 := hide (fun r va vb x h => bkind_any g a len cap bs s r va vb x h)
  have C1 := hide (fun r va vb x h => bnum_any g a len cap bs s0 r va vb 8 x (by omega) h)
  have C2 := hide (fun r va vb x h => bnum_any g a len cap bs s1 r va vb 4 x (by omega) h)
  have C3 := hide (fun r va vb x h => bnum_any g a len cap bs s2 r va vb 8 x (by omega) h)
  rw [h0] at C0
  rw [h1] at C1
  rw [h2] at C2
  rw [h3] at C3
  have HGL := hide h.lt
  have hkd : kd = 4 := by rw [h0] at hk; exact hk
  subst hkd
  have hfin : Hid (pRec s = (⟨4, l, t, p, Ch.zero, 0, 0, 0, [], []⟩, s3)) := by
    show pRec s = _
    rw [rec_rest, h0]
    simp [recRest, bindP, pureP, pMay, h1, h2, h3]
  clear hs hk bt h0 h1 h2 h3
  have HB0 : Hid (RbAt w g a len cap bs s Rec.zero (.slice none 0 0) (.slice none 0 0) ∧ w.grownBy w (some g)) := ⟨h, grown_refl w _⟩
  clear h
  go_enter Try.func88, Try.ntmps88
  go_wp2_with fail
  refine (C0.out _ _ _ _ HB0.out.1).mono ?_
  rintro e x1 ⟨rfl, hb, hg⟩
  have HX : Hid (RbAt x1 g a len cap bs s0 Rec.zero (.slice none 0 0) (.slice none 0 0) ∧ w.grownBy x1 (some g)) := ⟨hb, grown_trans HB0.out.2 hg⟩
  clear hb hg HB0 C0
  obtain ⟨k, q, -, -⟩ := HX.out.1.row
  have c := q.cell 3 (.int .i64 0) rfl
  have f := q.free 3
  clear q
  have HB1 : Hid (RbAt (x1.setCell ⟨g, 3, none⟩ (.int .i64 4)) g a len cap bs s0 ⟨4, 0, 0, 0, Ch.zero, 0, 0, 0, [], []⟩ (.slice none 0 0) (.slice none 0 0) ∧ w.grownBy (x1.setCell ⟨g, 3, none⟩ (.int .i64 4)) (some g)) := ⟨HX.out.1.setc 3 (.int .i64 4) ⟨4, 0, 0, 0, Ch.zero, 0, 0, 0, [], []⟩ _ _ (fun _ => rfl), grown_set _ HX.out.2⟩
  clear HX
  go_wp2_with fail
  refine gen_calls (fun x => Hid (RbAt x g a len cap bs s0 ⟨4, 0, 0, 0, Ch.zero, 0, 0, 0, [], []⟩ (.slice none 0 0) (.slice none 0 0) ∧ w.grownBy x (some g))) HB1 ?_
  clear HB1 c f
  intro y1 HB1
  refine (C1.out _ _ _ _ HB1.out.1).mono ?_
  rintro e x2 ⟨rfl, hb, hg⟩
  have HX : Hid (RbAt x2 g a len cap bs s1 ⟨4, 0, 0, 0, Ch.zero, 0, 0, 0, [], []⟩ (.slice none 0 0) (.slice none 0 0) ∧ w.grownBy x2 (some g)) := ⟨hb, grown_trans HB1.out.2 hg⟩
  clear hb hg HB1 C1
  obtain ⟨k, q, -, -⟩ := HX.out.1.row
  have c := q.cell 4 (.int .u64 0) rfl
  have f := q.free 4
  clear q
  have HB2 : Hid (RbAt (x2.setCell ⟨g, 4, none⟩ (.int .u64 ((l : Nat) : Int))) g a len cap bs s1 ⟨4, l, 0, 0, Ch.zero, 0, 0, 0, [], []⟩ (.slice none 0 0) (.slice none 0 0) ∧ w.grownBy (x2.setCell ⟨g, 4, none⟩ (.int .u64 ((l : Nat) : Int))) (some g)) := ⟨HX.out.1.setc 4 (.int .u64 ((l : Nat) : Int)) ⟨4, l, 0, 0, Ch.zero, 0, 0, 0, [], []⟩ _ _ (fun _ => rfl), grown_set _ HX.out.2⟩
  clear HX
  go_wp2_with fail
  refine gen_calls (fun x => Hid (RbAt x g a len cap bs s1 ⟨4, l, 0, 0, Ch.zero, 0, 0, 0, [], []⟩ (.slice none 0 0) (.slice none 0 0) ∧ w.grownBy x (some g))) HB2 ?_
  clear HB2 c f
  intro y2 HB2
  refine (C2.out _ _ _ _ HB2.out.1).mono ?_
  rintro e x3 ⟨rfl, hb, hg⟩
  have HX : Hid (RbAt x3 g a len cap bs s2 ⟨4, l, 0, 0, Ch.zero, 0, 0, 0, [], []⟩ (.slice none 0 0) (.slice none 0 0) ∧ w.grownBy x3 (some g)) := ⟨hb, grown_trans HB2.out.2 hg⟩
  clear hb hg HB2 C2
  obtain ⟨k, q, -, -⟩ := HX.out.1.row
  have c := q.cell 5 (.int .i64 0) rfl
  have f := q.free 5
  clear q
  have HB3 : Hid (RbAt (x3.setCell ⟨g, 5, none⟩ (.int .i64 (t : Int))) g a len cap bs s2 ⟨4, l, t, 0, Ch.zero, 0, 0, 0, [], []⟩ (.slice none 0 0) (.slice none 0 0) ∧ w.grownBy (x3.setCell ⟨g, 5, none⟩ (.int .i64 (t : Int))) (some g)) := ⟨HX.out.1.setc 5 (.int .i64 (t : Int)) ⟨4, l, t, 0, Ch.zero, 0, 0, 0, [], []⟩ _ _ (fun _ => rfl), grown_set _ HX.out.2⟩
  clear HX
  go_wp2_with fail
  refine gen_calls (fun x => Hid (RbAt x g a len cap bs s2 ⟨4, l, t, 0, Ch.zero, 0, 0, 0, [], []⟩ (.slice none 0 0) (.slice none 0 0) ∧ w.grownBy x (some g))) HB3 ?_
  clear HB3 c f
  intro y3 HB3
  refine (C3.out _ _ _ _ HB3.out.1).mono ?_
  rintro e x4 ⟨rfl, hb, hg⟩
  have HX : Hid (RbAt x4 g a len cap bs s3 ⟨4, l, t, 0, Ch.zero, 0, 0, 0, [], []⟩ (.slice none 0 0) (.slice none 0 0) ∧ w.grownBy x4 (some g)) := ⟨hb, grown_trans HB3.out.2 hg⟩
  clear hb hg HB3 C3
  obtain ⟨k, q, -, -⟩ := HX.out.1.row
  have c := q.cell 6 (.int .u64 0) rfl
  have f := q.free 6
  have c3 := q.cell 3 (.int .i64 4) rfl
  clear q
  have HB4 : Hid (RbAt (x4.setCell ⟨g, 6, none⟩ (.int .u64 ((p : Nat) : Int))) g a len cap bs s3 ⟨4, l, t, p, Ch.zero, 0, 0, 0, [], []⟩ (.slice none 0 0) (.slice none 0 0) ∧ w.grownBy (x4.setCell ⟨g, 6, none⟩ (.int .u64 ((p : Nat) : Int))) (some g)) := ⟨HX.out.1.setc 6 (.int .u64 ((p : Nat) : Int)) ⟨4, l, t, p, Ch.zero, 0, 0, 0, [], []⟩ _ _ (fun _ => rfl), grown_set _ HX.out.2⟩
  clear HX
  go_wp2
  go_end0
  refine ⟨rfl, ⟨4, l, t, p, Ch.zero, 0, 0, 0, [], []⟩, _, _, by rw [hfin.out]; exact HB4.out.1, fun _ => by rw [hfin.out], World.ownsRow_nil _ _ _ _, World.ownsRow_nil _ _ _ _, HB4.out.2⟩
end Go.Proofs.Ythamodoedlpmdaa

/-
  The reader of package record: record, kind 5.
-/
namespace Go.Proofs.Ythamodoedlpmdaa
open Go.RowKit
set_option linter.unusedVariables false

set_option maxRecDepth 4000 in
set_option maxHeartbeats 3200000 in
theorem brec_5 (g : Nat) (a : Option Addr) (len cap : Nat) (bs : List UInt8) (s : St) (hs : s.e = 0) (w : World) (hk : (pIn 1 8 s).1 = 5) (h : RbAt w g a len cap bs s Rec.zero (.slice none 0 0) (.slice none 0 0)) :
    Calls Try.prog 88 #[.pointer (some ⟨g, 0, none⟩)] w fun e w' => e = .returned (.tuple #[]) ∧ RecDone w w' g a len cap bs s := by
  obtain ⟨kd, s0, h0⟩ : ∃ n s', pIn 1 8 s = (n, s') := ⟨_, _, rfl⟩
  obtain ⟨l, s1, h1⟩ : ∃ n s', pNum 8 s0 = (n, s') := ⟨_, _, rfl⟩
  obtain ⟨t, s2, h2⟩ : ∃ n s', pNum 4 s1 = (n, s') := ⟨_, _, rfl⟩
  obtain ⟨p, s3, h3⟩ : ∃ n s', pNum 8 s2 = (n, s') := ⟨_, _, rfl⟩
  have bt : t < 256 ^ 4 := by have := num_lt 4 s1; rw [h2] at this; exact this
  have ewt := conv_i64 t (by omega)
  have C0 := hide (fun r va vb x h => bkind_any g a len cap bs s r va vb x h)
  have C1 := hide (fun r va vb x h => bnum_any g a len cap bs s0 r va vb 8 x (by omega) h)
  have C2 := hide (fun r va vb x h => bnum_any g a len cap bs s1 r va vb 4 x (by omega) h)
  have C3 := hide (fun r va vb x h => bnum_any g a len cap bs s2 r va vb 8 x (by omega) h)
  rw [h0] at C0
  rw [h1] at C1
  rw [h2] at C2
  rw [h3] at C3
  have HGL := hide h.lt
  have hkd : kd = 5 := by rw [h0] at hk; exact hk
  subst hkd
  have hfin : Hid (pRec s = (⟨5, l, t, p, Ch.zero, 0, 0, 0, [], []⟩, s3)) := by
    show pRec s = _
    rw [rec_rest, h0]
    simp [recRest, bindP, pureP, pMay, h1, h2, h3]
  clear hs hk bt h0 h1 h2 h3
  have HB0 : Hid (RbAt w g a len cap bs s Rec.zero (.slice none 0 0) (.slice none 0 0) ∧ w.grownBy w (some g)) := ⟨h, grown_refl w _⟩
  clear h
  go_enter Try.func88, Try.ntmps88
  go_wp2_with fail
  refine (C0.out _ _ _ _ HB0.out.1).mono ?_
  rintro e x1 ⟨rfl, hb, hg⟩
  have HX : Hid (RbAt x1 g a len cap bs s0 Rec.zero (.slice none 0 0) (.slice none 0 0) ∧ w.grownBy x1 (some g)) := ⟨hb, grown_trans HB0.out.2 hg⟩
  clear hb hg HB0 C0
  obtain ⟨k, q, -, -⟩ := HX.out.1.row
  have c := q.cell 3 (.int .i64 0) rfl
  have f := q.free 3
  clear q
  have HB1 : Hid (RbAt (x1.setCell ⟨g, 3, none⟩ (.int .i64 5)) g a len cap bs s0 ⟨5, 0, 0, 0, Ch.zero, 0, 0, 0, [], []⟩ (.slice none 0 0) (.slice none 0 0) ∧ w.grownBy (x1.setCell ⟨g, 3, none⟩ (.int .i64 5)) (some g)) := ⟨HX.out.1.setc 3 (.int .i64 5) ⟨5, 0, 0, 0, Ch.zero, 0, 0, 0, [], []⟩ _ _ (fun _ => rfl), grown_set _ HX.out.2⟩
  clear HX
  go_wp2_with fail
  refine gen_calls (fun x => Hid (RbAt x g a len cap bs s0 ⟨5, 0, 0, 0, Ch.zero, 0, 0, 0, [], []⟩ (.slice none 0 0) (.slice none 0 0) ∧ w.grownBy x (some g))) HB1 ?_
  clear HB1 c f
  intro y1 HB1
  refine (C1.out _ _ _ _ HB1.out.1).mono ?_
  rintro e x2 ⟨rfl, hb, hg⟩
  have HX : Hid (RbAt x2 g a len cap bs s1 ⟨5, 0, 0, 0, Ch.zero, 0, 0, 0, [], []⟩ (.slice none 0 0) (.slice none 0 0) ∧ w.grownBy x2 (some g)) := ⟨hb, grown_trans HB1.out.2 hg⟩
  clear hb hg HB1 C1
  obtain ⟨k, q, -, -⟩ := HX.out.1.row
  have c := q.cell 4 (.int .u64 0) rfl
  have f := q.free 4
  clear q
  have HB2 : Hid (RbAt (x2.setCell ⟨g, 4, none⟩ (.int .u64 ((l : Nat) : Int))) g a len cap bs s1 ⟨5, l, 0, 0, Ch.zero, 0, 0, 0, [], []⟩ (.slice none 0 0) (.slice none 0 0) ∧ w.grownBy (x2.setCell ⟨g, 4, none⟩ (.int .u64 ((l : Nat) : Int))) (some g)) := ⟨HX.out.1.setc 4 (.int .u64 ((l : Nat) : Int)) ⟨5, l, 0, 0, Ch.zero, 0, 0, 0, [], []⟩ _ _ (fun _ => rfl), grown_set _ HX.out.2⟩
  clear HX
  go_wp2_with fail
  refine gen_calls (fun x => Hid (RbAt x g a len cap bs s1 ⟨5, l, 0, 0, Ch.zero, 0, 0, 0, [], []⟩ (.slice none 0 0) (.slice none 0 0) ∧ w.grownBy x (some g))) HB2 ?_
  clear HB2 c f
  intro y2 HB2
  refine (C2.out _ _ _ _ HB2.out.1).mono ?_
  rintro e x3 ⟨rfl, hb, hg⟩
  have HX : Hid (RbAt x3 g a len cap bs s2 ⟨5, l, 0, 0, Ch.zero, 0, 0, 0, [], []⟩ (.slice none 0 0) (.slice none 0 0) ∧ w.grownBy x3 (some g)) := ⟨hb, grown_trans HB2.out.2 hg⟩
  clear hb hg HB2 C2
  obtain ⟨k, q, -, -⟩ := HX.out.1.row
  have c := q.cell 5 (.int .i64 0) rfl
  have f := q.free 5
  clear q
  have HB3 : Hid (RbAt (x3.setCell ⟨g, 5, none⟩ (.int .i64 (t : Int))) g a len cap bs s2 ⟨5, l, t, 0, Ch.zero, 0, 0, 0, [], []⟩ (.slice none 0 0) (.slice none 0 0) ∧ w.grownBy (x3.setCell ⟨g, 5, none⟩ (.int .i64 (t : Int))) (some g)) := ⟨HX.out.1.setc 5 (.int .i64 (t : Int)) ⟨5, l, t, 0, Ch.zero, 0, 0, 0, [], []⟩ _ _ (fun _ => rfl), grown_set _ HX.out.2⟩
  clear HX
  go_wp2_with fail
  refine gen_calls (fun x => Hid (RbAt x g a len cap bs s2 ⟨5, l, t, 0, Ch.zero, 0, 0, 0, [], []⟩ (.slice none 0 0) (.slice none 0 0) ∧ w.grownBy x (some g))) HB3 ?_
  clear HB3 c f
  intro y3 HB3
  refine (C3.out _ _ _ _ HB3.out.1).mono ?_
  rintro e x4 ⟨rfl, hb, hg⟩
  have HX : Hid (RbAt x4 g a len cap bs s3 ⟨5, l, t, 0, Ch.zero, 0, 0, 0, [], []⟩ (.slice none 0 0) (.slice none 0 0) ∧ w.grownBy x4 (some g)) := ⟨hb, grown_trans HB3.out.2 hg⟩
  clear hb hg HB3 C3
  obtain ⟨k, q, -, -⟩ := HX.out.1.row
  have c := q.cell 6 (.int .u64 0) rfl
  have f := q.free 6
  have c3 := q.cell 3 (.int .i64 5) rfl
  clear q
  have HB4 : Hid (RbAt (x4.setCell ⟨g, 6, none⟩ (.int .u64 ((p : Nat) : Int))) g a len cap bs s3 ⟨5, l, t, p, Ch.zero, 0, 0, 0, [], []⟩ (.slice none 0 0) (.slice none 0 0) ∧ w.grownBy (x4.setCell ⟨g, 6, none⟩ (.int .u64 ((p : Nat) : Int))) (some g)) := ⟨HX.out.1.setc 6 (.int .u64 ((p : Nat) : Int)) ⟨5, l, t, p, Ch.zero, 0, 0, 0, [], []⟩ _ _ (fun _ => rfl), grown_set _ HX.out.2⟩
  clear HX
  go_wp2
  go_end0
  refine ⟨rfl, ⟨5, l, t, p, Ch.zero, 0, 0, 0, [], []⟩, _, _, by rw [hfin.out]; exact HB4.out.1, fun _ => by rw [hfin.out], World.ownsRow_nil _ _ _ _, World.ownsRow_nil _ _ _ _, HB4.out.2⟩
end Go.Proofs.Ythamodoedlpmdaa

/-
  The reader of package record: record, kind 6.
-/
namespace Go.Proofs.Ythamodoedlpmdaa
open Go.RowKit
set_option linter.unusedVariables false

set_option maxRecDepth 4000 in
set_option maxHeartbeats 3200000 in
theorem brec_6 (g : Nat) (a : Option Addr) (len cap : Nat) (bs : List UInt8) (s : St) (hs : s.e = 0) (w : World) (hk : (pIn 1 8 s).1 = 6) (h : RbAt w g a len cap bs s Rec.zero (.slice none 0 0) (.slice none 0 0)) :
    Calls Try.prog 88 #[.pointer (some ⟨g, 0, none⟩)] w fun e w' => e = .returned (.tuple #[]) ∧ RecDone w w' g a len cap bs s := by
  obtain ⟨kd, s0, h0⟩ : ∃ n s', pIn 1 8 s = (n, s') := ⟨_, _, rfl⟩
  obtain ⟨l, s1, h1⟩ : ∃ n s', pNum 8 s0 = (n, s') := ⟨_, _, rfl⟩
  obtain ⟨t, s2, h2⟩ : ∃ n s', pNum 4 s1 = (n, s') := ⟨_, _, rfl⟩
  obtain ⟨p, s3, h3⟩ : ∃ n s', pNum 8 s2 = (n, s') := ⟨_, _, rfl⟩
  have bt : t < 256 ^ 4 := by have := num_lt 4 s1; rw [h2] at this; exact this
  have ewt := conv_i64 t (by omega)
  have C0 := hide (fun r va vb x h => bkind_any g a len cap bs s r va vb x h)
  have C1 := hide (fun r va vb x h => bnum_any g a len cap bs s0 r va vb 8 x (by omega) h)
  have C2 := hide (fun r va vb x h => bnum_any g a len cap bs s1 r va vb 4 x (by omega) h)
  have C3 := hide (fun r va vb x h => bnum_any g a len cap bs s2 r va vb 8 x (by omega) h)
  rw [h0] at C0
  rw [h1] at C1
  rw [h2] at C2
  rw [h3] at C3
  have HGL := hide h.lt
  have hkd : kd = 6 := by rw [h0] at hk; exact hk
  subst hkd
  obtain ⟨n, s4, h4⟩ : ∃ n s', pNum 1 s3 = (n, s') := ⟨_, _, rfl⟩
  have bn : n < 256 ^ 1 := by have := num_lt 1 s3; rw [h4] at this; exact this
  have ewn := conv_i64 n (by omega)
  have C4 := hide (fun r va vb x h => bnum_any g a len cap bs s3 r va vb 1 x (by omega) h)
  rw [h4] at C4
  have hfin : Hid (pRec s = (⟨6, l, t, p, Ch.zero, 0, n, 0, [], []⟩, s4)) := by
    show pRec s = _
    rw [rec_rest, h0]
    simp [recRest, bindP, pureP, pMay, h1, h2, h3, h4]
  clear h4 bn
  clear hs hk bt h0 h1 h2 h3
  have HB0 : Hid (RbAt w g a len cap bs s Rec.zero (.slice none 0 0) (.slice none 0 0) ∧ w.grownBy w (some g)) := ⟨h, grown_refl w _⟩
  clear h
  go_enter Try.func88, Try.ntmps88
  go_wp2_with fail
  refine (C0.out _ _ _ _ HB0.out.1).mono ?_
  rintro e x1 ⟨rfl, hb, hg⟩
  have HX : Hid (RbAt x1 g a len cap bs s0 Rec.zero (.slice none 0 0) (.slice none 0 0) ∧ w.grownBy x1 (some g)) := ⟨hb, grown_trans HB0.out.2 hg⟩
  clear hb hg HB0 C0
  obtain ⟨k, q, -, -⟩ := HX.out.1.row
  have c := q.cell 3 (.int .i64 0) rfl
  have f := q.free 3
  clear q
  have HB1 : Hid (RbAt (x1.setCell ⟨g, 3, none⟩ (.int .i64 6)) g a len cap bs s0 ⟨6, 0, 0, 0, Ch.zero, 0, 0, 0, [], []⟩ (.slice none 0 0) (.slice none 0 0) ∧ w.grownBy (x1.setCell ⟨g, 3, none⟩ (.int .i64 6)) (some g)) := ⟨HX.out.1.setc 3 (.int .i64 6) ⟨6, 0, 0, 0, Ch.zero, 0, 0, 0, [], []⟩ _ _ (fun _ => rfl), grown_set _ HX.out.2⟩
  clear HX
  go_wp2_with fail
  refine gen_calls (fun x => Hid (RbAt x g a len cap bs s0 ⟨6, 0, 0, 0, Ch.zero, 0, 0, 0, [], []⟩ (.slice none 0 0) (.slice none 0 0) ∧ w.grownBy x (some g))) HB1 ?_
  clear HB1 c f
  intro y1 HB1
  refine (C1.out _ _ _ _ HB1.out.1).mono ?_
  rintro e x2 ⟨rfl, hb, hg⟩
  have HX : Hid (RbAt x2 g a len cap bs s1 ⟨6, 0, 0, 0, Ch.zero, 0, 0, 0, [], []⟩ (.slice none 0 0) (.slice none 0 0) ∧ w.grownBy x2 (some g)) := ⟨hb, grown_trans HB1.out.2 hg⟩
  clear hb hg HB1 C1
  obtain ⟨k, q, -, -⟩ := HX.out.1.row
  have c := q.cell 4 (.int .u64 0) rfl
  have f := q.free 4
  clear q
  have HB2 : Hid (RbAt (x2.setCell ⟨g, 4, none⟩ (.int .u64 ((l : Nat) : Int))) g a len cap bs s1 ⟨6, l, 0, 0, Ch.zero, 0, 0, 0, [], []⟩ (.slice none 0 0) (.slice none 0 0) ∧ w.grownBy (x2.setCell ⟨g, 4, none⟩ (.int .u64 ((l : Nat) : Int))) (some g)) := ⟨HX.out.1.setc 4 (.int .u64 ((l : Nat) : Int)) ⟨6, l, 0, 0, Ch.zero, 0, 0, 0, [], []⟩ _ _ (fun _ => rfl), grown_set _ HX.out.2⟩
  clear HX
  go_wp2_with fail
  refine gen_calls (fun x => Hid (RbAt x g a len cap bs s1 ⟨6, l, 0, 0, Ch.zero, 0, 0, 0, [], []⟩ (.slice none 0 0) (.slice none 0 0) ∧ w.grownBy x (some g))) HB2 ?_
  clear HB2 c f
  intro y2 HB2
  refine (C2.out _ _ _ _ HB2.out.1).mono ?_
  rintro e x3 ⟨rfl, hb, hg⟩
  have HX : Hid (RbAt x3 g a len cap bs s2 ⟨6, l, 0, 0, Ch.zero, 0, 0, 0, [], []⟩ (.slice none 0 0) (.slice none 0 0) ∧ w.grownBy x3 (some g)) := ⟨hb, grown_trans HB2.out.2 hg⟩
  clear hb hg HB2 C2
  obtain ⟨k, q, -, -⟩ := HX.out.1.row
  have c := q.cell 5 (.int .i64 0) rfl
  have f := q.free 5
  clear q
  have HB3 : Hid (RbAt (x3.setCell ⟨g, 5, none⟩ (.int .i64 (t : Int))) g a len cap bs s2 ⟨6, l, t, 0, Ch.zero, 0, 0, 0, [], []⟩ (.slice none 0 0) (.slice none 0 0) ∧ w.grownBy (x3.setCell ⟨g, 5, none⟩ (.int .i64 (t : Int))) (some g)) := ⟨HX.out.1.setc 5 (.int .i64 (t : Int)) ⟨6, l, t, 0, Ch.zero, 0, 0, 0, [], []⟩ _ _ (fun _ => rfl), grown_set _ HX.out.2⟩
  clear HX
  go_wp2_with fail
  refine gen_calls (fun x => Hid (RbAt x g a len cap bs s2 ⟨6, l, t, 0, Ch.zero, 0, 0, 0, [], []⟩ (.slice none 0 0) (.slice none 0 0) ∧ w.grownBy x (some g))) HB3 ?_
  clear HB3 c f
  intro y3 HB3
  refine (C3.out _ _ _ _ HB3.out.1).mono ?_
  rintro e x4 ⟨rfl, hb, hg⟩
  have HX : Hid (RbAt x4 g a len cap bs s3 ⟨6, l, t, 0, Ch.zero, 0, 0, 0, [], []⟩ (.slice none 0 0) (.slice none 0 0) ∧ w.grownBy x4 (some g)) := ⟨hb, grown_trans HB3.out.2 hg⟩
  clear hb hg HB3 C3
  obtain ⟨k, q, -, -⟩ := HX.out.1.row
  have c := q.cell 6 (.int .u64 0) rfl
  have f := q.free 6
  have c3 := q.cell 3 (.int .i64 6) rfl
  clear q
  have HB4 : Hid (RbAt (x4.setCell ⟨g, 6, none⟩ (.int .u64 ((p : Nat) : Int))) g a len cap bs s3 ⟨6, l, t, p, Ch.zero, 0, 0, 0, [], []⟩ (.slice none 0 0) (.slice none 0 0) ∧ w.grownBy (x4.setCell ⟨g, 6, none⟩ (.int .u64 ((p : Nat) : Int))) (some g)) := ⟨HX.out.1.setc 6 (.int .u64 ((p : Nat) : Int)) ⟨6, l, t, p, Ch.zero, 0, 0, 0, [], []⟩ _ _ (fun _ => rfl), grown_set _ HX.out.2⟩
  clear HX
  go_wp2_with fail
  refine gen_calls (fun x => Hid (RbAt x g a len cap bs s3 ⟨6, l, t, p, Ch.zero, 0, 0, 0, [], []⟩ (.slice none 0 0) (.slice none 0 0) ∧ w.grownBy x (some g))) HB4 ?_
  clear HB4 c f c3
  intro y4 HB4
  refine (C4.out _ _ _ _ HB4.out.1).mono ?_
  rintro e x5 ⟨rfl, hb, hg⟩
  have HX : Hid (RbAt x5 g a len cap bs s4 ⟨6, l, t, p, Ch.zero, 0, 0, 0, [], []⟩ (.slice none 0 0) (.slice none 0 0) ∧ w.grownBy x5 (some g)) := ⟨hb, grown_trans HB4.out.2 hg⟩
  clear hb hg HB4 C4
  obtain ⟨k, q, -, -⟩ := HX.out.1.row
  have c := q.cell 13 (.int .i64 0) rfl
  have f := q.free 13
  clear q
  have HB5 : Hid (RbAt (x5.setCell ⟨g, 13, none⟩ (.int .i64 ((n : Nat) : Int))) g a len cap bs s4 ⟨6, l, t, p, Ch.zero, 0, n, 0, [], []⟩ (.slice none 0 0) (.slice none 0 0) ∧ w.grownBy (x5.setCell ⟨g, 13, none⟩ (.int .i64 ((n : Nat) : Int))) (some g)) := ⟨HX.out.1.setc 13 (.int .i64 ((n : Nat) : Int)) ⟨6, l, t, p, Ch.zero, 0, n, 0, [], []⟩ _ _ (fun _ => rfl), grown_set _ HX.out.2⟩
  clear HX
  go_wp2
  go_end0
  refine ⟨rfl, ⟨6, l, t, p, Ch.zero, 0, n, 0, [], []⟩, _, _, by rw [hfin.out]; exact HB5.out.1, fun _ => by rw [hfin.out], World.ownsRow_nil _ _ _ _, World.ownsRow_nil _ _ _ _, HB5.out.2⟩
end Go.Proofs.Ythamodoedlpmdaa

/-
  The reader of package record: record, kind 7.
-/
namespace Go.Proofs.Ythamodoedlpmdaa
open Go.RowKit
set_option linter.unusedVariables false

set_option maxRecDepth 4000 in
set_option maxHeartbeats 3200000 in
theorem brec_7 (g : Nat) (a : Option Addr) (len cap : Nat) (bs : List UInt8) (s : St) (hs : s.e = 0) (w : World) (hk : (pIn 1 8 s).1 = 7) (h : RbAt w g a len cap bs s Rec.zero (.slice none 0 0) (.slice none 0 0)) :
    Calls Try.prog 88 #[.pointer (some ⟨g, 0, none⟩)] w fun e w' => e = .returned (.tuple #[]) ∧ RecDone w w' g a len cap bs s := by
  obtain ⟨kd, s0, h0⟩ : ∃ n s', pIn 1 8 s = (n, s') := ⟨_, _, rfl⟩
  obtain ⟨l, s1, h1⟩ : ∃ n s', pNum 8 s0 = (n, s') := ⟨_, _, rfl⟩
  obtain ⟨t, s2, h2⟩ : ∃ n s', pNum 4 s1 = (n, s') := ⟨_, _, rfl⟩
  obtain ⟨p, s3, h3⟩ : ∃ n s', pNum 8 s2 = (n, s') := ⟨_, _, rfl⟩
  have bt : t < 256 ^ 4 := by have := num_lt 4 s1; rw [h2] at this; exact this
  have ewt := conv_i64 t (by omega)
  have C0 := hide (fun r va vb x h => bkind_any g a len cap bs s r va vb x h)
  have C1 := hide (fun r va vb x h => bnum_any g a len cap bs s0 r va vb 8 x (by omega) h)
  have C2 := hide (fun r va vb x h => bnum_any g a len cap bs s1 r va vb 4 x (by omega) h)
  have C3 := hide (fun r va vb x h => bnum_any g a len cap bs s2 r va vb 8 x (by omega) h)
  rw [h0] at C0
  rw [h1] at C1
  rw [h2] at C2
  rw [h3] at C3
  have HGL := hide h.lt
  have hkd : kd = 7 := by rw [h0] at hk; exact hk
  subst hkd
  have hfin : Hid (pRec s = (⟨7, l, t, p, Ch.zero, 0, 0, 0, [], []⟩, s3)) := by
    show pRec s = _
    rw [rec_rest, h0]
    simp [recRest, bindP, pureP, pMay, h1, h2, h3]
  clear hs hk bt h0 h1 h2 h3
  have HB0 : Hid (RbAt w g a len cap bs s Rec.zero (.slice none 0 0) (.slice none 0 0) ∧ w.grownBy w (some g)) := ⟨h, grown_refl w _⟩
  clear h
  go_enter Try.func88, Try.ntmps88
  go_wp2_with fail
  refine (C0.out _ _ _ _ HB0.out.1).mono ?_
  rintro e x1 ⟨rfl, hb, hg⟩
  have HX : Hid (RbAt x1 g a len cap bs s0 Rec.zero (.slice none 0 0) (.slice none 0 0) ∧ w.grownBy x1 (some g)) := ⟨hb, grown_trans HB0.out.2 hg⟩
  clear hb hg HB0 C0
  obtain ⟨k, q, -, -⟩ := HX.out.1.row
  have c := q.cell 3 (.int .i64 0) rfl
  have f := q.free 3
  clear q
  have HB1 : Hid (RbAt (x1.setCell ⟨g, 3, none⟩ (.int .i64 7)) g a len cap bs s0 ⟨7, 0, 0, 0, Ch.zero, 0, 0, 0, [], []⟩ (.slice none 0 0) (.slice none 0 0) ∧ w.grownBy (x1.setCell ⟨g, 3, none⟩ (.int .i64 7)) (some g)) := ⟨HX.out.1.setc 3 (.int .i64 7) ⟨7, 0, 0, 0, Ch.zero, 0, 0, 0, [], []⟩ _ _ (fun _ => rfl), grown_set _ HX.out.2⟩
  clear HX
  go_wp2_with fail
  refine gen_calls (fun x => Hid (RbAt x g a len cap bs s0 ⟨7, 0, 0, 0, Ch.zero, 0, 0, 0, [], []⟩ (.slice none 0 0) (.slice none 0 0) ∧ w.grownBy x (some g))) HB1 ?_
  clear HB1 c f
  intro y1 HB1
  refine (C1.out _ _ _ _ HB1.out.1).mono ?_
  rintro e x2 ⟨rfl, hb, hg⟩
  have HX : Hid (RbAt x2 g a len cap bs s1 ⟨7, 0, 0, 0, Ch.zero, 0, 0, 0, [], []⟩ (.slice none 0 0) (.slice none 0 0) ∧ w.grownBy x2 (some g)) := ⟨hb, grown_trans HB1.out.2 hg⟩
  clear hb hg HB1 C1
  obtain ⟨k, q, -, -⟩ := HX.out.1.row
  have c := q.cell 4 (.int .u64 0) rfl
  have f := q.free 4
  clear q
  have HB2 : Hid (RbAt (x2.setCell ⟨g, 4, none⟩ (.int .u64 ((l : Nat) : Int))) g a len cap bs s1 ⟨7, l, 0, 0, Ch.zero, 0, 0, 0, [], []⟩ (.slice none 0 0) (.slice none 0 0) ∧ w.grownBy (x2.setCell ⟨g, 4, none⟩ (.int .u64 ((l : Nat) : Int))) (some g)) := ⟨HX.out.1.setc 4 (.int .u64 ((l : Nat) : Int)) ⟨7, l, 0, 0, Ch.zero, 0, 0, 0, [], []⟩ _ _ (fun _ => rfl), grown_set _ HX.out.2⟩
  clear HX
  go_wp2_with fail
  refine gen_calls (fun x => Hid (RbAt x g a len cap bs s1 ⟨7, l, 0, 0, Ch.zero, 0, 0, 0, [], []⟩ (.slice none 0 0) (.slice none 0 0) ∧ w.grownBy x (some g))) HB2 ?_
  clear HB2 c f
  intro y2 HB2
  refine (C2.out _ _ _ _ HB2.out.1).mono ?_
  rintro e x3 ⟨rfl, hb, hg⟩
  have HX : Hid (RbAt x3 g a len cap bs s2 ⟨7, l, 0, 0, Ch.zero, 0, 0, 0, [], []⟩ (.slice none 0 0) (.slice none 0 0) ∧ w.grownBy x3 (some g)) := ⟨hb, grown_trans HB2.out.2 hg⟩
  clear hb hg HB2 C2
  obtain ⟨k, q, -, -⟩ := HX.out.1.row
  have c := q.cell 5 (.int .i64 0) rfl
  have f := q.free 5
  clear q
  have HB3 : Hid (RbAt (x3.setCell ⟨g, 5, none⟩ (.int .i64 (t : Int))) g a len cap bs s2 ⟨7, l, t, 0, Ch.zero, 0, 0, 0, [], []⟩ (.slice none 0 0) (.slice none 0 0) ∧ w.grownBy (x3.setCell ⟨g, 5, none⟩ (.int .i64 (t : Int))) (some g)) := ⟨HX.out.1.setc 5 (.int .i64 (t : Int)) ⟨7, l, t, 0, Ch.zero, 0, 0, 0, [], []⟩ _ _ (fun _ => rfl), grown_set _ HX.out.2⟩
  clear HX
  go_wp2_with fail
  refine gen_calls (fun x => Hid (RbAt x g a len cap bs s2 ⟨7, l, t, 0, Ch.zero, 0, 0, 0, [], []⟩ (.slice none 0 0) (.slice none 0 0) ∧ w.grownBy x (some g))) HB3 ?_
  clear HB3 c f
  intro y3 HB3
  refine (C3.out _ _ _ _ HB3.out.1).mono ?_
  rintro e x4 ⟨rfl, hb, hg⟩
  have HX : Hid (RbAt x4 g a len cap bs s3 ⟨7, l, t, 0, Ch.zero, 0, 0, 0, [], []⟩ (.slice none 0 0) (.slice none 0 0) ∧ w.grownBy x4 (some g)) := ⟨hb, grown_trans HB3.out.2 hg⟩
  clear hb hg HB3 C3
  obtain ⟨k, q, -, -⟩ := HX.out.1.row
  have c := q.cell 6 (.int .u64 0) rfl
  have f := q.free 6
  have c3 := q.cell 3 (.int .i64 7) rfl
  clear q
  have HB4 : Hid (RbAt (x4.setCell ⟨g, 6, none⟩ (.int .u64 ((p : Nat) : Int))) g a len cap bs s3 ⟨7, l, t, p, Ch.zero, 0, 0, 0, [], []⟩ (.slice none 0 0) (.slice none 0 0) ∧ w.grownBy (x4.setCell ⟨g, 6, none⟩ (.int .u64 ((p : Nat) : Int))) (some g)) := ⟨HX.out.1.setc 6 (.int .u64 ((p : Nat) : Int)) ⟨7, l, t, p, Ch.zero, 0, 0, 0, [], []⟩ _ _ (fun _ => rfl), grown_set _ HX.out.2⟩
  clear HX
  go_wp2
  go_end0
  refine ⟨rfl, ⟨7, l, t, p, Ch.zero, 0, 0, 0, [], []⟩, _, _, by rw [hfin.out]; exact HB4.out.1, fun _ => by rw [hfin.out], World.ownsRow_nil _ _ _ _, World.ownsRow_nil _ _ _ _, HB4.out.2⟩
end Go.Proofs.Ythamodoedlpmdaa

/-
  The reader of package record: record, kind 8.
-/
namespace Go.Proofs.Ythamodoedlpmdaa
open Go.RowKit
set_option linter.unusedVariables false

set_option maxRecDepth 4000 in
set_option maxHeartbeats 3200000 in
theorem brec_8 (g : Nat) (a : Option Addr) (len cap : Nat) (bs : List UInt8) (s : St) (hs : s.e = 0) (w : World) (hk : (pIn 1 8 s).1 = 8) (h : RbAt w g a len cap bs s Rec.zero (.slice none 0 0) (.slice none 0 0)) :
    Calls Try.prog 88 #[.pointer (some ⟨g, 0, none⟩)] w fun e w' => e = .returned (.tuple #[]) ∧ RecDone w w' g a len cap bs s := by
  obtain ⟨kd, s0, h0⟩ : ∃ n s', pIn 1 8 s = (n, s') := ⟨_, _, rfl⟩
  obtain ⟨l, s1, h1⟩ : ∃ n s', pNum 8 s0 = (n, s') := ⟨_, _, rfl⟩
  obtain ⟨t, s2, h2⟩ : ∃ n s', pNum 4 s1 = (n, s') := ⟨_, _, rfl⟩
  obtain ⟨p, s3, h3⟩ : ∃ n s', pNum 8 s2 = (n, s') := ⟨_, _, rfl⟩
  have bt : t < 256 ^ 4 := by have := num_lt 4 s1; rw [h2] at this; exact this
  have ewt := conv_i64 t (by omega)
  have C0 := hide (fun r va vb x h => bkind_any g a len cap bs s r va vb x h)
  have C1 := hide (fun r va vb x h => bnum_any g a len cap bs s0 r va vb 8 x (by omega) h)
  have C2 := hide (fun r va vb x h => bnum_any g a len cap bs s1 r va vb 4 x (by omega) h)
  have C3 := hide (fun r va vb x h => bnum_any g a len cap bs s2 r va vb 8 x (by omega) h)
  rw [h0] at C0
  rw [h1] at C1
  rw [h2] at C2
  rw [h3] at C3
  have HGL := hide h.lt
  have hkd : kd = 8 := by rw [h0] at hk; exact hk
  subst hkd
  obtain ⟨n, s4, h4⟩ : ∃ n s', pNum 8 s3 = (n, s') := ⟨_, _, rfl⟩
  have C4 := hide (fun r va vb x h => bnum_any g a len cap bs s3 r va vb 8 x (by omega) h)
  rw [h4] at C4
  have T1 := cnt_some Good.tx 16 s4
  have D1 := hide (fun r va vb x h => btxns_any g a len cap bs s4 r va vb x h)
  obtain ⟨ts, hts⟩ : ∃ ts, ts = itL pTx (cntN 16 s4) (pIn 0 16 s4).2 := ⟨_, rfl⟩
  obtain ⟨s5, hs5⟩ : ∃ s', s' = itS pTx (cntN 16 s4) (pIn 0 16 s4).2 := ⟨_, rfl⟩
  have hl5 : cntN 16 s4 = ts.length := by rw [hts, itL_length]
  rw [← hts, ← hs5] at T1 D1
  have T2 := cnt_some Good.di 32 s5
  have D2 := hide (fun r va vb x h => bdirty_any g a len cap bs s5 r va vb x h)
  obtain ⟨ds, hds⟩ : ∃ ds, ds = itL pDi (cntN 32 s5) (pIn 0 32 s5).2 := ⟨_, rfl⟩
  obtain ⟨s6, hs6⟩ : ∃ s', s' = itS pDi (cntN 32 s5) (pIn 0 32 s5).2 := ⟨_, rfl⟩
  have hl6 : cntN 32 s5 = ds.length := by rw [hds, itL_length]
  rw [← hds, ← hs6] at T2 D2
  rw [hl5] at D1
  rw [hl6] at D2
  have C5 : Hid (∀ r va vb x, RbAt x g a len cap bs s4 r va vb → Calls Try.prog 101 #[.pointer (some ⟨g, 0, none⟩)] x fun e w' => ∃ v, e = .returned v ∧ w'.ownsRow x.heap.size 81 5 v ts.length (flatT ts) ∧ RbAt w' g a len cap bs s5 r va vb ∧ x.grownBy w' (some g)) := D1.out
  have C6 : Hid (∀ r va vb x, RbAt x g a len cap bs s5 r va vb → Calls Try.prog 102 #[.pointer (some ⟨g, 0, none⟩)] x fun e w' => ∃ v, e = .returned v ∧ w'.ownsRow x.heap.size 83 2 v ds.length (flatD ds) ∧ RbAt w' g a len cap bs s6 r va vb ∧ x.grownBy w' (some g)) := D2.out
  have hfin : Hid ((pRec s).2 = s6 ∧ ((pRec s).2.e = 0 → (pRec s).1 = ⟨8, l, t, p, Ch.zero, 0, 0, n, ts, ds⟩)) := by
    have e1 : pRec s = (⟨8, l, t, p, Ch.zero, 0, 0, n, (pSome pTx (pIn 0 16 s4).1 (pIn 0 16 s4).2).1, (pSome pDi (pIn 0 32 (pSome pTx (pIn 0 16 s4).1 (pIn 0 16 s4).2).2).1 (pIn 0 32 (pSome pTx (pIn 0 16 s4).1 (pIn 0 16 s4).2).2).2).1⟩, (pSome pDi (pIn 0 32 (pSome pTx (pIn 0 16 s4).1 (pIn 0 16 s4).2).2).1 (pIn 0 32 (pSome pTx (pIn 0 16 s4).1 (pIn 0 16 s4).2).2).2).2) := by
      rw [rec_rest, h0]
      simp [recRest, bindP, pureP, pMay, pCheck, h1, h2, h3, h4]
    rw [T1.1] at e1
    rw [e1]
    refine ⟨T2.1, fun h => ?_⟩
    have h6 := T2.2 h
    have h5 : s5.e = 0 := by
      by_cases hh : s5.e = 0
      · exact hh
      · have hst := ((Good.in 0 32).bind fun m => Good.some Good.di m).stick s5 hh
        have : (pSome pDi (pIn 0 32 s5).1 (pIn 0 32 s5).2).2 = s5 := hst
        rw [this] at h
        exact absurd h hh
    have h7 := T1.2 (by rw [T1.1]; exact h5)
    show (⟨8, l, t, p, Ch.zero, 0, 0, n, (pSome pTx (pIn 0 16 s4).1 (pIn 0 16 s4).2).1, (pSome pDi (pIn 0 32 s5).1 (pIn 0 32 s5).2).1⟩ : Rec) = _
    rw [h6, h7]
  clear h4 hts hs5 hds hs6 hl5 hl6 T1 T2 D1 D2
  clear hs hk bt h0 h1 h2 h3
  have HB0 : Hid (RbAt w g a len cap bs s Rec.zero (.slice none 0 0) (.slice none 0 0) ∧ w.grownBy w (some g)) := ⟨h, grown_refl w _⟩
  clear h
  go_enter Try.func88, Try.ntmps88
  go_wp2_with fail
  refine (C0.out _ _ _ _ HB0.out.1).mono ?_
  rintro e x1 ⟨rfl, hb, hg⟩
  have HX : Hid (RbAt x1 g a len cap bs s0 Rec.zero (.slice none 0 0) (.slice none 0 0) ∧ w.grownBy x1 (some g)) := ⟨hb, grown_trans HB0.out.2 hg⟩
  clear hb hg HB0 C0
  obtain ⟨k, q, -, -⟩ := HX.out.1.row
  have c := q.cell 3 (.int .i64 0) rfl
  have f := q.free 3
  clear q
  have HB1 : Hid (RbAt (x1.setCell ⟨g, 3, none⟩ (.int .i64 8)) g a len cap bs s0 ⟨8, 0, 0, 0, Ch.zero, 0, 0, 0, [], []⟩ (.slice none 0 0) (.slice none 0 0) ∧ w.grownBy (x1.setCell ⟨g, 3, none⟩ (.int .i64 8)) (some g)) := ⟨HX.out.1.setc 3 (.int .i64 8) ⟨8, 0, 0, 0, Ch.zero, 0, 0, 0, [], []⟩ _ _ (fun _ => rfl), grown_set _ HX.out.2⟩
  clear HX
  go_wp2_with fail
  refine gen_calls (fun x => Hid (RbAt x g a len cap bs s0 ⟨8, 0, 0, 0, Ch.zero, 0, 0, 0, [], []⟩ (.slice none 0 0) (.slice none 0 0) ∧ w.grownBy x (some g))) HB1 ?_
  clear HB1 c f
  intro y1 HB1
  refine (C1.out _ _ _ _ HB1.out.1).mono ?_
  rintro e x2 ⟨rfl, hb, hg⟩
  have HX : Hid (RbAt x2 g a len cap bs s1 ⟨8, 0, 0, 0, Ch.zero, 0, 0, 0, [], []⟩ (.slice none 0 0) (.slice none 0 0) ∧ w.grownBy x2 (some g)) := ⟨hb, grown_trans HB1.out.2 hg⟩
  clear hb hg HB1 C1
  obtain ⟨k, q, -, -⟩ := HX.out.1.row
  have c := q.cell 4 (.int .u64 0) rfl
  have f := q.free 4
  clear q
  have HB2 : Hid (RbAt (x2.setCell ⟨g, 4, none⟩ (.int .u64 ((l : Nat) : Int))) g a len cap bs s1 ⟨8, l, 0, 0, Ch.zero, 0, 0, 0, [], []⟩ (.slice none 0 0) (.slice none 0 0) ∧ w.grownBy (x2.setCell ⟨g, 4, none⟩ (.int .u64 ((l : Nat) : Int))) (some g)) := ⟨HX.out.1.setc 4 (.int .u64 ((l : Nat) : Int)) ⟨8, l, 0, 0, Ch.zero, 0, 0, 0, [], []⟩ _ _ (fun _ => rfl), grown_set _ HX.out.2⟩
  clear HX
  go_wp2_with fail
  refine gen_calls (fun x => Hid (RbAt x g a len cap bs s1 ⟨8, l, 0, 0, Ch.zero, 0, 0, 0, [], []⟩ (.slice none 0 0) (.slice none 0 0) ∧ w.grownBy x (some g))) HB2 ?_
  clear HB2 c f
  intro y2 HB2
  refine (C2.out _ _ _ _ HB2.out.1).mono ?_
  rintro e x3 ⟨rfl, hb, hg⟩
  have HX : Hid (RbAt x3 g a len cap bs s2 ⟨8, l, 0, 0, Ch.zero, 0, 0, 0, [], []⟩ (.slice none 0 0) (.slice none 0 0) ∧ w.grownBy x3 (some g)) := ⟨hb, grown_trans HB2.out.2 hg⟩
  clear hb hg HB2 C2
  obtain ⟨k, q, -, -⟩ := HX.out.1.row
  have c := q.cell 5 (.int .i64 0) rfl
  have f := q.free 5
  clear q
  have HB3 : Hid (RbAt (x3.setCell ⟨g, 5, none⟩ (.int .i64 (t : Int))) g a len cap bs s2 ⟨8, l, t, 0, Ch.zero, 0, 0, 0, [], []⟩ (.slice none 0 0) (.slice none 0 0) ∧ w.grownBy (x3.setCell ⟨g, 5, none⟩ (.int .i64 (t : Int))) (some g)) := ⟨HX.out.1.setc 5 (.int .i64 (t : Int)) ⟨8, l, t, 0, Ch.zero, 0, 0, 0, [], []⟩ _ _ (fun _ => rfl), grown_set _ HX.out.2⟩
  clear HX
  go_wp2_with fail
  refine gen_calls (fun x => Hid (RbAt x g a len cap bs s2 ⟨8, l, t, 0, Ch.zero, 0, 0, 0, [], []⟩ (.slice none 0 0) (.slice none 0 0) ∧ w.grownBy x (some g))) HB3 ?_
  clear HB3 c f
  intro y3 HB3
  refine (C3.out _ _ _ _ HB3.out.1).mono ?_
  rintro e x4 ⟨rfl, hb, hg⟩
  have HX : Hid (RbAt x4 g a len cap bs s3 ⟨8, l, t, 0, Ch.zero, 0, 0, 0, [], []⟩ (.slice none 0 0) (.slice none 0 0) ∧ w.grownBy x4 (some g)) := ⟨hb, grown_trans HB3.out.2 hg⟩
  clear hb hg HB3 C3
  obtain ⟨k, q, -, -⟩ := HX.out.1.row
  have c := q.cell 6 (.int .u64 0) rfl
  have f := q.free 6
  have c3 := q.cell 3 (.int .i64 8) rfl
  clear q
  have HB4 : Hid (RbAt (x4.setCell ⟨g, 6, none⟩ (.int .u64 ((p : Nat) : Int))) g a len cap bs s3 ⟨8, l, t, p, Ch.zero, 0, 0, 0, [], []⟩ (.slice none 0 0) (.slice none 0 0) ∧ w.grownBy (x4.setCell ⟨g, 6, none⟩ (.int .u64 ((p : Nat) : Int))) (some g)) := ⟨HX.out.1.setc 6 (.int .u64 ((p : Nat) : Int)) ⟨8, l, t, p, Ch.zero, 0, 0, 0, [], []⟩ _ _ (fun _ => rfl), grown_set _ HX.out.2⟩
  clear HX
  go_wp2_with fail
  refine gen_calls (fun x => Hid (RbAt x g a len cap bs s3 ⟨8, l, t, p, Ch.zero, 0, 0, 0, [], []⟩ (.slice none 0 0) (.slice none 0 0) ∧ w.grownBy x (some g))) HB4 ?_
  clear HB4 c f c3
  intro y4 HB4
  refine (C4.out _ _ _ _ HB4.out.1).mono ?_
  rintro e x5 ⟨rfl, hb, hg⟩
  have HX : Hid (RbAt x5 g a len cap bs s4 ⟨8, l, t, p, Ch.zero, 0, 0, 0, [], []⟩ (.slice none 0 0) (.slice none 0 0) ∧ w.grownBy x5 (some g)) := ⟨hb, grown_trans HB4.out.2 hg⟩
  clear hb hg HB4 C4
  obtain ⟨k, q, -, -⟩ := HX.out.1.row
  have c := q.cell 14 (.int .u64 0) rfl
  have f := q.free 14
  clear q
  have HB5 : Hid (RbAt (x5.setCell ⟨g, 14, none⟩ (.int .u64 ((n : Nat) : Int))) g a len cap bs s4 ⟨8, l, t, p, Ch.zero, 0, 0, n, [], []⟩ (.slice none 0 0) (.slice none 0 0) ∧ w.grownBy (x5.setCell ⟨g, 14, none⟩ (.int .u64 ((n : Nat) : Int))) (some g)) := ⟨HX.out.1.setc 14 (.int .u64 ((n : Nat) : Int)) ⟨8, l, t, p, Ch.zero, 0, 0, n, [], []⟩ _ _ (fun _ => rfl), grown_set _ HX.out.2⟩
  clear HX
  go_wp2_with fail
  refine gen_calls (fun x => Hid (RbAt x g a len cap bs s4 ⟨8, l, t, p, Ch.zero, 0, 0, n, [], []⟩ (.slice none 0 0) (.slice none 0 0) ∧ w.grownBy x (some g))) HB5 ?_
  clear HB5 c f
  intro y5 HB5
  refine (C5.out _ _ _ _ HB5.out.1).mono ?_
  rintro e x6 ⟨v, rfl, hown, hb, hg⟩
  have HX : Hid (RbAt x6 g a len cap bs s5 ⟨8, l, t, p, Ch.zero, 0, 0, n, [], []⟩ (.slice none 0 0) (.slice none 0 0) ∧ w.grownBy x6 (some g)) := ⟨hb, grown_trans HB5.out.2 hg⟩
  have HOA := hide (own_mono hown HB5.out.2.size)
  clear hb hg hown HB5 C5
  obtain ⟨k, q, -, -⟩ := HX.out.1.row
  have c := q.cell 15 (.slice none 0 0) rfl
  have f := q.free 15
  clear q
  obtain ⟨av, cv, hv⟩ := own_shape5 HOA.out
  have HB6 : Hid ((RbAt (x6.setCell ⟨g, 15, none⟩ v) g a len cap bs s5 ⟨8, l, t, p, Ch.zero, 0, 0, n, ts, []⟩ v (.slice none 0 0) ∧ w.grownBy (x6.setCell ⟨g, 15, none⟩ v) (some g)) ∧ (x6.setCell ⟨g, 15, none⟩ v).ownsRow w.heap.size 81 5 v ts.length (flatT ts)) := ⟨⟨HX.out.1.setc 15 v ⟨8, l, t, p, Ch.zero, 0, 0, n, ts, []⟩ v _ (fun _ => rfl), grown_set _ HX.out.2⟩, HOA.out.kept (grown_set v (grown_refl x6 (some g))) (.inr (fun e => own_ne HOA.out HGL.out e.symm))⟩
  clear HX HOA
  subst hv
  go_wp2_with fail
  refine gen_calls (fun x => Hid ((RbAt x g a len cap bs s5 ⟨8, l, t, p, Ch.zero, 0, 0, n, ts, []⟩ (.slice av ts.length cv) (.slice none 0 0) ∧ w.grownBy x (some g)) ∧ x.ownsRow w.heap.size 81 5 (.slice av ts.length cv) ts.length (flatT ts))) HB6 ?_
  clear HB6 c f
  intro y6 HB6
  refine (C6.out _ _ _ _ HB6.out.1.1).mono ?_
  rintro e x7 ⟨u, rfl, hown, hb, hg⟩
  have HX : Hid (RbAt x7 g a len cap bs s6 ⟨8, l, t, p, Ch.zero, 0, 0, n, ts, []⟩ (.slice av ts.length cv) (.slice none 0 0) ∧ w.grownBy x7 (some g)) := ⟨hb, grown_trans HB6.out.1.2 hg⟩
  have HOA := hide (HB6.out.2.kept hg (.inr (fun e => own_ne HB6.out.2 HGL.out e.symm)))
  have HOB := hide (own_mono hown HB6.out.1.2.size)
  clear hb hg hown HB6 C6
  obtain ⟨k, q, -, -⟩ := HX.out.1.row
  have c := q.cell 16 (.slice none 0 0) rfl
  have f := q.free 16
  clear q
  obtain ⟨au, cu, hu⟩ := own_shape5 HOB.out
  have HB7 : Hid ((RbAt (x7.setCell ⟨g, 16, none⟩ u) g a len cap bs s6 ⟨8, l, t, p, Ch.zero, 0, 0, n, ts, ds⟩ (.slice av ts.length cv) u ∧ w.grownBy (x7.setCell ⟨g, 16, none⟩ u) (some g)) ∧ (x7.setCell ⟨g, 16, none⟩ u).ownsRow w.heap.size 81 5 (.slice av ts.length cv) ts.length (flatT ts) ∧ (x7.setCell ⟨g, 16, none⟩ u).ownsRow w.heap.size 83 2 u ds.length (flatD ds)) := ⟨⟨HX.out.1.setc 16 u ⟨8, l, t, p, Ch.zero, 0, 0, n, ts, ds⟩ _ u (fun _ => rfl), grown_set _ HX.out.2⟩, HOA.out.kept (grown_set u (grown_refl x7 (some g))) (.inr (fun e => own_ne HOA.out HGL.out e.symm)), HOB.out.kept (grown_set u (grown_refl x7 (some g))) (.inr (fun e => own_ne HOB.out HGL.out e.symm))⟩
  clear HX HOA HOB
  subst hu
  go_wp2
  go_end0
  refine ⟨rfl, ⟨8, l, t, p, Ch.zero, 0, 0, n, ts, ds⟩, _, _, by rw [hfin.out.1]; exact HB7.out.1.1, fun h => (hfin.out.2 h).symm, HB7.out.2.1, HB7.out.2.2, HB7.out.1.2⟩
end Go.Proofs.Ythamodoedlpmdaa

/-
  What Decode's parser answers fits a machine; the lists of a record that was read.
-/
namespace Go.Proofs.Ythamodoedlpmdaa
open Go.RowKit
set_option linter.unusedVariables false

theorem wf_i64n (n : Nat) (h : n < 9223372036854775808) : (Lit.int .i64 (n : Int)).wf = true := by
  rw [← conv_i64 n h]
  exact wf_wrap _ _
theorem wf_u64n (n : Nat) (h : n < 18446744073709551616) : (Lit.int .u64 (n : Int)).wf = true := by
  have e : IntKind.u64.wrap (n : Int) = (n : Int) := by rw [IntKind.wrap_u64]; omega
  rw [← e]
  exact wf_wrap _ _
theorem text_len (s : St) : (pText s).1.size ≤ 255 := by
  unfold pText
  by_cases he : s.e ≠ 0
  · rw [if_pos he]
    exact Nat.zero_le _
  · rw [if_neg he]
    cases hs : s.l with
    | nil => exact Nat.zero_le _
    | cons b l =>
      simp only
      by_cases hk : b.toNat ≤ l.length
      · rw [if_pos hk]
        show (l.take b.toNat).toArray.size ≤ 255
        rw [List.size_toArray, List.length_take]
        have := b.toNat_lt
        omega
      · rw [if_neg hk]
        exact Nat.zero_le _
theorem num_wf (w : Nat) (hw : w ≤ 4) (s : St) : (Lit.int .i64 ((pNum w s).1 : Int)).wf = true := by
  have h := num_lt w s
  have h2 : 256 ^ w ≤ 256 ^ 4 := Nat.pow_le_pow_right (by omega) hw
  exact wf_i64n _ (by omega)
theorem num_wfu (w : Nat) (hw : w ≤ 8) (s : St) : (Lit.int .u64 ((pNum w s).1 : Int)).wf = true := by
  have h := num_lt w s
  have h2 : 256 ^ w ≤ 256 ^ 8 := Nat.pow_le_pow_right (by omega) hw
  exact wf_u64n _ (by omega)
theorem ch_fits (s : St) : (pCh s).1.fits := by
  have hm : (255 : Nat) ≤ maxLen := by unfold maxLen; omega
  exact ⟨num_wf 1 (by omega) _, num_wf 2 (by omega) _, num_wf 1 (by omega) _, Nat.le_trans (text_len _) hm, Nat.le_trans (text_len _) hm⟩
theorem tx_fits (s : St) : (pTx s).1.fits := ⟨num_wf 4 (by omega) _, num_wf 1 (by omega) _, num_wfu 8 (by omega) _, num_wfu 8 (by omega) _, num_wfu 8 (by omega) _⟩
theorem di_fits (s : St) : (pDi s).1.fits := ⟨num_wf 2 (by omega) _, num_wfu 8 (by omega) _⟩
theorem some_all {α : Type} {p : St → α × St} {G : α → Prop} (hp : ∀ s, G (p s).1) : ∀ n s, (∀ x ∈ (pSome p n s).1, G x) ∧ (pSome p n s).1.length ≤ n
  | 0, _ => ⟨fun x hx => (nomatch hx), Nat.le_refl _⟩
  | n + 1, s => by
    by_cases h : s.e ≠ 0
    · have e : pSome p (n + 1) s = ([], s) := by rw [pSome, if_pos h]
      rw [e]
      exact ⟨fun x hx => (nomatch hx), Nat.zero_le _⟩
    · have e : pSome p (n + 1) s = ((p s).1 :: (pSome p n (p s).2).1, (pSome p n (p s).2).2) := by rw [pSome, if_neg h]
      have ih := some_all hp n (p s).2
      rw [e]
      refine ⟨fun x hx => ?_, by show _ + 1 ≤ _; exact Nat.succ_le_succ ih.2⟩
      rcases List.mem_cons.1 hx with rfl | hx
      · exact hp s
      · exact ih.1 x hx
theorem may_ch_fits (q : Prop) [Decidable q] (s : St) : (pMay q Ch.zero pCh s).1.fits := by
  unfold pMay
  split
  · exact ch_fits s
  · exact zero_fits
theorem check_all (q : Prop) [Decidable q] (s : St) : (∀ x ∈ (pMay q (0, [], []) pCheck s).1.2.1, x.fits) ∧ (pMay q (0, [], []) pCheck s).1.2.1.length ≤ 255 ∧ (∀ x ∈ (pMay q (0, [], []) pCheck s).1.2.2, x.fits) ∧ (pMay q (0, [], []) pCheck s).1.2.2.length ≤ 255 := by
  unfold pMay
  split
  · have h1 := some_all (p := pTx) tx_fits (pIn 0 16 (pNum 8 s).2).1 (pIn 0 16 (pNum 8 s).2).2
    have h2 := some_all (p := pDi) di_fits (pIn 0 32 (pSome pTx (pIn 0 16 (pNum 8 s).2).1 (pIn 0 16 (pNum 8 s).2).2).2).1 (pIn 0 32 (pSome pTx (pIn 0 16 (pNum 8 s).2).1 (pIn 0 16 (pNum 8 s).2).2).2).2
    have b1 : (pIn 0 16 (pNum 8 s).2).1 ≤ 255 := by rw [in_val]; have := num_lt 1 (pNum 8 s).2; omega
    have b2 : (pIn 0 32 (pSome pTx (pIn 0 16 (pNum 8 s).2).1 (pIn 0 16 (pNum 8 s).2).2).2).1 ≤ 255 := by rw [in_val]; have := num_lt 1 (pSome pTx (pIn 0 16 (pNum 8 s).2).1 (pIn 0 16 (pNum 8 s).2).2).2; omega
    exact ⟨h1.1, Nat.le_trans h1.2 b1, h2.1, Nat.le_trans h2.2 b2⟩
  · exact ⟨fun x hx => (nomatch hx), Nat.zero_le _, fun x hx => (nomatch hx), Nat.zero_le _⟩
theorem rec_fits (s : St) : (pRec s).1.fits := by
  have hm : (255 : Nat) ≤ maxLen := by unfold maxLen; omega
  obtain ⟨c1, c2, c3, c4⟩ := check_all ((pIn 1 8 s).1 = 8) (pMay ((pIn 1 8 s).1 = 6) 0 (pNum 1) (pMay ((pIn 1 8 s).1 = 2) 0 (pNum 8) (pMay ((pIn 1 8 s).1 ≤ 2) Ch.zero pCh (pNum 8 (pNum 4 (pNum 8 (pIn 1 8 s).2).2).2).2).2).2).2
  exact ⟨may_ch_fits _ _, Nat.le_trans c2 hm, Nat.le_trans c4 hm, c1, c3⟩
theorem zero_rec_fits : Rec.zero.fits := ⟨zero_fits, Nat.zero_le _, Nat.zero_le _, fun x hx => (nomatch hx), fun x hx => (nomatch hx)⟩
theorem dec_fits (b : List UInt8) : (decR b).1.fits := by
  unfold decR
  split
  · exact zero_rec_fits
  · split
    · exact zero_rec_fits
    · exact rec_fits _

/-! ### The lists -/
def GotIn (base : Nat) (w : World) (r : Rec) (va vb : Value) : Prop := w.ownsRow base 81 5 va r.ts.length (flatT r.ts) ∧ w.ownsRow base 83 2 vb r.ds.length (flatD r.ds)
theorem GotIn.below {base : Nat} {w x : World} {r : Rec} {va vb : Value} (h : GotIn base w r va vb) (hb : Below w.heap.size w x) : GotIn base x r va vb := ⟨ownsRow_below h.1 hb, ownsRow_below h.2 hb⟩
theorem flat_get {α : Type} (f : α → Array Value) (n : Nat) (hf : ∀ x, (f x).size = n) (z : α) : ∀ (xs : List α) (i j : Nat), i < xs.length → j < n → (xs.flatMap fun x => (f x).toList)[i * n + j]? = (f (xs.getD i z)).toList[j]?
  | [], i, _, h, _ => absurd h (by simp)
  | x :: xs, 0, j, _, hj => by
    rw [List.flatMap_cons, List.getElem?_append_left (by rw [Array.length_toList, hf]; omega), Nat.zero_mul, Nat.zero_add]
    rfl
  | x :: xs, i + 1, j, h, hj => by
    have e : (i + 1) * n + j = (f x).toList.length + (i * n + j) := by rw [Array.length_toList, hf, Nat.add_mul, Nat.one_mul]; omega
    rw [List.flatMap_cons, e, List.getElem?_append_right (Nat.le_add_right _ _), Nat.add_sub_cancel_left]
    exact flat_get f n hf z xs i j (by simpa using h) hj
theorem own_rows {α : Type} (f : α → Array Value) (z : α) (n : Nat) (hf : ∀ x, (f x).size = n) {w : World} {base : Nat} {e : TypeId} {v : Value} {xs : List α} (h : w.ownsRow base e n v xs.length (xs.flatMap fun x => (f x).toList)) : RowsIn f z n w v xs := by
  rcases h.2 with ⟨h1, h2⟩ | ⟨g, cap, cur, h1, h2, h3, -⟩
  · exact ⟨none, 0, by rw [h1, h2], fun hp => absurd h2 (by omega)⟩
  · subst h1
    refine ⟨_, cap, rfl, fun hp => ⟨g, 0, rfl, (Array.getElem?_eq_some_iff.1 h3).1, fun i hi j u hu => ?_⟩⟩
    have hj : j < n := by
      have := (List.getElem?_eq_some_iff.1 hu).1
      rwa [Array.length_toList, hf] at this
    have hij : i * n + j < xs.length * n := by
      have h5 : (i + 1) * n ≤ xs.length * n := Nat.mul_le_mul_right n (by omega)
      rw [Nat.add_mul, Nat.one_mul] at h5
      omega
    rw [Nat.zero_add, h.cellAt (i * n + j) hij, flat_get f n hf z xs i j hi hj]
    exact hu
theorem GotIn.rc {base : Nat} {w : World} {r : Rec} {va vb : Value} (h : GotIn base w r va vb) : RcIn w r va vb := ⟨own_rows txA Tx.zero 5 (fun _ => rfl) h.1, own_rows diA Di.zero 2 (fun _ => rfl) h.2⟩
theorem RowAt.setSame {w : World} {b : Nat} {t : TypeId} {cs : Array Value} (h : RowAt w b t cs) (j : Nat) (v : Value) (hv : cs[j]? = some v) : RowAt (w.setCell ⟨b, j, none⟩ v) b t cs := by
  have h2 := h.set j v
  have e : cs.setIfInBounds j v = cs := by
    apply Array.ext_getElem?
    intro i
    rw [Array.getElem?_setIfInBounds]
    split
    · rename_i hij
      subst hij
      rw [hv]
      have := (Array.getElem?_eq_some_iff.1 hv).1
      simp [this]
    · rfl
  rwa [e] at h2

/-- THE CONTRACT of the reader's record. -/
theorem brecord_any (g : Nat) (a : Option Addr) (len cap : Nat) (bs : List UInt8) (s : St) (hs : s.e = 0) (w : World) (h : RbAt w g a len cap bs s Rec.zero (.slice none 0 0) (.slice none 0 0)) :
    Calls Try.prog 88 #[.pointer (some ⟨g, 0, none⟩)] w fun e w' => e = .returned (.tuple #[]) ∧ RecDone w w' g a len cap bs s := by
  by_cases hk : (pIn 1 8 s).2.e = 0
  · have hg := kind_good hk
    by_cases k1 : (pIn 1 8 s).1 = 1
    · exact brec_1 g a len cap bs s hs w k1 h
    by_cases k2 : (pIn 1 8 s).1 = 2
    · exact brec_2 g a len cap bs s hs w k2 h
    by_cases k3 : (pIn 1 8 s).1 = 3
    · exact brec_3 g a len cap bs s hs w k3 h
    by_cases k4 : (pIn 1 8 s).1 = 4
    · exact brec_4 g a len cap bs s hs w k4 h
    by_cases k5 : (pIn 1 8 s).1 = 5
    · exact brec_5 g a len cap bs s hs w k5 h
    by_cases k6 : (pIn 1 8 s).1 = 6
    · exact brec_6 g a len cap bs s hs w k6 h
    by_cases k7 : (pIn 1 8 s).1 = 7
    · exact brec_7 g a len cap bs s hs w k7 h
    exact brec_8 g a len cap bs s hs w (by omega) h
  · exact brec_no g a len cap bs s hs w hk h
end Go.Proofs.Ythamodoedlpmdaa

/-
  The contract of record.Decode.
-/
namespace Go.Proofs.Ythamodoedlpmdaa
open Go.RowKit
set_option linter.unusedVariables false

theorem rowat_drew {x : World} {b : Nat} {t : TypeId} {cs : Array Value} (h : RowAt x b t cs) : RowAt x.drew b t cs := h
theorem below_drew {B : Nat} {w x : World} (h : Below B w x) : Below B w x.drew := ⟨h.1, h.2, h.3, h.4, h.5⟩
/-- A row of the call's own, when a struct of another type is written. -/
theorem own_put {w w2 : World} {base n sz b : Nat} {e t : TypeId} {v : Value} {xs : List Value} {c0 : Array Value} (h : w.ownsRow base e sz v n xs) (hr : RowAt w b t c0) (ht : t ≠ e) (ho : ∀ k t' c', k ≠ b → RowAt w k t' c' → RowAt w2 k t' c') : w2.ownsRow base e sz v n xs := by
  refine ⟨h.1, h.2.imp id ?_⟩
  rintro ⟨g, cap, cur, h1, h2, h3, h4⟩
  refine ⟨g, cap, cur, h1, h2, ho g e cur (fun hg => ?_) h3, h4⟩
  subst hg
  have h5 := hr.symm.trans h3
  simp only [Option.some.injEq, Obj.cells.injEq] at h5
  exact ht h5.2.1
theorem rd_range {x : World} {g k : Nat} {v : Value} {e : Int} {r : Rec} {va vb : Value} (h : RowAt x g 130 (rdB v k e r va vb)) : x.rangeAt g 3 (rcA r va vb).toList := by
  intro j u hu
  have hj : j < 14 := (List.getElem?_eq_some_iff.1 hu).1
  refine h.cell (3 + j) u ?_
  rw [← hu, Array.getElem?_toList]
  match j, hj with
  | 0, _ => rfl
  | 1, _ => rfl
  | 2, _ => rfl
  | 3, _ => rfl
  | 4, _ => rfl
  | 5, _ => rfl
  | 6, _ => rfl
  | 7, _ => rfl
  | 8, _ => rfl
  | 9, _ => rfl
  | 10, _ => rfl
  | 11, _ => rfl
  | 12, _ => rfl
  | 13, _ => rfl

set_option maxRecDepth 4000 in
set_option maxHeartbeats 3200000 in
theorem dec_any (a : Option Addr) (len cap : Nat) (bs : List UInt8) (w : World) (hB : IsB w a len bs) (hl : len ≤ 140737488355328) (hc : len ≤ cap) :
    Calls Try.prog 78 #[.slice a len cap] w fun e w' => (∃ va vb, e = .returned (.tuple #[.agg (rcA (decR bs).1 va vb), .int .i64 (decR bs).2]) ∧ GotIn w.heap.size w' (decR bs).1 va vb) ∧ Below w.heap.size w w' := by
  have K2 := Keeps.two w 43 130 #[.int .i64 0, .int .u64 0, .int .i64 0, .int .u64 0, .int .i64 0, .int .i64 0, .int .i64 0, .string ⟨#[]⟩, .string ⟨#[]⟩, .int .u64 0, .int .i64 0, .int .u64 0, .slice none 0 0, .slice none 0 0] #[.slice a len cap, .int .i64 0, .int .i64 0, .int .i64 0, .int .u64 0, .int .i64 0, .int .u64 0, .int .i64 0, .int .i64 0, .int .i64 0, .string ⟨#[]⟩, .string ⟨#[]⟩, .int .u64 0, .int .i64 0, .int .u64 0, .slice none 0 0, .slice none 0 0]
  have HL2 := hide hB.1
  have HRB : Hid (RbAt ((w.alloc (.cells #[.int .i64 0, .int .u64 0, .int .i64 0, .int .u64 0, .int .i64 0, .int .i64 0, .int .i64 0, .string ⟨#[]⟩, .string ⟨#[]⟩, .int .u64 0, .int .i64 0, .int .u64 0, .slice none 0 0, .slice none 0 0] 43)).alloc (.cells #[.slice a len cap, .int .i64 0, .int .i64 0, .int .i64 0, .int .u64 0, .int .i64 0, .int .u64 0, .int .i64 0, .int .i64 0, .int .i64 0, .string ⟨#[]⟩, .string ⟨#[]⟩, .int .u64 0, .int .i64 0, .int .u64 0, .slice none 0 0, .slice none 0 0] 130)) (w.heap.size + 1) a len cap bs ⟨bs, 0⟩ Rec.zero (.slice none 0 0) (.slice none 0 0)) :=
    ⟨⟨0, K2.1.1, Nat.zero_le _, fun _ => rfl⟩, hB.below K2.2, ⟨hl, hc⟩, fun hp x hx => by
      obtain ⟨b, off, ha, hlt, _⟩ := hB.2 hp
      rw [ha] at hx
      cases hx
      show b < w.heap.size + 1
      omega⟩
  have HZR := hide (And.intro K2.1.2.1 K2.2)
  have HGI : Hid (w.heap.size ≤ w.heap.size ∧ w.heap.size ≠ w.heap.size + 1 ∧ w.heap.size ≤ w.heap.size + 1) := ⟨Nat.le_refl _, by omega, by omega⟩
  clear K2 hB hc
  have hml : len ≤ 140737488355328 := hl
  go_enter Try.func78, Try.ntmps78
  go_wp2_with fail
  obtain ⟨g, hg⟩ : ∃ g, g = w.heap.size + 1 := ⟨_, rfl⟩
  rw [← hg] at HRB HGI
  rw [← hg]
  refine gen_calls (fun x => Hid (RbAt x g a len cap bs ⟨bs, 0⟩ Rec.zero (.slice none 0 0) (.slice none 0 0)) ∧ Hid (RowAt x w.heap.size 43 #[.int .i64 0, .int .u64 0, .int .i64 0, .int .u64 0, .int .i64 0, .int .i64 0, .int .i64 0, .string ⟨#[]⟩, .string ⟨#[]⟩, .int .u64 0, .int .i64 0, .int .u64 0, .slice none 0 0, .slice none 0 0] ∧ Below w.heap.size w x)) ⟨HRB, HZR⟩ ?_
  clear HRB HZR hg
  rintro x0 ⟨HRB, HZR⟩
  have HGE := HGI
  refine (brecord_any g a len cap bs ⟨bs, 0⟩ rfl x0 HRB.out).mono ?_
  rintro e x1 ⟨rfl, r, va, vb, hrb, hreq, ho1, ho2, hgr⟩
  have HRB1 := hide hrb
  have HREQ := hide hreq
  have HGOT : Hid (GotIn w.heap.size x1 r va vb) := ⟨own_mono ho1 HZR.out.2.size, own_mono ho2 HZR.out.2.size⟩
  have HD : Hid (RowAt x1 w.heap.size 43 #[.int .i64 0, .int .u64 0, .int .i64 0, .int .u64 0, .int .i64 0, .int .i64 0, .int .i64 0, .string ⟨#[]⟩, .string ⟨#[]⟩, .int .u64 0, .int .i64 0, .int .u64 0, .slice none 0 0, .slice none 0 0] ∧ Below w.heap.size w x1) := ⟨row_grown HZR.out.1 hgr HGE.out.2.1, ⟨hgr.os.trans HZR.out.2.os, hgr.tape.trans HZR.out.2.tape, hgr.output.trans HZR.out.2.output, Nat.le_trans HZR.out.2.size hgr.size, fun k hk => (hgr.block k (Nat.lt_of_lt_of_le hk HZR.out.2.size) (fun e => by cases e; have := HGE.out.2.2; omega)).trans (HZR.out.2.block k hk)⟩⟩
  clear hrb hreq ho1 ho2 hgr HRB HZR HGI
  have HDR : Hid (decR bs = if (pRec ⟨bs, 0⟩).2.e ≠ 0 then (Rec.zero, (pRec ⟨bs, 0⟩).2.e) else if (pRec ⟨bs, 0⟩).2.l ≠ [] ∨ (pRec ⟨bs, 0⟩).1.rightB = false then (Rec.zero, 2) else ((pRec ⟨bs, 0⟩).1, 0)) := rfl
  have HFI := hide (rec_fits ⟨bs, 0⟩)
  generalize pRec ⟨bs, 0⟩ = pr at *
  obtain ⟨pr, s'⟩ := pr
  simp only at HREQ HDR HRB1 HFI
  obtain ⟨k, q, hkl, hd⟩ := HRB1.out.row
  have c2 := q.cell 2 (.int .i64 s'.e) rfl
  have HQ := hide q
  have HKL := hide hkl
  have HDL := hide hd
  clear q hkl hd
  by_cases he : s'.e = 0
  case neg =>
    have hdr : decR bs = (Rec.zero, s'.e) := by rw [HDR.out, if_pos he]
    have HDD := hide hdr
    have k0 : (s'.e == 0) = false := by rw [beq_eq_false_iff_ne]; exact he
    have k1 : (s'.e != 0) = true := by rw [bne, k0]; rfl
    clear hdr HDR he HREQ HQ HKL HDL HFI
    generalize s'.e = es at *
    have z0 := HD.out.1.cell 0 (.int .i64 0) rfl
    have zf0 := HD.out.1.free 0
    have z1 := HD.out.1.cell 1 (.int .u64 0) rfl
    have zf1 := HD.out.1.free 1
    have z2 := HD.out.1.cell 2 (.int .i64 0) rfl
    have zf2 := HD.out.1.free 2
    have z3 := HD.out.1.cell 3 (.int .u64 0) rfl
    have zf3 := HD.out.1.free 3
    have z4 := HD.out.1.cell 4 (.int .i64 0) rfl
    have zf4 := HD.out.1.free 4
    have z5 := HD.out.1.cell 5 (.int .i64 0) rfl
    have zf5 := HD.out.1.free 5
    have z6 := HD.out.1.cell 6 (.int .i64 0) rfl
    have zf6 := HD.out.1.free 6
    have z7 := HD.out.1.cell 7 (.string ⟨#[]⟩) rfl
    have zf7 := HD.out.1.free 7
    have z8 := HD.out.1.cell 8 (.string ⟨#[]⟩) rfl
    have zf8 := HD.out.1.free 8
    have z9 := HD.out.1.cell 9 (.int .u64 0) rfl
    have zf9 := HD.out.1.free 9
    have z10 := HD.out.1.cell 10 (.int .i64 0) rfl
    have zf10 := HD.out.1.free 10
    have z11 := HD.out.1.cell 11 (.int .u64 0) rfl
    have zf11 := HD.out.1.free 11
    have z12 := HD.out.1.cell 12 (.slice none 0 0) rfl
    have zf12 := HD.out.1.free 12
    have z13 := HD.out.1.cell 13 (.slice none 0 0) rfl
    have zf13 := HD.out.1.free 13
    have ne1 := HGE.out.2.1
    go_wp2_with fail
    go_region
    have HRW := hide ((((((((((((((HD.out.1.setSame 0 (.int .i64 0) rfl).setSame 1 (.int .u64 0) rfl).setSame 2 (.int .i64 0) rfl).setSame 3 (.int .u64 0) rfl).setSame 4 (.int .i64 0) rfl).setSame 5 (.int .i64 0) rfl).setSame 6 (.int .i64 0) rfl).setSame 7 (.string ⟨#[]⟩) rfl).setSame 8 (.string ⟨#[]⟩) rfl).setSame 9 (.int .u64 0) rfl).setSame 10 (.int .i64 0) rfl).setSame 11 (.int .u64 0) rfl).setSame 12 (.slice none 0 0) rfl).setSame 13 (.slice none 0 0) rfl)
    have HBW := hide ((((((((((((((HD.out.2.set1 HGE.out.1 0 (.int .i64 0)).set1 HGE.out.1 1 (.int .u64 0)).set1 HGE.out.1 2 (.int .i64 0)).set1 HGE.out.1 3 (.int .u64 0)).set1 HGE.out.1 4 (.int .i64 0)).set1 HGE.out.1 5 (.int .i64 0)).set1 HGE.out.1 6 (.int .i64 0)).set1 HGE.out.1 7 (.string ⟨#[]⟩)).set1 HGE.out.1 8 (.string ⟨#[]⟩)).set1 HGE.out.1 9 (.int .u64 0)).set1 HGE.out.1 10 (.int .i64 0)).set1 HGE.out.1 11 (.int .u64 0)).set1 HGE.out.1 12 (.slice none 0 0)).set1 HGE.out.1 13 (.slice none 0 0))
    refine gen_w (fun x => Hid (RowAt x w.heap.size 43 #[.int .i64 0, .int .u64 0, .int .i64 0, .int .u64 0, .int .i64 0, .int .i64 0, .int .i64 0, .string ⟨#[]⟩, .string ⟨#[]⟩, .int .u64 0, .int .i64 0, .int .u64 0, .slice none 0 0, .slice none 0 0]) ∧ Hid (Below w.heap.size w x)) (x := ((((((((((((((x1.setCell ⟨w.heap.size, 0, none⟩ (.int .i64 0)).setCell ⟨w.heap.size, 1, none⟩ (.int .u64 0)).setCell ⟨w.heap.size, 2, none⟩ (.int .i64 0)).setCell ⟨w.heap.size, 3, none⟩ (.int .u64 0)).setCell ⟨w.heap.size, 4, none⟩ (.int .i64 0)).setCell ⟨w.heap.size, 5, none⟩ (.int .i64 0)).setCell ⟨w.heap.size, 6, none⟩ (.int .i64 0)).setCell ⟨w.heap.size, 7, none⟩ (.string ⟨#[]⟩)).setCell ⟨w.heap.size, 8, none⟩ (.string ⟨#[]⟩)).setCell ⟨w.heap.size, 9, none⟩ (.int .u64 0)).setCell ⟨w.heap.size, 10, none⟩ (.int .i64 0)).setCell ⟨w.heap.size, 11, none⟩ (.int .u64 0)).setCell ⟨w.heap.size, 12, none⟩ (.slice none 0 0)).setCell ⟨w.heap.size, 13, none⟩ (.slice none 0 0)).drew) ⟨hide (rowat_drew HRW.out), hide (below_drew HBW.out)⟩ ?_
    clear HD HRW HBW z0 zf0 z1 zf1 z2 zf2 z3 zf3 z4 zf4 z5 zf5 z6 zf6 z7 zf7 z8 zf8 z9 zf9 z10 zf10 z11 zf11 z12 zf12 z13 zf13 ne1 c2
    rintro y0 ⟨HROW, HBL⟩
    go_wp2
    (try simp only [Exit.inBlock, Exit.then])
    refine bodyPost_ret (res_at rfl _ _ w.heap.size #[.int .i64 0, .int .u64 0, .int .i64 0, .int .u64 0, .int .i64 0, .int .i64 0, .int .i64 0, .string ⟨#[]⟩, .string ⟨#[]⟩, .int .u64 0, .int .i64 0, .int .u64 0, .slice none 0 0, .slice none 0 0] _ rfl HROW.out Try.underlying43 rfl infoRc) rfl ?_
    rw [HDD.out]
    exact ⟨⟨_, _, rfl, World.ownsRow_nil _ _ _ _, World.ownsRow_nil _ _ _ _⟩, HBL.out⟩
  rw [he] at c2 HQ
  obtain rfl := HREQ.out he
  obtain ⟨av, cv, hva⟩ := own_shape5 HGOT.out.1
  obtain ⟨au, cu, hvb⟩ := own_shape5 HGOT.out.2
  subst hva hvb
  have c1 := HQ.out.cell 1 (.int .i64 (k : Int)) rfl
  have HL0 := hide (HDL.out he)
  by_cases hk : k < len
  case pos =>
    have hne : s'.l ≠ [] := fun h => by
      have h2 := HL0.out
      rw [h] at h2
      have h3 := congrArg List.length h2
      rw [List.length_drop, HL2.out] at h3
      have h4 : len - k = 0 := h3
      omega
    have hdr : decR bs = (Rec.zero, 2) := by rw [HDR.out, if_neg (fun h => h he), if_pos (.inl hne)]
    clear hne
    have HDD := hide hdr
    have i1 : (k : Int) < (len : Int) := by omega
    clear hdr HDR he HREQ HQ HKL HDL HFI HL0
    go_wp2_with (refine wpList_store_at rfl 43 (.tmp 2) (.tmp 25) rfl w.heap.size #[.int .i64 0, .int .u64 0, .int .i64 0, .int .u64 0, .int .i64 0, .int .i64 0, .int .i64 0, .string ⟨#[]⟩, .string ⟨#[]⟩, .int .u64 0, .int .i64 0, .int .u64 0, .slice none 0 0, .slice none 0 0] #[.int .i64 0, .int .u64 0, .int .i64 0, .int .u64 0, .int .i64 0, .int .i64 0, .int .i64 0, .string ⟨#[]⟩, .string ⟨#[]⟩, .int .u64 0, .int .i64 0, .int .u64 0, .slice none 0 0, .slice none 0 0] rfl rfl HD.out.1 infoRc rfl (by simp [Value.oneCell']) ?_)
    intro w9 hr9 hk9 _
    have HROW := hide hr9
    have HBL := hide (hk9 _ _ HD.out.2 (Nat.le_refl _))
    clear hr9 hk9 HD c1 c2
    go_wp2
    (try simp only [Exit.inBlock, Exit.then])
    refine bodyPost_ret (res_at rfl _ _ w.heap.size #[.int .i64 0, .int .u64 0, .int .i64 0, .int .u64 0, .int .i64 0, .int .i64 0, .int .i64 0, .string ⟨#[]⟩, .string ⟨#[]⟩, .int .u64 0, .int .i64 0, .int .u64 0, .slice none 0 0, .slice none 0 0] _ rfl HROW.out Try.underlying43 rfl infoRc) rfl ?_
    rw [HDD.out]
    exact ⟨⟨_, _, rfl, World.ownsRow_nil _ _ _ _, World.ownsRow_nil _ _ _ _⟩, HBL.out⟩
  have hln : s'.l = [] := by
    have h2 := HL0.out
    rw [← h2]
    apply List.drop_eq_nil_of_le
    rw [HL2.out]
    omega
  have i1 : ¬ (k : Int) < (len : Int) := by omega
  have r0 := HQ.out.cell 3 (.int .i64 r.k) rfl
  have r1 := HQ.out.cell 4 (.int .u64 (r.l : Int)) rfl
  have r2 := HQ.out.cell 5 (.int .i64 r.t) rfl
  have r3 := HQ.out.cell 6 (.int .u64 (r.p : Int)) rfl
  have r4 := HQ.out.cell 7 (.int .i64 r.c.k) rfl
  have r5 := HQ.out.cell 8 (.int .i64 r.c.pg) rfl
  have r6 := HQ.out.cell 9 (.int .i64 r.c.sl) rfl
  have r7 := HQ.out.cell 10 (.string r.c.o) rfl
  have r8 := HQ.out.cell 11 (.string r.c.n) rfl
  have r9 := HQ.out.cell 12 (.int .u64 (r.n : Int)) rfl
  have r10 := HQ.out.cell 13 (.int .i64 r.s) rfl
  have r11 := HQ.out.cell 14 (.int .u64 (r.b : Int)) rfl
  have r12 := HQ.out.cell 15 (.slice av r.ts.length cv) rfl
  have r13 := HQ.out.cell 16 (.slice au r.ds.length cu) rfl
  by_cases hr : r.right
  case neg =>
    have hdr : decR bs = (Rec.zero, 2) := by rw [HDR.out, if_neg (fun h => h he), if_pos (.inr (rightB_no hr))]
    have HDD := hide hdr
    have HR := hide (right_at r (.slice av r.ts.length cv) (.slice au r.ds.length cu) x1 false (hide ⟨fun h => (nomatch h), fun h => absurd h hr⟩) HFI.out HGOT.out.rc)
    clear hdr HDR he HREQ HQ HKL HDL HFI HL0 hr hln hk
    go_wp2_with fail
    refine HR.out.mono ?_
    rintro e x2 ⟨rfl, hb2⟩
    have HD2 : Hid (RowAt x2 w.heap.size 43 #[.int .i64 0, .int .u64 0, .int .i64 0, .int .u64 0, .int .i64 0, .int .i64 0, .int .i64 0, .string ⟨#[]⟩, .string ⟨#[]⟩, .int .u64 0, .int .i64 0, .int .u64 0, .slice none 0 0, .slice none 0 0] ∧ Below w.heap.size w x2) := ⟨HD.out.1.later hb2, HD.out.2.trans (hb2.mono HD.out.2.size)⟩
    clear hb2 HD HR c1 c2 r0 r1 r2 r3 r4 r5 r6 r7 r8 r9 r10 r11 r12 r13
    go_wp2_with (refine wpList_store_at rfl 43 (.tmp 2) (.tmp 25) rfl w.heap.size #[.int .i64 0, .int .u64 0, .int .i64 0, .int .u64 0, .int .i64 0, .int .i64 0, .int .i64 0, .string ⟨#[]⟩, .string ⟨#[]⟩, .int .u64 0, .int .i64 0, .int .u64 0, .slice none 0 0, .slice none 0 0] #[.int .i64 0, .int .u64 0, .int .i64 0, .int .u64 0, .int .i64 0, .int .i64 0, .int .i64 0, .string ⟨#[]⟩, .string ⟨#[]⟩, .int .u64 0, .int .i64 0, .int .u64 0, .slice none 0 0, .slice none 0 0] rfl rfl HD2.out.1 infoRc rfl (by simp [Value.oneCell']) ?_)
    intro w9 hr9 hk9 _
    have HROW := hide hr9
    have HBL := hide (hk9 _ _ HD2.out.2 (Nat.le_refl _))
    clear hr9 hk9 HD2
    go_wp2
    (try simp only [Exit.inBlock, Exit.then])
    refine bodyPost_ret (res_at rfl _ _ w.heap.size #[.int .i64 0, .int .u64 0, .int .i64 0, .int .u64 0, .int .i64 0, .int .i64 0, .int .i64 0, .string ⟨#[]⟩, .string ⟨#[]⟩, .int .u64 0, .int .i64 0, .int .u64 0, .slice none 0 0, .slice none 0 0] _ rfl HROW.out Try.underlying43 rfl infoRc) rfl ?_
    rw [HDD.out]
    exact ⟨⟨_, _, rfl, World.ownsRow_nil _ _ _ _, World.ownsRow_nil _ _ _ _⟩, HBL.out⟩
  have hdr : decR bs = (r, 0) := by rw [HDR.out, if_neg (fun h => h he), if_neg (fun h => h.elim (fun h => h hln) (fun h => by rw [rightB_yes hr] at h; cases h))]
  have HDD := hide hdr
  have HR := hide (right_at r (.slice av r.ts.length cv) (.slice au r.ds.length cu) x1 true (hide ⟨fun _ => hr, fun _ => rfl⟩) HFI.out HGOT.out.rc)
  clear hdr HDR he HREQ HKL HDL HFI HL0 hr hln hk
  go_wp2_with fail
  refine HR.out.mono ?_
  rintro e x2 ⟨rfl, hb2⟩
  have HD2 : Hid (RowAt x2 w.heap.size 43 #[.int .i64 0, .int .u64 0, .int .i64 0, .int .u64 0, .int .i64 0, .int .i64 0, .int .i64 0, .string ⟨#[]⟩, .string ⟨#[]⟩, .int .u64 0, .int .i64 0, .int .u64 0, .slice none 0 0, .slice none 0 0] ∧ Below w.heap.size w x2) := ⟨HD.out.1.later hb2, HD.out.2.trans (hb2.mono HD.out.2.size)⟩
  have HGOT2 := hide (HGOT.out.below hb2)
  have HRG : Hid (x2.rangeAt g 3 (rcA r (.slice av r.ts.length cv) (.slice au r.ds.length cu)).toList) := rd_range (HQ.out.later hb2)
  clear hb2 HD HR HQ HGOT c1 c2 r0 r1 r2 r3 r4 r5 r6 r7 r8 r9 r10 r11 r12 r13
  go_wp2_with (first | (refine wpList_load_mid rfl 43 (.tmp 26) rfl g 3 (rcA r (.slice av r.ts.length cv) (.slice au r.ds.length cu)) rfl HRG.out _ Try.underlying43 rfl infoRc ?_) | (refine wpList_store_at rfl 43 (.tmp 2) (.tmp 27) rfl w.heap.size #[.int .i64 0, .int .u64 0, .int .i64 0, .int .u64 0, .int .i64 0, .int .i64 0, .int .i64 0, .string ⟨#[]⟩, .string ⟨#[]⟩, .int .u64 0, .int .i64 0, .int .u64 0, .slice none 0 0, .slice none 0 0] (rcA r (.slice av r.ts.length cv) (.slice au r.ds.length cu)) rfl rfl HD2.out.1 infoRc rfl (by simp [rcA, Value.oneCell']) ?_))
  intro w9 hr9 hk9 ho9
  have HROW := hide hr9
  have HBL := hide (hk9 _ _ HD2.out.2 (Nat.le_refl _))
  have HG9 : Hid (GotIn w.heap.size w9 r (.slice av r.ts.length cv) (.slice au r.ds.length cu)) := ⟨own_put HGOT2.out.1 HD2.out.1 (by decide) ho9, own_put HGOT2.out.2 HD2.out.1 (by decide) ho9⟩
  clear hr9 hk9 HD2 HGOT2 HRG ho9
  go_wp2
  (try simp only [Exit.inBlock, Exit.then])
  refine bodyPost_ret (res_at rfl _ _ w.heap.size (rcA r (.slice av r.ts.length cv) (.slice au r.ds.length cu)) _ rfl HROW.out Try.underlying43 rfl infoRc) rfl ?_
  rw [HDD.out]
  exact ⟨⟨_, _, rfl, HG9.out⟩, HBL.out⟩
end Go.Proofs.Ythamodoedlpmdaa
