/-
  Texts that lean on one another, one behind the other: each opens with its own remark.
-/
import Derived.ArgAppend
import Derived.Deep.RegionLawGrows
import Derived.Laws.AppendOwn
import Derived.Laws.AppendOwnNone
import Derived.Lib.AppendStr
import Derived.Lib.AppendZerosOnto
import Derived.Test.YtgobegpmojkhaabProg
import Derived.WalkSpells
import Derived.Laws.CopyOwn
import Derived.Room.AppendFits
import Derived.Deep.QuietTactic
import Derived.BigQuiet
import Derived.Test.YtgobegpmojkhaabK00
import Derived.Test.YtgobegpmojkhaabK02
import Derived.Test.YtgobegpmojkhaabK01

/-
  The contracts of quaysideref06's num and text.
-/
namespace Go.Proofs.Ytgobegpmojkhaab
open Go.RowKit
set_option linter.unusedVariables false

/-- Bytes as a text. -/
def mkS (l : List UInt8) : ByteArray := ⟨l.toArray⟩
theorem mkS_append (a b : List UInt8) : mkS a ++ mkS b = mkS (a ++ b) := mk_append a b
theorem mkS_size (l : List UInt8) : (mkS l).size = l.length := size_mk l

theorem run_add_s (a b : ByteArray) (h : a.size + b.size ≤ 100000) (x : World) : (binOp .add 9 (.string a) (.string b)).run Try.prog x = .ok (.string (a ++ b)) x := by
  simp [binOp, Op.stringOp]
  omega
theorem add_guard (x y : Operand) (a b : ByteArray) (w : World) : (eqGuard .add 9 x y (.string a) (.string b)).run Try.prog w = .ok () w := by
  simp [eqGuard]

end Go.Proofs.Ytgobegpmojkhaab

/-
  The contract of quaysideref06.Bytes, of records that are no checkpoint's.
-/
namespace Go.Proofs.Ytgobegpmojkhaab
open Go.RowKit
set_option linter.unusedVariables false

theorem load_u64 {b j : Nat} (x : World) (v : Int) (h : x.cell? ⟨b, j, none⟩ = some (.int .u64 v)) : (Instr.loadAt 22 (.pointer (some ⟨b, j, none⟩))).run Try.prog x = .ok (.int .u64 v) x := by go_simp
theorem load_text {b j : Nat} (x : World) (s : ByteArray) (h : x.cell? ⟨b, j, none⟩ = some (.string s)) : (Instr.loadAt 9 (.pointer (some ⟨b, j, none⟩))).run Try.prog x = .ok (.string s) x := by go_simp

end Go.Proofs.Ytgobegpmojkhaab

/-
  The contract of record.Right.
-/
namespace Go.Proofs.Ytgobegpmojkhaab
open Go.RowKit
set_option linter.unusedVariables false

theorem used_fits {r : Rec} (h : r.fits) : r.used.fits := by
  refine ⟨?_, ?_, ?_, ?_, ?_⟩
  · show (if r.k ≤ 2 then r.c else Ch.zero).fits
    by_cases hk : r.k ≤ 2
    · rw [if_pos hk]
      exact h.c
    · rw [if_neg hk]
      exact zero_fits
  · show (if r.k = 8 then r.ts else []).length ≤ maxLen
    by_cases hk : r.k = 8
    · rw [if_pos hk]
      exact h.tl
    · rw [if_neg hk]
      exact Nat.zero_le _
  · show (if r.k = 8 then r.ds else []).length ≤ maxLen
    by_cases hk : r.k = 8
    · rw [if_pos hk]
      exact h.dl
    · rw [if_neg hk]
      exact Nat.zero_le _
  · show ∀ x ∈ (if r.k = 8 then r.ts else []), x.fits
    by_cases hk : r.k = 8
    · rw [if_pos hk]
      exact h.ts
    · rw [if_neg hk]
      exact fun x hx => nomatch hx
  · show ∀ x ∈ (if r.k = 8 then r.ds else []), x.fits
    by_cases hk : r.k = 8
    · rw [if_pos hk]
      exact h.ds
    · rw [if_neg hk]
      exact fun x hx => nomatch hx

theorem load_rc (y : World) (g : Nat) (cs : Array Value) (h : RowAt y g 28 cs) (hz : cs.size = 14) : (Instr.loadAt 28 (.pointer (some ⟨g, 0, none⟩))).run Try.prog y = .ok (.agg cs) y := by
  have h1 := run_loadAt_mid (P := Try.prog) y g 0 28 cs.toList _ (fun j v hv => by rw [Nat.zero_add]; exact h.cell j v (by rw [← Array.getElem?_toList]; exact hv)) Try.underlying28 rfl (by rw [infoRc, Array.length_toList, hz])
  rwa [Array.toArray_toList] at h1
set_option maxRecDepth 4000 in
set_option maxHeartbeats 3200000 in
theorem right_at (r : Rec) (va vb : Value) (w : World) (q : Bool) (Hq : Hid (q = true ↔ r.right)) (hf : r.fits) (hin : RcIn w r va vb) :
    Calls Try.prog 8 #[.agg (rcA r va vb)] w fun e w' => e = .returned (.bool q) ∧ Below w.heap.size w w' := by
  have HIN := hide hin
  have HFI := hide hf
  clear hin hf
  have HK0 := hide (Keeps.one w 28 (rcA r va vb))
  have HF : Hid (¬ r.right → q = false) := fun h => by
    cases q
    · rfl
    · exact absurd (Hq.out.1 rfl) h
  have HT : Hid (r.right → q = true) := fun h => Hq.out.2 h
  clear Hq
  by_cases l1 : (1 : Int) ≤ (r.l : Int)
  case neg =>
    obtain rfl := HF.out (fun h => by have := h.l1; omega)
    have l1f : ((1 : Int) ≤ (r.l : Int)) = False := eq_false l1
    clear HF HT HIN HFI l1
    go_enter Try.func8, Try.ntmps8
    go_wp2_with fail
    refine wp_region_in (fun y => Keeps w y [(w.heap.size, 28, rcA r va vb)]) (by kernel_rfl) (by kernel_rfl) HK0.out.drew ?_
    clear HK0
    repeat (first
      | go_big_quiet_skip
      | (refine wpQuiet_load rfl 22 (.tmp 3) rfl _ (.int .u64 (r.l : Int)) rfl (fun y hy => load_u64 y _ (hy.1.1.cell 1 _ rfl)) ?_; simp only [Act.put, Array.setIfInBounds, List.size_toArray, List.length_cons, List.length_nil, Nat.reduceAdd, Nat.reduceLT, ↓reduceDIte, List.set_toArray, List.set_cons_succ, List.set_cons_zero])
      | (refine wpQuiet_plain rfl (fun K hK => ?_); go_simp; refine hK _ ?_; clear hK K))
    refine wpQuiet_nil ?_
    intro w3 h3
    have d3 := h3.2
    clear h3
    go_wp2
    go_ret
    exact ⟨by rfl, d3⟩
  by_cases l2 : (r.l : Int) ≤ 4611686018427387904
  case neg =>
    obtain rfl := HF.out (fun h => by have := h.lm; unfold maxP at this; omega)
    have l2f : ((r.l : Int) ≤ 4611686018427387904) = False := eq_false l2
    clear HF HT HIN HFI l2
    go_enter Try.func8, Try.ntmps8
    go_wp2_with fail
    refine wp_region_in (fun y => Keeps w y [(w.heap.size, 28, rcA r va vb)]) (by kernel_rfl) (by kernel_rfl) HK0.out.drew ?_
    clear HK0
    repeat (first
      | go_big_quiet_skip
      | (refine wpQuiet_load rfl 22 (.tmp 3) rfl _ (.int .u64 (r.l : Int)) rfl (fun y hy => load_u64 y _ (hy.1.1.cell 1 _ rfl)) ?_; simp only [Act.put, Array.setIfInBounds, List.size_toArray, List.length_cons, List.length_nil, Nat.reduceAdd, Nat.reduceLT, ↓reduceDIte, List.set_toArray, List.set_cons_succ, List.set_cons_zero])
      | (refine wpQuiet_load rfl 22 (.tmp 7) rfl _ (.int .u64 (r.l : Int)) rfl (fun y hy => load_u64 y _ (hy.1.1.cell 1 _ rfl)) ?_; simp only [Act.put, Array.setIfInBounds, List.size_toArray, List.length_cons, List.length_nil, Nat.reduceAdd, Nat.reduceLT, ↓reduceDIte, List.set_toArray, List.set_cons_succ, List.set_cons_zero])
      | (refine wpQuiet_plain rfl (fun K hK => ?_); go_simp; refine hK _ ?_; clear hK K))
    refine wpQuiet_nil ?_
    intro w3 h3
    have d3 := h3.2
    clear h3
    go_wp2
    go_ret
    exact ⟨by rfl, d3⟩
  have l2t : ((r.l : Int) ≤ 4611686018427387904) = True := eq_true l2
  have HLM : Hid (1 ≤ r.l ∧ r.l ≤ maxP) := ⟨by omega, by unfold maxP; omega⟩
  clear l2
  by_cases hu : r.uses
  case neg =>
    obtain rfl := HF.out (fun h => hu (right_uses.1 h).2.2.1)
    have HU := hide (fun x h => uses_any r va vb x false (hide ⟨fun h => (nomatch h), fun h => absurd h hu⟩) h)
    clear HF HT HFI hu
    go_enter Try.func8, Try.ntmps8
    go_wp2_with fail
    refine wp_region_in (fun y => Keeps w y [(w.heap.size, 28, rcA r va vb)]) (by kernel_rfl) (by kernel_rfl) HK0.out.drew ?_
    clear HK0
    repeat (first
      | go_big_quiet_skip
      | (refine wpQuiet_load rfl 22 (.tmp 3) rfl _ (.int .u64 (r.l : Int)) rfl (fun y hy => load_u64 y _ (hy.1.1.cell 1 _ rfl)) ?_; simp only [Act.put, Array.setIfInBounds, List.size_toArray, List.length_cons, List.length_nil, Nat.reduceAdd, Nat.reduceLT, ↓reduceDIte, List.set_toArray, List.set_cons_succ, List.set_cons_zero])
      | (refine wpQuiet_load rfl 22 (.tmp 7) rfl _ (.int .u64 (r.l : Int)) rfl (fun y hy => load_u64 y _ (hy.1.1.cell 1 _ rfl)) ?_; simp only [Act.put, Array.setIfInBounds, List.size_toArray, List.length_cons, List.length_nil, Nat.reduceAdd, Nat.reduceLT, ↓reduceDIte, List.set_toArray, List.set_cons_succ, List.set_cons_zero])
      | (refine wpQuiet_load rfl 28 (.tmp 1) rfl _ (.agg (rcA r va vb)) rfl (fun y hy => load_rc y _ _ hy.1.1 rfl) ?_; simp only [Act.put, Array.setIfInBounds, List.size_toArray, List.length_cons, List.length_nil, Nat.reduceAdd, Nat.reduceLT, ↓reduceDIte, List.set_toArray, List.set_cons_succ, List.set_cons_zero])
      | (refine wpQuiet_call rfl 16 #[.agg (rcA r va vb)] (.bool false) ?_ (fun x hx => (HU.out x (HIN.out.below hx.2)).mono fun e x' h => ⟨h.1, hx.later h.2⟩) ?_; (intro x; go_simp); simp only [Act.put, Array.setIfInBounds, List.size_toArray, List.length_cons, List.length_nil, Nat.reduceAdd, Nat.reduceLT, ↓reduceDIte, List.set_toArray, List.set_cons_succ, List.set_cons_zero])
      | (refine wpQuiet_plain rfl (fun K hK => ?_); go_simp; refine hK _ ?_; clear hK K))
    refine wpQuiet_nil ?_
    intro w3 h3
    have d3 := h3.2
    clear h3
    go_wp2
    go_ret
    exact ⟨by rfl, d3⟩
  have HU := hide (fun x h => uses_any r va vb x true (hide ⟨fun _ => hu, fun _ => rfl⟩) h)
  have HX := hide (fun x h => used_any r va vb x ⟨hu.1, hu.2.1⟩ h)
  have HQ2 : Hid (q = true ↔ r = r.used) := by
    constructor
    · intro h
      by_cases hd : r = r.used
      · exact hd
      · rw [HF.out (fun h => hd (right_uses.1 h).2.2.2)] at h
        cases h
    · intro hd
      exact HT.out (right_uses.2 ⟨HLM.out.1, HLM.out.2, hu, hd⟩)
  have HS := hide (fun x h => same_at r r.used va vb (uV r va) (uV r vb) x q HQ2 HFI.out (used_fits HFI.out) h (uV_in h))
  clear HF HT HFI HQ2 hu HLM
  go_enter Try.func8, Try.ntmps8
  go_wp2_with fail
  refine wp_region_in (fun y => Keeps w y [(w.heap.size, 28, rcA r va vb)]) (by kernel_rfl) (by kernel_rfl) HK0.out.drew ?_
  clear HK0
  repeat (first
    | go_big_quiet_skip
    | (refine wpQuiet_load rfl 22 (.tmp 3) rfl _ (.int .u64 (r.l : Int)) rfl (fun y hy => load_u64 y _ (hy.1.1.cell 1 _ rfl)) ?_; simp only [Act.put, Array.setIfInBounds, List.size_toArray, List.length_cons, List.length_nil, Nat.reduceAdd, Nat.reduceLT, ↓reduceDIte, List.set_toArray, List.set_cons_succ, List.set_cons_zero])
    | (refine wpQuiet_load rfl 22 (.tmp 7) rfl _ (.int .u64 (r.l : Int)) rfl (fun y hy => load_u64 y _ (hy.1.1.cell 1 _ rfl)) ?_; simp only [Act.put, Array.setIfInBounds, List.size_toArray, List.length_cons, List.length_nil, Nat.reduceAdd, Nat.reduceLT, ↓reduceDIte, List.set_toArray, List.set_cons_succ, List.set_cons_zero])
    | (refine wpQuiet_load rfl 28 (.tmp 1) rfl _ (.agg (rcA r va vb)) rfl (fun y hy => load_rc y _ _ hy.1.1 rfl) ?_; simp only [Act.put, Array.setIfInBounds, List.size_toArray, List.length_cons, List.length_nil, Nat.reduceAdd, Nat.reduceLT, ↓reduceDIte, List.set_toArray, List.set_cons_succ, List.set_cons_zero])
    | (refine wpQuiet_call rfl 16 #[.agg (rcA r va vb)] (.bool true) ?_ (fun x hx => (HU.out x (HIN.out.below hx.2)).mono fun e x' h => ⟨h.1, hx.later h.2⟩) ?_; (intro x; go_simp); simp only [Act.put, Array.setIfInBounds, List.size_toArray, List.length_cons, List.length_nil, Nat.reduceAdd, Nat.reduceLT, ↓reduceDIte, List.set_toArray, List.set_cons_succ, List.set_cons_zero])
    | (refine wpQuiet_call rfl 18 #[.agg (rcA r va vb)] (.agg (rcA r.used (uV r va) (uV r vb))) ?_ (fun x hx => (HX.out x (HIN.out.below hx.2)).mono fun e x' h => ⟨h.1, hx.later h.2⟩) ?_; (intro x; go_simp); simp only [Act.put, Array.setIfInBounds, List.size_toArray, List.length_cons, List.length_nil, Nat.reduceAdd, Nat.reduceLT, ↓reduceDIte, List.set_toArray, List.set_cons_succ, List.set_cons_zero])
    | (refine wpQuiet_call rfl 17 #[.agg (rcA r va vb), .agg (rcA r.used (uV r va) (uV r vb))] (.bool q) ?_ (fun x hx => (HS.out x (HIN.out.below hx.2)).mono fun e x' h => ⟨h.1, hx.later h.2⟩) ?_; (intro x; go_simp); simp only [Act.put, Array.setIfInBounds, List.size_toArray, List.length_cons, List.length_nil, Nat.reduceAdd, Nat.reduceLT, ↓reduceDIte, List.set_toArray, List.set_cons_succ, List.set_cons_zero])
    | (refine wpQuiet_plain rfl (fun K hK => ?_); go_simp; refine hK _ ?_; clear hK K))
  refine wpQuiet_nil ?_
  intro w3 h3
  have d3 := h3.2
  clear h3
  go_wp2
  go_ret
  exact ⟨by rfl, d3⟩

/-- THE CONTRACT. -/
theorem right_any (r : Rec) (va vb : Value) (w : World) (hf : r.fits) (hin : RcIn w r va vb) :
    Calls Try.prog 8 #[.agg (rcA r va vb)] w fun e w' => e = .returned (.bool r.rightB) ∧ Below w.heap.size w w' :=
  right_at r va vb w _ (hide rightB_iff) hf hin
end Go.Proofs.Ytgobegpmojkhaab

/-
  Bytes put behind bytes where there is no room: a new row. Of no program.
-/
namespace Go.Proofs.Ytgobegpmojkhaab
open Go.RowKit
set_option linter.unusedVariables false

theorem isB_cells {w : World} {b off n : Nat} {bs : List UInt8} (h : IsB w (some ⟨b, off, none⟩) n bs) : ∀ j u, (toV bs)[j]? = some u → w.cell? ((⟨b, off, none⟩ : Addr).add j) = some u := by
  intro j u hu
  have hj : j < bs.length := by
    have := (List.getElem?_eq_some_iff.1 hu).1
    rwa [toV_length] at this
  obtain ⟨b', off', hb, _, hc⟩ := h.2 (by have := h.1; omega)
  cases hb
  rw [Addr.add_lit, hc j (by have := h.1; omega), ← toV_get bs j hj]
  exact hu

theorem wpList_append_b {P : Program} (w : World) {ops : Array Oper} {rest : List Oper} {o : Oper} {a : Act} {Q : Exit → Act → World → Prop}
    (hg : o.guard = none) (s x : Operand) (t : TypeId) (hop : o.op = Op.call { callee := Callee.builtin Builtin.append, args := #[s, x], argTypes := #[t, t] })
    (e : TypeId) (ht : P.underlying t = some (.slice e)) (hi : (P.info? e).map (fun i => (i.zero, i.size, i.bytes)) = some (some (.int .u8 0), 1, 1))
    (b off n cap : Nat) (xs : List UInt8) (hs : a.eval s = .slice (some ⟨b, off, none⟩) n cap) (hB : IsB w (some ⟨b, off, none⟩) n xs)
    (b2 off2 m c : Nat) (ys : List UInt8) (hx : a.eval x = .slice (some ⟨b2, off2, none⟩) m c) (hB2 : IsB w (some ⟨b2, off2, none⟩) m ys)
    (hfull : cap < n + m) (hz : n + m ≤ 140737488355328)
    (hK : ∀ v' w', w'.ownsRow w.heap.size e 1 v' (n + m) (toV (xs ++ ys)) → w.grownBy w' none → wpList P ops Q rest (a.put o.dst v') w') :
    wpList P ops Q (o :: rest) a w := by
  obtain ⟨i, hi0, hi1⟩ := Option.map_eq_some_iff.1 hi
  simp only [Prod.mk.injEq] at hi1
  refine wpList_append_grows w hg s x t hop e i (.int .u8 0) 1 1 ht hi0 hi1.1 hi1.2.1 hi1.2.2 rfl (by omega) (some ⟨b, off, none⟩) n cap (toV xs) hs (fun h => nomatch h) (by rw [toV_length, hB.1, Nat.mul_one]) ?_
    ⟨b2, off2, none⟩ m c (toV ys) hx (by rw [toV_length, hB2.1, Nat.mul_one]) (isB_cells hB2) ?_ hfull (by unfold maxLen; omega) (by omega) ?_
  · intro b' hb'
    cases hb'
    exact isB_cells hB
  · intro u hu
    obtain ⟨y, _, rfl⟩ := List.mem_map.1 hu
    rfl
  · intro v' w' h1 h2
    refine hK v' w' ?_ h2
    have e2 : toV xs ++ toV ys = toV (xs ++ ys) := by simp [toV]
    rw [← e2]
    exact h1

/-- .. as one step of a region that draws its order. -/
theorem step_append_b {P : Program} {ops : Array Oper} {o : Oper} {a : Act} {w : World} {K : Act → World → Prop} {Q : Exit → Act → World → Prop} {E : Prop}
    (hg : o.guard = none) (s x : Operand) (t : TypeId) (hop : o.op = Op.call { callee := Callee.builtin Builtin.append, args := #[s, x], argTypes := #[t, t] })
    (e : TypeId) (ht : P.underlying t = some (.slice e)) (hi : (P.info? e).map (fun i => (i.zero, i.size, i.bytes)) = some (some (.int .u8 0), 1, 1))
    (b off n cap : Nat) (xs : List UInt8) (hs : a.eval s = .slice (some ⟨b, off, none⟩) n cap) (hB : IsB w (some ⟨b, off, none⟩) n xs)
    (b2 off2 m c : Nat) (ys : List UInt8) (hx : a.eval x = .slice (some ⟨b2, off2, none⟩) m c) (hB2 : IsB w (some ⟨b2, off2, none⟩) m ys)
    (hfull : cap < n + m) (hz : n + m ≤ 140737488355328)
    (hK : ∀ v' w', w'.ownsRow w.heap.size e 1 v' (n + m) (toV (xs ++ ys)) → w.grownBy w' none → K (a.put o.dst v') w') :
    if Region.wanted o (yielded ops a.tmps) = true then Oper.wp P o a w K Q else E := by
  obtain ⟨i, hi0, hi1⟩ := Option.map_eq_some_iff.1 hi
  simp only [Prod.mk.injEq] at hi1
  refine step_append_grows hg s x t hop e i (.int .u8 0) 1 1 ht hi0 hi1.1 hi1.2.1 hi1.2.2 rfl (by omega) (some ⟨b, off, none⟩) n cap (toV xs) hs (fun h => nomatch h) (by rw [toV_length, hB.1, Nat.mul_one]) ?_
    ⟨b2, off2, none⟩ m c (toV ys) hx (by rw [toV_length, hB2.1, Nat.mul_one]) (isB_cells hB2) ?_ hfull (by unfold maxLen; omega) (by omega) ?_
  · intro b' hb'
    cases hb'
    exact isB_cells hB
  · intro u hu
    obtain ⟨y, _, rfl⟩ := List.mem_map.1 hu
    rfl
  · intro v' w' h1 h2
    refine hK v' w' ?_ h2
    have e2 : toV xs ++ toV ys = toV (xs ++ ys) := by simp [toV]
    rw [← e2]
    exact h1
end Go.Proofs.Ytgobegpmojkhaab

/-
  Bytes, a text, zeros put behind bytes that the call owns. Of no program.
-/
namespace Go.Proofs.Ytgobegpmojkhaab
open Go.RowKit
set_option linter.unusedVariables false

section
variable {P : Program} (w : World) {ops : Array Oper} {rest : List Oper} {o : Oper} {a : Act} {Q : Exit → Act → World → Prop}

theorem toV_oneCell (bs : List UInt8) : ∀ u ∈ toV bs, u.oneCell' = true := by
  intro u hu
  obtain ⟨y, _, rfl⟩ := List.mem_map.1 hu
  rfl

/-- append(s, x...), both of bytes, s the call's own. -/
theorem wpList_append_ob (hg : o.guard = none) (s x : Operand) (t : TypeId) (hop : o.op = Op.call { callee := Callee.builtin Builtin.append, args := #[s, x], argTypes := #[t, t] })
    (e : TypeId) (ht : P.underlying t = some (.slice e)) (hi : (P.info? e).map (fun i => (i.zero, i.size, i.bytes)) = some (some (.int .u8 0), 1, 1))
    (base : Nat) (v : Value) (n : Nat) (xs : List UInt8) (hs : a.eval s = v) (hown : w.ownsRow base e 1 v n (toV xs))
    (ad : Option Addr) (m c : Nat) (ys : List UInt8) (hx : a.eval x = .slice ad m c) (hB : IsB w ad m ys) (hnil : ad = none → c = 0) (hz : n + m ≤ 140737488355328) (hbase : base ≤ w.heap.size)
    (hK : ∀ v' w', w'.ownsRow base e 1 v' (n + m) (toV (xs ++ ys)) → w.grownBy w' v.ownBlock → wpList P ops Q rest (a.put o.dst v') w') :
    wpList P ops Q (o :: rest) a w := by
  obtain ⟨i, hi0, hi1⟩ := Option.map_eq_some_iff.1 hi
  simp only [Prod.mk.injEq] at hi1
  have hl := hB.1
  cases ad with
  | none =>
    obtain rfl : m = 0 := by
      by_cases hm : 0 < m
      · obtain ⟨b, off, h1, _⟩ := hB.2 hm
        cases h1
      · omega
    obtain rfl := List.eq_nil_of_length_eq_zero hl
    obtain rfl := hnil rfl
    refine wpList_append_own_none hg s x t hop base e i 1 ht hi0 v n (toV xs) hs hown hx (hK v w ?_ ⟨rfl, rfl, rfl, Nat.le_refl _, fun _ _ _ => rfl⟩)
    simpa using hown
  | some b =>
    refine wpList_append_own w hg s x t hop base e i (.int .u8 0) 1 1 ht hi0 hi1.1 hi1.2.1 hi1.2.2 rfl (by omega) v n (toV xs) hs hown b m c (toV ys) hx (by rw [toV_length, hl, Nat.mul_one]) ?_ (toV_oneCell ys) (by unfold maxLen; omega) (by omega) hbase ?_
    · intro j u hu
      have hj : j < ys.length := by
        have := (List.getElem?_eq_some_iff.1 hu).1
        rwa [toV_length] at this
      obtain ⟨b', off', hb, _, hc⟩ := hB.2 (by omega)
      cases hb
      rw [Addr.add_lit, hc j (by omega), ← toV_get ys j hj]
      exact hu
    · intro v' w' h1 h2 _
      rw [← toV_append] at h1
      exact hK v' w' h1 h2

/-- append(s, x...), x a text. -/
theorem wpList_append_os (hg : o.guard = none) (s x : Operand) (t u : TypeId) (hop : o.op = Op.call { callee := Callee.builtin Builtin.append, args := #[s, x], argTypes := #[t, u] })
    (e : TypeId) (ht : P.underlying t = some (.slice e)) (hu : P.underlying u = some .string) (hi : (P.info? e).map (fun i => (i.zero, i.size, i.bytes)) = some (some (.int .u8 0), 1, 1))
    (base : Nat) (v : Value) (n : Nat) (xs : List UInt8) (hs : a.eval s = v) (hown : w.ownsRow base e 1 v n (toV xs))
    (y : ByteArray) (hx : a.eval x = .string y) (hz : n + y.size ≤ 140737488355328) (hbase : base ≤ w.heap.size)
    (hK : ∀ v' w', w'.ownsRow base e 1 v' (n + y.size) (toV (xs ++ y.data.toList)) → w.grownBy w' v.ownBlock → wpList P ops Q rest (a.put o.dst v') w') :
    wpList P ops Q (o :: rest) a w := by
  obtain ⟨i, hi0, hi1⟩ := Option.map_eq_some_iff.1 hi
  simp only [Prod.mk.injEq] at hi1
  refine Lib.wpList_append_own_string w hg s x t u hop base e i ht hu hi0 hi1.1 hi1.2.1 hi1.2.2 v n (toV xs) hs hown y hx (by unfold maxLen; omega) hz hbase ?_
  intro v' w' h1 h2 _
  rw [toV_str] at h1
  exact hK v' w' h1 h2

theorem zeroCells_one (k : Nat) : Builtin.zeroCells (Value.int .u8 0).cells k = (zrow k).toArray := by
  apply Array.ext'
  have e : (Value.int IntKind.u8 0).cells = #[.int .u8 0] := rfl
  rw [e]
  unfold Builtin.zeroCells zrow
  simp only [Array.toList_map, Array.toList_range]
  apply List.ext_getElem
  · simp
  · intro i h1 h2
    simp [Nat.mod_one]
theorem toV_zeros (k : Nat) : zrow k = toV (List.replicate k 0) := by simp [zrow, toV]

theorem run_append_own_zeros (base : Nat) (t tn ty e : TypeId) (i : TypeInfo) (kn : IntKind) (ht : P.underlying t = some (.slice e)) (htn : P.underlying tn = some (.int kn)) (hi : P.info? e = some i) (hz : i.zero = some (.int .u8 0)) (hsize : i.size = 1) (hby : i.bytes = 1)
    (v : Value) (n : Nat) (xs : List Value) (hown : w.ownsRow base e 1 v n xs) (k : Nat) (h0 : 0 < k) (hbytes : n + k ≤ 140737488355328) (hbase : base ≤ w.heap.size) :
    ∃ v' w', (Builtin.append_ #[t, tn] ty #[v, .int .i64 (k : Int)]).run P w = .ok v' w' ∧ w'.ownsRow base e 1 v' (n + k) (xs ++ zrow k) ∧ w.grownBy w' v.ownBlock := by
  have h63 : n + k ≤ maxLen := by unfold maxLen; omega
  have hxl : xs.length = n := by simpa using hown.1
  have hlen : (xs ++ zrow k).length = (n + k) * 1 := by rw [List.length_append, hxl, zrow_length, Nat.mul_one]
  have grown : ∀ (old : Nat), ∀ (row : Option Nat),
      (w.drew.alloc (.cells (xs.toArray ++ (zrow k).toArray ++ (zrow (grownCap w (n + k) old e - (n + k))).toArray) e)).ownsRow base e 1
        (.slice (some ⟨w.heap.size, 0, none⟩) (n + k) (grownCap w (n + k) old e)) (n + k) (xs ++ zrow k) ∧
      w.grownBy (w.drew.alloc (.cells (xs.toArray ++ (zrow k).toArray ++ (zrow (grownCap w (n + k) old e - (n + k))).toArray) e)) row := by
    intro old row
    have hge := grownCap_ge w (n + k) old e
    have hcm : grownCap w (n + k) old e ≤ maxLen := grownCap_le_maxLen w (n + k) old e h63
    refine ⟨⟨hlen, .inr ⟨w.heap.size, _, _, rfl, hbase, heap_alloc_new w.drew _, hge, hcm, ?_, ?_⟩⟩, ⟨rfl, rfl, rfl, by simp, fun k hk _ => Below.heap_alloc w.drew _ k hk⟩⟩
    · simp only [Array.size_append, List.size_toArray, zrow_length, hxl]
      omega
    · simp only [Array.toList_append, List.append_assoc]
      rw [← List.append_assoc, ← hlen]
      exact List.take_left
  have hk : k ≠ 0 := by omega
  rcases hown.2 with ⟨rfl, rfl⟩ | ⟨g, cap, cur, rfl, hbg, hg, hnc, hcm, hcs, htake⟩
  · have hx : xs = [] := List.eq_nil_of_length_eq_zero hxl
    subst hx
    have hr := Lib.run_append_nil_zeros (P := P) w t tn ty e i (.int .u8 0) .i64 kn ht htn hi hz k h0 (by omega) (by omega) (by rw [hby]; omega)
    have hgr := grown 0 (Value.ownBlock (.slice none 0 0))
    rw [zeroCells_one, zeroCells_one] at hr
    simp only [Nat.zero_add, List.nil_append, Array.empty_append] at hgr ⊢
    exact ⟨_, _, hr, hgr.1, hgr.2⟩
  · by_cases hroom : n + k ≤ cap
    · have hcs' : cur.size = cap := by simpa using hcs
      have hw : IntKind.i64.wrap (k : Int) = k := by rw [IntKind.wrap_i64]; omega
      have h48i : ¬ (281474976710656 < (k : Int) * (i.bytes : Int)) := by rw [hby]; omega
      have hneg : ¬ ((k : Int) < 0) := by omega
      have hst := run_storeCells_at P g n e (zrow k) 0 cur w hg (by rw [zrow_length]; omega) (by intro u hu; rw [toV_zeros] at hu; exact toV_oneCell _ u hu)
      simp only [Nat.add_zero, zrow_length] at hst
      have hr : (Builtin.append_ #[t, tn] ty #[.slice (some ⟨g, 0, none⟩) n cap, .int .i64 (k : Int)]).run P w =
          .ok (.slice (some ⟨g, 0, none⟩) (n + k) cap) (w.setRow g (cur.toList.take n ++ zrow k ++ cur.toList.drop (n + k)).toArray) := by
        have h48i2 : ¬ (281474976710656 < (k : Int)) := by omega
        simp [Builtin.append_, run_underlying ht, run_underlying htn, sizeOf, typeInfo, zeroValue, hi, hz, asInt, asIntOf, hw, hk, hneg, hby, hsize, h48i2, hroom, zeroCells_one, Addr.add_lit, hst]
      refine ⟨_, _, hr, ⟨hlen, .inr ⟨g, cap, _, rfl, hbg, setRow_heap w g cur _ e _ hg, hroom, hcm, ?_, ?_⟩⟩, ⟨rfl, rfl, rfl, by simp, fun k _ hk => setRow_other w g k _ (fun e => hk (by simp [Value.ownBlock, e]))⟩⟩
      · simp only [List.size_toArray, List.length_append, List.length_take, List.length_drop, Array.length_toList, zrow_length]
        omega
      · have ht' : cur.toList.take n = xs := by simpa using htake
        rw [ht', ← hlen]
        exact List.take_left
    · have holds : ∀ j u, xs[j]? = some u → w.cell? ((⟨g, 0, none⟩ : Addr).add j) = some u := hown.cells (g := g) rfl
      have hfo := run_firstCells_some (P := P) w.drew i.size n ⟨g, 0, none⟩ n cap xs (by rw [hsize, hxl, Nat.mul_one]) (by simpa using holds)
      have hr := Lib.run_append_grow_zeros (P := P) w t tn ty e i (.int .u8 0) .i64 kn ht htn hi hz (some ⟨g, 0, none⟩) n cap xs hfo k h0 (by omega) (by omega) (by omega) (by rw [hby]; omega) (by rw [hby]; exact growslice_fits (by omega) (by omega))
      rw [zeroCells_one, zeroCells_one] at hr
      have hgr := grown cap (Value.ownBlock (.slice (some ⟨g, 0, none⟩) n cap))
      exact ⟨_, _, hr, hgr.1, hgr.2⟩

/-- append(s, make([]byte, k)...). -/
theorem wpList_append_oz (hg : o.guard = none) (s x : Operand) (t tn : TypeId) (hop : o.op = Op.call { callee := Callee.builtin Builtin.append, args := #[s, x], argTypes := #[t, tn] })
    (e : TypeId) (kn : IntKind) (ht : P.underlying t = some (.slice e)) (htn : P.underlying tn = some (.int kn)) (hi : (P.info? e).map (fun i => (i.zero, i.size, i.bytes)) = some (some (.int .u8 0), 1, 1))
    (base : Nat) (v : Value) (n : Nat) (xs : List UInt8) (hs : a.eval s = v) (hown : w.ownsRow base e 1 v n (toV xs))
    (k : Nat) (hx : a.eval x = .int .i64 (k : Int)) (h0 : 0 < k) (hz : n + k ≤ 140737488355328) (hbase : base ≤ w.heap.size)
    (hK : ∀ v' w', w'.ownsRow base e 1 v' (n + k) (toV (xs ++ List.replicate k 0)) → w.grownBy w' v.ownBlock → wpList P ops Q rest (a.put o.dst v') w') :
    wpList P ops Q (o :: rest) a w := by
  obtain ⟨i, hi0, hi1⟩ := Option.map_eq_some_iff.1 hi
  simp only [Prod.mk.injEq] at hi1
  obtain ⟨v', w', hr, h1, h2⟩ := run_append_own_zeros (P := P) w base t tn o.type e i kn ht htn hi0 hi1.1 hi1.2.1 hi1.2.2 v n (toV xs) hown k h0 hz hbase
  rw [toV_zeros, ← toV_append] at h1
  exact Lib.wpList_append_run w hg s x t tn hop v _ hs hx v' w' hr (hK v' w' h1 h2)
end
end Go.Proofs.Ytgobegpmojkhaab

/-
  What the program says of bytes.
-/
namespace Go.Proofs.Ytgobegpmojkhaab
open Go.RowKit

theorem info8 : (Try.prog.info? 5).map (fun i => (i.zero, i.size, i.bytes)) = some (some (.int .u8 0), 1, 1) := by kernel_rfl
theorem info8s : (Try.prog.info? 5).map (·.size) = some 1 := by kernel_rfl
end Go.Proofs.Ytgobegpmojkhaab

/-
  The contracts of pack.Fits, pack.longer, pack.Put.
-/
namespace Go.Proofs.Ytgobegpmojkhaab
open Go.RowKit
set_option linter.unusedVariables false

set_option maxRecDepth 4000 in
set_option maxHeartbeats 400000 in
theorem fits_no1 (k n : Int) (w : World) (h : k < 1) :
    Calls Try.prog 27 #[.int .i64 k, .int .u64 n] w fun e w' => e = .returned (.bool false) ∧ w = w' := by
  have h1 : ¬ (1 : Int) ≤ k := by omega
  go_enter Try.func27, Try.ntmps27
  go_wp2
  go_ret
  exact ⟨rfl, rfl⟩

set_option maxRecDepth 4000 in
set_option maxHeartbeats 400000 in
theorem fits_no2 (k n : Int) (w : World) (h : 8 < k) :
    Calls Try.prog 27 #[.int .i64 k, .int .u64 n] w fun e w' => e = .returned (.bool false) ∧ w = w' := by
  have h1 : (1 : Int) ≤ k := by omega
  have h2 : ¬ k ≤ 8 := by omega
  go_enter Try.func27, Try.ntmps27
  go_wp2
  go_ret
  exact ⟨rfl, rfl⟩

set_option maxRecDepth 4000 in
set_option maxHeartbeats 400000 in
theorem fits_yes (k n : Nat) (w : World) (h1 : 1 ≤ k) (h2 : k ≤ 8) (hn : n < 18446744073709551616) :
    Calls Try.prog 27 #[.int .i64 k, .int .u64 n] w fun e w' => e = .returned (.bool (decide (n < 256 ^ k))) ∧ w = w' := by
  have h3 : (1 : Int) ≤ (k : Int) := by omega
  have h4 : (k : Int) ≤ 8 := by omega
  go_enter Try.func27, Try.ntmps27
  go_wp2
  go_ret
  exact ⟨by rw [← shr_zero n k]; rfl, rfl⟩

theorem fits_true (k n : Nat) (w : World) (h1 : 1 ≤ k) (h2 : k ≤ 8) (hn : n < 256 ^ k) :
    Calls Try.prog 27 #[.int .i64 k, .int .u64 n] w fun e w' => e = .returned (.bool true) ∧ w = w' := by
  have F := fits_yes k n w h1 h2 (Nat.lt_of_lt_of_le hn (pow256_le k h2))
  rwa [decide_eq_true hn] at F

theorem fits_false (k n : Int) (w : World) (h : k < 1 ∨ 8 < k ∨ (256 : Int) ^ k.toNat ≤ n) (h0 : 0 ≤ n) (hn : n < 18446744073709551616) :
    Calls Try.prog 27 #[.int .i64 k, .int .u64 n] w fun e w' => e = .returned (.bool false) ∧ w = w' := by
  by_cases h1 : k < 1
  · exact fits_no1 k n w h1
  by_cases h2 : 8 < k
  · exact fits_no2 k n w h2
  obtain ⟨kn, rfl⟩ := Int.eq_ofNat_of_zero_le (show 0 ≤ k by omega)
  obtain ⟨nn, rfl⟩ := Int.eq_ofNat_of_zero_le h0
  have h3 : (256 : Int) ^ kn ≤ (nn : Int) := by rcases h with h | h | h <;> first | omega | exact h
  have h4 : ((256 ^ kn : Nat) : Int) ≤ (nn : Int) := by simpa using h3
  have F := fits_yes kn nn w (by omega) (by omega) (by omega)
  rwa [decide_eq_false (show ¬ nn < 256 ^ kn by omega)] at F


set_option maxRecDepth 4000 in
set_option maxHeartbeats 400000 in
theorem longer_any (a : Option Addr) (len cap m : Nat) (bs : List UInt8) (w : World) (hB : IsB w a len bs) (hl : len + m ≤ 281474976710656) :
    Calls Try.prog 28 #[.slice a len cap, .int .i64 m] w fun e w' => e = .returned (.slice (some ⟨w.heap.size, 0, none⟩) len (len + m)) ∧
      w'.ownsRow w.heap.size 5 1 (.slice (some ⟨w.heap.size, 0, none⟩) len (len + m)) len (toV bs) ∧ Below w.heap.size w w' := by
  have hmk := run_mk (P := Try.prog) 30 5 Try.underlying30 info8 len m hl
  have hrow : (w.alloc (.cells (zrow (len + m)).toArray 5)).heap[w.heap.size]? = some (.cells (zrow (len + m)).toArray 5 (0, 0)) := heap_alloc_new w _
  go_enter Try.func28, Try.ntmps28
  go_wp2_with (refine wpList_copy_splice rfl (.tmp 13) (.tmp 14) 30 30 rfl 5 Try.underlying30 info8s (some ⟨w.heap.size, 0, none⟩) a len (len + m) len cap rfl rfl w.heap.size 0 (zrow (len + m)) 5 hrow (toV bs) (by rw [toV_length, hB.1]; exact (Nat.min_self _).symm) (hB.hpos _ _) (by rw [toV_length, zrow_length, hB.1]; omega) (toV_one bs) w.heap.size w ((Below.refl _ _).alloc (Nat.le_refl _) _) (Nat.le_refl _) ?_)
  intro w2 HG hb2
  go_wp2
  go_ret
  exact ⟨rfl, owns_spliced hB.1 (Nat.le_refl _) hl HG.out, hb2⟩

set_option maxRecDepth 4000 in
set_option maxHeartbeats 400000 in
theorem put_ok (a : Option Addr) (len cap k n : Nat) (bs : List UInt8) (w : World) (hB : IsB w a len bs) (hl : len + 8 ≤ 281474976710656) (h1 : 1 ≤ k) (h2 : k ≤ 8) (hn : n < 256 ^ k) :
    Calls Try.prog 14 #[.slice a len cap, .int .i64 k, .int .u64 n] w fun e w' => e = .returned (.tuple #[.slice (some ⟨w.heap.size, 0, none⟩) (len + k) (len + k), .int .i64 0]) ∧
      w'.ownsRow w.heap.size 5 1 (.slice (some ⟨w.heap.size, 0, none⟩) (len + k) (len + k)) (len + k) (toV (bs ++ beB k n)) ∧ Below w.heap.size w w' := by
  have hn2 : n < 18446744073709551616 := Nat.lt_of_lt_of_le hn (pow256_le k h2)
  obtain ⟨i0, hi, hz0, hz1, hz2⟩ := info_parts info8
  go_enter Try.func14, Try.ntmps14
  go_wp2_with fail
  refine (fits_true k n _ h1 h2 hn).mono ?_
  rintro e w1 ⟨rfl, rfl⟩
  go_wp2_with fail
  refine (longer_any a len cap k bs _ hB (by omega)).mono ?_
  rintro e w1 ⟨rfl, hown, hbel⟩
  go_wp2
  go_loopw [8, 18] (fun v i wr => ∃ j : Nat, j ≤ k ∧ i = .int .i64 j ∧ v = .slice (some ⟨w.heap.size, 0, none⟩) (len + j) (len + k) ∧ wr.ownsRow w.heap.size 5 1 (.slice (some ⟨w.heap.size, 0, none⟩) (len + j) (len + k)) (len + j) (toV (bs ++ (beB k n).take j)) ∧ Below w.heap.size w wr) (fun _ i _ => k - (intOf i).toNat)
  case atStart => exact ⟨0, Nat.zero_le _, rfl, rfl, by simpa using hown, hbel⟩
  case round =>
    obtain ⟨j, hj, rfl, rfl, hownr, hbr⟩ := hrel
    clear hown hbel
    by_cases hlt : j < k
    · go_wp2_with (at_builtin; refine wpList_append_fits _ rfl (.tmp 21) (.tmp 30) 30 rfl w.heap.size 5 i0 1 Try.underlying30 hi hz1 w.heap.size (len + j) (len + k) _ rfl (hownr.alloc _) ⟨wr.heap.size, 0, none⟩ 1 1 [.int .u8 ((n : Int) / 2 ^ (8 * (k - 1 - j)) % 256)] rfl rfl (cell_one_new _ _ _) (by simp [Value.oneCell']) (by omega) ?_)
      intro w2 hown2 hgr
      rw [byte_at] at hown2
      have hown3 := put_row hown2 (beB_take k n j hlt)
      have hb3 : Below w.heap.size w w2 := (hbr.alloc hbr.size _).grown hgr (by simp; have := hbr.size; omega) (by simp)
      clear hown2 hgr hownr
      go_wp2
      go_roundw
      case rel => exact ⟨j + 1, by omega, by go_num, by simp [Nat.add_assoc], hown3, hb3⟩
      case measure => simp [intOf]; omega
    · go_wp2
      go_ret2
      obtain rfl : j = k := by omega
      exact ⟨rfl, by simpa [List.take_of_length_le, beB_length] using hownr, hbr⟩

set_option maxRecDepth 4000 in
set_option maxHeartbeats 400000 in
theorem put_no (a : Option Addr) (len cap : Nat) (k n : Int) (w : World) (h : k < 1 ∨ 8 < k ∨ (256 : Int) ^ k.toNat ≤ n) (h0 : 0 ≤ n) (hn : n < 18446744073709551616) :
    Calls Try.prog 14 #[.slice a len cap, .int .i64 k, .int .u64 n] w fun e w' => e = .returned (.tuple #[.slice none 0 0, .int .i64 1]) ∧ w = w' := by
  have H : Hid (k < 1 ∨ 8 < k ∨ (256 : Int) ^ k.toNat ≤ n) := h
  clear h
  go_enter Try.func14, Try.ntmps14
  go_wp2_with fail
  refine (fits_false k n _ H.out h0 hn).mono ?_
  rintro e w1 ⟨rfl, rfl⟩
  go_wp2
  go_ret2
  exact ⟨rfl, rfl⟩
end Go.Proofs.Ytgobegpmojkhaab

/-
  The contract of pack.PutText.
-/
namespace Go.Proofs.Ytgobegpmojkhaab
open Go.RowKit
set_option linter.unusedVariables false

set_option maxRecDepth 4000 in
set_option maxHeartbeats 400000 in
theorem puttext_no (a : Option Addr) (len cap : Nat) (s : ByteArray) (w : World) (h : 255 < (s.size : Int)) :
    Calls Try.prog 53 #[.slice a len cap, .string s] w fun e w' => e = .returned (.tuple #[.slice none 0 0, .int .i64 1]) ∧ w = w' := by
  go_enter Try.func53, Try.ntmps53
  go_wp2
  go_ret2
  exact ⟨rfl, rfl⟩

theorem text_row {w : World} {base g len cap : Nat} {e : TypeId} {bs : List UInt8} {s : ByteArray} (h : s.size ≤ 255)
    (hw : w.ownsRow base e 1 (.slice (some ⟨g, 0, none⟩) (len + 1 + s.size) cap) (len + 1 + s.size) (toV bs ++ Value.int .u8 (s.size : Int) :: Lib.strCells s)) :
    w.ownsRow base e 1 (.slice (some ⟨g, 0, none⟩) (len + (1 + s.size)) cap) (len + (1 + s.size)) (toV (bs ++ textB s.data.toList)) := by
  have e1 : toV (bs ++ textB s.data.toList) = toV bs ++ Value.int .u8 (s.size : Int) :: Lib.strCells s := by
    have e2 : ((UInt8.ofNat s.data.toList.length).toNat : Int) = (s.size : Int) := by
      rw [toNat_ofNat]
      simp
      omega
    simp only [toV, textB, List.map_append, List.map_cons, e2, Lib.strCells]
  rw [e1, ← Nat.add_assoc]
  exact hw

set_option maxRecDepth 4000 in
set_option maxHeartbeats 400000 in
theorem puttext_ok (a : Option Addr) (len cap : Nat) (bs : List UInt8) (s : ByteArray) (w : World) (hB : IsB w a len bs) (hl : len + 256 ≤ 281474976710656) (h : s.size ≤ 255) :
    Calls Try.prog 53 #[.slice a len cap, .string s] w fun e w' => e = .returned (.tuple #[.slice (some ⟨w.heap.size, 0, none⟩) (len + (1 + s.size)) (len + (1 + s.size)), .int .i64 0]) ∧
      w'.ownsRow w.heap.size 5 1 (.slice (some ⟨w.heap.size, 0, none⟩) (len + (1 + s.size)) (len + (1 + s.size))) (len + (1 + s.size)) (toV (bs ++ textB s.data.toList)) ∧ Below w.heap.size w w' := by
  obtain ⟨i0, hi, hz0, hz1, hz2⟩ := info_parts info8
  have h1 : ¬ 255 < (s.size : Int) := by omega
  go_enter Try.func53, Try.ntmps53
  go_wp2_with fail
  rw [show (1 : Int) + (s.size : Int) = ((1 + s.size : Nat) : Int) from by omega]
  refine (longer_any a len cap (1 + s.size) bs _ hB (by omega)).mono ?_
  rintro e w1 ⟨rfl, hown, hbel⟩
  go_wp2_with (at_builtin; refine wpList_append_fits _ rfl (.tmp 15) (.tmp 19) 30 rfl w.heap.size 5 i0 1 Try.underlying30 hi hz1 w.heap.size len (len + (1 + s.size)) _ rfl (hown.alloc _) ⟨w1.heap.size, 0, none⟩ 1 1 [.int .u8 (s.size : Int)] rfl rfl (cell_one_new _ _ _) (by simp [Value.oneCell']) (by omega) ?_)
  intro w2 hown2 hgr
  have hb2 : Below w.heap.size w w2 := (hbel.alloc hbel.size _).grown hgr (by simp; have := hbel.size; omega) (by simp)
  clear hgr hown
  go_wp2_with (at_builtin; refine Lib.wpList_append_fits_string _ rfl (.tmp 21) (.tmp 22) 30 9 rfl w.heap.size 5 i0 Try.underlying30 Try.underlying9 hi hz1 (some ⟨w.heap.size, 0, none⟩) (len + 1) (len + (1 + s.size)) _ rfl hown2 s rfl (by omega) (by omega) ?_)
  intro w3 hown3 hgr3
  have hb3 : Below w.heap.size w w3 := hb2.grown hgr3 hb2.size (by simp [Value.ownBlock])
  have hown4 := text_row (bs := bs) (s := s) h hown3
  clear hgr3 hown2 hown3
  go_wp2
  go_ret2
  exact ⟨by simp [Nat.add_assoc], hown4, hb3⟩
end Go.Proofs.Ytgobegpmojkhaab

/-
  The writer of package record: a block that holds a row of bytes; number and text.
-/
namespace Go.Proofs.Ytgobegpmojkhaab
open Go.RowKit
set_option linter.unusedVariables false

/-- A writer in memory, and the bytes that it holds. -/
def Wr (w : World) (g : Nat) (bs : List UInt8) : Prop := ∃ v, RowAt w g 62 #[v] ∧ w.ownsRow (g + 1) 5 1 v bs.length (toV bs)
/-- What a writer's step leaves: all ahead of it, and every struct beside it. -/
structure Mv (g : Nat) (w w' : World) : Prop where
  below : Below g w w'
  rows : ∀ k t cs, k ≠ g → t ≠ 5 → RowAt w k t cs → RowAt w' k t cs
theorem Mv.refl (g : Nat) (w : World) : Mv g w w := ⟨Below.refl _ _, fun _ _ _ _ _ h => h⟩
theorem Mv.trans {g : Nat} {w x y : World} (h : Mv g w x) (k : Mv g x y) : Mv g w y := ⟨h.below.trans k.below, fun a t cs h1 h2 h3 => k.rows a t cs h1 h2 (h.rows a t cs h1 h2 h3)⟩
theorem Mv.later {g : Nat} {w x : World} (hg : g ≤ w.heap.size) (h : Below w.heap.size w x) : Mv g w x := ⟨h.mono hg, fun k t cs _ _ hr => hr.later h⟩
theorem Wr.lt {w : World} {g : Nat} {bs : List UInt8} (h : Wr w g bs) : g < w.heap.size := by
  obtain ⟨v, hr, _⟩ := h
  exact hr.lt
theorem Wr.later {w x : World} {g : Nat} {bs : List UInt8} (h : Wr w g bs) (hb : Below w.heap.size w x) : Wr x g bs := by
  obtain ⟨v, hr, ho⟩ := h
  exact ⟨v, hr.later hb, ownsRow_below ho hb⟩
/-- The writer, and structs beside it. -/
def WK (g : Nat) (w x : World) (bs : List UInt8) (l : List (Nat × TypeId × Array Value)) : Prop := Wr x g bs ∧ Mv g w x ∧ Has x l
def Aside (g : Nat) (l : List (Nat × TypeId × Array Value)) : Prop := ∀ e ∈ l, e.1 ≠ g ∧ e.2.1 ≠ 5
theorem Has.moved {g : Nat} {x y : World} (h : Mv g x y) : ∀ {l : List (Nat × TypeId × Array Value)}, Aside g l → Has x l → Has y l
  | [], _, _ => trivial
  | e :: l, ha, hh => ⟨h.rows _ _ _ (ha e (by simp)).1 (ha e (by simp)).2 hh.1, Has.moved h (fun e he => ha e (by simp [he])) hh.2⟩
theorem WK.step {g : Nat} {w x y : World} {bs cs : List UInt8} {l : List (Nat × TypeId × Array Value)} (h : WK g w x bs l) (hw : Wr y g cs) (hm : Mv g x y) (ha : Aside g l) : WK g w y cs l := ⟨hw, h.2.1.trans hm, h.2.2.moved hm ha⟩

theorem wr_put {w1 w2 : World} {g n k : Nat} {v v' : Value} {bs cs : List UInt8} (hr : RowAt w1 g 62 #[v]) (hown : w1.ownsRow (g + 1) 5 1 v n (toV bs)) (hn : n = bs.length) (hk : k = cs.length)
    (ho : w2.ownsRow (g + 1) 5 1 v' (n + k) (toV (bs ++ cs))) (hg : w1.grownBy w2 v.ownBlock) :
    RowAt w2 g 62 #[v] ∧ Wr (w2.setCell ⟨g, 0, none⟩ v') g (bs ++ cs) ∧ Mv g w1 (w2.setCell ⟨g, 0, none⟩ v') := by
  have hne : ∀ j, j ≤ g → some j ≠ v.ownBlock := fun j hj e => by
    have := (hown.lt j e.symm).1
    omega
  have hr2 : RowAt w2 g 62 #[v] := (hg.block g hr.lt (hne g (Nat.le_refl _))).trans hr
  have hb : Below g w1 w2 := ⟨hg.os, hg.tape, hg.output, hg.size, fun j hj => hg.block j (by have := hr.lt; omega) (hne j (by omega))⟩
  refine ⟨hr2, ⟨v', hr2.set 0 v', ?_⟩, ⟨hb.setCell (Nat.le_refl _) _, fun j t cs' hj ht hrow => ?_⟩⟩
  · have := ownsRow_setCell_below ho (a := ⟨g, 0, none⟩) (by show g < g + 1; omega) v'
    rwa [show n + k = (bs ++ cs).length by rw [List.length_append]; omega] at this
  · refine RowAt.other ((hg.block j hrow.lt ?_).trans hrow) _ _ hj
    intro e
    obtain ⟨-, h2⟩ := hown
    rcases h2 with ⟨h2, _⟩ | ⟨g', cap, cur, h2, -, h4, -⟩
    · subst h2
      cases e
    · subst h2
      simp only [Value.ownBlock, Option.some.injEq] at e
      subst e
      have h5 := hrow.symm.trans h4
      simp only [Option.some.injEq, Obj.cells.injEq] at h5
      exact ht h5.2.1

theorem own_shape {w : World} {base n : Nat} {e : TypeId} {v : Value} {xs : List Value} (h : w.ownsRow base e 1 v n xs) : ∃ a c, v = .slice a n c := by
  rcases h.2 with ⟨h1, h2⟩ | ⟨g', cap, cur, h2, _⟩
  · exact ⟨none, 0, by rw [h1, h2]⟩
  · exact ⟨_, _, h2⟩
theorem textB_len (s : ByteArray) : (textB s.data.toList).length = 1 + s.size := by
  unfold textB
  rw [List.length_cons, data_length]
  omega
theorem isB_nil (w : World) : IsB w none 0 [] := ⟨rfl, fun h => absurd h (by omega)⟩

/-- A load, by its value. -/
theorem wpList_load_val {P : Program} {ops : Array Oper} {rest : List Oper} {o : Oper} {a : Act} {w : World} {Q : Exit → Act → World → Prop} (hw : Region.wanted o (yielded ops a.tmps) = true) (t : TypeId) (x : Operand) (ho : o.op = .load t x) (u v : Value) (hu : a.eval x = u) (hv : (Instr.loadAt t u).run P w = .ok v w)
    (h : wpList P ops Q rest (a.put o.dst v) w) : wpList P ops Q (o :: rest) a w :=
  wpList_val hw v (by unfold execOp; simp only [ho, hu, Sem.run_bind, hv, Result.andThen_ok, Sem.run_pure]) h
theorem load_b8 {b j : Nat} (x : World) (v : Value) (a : Option Addr) (n c : Nat) (hv : v = .slice a n c) (h : x.cell? ⟨b, j, none⟩ = some v) : (Instr.loadAt 30 (.pointer (some ⟨b, j, none⟩))).run Try.prog x = .ok v x := by
  subst hv
  go_simp

set_option maxRecDepth 4000 in
set_option maxHeartbeats 1600000 in
theorem wnum_any (g k n : Nat) (bs : List UInt8) (w : World) (h : Wr w g bs) (hk : 1 ≤ k ∧ k ≤ 8) (hn : n < 256 ^ k) (hl : bs.length ≤ 1000000) :
    Calls Try.prog 23 #[.pointer (some ⟨g, 0, none⟩), .int .i64 (k : Int), .int .u64 (n : Int)] w fun e w' => e = .returned (.tuple #[]) ∧ Wr w' g (bs ++ beB k n) ∧ Mv g w w' := by
  obtain ⟨v, hr, ho⟩ := h
  obtain ⟨a, c, hv⟩ := own_shape ho
  have HP := hide (put_ok none 0 0 k n [] w (isB_nil w) (by omega) hk.1 hk.2 hn)
  simp only [Nat.zero_add, List.nil_append] at HP
  have HV := hide hv
  have HR := hide hr
  have HO := hide ho
  have HLT := hide hr.lt
  have HKK := hide hk
  have HL := hide hl
  clear hr ho hk hl hv
  go_enter Try.func23, Try.ntmps23
  go_wp2_with fail
  refine HP.out.mono ?_
  rintro e w1 ⟨rfl, hrow, hb⟩
  have HR1 := hide (HR.out.later hb)
  have HO1 := hide (ownsRow_below HO.out hb)
  have HM1 := hide (Mv.later (Nat.le_of_lt HR.out.lt) hb)
  have HB1 := hide (hrow.isB (beB_length k n))
  have HS := hide hb.size
  clear hb hrow HP HR HO
  obtain ⟨m, hm⟩ : ∃ m, m = bs.length := ⟨_, rfl⟩
  rw [← hm] at HO1 HL HV
  have HM := hide hm
  clear hm
  generalize w.heap.size = b at *
  go_wp2_with (first | (refine wpList_load_val rfl 30 (.tmp 17) rfl _ v rfl (load_b8 w1 v a m c HV.out (HR1.out.cell 0 v rfl)) ?_) | (at_builtin; refine wpList_append_ob _ rfl (.tmp 18) (.tmp 19) 30 rfl 5 Try.underlying30 info8 (g + 1) v m bs rfl HO1.out (some ⟨b, 0, none⟩) (k) (k) (beB k n) rfl HB1.out (fun h => nomatch h) (by have := HL.out; have := HKK.out.2; omega) (by have := HR1.out.lt; omega) ?_))
  intro v' w2 ho2 hg2
  obtain ⟨hr2, hw2, hm2⟩ := wr_put HR1.out HO1.out HM.out (beB_length k n).symm ho2 hg2
  obtain ⟨a2, c2, rfl⟩ := own_shape ho2
  have HW := hide hw2
  have HMV := hide (HM1.out.trans hm2)
  have f0 := hr2.free 0
  have d2 := hr2.cell 0 _ rfl
  clear ho2 hg2 hr2 hw2 hm2 HR1 HO1 HM1 HB1
  go_wp2
  go_end0
  exact ⟨rfl, HW.out, HMV.out⟩

set_option maxRecDepth 4000 in
set_option maxHeartbeats 1600000 in
theorem wtext_any (g : Nat) (s : ByteArray) (bs : List UInt8) (w : World) (h : Wr w g bs) (hk : s.size ≤ 255) (hl : bs.length ≤ 1000000) :
    Calls Try.prog 41 #[.pointer (some ⟨g, 0, none⟩), .string s] w fun e w' => e = .returned (.tuple #[]) ∧ Wr w' g (bs ++ textB s.data.toList) ∧ Mv g w w' := by
  obtain ⟨v, hr, ho⟩ := h
  obtain ⟨a, c, hv⟩ := own_shape ho
  have HP := hide (puttext_ok none 0 0 [] s w (isB_nil w) (by omega) hk)
  simp only [Nat.zero_add, List.nil_append] at HP
  have HV := hide hv
  have HR := hide hr
  have HO := hide ho
  have HLT := hide hr.lt
  have HKK := hide hk
  have HL := hide hl
  clear hr ho hk hl hv
  go_enter Try.func41, Try.ntmps41
  go_wp2_with fail
  refine HP.out.mono ?_
  rintro e w1 ⟨rfl, hrow, hb⟩
  have HR1 := hide (HR.out.later hb)
  have HO1 := hide (ownsRow_below HO.out hb)
  have HM1 := hide (Mv.later (Nat.le_of_lt HR.out.lt) hb)
  have HB1 := hide (hrow.isB (textB_len s))
  have HS := hide hb.size
  clear hb hrow HP HR HO
  obtain ⟨m, hm⟩ : ∃ m, m = bs.length := ⟨_, rfl⟩
  rw [← hm] at HO1 HL HV
  have HM := hide hm
  clear hm
  generalize w.heap.size = b at *
  go_wp2_with (first | (refine wpList_load_val rfl 30 (.tmp 14) rfl _ v rfl (load_b8 w1 v a m c HV.out (HR1.out.cell 0 v rfl)) ?_) | (at_builtin; refine wpList_append_ob _ rfl (.tmp 15) (.tmp 16) 30 rfl 5 Try.underlying30 info8 (g + 1) v m bs rfl HO1.out (some ⟨b, 0, none⟩) (1 + s.size) (1 + s.size) (textB s.data.toList) rfl HB1.out (fun h => nomatch h) (by have := HL.out; have := HKK.out; omega) (by have := HR1.out.lt; omega) ?_))
  intro v' w2 ho2 hg2
  obtain ⟨hr2, hw2, hm2⟩ := wr_put HR1.out HO1.out HM.out (textB_len s).symm ho2 hg2
  obtain ⟨a2, c2, rfl⟩ := own_shape ho2
  have HW := hide hw2
  have HMV := hide (HM1.out.trans hm2)
  have f0 := hr2.free 0
  have d2 := hr2.cell 0 _ rfl
  clear ho2 hg2 hr2 hw2 hm2 HR1 HO1 HM1 HB1
  go_wp2
  go_end0
  exact ⟨rfl, HW.out, HMV.out⟩

end Go.Proofs.Ytgobegpmojkhaab

/-
  The writer of package record: change, txns, dirty.
-/
namespace Go.Proofs.Ytgobegpmojkhaab
open Go.RowKit
set_option linter.unusedVariables false

theorem conv_nat (i : Int) (h0 : 0 ≤ i) (h1 : i < 18446744073709551616) : IntKind.u64.wrap i = (i.toNat : Int) := by
  rw [IntKind.wrap_u64]
  omega

theorem ch_bounds {c : Ch} (h : c.right) : 0 ≤ c.k ∧ c.k ≤ 255 ∧ 0 ≤ c.pg ∧ c.pg ≤ 31 ∧ (0 ≤ c.sl ∧ c.sl ≤ 7) ∧ c.o.size ≤ 20 ∧ c.n.size ≤ 20 := by
  obtain ⟨⟨h1, h2, h3, h4, h5, h6⟩, h7⟩ := h
  have hk : 1 ≤ c.k ∧ c.k ≤ 3 := by
    unfold Ch.kindOk at h7
    omega
  exact ⟨by omega, by omega, by omega, by omega, by omega, by omega, by omega⟩
/-- Rows whose numbers fit their widths. -/
def txFit (x : Tx) : Prop := 0 ≤ x.t ∧ x.t ≤ 1048575 ∧ 0 ≤ x.s ∧ x.s ≤ 3 ∧ x.f < 18446744073709551616 ∧ x.l < 18446744073709551616 ∧ x.n < 18446744073709551616
def diFit (d : Di) : Prop := 0 ≤ d.p ∧ d.p ≤ 31 ∧ d.r < 18446744073709551616
theorem txsB_len (ts : List Tx) : (txsB ts).length = 29 * ts.length := by
  induction ts with
  | nil => rfl
  | cons x ts ih =>
    have e : (txB x).length = 29 := by simp only [txB, List.length_append, beB_length]
    rw [txsB, List.flatMap_cons, List.length_append, e, List.length_cons]
    rw [txsB] at ih
    omega
theorem disB_len (ts : List Di) : (disB ts).length = 10 * ts.length := by
  induction ts with
  | nil => rfl
  | cons x ts ih =>
    have e : (diB x).length = 10 := by simp only [diB, List.length_append, beB_length]
    rw [disB, List.flatMap_cons, List.length_append, e, List.length_cons]
    rw [disB] at ih
    omega
theorem take_more {α : Type} (xs : List α) (j : Nat) (z : α) (h : j < xs.length) : xs.take (j + 1) = xs.take j ++ [xs.getD j z] := by
  rw [List.take_add_one, List.getElem?_eq_getElem h, List.getD_eq_getElem?_getD, List.getElem?_eq_getElem h]
  rfl
theorem txsB_more (xs : List Tx) (j : Nat) (h : j < xs.length) : txsB (xs.take (j + 1)) = txsB (xs.take j) ++ txB (xs.getD j Tx.zero) := by
  rw [take_more xs j Tx.zero h, txsB, List.flatMap_append]
  simp [txsB]
theorem disB_more (xs : List Di) (j : Nat) (h : j < xs.length) : disB (xs.take (j + 1)) = disB (xs.take j) ++ diB (xs.getD j Di.zero) := by
  rw [take_more xs j Di.zero h, disB, List.flatMap_append]
  simp [disB]

set_option maxRecDepth 4000 in
set_option maxHeartbeats 1600000 in
theorem wchange_any (g : Nat) (c : Ch) (bs : List UInt8) (w : World) (h : Wr w g bs) (hc : c.right) (hl : bs.length ≤ 100000) :
    Calls Try.prog 24 #[.pointer (some ⟨g, 0, none⟩), .agg (chA c)] w fun e w' => e = .returned (.tuple #[]) ∧ Wr w' g (bs ++ chB c) ∧ Mv g w w' := by
  obtain ⟨r1, r2, r3, r4, r5, r6, r7⟩ := ch_bounds hc
  have e1 := conv_nat c.k (by omega) (by omega)
  have e2 := conv_nat c.pg (by omega) (by omega)
  have e3 := conv_nat c.sl (by omega) (by omega)
  have HG := hide h.lt
  have hA : Hid (Aside g [(w.heap.size, 24, chA c)]) := fun e he => by
    simp only [List.mem_cons, List.not_mem_nil, or_false] at he
    subst he
    exact ⟨by show w.heap.size ≠ g; have := HG.out; omega, by show (24 : TypeId) ≠ 5; decide⟩
  have hb0 := (Below.refl w.heap.size w).alloc (Nat.le_refl _) (.cells (chA c) 24)
  have HK : Hid (WK g w (w.alloc (.cells (chA c) 24)) bs [(w.heap.size, 24, chA c)]) := ⟨h.later hb0, Mv.later (Nat.le_of_lt HG.out) hb0, RowAt.new _ _ _, trivial⟩
  clear hb0 h
  have W1 := hide (fun bs w h hl => wnum_any g 1 c.k.toNat bs w h (by omega) (by omega) hl)
  have W2 := hide (fun bs w h hl => wnum_any g 2 c.pg.toNat bs w h (by omega) (by omega) hl)
  have W3 := hide (fun bs w h hl => wnum_any g 1 c.sl.toNat bs w h (by omega) (by omega) hl)
  have W4 := hide (fun bs w h hl => wtext_any g c.o bs w h (by omega) hl)
  have W5 := hide (fun bs w h hl => wtext_any g c.n bs w h (by omega) hl)
  rw [← e1] at W1
  rw [← e2] at W2
  rw [← e3] at W3
  have HL := hide hl
  have HSZ : Hid (c.o.size ≤ 255 ∧ c.n.size ≤ 255) := ⟨by omega, by omega⟩
  clear r1 r2 r3 r4 r5 r6 r7 e1 e2 e3 hc hl
  have d0 := HK.out.2.2.1.cell 0 (.int .i64 c.k) rfl
  go_enter Try.func24, Try.ntmps24
  go_wp2_with fail
  refine (W1.out bs _ HK.out.1 (by have := HL.out; omega)).mono ?_
  rintro e w1 ⟨rfl, hw, hm⟩
  have HK1 := hide (HK.out.step hw hm hA.out)
  clear hw hm d0 HK W1
  have d1 := HK1.out.2.2.1.cell 1 (.int .i64 c.pg) rfl
  go_wp2_with fail
  refine (W2.out (bs ++ beB 1 c.k.toNat) _ HK1.out.1 (by have := HL.out; have := HSZ.out; simp only [List.length_append, beB_length]; omega)).mono ?_
  rintro e w2 ⟨rfl, hw, hm⟩
  have HK2 := hide (HK1.out.step hw hm hA.out)
  clear hw hm d1 HK1 W2
  have d2 := HK2.out.2.2.1.cell 2 (.int .i64 c.sl) rfl
  go_wp2_with fail
  refine (W3.out ((bs ++ beB 1 c.k.toNat) ++ beB 2 c.pg.toNat) _ HK2.out.1 (by have := HL.out; have := HSZ.out; simp only [List.length_append, beB_length]; omega)).mono ?_
  rintro e w3 ⟨rfl, hw, hm⟩
  have HK3 := hide (HK2.out.step hw hm hA.out)
  clear hw hm d2 HK2 W3
  have d3 := HK3.out.2.2.1.cell 3 (.string c.o) rfl
  go_wp2_with fail
  refine (W4.out (((bs ++ beB 1 c.k.toNat) ++ beB 2 c.pg.toNat) ++ beB 1 c.sl.toNat) _ HK3.out.1 (by have := HL.out; have := HSZ.out; simp only [List.length_append, beB_length]; omega)).mono ?_
  rintro e w4 ⟨rfl, hw, hm⟩
  have HK4 := hide (HK3.out.step hw hm hA.out)
  clear hw hm d3 HK3 W4
  have d4 := HK4.out.2.2.1.cell 4 (.string c.n) rfl
  go_wp2_with fail
  refine (W5.out ((((bs ++ beB 1 c.k.toNat) ++ beB 2 c.pg.toNat) ++ beB 1 c.sl.toNat) ++ textB c.o.data.toList) _ HK4.out.1 (by have := HL.out; have := HSZ.out; simp only [List.length_append, beB_length, textB_len]; omega)).mono ?_
  rintro e w5 ⟨rfl, hw, hm⟩
  have HK5 := hide (HK4.out.step hw hm hA.out)
  clear hw hm d4 HK4 W5
  go_wp2
  go_end0
  refine ⟨rfl, ?_, HK5.out.2.1⟩
  have h := HK5.out.1
  simp only [List.append_assoc] at h
  exact h
end Go.Proofs.Ytgobegpmojkhaab

/-
  The writer of package record: txns.
-/
namespace Go.Proofs.Ytgobegpmojkhaab
open Go.RowKit
set_option linter.unusedVariables false

set_option maxRecDepth 4000 in
set_option maxHeartbeats 3200000 in
theorem wtxns_any (g : Nat) (va : Value) (xs : List Tx) (bs : List UInt8) (w0 w : World) (h : Wr w g bs) (hg : w0.heap.size ≤ g) (hb : Below w0.heap.size w0 w) (hin : TxIn w0 va xs) (hx : ∀ i, i < xs.length → txFit (xs.getD i Tx.zero)) (hn : xs.length ≤ 16) (hl : bs.length ≤ 10000) :
    Calls Try.prog 25 #[.pointer (some ⟨g, 0, none⟩), va] w fun e w' => e = .returned (.tuple #[]) ∧ Wr w' g (bs ++ (beB 1 xs.length ++ txsB xs)) ∧ Mv g w w' := by
  have HIN := hide (hin.below hb)
  have HFX := hide hx
  have HBL : Hid (∀ b, b < w0.heap.size → b < g) := fun b h => Nat.lt_of_lt_of_le h hg
  obtain ⟨a, cap, rfl, hrow⟩ := hin
  have HRW := hide hrow
  have HW0 := hide hb
  have e1 := conv_nat (xs.length : Int) (by omega) (by omega)
  rw [Int.toNat_natCast] at e1
  have W0 := hide (wnum_any g 1 xs.length bs w h (by omega) (by omega) (by omega))
  have HL := hide hl
  have HN := hide hn
  have HWR := hide h
  clear hx hrow hb hg hl h
  go_enter Try.func25, Try.ntmps25
  go_wp2_with fail
  refine W0.out.mono ?_
  rintro e w1 ⟨rfl, hw, hm⟩
  have HK1 : Hid (WK g w w1 (bs ++ beB 1 xs.length) []) := ⟨hw, hm, trivial⟩
  clear hw hm W0 e1
  go_wp2
  go_loopw [13] (fun v wr => ∃ j : Nat, j ≤ xs.length ∧ v = .int .i64 j ∧ WK g w wr (bs ++ (beB 1 xs.length ++ txsB (xs.take j))) []) (fun v _ => xs.length - (intOf v).toNat)
  case atStart => exact ⟨0, Nat.zero_le _, rfl, by have h := HK1.out; simpa [txsB] using h⟩
  case round =>
    obtain ⟨j, hj, rfl, hk⟩ := hrel
    have HK := hide hk
    clear hk HK1
    by_cases hlt : j < xs.length
    · have jlt : (j : Int) < (xs.length : Int) := by omega
      obtain ⟨b, off, rfl, hb, hcell⟩ := HRW.out (by omega)
      have HRG := hide (rangeAt_below (hcell j hlt) (HW0.out.trans (HK.out.2.1.below.mono (Nat.le_of_lt_succ (Nat.lt_succ_of_le (Nat.le_of_not_lt (fun hc => by have := HBL.out; have h1 := this g hc; omega)))))) hb)
      clear hcell hb
      obtain ⟨x, hx⟩ : ∃ x, x = xs.getD j Tx.zero := ⟨_, rfl⟩
      have HX := hide hx
      have HF := hide (HFX.out j hlt)
      rw [← hx] at HRG HF
      clear hx
      go_wp2_with (first | (refine wpList_load_mid rfl 55 (.tmp 15) rfl b (off + j * 5) (txA x) rfl HRG.out _ Try.underlying55 rfl infoTx ?_) | (refine wpList_store_at rfl 55 (.tmp 5) (.tmp 16) rfl wr.heap.size (txA Tx.zero) (txA x) rfl rfl (RowAt.new wr 55 (txA Tx.zero)) infoTx rfl (txA_one _) ?_))
      intro w2 hr2 hk2 _
      have hb2 := hk2 _ _ ((Below.refl wr.heap.size wr).alloc (Nat.le_refl _) _) (Nat.le_refl _)
      have HK2 : Hid (WK g w w2 (bs ++ (beB 1 xs.length ++ txsB (xs.take j))) [(wr.heap.size, 55, txA x)]) := ⟨HK.out.1.later hb2, HK.out.2.1.trans (Mv.later (Nat.le_of_lt HK.out.1.lt) hb2), hr2, trivial⟩
      have hA : Hid (Aside g [(wr.heap.size, 55, txA x)]) := fun e he => by
        simp only [List.mem_cons, List.not_mem_nil, or_false] at he
        subst he
        exact ⟨by show wr.heap.size ≠ g; have := HK.out.1.lt; omega, by show (55 : TypeId) ≠ 5; decide⟩
      clear hr2 hk2 hb2 HK HRG
      generalize wr.heap.size = p at *
      obtain ⟨bs0, hbs0⟩ : ∃ bs0, bs0 = bs ++ (beB 1 xs.length ++ txsB (xs.take j)) := ⟨_, rfl⟩
      have HBS := hide hbs0
      have HB0 : Hid (bs0.length ≤ 20000) := by
        have h1 := txsB_len (xs.take j)
        rw [List.length_take] at h1
        have := HL.out
        have := HN.out
        show bs0.length ≤ 20000
        rw [hbs0]
        simp only [List.length_append, beB_length, h1]
        omega
      rw [← hbs0] at HK2
      clear hbs0
      have e0 := conv_nat x.t (by have := HF.out; unfold txFit at this; omega) (by have := HF.out; unfold txFit at this; omega)
      have W0 := hide (fun bs w h hl => wnum_any g 4 x.t.toNat bs w h (by omega) (by have := HF.out; unfold txFit at this; omega) hl)
      rw [← e0] at W0
      clear e0
      have e1 := conv_nat x.s (by have := HF.out; unfold txFit at this; omega) (by have := HF.out; unfold txFit at this; omega)
      have W1 := hide (fun bs w h hl => wnum_any g 1 x.s.toNat bs w h (by omega) (by have := HF.out; unfold txFit at this; omega) hl)
      rw [← e1] at W1
      clear e1
      have W2 := hide (fun bs w h hl => wnum_any g 8 x.f bs w h (by omega) (by have := HF.out; unfold txFit at this; omega) hl)
      have W3 := hide (fun bs w h hl => wnum_any g 8 x.l bs w h (by omega) (by have := HF.out; unfold txFit at this; omega) hl)
      have W4 := hide (fun bs w h hl => wnum_any g 8 x.n bs w h (by omega) (by have := HF.out; unfold txFit at this; omega) hl)
      have d0 := HK2.out.2.2.1.cell 0 (.int .i64 x.t) rfl
      go_wp2_with fail
      refine (W0.out bs0 _ HK2.out.1 (by have := HB0.out; omega)).mono ?_
      rintro e v0 ⟨rfl, hw, hm⟩
      have HK3 := hide (HK2.out.step hw hm hA.out)
      clear hw hm d0 HK2 W0
      have d1 := HK3.out.2.2.1.cell 1 (.int .i64 x.s) rfl
      go_wp2_with fail
      refine (W1.out (bs0 ++ beB 4 x.t.toNat) _ HK3.out.1 (by have := HB0.out; simp only [List.length_append, beB_length]; omega)).mono ?_
      rintro e v1 ⟨rfl, hw, hm⟩
      have HK4 := hide (HK3.out.step hw hm hA.out)
      clear hw hm d1 HK3 W1
      have d2 := HK4.out.2.2.1.cell 2 (.int .u64 (x.f : Int)) rfl
      go_wp2_with fail
      refine (W2.out ((bs0 ++ beB 4 x.t.toNat) ++ beB 1 x.s.toNat) _ HK4.out.1 (by have := HB0.out; simp only [List.length_append, beB_length]; omega)).mono ?_
      rintro e v2 ⟨rfl, hw, hm⟩
      have HK5 := hide (HK4.out.step hw hm hA.out)
      clear hw hm d2 HK4 W2
      have d3 := HK5.out.2.2.1.cell 3 (.int .u64 (x.l : Int)) rfl
      go_wp2_with fail
      refine (W3.out (((bs0 ++ beB 4 x.t.toNat) ++ beB 1 x.s.toNat) ++ beB 8 x.f) _ HK5.out.1 (by have := HB0.out; simp only [List.length_append, beB_length]; omega)).mono ?_
      rintro e v3 ⟨rfl, hw, hm⟩
      have HK6 := hide (HK5.out.step hw hm hA.out)
      clear hw hm d3 HK5 W3
      have d4 := HK6.out.2.2.1.cell 4 (.int .u64 (x.n : Int)) rfl
      go_wp2_with fail
      refine (W4.out ((((bs0 ++ beB 4 x.t.toNat) ++ beB 1 x.s.toNat) ++ beB 8 x.f) ++ beB 8 x.l) _ HK6.out.1 (by have := HB0.out; simp only [List.length_append, beB_length]; omega)).mono ?_
      rintro e v4 ⟨rfl, hw, hm⟩
      have HK7 := hide (HK6.out.step hw hm hA.out)
      clear hw hm d4 HK6 W4
      go_wp2
      go_roundw
      case rel =>
        refine ⟨j + 1, by omega, by go_num, ?_, HK7.out.2.1, trivial⟩
        have h := HK7.out.1
        rw [HBS.out] at h
        have e3 : txsB (xs.take (j + 1)) = txsB (xs.take j) ++ txB x := by
          rw [HX.out]
          exact txsB_more xs j hlt
        rw [e3]
        simp only [txB, List.append_assoc] at h ⊢
        exact h
      case measure => simp [intOf]; omega
    · obtain rfl : j = xs.length := by omega
      go_wp2
      go_end0
      refine ⟨rfl, ?_, HK.out.2.1⟩
      have h := HK.out.1
      rwa [List.take_length] at h
end Go.Proofs.Ytgobegpmojkhaab

/-
  The writer of package record: dirty.
-/
namespace Go.Proofs.Ytgobegpmojkhaab
open Go.RowKit
set_option linter.unusedVariables false

set_option maxRecDepth 4000 in
set_option maxHeartbeats 3200000 in
theorem wdirty_any (g : Nat) (va : Value) (xs : List Di) (bs : List UInt8) (w0 w : World) (h : Wr w g bs) (hg : w0.heap.size ≤ g) (hb : Below w0.heap.size w0 w) (hin : DiIn w0 va xs) (hx : ∀ i, i < xs.length → diFit (xs.getD i Di.zero)) (hn : xs.length ≤ 32) (hl : bs.length ≤ 10000) :
    Calls Try.prog 26 #[.pointer (some ⟨g, 0, none⟩), va] w fun e w' => e = .returned (.tuple #[]) ∧ Wr w' g (bs ++ (beB 1 xs.length ++ disB xs)) ∧ Mv g w w' := by
  have HIN := hide (hin.below hb)
  have HFX := hide hx
  have HBL : Hid (∀ b, b < w0.heap.size → b < g) := fun b h => Nat.lt_of_lt_of_le h hg
  obtain ⟨a, cap, rfl, hrow⟩ := hin
  have HRW := hide hrow
  have HW0 := hide hb
  have e1 := conv_nat (xs.length : Int) (by omega) (by omega)
  rw [Int.toNat_natCast] at e1
  have W0 := hide (wnum_any g 1 xs.length bs w h (by omega) (by omega) (by omega))
  have HL := hide hl
  have HN := hide hn
  have HWR := hide h
  clear hx hrow hb hg hl h
  go_enter Try.func26, Try.ntmps26
  go_wp2_with fail
  refine W0.out.mono ?_
  rintro e w1 ⟨rfl, hw, hm⟩
  have HK1 : Hid (WK g w w1 (bs ++ beB 1 xs.length) []) := ⟨hw, hm, trivial⟩
  clear hw hm W0 e1
  go_wp2
  go_loopw [13] (fun v wr => ∃ j : Nat, j ≤ xs.length ∧ v = .int .i64 j ∧ WK g w wr (bs ++ (beB 1 xs.length ++ disB (xs.take j))) []) (fun v _ => xs.length - (intOf v).toNat)
  case atStart => exact ⟨0, Nat.zero_le _, rfl, by have h := HK1.out; simpa [disB] using h⟩
  case round =>
    obtain ⟨j, hj, rfl, hk⟩ := hrel
    have HK := hide hk
    clear hk HK1
    by_cases hlt : j < xs.length
    · have jlt : (j : Int) < (xs.length : Int) := by omega
      obtain ⟨b, off, rfl, hb, hcell⟩ := HRW.out (by omega)
      have HRG := hide (rangeAt_below (hcell j hlt) (HW0.out.trans (HK.out.2.1.below.mono (Nat.le_of_lt_succ (Nat.lt_succ_of_le (Nat.le_of_not_lt (fun hc => by have := HBL.out; have h1 := this g hc; omega)))))) hb)
      clear hcell hb
      obtain ⟨x, hx⟩ : ∃ x, x = xs.getD j Di.zero := ⟨_, rfl⟩
      have HX := hide hx
      have HF := hide (HFX.out j hlt)
      rw [← hx] at HRG HF
      clear hx
      go_wp2_with (first | (refine wpList_load_mid rfl 57 (.tmp 15) rfl b (off + j * 2) (diA x) rfl HRG.out _ Try.underlying57 rfl infoDi ?_) | (refine wpList_store_at rfl 57 (.tmp 5) (.tmp 16) rfl wr.heap.size (diA Di.zero) (diA x) rfl rfl (RowAt.new wr 57 (diA Di.zero)) infoDi rfl (diA_one _) ?_))
      intro w2 hr2 hk2 _
      have hb2 := hk2 _ _ ((Below.refl wr.heap.size wr).alloc (Nat.le_refl _) _) (Nat.le_refl _)
      have HK2 : Hid (WK g w w2 (bs ++ (beB 1 xs.length ++ disB (xs.take j))) [(wr.heap.size, 57, diA x)]) := ⟨HK.out.1.later hb2, HK.out.2.1.trans (Mv.later (Nat.le_of_lt HK.out.1.lt) hb2), hr2, trivial⟩
      have hA : Hid (Aside g [(wr.heap.size, 57, diA x)]) := fun e he => by
        simp only [List.mem_cons, List.not_mem_nil, or_false] at he
        subst he
        exact ⟨by show wr.heap.size ≠ g; have := HK.out.1.lt; omega, by show (57 : TypeId) ≠ 5; decide⟩
      clear hr2 hk2 hb2 HK HRG
      generalize wr.heap.size = p at *
      obtain ⟨bs0, hbs0⟩ : ∃ bs0, bs0 = bs ++ (beB 1 xs.length ++ disB (xs.take j)) := ⟨_, rfl⟩
      have HBS := hide hbs0
      have HB0 : Hid (bs0.length ≤ 20000) := by
        have h1 := disB_len (xs.take j)
        rw [List.length_take] at h1
        have := HL.out
        have := HN.out
        show bs0.length ≤ 20000
        rw [hbs0]
        simp only [List.length_append, beB_length, h1]
        omega
      rw [← hbs0] at HK2
      clear hbs0
      have e0 := conv_nat x.p (by have := HF.out; unfold diFit at this; omega) (by have := HF.out; unfold diFit at this; omega)
      have W0 := hide (fun bs w h hl => wnum_any g 2 x.p.toNat bs w h (by omega) (by have := HF.out; unfold diFit at this; omega) hl)
      rw [← e0] at W0
      clear e0
      have W1 := hide (fun bs w h hl => wnum_any g 8 x.r bs w h (by omega) (by have := HF.out; unfold diFit at this; omega) hl)
      have d0 := HK2.out.2.2.1.cell 0 (.int .i64 x.p) rfl
      go_wp2_with fail
      refine (W0.out bs0 _ HK2.out.1 (by have := HB0.out; omega)).mono ?_
      rintro e v0 ⟨rfl, hw, hm⟩
      have HK3 := hide (HK2.out.step hw hm hA.out)
      clear hw hm d0 HK2 W0
      have d1 := HK3.out.2.2.1.cell 1 (.int .u64 (x.r : Int)) rfl
      go_wp2_with fail
      refine (W1.out (bs0 ++ beB 2 x.p.toNat) _ HK3.out.1 (by have := HB0.out; simp only [List.length_append, beB_length]; omega)).mono ?_
      rintro e v1 ⟨rfl, hw, hm⟩
      have HK4 := hide (HK3.out.step hw hm hA.out)
      clear hw hm d1 HK3 W1
      go_wp2
      go_roundw
      case rel =>
        refine ⟨j + 1, by omega, by go_num, ?_, HK4.out.2.1, trivial⟩
        have h := HK4.out.1
        rw [HBS.out] at h
        have e3 : disB (xs.take (j + 1)) = disB (xs.take j) ++ diB x := by
          rw [HX.out]
          exact disB_more xs j hlt
        rw [e3]
        simp only [diB, List.append_assoc] at h ⊢
        exact h
      case measure => simp [intOf]; omega
    · obtain rfl : j = xs.length := by omega
      go_wp2
      go_end0
      refine ⟨rfl, ?_, HK.out.2.1⟩
      have h := HK.out.1
      rwa [List.take_length] at h
end Go.Proofs.Ytgobegpmojkhaab

/-
  The contract of record.Encode, of a record that is right, by kinds.
-/
namespace Go.Proofs.Ytgobegpmojkhaab
open Go.RowKit
set_option linter.unusedVariables false

/-- What Encode answers: the bytes in a row of the call's own, or none. -/
def EncIn (w : World) (v : Value) (bs : List UInt8) : Prop := ∃ a c, v = .slice a bs.length c ∧ (a = none → c = 0) ∧ bs.length ≤ c ∧ IsB w a bs.length bs
theorem enc_in {w : World} {base : Nat} {v : Value} {bs : List UInt8} (h : w.ownsRow base 5 1 v bs.length (toV bs)) : EncIn w v bs := by
  rcases h.2 with ⟨h1, h2⟩ | ⟨g, cap, cur, h2, h3, h4, h5, h6, h7, h8⟩
  · have hn : bs = [] := List.eq_nil_of_length_eq_zero h2
    subst hn
    exact ⟨none, 0, h1, fun _ => rfl, Nat.le_refl _, isB_nil w⟩
  · subst h2
    exact ⟨_, cap, rfl, fun h => (nomatch h), h5, h.isB rfl⟩
theorem chB_len2 (c : Ch) : (chB c).length = 6 + c.o.size + c.n.size := by
  unfold chB
  simp only [List.length_append, beB_length, textB_len]
  omega
theorem enc_bounds {r : Rec} (h : r.right) : (r.p < 18446744073709551616 ∧ r.n < 18446744073709551616 ∧ r.b < 18446744073709551616) ∧ (0 ≤ r.t ∧ r.t ≤ 1048575) ∧ (0 ≤ r.s ∧ r.s ≤ 8) ∧ r.ts.length ≤ 16 ∧ r.ds.length ≤ 32 ∧ (r.c.o.size ≤ 20 ∧ r.c.n.size ≤ 20) := by
  have hl : r.l ≤ 4611686018427387904 := h.lm
  have ht : (0 ≤ r.t ∧ r.t ≤ 1048575) ∧ r.p < 18446744073709551616 := by
    by_cases hk : r.k ≤ 6
    · have := h.own hk
      omega
    · have := h.none (by omega)
      omega
  have hn : r.n < 18446744073709551616 := by
    by_cases hk : r.k = 2
    · have := h.next hk
      omega
    · have := h.nonext hk
      omega
  have hs : 0 ≤ r.s ∧ r.s ≤ 8 := by
    by_cases hk : r.k = 6
    · have := h.save hk
      omega
    · have := h.nosave hk
      omega
  have hc : r.c.o.size ≤ 20 ∧ r.c.n.size ≤ 20 := by
    by_cases hk : r.k ≤ 2
    · have := ch_bounds (h.ch hk)
      omega
    · rw [h.noch (by omega)]
      exact ⟨Nat.zero_le _, Nat.zero_le _⟩
  by_cases hk : r.k = 8
  · obtain ⟨h1, h2, _, _, h5, h6⟩ := h.check hk
    exact ⟨⟨ht.2, hn, by omega⟩, ht.1, hs, h1, h2, hc⟩
  · obtain ⟨h1, h2, h3⟩ := h.nocheck hk
    rw [h1, h2, h3]
    exact ⟨⟨ht.2, hn, by omega⟩, ht.1, hs, Nat.zero_le _, Nat.zero_le _, hc⟩
theorem enc_txs {r : Rec} (h : r.right) (hk : r.k = 8) : ∀ i, i < r.ts.length → txFit (r.ts.getD i Tx.zero) := fun i hi => by
  have hl : r.l ≤ 4611686018427387904 := h.lm
  obtain ⟨h1, h2, h3, h4, h5, h6, h7, h8⟩ := ((h.check hk).2.2.1 i hi).1
  exact ⟨by omega, by omega, by omega, by omega, by omega, by omega, by omega⟩
theorem enc_dis {r : Rec} (h : r.right) (hk : r.k = 8) : ∀ i, i < r.ds.length → diFit (r.ds.getD i Di.zero) := fun i hi => by
  have hl : r.l ≤ 4611686018427387904 := h.lm
  obtain ⟨h1, h2, h3, h4⟩ := ((h.check hk).2.2.2.1 i hi).1
  exact ⟨by omega, by omega, by omega⟩
end Go.Proofs.Ytgobegpmojkhaab

/-
  The contract of record.Encode, kind 1.
-/
namespace Go.Proofs.Ytgobegpmojkhaab
open Go.RowKit
set_option linter.unusedVariables false

set_option maxRecDepth 4000 in
set_option maxHeartbeats 1600000 in
theorem enc_1 (r : Rec) (va vb : Value) (w : World) (hr : r.right) (hk : r.k = 1) (hf : r.fits) (hin : RcIn w r va vb) :
    Calls Try.prog 13 #[.agg (rcA r va vb)] w fun e w' => (∃ v, e = .returned (.tuple #[v, .int .i64 0]) ∧ EncIn w' v (recB r)) ∧ Below w.heap.size w w' := by
  have HIN := hide hin
  have HRT := hide (fun w h => right_at r va vb w true (hide ⟨fun _ => hr, fun _ => rfl⟩) hf h)
  obtain ⟨⟨e1, cap1, rfl, -⟩, ⟨e2, cap2, rfl, -⟩⟩ := hin
  have HK0 := hide (Keeps.one w 28 (rcA r (.slice e1 r.ts.length cap1) (.slice e2 r.ds.length cap2)))
  have HRR := hide hr
  have hlm : r.l ≤ 4611686018427387904 := hr.lm
  have hbs := enc_bounds hr
  obtain ⟨b1, b2, b3, b4, b5, b6⟩ := hbs
  go_enter Try.func13, Try.ntmps13
  go_wp2_with (refine wpList_load_at rfl 28 (.tmp 1) rfl w.heap.size rfl (rcA r (.slice e1 r.ts.length cap1) (.slice e2 r.ds.length cap2)) HK0.out.1.1 _ Try.underlying28 rfl infoRc ?_)
  refine (HRT.out _ (HIN.out.below HK0.out.2)).mono ?_
  rintro e x0 ⟨rfl, hb0⟩
  have HK1 := hide (HK0.out.later hb0)
  clear HK0 hb0 HRT
  obtain ⟨g, hg⟩ : ∃ g, g = x0.heap.size := ⟨_, rfl⟩
  have hbl := (Below.refl x0.heap.size x0).alloc (Nat.le_refl _) (.cells #[.slice none 0 0] 62)
  have HW0 : Hid (WK g x0 (x0.alloc (.cells #[.slice none 0 0] 62)) [] [(w.heap.size, 28, (rcA r (.slice e1 r.ts.length cap1) (.slice e2 r.ds.length cap2)))]) := by
    rw [hg]
    exact ⟨⟨.slice none 0 0, RowAt.new _ _ _, World.ownsRow_nil _ _ _ _⟩, Mv.later (Nat.le_refl _) hbl, HK1.out.1.1.later hbl, trivial⟩
  have hA : Hid (Aside g [(w.heap.size, 28, (rcA r (.slice e1 r.ts.length cap1) (.slice e2 r.ds.length cap2)))]) := fun e he => by
    simp only [List.mem_cons, List.not_mem_nil, or_false] at he
    subst he
    exact ⟨by show w.heap.size ≠ g; have := HK1.out.1.1.lt; rw [hg]; exact Nat.ne_of_lt this, by show (28 : TypeId) ≠ 5; decide⟩
  have HBX := hide HK1.out.2
  have HGW : Hid (w.heap.size ≤ g) := by show w.heap.size ≤ g; rw [hg]; exact HBX.out.size
  have HCX := hide (fun (y : World) (bs : List UInt8) (h : WK g x0 y bs [(w.heap.size, 28, (rcA r (.slice e1 r.ts.length cap1) (.slice e2 r.ds.length cap2)))]) => (HBX.out.trans (h.2.1.below.mono HGW.out) : Below w.heap.size w y))
  have c0 := HW0.out.2.2.1.cell 0 (.int .i64 1) (by rw [← hk]; rfl)
  clear hbl HK1
  go_wp2_with fail
  rw [← hg]
  refine gen_calls (fun x => Hid (WK g x0 x [] [(w.heap.size, 28, (rcA r (.slice e1 r.ts.length cap1) (.slice e2 r.ds.length cap2)))])) (by rw [hg]; rw [hg] at HW0; exact HW0) ?_
  clear HW0 c0 hg
  intro y0 H0
  refine (wnum_any g 1 1 [] _ H0.out.1 (by omega) (by omega) (Nat.zero_le _)).mono ?_
  rintro e y1 ⟨rfl, hw, hm⟩
  have H1 := hide (H0.out.step hw hm hA.out)
  clear hw hm H0
  have c1 := H1.out.2.2.1.cell 1 (.int .u64 (r.l : Int)) (by rfl)
  go_wp2_with fail
  refine (wnum_any g 8 r.l ([] ++ beB 1 1) _ H1.out.1 (by omega) (by omega) (by first | (simp only [List.length_append, beB_length, List.length_nil]; done) | (simp only [List.length_append, beB_length, List.length_nil]; omega))).mono ?_
  rintro e y2 ⟨rfl, hw, hm⟩
  have H2 := hide (H1.out.step hw hm hA.out)
  clear hw hm H1
  clear c1
  have c2 := H2.out.2.2.1.cell 2 (.int .i64 r.t) (by rfl)
  go_wp2_with fail
  have W := hide (wnum_any g 4 r.t.toNat (([] ++ beB 1 1) ++ beB 8 r.l) _ H2.out.1 (by omega) (by omega) (by first | (simp only [List.length_append, beB_length, List.length_nil]; done) | (simp only [List.length_append, beB_length, List.length_nil]; omega)))
  rw [Int.toNat_of_nonneg (by omega)] at W
  refine W.out.mono ?_
  clear W
  rintro e y3 ⟨rfl, hw, hm⟩
  have H3 := hide (H2.out.step hw hm hA.out)
  clear hw hm H2
  clear c2
  have c3 := H3.out.2.2.1.cell 3 (.int .u64 (r.p : Int)) (by rfl)
  have c0 := H3.out.2.2.1.cell 0 (.int .i64 1) (by rw [← hk]; rfl)
  go_wp2_with fail
  refine (wnum_any g 8 r.p ((([] ++ beB 1 1) ++ beB 8 r.l) ++ beB 4 r.t.toNat) _ H3.out.1 (by omega) (by omega) (by first | (simp only [List.length_append, beB_length, List.length_nil]; done) | (simp only [List.length_append, beB_length, List.length_nil]; omega))).mono ?_
  rintro e y4 ⟨rfl, hw, hm⟩
  have H4 := hide (H3.out.step hw hm hA.out)
  clear hw hm H3
  clear c3 c0
  have c0 := H4.out.2.2.1.cell 0 (.int .i64 1) (by rw [← hk]; rfl)
  go_wp2_with (refine wpList_load_mid rfl 24 (.tmp 27) rfl w.heap.size 4 (chA r.c) rfl (rc_change H4.out.2.2.1) _ Try.underlying24 rfl infoCh ?_)
  refine (wchange_any g r.c (((([] ++ beB 1 1) ++ beB 8 r.l) ++ beB 4 r.t.toNat) ++ beB 8 r.p) _ H4.out.1 (HRR.out.ch (by omega)) (by first | (simp only [List.length_append, beB_length, List.length_nil]; done) | (simp only [List.length_append, beB_length, List.length_nil]; omega))).mono ?_
  rintro e y5 ⟨rfl, hw, hm⟩
  have H5 := hide (H4.out.step hw hm hA.out)
  clear hw hm H4
  clear c0
  have hrb : ((((([] ++ beB 1 1) ++ beB 8 r.l) ++ beB 4 r.t.toNat) ++ beB 8 r.p) ++ chB r.c) = recB r := by
    unfold recB mayB
    rw [hk]
    simp
  have HX := hide (HCX.out _ _ H5.out)
  obtain ⟨v, hrow, hown⟩ := H5.out.1
  have HO := hide hown
  have HRO := hide hrow
  have HRB := hide hrb
  clear hown hrow hrb H5 hA HIN HCX HBX
  obtain ⟨a, c, hv⟩ := own_shape HO.out
  have HV := hide hv
  clear hv
  go_wp2_with (refine wpList_load_val rfl 30 (.tmp 55) rfl _ v rfl (load_b8 _ v a _ c HV.out (HRO.out.cell 0 v rfl)) ?_)
  (try simp only [Exit.inBlock, Exit.then])
  refine bodyPost_ret (results_tmp2 rfl _ _ _) rfl ?_
  refine ⟨⟨v, rfl, ?_⟩, HX.out⟩
  have ho := HO.out
  rw [HRB.out] at ho
  exact enc_in ho
end Go.Proofs.Ytgobegpmojkhaab

/-
  The contract of record.Encode, kind 2.
-/
namespace Go.Proofs.Ytgobegpmojkhaab
open Go.RowKit
set_option linter.unusedVariables false

set_option maxRecDepth 4000 in
set_option maxHeartbeats 1600000 in
theorem enc_2 (r : Rec) (va vb : Value) (w : World) (hr : r.right) (hk : r.k = 2) (hf : r.fits) (hin : RcIn w r va vb) :
    Calls Try.prog 13 #[.agg (rcA r va vb)] w fun e w' => (∃ v, e = .returned (.tuple #[v, .int .i64 0]) ∧ EncIn w' v (recB r)) ∧ Below w.heap.size w w' := by
  have HIN := hide hin
  have HRT := hide (fun w h => right_at r va vb w true (hide ⟨fun _ => hr, fun _ => rfl⟩) hf h)
  obtain ⟨⟨e1, cap1, rfl, -⟩, ⟨e2, cap2, rfl, -⟩⟩ := hin
  have HK0 := hide (Keeps.one w 28 (rcA r (.slice e1 r.ts.length cap1) (.slice e2 r.ds.length cap2)))
  have HRR := hide hr
  have hlm : r.l ≤ 4611686018427387904 := hr.lm
  have hbs := enc_bounds hr
  obtain ⟨b1, b2, b3, b4, b5, b6⟩ := hbs
  go_enter Try.func13, Try.ntmps13
  go_wp2_with (refine wpList_load_at rfl 28 (.tmp 1) rfl w.heap.size rfl (rcA r (.slice e1 r.ts.length cap1) (.slice e2 r.ds.length cap2)) HK0.out.1.1 _ Try.underlying28 rfl infoRc ?_)
  refine (HRT.out _ (HIN.out.below HK0.out.2)).mono ?_
  rintro e x0 ⟨rfl, hb0⟩
  have HK1 := hide (HK0.out.later hb0)
  clear HK0 hb0 HRT
  obtain ⟨g, hg⟩ : ∃ g, g = x0.heap.size := ⟨_, rfl⟩
  have hbl := (Below.refl x0.heap.size x0).alloc (Nat.le_refl _) (.cells #[.slice none 0 0] 62)
  have HW0 : Hid (WK g x0 (x0.alloc (.cells #[.slice none 0 0] 62)) [] [(w.heap.size, 28, (rcA r (.slice e1 r.ts.length cap1) (.slice e2 r.ds.length cap2)))]) := by
    rw [hg]
    exact ⟨⟨.slice none 0 0, RowAt.new _ _ _, World.ownsRow_nil _ _ _ _⟩, Mv.later (Nat.le_refl _) hbl, HK1.out.1.1.later hbl, trivial⟩
  have hA : Hid (Aside g [(w.heap.size, 28, (rcA r (.slice e1 r.ts.length cap1) (.slice e2 r.ds.length cap2)))]) := fun e he => by
    simp only [List.mem_cons, List.not_mem_nil, or_false] at he
    subst he
    exact ⟨by show w.heap.size ≠ g; have := HK1.out.1.1.lt; rw [hg]; exact Nat.ne_of_lt this, by show (28 : TypeId) ≠ 5; decide⟩
  have HBX := hide HK1.out.2
  have HGW : Hid (w.heap.size ≤ g) := by show w.heap.size ≤ g; rw [hg]; exact HBX.out.size
  have HCX := hide (fun (y : World) (bs : List UInt8) (h : WK g x0 y bs [(w.heap.size, 28, (rcA r (.slice e1 r.ts.length cap1) (.slice e2 r.ds.length cap2)))]) => (HBX.out.trans (h.2.1.below.mono HGW.out) : Below w.heap.size w y))
  have c0 := HW0.out.2.2.1.cell 0 (.int .i64 2) (by rw [← hk]; rfl)
  clear hbl HK1
  go_wp2_with fail
  rw [← hg]
  refine gen_calls (fun x => Hid (WK g x0 x [] [(w.heap.size, 28, (rcA r (.slice e1 r.ts.length cap1) (.slice e2 r.ds.length cap2)))])) (by rw [hg]; rw [hg] at HW0; exact HW0) ?_
  clear HW0 c0 hg
  intro y0 H0
  refine (wnum_any g 1 2 [] _ H0.out.1 (by omega) (by omega) (Nat.zero_le _)).mono ?_
  rintro e y1 ⟨rfl, hw, hm⟩
  have H1 := hide (H0.out.step hw hm hA.out)
  clear hw hm H0
  have c1 := H1.out.2.2.1.cell 1 (.int .u64 (r.l : Int)) (by rfl)
  go_wp2_with fail
  refine (wnum_any g 8 r.l ([] ++ beB 1 2) _ H1.out.1 (by omega) (by omega) (by first | (simp only [List.length_append, beB_length, List.length_nil]; done) | (simp only [List.length_append, beB_length, List.length_nil]; omega))).mono ?_
  rintro e y2 ⟨rfl, hw, hm⟩
  have H2 := hide (H1.out.step hw hm hA.out)
  clear hw hm H1
  clear c1
  have c2 := H2.out.2.2.1.cell 2 (.int .i64 r.t) (by rfl)
  go_wp2_with fail
  have W := hide (wnum_any g 4 r.t.toNat (([] ++ beB 1 2) ++ beB 8 r.l) _ H2.out.1 (by omega) (by omega) (by first | (simp only [List.length_append, beB_length, List.length_nil]; done) | (simp only [List.length_append, beB_length, List.length_nil]; omega)))
  rw [Int.toNat_of_nonneg (by omega)] at W
  refine W.out.mono ?_
  clear W
  rintro e y3 ⟨rfl, hw, hm⟩
  have H3 := hide (H2.out.step hw hm hA.out)
  clear hw hm H2
  clear c2
  have c3 := H3.out.2.2.1.cell 3 (.int .u64 (r.p : Int)) (by rfl)
  have c0 := H3.out.2.2.1.cell 0 (.int .i64 2) (by rw [← hk]; rfl)
  go_wp2_with fail
  refine (wnum_any g 8 r.p ((([] ++ beB 1 2) ++ beB 8 r.l) ++ beB 4 r.t.toNat) _ H3.out.1 (by omega) (by omega) (by first | (simp only [List.length_append, beB_length, List.length_nil]; done) | (simp only [List.length_append, beB_length, List.length_nil]; omega))).mono ?_
  rintro e y4 ⟨rfl, hw, hm⟩
  have H4 := hide (H3.out.step hw hm hA.out)
  clear hw hm H3
  clear c3 c0
  have c0 := H4.out.2.2.1.cell 0 (.int .i64 2) (by rw [← hk]; rfl)
  go_wp2_with (refine wpList_load_mid rfl 24 (.tmp 32) rfl w.heap.size 4 (chA r.c) rfl (rc_change H4.out.2.2.1) _ Try.underlying24 rfl infoCh ?_)
  refine (wchange_any g r.c (((([] ++ beB 1 2) ++ beB 8 r.l) ++ beB 4 r.t.toNat) ++ beB 8 r.p) _ H4.out.1 (HRR.out.ch (by omega)) (by first | (simp only [List.length_append, beB_length, List.length_nil]; done) | (simp only [List.length_append, beB_length, List.length_nil]; omega))).mono ?_
  rintro e y5 ⟨rfl, hw, hm⟩
  have H5 := hide (H4.out.step hw hm hA.out)
  clear hw hm H4
  clear c0
  have c9 := H5.out.2.2.1.cell 9 (.int .u64 (r.n : Int)) (by rfl)
  go_wp2_with fail
  refine (wnum_any g 8 r.n ((((([] ++ beB 1 2) ++ beB 8 r.l) ++ beB 4 r.t.toNat) ++ beB 8 r.p) ++ chB r.c) _ H5.out.1 (by omega) (by omega) (by first | (simp only [List.length_append, beB_length, List.length_nil, chB_len2]; done) | (simp only [List.length_append, beB_length, List.length_nil, chB_len2]; omega))).mono ?_
  rintro e y6 ⟨rfl, hw, hm⟩
  have H6 := hide (H5.out.step hw hm hA.out)
  clear hw hm H5
  clear c9
  have hrb : (((((([] ++ beB 1 2) ++ beB 8 r.l) ++ beB 4 r.t.toNat) ++ beB 8 r.p) ++ chB r.c) ++ beB 8 r.n) = recB r := by
    unfold recB mayB
    rw [hk]
    simp
  have HX := hide (HCX.out _ _ H6.out)
  obtain ⟨v, hrow, hown⟩ := H6.out.1
  have HO := hide hown
  have HRO := hide hrow
  have HRB := hide hrb
  clear hown hrow hrb H6 hA HIN HCX HBX
  obtain ⟨a, c, hv⟩ := own_shape HO.out
  have HV := hide hv
  clear hv
  go_wp2_with (refine wpList_load_val rfl 30 (.tmp 55) rfl _ v rfl (load_b8 _ v a _ c HV.out (HRO.out.cell 0 v rfl)) ?_)
  (try simp only [Exit.inBlock, Exit.then])
  refine bodyPost_ret (results_tmp2 rfl _ _ _) rfl ?_
  refine ⟨⟨v, rfl, ?_⟩, HX.out⟩
  have ho := HO.out
  rw [HRB.out] at ho
  exact enc_in ho
end Go.Proofs.Ytgobegpmojkhaab

/-
  The contract of record.Encode, kind 3.
-/
namespace Go.Proofs.Ytgobegpmojkhaab
open Go.RowKit
set_option linter.unusedVariables false

set_option maxRecDepth 4000 in
set_option maxHeartbeats 1600000 in
theorem enc_3 (r : Rec) (va vb : Value) (w : World) (hr : r.right) (hk : r.k = 3) (hf : r.fits) (hin : RcIn w r va vb) :
    Calls Try.prog 13 #[.agg (rcA r va vb)] w fun e w' => (∃ v, e = .returned (.tuple #[v, .int .i64 0]) ∧ EncIn w' v (recB r)) ∧ Below w.heap.size w w' := by
  have HIN := hide hin
  have HRT := hide (fun w h => right_at r va vb w true (hide ⟨fun _ => hr, fun _ => rfl⟩) hf h)
  obtain ⟨⟨e1, cap1, rfl, -⟩, ⟨e2, cap2, rfl, -⟩⟩ := hin
  have HK0 := hide (Keeps.one w 28 (rcA r (.slice e1 r.ts.length cap1) (.slice e2 r.ds.length cap2)))
  have HRR := hide hr
  have hlm : r.l ≤ 4611686018427387904 := hr.lm
  have hbs := enc_bounds hr
  obtain ⟨b1, b2, b3, b4, b5, b6⟩ := hbs
  go_enter Try.func13, Try.ntmps13
  go_wp2_with (refine wpList_load_at rfl 28 (.tmp 1) rfl w.heap.size rfl (rcA r (.slice e1 r.ts.length cap1) (.slice e2 r.ds.length cap2)) HK0.out.1.1 _ Try.underlying28 rfl infoRc ?_)
  refine (HRT.out _ (HIN.out.below HK0.out.2)).mono ?_
  rintro e x0 ⟨rfl, hb0⟩
  have HK1 := hide (HK0.out.later hb0)
  clear HK0 hb0 HRT
  obtain ⟨g, hg⟩ : ∃ g, g = x0.heap.size := ⟨_, rfl⟩
  have hbl := (Below.refl x0.heap.size x0).alloc (Nat.le_refl _) (.cells #[.slice none 0 0] 62)
  have HW0 : Hid (WK g x0 (x0.alloc (.cells #[.slice none 0 0] 62)) [] [(w.heap.size, 28, (rcA r (.slice e1 r.ts.length cap1) (.slice e2 r.ds.length cap2)))]) := by
    rw [hg]
    exact ⟨⟨.slice none 0 0, RowAt.new _ _ _, World.ownsRow_nil _ _ _ _⟩, Mv.later (Nat.le_refl _) hbl, HK1.out.1.1.later hbl, trivial⟩
  have hA : Hid (Aside g [(w.heap.size, 28, (rcA r (.slice e1 r.ts.length cap1) (.slice e2 r.ds.length cap2)))]) := fun e he => by
    simp only [List.mem_cons, List.not_mem_nil, or_false] at he
    subst he
    exact ⟨by show w.heap.size ≠ g; have := HK1.out.1.1.lt; rw [hg]; exact Nat.ne_of_lt this, by show (28 : TypeId) ≠ 5; decide⟩
  have HBX := hide HK1.out.2
  have HGW : Hid (w.heap.size ≤ g) := by show w.heap.size ≤ g; rw [hg]; exact HBX.out.size
  have HCX := hide (fun (y : World) (bs : List UInt8) (h : WK g x0 y bs [(w.heap.size, 28, (rcA r (.slice e1 r.ts.length cap1) (.slice e2 r.ds.length cap2)))]) => (HBX.out.trans (h.2.1.below.mono HGW.out) : Below w.heap.size w y))
  have c0 := HW0.out.2.2.1.cell 0 (.int .i64 3) (by rw [← hk]; rfl)
  clear hbl HK1
  go_wp2_with fail
  rw [← hg]
  refine gen_calls (fun x => Hid (WK g x0 x [] [(w.heap.size, 28, (rcA r (.slice e1 r.ts.length cap1) (.slice e2 r.ds.length cap2)))])) (by rw [hg]; rw [hg] at HW0; exact HW0) ?_
  clear HW0 c0 hg
  intro y0 H0
  refine (wnum_any g 1 3 [] _ H0.out.1 (by omega) (by omega) (Nat.zero_le _)).mono ?_
  rintro e y1 ⟨rfl, hw, hm⟩
  have H1 := hide (H0.out.step hw hm hA.out)
  clear hw hm H0
  have c1 := H1.out.2.2.1.cell 1 (.int .u64 (r.l : Int)) (by rfl)
  go_wp2_with fail
  refine (wnum_any g 8 r.l ([] ++ beB 1 3) _ H1.out.1 (by omega) (by omega) (by first | (simp only [List.length_append, beB_length, List.length_nil]; done) | (simp only [List.length_append, beB_length, List.length_nil]; omega))).mono ?_
  rintro e y2 ⟨rfl, hw, hm⟩
  have H2 := hide (H1.out.step hw hm hA.out)
  clear hw hm H1
  clear c1
  have c2 := H2.out.2.2.1.cell 2 (.int .i64 r.t) (by rfl)
  go_wp2_with fail
  have W := hide (wnum_any g 4 r.t.toNat (([] ++ beB 1 3) ++ beB 8 r.l) _ H2.out.1 (by omega) (by omega) (by first | (simp only [List.length_append, beB_length, List.length_nil]; done) | (simp only [List.length_append, beB_length, List.length_nil]; omega)))
  rw [Int.toNat_of_nonneg (by omega)] at W
  refine W.out.mono ?_
  clear W
  rintro e y3 ⟨rfl, hw, hm⟩
  have H3 := hide (H2.out.step hw hm hA.out)
  clear hw hm H2
  clear c2
  have c3 := H3.out.2.2.1.cell 3 (.int .u64 (r.p : Int)) (by rfl)
  have c0 := H3.out.2.2.1.cell 0 (.int .i64 3) (by rw [← hk]; rfl)
  go_wp2_with fail
  refine (wnum_any g 8 r.p ((([] ++ beB 1 3) ++ beB 8 r.l) ++ beB 4 r.t.toNat) _ H3.out.1 (by omega) (by omega) (by first | (simp only [List.length_append, beB_length, List.length_nil]; done) | (simp only [List.length_append, beB_length, List.length_nil]; omega))).mono ?_
  rintro e y4 ⟨rfl, hw, hm⟩
  have H4 := hide (H3.out.step hw hm hA.out)
  clear hw hm H3
  clear c3 c0
  have hrb : (((([] ++ beB 1 3) ++ beB 8 r.l) ++ beB 4 r.t.toNat) ++ beB 8 r.p) = recB r := by
    unfold recB mayB
    rw [hk]
    simp
  have HX := hide (HCX.out _ _ H4.out)
  obtain ⟨v, hrow, hown⟩ := H4.out.1
  have HO := hide hown
  have HRO := hide hrow
  have HRB := hide hrb
  have c0 := H4.out.2.2.1.cell 0 (.int .i64 3) (by rw [← hk]; rfl)
  clear hown hrow hrb H4 hA HIN HCX HBX
  obtain ⟨a, c, hv⟩ := own_shape HO.out
  have HV := hide hv
  clear hv
  go_wp2_with (refine wpList_load_val rfl 30 (.tmp 55) rfl _ v rfl (load_b8 _ v a _ c HV.out (HRO.out.cell 0 v rfl)) ?_)
  (try simp only [Exit.inBlock, Exit.then])
  refine bodyPost_ret (results_tmp2 rfl _ _ _) rfl ?_
  refine ⟨⟨v, rfl, ?_⟩, HX.out⟩
  have ho := HO.out
  rw [HRB.out] at ho
  exact enc_in ho
end Go.Proofs.Ytgobegpmojkhaab

/-
  The contract of record.Encode, kind 4.
-/
namespace Go.Proofs.Ytgobegpmojkhaab
open Go.RowKit
set_option linter.unusedVariables false

set_option maxRecDepth 4000 in
set_option maxHeartbeats 1600000 in
theorem enc_4 (r : Rec) (va vb : Value) (w : World) (hr : r.right) (hk : r.k = 4) (hf : r.fits) (hin : RcIn w r va vb) :
    Calls Try.prog 13 #[.agg (rcA r va vb)] w fun e w' => (∃ v, e = .returned (.tuple #[v, .int .i64 0]) ∧ EncIn w' v (recB r)) ∧ Below w.heap.size w w' := by
  have HIN := hide hin
  have HRT := hide (fun w h => right_at r va vb w true (hide ⟨fun _ => hr, fun _ => rfl⟩) hf h)
  obtain ⟨⟨e1, cap1, rfl, -⟩, ⟨e2, cap2, rfl, -⟩⟩ := hin
  have HK0 := hide (Keeps.one w 28 (rcA r (.slice e1 r.ts.length cap1) (.slice e2 r.ds.length cap2)))
  have HRR := hide hr
  have hlm : r.l ≤ 4611686018427387904 := hr.lm
  have hbs := enc_bounds hr
  obtain ⟨b1, b2, b3, b4, b5, b6⟩ := hbs
  go_enter Try.func13, Try.ntmps13
  go_wp2_with (refine wpList_load_at rfl 28 (.tmp 1) rfl w.heap.size rfl (rcA r (.slice e1 r.ts.length cap1) (.slice e2 r.ds.length cap2)) HK0.out.1.1 _ Try.underlying28 rfl infoRc ?_)
  refine (HRT.out _ (HIN.out.below HK0.out.2)).mono ?_
  rintro e x0 ⟨rfl, hb0⟩
  have HK1 := hide (HK0.out.later hb0)
  clear HK0 hb0 HRT
  obtain ⟨g, hg⟩ : ∃ g, g = x0.heap.size := ⟨_, rfl⟩
  have hbl := (Below.refl x0.heap.size x0).alloc (Nat.le_refl _) (.cells #[.slice none 0 0] 62)
  have HW0 : Hid (WK g x0 (x0.alloc (.cells #[.slice none 0 0] 62)) [] [(w.heap.size, 28, (rcA r (.slice e1 r.ts.length cap1) (.slice e2 r.ds.length cap2)))]) := by
    rw [hg]
    exact ⟨⟨.slice none 0 0, RowAt.new _ _ _, World.ownsRow_nil _ _ _ _⟩, Mv.later (Nat.le_refl _) hbl, HK1.out.1.1.later hbl, trivial⟩
  have hA : Hid (Aside g [(w.heap.size, 28, (rcA r (.slice e1 r.ts.length cap1) (.slice e2 r.ds.length cap2)))]) := fun e he => by
    simp only [List.mem_cons, List.not_mem_nil, or_false] at he
    subst he
    exact ⟨by show w.heap.size ≠ g; have := HK1.out.1.1.lt; rw [hg]; exact Nat.ne_of_lt this, by show (28 : TypeId) ≠ 5; decide⟩
  have HBX := hide HK1.out.2
  have HGW : Hid (w.heap.size ≤ g) := by show w.heap.size ≤ g; rw [hg]; exact HBX.out.size
  have HCX := hide (fun (y : World) (bs : List UInt8) (h : WK g x0 y bs [(w.heap.size, 28, (rcA r (.slice e1 r.ts.length cap1) (.slice e2 r.ds.length cap2)))]) => (HBX.out.trans (h.2.1.below.mono HGW.out) : Below w.heap.size w y))
  have c0 := HW0.out.2.2.1.cell 0 (.int .i64 4) (by rw [← hk]; rfl)
  clear hbl HK1
  go_wp2_with fail
  rw [← hg]
  refine gen_calls (fun x => Hid (WK g x0 x [] [(w.heap.size, 28, (rcA r (.slice e1 r.ts.length cap1) (.slice e2 r.ds.length cap2)))])) (by rw [hg]; rw [hg] at HW0; exact HW0) ?_
  clear HW0 c0 hg
  intro y0 H0
  refine (wnum_any g 1 4 [] _ H0.out.1 (by omega) (by omega) (Nat.zero_le _)).mono ?_
  rintro e y1 ⟨rfl, hw, hm⟩
  have H1 := hide (H0.out.step hw hm hA.out)
  clear hw hm H0
  have c1 := H1.out.2.2.1.cell 1 (.int .u64 (r.l : Int)) (by rfl)
  go_wp2_with fail
  refine (wnum_any g 8 r.l ([] ++ beB 1 4) _ H1.out.1 (by omega) (by omega) (by first | (simp only [List.length_append, beB_length, List.length_nil]; done) | (simp only [List.length_append, beB_length, List.length_nil]; omega))).mono ?_
  rintro e y2 ⟨rfl, hw, hm⟩
  have H2 := hide (H1.out.step hw hm hA.out)
  clear hw hm H1
  clear c1
  have c2 := H2.out.2.2.1.cell 2 (.int .i64 r.t) (by rfl)
  go_wp2_with fail
  have W := hide (wnum_any g 4 r.t.toNat (([] ++ beB 1 4) ++ beB 8 r.l) _ H2.out.1 (by omega) (by omega) (by first | (simp only [List.length_append, beB_length, List.length_nil]; done) | (simp only [List.length_append, beB_length, List.length_nil]; omega)))
  rw [Int.toNat_of_nonneg (by omega)] at W
  refine W.out.mono ?_
  clear W
  rintro e y3 ⟨rfl, hw, hm⟩
  have H3 := hide (H2.out.step hw hm hA.out)
  clear hw hm H2
  clear c2
  have c3 := H3.out.2.2.1.cell 3 (.int .u64 (r.p : Int)) (by rfl)
  have c0 := H3.out.2.2.1.cell 0 (.int .i64 4) (by rw [← hk]; rfl)
  go_wp2_with fail
  refine (wnum_any g 8 r.p ((([] ++ beB 1 4) ++ beB 8 r.l) ++ beB 4 r.t.toNat) _ H3.out.1 (by omega) (by omega) (by first | (simp only [List.length_append, beB_length, List.length_nil]; done) | (simp only [List.length_append, beB_length, List.length_nil]; omega))).mono ?_
  rintro e y4 ⟨rfl, hw, hm⟩
  have H4 := hide (H3.out.step hw hm hA.out)
  clear hw hm H3
  clear c3 c0
  have hrb : (((([] ++ beB 1 4) ++ beB 8 r.l) ++ beB 4 r.t.toNat) ++ beB 8 r.p) = recB r := by
    unfold recB mayB
    rw [hk]
    simp
  have HX := hide (HCX.out _ _ H4.out)
  obtain ⟨v, hrow, hown⟩ := H4.out.1
  have HO := hide hown
  have HRO := hide hrow
  have HRB := hide hrb
  have c0 := H4.out.2.2.1.cell 0 (.int .i64 4) (by rw [← hk]; rfl)
  clear hown hrow hrb H4 hA HIN HCX HBX
  obtain ⟨a, c, hv⟩ := own_shape HO.out
  have HV := hide hv
  clear hv
  go_wp2_with (refine wpList_load_val rfl 30 (.tmp 55) rfl _ v rfl (load_b8 _ v a _ c HV.out (HRO.out.cell 0 v rfl)) ?_)
  (try simp only [Exit.inBlock, Exit.then])
  refine bodyPost_ret (results_tmp2 rfl _ _ _) rfl ?_
  refine ⟨⟨v, rfl, ?_⟩, HX.out⟩
  have ho := HO.out
  rw [HRB.out] at ho
  exact enc_in ho
end Go.Proofs.Ytgobegpmojkhaab

/-
  The contract of record.Encode, kind 5.
-/
namespace Go.Proofs.Ytgobegpmojkhaab
open Go.RowKit
set_option linter.unusedVariables false

set_option maxRecDepth 4000 in
set_option maxHeartbeats 1600000 in
theorem enc_5 (r : Rec) (va vb : Value) (w : World) (hr : r.right) (hk : r.k = 5) (hf : r.fits) (hin : RcIn w r va vb) :
    Calls Try.prog 13 #[.agg (rcA r va vb)] w fun e w' => (∃ v, e = .returned (.tuple #[v, .int .i64 0]) ∧ EncIn w' v (recB r)) ∧ Below w.heap.size w w' := by
  have HIN := hide hin
  have HRT := hide (fun w h => right_at r va vb w true (hide ⟨fun _ => hr, fun _ => rfl⟩) hf h)
  obtain ⟨⟨e1, cap1, rfl, -⟩, ⟨e2, cap2, rfl, -⟩⟩ := hin
  have HK0 := hide (Keeps.one w 28 (rcA r (.slice e1 r.ts.length cap1) (.slice e2 r.ds.length cap2)))
  have HRR := hide hr
  have hlm : r.l ≤ 4611686018427387904 := hr.lm
  have hbs := enc_bounds hr
  obtain ⟨b1, b2, b3, b4, b5, b6⟩ := hbs
  go_enter Try.func13, Try.ntmps13
  go_wp2_with (refine wpList_load_at rfl 28 (.tmp 1) rfl w.heap.size rfl (rcA r (.slice e1 r.ts.length cap1) (.slice e2 r.ds.length cap2)) HK0.out.1.1 _ Try.underlying28 rfl infoRc ?_)
  refine (HRT.out _ (HIN.out.below HK0.out.2)).mono ?_
  rintro e x0 ⟨rfl, hb0⟩
  have HK1 := hide (HK0.out.later hb0)
  clear HK0 hb0 HRT
  obtain ⟨g, hg⟩ : ∃ g, g = x0.heap.size := ⟨_, rfl⟩
  have hbl := (Below.refl x0.heap.size x0).alloc (Nat.le_refl _) (.cells #[.slice none 0 0] 62)
  have HW0 : Hid (WK g x0 (x0.alloc (.cells #[.slice none 0 0] 62)) [] [(w.heap.size, 28, (rcA r (.slice e1 r.ts.length cap1) (.slice e2 r.ds.length cap2)))]) := by
    rw [hg]
    exact ⟨⟨.slice none 0 0, RowAt.new _ _ _, World.ownsRow_nil _ _ _ _⟩, Mv.later (Nat.le_refl _) hbl, HK1.out.1.1.later hbl, trivial⟩
  have hA : Hid (Aside g [(w.heap.size, 28, (rcA r (.slice e1 r.ts.length cap1) (.slice e2 r.ds.length cap2)))]) := fun e he => by
    simp only [List.mem_cons, List.not_mem_nil, or_false] at he
    subst he
    exact ⟨by show w.heap.size ≠ g; have := HK1.out.1.1.lt; rw [hg]; exact Nat.ne_of_lt this, by show (28 : TypeId) ≠ 5; decide⟩
  have HBX := hide HK1.out.2
  have HGW : Hid (w.heap.size ≤ g) := by show w.heap.size ≤ g; rw [hg]; exact HBX.out.size
  have HCX := hide (fun (y : World) (bs : List UInt8) (h : WK g x0 y bs [(w.heap.size, 28, (rcA r (.slice e1 r.ts.length cap1) (.slice e2 r.ds.length cap2)))]) => (HBX.out.trans (h.2.1.below.mono HGW.out) : Below w.heap.size w y))
  have c0 := HW0.out.2.2.1.cell 0 (.int .i64 5) (by rw [← hk]; rfl)
  clear hbl HK1
  go_wp2_with fail
  rw [← hg]
  refine gen_calls (fun x => Hid (WK g x0 x [] [(w.heap.size, 28, (rcA r (.slice e1 r.ts.length cap1) (.slice e2 r.ds.length cap2)))])) (by rw [hg]; rw [hg] at HW0; exact HW0) ?_
  clear HW0 c0 hg
  intro y0 H0
  refine (wnum_any g 1 5 [] _ H0.out.1 (by omega) (by omega) (Nat.zero_le _)).mono ?_
  rintro e y1 ⟨rfl, hw, hm⟩
  have H1 := hide (H0.out.step hw hm hA.out)
  clear hw hm H0
  have c1 := H1.out.2.2.1.cell 1 (.int .u64 (r.l : Int)) (by rfl)
  go_wp2_with fail
  refine (wnum_any g 8 r.l ([] ++ beB 1 5) _ H1.out.1 (by omega) (by omega) (by first | (simp only [List.length_append, beB_length, List.length_nil]; done) | (simp only [List.length_append, beB_length, List.length_nil]; omega))).mono ?_
  rintro e y2 ⟨rfl, hw, hm⟩
  have H2 := hide (H1.out.step hw hm hA.out)
  clear hw hm H1
  clear c1
  have c2 := H2.out.2.2.1.cell 2 (.int .i64 r.t) (by rfl)
  go_wp2_with fail
  have W := hide (wnum_any g 4 r.t.toNat (([] ++ beB 1 5) ++ beB 8 r.l) _ H2.out.1 (by omega) (by omega) (by first | (simp only [List.length_append, beB_length, List.length_nil]; done) | (simp only [List.length_append, beB_length, List.length_nil]; omega)))
  rw [Int.toNat_of_nonneg (by omega)] at W
  refine W.out.mono ?_
  clear W
  rintro e y3 ⟨rfl, hw, hm⟩
  have H3 := hide (H2.out.step hw hm hA.out)
  clear hw hm H2
  clear c2
  have c3 := H3.out.2.2.1.cell 3 (.int .u64 (r.p : Int)) (by rfl)
  have c0 := H3.out.2.2.1.cell 0 (.int .i64 5) (by rw [← hk]; rfl)
  go_wp2_with fail
  refine (wnum_any g 8 r.p ((([] ++ beB 1 5) ++ beB 8 r.l) ++ beB 4 r.t.toNat) _ H3.out.1 (by omega) (by omega) (by first | (simp only [List.length_append, beB_length, List.length_nil]; done) | (simp only [List.length_append, beB_length, List.length_nil]; omega))).mono ?_
  rintro e y4 ⟨rfl, hw, hm⟩
  have H4 := hide (H3.out.step hw hm hA.out)
  clear hw hm H3
  clear c3 c0
  have hrb : (((([] ++ beB 1 5) ++ beB 8 r.l) ++ beB 4 r.t.toNat) ++ beB 8 r.p) = recB r := by
    unfold recB mayB
    rw [hk]
    simp
  have HX := hide (HCX.out _ _ H4.out)
  obtain ⟨v, hrow, hown⟩ := H4.out.1
  have HO := hide hown
  have HRO := hide hrow
  have HRB := hide hrb
  have c0 := H4.out.2.2.1.cell 0 (.int .i64 5) (by rw [← hk]; rfl)
  clear hown hrow hrb H4 hA HIN HCX HBX
  obtain ⟨a, c, hv⟩ := own_shape HO.out
  have HV := hide hv
  clear hv
  go_wp2_with (refine wpList_load_val rfl 30 (.tmp 55) rfl _ v rfl (load_b8 _ v a _ c HV.out (HRO.out.cell 0 v rfl)) ?_)
  (try simp only [Exit.inBlock, Exit.then])
  refine bodyPost_ret (results_tmp2 rfl _ _ _) rfl ?_
  refine ⟨⟨v, rfl, ?_⟩, HX.out⟩
  have ho := HO.out
  rw [HRB.out] at ho
  exact enc_in ho
end Go.Proofs.Ytgobegpmojkhaab

/-
  The contract of record.Encode, kind 6.
-/
namespace Go.Proofs.Ytgobegpmojkhaab
open Go.RowKit
set_option linter.unusedVariables false

set_option maxRecDepth 4000 in
set_option maxHeartbeats 1600000 in
theorem enc_6 (r : Rec) (va vb : Value) (w : World) (hr : r.right) (hk : r.k = 6) (hf : r.fits) (hin : RcIn w r va vb) :
    Calls Try.prog 13 #[.agg (rcA r va vb)] w fun e w' => (∃ v, e = .returned (.tuple #[v, .int .i64 0]) ∧ EncIn w' v (recB r)) ∧ Below w.heap.size w w' := by
  have HIN := hide hin
  have HRT := hide (fun w h => right_at r va vb w true (hide ⟨fun _ => hr, fun _ => rfl⟩) hf h)
  obtain ⟨⟨e1, cap1, rfl, -⟩, ⟨e2, cap2, rfl, -⟩⟩ := hin
  have HK0 := hide (Keeps.one w 28 (rcA r (.slice e1 r.ts.length cap1) (.slice e2 r.ds.length cap2)))
  have HRR := hide hr
  have hlm : r.l ≤ 4611686018427387904 := hr.lm
  have hbs := enc_bounds hr
  obtain ⟨b1, b2, b3, b4, b5, b6⟩ := hbs
  go_enter Try.func13, Try.ntmps13
  go_wp2_with (refine wpList_load_at rfl 28 (.tmp 1) rfl w.heap.size rfl (rcA r (.slice e1 r.ts.length cap1) (.slice e2 r.ds.length cap2)) HK0.out.1.1 _ Try.underlying28 rfl infoRc ?_)
  refine (HRT.out _ (HIN.out.below HK0.out.2)).mono ?_
  rintro e x0 ⟨rfl, hb0⟩
  have HK1 := hide (HK0.out.later hb0)
  clear HK0 hb0 HRT
  obtain ⟨g, hg⟩ : ∃ g, g = x0.heap.size := ⟨_, rfl⟩
  have hbl := (Below.refl x0.heap.size x0).alloc (Nat.le_refl _) (.cells #[.slice none 0 0] 62)
  have HW0 : Hid (WK g x0 (x0.alloc (.cells #[.slice none 0 0] 62)) [] [(w.heap.size, 28, (rcA r (.slice e1 r.ts.length cap1) (.slice e2 r.ds.length cap2)))]) := by
    rw [hg]
    exact ⟨⟨.slice none 0 0, RowAt.new _ _ _, World.ownsRow_nil _ _ _ _⟩, Mv.later (Nat.le_refl _) hbl, HK1.out.1.1.later hbl, trivial⟩
  have hA : Hid (Aside g [(w.heap.size, 28, (rcA r (.slice e1 r.ts.length cap1) (.slice e2 r.ds.length cap2)))]) := fun e he => by
    simp only [List.mem_cons, List.not_mem_nil, or_false] at he
    subst he
    exact ⟨by show w.heap.size ≠ g; have := HK1.out.1.1.lt; rw [hg]; exact Nat.ne_of_lt this, by show (28 : TypeId) ≠ 5; decide⟩
  have HBX := hide HK1.out.2
  have HGW : Hid (w.heap.size ≤ g) := by show w.heap.size ≤ g; rw [hg]; exact HBX.out.size
  have HCX := hide (fun (y : World) (bs : List UInt8) (h : WK g x0 y bs [(w.heap.size, 28, (rcA r (.slice e1 r.ts.length cap1) (.slice e2 r.ds.length cap2)))]) => (HBX.out.trans (h.2.1.below.mono HGW.out) : Below w.heap.size w y))
  have c0 := HW0.out.2.2.1.cell 0 (.int .i64 6) (by rw [← hk]; rfl)
  clear hbl HK1
  go_wp2_with fail
  rw [← hg]
  refine gen_calls (fun x => Hid (WK g x0 x [] [(w.heap.size, 28, (rcA r (.slice e1 r.ts.length cap1) (.slice e2 r.ds.length cap2)))])) (by rw [hg]; rw [hg] at HW0; exact HW0) ?_
  clear HW0 c0 hg
  intro y0 H0
  refine (wnum_any g 1 6 [] _ H0.out.1 (by omega) (by omega) (Nat.zero_le _)).mono ?_
  rintro e y1 ⟨rfl, hw, hm⟩
  have H1 := hide (H0.out.step hw hm hA.out)
  clear hw hm H0
  have c1 := H1.out.2.2.1.cell 1 (.int .u64 (r.l : Int)) (by rfl)
  go_wp2_with fail
  refine (wnum_any g 8 r.l ([] ++ beB 1 6) _ H1.out.1 (by omega) (by omega) (by first | (simp only [List.length_append, beB_length, List.length_nil]; done) | (simp only [List.length_append, beB_length, List.length_nil]; omega))).mono ?_
  rintro e y2 ⟨rfl, hw, hm⟩
  have H2 := hide (H1.out.step hw hm hA.out)
  clear hw hm H1
  clear c1
  have c2 := H2.out.2.2.1.cell 2 (.int .i64 r.t) (by rfl)
  go_wp2_with fail
  have W := hide (wnum_any g 4 r.t.toNat (([] ++ beB 1 6) ++ beB 8 r.l) _ H2.out.1 (by omega) (by omega) (by first | (simp only [List.length_append, beB_length, List.length_nil]; done) | (simp only [List.length_append, beB_length, List.length_nil]; omega)))
  rw [Int.toNat_of_nonneg (by omega)] at W
  refine W.out.mono ?_
  clear W
  rintro e y3 ⟨rfl, hw, hm⟩
  have H3 := hide (H2.out.step hw hm hA.out)
  clear hw hm H2
  clear c2
  have c3 := H3.out.2.2.1.cell 3 (.int .u64 (r.p : Int)) (by rfl)
  have c0 := H3.out.2.2.1.cell 0 (.int .i64 6) (by rw [← hk]; rfl)
  go_wp2_with fail
  refine (wnum_any g 8 r.p ((([] ++ beB 1 6) ++ beB 8 r.l) ++ beB 4 r.t.toNat) _ H3.out.1 (by omega) (by omega) (by first | (simp only [List.length_append, beB_length, List.length_nil]; done) | (simp only [List.length_append, beB_length, List.length_nil]; omega))).mono ?_
  rintro e y4 ⟨rfl, hw, hm⟩
  have H4 := hide (H3.out.step hw hm hA.out)
  clear hw hm H3
  clear c3 c0
  have c10 := H4.out.2.2.1.cell 10 (.int .i64 r.s) (by rfl)
  have c0 := H4.out.2.2.1.cell 0 (.int .i64 6) (by rw [← hk]; rfl)
  go_wp2_with fail
  have W := hide (wnum_any g 1 r.s.toNat (((([] ++ beB 1 6) ++ beB 8 r.l) ++ beB 4 r.t.toNat) ++ beB 8 r.p) _ H4.out.1 (by omega) (by omega) (by first | (simp only [List.length_append, beB_length, List.length_nil]; done) | (simp only [List.length_append, beB_length, List.length_nil]; omega)))
  rw [Int.toNat_of_nonneg (by omega)] at W
  refine W.out.mono ?_
  clear W
  rintro e y5 ⟨rfl, hw, hm⟩
  have H5 := hide (H4.out.step hw hm hA.out)
  clear hw hm H4
  clear c10 c0
  have hrb : ((((([] ++ beB 1 6) ++ beB 8 r.l) ++ beB 4 r.t.toNat) ++ beB 8 r.p) ++ beB 1 r.s.toNat) = recB r := by
    unfold recB mayB
    rw [hk]
    simp
  have HX := hide (HCX.out _ _ H5.out)
  obtain ⟨v, hrow, hown⟩ := H5.out.1
  have HO := hide hown
  have HRO := hide hrow
  have HRB := hide hrb
  clear hown hrow hrb H5 hA HIN HCX HBX
  obtain ⟨a, c, hv⟩ := own_shape HO.out
  have HV := hide hv
  clear hv
  go_wp2_with (refine wpList_load_val rfl 30 (.tmp 55) rfl _ v rfl (load_b8 _ v a _ c HV.out (HRO.out.cell 0 v rfl)) ?_)
  (try simp only [Exit.inBlock, Exit.then])
  refine bodyPost_ret (results_tmp2 rfl _ _ _) rfl ?_
  refine ⟨⟨v, rfl, ?_⟩, HX.out⟩
  have ho := HO.out
  rw [HRB.out] at ho
  exact enc_in ho
end Go.Proofs.Ytgobegpmojkhaab

/-
  The contract of record.Encode, kind 7.
-/
namespace Go.Proofs.Ytgobegpmojkhaab
open Go.RowKit
set_option linter.unusedVariables false

set_option maxRecDepth 4000 in
set_option maxHeartbeats 1600000 in
theorem enc_7 (r : Rec) (va vb : Value) (w : World) (hr : r.right) (hk : r.k = 7) (hf : r.fits) (hin : RcIn w r va vb) :
    Calls Try.prog 13 #[.agg (rcA r va vb)] w fun e w' => (∃ v, e = .returned (.tuple #[v, .int .i64 0]) ∧ EncIn w' v (recB r)) ∧ Below w.heap.size w w' := by
  have HIN := hide hin
  have HRT := hide (fun w h => right_at r va vb w true (hide ⟨fun _ => hr, fun _ => rfl⟩) hf h)
  obtain ⟨⟨e1, cap1, rfl, -⟩, ⟨e2, cap2, rfl, -⟩⟩ := hin
  have HK0 := hide (Keeps.one w 28 (rcA r (.slice e1 r.ts.length cap1) (.slice e2 r.ds.length cap2)))
  have HRR := hide hr
  have hlm : r.l ≤ 4611686018427387904 := hr.lm
  have hbs := enc_bounds hr
  obtain ⟨b1, b2, b3, b4, b5, b6⟩ := hbs
  go_enter Try.func13, Try.ntmps13
  go_wp2_with (refine wpList_load_at rfl 28 (.tmp 1) rfl w.heap.size rfl (rcA r (.slice e1 r.ts.length cap1) (.slice e2 r.ds.length cap2)) HK0.out.1.1 _ Try.underlying28 rfl infoRc ?_)
  refine (HRT.out _ (HIN.out.below HK0.out.2)).mono ?_
  rintro e x0 ⟨rfl, hb0⟩
  have HK1 := hide (HK0.out.later hb0)
  clear HK0 hb0 HRT
  obtain ⟨g, hg⟩ : ∃ g, g = x0.heap.size := ⟨_, rfl⟩
  have hbl := (Below.refl x0.heap.size x0).alloc (Nat.le_refl _) (.cells #[.slice none 0 0] 62)
  have HW0 : Hid (WK g x0 (x0.alloc (.cells #[.slice none 0 0] 62)) [] [(w.heap.size, 28, (rcA r (.slice e1 r.ts.length cap1) (.slice e2 r.ds.length cap2)))]) := by
    rw [hg]
    exact ⟨⟨.slice none 0 0, RowAt.new _ _ _, World.ownsRow_nil _ _ _ _⟩, Mv.later (Nat.le_refl _) hbl, HK1.out.1.1.later hbl, trivial⟩
  have hA : Hid (Aside g [(w.heap.size, 28, (rcA r (.slice e1 r.ts.length cap1) (.slice e2 r.ds.length cap2)))]) := fun e he => by
    simp only [List.mem_cons, List.not_mem_nil, or_false] at he
    subst he
    exact ⟨by show w.heap.size ≠ g; have := HK1.out.1.1.lt; rw [hg]; exact Nat.ne_of_lt this, by show (28 : TypeId) ≠ 5; decide⟩
  have HBX := hide HK1.out.2
  have HGW : Hid (w.heap.size ≤ g) := by show w.heap.size ≤ g; rw [hg]; exact HBX.out.size
  have HCX := hide (fun (y : World) (bs : List UInt8) (h : WK g x0 y bs [(w.heap.size, 28, (rcA r (.slice e1 r.ts.length cap1) (.slice e2 r.ds.length cap2)))]) => (HBX.out.trans (h.2.1.below.mono HGW.out) : Below w.heap.size w y))
  have c0 := HW0.out.2.2.1.cell 0 (.int .i64 7) (by rw [← hk]; rfl)
  clear hbl HK1
  go_wp2_with fail
  rw [← hg]
  refine gen_calls (fun x => Hid (WK g x0 x [] [(w.heap.size, 28, (rcA r (.slice e1 r.ts.length cap1) (.slice e2 r.ds.length cap2)))])) (by rw [hg]; rw [hg] at HW0; exact HW0) ?_
  clear HW0 c0 hg
  intro y0 H0
  refine (wnum_any g 1 7 [] _ H0.out.1 (by omega) (by omega) (Nat.zero_le _)).mono ?_
  rintro e y1 ⟨rfl, hw, hm⟩
  have H1 := hide (H0.out.step hw hm hA.out)
  clear hw hm H0
  have c1 := H1.out.2.2.1.cell 1 (.int .u64 (r.l : Int)) (by rfl)
  go_wp2_with fail
  refine (wnum_any g 8 r.l ([] ++ beB 1 7) _ H1.out.1 (by omega) (by omega) (by first | (simp only [List.length_append, beB_length, List.length_nil]; done) | (simp only [List.length_append, beB_length, List.length_nil]; omega))).mono ?_
  rintro e y2 ⟨rfl, hw, hm⟩
  have H2 := hide (H1.out.step hw hm hA.out)
  clear hw hm H1
  clear c1
  have c2 := H2.out.2.2.1.cell 2 (.int .i64 r.t) (by rfl)
  go_wp2_with fail
  have W := hide (wnum_any g 4 r.t.toNat (([] ++ beB 1 7) ++ beB 8 r.l) _ H2.out.1 (by omega) (by omega) (by first | (simp only [List.length_append, beB_length, List.length_nil]; done) | (simp only [List.length_append, beB_length, List.length_nil]; omega)))
  rw [Int.toNat_of_nonneg (by omega)] at W
  refine W.out.mono ?_
  clear W
  rintro e y3 ⟨rfl, hw, hm⟩
  have H3 := hide (H2.out.step hw hm hA.out)
  clear hw hm H2
  clear c2
  have c3 := H3.out.2.2.1.cell 3 (.int .u64 (r.p : Int)) (by rfl)
  have c0 := H3.out.2.2.1.cell 0 (.int .i64 7) (by rw [← hk]; rfl)
  go_wp2_with fail
  refine (wnum_any g 8 r.p ((([] ++ beB 1 7) ++ beB 8 r.l) ++ beB 4 r.t.toNat) _ H3.out.1 (by omega) (by omega) (by first | (simp only [List.length_append, beB_length, List.length_nil]; done) | (simp only [List.length_append, beB_length, List.length_nil]; omega))).mono ?_
  rintro e y4 ⟨rfl, hw, hm⟩
  have H4 := hide (H3.out.step hw hm hA.out)
  clear hw hm H3
  clear c3 c0
  have hrb : (((([] ++ beB 1 7) ++ beB 8 r.l) ++ beB 4 r.t.toNat) ++ beB 8 r.p) = recB r := by
    unfold recB mayB
    rw [hk]
    simp
  have HX := hide (HCX.out _ _ H4.out)
  obtain ⟨v, hrow, hown⟩ := H4.out.1
  have HO := hide hown
  have HRO := hide hrow
  have HRB := hide hrb
  have c0 := H4.out.2.2.1.cell 0 (.int .i64 7) (by rw [← hk]; rfl)
  clear hown hrow hrb H4 hA HIN HCX HBX
  obtain ⟨a, c, hv⟩ := own_shape HO.out
  have HV := hide hv
  clear hv
  go_wp2_with (refine wpList_load_val rfl 30 (.tmp 55) rfl _ v rfl (load_b8 _ v a _ c HV.out (HRO.out.cell 0 v rfl)) ?_)
  (try simp only [Exit.inBlock, Exit.then])
  refine bodyPost_ret (results_tmp2 rfl _ _ _) rfl ?_
  refine ⟨⟨v, rfl, ?_⟩, HX.out⟩
  have ho := HO.out
  rw [HRB.out] at ho
  exact enc_in ho
end Go.Proofs.Ytgobegpmojkhaab

/-
  The contract of record.Encode, kind 8.
-/
namespace Go.Proofs.Ytgobegpmojkhaab
open Go.RowKit
set_option linter.unusedVariables false

set_option maxRecDepth 4000 in
set_option maxHeartbeats 1600000 in
theorem enc_8 (r : Rec) (va vb : Value) (w : World) (hr : r.right) (hk : r.k = 8) (hf : r.fits) (hin : RcIn w r va vb) :
    Calls Try.prog 13 #[.agg (rcA r va vb)] w fun e w' => (∃ v, e = .returned (.tuple #[v, .int .i64 0]) ∧ EncIn w' v (recB r)) ∧ Below w.heap.size w w' := by
  have HIN := hide hin
  have HRT := hide (fun w h => right_at r va vb w true (hide ⟨fun _ => hr, fun _ => rfl⟩) hf h)
  obtain ⟨⟨e1, cap1, rfl, -⟩, ⟨e2, cap2, rfl, -⟩⟩ := hin
  have HK0 := hide (Keeps.one w 28 (rcA r (.slice e1 r.ts.length cap1) (.slice e2 r.ds.length cap2)))
  have HRR := hide hr
  have hlm : r.l ≤ 4611686018427387904 := hr.lm
  have hbs := enc_bounds hr
  obtain ⟨b1, b2, b3, b4, b5, b6⟩ := hbs
  go_enter Try.func13, Try.ntmps13
  go_wp2_with (refine wpList_load_at rfl 28 (.tmp 1) rfl w.heap.size rfl (rcA r (.slice e1 r.ts.length cap1) (.slice e2 r.ds.length cap2)) HK0.out.1.1 _ Try.underlying28 rfl infoRc ?_)
  refine (HRT.out _ (HIN.out.below HK0.out.2)).mono ?_
  rintro e x0 ⟨rfl, hb0⟩
  have HK1 := hide (HK0.out.later hb0)
  clear HK0 hb0 HRT
  obtain ⟨g, hg⟩ : ∃ g, g = x0.heap.size := ⟨_, rfl⟩
  have hbl := (Below.refl x0.heap.size x0).alloc (Nat.le_refl _) (.cells #[.slice none 0 0] 62)
  have HW0 : Hid (WK g x0 (x0.alloc (.cells #[.slice none 0 0] 62)) [] [(w.heap.size, 28, (rcA r (.slice e1 r.ts.length cap1) (.slice e2 r.ds.length cap2)))]) := by
    rw [hg]
    exact ⟨⟨.slice none 0 0, RowAt.new _ _ _, World.ownsRow_nil _ _ _ _⟩, Mv.later (Nat.le_refl _) hbl, HK1.out.1.1.later hbl, trivial⟩
  have hA : Hid (Aside g [(w.heap.size, 28, (rcA r (.slice e1 r.ts.length cap1) (.slice e2 r.ds.length cap2)))]) := fun e he => by
    simp only [List.mem_cons, List.not_mem_nil, or_false] at he
    subst he
    exact ⟨by show w.heap.size ≠ g; have := HK1.out.1.1.lt; rw [hg]; exact Nat.ne_of_lt this, by show (28 : TypeId) ≠ 5; decide⟩
  have HBX := hide HK1.out.2
  have HGW : Hid (w.heap.size ≤ g) := by show w.heap.size ≤ g; rw [hg]; exact HBX.out.size
  have HCX := hide (fun (y : World) (bs : List UInt8) (h : WK g x0 y bs [(w.heap.size, 28, (rcA r (.slice e1 r.ts.length cap1) (.slice e2 r.ds.length cap2)))]) => (HBX.out.trans (h.2.1.below.mono HGW.out) : Below w.heap.size w y))
  have c0 := HW0.out.2.2.1.cell 0 (.int .i64 8) (by rw [← hk]; rfl)
  clear hbl HK1
  go_wp2_with fail
  rw [← hg]
  refine gen_calls (fun x => Hid (WK g x0 x [] [(w.heap.size, 28, (rcA r (.slice e1 r.ts.length cap1) (.slice e2 r.ds.length cap2)))])) (by rw [hg]; rw [hg] at HW0; exact HW0) ?_
  clear HW0 c0 hg
  intro y0 H0
  refine (wnum_any g 1 8 [] _ H0.out.1 (by omega) (by omega) (Nat.zero_le _)).mono ?_
  rintro e y1 ⟨rfl, hw, hm⟩
  have H1 := hide (H0.out.step hw hm hA.out)
  clear hw hm H0
  have c1 := H1.out.2.2.1.cell 1 (.int .u64 (r.l : Int)) (by rfl)
  go_wp2_with fail
  refine (wnum_any g 8 r.l ([] ++ beB 1 8) _ H1.out.1 (by omega) (by omega) (by first | (simp only [List.length_append, beB_length, List.length_nil]; done) | (simp only [List.length_append, beB_length, List.length_nil]; omega))).mono ?_
  rintro e y2 ⟨rfl, hw, hm⟩
  have H2 := hide (H1.out.step hw hm hA.out)
  clear hw hm H1
  clear c1
  have c2 := H2.out.2.2.1.cell 2 (.int .i64 r.t) (by rfl)
  go_wp2_with fail
  have W := hide (wnum_any g 4 r.t.toNat (([] ++ beB 1 8) ++ beB 8 r.l) _ H2.out.1 (by omega) (by omega) (by first | (simp only [List.length_append, beB_length, List.length_nil]; done) | (simp only [List.length_append, beB_length, List.length_nil]; omega)))
  rw [Int.toNat_of_nonneg (by omega)] at W
  refine W.out.mono ?_
  clear W
  rintro e y3 ⟨rfl, hw, hm⟩
  have H3 := hide (H2.out.step hw hm hA.out)
  clear hw hm H2
  clear c2
  have c3 := H3.out.2.2.1.cell 3 (.int .u64 (r.p : Int)) (by rfl)
  have c0 := H3.out.2.2.1.cell 0 (.int .i64 8) (by rw [← hk]; rfl)
  go_wp2_with fail
  refine (wnum_any g 8 r.p ((([] ++ beB 1 8) ++ beB 8 r.l) ++ beB 4 r.t.toNat) _ H3.out.1 (by omega) (by omega) (by first | (simp only [List.length_append, beB_length, List.length_nil]; done) | (simp only [List.length_append, beB_length, List.length_nil]; omega))).mono ?_
  rintro e y4 ⟨rfl, hw, hm⟩
  have H4 := hide (H3.out.step hw hm hA.out)
  clear hw hm H3
  clear c3 c0
  have c11 := H4.out.2.2.1.cell 11 (.int .u64 (r.b : Int)) (by rfl)
  have c0 := H4.out.2.2.1.cell 0 (.int .i64 8) (by rw [← hk]; rfl)
  go_wp2_with fail
  refine (wnum_any g 8 r.b (((([] ++ beB 1 8) ++ beB 8 r.l) ++ beB 4 r.t.toNat) ++ beB 8 r.p) _ H4.out.1 (by omega) (by omega) (by first | (simp only [List.length_append, beB_length, List.length_nil]; done) | (simp only [List.length_append, beB_length, List.length_nil]; omega))).mono ?_
  rintro e y5 ⟨rfl, hw, hm⟩
  have H5 := hide (H4.out.step hw hm hA.out)
  clear hw hm H4
  clear c11 c0
  have c12 := H5.out.2.2.1.cell 12 (.slice e1 r.ts.length cap1) (by rfl)
  go_wp2_with fail
  refine (wtxns_any g _ r.ts ((((([] ++ beB 1 8) ++ beB 8 r.l) ++ beB 4 r.t.toNat) ++ beB 8 r.p) ++ beB 8 r.b) w _ H5.out.1 HGW.out (HCX.out _ _ H5.out) HIN.out.1 (enc_txs HRR.out hk) (HRR.out.check hk).1 (by first | (simp only [List.length_append, beB_length, List.length_nil]; done) | (simp only [List.length_append, beB_length, List.length_nil]; omega))).mono ?_
  rintro e y6 ⟨rfl, hw, hm⟩
  have H6 := hide (H5.out.step hw hm hA.out)
  clear hw hm H5
  clear c12
  have c13 := H6.out.2.2.1.cell 13 (.slice e2 r.ds.length cap2) (by rfl)
  go_wp2_with fail
  refine (wdirty_any g _ r.ds (((((([] ++ beB 1 8) ++ beB 8 r.l) ++ beB 4 r.t.toNat) ++ beB 8 r.p) ++ beB 8 r.b) ++ (beB 1 r.ts.length ++ txsB r.ts)) w _ H6.out.1 HGW.out (HCX.out _ _ H6.out) HIN.out.2 (enc_dis HRR.out hk) (HRR.out.check hk).2.1 (by first | (simp only [List.length_append, beB_length, List.length_nil, txsB_len]; done) | (simp only [List.length_append, beB_length, List.length_nil, txsB_len]; omega))).mono ?_
  rintro e y7 ⟨rfl, hw, hm⟩
  have H7 := hide (H6.out.step hw hm hA.out)
  clear hw hm H6
  clear c13
  have hrb : ((((((([] ++ beB 1 8) ++ beB 8 r.l) ++ beB 4 r.t.toNat) ++ beB 8 r.p) ++ beB 8 r.b) ++ (beB 1 r.ts.length ++ txsB r.ts)) ++ (beB 1 r.ds.length ++ disB r.ds)) = recB r := by
    unfold recB mayB
    rw [hk]
    simp [checkB]
  have HX := hide (HCX.out _ _ H7.out)
  obtain ⟨v, hrow, hown⟩ := H7.out.1
  have HO := hide hown
  have HRO := hide hrow
  have HRB := hide hrb
  clear hown hrow hrb H7 hA HIN HCX HBX
  obtain ⟨a, c, hv⟩ := own_shape HO.out
  have HV := hide hv
  clear hv
  go_wp2_with (refine wpList_load_val rfl 30 (.tmp 55) rfl _ v rfl (load_b8 _ v a _ c HV.out (HRO.out.cell 0 v rfl)) ?_)
  (try simp only [Exit.inBlock, Exit.then])
  refine bodyPost_ret (results_tmp2 rfl _ _ _) rfl ?_
  refine ⟨⟨v, rfl, ?_⟩, HX.out⟩
  have ho := HO.out
  rw [HRB.out] at ho
  exact enc_in ho
end Go.Proofs.Ytgobegpmojkhaab

/-
  The contract of quaysideref06.Right, of changes.
-/
namespace Go.Proofs.Ytgobegpmojkhaab
open Go.RowKit
set_option linter.unusedVariables false

end Go.Proofs.Ytgobegpmojkhaab

/-
  The contract of quaysideref06.Right, of what ends and saves.
-/
namespace Go.Proofs.Ytgobegpmojkhaab
open Go.RowKit
set_option linter.unusedVariables false

end Go.Proofs.Ytgobegpmojkhaab

/-
  The contract of quaysideref06.rows.
-/
namespace Go.Proofs.Ytgobegpmojkhaab
open Go.RowKit
set_option linter.unusedVariables false

/-- THE CONTRACT. -/
noncomputable def Rec.rowsB (r : Rec) : Bool := @decide r.rows (Classical.propDecidable _)
theorem rowsB_iff {r : Rec} : r.rowsB = true ↔ r.rows := by
  unfold Rec.rowsB
  exact @decide_eq_true_iff _ (Classical.propDecidable _)
end Go.Proofs.Ytgobegpmojkhaab

/-
  The contract of quaysideref06.Right, of checkpoints.
-/
namespace Go.Proofs.Ytgobegpmojkhaab
open Go.RowKit
set_option linter.unusedVariables false

end Go.Proofs.Ytgobegpmojkhaab

/-
  The contract of quaysideref06.Right, whole.
-/
namespace Go.Proofs.Ytgobegpmojkhaab
open Go.RowKit
set_option linter.unusedVariables false

end Go.Proofs.Ytgobegpmojkhaab

/-
  The contract of quaysideref06.Bytes, of changes.
-/
namespace Go.Proofs.Ytgobegpmojkhaab
open Go.RowKit
set_option linter.unusedVariables false

end Go.Proofs.Ytgobegpmojkhaab

/-
  The contract of quaysideref06.Bytes, of a checkpoint's record.
-/
namespace Go.Proofs.Ytgobegpmojkhaab
open Go.RowKit
set_option linter.unusedVariables false

theorem take_flat {α : Type} (f : α → List UInt8) (z : α) (xs : List α) (j : Nat) (hj : j < xs.length) : (xs.take (j + 1)).flatMap f = (xs.take j).flatMap f ++ f (xs.getD j z) := by
  have e : xs.getD j z = xs[j] := by simp [List.getD, hj]
  rw [List.take_succ_eq_append_getElem hj, List.flatMap_append, e]
  simp
theorem mkS_eq {a b : List UInt8} (h : a = b) : mkS a = mkS b := by rw [h]

end Go.Proofs.Ytgobegpmojkhaab

/-
  The contract of quaysideref06.Encode.
-/
namespace Go.Proofs.Ytgobegpmojkhaab
open Go.RowKit
set_option linter.unusedVariables false

/-- What 'Encode' answers. -/
noncomputable def encE (r : Rec) : Int := if r.rightB = true then 0 else 1
noncomputable def encL (r : Rec) : List UInt8 := if r.rightB = true then recB r else []

end Go.Proofs.Ytgobegpmojkhaab

/-
  The contracts of record.Encode and Size, whole, and of awake.
-/
namespace Go.Proofs.Ytgobegpmojkhaab
open Go.RowKit
set_option linter.unusedVariables false

set_option maxRecDepth 4000 in
set_option maxHeartbeats 1600000 in
theorem enc_no (r : Rec) (va vb : Value) (w : World) (hr : ¬ r.right) (hf : r.fits) (hin : RcIn w r va vb) :
    Calls Try.prog 13 #[.agg (rcA r va vb)] w fun e w' => e = .returned (.tuple #[.slice none 0 0, .int .i64 1]) ∧ Below w.heap.size w w' := by
  have HIN := hide hin
  have HRT := hide (fun w h => right_at r va vb w false (hide ⟨fun h => (nomatch h), fun h => absurd h hr⟩) hf h)
  have HK0 := hide (Keeps.one w 28 (rcA r va vb))
  clear hr hf hin
  obtain ⟨A, hA⟩ : ∃ A, A = rcA r va vb := ⟨_, rfl⟩
  rw [← hA] at HK0 HRT ⊢
  have HIA : Hid ((Try.prog.info? 28).map (·.size) = some A.size) := by
    rw [hA]
    exact infoRc
  clear hA
  go_enter Try.func13, Try.ntmps13
  go_wp2_with (refine wpList_load_at rfl 28 (.tmp 1) rfl w.heap.size rfl A HK0.out.1.1 _ Try.underlying28 rfl HIA.out ?_)
  refine (HRT.out _ (HIN.out.below HK0.out.2)).mono ?_
  rintro e w1 ⟨rfl, hb1⟩
  have d1 := (HK0.out.later hb1).2
  clear HK0 HRT hb1
  go_wp2
  go_ret2
  exact ⟨rfl, d1⟩

/-- THE CONTRACT. -/
theorem enc_any (r : Rec) (va vb : Value) (w : World) (hf : r.fits) (hin : RcIn w r va vb) :
    Calls Try.prog 13 #[.agg (rcA r va vb)] w fun e w' => (∃ v, e = .returned (.tuple #[v, .int .i64 (encE r)]) ∧ EncIn w' v (encL r)) ∧ Below w.heap.size w w' := by
  by_cases hr : r.right
  · have e1 : encL r = recB r := by unfold encL; rw [if_pos (rightB_yes hr)]
    have e2 : encE r = 0 := by unfold encE; rw [if_pos (rightB_yes hr)]
    rw [e1, e2]
    have h1 := hr.k1
    have h8 := hr.k8
    by_cases k1 : r.k = 1
    · exact enc_1 r va vb w hr k1 hf hin
    by_cases k2 : r.k = 2
    · exact enc_2 r va vb w hr k2 hf hin
    by_cases k3 : r.k = 3
    · exact enc_3 r va vb w hr k3 hf hin
    by_cases k4 : r.k = 4
    · exact enc_4 r va vb w hr k4 hf hin
    by_cases k5 : r.k = 5
    · exact enc_5 r va vb w hr k5 hf hin
    by_cases k6 : r.k = 6
    · exact enc_6 r va vb w hr k6 hf hin
    by_cases k7 : r.k = 7
    · exact enc_7 r va vb w hr k7 hf hin
    exact enc_8 r va vb w hr (by omega) hf hin
  · have e1 : encL r = [] := by unfold encL; rw [if_neg (by rw [rightB_no hr]; decide)]
    have e2 : encE r = 1 := by unfold encE; rw [if_neg (by rw [rightB_no hr]; decide)]
    rw [e1, e2]
    refine (enc_no r va vb w hr hf hin).mono ?_
    rintro e w1 ⟨rfl, hb1⟩
    exact ⟨⟨_, rfl, none, 0, rfl, fun _ => rfl, Nat.le_refl _, isB_nil _⟩, hb1⟩

set_option maxRecDepth 4000 in
set_option maxHeartbeats 1600000 in
theorem size_any (r : Rec) (va vb : Value) (w : World) (hf : r.fits) (hin : RcIn w r va vb) :
    Calls Try.prog 11 #[.agg (rcA r va vb)] w fun e w' => e = .returned (.int .i64 ((encL r).length : Int)) ∧ Below w.heap.size w w' := by
  have HIN := hide hin
  have HE := hide (fun w h => enc_any r va vb w hf h)
  have HK0 := hide (Keeps.one w 28 (rcA r va vb))
  clear hf hin
  obtain ⟨A, hA⟩ : ∃ A, A = rcA r va vb := ⟨_, rfl⟩
  rw [← hA] at HK0 HE ⊢
  have HIA : Hid ((Try.prog.info? 28).map (·.size) = some A.size) := by
    rw [hA]
    exact infoRc
  clear hA
  go_enter Try.func11, Try.ntmps11
  go_wp2_with (refine wpList_load_at rfl 28 (.tmp 1) rfl w.heap.size rfl A HK0.out.1.1 _ Try.underlying28 rfl HIA.out ?_)
  refine (HE.out _ (HIN.out.below HK0.out.2)).mono ?_
  rintro e w1 ⟨⟨v, rfl, a, c, rfl, -⟩, hb1⟩
  have d1 := (HK0.out.later hb1).2
  clear HK0 HE hb1
  go_wp2
  go_ret
  exact ⟨rfl, d1⟩

/-! ### awake -/
def awR : Rec := ⟨3, 5, 2, 3, Ch.zero, 0, 0, 0, [], []⟩
theorem awR_right : awR.right := ⟨by decide, by decide, by decide, by decide, fun _ => by decide, fun h => absurd h (by decide), fun h => absurd h (by decide), fun _ => rfl, fun h => absurd h (by decide), fun _ => rfl, fun h => absurd h (by decide), fun _ => rfl, fun h => absurd h (by decide), fun _ => ⟨rfl, rfl, rfl⟩⟩
theorem awR_fits : awR.fits := ⟨zero_fits, Nat.zero_le _, Nat.zero_le _, fun x hx => (nomatch hx), fun x hx => (nomatch hx)⟩
theorem awR_in (w : World) : RcIn w awR (.slice none 0 0) (.slice none 0 0) := ⟨⟨none, 0, rfl, fun h => absurd h (by decide)⟩, ⟨none, 0, rfl, fun h => absurd h (by decide)⟩⟩
def awL : Array Value := #[.int .i64 3, .int .u64 5, .int .i64 2, .int .u64 3, .int .i64 0, .int .i64 0, .int .i64 0, .string ⟨#[]⟩, .string ⟨#[]⟩, .int .u64 0, .int .i64 0, .int .u64 0, .slice none 0 0, .slice none 0 0]
theorem awA : rcA awR (.slice none 0 0) (.slice none 0 0) = awL := rfl
theorem awB : recB awR = [3, 0, 0, 0, 0, 0, 0, 0, 5, 0, 0, 0, 2, 0, 0, 0, 0, 0, 0, 0, 3] := by decide

end Go.Proofs.Ytgobegpmojkhaab

/-
  The contracts of package sum.
-/
namespace Go.Proofs.Ytgobegpmojkhaab
open Go.RowKit
set_option linter.unusedVariables false


theorem sx_yes (q : Nat) (hq : q < 2 ^ 32) (ht : q % 2 = 1) : bits .xor .u32 ((q : Int) / 2) 3988292384 = ((stp q : Nat) : Int) := by
  have e : ((q : Int) / 2) = ((q / 2 : Nat) : Int) := by omega
  have e2 : (3988292384 : Int) = ((3988292384 : Nat) : Int) := rfl
  rw [e, e2, u32_xor_nat (q / 2) 3988292384 (by omega) (by omega), stp, if_pos ht]
  rfl
theorem sx_no (q : Nat) (ht : ¬ q % 2 = 1) : (q : Int) / 2 = ((stp q : Nat) : Int) := by
  rw [stp, if_neg ht]
  omega

theorem sx_and (q : Nat) (hq : q < 2 ^ 32) : bits .and .u32 (q : Int) 1 = ((q % 2 : Nat) : Int) := by
  have e := u32_and_nat q 1 (by omega) (by omega)
  rw [Nat.and_one_is_mod] at e
  exact e
theorem sx_t (q : Nat) (hq : q < 2 ^ 32) (ht : q % 2 = 1) : (bits .and .u32 (q : Int) 1 == 1) = true := by
  rw [sx_and q hq, ht]
  rfl
theorem sx_f (q : Nat) (hq : q < 2 ^ 32) (ht : ¬ q % 2 = 1) : (bits .and .u32 (q : Int) 1 == 1) = false := by
  have h0 : q % 2 = 0 := by omega
  rw [sx_and q hq, h0]
  rfl

set_option maxRecDepth 4000 in
set_option maxHeartbeats 400000 in
theorem shift_at (r c x : Nat) (w : World) (hr : r < 2 ^ 32) (hc : c < 256) (hx : x < 2 ^ 32) (e0 : bits .xor .u32 (r : Int) (c : Int) = ((x : Nat) : Int)) :
    Calls Try.prog 54 #[.int .u32 r, .int .u8 c] w fun e w' => e = .returned (.int .u32 (stps 8 x : Nat)) ∧ w = w' := by
  go_enter Try.func54, Try.ntmps54
  go_wp2
  clear e0
  go_loop [0, 10] (fun q i => ∃ j : Nat, j ≤ 8 ∧ i = .int .i64 j ∧ q = .int .u32 (stps j x : Nat)) (fun _ i => 8 - (intOf i).toNat)
  case atStart => exact ⟨0, Nat.zero_le _, rfl, rfl⟩
  case round =>
    obtain ⟨j, hj, rfl, rfl⟩ := hrel
    by_cases hlt : j < 8
    · have hq := stps_lt j x hx
      have hs := stps_succ j x
      generalize stps j x = q at *
      by_cases ht : q % 2 = 1
      · have h1 := sx_t q hq ht
        go_wp2
        go_round
        case rel => exact ⟨j + 1, by omega, by go_num, by rw [hs]; exact congrArg (Value.int .u32) (sx_yes q hq ht)⟩
        case measure => simp [intOf]; omega
      · have h1 := sx_f q hq ht
        go_wp2
        go_round
        case rel => exact ⟨j + 1, by omega, by go_num, by rw [hs]; exact congrArg (Value.int .u32) (sx_no q ht)⟩
        case measure => simp [intOf]; omega
    · go_wp2
      go_ret
      obtain rfl : j = 8 := by omega
      exact ⟨rfl, rfl⟩

theorem shift_any (r : Nat) (c : UInt8) (w : World) (hr : r < 2 ^ 32) :
    Calls Try.prog 54 #[.int .u32 r, .int .u8 c.toNat] w fun e w' => e = .returned (.int .u32 (byteS r c : Nat)) ∧ w = w' :=
  shift_at r c.toNat (r ^^^ c.toNat) w hr c.toNat_lt (Nat.xor_lt_two_pow hr (u8_lt32 c)) (u32_xor_nat r c.toNat (by omega) (by have := c.toNat_lt; omega))

theorem told_step (q m j x : Nat) (hj : j < 4) (hm : m < 256) (hq : q < 256 ^ j) (hx : x = q + m * 256 ^ j) : bits .or .u32 (q : Int) ((m : Int) * 2 ^ (8 * j) % 4294967296) = ((x : Nat) : Int) := by
  subst hx
  have hp : 256 ^ j * 256 ≤ 4294967296 := by
    have h2 : 256 ^ (j + 1) ≤ 256 ^ 4 := Nat.pow_le_pow_right (by omega) (by omega)
    rw [Nat.pow_succ] at h2
    exact h2
  have e1 : (2 : Int) ^ (8 * j) = ((256 ^ j : Nat) : Int) := by
    rw [Int.pow_mul]
    simp
  have hmx : m * 256 ^ j + 256 ^ j ≤ 4294967296 := by
    have h3 : (m + 1) * 256 ^ j ≤ 256 * 256 ^ j := Nat.mul_le_mul_right _ (by omega)
    rw [Nat.add_mul, Nat.one_mul] at h3
    omega
  have e2 : (m : Int) * 2 ^ (8 * j) % 4294967296 = ((m * 256 ^ j : Nat) : Int) := by
    have e3 : (m : Int) * ((256 ^ j : Nat) : Int) = ((m * 256 ^ j : Nat) : Int) := by rw [Int.natCast_mul]
    rw [e1, e3]
    omega
  have hpw : 256 ^ j = 2 ^ (8 * j) := by rw [Nat.pow_mul]
  rw [e2, u32_or_nat q (m * 256 ^ j) (by omega) (by omega)]
  have e4 : q ||| m * 256 ^ j = q + m * 256 ^ j := by
    rw [Nat.or_comm, hpw, Nat.mul_comm m, ← Nat.two_pow_add_eq_or_of_lt (by rw [← hpw]; exact hq), Nat.add_comm]
  rw [e4]

set_option maxRecDepth 4000 in
set_option maxHeartbeats 400000 in
theorem told_ok (b off cap : Nat) (bs : List UInt8) (w : World) (hb : bs.length = 4)
    (hc : ∀ j, j < 4 → w.cell? ⟨b, off + j, none⟩ = some (.int .u8 ((bs.getD j 0).toNat : Int))) :
    Calls Try.prog 38 #[.slice (some ⟨b, off, none⟩) 4 cap] w fun e w' => e = .returned (.int .u32 (leN bs : Nat)) ∧ w = w' := by
  go_enter Try.func38, Try.ntmps38
  go_wp2
  go_loop [3, 5] (fun q i => ∃ j : Nat, j ≤ 4 ∧ i = .int .i64 j ∧ q = .int .u32 (leN (bs.take j) : Nat)) (fun _ i => 4 - (intOf i).toNat)
  case atStart => exact ⟨0, Nat.zero_le _, rfl, rfl⟩
  case round =>
    obtain ⟨j, hj, rfl, rfl⟩ := hrel
    by_cases hlt : j < 4
    · have hq := leN_lt (bs.take j)
      rw [List.length_take, Nat.min_eq_left (by omega)] at hq
      have hs := leN_take bs j (by omega)
      have hcj := hc j hlt
      have hm : (bs.getD j 0).toNat < 256 := (bs.getD j 0).toNat_lt
      clear hc
      generalize leN (bs.take j) = q at *
      generalize (bs.getD j 0).toNat = m at *
      go_wp2
      go_round
      case rel => exact ⟨j + 1, by omega, by go_num, congrArg (Value.int .u32) (told_step q m j _ hlt hm hq hs)⟩
      case measure => simp [intOf]; omega
    · go_wp2
      go_ret
      obtain rfl : j = 4 := by omega
      rw [List.take_of_length_le (by omega)]
      exact ⟨rfl, rfl⟩

theorem um_xor (m : Nat) (hm : m < 2 ^ 32) : bits .xor .u32 IntKind.u32.max (m : Int) = ((ones ^^^ m : Nat) : Int) := u32_xor_nat ones m (by decide) (by omega)

set_option maxRecDepth 4000 in
set_option maxHeartbeats 400000 in
theorem more_at (m x : Nat) (a : Option Addr) (len cap : Nat) (bs : List UInt8) (w : World) (hm : m < 2 ^ 32) (hx : x < 2 ^ 32) (hB : IsB w a len bs) (hl : len ≤ 140737488355328)
    (e0 : bits .xor .u32 IntKind.u32.max (m : Int) = ((x : Nat) : Int)) :
    Calls Try.prog 43 #[.int .u32 m, .slice a len cap] w fun e w' => e = .returned (.int .u32 (ones ^^^ crun x bs : Nat)) ∧ w = w' := by
  have hsg : ¬ IntKind.u32.signed = true := by decide
  go_enter Try.func43, Try.ntmps43
  go_wp2
  clear e0
  go_loop [5, 12] (fun q i => ∃ j : Nat, j ≤ len ∧ i = .int .i64 j ∧ q = .int .u32 (crun x (bs.take j) : Nat)) (fun _ i => len - (intOf i).toNat)
  case atStart => exact ⟨0, Nat.zero_le _, rfl, rfl⟩
  case round =>
    obtain ⟨j, hj, rfl, rfl⟩ := hrel
    by_cases hlt : j < len
    · obtain ⟨b, off, rfl, hbl, hc⟩ := hB.2 (by omega)
      have hq := crun_lt (bs.take j) x hx
      have hs : crun x (bs.take (j + 1)) = byteS (crun x (bs.take j)) (bs.getD j 0) := by
        have hjl : j < bs.length := by rw [hB.1]; exact hlt
        rw [List.take_succ_eq_append_getElem hjl, crun_snoc]
        simp [List.getD, List.getElem?_eq_getElem hjl]
      have hcj := hc j hlt
      clear hc hB
      generalize crun x (bs.take j) = q at *
      have R := shift_any q (bs.getD j 0) w hq
      have hm : (bs.getD j 0).toNat < 256 := (bs.getD j 0).toNat_lt
      generalize byteS q (bs.getD j 0) = q2 at *
      generalize (bs.getD j 0).toNat = c at *
      have HR := hide R
      clear R
      go_wp2_with fail
      refine HR.out.mono ?_
      rintro e w1 ⟨rfl, rfl⟩
      go_wp2
      go_round
      case rel => exact ⟨j + 1, by omega, by go_num, by rw [hs]⟩
      case measure => simp [intOf]; omega
    · obtain rfl : j = len := by omega
      have hx2 := crun_lt (bs.take j) x hx
      have e1 := um_xor _ hx2
      go_wp2
      go_ret
      have e2 := hB.1
      rw [List.take_of_length_le (by omega)]
      exact ⟨rfl, rfl⟩

theorem more_any (m : Nat) (a : Option Addr) (len cap : Nat) (bs : List UInt8) (w : World) (hm : m < 2 ^ 32) (hB : IsB w a len bs) (hl : len ≤ 140737488355328) :
    Calls Try.prog 43 #[.int .u32 m, .slice a len cap] w fun e w' => e = .returned (.int .u32 (crcMore m bs : Nat)) ∧ w = w' :=
  more_at m (ones ^^^ m) a len cap bs w hm (Nat.xor_lt_two_pow ones_lt hm) hB hl (um_xor m hm)

set_option maxRecDepth 4000 in
set_option maxHeartbeats 400000 in
theorem of_any (a : Option Addr) (len cap : Nat) (bs : List UInt8) (w : World) (hB : IsB w a len bs) (hl : len ≤ 140737488355328) :
    Calls Try.prog 29 #[.slice a len cap] w fun e w' => e = .returned (.int .u32 (crc bs : Nat)) ∧ w = w' := by
  have e0 : crcMore 0 bs = crc bs := by rw [crcMore, crc, Nat.xor_zero]
  have R := more_any 0 a len cap bs w (by decide) hB hl
  rw [e0] at R
  have HR := hide R
  clear R
  go_enter Try.func29, Try.ntmps29
  go_wp2_with fail
  refine HR.out.mono ?_
  rintro e w1 ⟨rfl, rfl⟩
  go_wp2
  go_ret
  exact ⟨rfl, rfl⟩

set_option maxRecDepth 4000 in
set_option maxHeartbeats 400000 in
theorem open_short (a : Option Addr) (len cap : Nat) (w : World) (h : len < 4) :
    Calls Try.prog 20 #[.slice a len cap] w fun e w' => e = .returned (.tuple #[.slice none 0 0, .int .i64 4]) ∧ w = w' := by
  go_enter Try.func20, Try.ntmps20
  go_wp2
  go_ret2
  exact ⟨rfl, rfl⟩

theorem below_drw {B : Nat} {w w' : World} (h : Below B w w') (k : Nat) : Below B w (w'.drewN k) := ⟨h.1, h.2, h.3, h.4, h.5⟩
theorem isB_drewN {w : World} {a : Option Addr} {len k : Nat} {bs : List UInt8} (h : IsB w a len bs) : IsB (w.drewN k) a len bs := h

theorem told_any (a : Option Addr) (cap : Nat) (bs : List UInt8) (w : World) (hB : IsB w a 4 bs) :
    Calls Try.prog 38 #[.slice a 4 cap] w fun e w' => e = .returned (.int .u32 (leN bs : Nat)) ∧ w = w' := by
  obtain ⟨b, off, rfl, _, hc⟩ := hB.2 (by omega)
  exact told_ok b off cap bs w hB.1 hc

theorem of_q (a : Option Addr) (len cap k : Nat) (bs : List UInt8) (w : World) (hB : IsB w a len bs) (hl : len ≤ 140737488355328) :
    Calls Try.prog 29 #[.slice a len cap] (w.drewN k) fun e w' => e = .returned (.int .u32 (crc bs : Nat)) ∧ w' = w.drewN k :=
  (of_any a len cap bs (w.drewN k) (isB_drewN hB) hl).mono fun e w' ⟨he, hw⟩ => ⟨he, hw.symm⟩
theorem told_q (a : Option Addr) (cap k : Nat) (bs : List UInt8) (w : World) (hB : IsB w a 4 bs) :
    Calls Try.prog 38 #[.slice a 4 cap] (w.drewN k) fun e w' => e = .returned (.int .u32 (leN bs : Nat)) ∧ w' = w.drewN k :=
  (told_any a cap bs (w.drewN k) (isB_drewN hB)).mono fun e w' ⟨he, hw⟩ => ⟨he, hw.symm⟩

set_option maxRecDepth 4000 in
set_option maxHeartbeats 400000 in
theorem open_no (b off n cap x y : Nat) (w : World) (hcap : n + 4 ≤ cap) (hl : n ≤ 140737488355328) (hne : ((x : Int) != (y : Int)) = true)
    (H1 : Hid (∀ k cap, Calls Try.prog 29 #[.slice (some ⟨b, off, none⟩) n cap] (w.drewN k) fun e w' => e = .returned (.int .u32 (x : Nat)) ∧ w' = w.drewN k))
    (H2 : Hid (∀ k cap, Calls Try.prog 38 #[.slice (some ⟨b, off + n, none⟩) 4 cap] (w.drewN k) fun e w' => e = .returned (.int .u32 (y : Nat)) ∧ w' = w.drewN k)) :
    Calls Try.prog 20 #[.slice (some ⟨b, off, none⟩) (n + 4) cap] w fun e w' => e = .returned (.tuple #[.slice none 0 0, .int .i64 3]) ∧ Below w.heap.size w w' := by
  go_enter Try.func20, Try.ntmps20
  go_wp2_with fail
  go_quiet (first | (go_at_call 29; exact Calls.quiet_of_same (H1.out _ _)) | (go_at_call 38; exact Calls.quiet_of_same (H2.out _ _)))
  go_wp2
  go_ret2
  exact ⟨rfl, below_drw (Below.refl _ _) nq⟩

set_option maxRecDepth 4000 in
set_option maxHeartbeats 400000 in
theorem open_yes (b off n cap x : Nat) (bs : List UInt8) (w : World) (hcap : n + 4 ≤ cap) (hl : n ≤ 140737488355328) (hB : IsB w (some ⟨b, off, none⟩) n bs)
    (H1 : Hid (∀ k cap, Calls Try.prog 29 #[.slice (some ⟨b, off, none⟩) n cap] (w.drewN k) fun e w' => e = .returned (.int .u32 (x : Nat)) ∧ w' = w.drewN k))
    (H2 : Hid (∀ k cap, Calls Try.prog 38 #[.slice (some ⟨b, off + n, none⟩) 4 cap] (w.drewN k) fun e w' => e = .returned (.int .u32 (x : Nat)) ∧ w' = w.drewN k)) :
    Calls Try.prog 20 #[.slice (some ⟨b, off, none⟩) (n + 4) cap] w fun e w' => ∃ v, e = .returned (.tuple #[v, .int .i64 0]) ∧ w'.ownsRow w.heap.size 5 1 v n (toV bs) ∧ Below w.heap.size w w' := by
  have hmk := run_mkn (P := Try.prog) 30 5 Try.underlying30 info8 n (by omega)
  have HB := hide hB
  clear hB
  go_enter Try.func20, Try.ntmps20
  go_wp2_with fail
  go_quiet (first | (go_at_call 29; exact Calls.quiet_of_same (H1.out _ _)) | (go_at_call 38; exact Calls.quiet_of_same (H2.out _ _)))
  have hB1 := isB_drewN (k := nq) HB.out
  have hb1 := below_drw (Below.refl w.heap.size w) nq
  generalize w.drewN nq = w1 at *
  clear H1 H2 HB
  have hrow : (w1.alloc (.cells (zrow n).toArray 5)).heap[w1.heap.size]? = some (.cells (zrow n).toArray 5 (0, 0)) := heap_alloc_new w1 _
  have hlb := hB1.1
  go_wp2_with (refine wpList_copy_splice rfl (.tmp 23) (.tmp 24) 30 30 rfl 5 Try.underlying30 info8s (some ⟨w1.heap.size, 0, none⟩) (some ⟨b, off, none⟩) n n (n + 4) cap rfl rfl w1.heap.size 0 (zrow n) 5 hrow (toV bs) (by rw [toV_length, hlb]; exact (Nat.min_eq_right (Nat.le_add_right n 4)).symm) (hB1.hpos _ _) (by rw [toV_length, zrow_length, hlb]; omega) (toV_one bs) w.heap.size w (hb1.alloc hb1.size _) hb1.size ?_)
  intro w2 HG hb2
  go_wp2
  go_ret2
  exact ⟨_, rfl, owns_spliced (m := 0) hlb hb1.size (by omega) HG.out, hb2⟩

theorem own_cap {w : World} {base n cap size : Nat} {e : TypeId} {a : Option Addr} {xs : List Value} (h : w.ownsRow base e size (.slice a n cap) n xs) : n ≤ cap := by
  rcases h.2 with ⟨hv, h0⟩ | ⟨g, cap', cur, hv, _, _, hn, _⟩
  · omega
  · injection hv with _ _ h3
    omega

/-- THE CONTRACT of Open. -/
theorem open_any (a : Option Addr) (len cap : Nat) (bs : List UInt8) (w : World) (hB : IsB w a len bs) (hl : len ≤ 140737488355328) (hcap : len ≤ cap) :
    Calls Try.prog 20 #[.slice a len cap] w fun e w' => ∃ v, e = .returned (.tuple #[v, .int .i64 (openS bs).2]) ∧ w'.ownsRow w.heap.size 5 1 v (openS bs).1.length (toV (openS bs).1) ∧ Below w.heap.size w w' := by
  have hb := hB.1
  by_cases h : len < 4
  · rw [openS_short bs (by omega)]
    refine (open_short a len cap w h).mono ?_
    rintro e w' ⟨rfl, rfl⟩
    exact ⟨_, rfl, World.ownsRow_nil _ _ _ _, Below.refl _ _⟩
  obtain ⟨n, rfl⟩ : ∃ n, len = n + 4 := ⟨len - 4, by omega⟩
  obtain ⟨b, off, rfl, hlt, hc⟩ := hB.2 (by omega)
  have e1 : bs.length - 4 = n := by omega
  have c1 : IsB w (some ⟨b, off, none⟩) n (bs.take n) := by
    have h1 := IsB.cut hb hlt hc 0 n (by omega)
    rwa [List.drop_zero] at h1
  have c2 : IsB w (some ⟨b, off + n, none⟩) 4 (bs.drop n) := by
    have h1 := IsB.cut hb hlt hc n 4 (by omega)
    rwa [List.take_of_length_le (by rw [List.length_drop]; omega)] at h1
  have H1 := fun k cap => of_q _ n cap k _ w c1 (by omega)
  have H2 := fun k cap => told_q _ cap k _ w c2
  by_cases h2 : leN (bs.drop (bs.length - 4)) = crc (bs.take (bs.length - 4))
  · rw [openS_ok bs (by omega) h2, e1]
    rw [e1] at h2
    rw [h2] at H2
    have e2 : (bs.take n).length = n := c1.1
    rw [e2]
    exact open_yes b off n cap _ _ w hcap (by omega) c1 H1 H2
  · rw [openS_no bs (by omega) h2]
    rw [e1] at h2
    refine (open_no b off n cap _ _ w hcap (by omega) (by rw [bne_iff_ne]; omega) H1 H2).mono ?_
    rintro e w' ⟨rfl, hbel⟩
    exact ⟨_, rfl, World.ownsRow_nil _ _ _ _, hbel⟩

set_option maxRecDepth 4000 in
set_option maxHeartbeats 400000 in
theorem seal_any (a : Option Addr) (len cap : Nat) (bs : List UInt8) (w : World) (hB : IsB w a len bs) (hl : len ≤ 140737488355328) :
    Calls Try.prog 15 #[.slice a len cap] w fun e w' => ∃ v, e = .returned v ∧ w'.ownsRow w.heap.size 5 1 v (len + 4) (toV (bs ++ leB (crc bs))) ∧ Below w.heap.size w w' := by
  obtain ⟨x, ex⟩ : ∃ x, x = crc bs := ⟨_, rfl⟩
  rw [← ex]
  obtain ⟨i0, hi, hz0, hz1, hz2⟩ := info_parts info8
  have hmk := run_mk (P := Try.prog) 30 5 Try.underlying30 info8 len 4 (by omega)
  have hmk2 : ∀ w : World, (Instr.makeSlice 30 (.int .i64 (len : Int)) (.int .i64 ((len : Int) + 4))).run Try.prog w = .ok (.slice (some ⟨w.heap.size, 0, none⟩) len (len + 4)) (w.alloc (.cells (zrow (len + 4)).toArray 5)) := hmk
  have hrow : (w.alloc (.cells (zrow (len + 4)).toArray 5)).heap[w.heap.size]? = some (.cells (zrow (len + 4)).toArray 5 (0, 0)) := heap_alloc_new w _
  clear hmk
  go_enter Try.func15, Try.ntmps15
  go_wp2_with (refine wpList_copy_splice rfl (.tmp 12) (.tmp 13) 30 30 rfl 5 Try.underlying30 info8s (some ⟨w.heap.size, 0, none⟩) a len (len + 4) len cap rfl rfl w.heap.size 0 (zrow (len + 4)) 5 hrow (toV bs) (by rw [toV_length, hB.1]; exact (Nat.min_self _).symm) (hB.hpos _ _) (by rw [toV_length, zrow_length, hB.1]; omega) (toV_one bs) w.heap.size w ((Below.refl _ _).alloc (Nat.le_refl _) _) (Nat.le_refl _) ?_)
  intro w2 HG hb2
  have hown := owns_spliced (m := 4) hB.1 (Nat.le_refl w.heap.size) (by omega) HG.out
  have R := of_any a len cap bs w2 (hB.below hb2) hl
  have hx := crc_lt bs
  rw [← ex] at R hx
  clear ex
  have HR := hide R
  clear R HG hrow hmk2
  go_wp2_with fail
  refine HR.out.mono ?_
  rintro e w1 ⟨rfl, rfl⟩
  go_wp2
  go_loopw [3, 17] (fun v i wr => ∃ j : Nat, j ≤ 4 ∧ i = .int .i64 j ∧ v = .slice (some ⟨w.heap.size, 0, none⟩) (len + j) (len + 4) ∧ wr.ownsRow w.heap.size 5 1 (.slice (some ⟨w.heap.size, 0, none⟩) (len + j) (len + 4)) (len + j) (toV (bs ++ (leB x).take j)) ∧ Below w.heap.size w wr) (fun _ i _ => 4 - (intOf i).toNat)
  case atStart => exact ⟨0, Nat.zero_le _, rfl, rfl, by simpa using hown, hb2⟩
  case round =>
    obtain ⟨j, hj, rfl, rfl, hownr, hbr⟩ := hrel
    clear hown hb2
    by_cases hlt : j < 4
    · go_wp2_with (at_builtin; refine wpList_append_fits _ rfl (.tmp 20) (.tmp 26) 30 rfl w.heap.size 5 i0 1 Try.underlying30 hi hz1 w.heap.size (len + j) (len + 4) _ rfl (hownr.alloc _) ⟨wr.heap.size, 0, none⟩ 1 1 [.int .u8 ((x : Int) / 2 ^ (8 * j) % 256)] rfl rfl (cell_one_new _ _ _) (by simp [Value.oneCell']) (by omega) ?_)
      intro w2 hown2 hgr
      rw [byte_at] at hown2
      have hown3 := put_row hown2 (leB_take x j hlt)
      have hb3 : Below w.heap.size w w2 := (hbr.alloc hbr.size _).grown hgr (by simp; have := hbr.size; omega) (by simp)
      clear hown2 hgr hownr
      go_wp2
      go_roundw
      case rel => exact ⟨j + 1, by omega, by go_num, by simp [Nat.add_assoc], hown3, hb3⟩
      case measure => simp [intOf]; omega
    · go_wp2
      go_ret
      obtain rfl : j = 4 := by omega
      exact ⟨_, rfl, hownr, hbr⟩
end Go.Proofs.Ytgobegpmojkhaab

/-
  The contract of quaysideref01.Take: it answers 'takeS' too, over the string's bytes.
-/
namespace Go.Proofs.Ytgobegpmojkhaab
open Go.RowKit
set_option linter.unusedVariables false

end Go.Proofs.Ytgobegpmojkhaab

/-
  The contract of quaysideref01.TakeText: it answers 'textS' too, over the string's bytes.
-/
namespace Go.Proofs.Ytgobegpmojkhaab
open Go.RowKit
set_option linter.unusedVariables false

end Go.Proofs.Ytgobegpmojkhaab

/-
  The contracts of quaysideref06's reader.
-/
namespace Go.Proofs.Ytgobegpmojkhaab
open Go.RowKit
set_option linter.unusedVariables false

def rdA (b : ByteArray) (k : Nat) (e : Int) : Array Value := #[.string b, .int .i64 (k : Int), .int .i64 e]
theorem grown_refl (w : World) (o : Option Nat) : w.grownBy w o := ⟨rfl, rfl, rfl, Nat.le_refl _, fun _ _ _ => rfl⟩
theorem grown_drew {w x : World} {o : Option Nat} (h : w.grownBy x o) : w.grownBy x.drew o := ⟨h.os, h.tape, h.output, h.size, h.block⟩
theorem grown_set {w x : World} {g j : Nat} (v : Value) (h : w.grownBy x (some g)) : w.grownBy (x.setCell ⟨g, j, none⟩ v) (some g) := by
  have hb : Below 0 x (x.setCell ⟨g, j, none⟩ v) := (Below.refl 0 x).setCell (Nat.zero_le _) _
  refine ⟨hb.os.trans h.os, hb.tape.trans h.tape, hb.output.trans h.output, Nat.le_trans h.size hb.size, fun k hk hn => ?_⟩
  rw [heap_setCell_other x ⟨g, j, none⟩ k v (fun e => hn (by rw [e]))]
  exact h.block k hk hn
theorem grown_any {w x : World} {o : Option Nat} (h : w.grownBy x none) : w.grownBy x o := ⟨h.os, h.tape, h.output, h.size, fun k hk _ => h.block k hk (by simp)⟩
theorem load_s {b j : Nat} (x : World) (s : ByteArray) (h : x.cell? ⟨b, j, none⟩ = some (.string s)) : (Instr.loadAt 9 (.pointer (some ⟨b, j, none⟩))).run Try.prog x = .ok (.string s) x := by go_simp

/-- What 'num' answers, by what 'Take' answers. -/
theorem num_take (b : ByteArray) (s : St) (k w : Nat) (hw : 1 ≤ w ∧ w ≤ 8) (he : s.e = 0) (hk : k ≤ b.size) (hl : b.data.toList.drop k = s.l) :
    (takeS b.data.toList (k : Int) (w : Int)).1 = ((pNum w s).1 : Int) ∧ (takeS b.data.toList (k : Int) (w : Int)).2 = (pNum w s).2.e ∧ ((pNum w s).2.e = 0 → k + w ≤ b.size ∧ b.data.toList.drop (k + w) = (pNum w s).2.l) := by
  have hz := data_length b
  have hll : s.l.length = b.size - k := by rw [← hl, List.length_drop, hz]
  unfold pNum
  rw [if_neg (by simpa using he)]
  by_cases h : w ≤ s.l.length
  · rw [if_pos h, takeS_ok _ _ _ (by omega) (by rw [hz]; omega)]
    refine ⟨?_, rfl, fun _ => ⟨by omega, ?_⟩⟩
    · show ((beAt b.data.toList (k : Int).toNat (w : Int).toNat : Nat) : Int) = ((be (s.l.take w) : Nat) : Int)
      rw [Int.toNat_natCast, Int.toNat_natCast, ← hl]
      rfl
    · show _ = s.l.drop w
      rw [← hl, List.drop_drop]
  · rw [if_neg h, takeS_short _ _ _ (by omega) (by rw [hz]; omega)]
    exact ⟨rfl, rfl, fun h => by cases h⟩

/-- What 'text' answers, by what 'TakeText' answers. -/
theorem text_take (b : ByteArray) (s : St) (k : Nat) (he : s.e = 0) (hk : k ≤ b.size) (hl : b.data.toList.drop k = s.l) :
    ∃ k2 : Nat, (textS b.data.toList (k : Int)).2.1 = (k2 : Int) ∧ k2 ≤ b.size ∧ (⟨(textS b.data.toList (k : Int)).1.toArray⟩ : ByteArray) = (pText s).1 ∧ (textS b.data.toList (k : Int)).2.2 = (pText s).2.e ∧ ((pText s).2.e = 0 → b.data.toList.drop k2 = (pText s).2.l) := by
  have hz := data_length b
  unfold pText
  rw [if_neg (by simpa using he)]
  cases hs : s.l with
  | nil =>
    have hkk : b.size ≤ k := by
      have h := congrArg List.length hl
      rw [hs, List.length_drop, hz] at h
      simp only [List.length_nil] at h
      omega
    rw [textS_short _ _ (by omega) (by rw [hz]; omega)]
    exact ⟨0, rfl, by omega, rfl, rfl, fun h => by cases h⟩
  | cons x l =>
    have hlen : k < b.size := by
      have h := congrArg List.length hl
      rw [hs, List.length_drop, hz, List.length_cons] at h
      omega
    have hll : l.length = b.size - k - 1 := by
      have h := congrArg List.length hl
      rw [hs, List.length_drop, hz, List.length_cons] at h
      omega
    have hx : b.data.toList.getD k 0 = x := by
      have h : (b.data.toList.drop k)[0]? = some x := by rw [hl, hs]; rfl
      rw [List.getElem?_drop, Nat.add_zero] at h
      rw [List.getD, h]
      rfl
    have hd : b.data.toList.drop (k + 1) = l := by
      have h : (b.data.toList.drop k).drop 1 = l := by rw [hl, hs]; rfl
      rwa [List.drop_drop] at h
    simp only
    by_cases hb : x.toNat ≤ l.length
    · rw [if_pos hb, textS_ok _ k x.toNat (by rw [hz]; omega) (by rw [hx]) (by rw [hz]; omega)]
      refine ⟨k + 1 + x.toNat, by show (k : Int) + 1 + (x.toNat : Int) = _; omega, by omega, by rw [hd], rfl, fun _ => ?_⟩
      show _ = l.drop x.toNat
      rw [← hd, List.drop_drop]
    · rw [if_neg hb, textS_few _ k x.toNat (by rw [hz]; omega) (by rw [hx]) (by rw [hz]; omega)]
      exact ⟨0, rfl, by omega, rfl, rfl, fun h => by cases h⟩

theorem grown_trans {w x y : World} {o : Option Nat} (h : w.grownBy x o) (g : x.grownBy y o) : w.grownBy y o :=
  ⟨g.os.trans h.os, g.tape.trans h.tape, g.output.trans h.output, Nat.le_trans h.size g.size, fun k hk hn => (g.block k (Nat.lt_of_lt_of_le hk h.size) hn).trans (h.block k hk hn)⟩

end Go.Proofs.Ytgobegpmojkhaab

/-
  The contract of pack.Take: of any bytes, at any place, in any width it answers 'takeS', and turns nothing.
-/
namespace Go.Proofs.Ytgobegpmojkhaab
open Go.RowKit
set_option linter.unusedVariables false

set_option maxRecDepth 4000 in
set_option maxHeartbeats 400000 in
theorem take_arg1 (a : Option Addr) (len cap : Nat) (p k : Int) (w : World) (h : k < 1) :
    Calls Try.prog 37 #[.slice a len cap, .int .i64 p, .int .i64 k] w fun e w' => e = .returned (.tuple #[.int .u64 0, .int .i64 1]) ∧ w = w' := by
  have h1 : ¬ (1 : Int) ≤ k := by omega
  go_enter Try.func37, Try.ntmps37
  go_wp2
  go_ret2
  exact ⟨rfl, rfl⟩

set_option maxRecDepth 4000 in
set_option maxHeartbeats 400000 in
theorem take_arg2 (a : Option Addr) (len cap : Nat) (p k : Int) (w : World) (h : 8 < k) :
    Calls Try.prog 37 #[.slice a len cap, .int .i64 p, .int .i64 k] w fun e w' => e = .returned (.tuple #[.int .u64 0, .int .i64 1]) ∧ w = w' := by
  have h1 : (1 : Int) ≤ k := by omega
  have h2 : ¬ k ≤ 8 := by omega
  go_enter Try.func37, Try.ntmps37
  go_wp2
  go_ret2
  exact ⟨rfl, rfl⟩

set_option maxRecDepth 4000 in
set_option maxHeartbeats 400000 in
theorem take_arg3 (a : Option Addr) (len cap : Nat) (p k : Int) (w : World) (h1 : 1 ≤ k) (h2 : k ≤ 8) (h3 : p < 0) :
    Calls Try.prog 37 #[.slice a len cap, .int .i64 p, .int .i64 k] w fun e w' => e = .returned (.tuple #[.int .u64 0, .int .i64 1]) ∧ w = w' := by
  go_enter Try.func37, Try.ntmps37
  go_wp2
  go_ret2
  exact ⟨rfl, rfl⟩

set_option maxRecDepth 4000 in
set_option maxHeartbeats 400000 in
theorem take_short (a : Option Addr) (len cap : Nat) (p k : Int) (w : World) (hl : len ≤ 9223372036854775807) (hp : p ≤ 9223372036854775807) (h1 : 1 ≤ k) (h2 : k ≤ 8) (h3 : 0 ≤ p) (h4 : (len : Int) - p < k) :
    Calls Try.prog 37 #[.slice a len cap, .int .i64 p, .int .i64 k] w fun e w' => e = .returned (.tuple #[.int .u64 0, .int .i64 4]) ∧ w = w' := by
  have h5 : ¬ p < 0 := by omega
  go_enter Try.func37, Try.ntmps37
  go_wp2
  go_ret2
  exact ⟨rfl, rfl⟩

set_option maxRecDepth 4000 in
set_option maxHeartbeats 400000 in
theorem take_ok (b off : Nat) (len cap : Nat) (bs : List UInt8) (p k : Nat) (w : World) (hl : len ≤ 9223372036854775807) (h1 : 1 ≤ k) (h2 : k ≤ 8) (h4 : p + k ≤ len) (hb : bs.length = len)
    (hc : ∀ j, j < len → w.cell? ⟨b, off + j, none⟩ = some (.int .u8 ((bs.getD j 0).toNat : Int))) :
    Calls Try.prog 37 #[.slice (some ⟨b, off, none⟩) len cap, .int .i64 p, .int .i64 k] w fun e w' => e = .returned (.tuple #[.int .u64 (beAt bs p k : Nat), .int .i64 0]) ∧ w = w' := by
  have h3 : ¬ (p : Int) < 0 := by omega
  have h5 : ¬ (len : Int) - (p : Int) < (k : Int) := by omega
  have h6 : (1 : Int) ≤ (k : Int) := by omega
  have h7 : (k : Int) ≤ 8 := by omega
  go_enter Try.func37, Try.ntmps37
  go_wp2
  go_loop [8, 24] (fun n i => ∃ j : Nat, j ≤ k ∧ i = .int .i64 j ∧ n = .int .u64 (beAt bs p j : Nat)) (fun _ i => k - (intOf i).toNat)
  case atStart => exact ⟨0, Nat.zero_le _, rfl, by rw [beAt_zero]; rfl⟩
  case round =>
    obtain ⟨j, hj, rfl, rfl⟩ := hrel
    by_cases hlt : j < k
    · have hcj : w.cell? ⟨b, off + (p + j), none⟩ = some (.int .u8 ((bs.getD (p + j) 0).toNat : Int)) := hc (p + j) (by omega)
      have hby : (bs.getD (p + j) 0).toNat < 256 := (bs.getD (p + j) 0).toNat_lt
      have hn := beAt_lt7 bs p j (by omega)
      go_wp2
      go_round
      case rel => exact ⟨j + 1, by omega, by go_num, by rw [take_step bs p j (by omega) (by omega)]⟩
      case measure => simp [intOf]; omega
    · go_wp2
      go_ret2
      obtain rfl : j = k := by omega
      exact ⟨rfl, rfl⟩

/-- THE CONTRACT. -/
theorem take_any (a : Option Addr) (len cap : Nat) (bs : List UInt8) (p k : Int) (w : World) (hB : IsB w a len bs) (hl : len ≤ 9223372036854775807) (hp : p ≤ 9223372036854775807) :
    Calls Try.prog 37 #[.slice a len cap, .int .i64 p, .int .i64 k] w fun e w' => e = .returned (.tuple #[.int .u64 (takeS bs p k).1, .int .i64 (takeS bs p k).2]) ∧ w = w' := by
  obtain ⟨hb, hc⟩ := hB
  by_cases h1 : k < 1
  · rw [takeS_arg bs p k (Or.inl h1)]
    exact take_arg1 a len cap p k w h1
  by_cases h2 : 8 < k
  · rw [takeS_arg bs p k (Or.inr (Or.inl h2))]
    exact take_arg2 a len cap p k w h2
  by_cases h3 : p < 0
  · rw [takeS_arg bs p k (Or.inr (Or.inr h3))]
    exact take_arg3 a len cap p k w (by omega) (by omega) h3
  have h0 : ¬ (k < 1 ∨ 8 < k ∨ p < 0) := by omega
  by_cases h4 : (bs.length : Int) - p < k
  · rw [takeS_short bs p k h0 h4]
    exact take_short a len cap p k w hl hp (by omega) (by omega) (by omega) (by omega)
  · rw [takeS_ok bs p k h0 h4]
    obtain ⟨b, off, rfl, _, hcell⟩ := hc (by omega)
    obtain ⟨pn, rfl⟩ := Int.eq_ofNat_of_zero_le (show 0 ≤ p by omega)
    obtain ⟨kn, rfl⟩ := Int.eq_ofNat_of_zero_le (show 0 ≤ k by omega)
    exact take_ok b off len cap bs pn kn w hl (by omega) (by omega) (by omega) hb hcell
end Go.Proofs.Ytgobegpmojkhaab

/-
  The contract of pack.TakeText: of any bytes, at any place it answers 'textS', and turns nothing.
-/
namespace Go.Proofs.Ytgobegpmojkhaab
open Go.RowKit
set_option linter.unusedVariables false

theorem take_one (b off len cap p : Nat) (bs : List UInt8) (m : Nat) (w : World) (hl : len ≤ 9223372036854775807) (hb : bs.length = len)
    (hc : ∀ j, j < len → w.cell? ⟨b, off + j, none⟩ = some (.int .u8 ((bs.getD j 0).toNat : Int))) (h1 : p < len) (hm : (bs.getD p 0).toNat = m) :
    Calls Try.prog 37 #[.slice (some ⟨b, off, none⟩) len cap, .int .i64 p, .int .i64 1] w fun e w' => e = .returned (.tuple #[.int .u64 m, .int .i64 0]) ∧ w = w' := by
  have T := take_ok b off len cap bs p 1 w hl (by omega) (by omega) (by omega) hb hc
  have e : beAt bs p 1 = m := by
    have e1 : beAt bs p 1 = beAt bs p 0 * 256 + (bs.getD p 0).toNat := beAt_succ bs p 0 (by omega)
    rw [beAt_zero, hm] at e1
    omega
  rw [e] at T
  exact T

set_option maxRecDepth 4000 in
set_option maxHeartbeats 400000 in
theorem ttext_ok (b off len cap p : Nat) (bs : List UInt8) (m : Nat) (w : World) (hl : len ≤ 9223372036854775807) (hcap : len ≤ cap) (hb : bs.length = len)
    (hc : ∀ j, j < len → w.cell? ⟨b, off + j, none⟩ = some (.int .u8 ((bs.getD j 0).toNat : Int))) (hbl : b < w.heap.size) (h1 : p < len) (hm : (bs.getD p 0).toNat = m) (h2 : p + 1 + m ≤ len) :
    Calls Try.prog 57 #[.slice (some ⟨b, off, none⟩) len cap, .int .i64 p] w fun e w' => e = .returned (.tuple #[.string ⟨((bs.drop (p + 1)).take m).toArray⟩, .int .i64 ((p : Int) + 1 + (m : Int)), .int .i64 0]) ∧ w = w' := by
  have T := take_one b off len cap p bs m w hl hb hc h1 hm
  have HT : Hid (Calls Try.prog 37 #[.slice (some ⟨b, off, none⟩) len cap, .int .i64 p, .int .i64 1] w fun e w' => e = .returned (.tuple #[.int .u64 m, .int .i64 0]) ∧ w = w') := T
  clear T
  have hm2 : m < 256 := by rw [← hm]; exact (bs.getD p 0).toNat_lt
  have hcv := run_toString (P := Try.prog) w 30 9 5 Try.underlying30 Try.underlying5 Try.underlying9 (some ⟨b, off + (p + 1), none⟩) m (cap - (p + 1)) _ (IsB.cut hb hbl hc (p + 1) m h2)
  have hcv0 := run_toString (P := Try.prog) w 30 9 5 Try.underlying30 Try.underlying5 Try.underlying9 (some ⟨b, off, none⟩) 0 0 _ (IsB.none_left w _)
  clear hm
  by_cases hcp : cap = p + 1
  · obtain rfl : m = 0 := by omega
    obtain rfl : len = p + 1 := by omega
    subst hcp
    clear hcv
    go_enter Try.func57, Try.ntmps57
    go_wp2_with fail
    refine HT.out.mono ?_
    rintro e w1 ⟨rfl, rfl⟩
    go_wp2
    go_ret3
    exact ⟨by simp, rfl⟩
  · clear hcv0
    go_enter Try.func57, Try.ntmps57
    go_wp2_with fail
    refine HT.out.mono ?_
    rintro e w1 ⟨rfl, rfl⟩
    go_wp2
    go_ret3
    exact ⟨rfl, rfl⟩

set_option maxRecDepth 4000 in
set_option maxHeartbeats 400000 in
theorem ttext_few (b off len cap p : Nat) (bs : List UInt8) (m : Nat) (w : World) (hl : len ≤ 9223372036854775807) (hb : bs.length = len)
    (hc : ∀ j, j < len → w.cell? ⟨b, off + j, none⟩ = some (.int .u8 ((bs.getD j 0).toNat : Int))) (h1 : p < len) (hm : (bs.getD p 0).toNat = m) (h2 : len < p + 1 + m) :
    Calls Try.prog 57 #[.slice (some ⟨b, off, none⟩) len cap, .int .i64 p] w fun e w' => e = .returned (.tuple #[.string ⟨#[]⟩, .int .i64 0, .int .i64 4]) ∧ w = w' := by
  have T := take_one b off len cap p bs m w hl hb hc h1 hm
  have HT : Hid (Calls Try.prog 37 #[.slice (some ⟨b, off, none⟩) len cap, .int .i64 p, .int .i64 1] w fun e w' => e = .returned (.tuple #[.int .u64 m, .int .i64 0]) ∧ w = w') := T
  clear T
  have hm2 : m < 256 := by rw [← hm]; exact (bs.getD p 0).toNat_lt
  clear hm
  go_enter Try.func57, Try.ntmps57
  go_wp2_with fail
  refine HT.out.mono ?_
  rintro e w1 ⟨rfl, rfl⟩
  go_wp2
  go_ret3
  exact ⟨rfl, rfl⟩

set_option maxRecDepth 4000 in
set_option maxHeartbeats 400000 in
theorem ttext_err (a : Option Addr) (len cap : Nat) (p : Int) (x : Int) (w : World) (hx : (x != 0) = true)
    (HT : Hid (Calls Try.prog 37 #[.slice a len cap, .int .i64 p, .int .i64 1] w fun e w' => e = .returned (.tuple #[.int .u64 0, .int .i64 x]) ∧ w = w')) :
    Calls Try.prog 57 #[.slice a len cap, .int .i64 p] w fun e w' => e = .returned (.tuple #[.string ⟨#[]⟩, .int .i64 0, .int .i64 x]) ∧ w = w' := by
  go_enter Try.func57, Try.ntmps57
  go_wp2_with fail
  refine HT.out.mono ?_
  rintro e w1 ⟨rfl, rfl⟩
  go_wp2
  go_ret3
  exact ⟨rfl, rfl⟩

/-- THE CONTRACT. -/
theorem ttext_any (a : Option Addr) (len cap : Nat) (bs : List UInt8) (p : Int) (w : World) (hB : IsB w a len bs) (hl : len ≤ 9223372036854775807) (hcap : len ≤ cap) (hp : p ≤ 9223372036854775807) :
    Calls Try.prog 57 #[.slice a len cap, .int .i64 p] w fun e w' => e = .returned (.tuple #[.string ⟨(textS bs p).1.toArray⟩, .int .i64 (textS bs p).2.1, .int .i64 (textS bs p).2.2]) ∧ w = w' := by
  have hb := hB.1
  by_cases h1 : p < 0
  · rw [textS_arg bs p h1]
    exact ttext_err a len cap p 1 w (by decide) (take_arg3 a len cap p 1 w (by omega) (by omega) h1)
  by_cases h2 : (bs.length : Int) ≤ p
  · rw [textS_short bs p h1 h2]
    exact ttext_err a len cap p 4 w (by decide) (take_short a len cap p 1 w hl hp (by omega) (by omega) (by omega) (by omega))
  obtain ⟨pn, rfl⟩ := Int.eq_ofNat_of_zero_le (show 0 ≤ p by omega)
  obtain ⟨b, off, rfl, hbl, hc⟩ := hB.2 (by omega)
  by_cases h3 : pn + 1 + (bs.getD pn 0).toNat ≤ len
  · rw [textS_ok bs pn _ (by omega) rfl (by omega)]
    exact ttext_ok b off len cap pn bs _ w hl hcap hb hc hbl (by omega) rfl h3
  · rw [textS_few bs pn _ (by omega) rfl (by omega)]
    exact ttext_few b off len cap pn bs _ w hl hb hc (by omega) rfl (by omega)
end Go.Proofs.Ytgobegpmojkhaab

/-
  The reader of package record: number, text, kind, count.
-/
namespace Go.Proofs.Ytgobegpmojkhaab
open Go.RowKit
set_option linter.unusedVariables false

/-- A reader's cells: its bytes, how far they are read, the first error, the record so far. -/
def rdB (v : Value) (k : Nat) (e : Int) (r : Rec) (va vb : Value) : Array Value := #[v, .int .i64 (k : Int), .int .i64 e, .int .i64 r.k, .int .u64 (r.l : Int), .int .i64 r.t, .int .u64 (r.p : Int), .int .i64 r.c.k, .int .i64 r.c.pg, .int .i64 r.c.sl, .string r.c.o, .string r.c.n, .int .u64 (r.n : Int), .int .i64 r.s, .int .u64 (r.b : Int), va, vb]
/-- A reader in memory, and what is left to read. -/
structure RbAt (w : World) (g : Nat) (a : Option Addr) (len cap : Nat) (bs : List UInt8) (s : St) (r : Rec) (va vb : Value) : Prop where
  row : ∃ k : Nat, RowAt w g 79 (rdB (.slice a len cap) k s.e r va vb) ∧ k ≤ bs.length ∧ (s.e = 0 → bs.drop k = s.l)
  bytes : IsB w a len bs
  room : len ≤ 140737488355328 ∧ len ≤ cap
  apart : 0 < len → ∀ x, a = some x → x.block < g

theorem isB_grown {w x : World} {a : Option Addr} {len g : Nat} {bs : List UInt8} (h : IsB w a len bs) (hg : w.grownBy x (some g)) (hn : 0 < len → ∀ y, a = some y → y.block ≠ g) : IsB x a len bs := by
  refine ⟨h.1, fun hp => ?_⟩
  obtain ⟨b, off, ha, hlt, hc⟩ := h.2 hp
  refine ⟨b, off, ha, Nat.lt_of_lt_of_le hlt hg.size, fun j hj => ?_⟩
  rw [World.cell?_of_block (a := ⟨b, off + j, none⟩) (hg.block b hlt (fun e => hn hp _ ha (by cases e; rfl)))]
  exact hc j hj
theorem apart_ne {len g : Nat} {a : Option Addr} (h : 0 < len → ∀ x, a = some x → x.block < g) : 0 < len → ∀ x, a = some x → x.block ≠ g := fun hp x hx => Nat.ne_of_lt (h hp x hx)
theorem row_grown {w x : World} {g k : Nat} {t : TypeId} {cs : Array Value} (h : RowAt w k t cs) (hg : w.grownBy x (some g)) (hn : k ≠ g) : RowAt x k t cs := (hg.block k h.lt (fun e => hn (by cases e; rfl))).trans h
theorem grown_none {w x : World} (h : w.grownBy x none) : Below w.heap.size w x := ⟨h.os, h.tape, h.output, h.size, fun k hk => h.block k hk (by simp)⟩
theorem of_below {w x : World} {o : Option Nat} (h : Below w.heap.size w x) : w.grownBy x o := ⟨h.os, h.tape, h.output, h.size, fun k hk _ => h.block k hk⟩

theorem num_zero {k : Nat} {s : St} (h : (pNum k s).2.e ≠ 0) : (pNum k s).1 = 0 := by
  unfold pNum at h ⊢
  by_cases he : s.e ≠ 0
  · rw [if_pos he]
  · rw [if_neg he] at h ⊢
    by_cases hk : k ≤ s.l.length
    · rw [if_pos hk] at h
      exact absurd rfl h
    · rw [if_neg hk]
theorem text_zero {s : St} (h : (pText s).2.e ≠ 0) : (pText s).1 = ⟨#[]⟩ := by
  unfold pText at h ⊢
  by_cases he : s.e ≠ 0
  · rw [if_pos he]
  · rw [if_neg he] at h ⊢
    cases hs : s.l with
    | nil => rfl
    | cons b l =>
      rw [hs] at h
      simp only at h ⊢
      by_cases hk : b.toNat ≤ l.length
      · rw [if_pos hk] at h
        exact absurd rfl h
      · rw [if_neg hk]

set_option maxRecDepth 4000 in
set_option maxHeartbeats 1600000 in
theorem bnum_any (g : Nat) (a : Option Addr) (len cap : Nat) (bs : List UInt8) (s : St) (r : Rec) (va vb : Value) (k : Nat) (w : World) (hk : 1 ≤ k ∧ k ≤ 8) (h : RbAt w g a len cap bs s r va vb) :
    Calls Try.prog 49 #[.pointer (some ⟨g, 0, none⟩), .int .i64 (k : Int)] w fun e w' => e = .returned (.int .u64 ((pNum k s).1 : Int)) ∧ RbAt w' g a len cap bs (pNum k s).2 r va vb ∧ w.grownBy w' (some g) := by
  obtain ⟨p, hr, hp, hs⟩ := h.row
  have HBY := hide h.bytes
  have HRM := hide h.room
  have HAP := hide h.apart
  have c2 := hr.cell 2 (.int .i64 s.e) rfl
  have HR := hide hr
  have hbl := h.bytes.1
  clear hr h
  by_cases he : s.e = 0
  · obtain ⟨hl⟩ := And.intro (hs he) trivial
    obtain ⟨t1, t2, t3⟩ := num_take ⟨bs.toArray⟩ s p k hk he (by rw [size_mk]; exact hp) hl
    have HT := hide (fun w hB => take_any a len cap bs (p : Int) (k : Int) w hB (by have := HRM.out.1; omega) (by have := HRM.out.1; omega))
    rw [show (⟨bs.toArray⟩ : ByteArray).data.toList = bs from rfl] at t1 t2 t3
    rw [size_mk] at t3
    rw [t1, t2] at HT
    have H3 := hide t3
    have HZ := hide (num_zero (k := k) (s := s))
    have ew : IntKind.i64.wrap ((p : Int) + (k : Int)) = (p : Int) + (k : Int) := by rw [IntKind.wrap_i64]; have := HRM.out.1; omega
    clear t1 t2 t3
    rw [he] at c2 HR
    clear hs hl he
    generalize pNum k s = ns at *
    obtain ⟨n, s'⟩ := ns
    simp only at HT H3 HZ
    go_enter Try.func49, Try.ntmps49
    go_wp2_with fail
    refine wp_region_in (fun x => w.grownBy x none ∧ RowAt x g 79 (rdB (.slice a len cap) p 0 r va vb) ∧ IsB x a len bs) (by kernel_rfl) (by kernel_rfl) ⟨grown_drew (grown_refl w none), HR.out, HBY.out⟩ ?_
    clear HR c2
    repeat (first
      | go_big_quiet_skip
      | (refine wpQuiet_load rfl 30 (.tmp 15) rfl _ (.slice a len cap) rfl (fun y hy => load_b8 y _ a len cap rfl (hy.2.1.cell 0 _ rfl)) ?_; simp only [Act.put, Array.setIfInBounds, List.size_toArray, List.length_cons, List.length_nil, Nat.reduceAdd, Nat.reduceLT, ↓reduceDIte, List.set_toArray, List.set_cons_succ, List.set_cons_zero])
      | (refine wpQuiet_load rfl 3 (.tmp 19) rfl _ (.int .i64 (p : Int)) rfl (fun y hy => load_i64 y (p : Int) (hy.2.1.cell 1 (.int .i64 (p : Int)) rfl)) ?_; simp only [Act.put, Array.setIfInBounds, List.size_toArray, List.length_cons, List.length_nil, Nat.reduceAdd, Nat.reduceLT, ↓reduceDIte, List.set_toArray, List.set_cons_succ, List.set_cons_zero])
      | (refine wpQuiet_call rfl 37 #[.slice a len cap, .int .i64 (p : Int), .int .i64 (k : Int)] (.tuple #[.int .u64 (n : Int), .int .i64 s'.e]) ?_ (fun x hC => (HT.out x hC.2.2).mono fun e x' h => ⟨h.1, h.2 ▸ hC⟩) ?_; (intro x; go_simp); simp only [Act.put, Array.setIfInBounds, List.size_toArray, List.length_cons, List.length_nil, Nat.reduceAdd, Nat.reduceLT, ↓reduceDIte, List.set_toArray, List.set_cons_succ, List.set_cons_zero])
      | (refine wpQuiet_plain rfl (fun K hK => ?_); go_simp; refine hK _ ?_; clear hK K))
    refine wpQuiet_nil ?_
    intro x hx
    have q1 := hx.2.1.cell 1 (.int .i64 (p : Int)) rfl
    have q2 := hx.2.1.cell 2 (.int .i64 0) rfl
    have f1 := hx.2.1.free 1
    have f2 := hx.2.1.free 2
    have HG := hide (grown_any (o := some g) hx.1)
    by_cases h0 : s'.e = 0
    · have HX : Hid (RbAt (x.setCell ⟨g, 1, none⟩ (.int .i64 ((p : Int) + (k : Int)))) g a len cap bs s' r va vb ∧ w.grownBy (x.setCell ⟨g, 1, none⟩ (.int .i64 ((p : Int) + (k : Int)))) (some g)) := by
        have hg := grown_set (j := 1) (.int .i64 ((p : Int) + (k : Int))) HG.out
        refine ⟨⟨⟨p + k, ?_, (H3.out h0).1, fun _ => (H3.out h0).2⟩, isB_grown HBY.out hg (apart_ne HAP.out), HRM.out, HAP.out⟩, hg⟩
        rw [h0]
        have h := hx.2.1.set 1 (.int .i64 ((p + k : Nat) : Int))
        rw [show ((p + k : Nat) : Int) = (p : Int) + (k : Int) by omega] at h
        unfold rdB at h ⊢
        rw [show ((p + k : Nat) : Int) = (p : Int) + (k : Int) by omega]
        exact h
      rw [h0]
      clear hx HT H3 HZ HG HBY HRM HAP h0
      go_wp2
      go_ret
      exact ⟨rfl, HX.out.1, HX.out.2⟩
    · have HX : Hid (RbAt (x.setCell ⟨g, 2, none⟩ (.int .i64 s'.e)) g a len cap bs s' r va vb ∧ w.grownBy (x.setCell ⟨g, 2, none⟩ (.int .i64 s'.e)) (some g)) := by
        have hg := grown_set (j := 2) (.int .i64 s'.e) HG.out
        exact ⟨⟨⟨p, hx.2.1.set 2 (.int .i64 s'.e), hp, fun h => absurd h h0⟩, isB_grown HBY.out hg (apart_ne HAP.out), HRM.out, HAP.out⟩, hg⟩
      have n0 := HZ.out h0
      have k0 : (s'.e == 0) = false := by rw [beq_eq_false_iff_ne]; exact h0
      have k1 : (s'.e != 0) = true := by rw [bne, k0]; rfl
      clear hx HT H3 HZ HG HBY HRM HAP h0
      have HN := hide n0
      clear n0
      generalize s'.e = es at *
      go_wp2
      go_ret
      exact ⟨by rw [HN.out]; rfl, HX.out.1, HX.out.2⟩
  · have e : pNum k s = (0, s) := by unfold pNum; rw [if_pos he]
    rw [e]
    have k0 : (s.e == 0) = false := by rw [beq_eq_false_iff_ne]; exact he
    have k1 : (s.e != 0) = true := by rw [bne, k0]; rfl
    have HP := hide (show RbAt w g a len cap bs s r va vb from ⟨⟨p, HR.out, hp, hs⟩, HBY.out, HRM.out, HAP.out⟩)
    clear HR he hs e
    generalize s.e = es at *
    go_enter Try.func49, Try.ntmps49
    go_wp2
    go_ret
    exact ⟨rfl, HP.out, grown_refl _ _⟩

set_option maxRecDepth 4000 in
set_option maxHeartbeats 1600000 in
theorem btext_any (g : Nat) (a : Option Addr) (len cap : Nat) (bs : List UInt8) (s : St) (r : Rec) (va vb : Value) (w : World) (h : RbAt w g a len cap bs s r va vb) :
    Calls Try.prog 55 #[.pointer (some ⟨g, 0, none⟩)] w fun e w' => e = .returned (.string (pText s).1) ∧ RbAt w' g a len cap bs (pText s).2 r va vb ∧ w.grownBy w' (some g) := by
  obtain ⟨p, hr, hp, hs⟩ := h.row
  have HBY := hide h.bytes
  have HRM := hide h.room
  have HAP := hide h.apart
  have c2 := hr.cell 2 (.int .i64 s.e) rfl
  have HR := hide hr
  have hbl := h.bytes.1
  clear hr h
  by_cases he : s.e = 0
  · obtain ⟨hl⟩ := And.intro (hs he) trivial
    obtain ⟨k2, t1, t2, t3, t4, t5⟩ := text_take ⟨bs.toArray⟩ s p he (by rw [size_mk]; exact hp) hl
    have HT := hide (fun w hB => ttext_any a len cap bs (p : Int) w hB (by have := HRM.out.1; omega) HRM.out.2 (by have := HRM.out.1; omega))
    rw [show (⟨bs.toArray⟩ : ByteArray).data.toList = bs from rfl] at t1 t3 t4 t5
    rw [size_mk] at t2
    rw [t1, t3, t4] at HT
    have H3 := hide (fun h => And.intro t2 (t5 h))
    have HZ := hide (text_zero (s := s))
    clear t1 t2 t3 t4 t5
    rw [he] at c2 HR
    clear hs hl he
    generalize pText s = ns at *
    obtain ⟨n, s'⟩ := ns
    simp only at HT H3 HZ
    go_enter Try.func55, Try.ntmps55
    go_wp2_with fail
    refine wp_region_in (fun x => w.grownBy x none ∧ RowAt x g 79 (rdB (.slice a len cap) p 0 r va vb) ∧ IsB x a len bs) (by kernel_rfl) (by kernel_rfl) ⟨grown_drew (grown_refl w none), HR.out, HBY.out⟩ ?_
    clear HR c2
    repeat (first
      | go_big_quiet_skip
      | (refine wpQuiet_load rfl 30 (.tmp 14) rfl _ (.slice a len cap) rfl (fun y hy => load_b8 y _ a len cap rfl (hy.2.1.cell 0 _ rfl)) ?_; simp only [Act.put, Array.setIfInBounds, List.size_toArray, List.length_cons, List.length_nil, Nat.reduceAdd, Nat.reduceLT, ↓reduceDIte, List.set_toArray, List.set_cons_succ, List.set_cons_zero])
      | (refine wpQuiet_load rfl 3 (.tmp 18) rfl _ (.int .i64 (p : Int)) rfl (fun y hy => load_i64 y (p : Int) (hy.2.1.cell 1 (.int .i64 (p : Int)) rfl)) ?_; simp only [Act.put, Array.setIfInBounds, List.size_toArray, List.length_cons, List.length_nil, Nat.reduceAdd, Nat.reduceLT, ↓reduceDIte, List.set_toArray, List.set_cons_succ, List.set_cons_zero])
      | (refine wpQuiet_call rfl 57 #[.slice a len cap, .int .i64 (p : Int)] (.tuple #[.string n, .int .i64 (k2 : Int), .int .i64 s'.e]) ?_ (fun x hC => (HT.out x hC.2.2).mono fun e x' h => ⟨h.1, h.2 ▸ hC⟩) ?_; (intro x; go_simp); simp only [Act.put, Array.setIfInBounds, List.size_toArray, List.length_cons, List.length_nil, Nat.reduceAdd, Nat.reduceLT, ↓reduceDIte, List.set_toArray, List.set_cons_succ, List.set_cons_zero])
      | (refine wpQuiet_plain rfl (fun K hK => ?_); go_simp; refine hK _ ?_; clear hK K))
    refine wpQuiet_nil ?_
    intro x hx
    have q1 := hx.2.1.cell 1 (.int .i64 (p : Int)) rfl
    have q2 := hx.2.1.cell 2 (.int .i64 0) rfl
    have f1 := hx.2.1.free 1
    have f2 := hx.2.1.free 2
    have HG := hide (grown_any (o := some g) hx.1)
    by_cases h0 : s'.e = 0
    · have HX : Hid (RbAt (x.setCell ⟨g, 1, none⟩ (.int .i64 (k2 : Int))) g a len cap bs s' r va vb ∧ w.grownBy (x.setCell ⟨g, 1, none⟩ (.int .i64 (k2 : Int))) (some g)) := by
        have hg := grown_set (j := 1) (.int .i64 ((k2 : Int))) HG.out
        refine ⟨⟨⟨k2, ?_, (H3.out h0).1, fun _ => (H3.out h0).2⟩, isB_grown HBY.out hg (apart_ne HAP.out), HRM.out, HAP.out⟩, hg⟩
        rw [h0]
        have h := hx.2.1.set 1 (.int .i64 ((k2 : Nat) : Int))
        skip
        skip
        skip
        exact h
      rw [h0]
      clear hx HT H3 HZ HG HBY HRM HAP h0
      go_wp2
      go_ret
      exact ⟨rfl, HX.out.1, HX.out.2⟩
    · have HX : Hid (RbAt (x.setCell ⟨g, 2, none⟩ (.int .i64 s'.e)) g a len cap bs s' r va vb ∧ w.grownBy (x.setCell ⟨g, 2, none⟩ (.int .i64 s'.e)) (some g)) := by
        have hg := grown_set (j := 2) (.int .i64 s'.e) HG.out
        exact ⟨⟨⟨p, hx.2.1.set 2 (.int .i64 s'.e), hp, fun h => absurd h h0⟩, isB_grown HBY.out hg (apart_ne HAP.out), HRM.out, HAP.out⟩, hg⟩
      have n0 := HZ.out h0
      have k0 : (s'.e == 0) = false := by rw [beq_eq_false_iff_ne]; exact h0
      have k1 : (s'.e != 0) = true := by rw [bne, k0]; rfl
      clear hx HT H3 HZ HG HBY HRM HAP h0
      have HN := hide n0
      clear n0
      generalize s'.e = es at *
      go_wp2
      go_ret
      exact ⟨by rw [HN.out]; rfl, HX.out.1, HX.out.2⟩
  · have e : pText s = (⟨#[]⟩, s) := by unfold pText; rw [if_pos he]
    rw [e]
    have k0 : (s.e == 0) = false := by rw [beq_eq_false_iff_ne]; exact he
    have k1 : (s.e != 0) = true := by rw [bne, k0]; rfl
    have HP := hide (show RbAt w g a len cap bs s r va vb from ⟨⟨p, HR.out, hp, hs⟩, HBY.out, HRM.out, HAP.out⟩)
    clear HR he hs e
    generalize s.e = es at *
    go_enter Try.func55, Try.ntmps55
    go_wp2
    go_ret
    exact ⟨rfl, HP.out, grown_refl _ _⟩

theorem num_lt (k : Nat) (s : St) : (pNum k s).1 < 256 ^ k := by
  have hp : 0 < 256 ^ k := Nat.pow_pos (by omega)
  unfold pNum
  by_cases he : s.e ≠ 0
  · rw [if_pos he]
    exact hp
  · rw [if_neg he]
    by_cases hk : k ≤ s.l.length
    · rw [if_pos hk]
      have h := be_lt (s.l.take k)
      rw [List.length_take, Nat.min_eq_left hk] at h
      exact h
    · rw [if_neg hk]
      exact hp
theorem in_val (lo hi : Nat) (s : St) : (pIn lo hi s).1 = (pNum 1 s).1 := by
  unfold pIn
  split <;> rfl

set_option maxRecDepth 4000 in
set_option maxHeartbeats 1600000 in
theorem bkind_any (g : Nat) (a : Option Addr) (len cap : Nat) (bs : List UInt8) (s : St) (r : Rec) (va vb : Value) (w : World) (h : RbAt w g a len cap bs s r va vb) :
    Calls Try.prog 48 #[.pointer (some ⟨g, 0, none⟩)] w fun e w' => e = .returned (.int .i64 ((pIn 1 8 s).1 : Int)) ∧ RbAt w' g a len cap bs (pIn 1 8 s).2 r va vb ∧ w.grownBy w' (some g) := by
  have HN := hide (bnum_any g a len cap bs s r va vb 1 w (by omega) h)
  have hn := num_lt 1 s
  have HI : Hid ((pIn 1 8 s).2 = (if (pNum 1 s).2.e = 0 ∧ ((pNum 1 s).1 < 1 ∨ 8 < (pNum 1 s).1) then ⟨(pNum 1 s).2.l, 2⟩ else (pNum 1 s).2)) := by
    show (pIn 1 8 s).2 = _
    unfold pIn
    split <;> rfl
  rw [in_val]
  generalize pNum 1 s = ns at *
  obtain ⟨n, s'⟩ := ns
  simp only at HN HI hn ⊢
  have ew : IntKind.i64.wrap (n : Int) = (n : Int) := by rw [IntKind.wrap_i64]; omega
  clear h
  go_enter Try.func48, Try.ntmps48
  go_wp2_with fail
  refine HN.out.mono ?_
  rintro e w1 ⟨rfl, hrb, hg⟩
  have HRB := hide hrb
  have HG := hide hg
  clear HN hrb hg
  obtain ⟨p, hr, hp, hs⟩ := HRB.out.row
  have c2 := hr.cell 2 (.int .i64 s'.e) rfl
  have f2 := hr.free 2
  have HRO := hide hr
  have HHP := hide hp
  clear hr hp hs
  by_cases h0 : s'.e = 0
  · rw [h0] at c2
    by_cases hb : n < 1 ∨ 8 < n
    · have HX : Hid (RbAt (w1.setCell ⟨g, 2, none⟩ (.int .i64 2)) g a len cap bs (pIn 1 8 s).2 r va vb ∧ w.grownBy (w1.setCell ⟨g, 2, none⟩ (.int .i64 2)) (some g)) := by
        rw [HI.out, if_pos ⟨h0, hb⟩]
        have hg := grown_set (j := 2) (.int .i64 2) HG.out
        have hg1 := grown_set (j := 2) (.int .i64 2) (grown_refl w1 (some g))
        exact ⟨⟨⟨p, HRO.out.set 2 (.int .i64 2), HHP.out, fun h => absurd h (by simp)⟩, isB_grown HRB.out.bytes hg1 (apart_ne HRB.out.apart), HRB.out.room, HRB.out.apart⟩, hg⟩
      clear HRB HG HI HRO HHP h0
      by_cases h1 : (n : Int) < 1
      · clear hb
        go_wp2
        go_ret
        exact ⟨rfl, HX.out.1, HX.out.2⟩
      · have h8 : (8 : Int) < (n : Int) := by omega
        clear hb
        go_wp2
        go_ret
        exact ⟨rfl, HX.out.1, HX.out.2⟩
    · have HX : Hid (RbAt w1 g a len cap bs (pIn 1 8 s).2 r va vb ∧ w.grownBy w1 (some g)) := by
        rw [HI.out, if_neg (fun h => hb h.2)]
        exact ⟨HRB.out, HG.out⟩
      have h1 : ¬ (n : Int) < 1 := by omega
      have h8 : ¬ (8 : Int) < (n : Int) := by omega
      clear HRB HG HI HRO HHP h0 hb
      go_wp2
      go_ret
      exact ⟨rfl, HX.out.1, HX.out.2⟩
  · have HX : Hid (RbAt w1 g a len cap bs (pIn 1 8 s).2 r va vb ∧ w.grownBy w1 (some g)) := by
      rw [HI.out, if_neg (fun h => h0 h.1)]
      exact ⟨HRB.out, HG.out⟩
    have k0 : (s'.e == 0) = false := by rw [beq_eq_false_iff_ne]; exact h0
    clear HRB HG HI HRO HHP h0
    generalize s'.e = es at *
    go_wp2
    go_ret
    exact ⟨rfl, HX.out.1, HX.out.2⟩

/-- How many rows are read. -/
def cntN (m : Nat) (s : St) : Nat := if (pIn 0 m s).2.e = 0 then (pIn 0 m s).1 else 0
set_option maxRecDepth 4000 in
set_option maxHeartbeats 1600000 in
theorem bcount_any (g : Nat) (a : Option Addr) (len cap : Nat) (bs : List UInt8) (s : St) (r : Rec) (va vb : Value) (m : Nat) (w : World) (hm : m ≤ 255) (h : RbAt w g a len cap bs s r va vb) :
    Calls Try.prog 56 #[.pointer (some ⟨g, 0, none⟩), .int .i64 (m : Int)] w fun e w' => e = .returned (.int .i64 (cntN m s : Int)) ∧ RbAt w' g a len cap bs (pIn 0 m s).2 r va vb ∧ w.grownBy w' (some g) := by
  have HN := hide (bnum_any g a len cap bs s r va vb 1 w (by omega) h)
  have hn := num_lt 1 s
  have HI : Hid (pIn 0 m s = (if (pNum 1 s).2.e = 0 ∧ ((pNum 1 s).1 < 0 ∨ m < (pNum 1 s).1) then ((pNum 1 s).1, ⟨(pNum 1 s).2.l, 2⟩) else pNum 1 s)) := rfl
  have HZ := hide (num_zero (k := 1) (s := s))
  unfold cntN
  generalize pNum 1 s = ns at *
  obtain ⟨n, s'⟩ := ns
  simp only at HN HI HZ hn ⊢
  have ew : IntKind.i64.wrap (n : Int) = (n : Int) := by rw [IntKind.wrap_i64]; omega
  clear h
  by_cases hb : m < n
  · have h0 : s'.e = 0 := by
      by_cases h : s'.e = 0
      · exact h
      · have := HZ.out h
        omega
    have hi : pIn 0 m s = (n, ⟨s'.l, 2⟩) := by rw [HI.out, if_pos ⟨h0, .inr hb⟩]
    rw [hi]
    have i1 : (m : Int) < (n : Int) := by omega
    clear HI hi HZ h0 hb
    go_enter Try.func56, Try.ntmps56
    go_wp2_with fail
    refine HN.out.mono ?_
    rintro e w1 ⟨rfl, hrb, hg⟩
    obtain ⟨p, hr, hp, hs⟩ := hrb.row
    have c2 := hr.cell 2 (.int .i64 s'.e) rfl
    have f2 := hr.free 2
    have HX : Hid (RbAt (w1.setCell ⟨g, 2, none⟩ (.int .i64 2)) g a len cap bs ⟨s'.l, 2⟩ r va vb ∧ w.grownBy (w1.setCell ⟨g, 2, none⟩ (.int .i64 2)) (some g)) := by
      have hg' := grown_set (j := 2) (.int .i64 2) hg
      have hg1 := grown_set (j := 2) (.int .i64 2) (grown_refl w1 (some g))
      exact ⟨⟨⟨p, hr.set 2 (.int .i64 2), hp, fun h => absurd h (by simp)⟩, isB_grown hrb.bytes hg1 (apart_ne hrb.apart), hrb.room, hrb.apart⟩, hg'⟩
    clear hrb hg hr hp hs HN
    generalize s'.e = es at *
    go_wp2
    go_ret
    exact ⟨rfl, HX.out.1, HX.out.2⟩
  · have hi : pIn 0 m s = (n, s') := by rw [HI.out, if_neg (fun h => by omega)]
    rw [hi]
    have hc : (if s'.e = 0 then n else 0) = n := by
      by_cases h : s'.e = 0
      · rw [if_pos h]
      · rw [if_neg h, HZ.out h]
    simp only
    rw [hc]
    have i1 : ¬ (m : Int) < (n : Int) := by omega
    clear HI hi HZ hb hc
    go_enter Try.func56, Try.ntmps56
    go_wp2_with fail
    refine HN.out.mono ?_
    rintro e w1 ⟨rfl, hrb, hg⟩
    have HX : Hid (RbAt w1 g a len cap bs s' r va vb ∧ w.grownBy w1 (some g)) := ⟨hrb, hg⟩
    clear hrb hg HN
    go_wp2
    go_ret
    exact ⟨rfl, HX.out.1, HX.out.2⟩
end Go.Proofs.Ytgobegpmojkhaab
