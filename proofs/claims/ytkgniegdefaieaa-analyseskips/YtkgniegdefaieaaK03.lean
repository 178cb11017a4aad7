/-
  Texts that lean on one another, one behind the other: each opens with its own remark.
-/
import Derived.ArgAppend
import Derived.Deep.RegionLawGrows
import Derived.Laws.AppendOwn
import Derived.Laws.AppendOwnNone
import Derived.Lib.AppendStr
import Derived.Lib.AppendZerosOnto
import Derived.Test.YtkgniegdefaieaaProg
import Derived.WalkSpells
import Derived.Laws.CopyOwn
import Derived.Room.AppendFits
import Derived.Laws.OwnMore
import Derived.OwnWalkIn
import Derived.Laws.Cover3
import Derived.Laws.CopyRow
import Derived.Deep.MidRow
import Derived.Deep.RegionHeld3
import Derived.Laws.IdiomCopy
import Derived.Lib.SliceRun
import Derived.Deep.RegionLaw
import Derived.Test.YtkgniegdefaieaaK02
import Derived.Test.YtkgniegdefaieaaK00
import Derived.Test.YtkgniegdefaieaaK01

namespace Go.Proofs.Ytkgniegdefaieaa
open Go.RowKit
set_option linter.unusedVariables false
set_option maxRecDepth 8000
set_option maxHeartbeats 25600000
theorem Qpe {b j : Nat} (x : World) (v : Int) (h : x.cell? ⟨b, j, none⟩ = some (.int .u64 v)) : (Instr.loadAt 37 (.pointer (some ⟨b, j, none⟩))).run Try.prog x = .ok (.int .u64 v) x := by go_simp
theorem load_text {b j : Nat} (x : World) (s : ByteArray) (h : x.cell? ⟨b, j, none⟩ = some (.string s)) : (Instr.loadAt 9 (.pointer (some ⟨b, j, none⟩))).run Try.prog x = .ok (.string s) x := by go_simp
theorem used_fits {r : Rec} (h : r.fits) : r.used.fits := by
  refine ⟨?_, ?_, ?_, ?_, ?_⟩
  · show (if r.k <= 2 then r.c else Ch.zero).fits
    by_cases hk : r.k <= 2
    · rw [if_pos hk]; exact h.c
    · rw [if_neg hk]; exact Qrj
  · show (if r.k = 8 then r.ts else []).length <= maxLen
    by_cases hk : r.k = 8
    · rw [if_pos hk]; exact h.tl
    · rw [if_neg hk]; exact Nat.zero_le _
  · show (if r.k = 8 then r.ds else []).length <= maxLen
    by_cases hk : r.k = 8
    · rw [if_pos hk]; exact h.dl
    · rw [if_neg hk]; exact Nat.zero_le _
  · show ∀ x ∈ (if r.k = 8 then r.ts else []), x.fits
    by_cases hk : r.k = 8
    · rw [if_pos hk]; exact h.ts
    · rw [if_neg hk]; exact fun x hx => nomatch hx
  · show ∀ x ∈ (if r.k = 8 then r.ds else []), x.fits
    by_cases hk : r.k = 8
    · rw [if_pos hk]; exact h.ds
    · rw [if_neg hk]; exact fun x hx => nomatch hx
theorem load_rc (y : World) (g : Nat) (cs : Array Value) (h : Qa y g 46 cs) (hz : cs.size = 14) : (Instr.loadAt 46 (.pointer (some ⟨g, 0, none⟩))).run Try.prog y = .ok (.agg cs) y := by
  have h1 := run_loadAt_mid (P := Try.prog) y g 0 46 cs.toList _ (fun j v hv => by rw [Nat.zero_add]; exact h.cell j v (by rw [<- Array.getElem?_toList]; exact hv)) Try.underlying46 rfl (by rw [Qaa, Array.length_toList, hz]); rwa [Array.toArray_toList] at h1
theorem right_at (r : Rec) (va vb : Value) (w : World) (q : Bool) (Hq : Hid (q = true ↔ r.right)) (hf : r.fits) (hin : Qwb w r va vb) :
    Calls Try.prog 40 #[.agg (rcA r va vb)] w fun e w' => e = .returned (.bool q) /\ Below w.heap.size w w' := by
  have HIN := Qb hin; have HFI := Qb hf; clear hin hf; have HK0 := Qb (Qj.one w 46 (rcA r va vb))
  have HF : Hid (¬ r.right -> q = false) := fun h => by
    cases q
    · rfl
    · exact absurd (Hq.out.1 rfl) h
  have HT : Hid (r.right -> q = true) := fun h => Hq.out.2 h
  clear Hq; by_cases l1 : (1 : Int) <= (r.l : Int)
  case neg =>
    obtain rfl := HF.out (fun h => by have := h.l1; omega); have l1f : ((1 : Int) <= (r.l : Int)) = False := eq_false l1; clear HF HT HIN HFI l1; go_enter Try.func40, Try.ntmps40; go_wp2_with fail; refine Qga (fun y => Qj w y [(w.heap.size, 46, rcA r va vb)]) (by kernel_rfl) (by kernel_rfl) HK0.out.drew ?_; clear HK0
    repeat (first
      | go_big_quiet_skip
      | (refine Qf rfl 37 (.tmp 3) rfl _ (.int .u64 (r.l : Int)) rfl (fun y hy => Qpe y _ (hy.1.1.cell 1 _ rfl)) ?_; simp only [Act.put, List.setIfInBounds_toArray, List.set])
      | (refine Qw rfl (fun K hK => ?_); go_simp; refine hK _ ?_; clear hK K))
    refine wpQuiet_nil ?_; intro w3 h3; have d3 := h3.2; clear h3; go_wp2; go_ret; exact ⟨by rfl, d3⟩
  by_cases l2 : (r.l : Int) <= 4611686018427387904
  case neg =>
    obtain rfl := HF.out (fun h => by have := h.lm; unfold Qtd at this; omega); have l2f : ((r.l : Int) <= 4611686018427387904) = False := eq_false l2; clear HF HT HIN HFI l2; go_enter Try.func40, Try.ntmps40; go_wp2_with fail; refine Qga (fun y => Qj w y [(w.heap.size, 46, rcA r va vb)]) (by kernel_rfl) (by kernel_rfl) HK0.out.drew ?_; clear HK0
    repeat (first
      | go_big_quiet_skip
      | (refine Qf rfl 37 (.tmp 3) rfl _ (.int .u64 (r.l : Int)) rfl (fun y hy => Qpe y _ (hy.1.1.cell 1 _ rfl)) ?_; simp only [Act.put, List.setIfInBounds_toArray, List.set])
      | (refine Qf rfl 37 (.tmp 7) rfl _ (.int .u64 (r.l : Int)) rfl (fun y hy => Qpe y _ (hy.1.1.cell 1 _ rfl)) ?_; simp only [Act.put, List.setIfInBounds_toArray, List.set])
      | (refine Qw rfl (fun K hK => ?_); go_simp; refine hK _ ?_; clear hK K))
    refine wpQuiet_nil ?_; intro w3 h3; have d3 := h3.2; clear h3; go_wp2; go_ret; exact ⟨by rfl, d3⟩
  have l2t : ((r.l : Int) <= 4611686018427387904) = True := eq_true l2; have HLM : Hid (1 <= r.l /\ r.l <= Qtd) := ⟨by omega, by unfold Qtd; omega⟩; clear l2; by_cases hu : r.uses
  case neg =>
    obtain rfl := HF.out (fun h => hu (Qqh.1 h).2.2.1); have HU := Qb (fun x h => Qds r va vb x false (Qb ⟨fun h => (nomatch h), fun h => absurd h hu⟩) h); clear HF HT HFI hu; go_enter Try.func40, Try.ntmps40; go_wp2_with fail; refine Qga (fun y => Qj w y [(w.heap.size, 46, rcA r va vb)]) (by kernel_rfl) (by kernel_rfl) HK0.out.drew ?_; clear HK0
    repeat (first
      | go_big_quiet_skip
      | (refine Qf rfl 37 (.tmp 3) rfl _ (.int .u64 (r.l : Int)) rfl (fun y hy => Qpe y _ (hy.1.1.cell 1 _ rfl)) ?_; simp only [Act.put, List.setIfInBounds_toArray, List.set])
      | (refine Qf rfl 37 (.tmp 7) rfl _ (.int .u64 (r.l : Int)) rfl (fun y hy => Qpe y _ (hy.1.1.cell 1 _ rfl)) ?_; simp only [Act.put, List.setIfInBounds_toArray, List.set])
      | (refine Qf rfl 46 (.tmp 1) rfl _ (.agg (rcA r va vb)) rfl (fun y hy => load_rc y _ _ hy.1.1 rfl) ?_; simp only [Act.put, List.setIfInBounds_toArray, List.set])
      | (refine Qrd rfl 61 #[.agg (rcA r va vb)] (.bool false) ?_ (fun x hx => (HU.out x (HIN.out.below hx.2)).mono fun e x' h => ⟨h.1, hx.later h.2⟩) ?_; (intro x; go_simp); simp only [Act.put, List.setIfInBounds_toArray, List.set])
      | (refine Qw rfl (fun K hK => ?_); go_simp; refine hK _ ?_; clear hK K))
    refine wpQuiet_nil ?_; intro w3 h3; have d3 := h3.2; clear h3; go_wp2; go_ret; exact ⟨by rfl, d3⟩
  have HU := Qb (fun x h => Qds r va vb x true (Qb ⟨fun _ => hu, fun _ => rfl⟩) h); have HX := Qb (fun x h => used_any r va vb x ⟨hu.1, hu.2.1⟩ h)
  have HQ2 : Hid (q = true ↔ r = r.used) := by
    constructor
    · intro h
      by_cases hd : r = r.used
      · exact hd
      · rw [HF.out (fun h => hd (Qqh.1 h).2.2.2)] at h; cases h
    · intro hd; exact HT.out (Qqh.2 ⟨HLM.out.1, HLM.out.2, hu, hd⟩)
  have HS := Qb (fun x h => same_at r r.used va vb (uV r va) (uV r vb) x q HQ2 HFI.out (used_fits HFI.out) h (uV_in h)); clear HF HT HFI HQ2 hu HLM; go_enter Try.func40, Try.ntmps40; go_wp2_with fail; refine Qga (fun y => Qj w y [(w.heap.size, 46, rcA r va vb)]) (by kernel_rfl) (by kernel_rfl) HK0.out.drew ?_; clear HK0
  repeat (first
    | go_big_quiet_skip
    | (refine Qf rfl 37 (.tmp 3) rfl _ (.int .u64 (r.l : Int)) rfl (fun y hy => Qpe y _ (hy.1.1.cell 1 _ rfl)) ?_; simp only [Act.put, List.setIfInBounds_toArray, List.set])
    | (refine Qf rfl 37 (.tmp 7) rfl _ (.int .u64 (r.l : Int)) rfl (fun y hy => Qpe y _ (hy.1.1.cell 1 _ rfl)) ?_; simp only [Act.put, List.setIfInBounds_toArray, List.set])
    | (refine Qf rfl 46 (.tmp 1) rfl _ (.agg (rcA r va vb)) rfl (fun y hy => load_rc y _ _ hy.1.1 rfl) ?_; simp only [Act.put, List.setIfInBounds_toArray, List.set])
    | (refine Qrd rfl 61 #[.agg (rcA r va vb)] (.bool true) ?_ (fun x hx => (HU.out x (HIN.out.below hx.2)).mono fun e x' h => ⟨h.1, hx.later h.2⟩) ?_; (intro x; go_simp); simp only [Act.put, List.setIfInBounds_toArray, List.set])
    | (refine Qrd rfl 63 #[.agg (rcA r va vb)] (.agg (rcA r.used (uV r va) (uV r vb))) ?_ (fun x hx => (HX.out x (HIN.out.below hx.2)).mono fun e x' h => ⟨h.1, hx.later h.2⟩) ?_; (intro x; go_simp); simp only [Act.put, List.setIfInBounds_toArray, List.set])
    | (refine Qrd rfl 62 #[.agg (rcA r va vb), .agg (rcA r.used (uV r va) (uV r vb))] (.bool q) ?_ (fun x hx => (HS.out x (HIN.out.below hx.2)).mono fun e x' h => ⟨h.1, hx.later h.2⟩) ?_; (intro x; go_simp); simp only [Act.put, List.setIfInBounds_toArray, List.set])
    | (refine Qw rfl (fun K hK => ?_); go_simp; refine hK _ ?_; clear hK K))
  refine wpQuiet_nil ?_; intro w3 h3; have d3 := h3.2; clear h3; go_wp2; go_ret; exact ⟨by rfl, d3⟩
theorem Qfn (r : Rec) (va vb : Value) (w : World) (hf : r.fits) (hin : Qwb w r va vb) :
    Calls Try.prog 40 #[.agg (rcA r va vb)] w fun e w' => e = .returned (.bool r.rightB) /\ Below w.heap.size w w' :=
  right_at r va vb w _ (Qb Qqf) hf hin
theorem Qfb {w : World} {b off n : Nat} {bs : List UInt8} (h : IsB w (some ⟨b, off, none⟩) n bs) : ∀ j u, (toV bs)[j]? = some u -> w.cell? ((⟨b, off, none⟩ : Addr).add j) = some u := by
  intro j u hu
  have hj : j < bs.length := by
    have := (List.getElem?_eq_some_iff.1 hu).1; rwa [Qi] at this
  obtain ⟨b', off', hb, _, hc⟩ := h.2 (by have := h.1; omega); cases hb; rw [Addr.add_lit, hc j (by have := h.1; omega), <- Qfg bs j hj]; exact hu
theorem wpList_append_b {P : Program} (w : World) {ops : Array Oper} {rest : List Oper} {o : Oper} {a : Act} {Q : Exit -> Act -> World -> Prop}
    (hg : o.guard = none) (s x : Operand) (t : TypeId) (hop : o.op = Op.call { callee := Callee.builtin Builtin.append, args := #[s, x], argTypes := #[t, t] })
    (e : TypeId) (ht : P.underlying t = some (.slice e)) (hi : (P.info? e).map (fun i => (i.zero, i.size, i.bytes)) = some (some (.int .u8 0), 1, 1))
    (b off n cap : Nat) (xs : List UInt8) (hs : a.eval s = .slice (some ⟨b, off, none⟩) n cap) (hB : IsB w (some ⟨b, off, none⟩) n xs)
    (b2 off2 m c : Nat) (ys : List UInt8) (hx : a.eval x = .slice (some ⟨b2, off2, none⟩) m c) (hB2 : IsB w (some ⟨b2, off2, none⟩) m ys)
    (hfull : cap < n + m) (hz : n + m <= 140737488355328)
    (hK : ∀ v' w', w'.ownsRow w.heap.size e 1 v' (n + m) (toV (xs ++ ys)) -> w.grownBy w' none -> wpList P ops Q rest (a.put o.dst v') w') :
    wpList P ops Q (o :: rest) a w := by
  obtain ⟨i, hi0, hi1⟩ := Option.map_eq_some_iff.1 hi; simp only [Prod.mk.injEq] at hi1
  refine wpList_append_grows w hg s x t hop e i (.int .u8 0) 1 1 ht hi0 hi1.1 hi1.2.1 hi1.2.2 rfl (by omega) (some ⟨b, off, none⟩) n cap (toV xs) hs (fun h => nomatch h) (by rw [Qi, hB.1, Nat.mul_one]) ?_
    ⟨b2, off2, none⟩ m c (toV ys) hx (by rw [Qi, hB2.1, Nat.mul_one]) (Qfb hB2) ?_ hfull (by unfold maxLen; omega) (by omega) ?_
  · intro b' hb'; cases hb'; exact Qfb hB
  · intro u hu; obtain ⟨y, _, rfl⟩ := List.mem_map.1 hu; rfl
  · intro v' w' h1 h2; refine hK v' w' ?_ h2; have e2 : toV xs ++ toV ys = toV (xs ++ ys) := by simp [toV]
    rw [<- e2]; exact h1
theorem step_append_b {P : Program} {ops : Array Oper} {o : Oper} {a : Act} {w : World} {K : Act -> World -> Prop} {Q : Exit -> Act -> World -> Prop} {E : Prop}
    (hg : o.guard = none) (s x : Operand) (t : TypeId) (hop : o.op = Op.call { callee := Callee.builtin Builtin.append, args := #[s, x], argTypes := #[t, t] })
    (e : TypeId) (ht : P.underlying t = some (.slice e)) (hi : (P.info? e).map (fun i => (i.zero, i.size, i.bytes)) = some (some (.int .u8 0), 1, 1))
    (b off n cap : Nat) (xs : List UInt8) (hs : a.eval s = .slice (some ⟨b, off, none⟩) n cap) (hB : IsB w (some ⟨b, off, none⟩) n xs)
    (b2 off2 m c : Nat) (ys : List UInt8) (hx : a.eval x = .slice (some ⟨b2, off2, none⟩) m c) (hB2 : IsB w (some ⟨b2, off2, none⟩) m ys)
    (hfull : cap < n + m) (hz : n + m <= 140737488355328)
    (hK : ∀ v' w', w'.ownsRow w.heap.size e 1 v' (n + m) (toV (xs ++ ys)) -> w.grownBy w' none -> K (a.put o.dst v') w') :
    if Region.wanted o (yielded ops a.tmps) = true then Oper.wp P o a w K Q else E := by
  obtain ⟨i, hi0, hi1⟩ := Option.map_eq_some_iff.1 hi; simp only [Prod.mk.injEq] at hi1
  refine step_append_grows hg s x t hop e i (.int .u8 0) 1 1 ht hi0 hi1.1 hi1.2.1 hi1.2.2 rfl (by omega) (some ⟨b, off, none⟩) n cap (toV xs) hs (fun h => nomatch h) (by rw [Qi, hB.1, Nat.mul_one]) ?_
    ⟨b2, off2, none⟩ m c (toV ys) hx (by rw [Qi, hB2.1, Nat.mul_one]) (Qfb hB2) ?_ hfull (by unfold maxLen; omega) (by omega) ?_
  · intro b' hb'; cases hb'; exact Qfb hB
  · intro u hu; obtain ⟨y, _, rfl⟩ := List.mem_map.1 hu; rfl
  · intro v' w' h1 h2; refine hK v' w' ?_ h2; have e2 : toV xs ++ toV ys = toV (xs ++ ys) := by simp [toV]
    rw [<- e2]; exact h1
section
section
variable {P : Program} (w : World) {ops : Array Oper} {rest : List Oper} {o : Oper} {a : Act} {Q : Exit -> Act -> World -> Prop}
theorem Qoj (bs : List UInt8) : ∀ u ∈ toV bs, u.oneCell' = true := by
  intro u hu; obtain ⟨y, _, rfl⟩ := List.mem_map.1 hu; rfl
theorem Qev (hg : o.guard = none) (s x : Operand) (t : TypeId) (hop : o.op = Op.call { callee := Callee.builtin Builtin.append, args := #[s, x], argTypes := #[t, t] })
    (e : TypeId) (ht : P.underlying t = some (.slice e)) (hi : (P.info? e).map (fun i => (i.zero, i.size, i.bytes)) = some (some (.int .u8 0), 1, 1))
    (base : Nat) (v : Value) (n : Nat) (xs : List UInt8) (hs : a.eval s = v) (hown : w.ownsRow base e 1 v n (toV xs))
    (ad : Option Addr) (m c : Nat) (ys : List UInt8) (hx : a.eval x = .slice ad m c) (hB : IsB w ad m ys) (hnil : ad = none -> c = 0) (hz : n + m <= 140737488355328) (hbase : base <= w.heap.size)
    (hK : ∀ v' w', w'.ownsRow base e 1 v' (n + m) (toV (xs ++ ys)) -> w.grownBy w' v.ownBlock -> wpList P ops Q rest (a.put o.dst v') w') :
    wpList P ops Q (o :: rest) a w := by
  obtain ⟨i, hi0, hi1⟩ := Option.map_eq_some_iff.1 hi; simp only [Prod.mk.injEq] at hi1; have hl := hB.1
  cases ad with
  | none =>
    obtain rfl : m = 0 := by
      by_cases hm : 0 < m
      · obtain ⟨b, off, h1, _⟩ := hB.2 hm; cases h1
      · omega
    obtain rfl := List.eq_nil_of_length_eq_zero hl; obtain rfl := hnil rfl; refine wpList_append_own_none hg s x t hop base e i 1 ht hi0 v n (toV xs) hs hown hx (hK v w ?_ ⟨rfl, rfl, rfl, Nat.le_refl _, fun _ _ _ => rfl⟩); simpa using hown
  | some b =>
    refine wpList_append_own w hg s x t hop base e i (.int .u8 0) 1 1 ht hi0 hi1.1 hi1.2.1 hi1.2.2 rfl (by omega) v n (toV xs) hs hown b m c (toV ys) hx (by rw [Qi, hl, Nat.mul_one]) ?_ (Qoj ys) (by unfold maxLen; omega) (by omega) hbase ?_
    · intro j u hu
      have hj : j < ys.length := by
        have := (List.getElem?_eq_some_iff.1 hu).1; rwa [Qi] at this
      obtain ⟨b', off', hb, _, hc⟩ := hB.2 (by omega); cases hb; rw [Addr.add_lit, hc j (by omega), <- Qfg ys j hj]; exact hu
    · intro v' w' h1 h2 _; rw [<- Qmc] at h1; exact hK v' w' h1 h2
theorem Qgv (hg : o.guard = none) (s x : Operand) (t u : TypeId) (hop : o.op = Op.call { callee := Callee.builtin Builtin.append, args := #[s, x], argTypes := #[t, u] })
    (e : TypeId) (ht : P.underlying t = some (.slice e)) (hu : P.underlying u = some .string) (hi : (P.info? e).map (fun i => (i.zero, i.size, i.bytes)) = some (some (.int .u8 0), 1, 1))
    (base : Nat) (v : Value) (n : Nat) (xs : List UInt8) (hs : a.eval s = v) (hown : w.ownsRow base e 1 v n (toV xs))
    (y : ByteArray) (hx : a.eval x = .string y) (hz : n + y.size <= 140737488355328) (hbase : base <= w.heap.size)
    (hK : ∀ v' w', w'.ownsRow base e 1 v' (n + y.size) (toV (xs ++ y.data.toList)) -> w.grownBy w' v.ownBlock -> wpList P ops Q rest (a.put o.dst v') w') :
    wpList P ops Q (o :: rest) a w := by
  obtain ⟨i, hi0, hi1⟩ := Option.map_eq_some_iff.1 hi; simp only [Prod.mk.injEq] at hi1; refine Lib.wpList_append_own_string w hg s x t u hop base e i ht hu hi0 hi1.1 hi1.2.1 hi1.2.2 v n (toV xs) hs hown y hx (by unfold maxLen; omega) hz hbase ?_; intro v' w' h1 h2 _; rw [toV_str] at h1; exact hK v' w' h1 h2
theorem Qbc (k : Nat) : Builtin.zeroCells (Value.int .u8 0).cells k = (Qqk k).toArray := by
  apply Array.ext'; have e : (Value.int IntKind.u8 0).cells = #[.int .u8 0] := rfl; rw [e]; unfold Builtin.zeroCells Qqk; simp only [Array.toList_map, Array.toList_range]
  apply List.ext_getElem
  · simp
  · intro i h1 h2; simp [Nat.mod_one]
theorem Qhp (k : Nat) : Qqk k = toV (List.replicate k 0) := by simp [Qqk, toV]
theorem Qvf (base : Nat) (t tn ty e : TypeId) (i : TypeInfo) (kn : IntKind) (ht : P.underlying t = some (.slice e)) (htn : P.underlying tn = some (.int kn)) (hi : P.info? e = some i) (hz : i.zero = some (.int .u8 0)) (hsize : i.size = 1) (hby : i.bytes = 1)
    (v : Value) (n : Nat) (xs : List Value) (hown : w.ownsRow base e 1 v n xs) (k : Nat) (h0 : 0 < k) (hbytes : n + k <= 140737488355328) (hbase : base <= w.heap.size) :
    ∃ v' w', (Builtin.append_ #[t, tn] ty #[v, .int .i64 (k : Int)]).run P w = .ok v' w' /\ w'.ownsRow base e 1 v' (n + k) (xs ++ Qqk k) /\ w.grownBy w' v.ownBlock := by
  have h63 : n + k <= maxLen := by unfold maxLen; omega
  have hxl : xs.length = n := by simpa using hown.1
  have hlen : (xs ++ Qqk k).length = (n + k) * 1 := by rw [List.length_append, hxl, Qzb, Nat.mul_one]
  have grown : ∀ (old : Nat), ∀ (row : Option Nat),
      (w.drew.alloc (.cells (xs.toArray ++ (Qqk k).toArray ++ (Qqk (grownCap w (n + k) old e - (n + k))).toArray) e)).ownsRow base e 1
        (.slice (some ⟨w.heap.size, 0, none⟩) (n + k) (grownCap w (n + k) old e)) (n + k) (xs ++ Qqk k) /\
      w.grownBy (w.drew.alloc (.cells (xs.toArray ++ (Qqk k).toArray ++ (Qqk (grownCap w (n + k) old e - (n + k))).toArray) e)) row := by
    intro old row; have hge := grownCap_ge w (n + k) old e; have hcm : grownCap w (n + k) old e <= maxLen := grownCap_le_maxLen w (n + k) old e h63
    refine ⟨⟨hlen, .inr ⟨w.heap.size, _, _, rfl, hbase, heap_alloc_new w.drew _, hge, hcm, ?_, ?_⟩⟩, ⟨rfl, rfl, rfl, by simp, fun k hk _ => Below.heap_alloc w.drew _ k hk⟩⟩
    · simp only [Array.size_append, List.size_toArray, Qzb, hxl]; omega
    · simp only [Array.toList_append, List.append_assoc]; rw [<- List.append_assoc, <- hlen]; exact List.take_left
  have hk : k ≠ 0 := by omega
  rcases hown.2 with ⟨rfl, rfl⟩ | ⟨g, cap, cur, rfl, hbg, hg, hnc, hcm, hcs, htake⟩
  · have hx : xs = [] := List.eq_nil_of_length_eq_zero hxl; subst hx; have hr := Lib.run_append_nil_zeros (P := P) w t tn ty e i (.int .u8 0) .i64 kn ht htn hi hz k h0 (by omega) (by omega) (by rw [hby]; omega); have hgr := grown 0 (Value.ownBlock (.slice none 0 0)); rw [Qbc, Qbc] at hr; simp only [Nat.zero_add, List.nil_append, Array.empty_append] at hgr |-; exact ⟨_, _, hr, hgr.1, hgr.2⟩
  · by_cases hroom : n + k <= cap
    · have hcs' : cur.size = cap := by simpa using hcs
      have hw : IntKind.i64.wrap (k : Int) = k := by rw [IntKind.wrap_i64]; omega
      have h48i : ¬ (281474976710656 < (k : Int) * (i.bytes : Int)) := by rw [hby]; omega
      have hneg : ¬ ((k : Int) < 0) := by omega
      have hst := run_storeCells_at P g n e (Qqk k) 0 cur w hg (by rw [Qzb]; omega) (by intro u hu; rw [Qhp] at hu; exact Qoj _ u hu); simp only [Nat.add_zero, Qzb] at hst
      have hr : (Builtin.append_ #[t, tn] ty #[.slice (some ⟨g, 0, none⟩) n cap, .int .i64 (k : Int)]).run P w =
          .ok (.slice (some ⟨g, 0, none⟩) (n + k) cap) (w.setRow g (cur.toList.take n ++ Qqk k ++ cur.toList.drop (n + k)).toArray) := by
        have h48i2 : ¬ (281474976710656 < (k : Int)) := by omega
        simp [Builtin.append_, run_underlying ht, run_underlying htn, sizeOf, typeInfo, zeroValue, hi, hz, asInt, asIntOf, hw, hk, hneg, hby, hsize, h48i2, hroom, Qbc, Addr.add_lit, hst]
      refine ⟨_, _, hr, ⟨hlen, .inr ⟨g, cap, _, rfl, hbg, setRow_heap w g cur _ e _ hg, hroom, hcm, ?_, ?_⟩⟩, ⟨rfl, rfl, rfl, by simp, fun k _ hk => setRow_other w g k _ (fun e => hk (by simp [Value.ownBlock, e]))⟩⟩
      · simp only [List.size_toArray, List.length_append, List.length_take, List.length_drop, Array.length_toList, Qzb]; omega
      · have ht' : cur.toList.take n = xs := by simpa using htake
        rw [ht', <- hlen]; exact List.take_left
    · have holds : ∀ j u, xs[j]? = some u -> w.cell? ((⟨g, 0, none⟩ : Addr).add j) = some u := hown.cells (g := g) rfl; have hfo := run_firstCells_some (P := P) w.drew i.size n ⟨g, 0, none⟩ n cap xs (by rw [hsize, hxl, Nat.mul_one]) (by simpa using holds); have hr := Lib.run_append_grow_zeros (P := P) w t tn ty e i (.int .u8 0) .i64 kn ht htn hi hz (some ⟨g, 0, none⟩) n cap xs hfo k h0 (by omega) (by omega) (by omega) (by rw [hby]; omega) (by rw [hby]; exact growslice_fits (by omega) (by omega)); rw [Qbc, Qbc] at hr; have hgr := grown cap (Value.ownBlock (.slice (some ⟨g, 0, none⟩) n cap)); exact ⟨_, _, hr, hgr.1, hgr.2⟩
theorem Qzu (hg : o.guard = none) (s x : Operand) (t tn : TypeId) (hop : o.op = Op.call { callee := Callee.builtin Builtin.append, args := #[s, x], argTypes := #[t, tn] })
    (e : TypeId) (kn : IntKind) (ht : P.underlying t = some (.slice e)) (htn : P.underlying tn = some (.int kn)) (hi : (P.info? e).map (fun i => (i.zero, i.size, i.bytes)) = some (some (.int .u8 0), 1, 1))
    (base : Nat) (v : Value) (n : Nat) (xs : List UInt8) (hs : a.eval s = v) (hown : w.ownsRow base e 1 v n (toV xs))
    (k : Nat) (hx : a.eval x = .int .i64 (k : Int)) (h0 : 0 < k) (hz : n + k <= 140737488355328) (hbase : base <= w.heap.size)
    (hK : ∀ v' w', w'.ownsRow base e 1 v' (n + k) (toV (xs ++ List.replicate k 0)) -> w.grownBy w' v.ownBlock -> wpList P ops Q rest (a.put o.dst v') w') :
    wpList P ops Q (o :: rest) a w := by
  obtain ⟨i, hi0, hi1⟩ := Option.map_eq_some_iff.1 hi; simp only [Prod.mk.injEq] at hi1; obtain ⟨v', w', hr, h1, h2⟩ := Qvf (P := P) w base t tn o.type e i kn ht htn hi0 hi1.1 hi1.2.1 hi1.2.2 v n (toV xs) hown k h0 hz hbase; rw [Qhp, <- Qmc] at h1; exact Lib.wpList_append_run w hg s x t tn hop v _ hs hx v' w' hr (hK v' w' h1 h2)
end
end
theorem info8 : (Try.prog.info? 5).map (fun i => (i.zero, i.size, i.bytes)) = some (some (.int .u8 0), 1, 1) := by kernel_rfl
theorem info8s : (Try.prog.info? 5).map (·.size) = some 1 := by kernel_rfl
set_option linter.unusedVariables false
theorem text_row {w : World} {base g len cap : Nat} {e : TypeId} {bs : List UInt8} {s : ByteArray} (h : s.size <= 255)
    (hw : w.ownsRow base e 1 (.slice (some ⟨g, 0, none⟩) (len + 1 + s.size) cap) (len + 1 + s.size) (toV bs ++ Value.int .u8 (s.size : Int) :: Lib.strCells s)) :
    w.ownsRow base e 1 (.slice (some ⟨g, 0, none⟩) (len + (1 + s.size)) cap) (len + (1 + s.size)) (toV (bs ++ Qdd s.data.toList)) := by
  have e1 : toV (bs ++ Qdd s.data.toList) = toV bs ++ Value.int .u8 (s.size : Int) :: Lib.strCells s := by
    have e2 : ((UInt8.ofNat s.data.toList.length).toNat : Int) = (s.size : Int) := by
      rw [Qmb]; simp; omega
    simp only [toV, Qdd, List.map_append, List.map_cons, e2, Lib.strCells]
  rw [e1, <- Nat.add_assoc]; exact hw
structure Mv (g : Nat) (w w' : World) : Prop where
  below : Below g w w'
  rows : ∀ k t cs, k ≠ g -> t ≠ 5 -> Qa w k t cs -> Qa w' k t cs
theorem Mv.refl (g : Nat) (w : World) : Mv g w w := ⟨Below.refl _ _, fun _ _ _ _ _ h => h⟩
theorem Mv.trans {g : Nat} {w x y : World} (h : Mv g w x) (k : Mv g x y) : Mv g w y := ⟨h.below.trans k.below, fun a t cs h1 h2 h3 => k.rows a t cs h1 h2 (h.rows a t cs h1 h2 h3)⟩
theorem Mv.later {g : Nat} {w x : World} (hg : g <= w.heap.size) (h : Below w.heap.size w x) : Mv g w x := ⟨h.mono hg, fun k t cs _ _ hr => hr.later h⟩
def Aside (g : Nat) (l : List (Nat × TypeId × Array Value)) : Prop := ∀ e ∈ l, e.1 ≠ g /\ e.2.1 ≠ 5
theorem Has.moved {g : Nat} {x y : World} (h : Mv g x y) : ∀ {l : List (Nat × TypeId × Array Value)}, Aside g l -> Has x l -> Has y l
  | [], _, _ => trivial
  | e :: l, ha, hh => ⟨h.rows _ _ _ (ha e (by simp)).1 (ha e (by simp)).2 hh.1, Has.moved h (fun e he => ha e (by simp [he])) hh.2⟩
theorem own_shape {w : World} {base n : Nat} {e : TypeId} {v : Value} {xs : List Value} (h : w.ownsRow base e 1 v n xs) : ∃ a c, v = .slice a n c := by
  rcases h.2 with ⟨h1, h2⟩ | ⟨g', cap, cur, h2, _⟩
  · exact ⟨none, 0, by rw [h1, h2]⟩
  · exact ⟨_, _, h2⟩
theorem textB_len (s : ByteArray) : (Qdd s.data.toList).length = 1 + s.size := by
  unfold Qdd; rw [List.length_cons, Qeb]; omega
theorem isB_nil (w : World) : IsB w none 0 [] := ⟨rfl, fun h => absurd h (by omega)⟩
theorem Qt {P : Program} {ops : Array Oper} {rest : List Oper} {o : Oper} {a : Act} {w : World} {Q : Exit -> Act -> World -> Prop} (hw : Region.wanted o (yielded ops a.tmps) = true) (t : TypeId) (x : Operand) (ho : o.op = .load t x) (u v : Value) (hu : a.eval x = u) (hv : (Instr.loadAt t u).run P w = .ok v w)
    (h : wpList P ops Q rest (a.put o.dst v) w) : wpList P ops Q (o :: rest) a w :=
  Qnf hw v (by unfold execOp; simp only [ho, hu, Sem.run_bind, hv, Result.andThen_ok, Sem.run_pure]) h
set_option linter.unusedVariables false
set_option linter.unusedVariables false
theorem Qma.check : ∀ s, (Qmd s).2.e = 0 -> s.e = 0 /\ s.l = Que (Qmd s).1.1 (Qmd s).1.2.1 (Qmd s).1.2.2 ++ (Qmd s).2.l := by
  intro s h; have h5 := Qma.some Qma.di _ _ h; have h4 := Qma.in 0 32 _ h5.1; have h3 := Qma.some Qma.tx _ _ h4.1; have h2 := Qma.in 0 16 _ h3.1; have h1 := Qma.num 8 _ h2.1; refine ⟨h1.1, ?_⟩
  have e : ∀ (b n m : Nat) (ts : List Tx) (ds : List Di), ts.length = n -> ds.length = m -> Que b ts ds = beB 8 b ++ (beB 1 n ++ (txsB ts ++ (beB 1 m ++ disB ds))) := by
    rintro b n m ts ds rfl rfl; rfl
  unfold Qmd Qab Qki; simp only; rw [e _ _ _ _ _ h3.2.2 h5.2.2]; rw [h1.2.1, h2.2.1, h3.2.1, h4.2.1, h5.2.1]; simp only [List.append_assoc]; rfl
theorem Qma.may {α : Type} {q : Prop} [Decidable q] {z : α} {p : St -> α × St} {f : α -> List UInt8} (h : Qma p f) : ∀ s, (Qzh q z p s).2.e = 0 -> s.e = 0 /\ s.l = Qch q (f (Qzh q z p s).1) ++ (Qzh q z p s).2.l := by
  intro s; unfold Qzh Qch
  by_cases hq : q
  · rw [if_pos hq, if_pos hq]; exact h s
  · rw [if_neg hq, if_neg hq]; intro he; exact ⟨he, rfl⟩
theorem Qyi {a b : Prop} [Decidable a] [Decidable b] (h : a ↔ b) (l : List UInt8) : Qch a l = Qch b l := by
  unfold Qch
  by_cases hb : b
  · rw [if_pos (h.2 hb), if_pos hb]
  · rw [if_neg (fun g => hb (h.1 g)), if_neg hb]
theorem Qma.rec : ∀ s, (Qmk s).2.e = 0 -> s.e = 0 /\ s.l = Qbg (Qmk s).1 ++ (Qmk s).2.l := by
  intro s h; have h8 := Qma.may (f := fun x : Nat × List Tx × List Di => Que x.1 x.2.1 x.2.2) Qma.check _ h; have h7 := Qma.may (f := fun x : Nat => beB 1 x) (fun s hs => ⟨(Qma.num 1 s hs).1, (Qma.num 1 s hs).2.1⟩) _ h8.1; have h6 := Qma.may (f := fun x : Nat => beB 8 x) (fun s hs => ⟨(Qma.num 8 s hs).1, (Qma.num 8 s hs).2.1⟩) _ h7.1; have h5 := Qma.may Qma.ch _ h6.1; have h4 := Qma.num 8 _ h5.1; have h3 := Qma.num 4 _ h4.1; have h2 := Qma.num 8 _ h3.1; have h1 := Qma.in 1 8 _ h2.1; refine ⟨h1.1, ?_⟩
  have e : ∀ (k l t p : Nat) (c : Ch) (n sv b : Nat) (ts : List Tx) (ds : List Di), Qbg ⟨k, l, t, p, c, n, sv, b, ts, ds⟩ = beB 1 k ++ (beB 8 l ++ (beB 4 t ++ (beB 8 p ++ (Qch (k <= 2) (chB c) ++ (Qch (k = 2) (beB 8 n) ++ (Qch (k = 6) (beB 1 sv) ++ Qch (k = 8) (Que b ts ds))))))) := by
    intro k l t p c n sv b ts ds; unfold Qbg; simp only [Int.toNat_natCast]; rw [Qyi (show ((k : Int) <= 2) ↔ k <= 2 by omega), Qyi (show ((k : Int) = 2) ↔ k = 2 by omega), Qyi (show ((k : Int) = 6) ↔ k = 6 by omega), Qyi (show ((k : Int) = 8) ↔ k = 8 by omega)]
  show s.l = Qbg _ ++ _; unfold Qmk Qab Qki; simp only; rw [e]; rw [h1.2.1, h2.2.1, h3.2.1, h4.2.1, h5.2, h6.2, h7.2, h8.2]; simp only [List.append_assoc]
theorem dec_ok (b : List UInt8) (h : (Qpk b).2 = 0) : (Qpk b).1.right /\ Qbg (Qpk b).1 = b := by
  unfold Qpk at h |-
  by_cases h1 : (Qmk ⟨b, 0⟩).2.e ≠ 0
  · rw [if_pos h1] at h; exact absurd h h1
  · rw [if_neg h1] at h |-
    by_cases h2 : (Qmk ⟨b, 0⟩).2.l ≠ [] ∨ (Qmk ⟨b, 0⟩).1.rightB = false
    · rw [if_pos h2] at h; cases h
    · rw [if_neg h2]; have h3 : (Qmk ⟨b, 0⟩).2.l = [] := Decidable.of_not_not fun h3 => h2 (.inl h3)
      have h4 : (Qmk ⟨b, 0⟩).1.rightB = true := by
        cases hb : (Qmk ⟨b, 0⟩).1.rightB
        · exact absurd (.inr hb) h2
        · rfl
      obtain ⟨_, h5⟩ := Qma.rec ⟨b, 0⟩ (Decidable.of_not_not h1); refine ⟨Qqf.1 h4, ?_⟩; rw [h3, List.append_nil] at h5; exact h5.symm
theorem dec_no (b : List UInt8) (h : (Qpk b).2 ≠ 0) : (Qpk b).1 = Rec.zero := by
  unfold Qpk at h |-
  split
  · rfl
  · rename_i h1; rw [if_neg h1] at h
    split
    · rfl
    · rename_i h2; rw [if_neg h2] at h; exact absurd rfl h
def Rel (t : List UInt8) (s s' : St) : Prop := s.e = 4 ∨ (s.e = 0 /\ s'.e = 0 /\ s'.l = s.l ++ t)
structure Good {α : Type} (p : St -> α × St) : Prop where
  stick : ∀ s, s.e ≠ 0 -> (p s).2 = s
  sim : ∀ t s s', Rel t s s' -> (p s').2.e = 0 -> Rel t (p s).2 (p s').2 /\ ((p s).2.e = 0 -> (p s).1 = (p s').1)
theorem Good.pure {α : Type} (a : α) : Good (Qki a) := ⟨fun s _ => rfl, fun t s s' h _ => ⟨h, fun _ => rfl⟩⟩
theorem Good.bind {α β : Type} {p : St -> α × St} {q : α -> St -> β × St} (hp : Good p) (hq : ∀ a, Good (q a)) : Good (Qab p q) := by
  refine ⟨fun s hs => ?_, fun t s s' h h' => ?_⟩
  · unfold Qab; have h1 := hp.stick s hs; rw [h1]; exact (hq _).stick s hs
  · unfold Qab at h' |-
    have e' : (p s').2.e = 0 := by
      by_cases he : (p s').2.e = 0
      · exact he
      · rw [(hq _).stick _ he] at h'; exact h'
    obtain ⟨h1, h2⟩ := hp.sim t s s' h e'
    by_cases he : (p s).2.e = 0
    · rw [h2 he]; exact (hq _).sim t _ _ h1 h'
    · have h4 : (p s).2.e = 4 := by
        rcases h1 with h1 | h1
        · exact h1
        · exact absurd h1.1 he
      rw [(hq (p s).1).stick _ he]; exact ⟨.inl h4, fun h5 => absurd h5 he⟩
theorem Good.num (w : Nat) : Good (Qqa w) := by
  refine ⟨fun s hs => by unfold Qqa; rw [if_pos hs], fun t s s' h h' => ?_⟩
  rcases h with h | ⟨h1, h2, h3⟩
  · have hs : s.e ≠ 0 := by omega
    have e : Qqa w s = (0, s) := by unfold Qqa; rw [if_pos hs]
    rw [e]; exact ⟨.inl h, fun h5 => absurd h5 hs⟩
  · by_cases hw : w <= s.l.length
    · have e : Qqa w s = (be (s.l.take w), ⟨s.l.drop w, 0⟩) := by unfold Qqa; rw [if_neg (by simpa using h1), if_pos hw]
      have hw' : w <= s'.l.length := by rw [h3, List.length_append]; omega
      have e' : Qqa w s' = (be (s'.l.take w), ⟨s'.l.drop w, 0⟩) := by unfold Qqa; rw [if_neg (by simpa using h2), if_pos hw']
      rw [e, e', h3]
      refine ⟨.inr ⟨rfl, rfl, ?_⟩, fun _ => ?_⟩
      · show (s.l ++ t).drop w = s.l.drop w ++ t; rw [List.drop_append_of_le_length hw]
      · show be (s.l.take w) = be ((s.l ++ t).take w); rw [List.take_append_of_le_length hw]
    · have e : Qqa w s = (0, ⟨[], 4⟩) := by unfold Qqa; rw [if_neg (by simpa using h1), if_neg hw]
      rw [e]; exact ⟨.inl rfl, fun h5 => by cases h5⟩
theorem Good.text : Good Qhc := by
  refine ⟨fun s hs => by unfold Qhc; rw [if_pos hs], fun t s s' h h' => ?_⟩
  rcases h with h | ⟨h1, h2, h3⟩
  · have hs : s.e ≠ 0 := by omega
    have e : Qhc s = (⟨#[]⟩, s) := by unfold Qhc; rw [if_pos hs]
    rw [e]; exact ⟨.inl h, fun h5 => absurd h5 hs⟩
  · obtain ⟨l, e⟩ := s; obtain ⟨l', e'⟩ := s'; simp only at h1 h2 h3; subst h1 h2 h3
    cases l with
    | nil => exact ⟨.inl rfl, fun h5 => by cases h5⟩
    | cons b l =>
      by_cases hb : b.toNat <= l.length
      · have e1 : Qhc ⟨b :: l, 0⟩ = (⟨(l.take b.toNat).toArray⟩, ⟨l.drop b.toNat, 0⟩) := by
          unfold Qhc; rw [if_neg (by simp)]; simp only; rw [if_pos hb]
        have e2 : Qhc ⟨b :: l ++ t, 0⟩ = (⟨((l ++ t).take b.toNat).toArray⟩, ⟨(l ++ t).drop b.toNat, 0⟩) := by
          unfold Qhc; rw [if_neg (by simp)]; simp only [List.cons_append]; rw [if_pos (by rw [List.length_append]; omega)]
        rw [e1, e2, List.drop_append_of_le_length hb, List.take_append_of_le_length hb]; exact ⟨.inr ⟨rfl, rfl, rfl⟩, fun _ => rfl⟩
      · have e1 : Qhc ⟨b :: l, 0⟩ = (⟨#[]⟩, ⟨[], 4⟩) := by
          unfold Qhc; rw [if_neg (by simp)]; simp only; rw [if_neg hb]
        rw [e1]; exact ⟨.inl rfl, fun h5 => by cases h5⟩
theorem Good.in (lo hi : Nat) : Good (pIn lo hi) := by
  refine ⟨fun s hs => ?_, fun t s s' h h' => ?_⟩
  · unfold pIn; have h1 := (Good.num 1).stick s hs; rw [if_neg (by rw [h1]; exact fun h => hs h.1)]; exact h1
  · have hc' : ¬ ((Qqa 1 s').2.e = 0 /\ ((Qqa 1 s').1 < lo ∨ hi < (Qqa 1 s').1)) := by
      intro hc; unfold pIn at h'; rw [if_pos hc] at h'; cases h'
    have e' : pIn lo hi s' = Qqa 1 s' := by unfold pIn; rw [if_neg hc']
    rw [e'] at h' |-; obtain ⟨h1, h2⟩ := (Good.num 1).sim t s s' h h'
    have hc : ¬ ((Qqa 1 s).2.e = 0 /\ ((Qqa 1 s).1 < lo ∨ hi < (Qqa 1 s).1)) := by
      intro hc; rw [h2 hc.1] at hc; exact hc' ⟨h', hc.2⟩
    have e : pIn lo hi s = Qqa 1 s := by unfold pIn; rw [if_neg hc]
    rw [e]; exact ⟨h1, h2⟩
theorem Good.some {α : Type} {p : St -> α × St} (hp : Good p) : ∀ n, Good (Qna p n)
  | 0 => ⟨fun s _ => rfl, fun t s s' h _ => ⟨h, fun _ => rfl⟩⟩
  | n + 1 => by
    have ih := Good.some hp n; refine ⟨fun s hs => by unfold Qna; rw [if_pos hs], fun t s s' h h' => ?_⟩
    by_cases hs : s.e = 0
    · have hs' : s'.e = 0 := by
        rcases h with h | h
        · omega
        · exact h.2.1
      have e : Qna p (n + 1) s = ((p s).1 :: (Qna p n (p s).2).1, (Qna p n (p s).2).2) := by
        conv => lhs; unfold Qna
        rw [if_neg (by simpa using hs)]
      have e' : Qna p (n + 1) s' = ((p s').1 :: (Qna p n (p s').2).1, (Qna p n (p s').2).2) := by
        conv => lhs; unfold Qna
        rw [if_neg (by simpa using hs')]
      rw [e'] at h' |-; rw [e]
      have e1 : (p s').2.e = 0 := by
        by_cases he : (p s').2.e = 0
        · exact he
        · have := ih.stick _ he; simp only at h'; rw [this] at h'; exact h'
      obtain ⟨h1, h2⟩ := hp.sim t s s' h e1; obtain ⟨h3, h4⟩ := ih.sim t _ _ h1 h'; refine ⟨h3, fun h5 => ?_⟩
      have e2 : (p s).2.e = 0 := by
        by_cases he : (p s).2.e = 0
        · exact he
        · have := ih.stick _ he; simp only at h5; rw [this] at h5; exact h5
      show _ :: _ = _ :: _; rw [h2 e2, h4 h5]
    · have e : Qna p (n + 1) s = ([], s) := by
        conv => lhs; unfold Qna
        rw [if_pos hs]
      rw [e]
      have h4 : s.e = 4 := by
        rcases h with h | h
        · exact h
        · exact absurd h.1 hs
      exact ⟨.inl h4, fun h5 => absurd h5 hs⟩
theorem Good.may {α : Type} {q : Prop} [Decidable q] {z : α} {p : St -> α × St} (hp : Good p) : Good (Qzh q z p) := by
  unfold Qzh
  split
  · exact hp
  · exact Good.pure z
theorem Good.ch : Good pCh := (Good.num 1).bind fun _ => (Good.num 2).bind fun _ => (Good.num 1).bind fun _ => Good.text.bind fun _ => Good.text.bind fun _ => Good.pure _
theorem Good.tx : Good pTx := (Good.num 4).bind fun _ => (Good.num 1).bind fun _ => (Good.num 8).bind fun _ => (Good.num 8).bind fun _ => (Good.num 8).bind fun _ => Good.pure _
theorem Good.di : Good pDi := (Good.num 2).bind fun _ => (Good.num 8).bind fun _ => Good.pure _
theorem Good.check : Good Qmd := (Good.num 8).bind fun _ => (Good.in 0 16).bind fun n => (Good.some Good.tx n).bind fun _ => (Good.in 0 32).bind fun m => (Good.some Good.di m).bind fun _ => Good.pure _
theorem Good.record : Good Qmk := (Good.in 1 8).bind fun _ => (Good.num 8).bind fun _ => (Good.num 4).bind fun _ => (Good.num 8).bind fun _ => (Good.may Good.ch).bind fun _ => (Good.may (Good.num 8)).bind fun _ => (Good.may (Good.num 1)).bind fun _ => (Good.may Good.check).bind fun _ => Good.pure _
theorem dec_cut (r : Rec) (h : r.right) (b t : List UInt8) (hb : Qbg r = b ++ t) (ht : t ≠ []) : Qpk b = (Rec.zero, 4) := by
  have h1 := Qs.rec r h []; rw [List.append_nil, hb] at h1; have h2 := (Good.record.sim t ⟨b, 0⟩ ⟨b ++ t, 0⟩ (.inr ⟨rfl, rfl, rfl⟩) (by rw [h1])).1; rw [h1] at h2
  have h3 : (Qmk ⟨b, 0⟩).2.e = 4 := by
    rcases h2 with h2 | ⟨_, _, h2⟩
    · exact h2
    · have h4 : ([] : List UInt8) = (Qmk ⟨b, 0⟩).2.l ++ t := h2; have h5 := congrArg List.length h4; rw [List.length_append] at h5; have h6 : t.length = 0 := by simp only [List.length_nil] at h5; omega
      exact absurd (List.eq_nil_of_length_eq_zero h6) ht
  unfold Qpk; rw [h3, if_pos (by decide)]
def rdB (v : Value) (k : Nat) (e : Int) (r : Rec) (va vb : Value) : Array Value := #[v, .int .i64 (k : Int), .int .i64 e, .int .i64 r.k, .int .u64 (r.l : Int), .int .i64 r.t, .int .u64 (r.p : Int), .int .i64 r.c.k, .int .i64 r.c.pg, .int .i64 r.c.sl, .string r.c.o, .string r.c.n, .int .u64 (r.n : Int), .int .i64 r.s, .int .u64 (r.b : Int), va, vb]
theorem isB_grown {w x : World} {a : Option Addr} {len g : Nat} {bs : List UInt8} (h : IsB w a len bs) (hg : w.grownBy x (some g)) (hn : 0 < len -> ∀ y, a = some y -> y.block ≠ g) : IsB x a len bs := by
  refine ⟨h.1, fun hp => ?_⟩; obtain ⟨b, off, ha, hlt, hc⟩ := h.2 hp; refine ⟨b, off, ha, Nat.lt_of_lt_of_le hlt hg.size, fun j hj => ?_⟩; rw [World.cell?_of_block (a := ⟨b, off + j, none⟩) (hg.block b hlt (fun e => hn hp _ ha (by cases e; rfl)))]; exact hc j hj
theorem apart_ne {len g : Nat} {a : Option Addr} (h : 0 < len -> ∀ x, a = some x -> x.block < g) : 0 < len -> ∀ x, a = some x -> x.block ≠ g := fun hp x hx => Nat.ne_of_lt (h hp x hx)
theorem row_grown {w x : World} {g k : Nat} {t : TypeId} {cs : Array Value} (h : Qa w k t cs) (hg : w.grownBy x (some g)) (hn : k ≠ g) : Qa x k t cs := (hg.block k h.lt (fun e => hn (by cases e; rfl))).trans h
theorem grown_none {w x : World} (h : w.grownBy x none) : Below w.heap.size w x := ⟨h.os, h.tape, h.output, h.size, fun k hk => h.block k hk (by simp)⟩
theorem of_below {w x : World} {o : Option Nat} (h : Below w.heap.size w x) : w.grownBy x o := ⟨h.os, h.tape, h.output, h.size, fun k hk _ => h.block k hk⟩
theorem num_zero {k : Nat} {s : St} (h : (Qqa k s).2.e ≠ 0) : (Qqa k s).1 = 0 := by
  unfold Qqa at h |-
  by_cases he : s.e ≠ 0
  · rw [if_pos he]
  · rw [if_neg he] at h |-
    by_cases hk : k <= s.l.length
    · rw [if_pos hk] at h; exact absurd rfl h
    · rw [if_neg hk]
theorem text_zero {s : St} (h : (Qhc s).2.e ≠ 0) : (Qhc s).1 = ⟨#[]⟩ := by
  unfold Qhc at h |-
  by_cases he : s.e ≠ 0
  · rw [if_pos he]
  · rw [if_neg he] at h |-
    cases hs : s.l with
    | nil => rfl
    | cons b l =>
      rw [hs] at h; simp only at h |-
      by_cases hk : b.toNat <= l.length
      · rw [if_pos hk] at h; exact absurd rfl h
      · rw [if_neg hk]
theorem Qis (k : Nat) (s : St) : (Qqa k s).1 < 256 ^ k := by
  have hp : 0 < 256 ^ k := Nat.pow_pos (by omega); unfold Qqa
  by_cases he : s.e ≠ 0
  · rw [if_pos he]; exact hp
  · rw [if_neg he]
    by_cases hk : k <= s.l.length
    · rw [if_pos hk]; have h := Qlu (s.l.take k); rw [List.length_take, Nat.min_eq_left hk] at h; exact h
    · rw [if_neg hk]; exact hp
theorem in_val (lo hi : Nat) (s : St) : (pIn lo hi s).1 = (Qqa 1 s).1 := by
  unfold pIn; split <;> rfl
def cntN (m : Nat) (s : St) : Nat := if (pIn 0 m s).2.e = 0 then (pIn 0 m s).1 else 0
def Off (g : Nat) (l : List (Nat × TypeId × Array Value)) : Prop := ∀ e ∈ l, e.1 ≠ g
theorem has_grown {g : Nat} {x y : World} (h : x.grownBy y (some g)) : ∀ {l : List (Nat × TypeId × Array Value)}, Off g l -> Has x l -> Has y l
  | [], _, _ => trivial
  | e :: l, ha, hh => ⟨row_grown hh.1 h (ha e (by simp)), has_grown h (fun e he => ha e (by simp [he])) hh.2⟩
theorem Qtw (n : Nat) (h : n < 9223372036854775808) : IntKind.i64.wrap (n : Int) = (n : Int) := by
  rw [IntKind.wrap_i64]; omega
def itS {α : Type} (p : St -> α × St) : Nat -> St -> St
  | 0, s => s
  | n + 1, s => itS p n (p s).2
def itL {α : Type} (p : St -> α × St) : Nat -> St -> List α
  | 0, _ => []
  | n + 1, s => (p s).1 :: itL p n (p s).2
theorem itS_more {α : Type} (p : St -> α × St) : ∀ n s, itS p (n + 1) s = (p (itS p n s)).2
  | 0, _ => rfl
  | n + 1, s => itS_more p n (p s).2
theorem itL_more {α : Type} (p : St -> α × St) : ∀ n s, itL p (n + 1) s = itL p n s ++ [(p (itS p n s)).1]
  | 0, _ => rfl
  | n + 1, s => by
    show (p s).1 :: itL p (n + 1) (p s).2 = _; rw [itL_more p n (p s).2]; rfl
theorem Qnt {α : Type} (p : St -> α × St) : ∀ n s, (itL p n s).length = n
  | 0, _ => rfl
  | n + 1, s => by
    show (itL p n (p s).2).length + 1 = n + 1; rw [Qnt p n]
theorem Qcp {α : Type} {p : St -> α × St} (hp : Good p) : ∀ n s, s.e ≠ 0 -> itS p n s = s
  | 0, _, _ => rfl
  | n + 1, s, h => by
    show itS p n (p s).2 = s; rw [hp.stick s h]; exact Qcp hp n s h
theorem some_it {α : Type} {p : St -> α × St} (hp : Good p) : ∀ n s, (Qna p n s).2 = itS p n s /\ ((Qna p n s).2.e = 0 -> (Qna p n s).1 = itL p n s)
  | 0, _ => ⟨rfl, fun _ => rfl⟩
  | n + 1, s => by
    by_cases h : s.e ≠ 0
    · have e : Qna p (n + 1) s = ([], s) := by rw [Qna, if_pos h]
      rw [e, Qcp hp (n + 1) s h]; exact ⟨rfl, fun h2 => absurd h2 h⟩
    · have e : Qna p (n + 1) s = ((p s).1 :: (Qna p n (p s).2).1, (Qna p n (p s).2).2) := by rw [Qna, if_neg h]
      have ih := some_it hp n (p s).2; rw [e]; refine ⟨ih.1, fun h2 => ?_⟩; show (p s).1 :: (Qna p n (p s).2).1 = (p s).1 :: itL p n (p s).2; rw [ih.2 h2]
theorem own_ne {w x : World} {T : TypeId} {sz : Nat} {v : Value} {n : Nat} {xs : List Value} (h : x.ownsRow w.heap.size T sz v n xs) {k : Nat} (hk : k < w.heap.size) : some k ≠ v.ownBlock := fun e => by
  have := (h.lt k e.symm).1; omega
theorem Qlt (w : World) {P : Program} {ops : Array Oper} {rest : List Oper} {o : Oper} {a : Act} {Q : Exit -> Act -> World -> Prop} (hg : o.guard = none) (s x : Operand) (t e : TypeId) (hop : o.op = Op.call { callee := Callee.builtin Builtin.append, args := #[s, x], argTypes := #[t, t] })
    (z : Array Value) (sz by' : Nat) (ht : P.underlying t = some (.slice e)) (hi : (P.info? e).map (fun i => (i.zero, i.size, i.bytes)) = some (some (.agg z), sz, by')) (hzs : z.size = sz) (hsz : 0 < sz)
    (base : Nat) (v : Value) (n : Nat) (xs : List Value) (hs : a.eval s = v) (hown : w.ownsRow base e sz v n xs)
    (b : Nat) (c : Array Value) (hc : c.size = sz) (h1 : c.all (·.oneCell') = true) (hx : a.eval x = .slice (some ⟨b, 0, none⟩) 1 1) (hB : Qa w b e c) (hn : n <= 1000) (hby : by' <= 1000) (hbase : base <= w.heap.size)
    (hK : ∀ v' w', w'.ownsRow base e sz v' (n + 1) (xs ++ c.toList) -> w.grownBy w' v.ownBlock -> wpList P ops Q rest (a.put o.dst v') w') :
    wpList P ops Q (o :: rest) a w := by
  obtain ⟨i, hi0, hi1⟩ := Option.map_eq_some_iff.1 hi; simp only [Prod.mk.injEq] at hi1
  refine wpList_append_own w hg s x t hop base e i (.agg z) sz by' ht hi0 hi1.1 hi1.2.1 hi1.2.2 hzs hsz v n xs hs hown ⟨b, 0, none⟩ 1 1 c.toList hx (by rw [Array.length_toList, hc, Nat.one_mul]) ?_ ?_ (by unfold maxLen; omega) ?_ hbase (fun v' w' h1 h2 _ => hK v' w' h1 h2)
  · intro j u hu; rw [Array.getElem?_toList] at hu; rw [Addr.add_lit, Nat.zero_add]; exact hB.cell j u hu
  · intro u hu; rw [Array.all_eq_true'] at h1; exact h1 u (by simpa using hu)
  · have : (n + 1) * by' <= 1001 * 1000 := Nat.mul_le_mul (by omega) hby
    omega
theorem row_new2 (w : World) (t : TypeId) (cs : Array Value) {g : Nat} (hg : w.heap.size = g) : Qa (w.alloc (.cells cs t)) g t cs := by
  subst hg; exact Qa.new w t cs
theorem infoTx3 : (Try.prog.info? 42).map (fun i => (i.zero, i.size, i.bytes)) = some (some (.agg #[.int .i64 0, .int .i64 0, .int .u64 0, .int .u64 0, .int .u64 0]), 5, 40) := by kernel_rfl
theorem infoDi3 : (Try.prog.info? 81).map (fun i => (i.zero, i.size, i.bytes)) = some (some (.agg #[.int .i64 0, .int .u64 0]), 2, 16) := by kernel_rfl
def flatT (ts : List Tx) : List Value := ts.flatMap fun x => (txA x).toList
def flatD (ts : List Di) : List Value := ts.flatMap fun x => (diA x).toList
set_option linter.unusedVariables false
set_option linter.unusedVariables false
theorem grown_setch {w x : World} {g : Nat} (h : w.grownBy x (some g)) (c : Ch) : w.grownBy (x.setCells g 7 (chA c).toList) (some g) := Qkf _ (Qkf _ (Qkf _ (Qkf _ (Qkf _ h))))
theorem own_shape5 {w : World} {base n sz : Nat} {e : TypeId} {v : Value} {xs : List Value} (h : w.ownsRow base e sz v n xs) : ∃ a c, v = .slice a n c := by
  rcases h.2 with ⟨h1, h2⟩ | ⟨g', cap, cur, h2, _⟩
  · exact ⟨none, 0, by rw [h1, h2]⟩
  · exact ⟨_, _, h2⟩
theorem own_mono {w : World} {base base' n sz : Nat} {e : TypeId} {v : Value} {xs : List Value} (h : w.ownsRow base e sz v n xs) (hb : base' <= base) : w.ownsRow base' e sz v n xs := by
  refine ⟨h.1, h.2.imp id ?_⟩; rintro ⟨g', cap, cur, h2, h3, h4⟩; exact ⟨g', cap, cur, h2, Nat.le_trans hb h3, h4⟩
def recRest (k : Nat) : St -> Rec × St := Qab (Qqa 8) fun l => Qab (Qqa 4) fun t => Qab (Qqa 8) fun p => Qab (Qzh (k <= 2) Ch.zero pCh) fun c => Qab (Qzh (k = 2) 0 (Qqa 8)) fun n => Qab (Qzh (k = 6) 0 (Qqa 1)) fun s =>
    Qab (Qzh (k = 8) (0, [], []) Qmd) fun x => Qki ⟨k, l, t, p, c, n, s, x.1, x.2.1, x.2.2⟩
theorem rec_rest (s : St) : Qmk s = recRest (pIn 1 8 s).1 (pIn 1 8 s).2 := rfl
theorem Good.rest (k : Nat) : Good (recRest k) := (Good.num 8).bind fun _ => (Good.num 4).bind fun _ => (Good.num 8).bind fun _ => (Good.may Good.ch).bind fun _ => (Good.may (Good.num 8)).bind fun _ => (Good.may (Good.num 1)).bind fun _ => (Good.may Good.check).bind fun _ => Good.pure _
theorem kind_bad {s : St} (hs : s.e = 0) (h : (pIn 1 8 s).2.e ≠ 0) : (pIn 1 8 s).1 < 1 ∨ 8 < (pIn 1 8 s).1 := by
  rw [in_val]
  by_cases h1 : (Qqa 1 s).2.e = 0
  · by_cases hb : (Qqa 1 s).1 < 1 ∨ 8 < (Qqa 1 s).1
    · exact hb
    · have e : pIn 1 8 s = Qqa 1 s := by unfold pIn; rw [if_neg (fun h => hb h.2)]
      rw [e] at h; exact absurd h1 h
  · rw [num_zero h1]; omega
theorem kind_good {s : St} (h : (pIn 1 8 s).2.e = 0) : 1 <= (pIn 1 8 s).1 /\ (pIn 1 8 s).1 <= 8 := by
  by_cases hb : (Qqa 1 s).2.e = 0 /\ ((Qqa 1 s).1 < 1 ∨ 8 < (Qqa 1 s).1)
  · have e : pIn 1 8 s = ((Qqa 1 s).1, ⟨(Qqa 1 s).2.l, 2⟩) := by unfold pIn; rw [if_pos hb]
    rw [e] at h; cases h
  · have e : pIn 1 8 s = Qqa 1 s := by unfold pIn; rw [if_neg hb]
    rw [e] at h |-
    by_cases h2 : (Qqa 1 s).1 < 1 ∨ 8 < (Qqa 1 s).1
    · exact absurd ⟨h, h2⟩ hb
    · omega
theorem cnt_some {α : Type} {p : St -> α × St} (hp : Good p) (m : Nat) (s : St) : (Qna p (pIn 0 m s).1 (pIn 0 m s).2).2 = itS p (cntN m s) (pIn 0 m s).2 /\ ((Qna p (pIn 0 m s).1 (pIn 0 m s).2).2.e = 0 -> (Qna p (pIn 0 m s).1 (pIn 0 m s).2).1 = itL p (cntN m s) (pIn 0 m s).2) := by
  by_cases h : (pIn 0 m s).2.e = 0
  · have e : cntN m s = (pIn 0 m s).1 := by unfold cntN; rw [if_pos h]
    rw [e]; exact some_it hp _ _
  · have e : cntN m s = 0 := by unfold cntN; rw [if_neg h]
    rw [e, (Good.some hp _).stick _ h]; exact ⟨rfl, fun h2 => absurd h2 h⟩
set_option linter.unusedVariables false
set_option linter.unusedVariables false
set_option linter.unusedVariables false
set_option linter.unusedVariables false
set_option linter.unusedVariables false
set_option linter.unusedVariables false
set_option linter.unusedVariables false
set_option linter.unusedVariables false
set_option linter.unusedVariables false
theorem wf_i64n (n : Nat) (h : n < 9223372036854775808) : (Lit.int .i64 (n : Int)).wf = true := by
  rw [<- Qtw n h]; exact wf_wrap _ _
theorem wf_u64n (n : Nat) (h : n < 18446744073709551616) : (Lit.int .u64 (n : Int)).wf = true := by
  have e : IntKind.u64.wrap (n : Int) = (n : Int) := by rw [IntKind.wrap_u64]; omega
  rw [<- e]; exact wf_wrap _ _
theorem Qur (s : St) : (Qhc s).1.size <= 255 := by
  unfold Qhc
  by_cases he : s.e ≠ 0
  · rw [if_pos he]; exact Nat.zero_le _
  · rw [if_neg he]
    cases hs : s.l with
    | nil => exact Nat.zero_le _
    | cons b l =>
      simp only
      by_cases hk : b.toNat <= l.length
      · rw [if_pos hk]; show (l.take b.toNat).toArray.size <= 255; rw [List.size_toArray, List.length_take]; have := b.toNat_lt; omega
      · rw [if_neg hk]; exact Nat.zero_le _
theorem Qol (w : Nat) (hw : w <= 4) (s : St) : (Lit.int .i64 ((Qqa w s).1 : Int)).wf = true := by
  have h := Qis w s; have h2 : 256 ^ w <= 256 ^ 4 := Nat.pow_le_pow_right (by omega) hw; exact wf_i64n _ (by omega)
theorem Qcn (w : Nat) (hw : w <= 8) (s : St) : (Lit.int .u64 ((Qqa w s).1 : Int)).wf = true := by
  have h := Qis w s; have h2 : 256 ^ w <= 256 ^ 8 := Nat.pow_le_pow_right (by omega) hw; exact wf_u64n _ (by omega)
theorem ch_fits (s : St) : (pCh s).1.fits := by
  have hm : (255 : Nat) <= maxLen := by unfold maxLen; omega
  exact ⟨Qol 1 (by omega) _, Qol 2 (by omega) _, Qol 1 (by omega) _, Nat.le_trans (Qur _) hm, Nat.le_trans (Qur _) hm⟩
theorem tx_fits (s : St) : (pTx s).1.fits := ⟨Qol 4 (by omega) _, Qol 1 (by omega) _, Qcn 8 (by omega) _, Qcn 8 (by omega) _, Qcn 8 (by omega) _⟩
theorem di_fits (s : St) : (pDi s).1.fits := ⟨Qol 2 (by omega) _, Qcn 8 (by omega) _⟩
theorem Qym {α : Type} {p : St -> α × St} {G : α -> Prop} (hp : ∀ s, G (p s).1) : ∀ n s, (∀ x ∈ (Qna p n s).1, G x) /\ (Qna p n s).1.length <= n
  | 0, _ => ⟨fun x hx => (nomatch hx), Nat.le_refl _⟩
  | n + 1, s => by
    by_cases h : s.e ≠ 0
    · have e : Qna p (n + 1) s = ([], s) := by rw [Qna, if_pos h]
      rw [e]; exact ⟨fun x hx => (nomatch hx), Nat.zero_le _⟩
    · have e : Qna p (n + 1) s = ((p s).1 :: (Qna p n (p s).2).1, (Qna p n (p s).2).2) := by rw [Qna, if_neg h]
      have ih := Qym hp n (p s).2; rw [e]; refine ⟨fun x hx => ?_, by show _ + 1 <= _; exact Nat.succ_le_succ ih.2⟩
      rcases List.mem_cons.1 hx with rfl | hx
      · exact hp s
      · exact ih.1 x hx
theorem Qqp (q : Prop) [Decidable q] (s : St) : (Qzh q Ch.zero pCh s).1.fits := by
  unfold Qzh
  split
  · exact ch_fits s
  · exact Qrj
theorem check_all (q : Prop) [Decidable q] (s : St) : (∀ x ∈ (Qzh q (0, [], []) Qmd s).1.2.1, x.fits) /\ (Qzh q (0, [], []) Qmd s).1.2.1.length <= 255 /\ (∀ x ∈ (Qzh q (0, [], []) Qmd s).1.2.2, x.fits) /\ (Qzh q (0, [], []) Qmd s).1.2.2.length <= 255 := by
  unfold Qzh
  split
  · have h1 := Qym (p := pTx) tx_fits (pIn 0 16 (Qqa 8 s).2).1 (pIn 0 16 (Qqa 8 s).2).2; have h2 := Qym (p := pDi) di_fits (pIn 0 32 (Qna pTx (pIn 0 16 (Qqa 8 s).2).1 (pIn 0 16 (Qqa 8 s).2).2).2).1 (pIn 0 32 (Qna pTx (pIn 0 16 (Qqa 8 s).2).1 (pIn 0 16 (Qqa 8 s).2).2).2).2; have b1 : (pIn 0 16 (Qqa 8 s).2).1 <= 255 := by rw [in_val]; have := Qis 1 (Qqa 8 s).2; omega
    have b2 : (pIn 0 32 (Qna pTx (pIn 0 16 (Qqa 8 s).2).1 (pIn 0 16 (Qqa 8 s).2).2).2).1 <= 255 := by rw [in_val]; have := Qis 1 (Qna pTx (pIn 0 16 (Qqa 8 s).2).1 (pIn 0 16 (Qqa 8 s).2).2).2; omega
    exact ⟨h1.1, Nat.le_trans h1.2 b1, h2.1, Nat.le_trans h2.2 b2⟩
  · exact ⟨fun x hx => (nomatch hx), Nat.zero_le _, fun x hx => (nomatch hx), Nat.zero_le _⟩
theorem rec_fits (s : St) : (Qmk s).1.fits := by
  have hm : (255 : Nat) <= maxLen := by unfold maxLen; omega
  obtain ⟨c1, c2, c3, c4⟩ := check_all ((pIn 1 8 s).1 = 8) (Qzh ((pIn 1 8 s).1 = 6) 0 (Qqa 1) (Qzh ((pIn 1 8 s).1 = 2) 0 (Qqa 8) (Qzh ((pIn 1 8 s).1 <= 2) Ch.zero pCh (Qqa 8 (Qqa 4 (Qqa 8 (pIn 1 8 s).2).2).2).2).2).2).2; exact ⟨Qqp _ _, Nat.le_trans c2 hm, Nat.le_trans c4 hm, c1, c3⟩
theorem Qec : Rec.zero.fits := ⟨Qrj, Nat.zero_le _, Nat.zero_le _, fun x hx => (nomatch hx), fun x hx => (nomatch hx)⟩
theorem dec_fits (b : List UInt8) : (Qpk b).1.fits := by
  unfold Qpk
  split
  · exact Qec
  · split
    · exact Qec
    · exact rec_fits _
def Qyg (base : Nat) (w : World) (r : Rec) (va vb : Value) : Prop := w.ownsRow base 42 5 va r.ts.length (flatT r.ts) /\ w.ownsRow base 81 2 vb r.ds.length (flatD r.ds)
theorem Qyg.below {base : Nat} {w x : World} {r : Rec} {va vb : Value} (h : Qyg base w r va vb) (hb : Below w.heap.size w x) : Qyg base x r va vb := ⟨Qzg h.1 hb, Qzg h.2 hb⟩
theorem Qdj {α : Type} (f : α -> Array Value) (n : Nat) (hf : ∀ x, (f x).size = n) (z : α) : ∀ (xs : List α) (i j : Nat), i < xs.length -> j < n -> (xs.flatMap fun x => (f x).toList)[i * n + j]? = (f (xs.getD i z)).toList[j]?
  | [], i, _, h, _ => absurd h (by simp)
  | x :: xs, 0, j, _, hj => by
    rw [List.flatMap_cons, List.getElem?_append_left (by rw [Array.length_toList, hf]; omega), Nat.zero_mul, Nat.zero_add]; rfl
  | x :: xs, i + 1, j, h, hj => by
    have e : (i + 1) * n + j = (f x).toList.length + (i * n + j) := by rw [Array.length_toList, hf, Nat.add_mul, Nat.one_mul]; omega
    rw [List.flatMap_cons, e, List.getElem?_append_right (Nat.le_add_right _ _), Nat.add_sub_cancel_left]; exact Qdj f n hf z xs i j (by simpa using h) hj
theorem Qse {α : Type} (f : α -> Array Value) (z : α) (n : Nat) (hf : ∀ x, (f x).size = n) {w : World} {base : Nat} {e : TypeId} {v : Value} {xs : List α} (h : w.ownsRow base e n v xs.length (xs.flatMap fun x => (f x).toList)) : Qbd f z n w v xs := by
  rcases h.2 with ⟨h1, h2⟩ | ⟨g, cap, cur, h1, h2, h3, -⟩
  · exact ⟨none, 0, by rw [h1, h2], fun hp => absurd h2 (by omega)⟩
  · subst h1; refine ⟨_, cap, rfl, fun hp => ⟨g, 0, rfl, (Array.getElem?_eq_some_iff.1 h3).1, fun i hi j u hu => ?_⟩⟩
    have hj : j < n := by
      have := (List.getElem?_eq_some_iff.1 hu).1; rwa [Array.length_toList, hf] at this
    have hij : i * n + j < xs.length * n := by
      have h5 : (i + 1) * n <= xs.length * n := Nat.mul_le_mul_right n (by omega); rw [Nat.add_mul, Nat.one_mul] at h5; omega
    rw [Nat.zero_add, h.cellAt (i * n + j) hij, Qdj f n hf z xs i j hi hj]; exact hu
theorem Qyg.rc {base : Nat} {w : World} {r : Rec} {va vb : Value} (h : Qyg base w r va vb) : Qwb w r va vb := ⟨Qse txA Tx.zero 5 (fun _ => rfl) h.1, Qse diA Di.zero 2 (fun _ => rfl) h.2⟩
theorem Qa.setSame {w : World} {b : Nat} {t : TypeId} {cs : Array Value} (h : Qa w b t cs) (j : Nat) (v : Value) (hv : cs[j]? = some v) : Qa (w.setCell ⟨b, j, none⟩ v) b t cs := by
  have h2 := h.set j v
  have e : cs.setIfInBounds j v = cs := by
    apply Array.ext_getElem?; intro i; rw [Array.getElem?_setIfInBounds]
    split
    · rename_i hij; subst hij; rw [hv]; have := (Array.getElem?_eq_some_iff.1 hv).1; simp [this]
    · rfl
  rwa [e] at h2
theorem Qlr {F : Fence} {n : Nat} {P : Program} {ops : Array Oper} {rest : List Oper} {o : Oper} {a : Act} {w w' : World} {Q : Exit -> Act -> World -> Prop} (hw : Region.wanted o (yielded ops a.tmps) = true) (s x : Operand) (t : TypeId) (hop : o.op = Op.call { callee := Callee.builtin Builtin.append, args := #[s, x], argTypes := #[t, t] })
    (vs vx v' : Value) (hs : a.eval s = vs) (hx : a.eval x = vx) (hrun : (Builtin.append_ #[t, t] o.type #[vs, vx]).run P w = .ok v' w') (h : wpListIn F n P ops Q rest (a.put o.dst v') w') : wpListIn F n P ops Q (o :: rest) a w :=
  wpListIn_step fun K hK => by
    simp only [hw, if_true]; unfold Oper.wpIn
    refine ⟨?_, ?_⟩
    · simp [Oper.about, hop, resolve, Target.leads, Sem.run_pure]
    · rw [Oper.semAt_plain F _ _ (by rw [hop]; intro c hc; cases hc)]; simp [execOp, hop, resolve, invoke, builtin, hs, hx, hrun, Result.andThen]; exact hK _ _ h
theorem Qld {α : Type} (f : α -> Array Value) (zz : α) (sz : Nat) (hf : ∀ x, (f x).size = sz) (hsz : 0 < sz) {P : Program} (w : World) (base : Nat) (t ty e : TypeId) (z : Array Value) (by' : Nat) (ht : P.underlying t = some (.slice e))
    (hi : (P.info? e).map (fun i => (i.zero, i.size, i.bytes)) = some (some (.agg z), sz, by')) (hzs : z.size = sz) (v : Value) (n : Nat) (xs : List Value) (hown : w.ownsRow base e sz v n xs)
    (vx : Value) (ms : List α) (hr : Qbd f zz sz w vx ms) (hnil : ∀ a len cap, vx = .slice a len cap -> a = none -> cap = 0) (h1 : ∀ m ∈ ms, ∀ u ∈ (f m).toList, u.oneCell' = true) (hl : n + ms.length <= maxLen) (hb : (n + ms.length) * by' <= 140737488355328) (hbase : base <= w.heap.size) :
    ∃ v' w', (Builtin.append_ #[t, t] ty #[v, vx]).run P w = .ok v' w' /\ w'.ownsRow base e sz v' (n + ms.length) (xs ++ ms.flatMap fun m => (f m).toList) /\ w.grownBy w' v.ownBlock := by
  obtain ⟨i, hi0, hi1⟩ := Option.map_eq_some_iff.1 hi; simp only [Prod.mk.injEq] at hi1; obtain ⟨a, cap, rfl, hc⟩ := hr
  have hlen : (ms.flatMap fun m => (f m).toList).length = ms.length * sz := by
    clear hc h1 hl hb hnil
    induction ms with
    | nil => simp
    | cons m ms ih => rw [List.flatMap_cons, List.length_append, ih, Array.length_toList, hf, List.length_cons, Nat.add_mul, Nat.one_mul, Nat.add_comm]
  cases a with
  | none =>
    obtain rfl := hnil _ _ _ rfl rfl
    have hm : ms = [] := by
      rcases ms with _ | ⟨m, ms⟩
      · rfl
      · obtain ⟨b, off, h, _⟩ := hc (by simp); cases h
    subst hm; exact ⟨v, w, run_append_owned_none (P := P) w base t ty e i sz ht hi0 v n xs hown, by simpa using hown, ⟨rfl, rfl, rfl, Nat.le_refl _, fun _ _ _ => rfl⟩⟩
  | some ad =>
    obtain ⟨v', w', q1, q2, q3, _⟩ := run_append_own (P := P) w base t ty e i (.agg z) sz by' ht hi0 hi1.1 hi1.2.1 hi1.2.2 hzs hsz v n xs hown ad ms.length cap (ms.flatMap fun m => (f m).toList) hlen (fun j u hu => by
      have hj : j < ms.length * sz := by
        have := (List.getElem?_eq_some_iff.1 hu).1; rwa [hlen] at this
      have hp : 0 < ms.length := by
        rcases Nat.eq_zero_or_pos ms.length with h | h
        · rw [h] at hj; omega
        · exact h
      obtain ⟨b, off, h2, _, h3⟩ := hc hp; cases h2; have hq : j / sz < ms.length := Nat.div_lt_of_lt_mul (by rw [Nat.mul_comm]; exact hj); have hr2 : j % sz < sz := Nat.mod_lt _ hsz; have hjj : j / sz * sz + j % sz = j := by rw [Nat.mul_comm]; exact Nat.div_add_mod j sz
      have h4 := Qdj f sz hf zz ms (j / sz) (j % sz) hq hr2; rw [hjj, hu] at h4; have h5 := h3 (j / sz) hq (j % sz) u h4.symm; rw [Addr.add_lit]; rw [Nat.add_assoc, hjj] at h5
      exact h5) (fun u hu => by
      obtain ⟨m, hm, hu2⟩ := List.mem_flatMap.1 hu
      exact h1 m hm u hu2) hl hb hbase
    exact ⟨v', w', q1, q2, q3⟩
theorem run_append_full {P : Program} (w : World) (t ty e : TypeId) (ht : P.underlying t = some (.slice e)) (hi : (P.info? e).map (fun i => (i.zero, i.size, i.bytes)) = some (some (.int .u8 0), 1, 1))
    (ao : Option Addr) (lo : Nat) (xs : List UInt8) (hB : IsB w ao lo xs) (ay : Option Addr) (m c : Nat) (ys : List UInt8) (hY : IsB w ay m ys) (hn : m = 0 -> ay = none /\ c = 0) (hz : lo + m <= 140737488355328) :
    ∃ a' c' w', (Builtin.append_ #[t, t] ty #[.slice ao lo lo, .slice ay m c]).run P w = .ok (.slice a' (lo + m) c') w' /\ IsB w' a' (lo + m) (xs ++ ys) /\ lo + m <= c' /\ Below w.heap.size w w' := by
  obtain ⟨i, hi0, hi1⟩ := Option.map_eq_some_iff.1 hi; simp only [Prod.mk.injEq] at hi1
  rcases Nat.eq_zero_or_pos m with rfl | hm
  · obtain ⟨rfl, rfl⟩ := hn rfl; obtain rfl : ys = [] := List.eq_nil_of_length_eq_zero hY.1; refine ⟨ao, lo, w, ?_, by simpa using hB, Nat.le_refl _, Below.refl _ _⟩
    cases ao with
    | none =>
      have h0 : lo = 0 := by
        rcases Nat.eq_zero_or_pos lo with h | h
        · exact h
        · obtain ⟨b, off, hb, _⟩ := hB.2 h; cases hb
      subst h0; simp [Builtin.append_, run_underlying ht, sizeOf, typeInfo, hi0, Builtin.lenOf, Builtin.firstCells]
    | some b => simp [Builtin.append_, run_underlying ht, sizeOf, typeInfo, hi0, Builtin.lenOf, Builtin.firstCells, storeCells]
  · obtain ⟨b2, off2, rfl, _, _⟩ := hY.2 hm
    have fin : ∀ v' w', w'.ownsRow w.heap.size e 1 v' (lo + m) (toV xs ++ toV ys) -> w.grownBy w' none -> ∃ a' c', v' = .slice a' (lo + m) c' /\ IsB w' a' (lo + m) (xs ++ ys) /\ lo + m <= c' /\ Below w.heap.size w w' := fun v' w' h1 h2 => by
      rw [<- Qmc] at h1; obtain ⟨a', c', rfl, hc, hB'⟩ := shape_isB h1; exact ⟨a', c', rfl, hB', hc, ⟨h2.os, h2.tape, h2.output, h2.size, fun k hk => h2.block k hk (by simp)⟩⟩
    cases ao with
    | some b =>
      obtain ⟨b', off', hb', _, _⟩ | h0 : (∃ b' off', b = (⟨b', off', none⟩ : Addr) /\ True /\ True) ∨ lo = 0 := by
        rcases Nat.eq_zero_or_pos lo with h | h
        · exact .inr h
        · obtain ⟨b', off', hb', _⟩ := hB.2 h; exact .inl ⟨b', off', by injection hb', trivial, trivial⟩
      · subst hb'; obtain ⟨v', w', hrun, r1, r2⟩ := run_append_arg_grows (P := P) w t ty e i (.int .u8 0) 1 1 ht hi0 hi1.1 hi1.2.1 hi1.2.2 rfl (by omega) ⟨b', off', none⟩ lo lo (toV xs) (by rw [Qi, hB.1, Nat.mul_one]) (Qfb hB) ⟨b2, off2, none⟩ m c (toV ys) (by rw [Qi, hY.1, Nat.mul_one]) (Qfb hY) (by omega) (by unfold maxLen; omega) (by omega); obtain ⟨a', c', rfl, h3⟩ := fin v' w' r1 r2; exact ⟨a', c', w', hrun, h3⟩
      · subst h0; obtain rfl : xs = [] := List.eq_nil_of_length_eq_zero hB.1; obtain ⟨v', w', hrun, r1, r2⟩ := run_append_arg_grows (P := P) w t ty e i (.int .u8 0) 1 1 ht hi0 hi1.1 hi1.2.1 hi1.2.2 rfl (by omega) b 0 0 (toV []) (by simp [toV]) (fun j u hu => by simp [toV] at hu) ⟨b2, off2, none⟩ m c (toV ys) (by rw [Qi, hY.1, Nat.mul_one]) (Qfb hY) (by omega) (by unfold maxLen; omega) (by omega); obtain ⟨a', c', rfl, h3⟩ := fin v' w' r1 r2; exact ⟨a', c', w', hrun, h3⟩
    | none =>
      have h0 : lo = 0 := by
        rcases Nat.eq_zero_or_pos lo with h | h
        · exact h
        · obtain ⟨b, off, hb, _⟩ := hB.2 h; cases hb
      subst h0; obtain rfl : xs = [] := List.eq_nil_of_length_eq_zero hB.1; obtain ⟨v', w', hrun, r1, r2, _⟩ := run_append_own (P := P) w w.heap.size t ty e i (.int .u8 0) 1 1 ht hi0 hi1.1 hi1.2.1 hi1.2.2 rfl (by omega) (.slice none 0 0) 0 [] (World.ownsRow_nil _ _ _ _) ⟨b2, off2, none⟩ m c (toV ys) (by rw [Qi, hY.1, Nat.mul_one]) (Qfb hY) (toV_one ys) (by unfold maxLen; omega) (by omega) (Nat.le_refl _); obtain ⟨a', c', rfl, h3⟩ := fin v' w' (by simpa [toV] using r1) r2; exact ⟨a', c', w', hrun, h3⟩
structure Tp where
  b : ByteArray
  f : Nat
  m : Nat
  s : Nat
structure Tp.ok (t : Tp) : Prop where
  fast : t.f <= t.b.size
  few : t.b.size <= t.m
  room : t.m <= 65536
  went : t.s < 18446744073709551616
def Tp.new (r : Int) : Tp := ⟨⟨#[]⟩, 0, (max 0 (min r 65536)).toNat, 0⟩
def Tp.app (t : Tp) (x : ByteArray) : Tp × Int := if t.m < t.b.size + x.size then (t, 7) else ({ t with b := t.b ++ x }, 0)
def Tp.sync (t : Tp) : Tp := { t with f := t.b.size }
def Tp.cut (t : Tp) (n : Int) : Tp × Int := if n < 0 ∨ (t.f : Int) < n then (t, 1) else (⟨t.b.extract n.toNat t.b.size, t.f - n.toNat, t.m, (t.s + n.toNat) % 18446744073709551616⟩, 0)
def Tp.chop (t : Tp) (n : Int) : Tp × Int := if n < 0 ∨ (t.b.size : Int) < n then (t, 1) else ({ t with b := t.b.extract 0 n.toNat, f := min t.f n.toNat }, 0)
def Tp.left (t : Tp) (k : Int) : Nat := t.f + (max 0 (min k ((t.b.size : Int) - (t.f : Int)))).toNat
def Tp.crash (t : Tp) (k : Int) : Tp := { t with b := t.b.extract 0 (t.left k), f := t.left k }
theorem Tp.left_le (t : Tp) (h : t.ok) (k : Int) : t.f <= t.left k /\ t.left k <= t.b.size := by
  have := h.fast; unfold Tp.left; omega
theorem Qlm (b : ByteArray) (i j : Nat) (h : j <= b.size) : (b.extract i j).size = j - i := by rw [ByteArray.size_extract]; omega
theorem Tp.new_ok (r : Int) : (Tp.new r).ok := ⟨Nat.le_refl _, Nat.zero_le _, by unfold Tp.new; simp only; omega, by unfold Tp.new; simp only; omega⟩
theorem Tp.app_ok (t : Tp) (h : t.ok) (x : ByteArray) : (t.app x).1.ok := by
  unfold Tp.app
  by_cases g : t.m < t.b.size + x.size
  · rw [if_pos g]; exact h
  · rw [if_neg g]; have z : (t.b ++ x).size = t.b.size + x.size := ByteArray.size_append; exact ⟨by show t.f <= (t.b ++ x).size; have := h.fast; omega, by show (t.b ++ x).size <= t.m; omega, h.room, h.went⟩
theorem Tp.sync_ok (t : Tp) (h : t.ok) : t.sync.ok := ⟨Nat.le_refl _, h.few, h.room, h.went⟩
theorem Tp.cut_ok (t : Tp) (h : t.ok) (n : Int) : (t.cut n).1.ok := by
  unfold Tp.cut
  by_cases g : n < 0 ∨ (t.f : Int) < n
  · rw [if_pos g]; exact h
  · rw [if_neg g]; have z := Qlm t.b n.toNat t.b.size (Nat.le_refl _); have := h.fast; have := h.few; exact ⟨by show t.f - n.toNat <= (t.b.extract n.toNat t.b.size).size; omega, by show (t.b.extract n.toNat t.b.size).size <= t.m; omega, h.room, Nat.mod_lt _ (by omega)⟩
theorem Tp.chop_ok (t : Tp) (h : t.ok) (n : Int) : (t.chop n).1.ok := by
  unfold Tp.chop
  by_cases g : n < 0 ∨ (t.b.size : Int) < n
  · rw [if_pos g]; exact h
  · rw [if_neg g]; have z := Qlm t.b 0 n.toNat (by omega); have := h.few; exact ⟨by show min t.f n.toNat <= (t.b.extract 0 n.toNat).size; omega, by show (t.b.extract 0 n.toNat).size <= t.m; omega, h.room, h.went⟩
theorem Tp.crash_ok (t : Tp) (h : t.ok) (k : Int) : (t.crash k).ok := by
  have hl := t.left_le h k; have z := Qlm t.b 0 (t.left k) hl.2; have := h.few; exact ⟨by show t.left k <= (t.b.extract 0 (t.left k)).size; omega, by show (t.b.extract 0 (t.left k)).size <= t.m; omega, h.room, h.went⟩
structure But (g : Nat) (w w' : World) : Prop where
  os : w'.os = w.os
  tape : w'.tape = w.tape
  output : w'.output = w.output
  size : w.heap.size <= w'.heap.size
  block : ∀ k, k < w.heap.size -> k ≠ g -> w'.heap[k]? = w.heap[k]?
theorem But.refl (g : Nat) (w : World) : But g w w := ⟨rfl, rfl, rfl, Nat.le_refl _, fun _ _ _ => rfl⟩
theorem But.trans {g : Nat} {w x y : World} (h : But g w x) (k : But g x y) : But g w y :=
  ⟨k.os.trans h.os, k.tape.trans h.tape, k.output.trans h.output, Nat.le_trans h.size k.size, fun i hi hn => (k.block i (Nat.lt_of_lt_of_le hi h.size) hn).trans (h.block i hi hn)⟩
theorem But.set {g : Nat} {w x : World} (h : But g w x) (j : Nat) (v : Value) : But g w (x.setCell ⟨g, j, none⟩ v) :=
  ⟨h.os, h.tape, h.output, Nat.le_trans h.size ((Below.refl 0 x).setCell (Nat.zero_le _) v).size, fun i hi hn => (heap_setCell_other x ⟨g, j, none⟩ i v hn).trans (h.block i hi hn)⟩
theorem But.drew {g : Nat} {w x : World} (h : But g w x) : But g w x.drew := ⟨h.os, h.tape, h.output, h.size, h.block⟩
theorem But.below {g n : Nat} {w x : World} (h : But g w x) (hn : n <= g) (hs : n <= w.heap.size) : Below n w x :=
  ⟨h.os, h.tape, h.output, h.size, fun i hi => h.block i (by omega) (by omega)⟩
theorem But.row {g k : Nat} {w x : World} {t : TypeId} {cs : Array Value} (h : But g w x) (hr : Qa w k t cs) (hn : k ≠ g) : Qa x k t cs := (h.block k hr.lt hn).trans hr
def Is (g k : Nat) : Prop := k = g
structure Tn (F : Nat -> Prop) (w w' : World) : Prop where
  os : w'.os = w.os
  tape : w'.tape = w.tape
  output : w'.output = w.output
  size : w.heap.size <= w'.heap.size
  block : ∀ k, k < w.heap.size -> ¬ F k -> w'.heap[k]? = w.heap[k]?
theorem Tn.refl (F : Nat -> Prop) (w : World) : Tn F w w := ⟨rfl, rfl, rfl, Nat.le_refl _, fun _ _ _ => rfl⟩
theorem Tn.trans {F G : Nat -> Prop} {w x y : World} (p : Tn F w x) (q : Tn G x y) (h : ∀ k, G k -> F k ∨ w.heap.size <= k) : Tn F w y :=
  ⟨q.os.trans p.os, q.tape.trans p.tape, q.output.trans p.output, Nat.le_trans p.size q.size, fun k hk hn => (q.block k (Nat.lt_of_lt_of_le hk p.size) (fun hg => by
    rcases h k hg with h1 | h1
    · exact hn h1
    · omega)).trans (p.block k hk hn)⟩
theorem Tn.then {F : Nat -> Prop} {w x y : World} (p : Tn F w x) (q : Tn F x y) : Tn F w y := p.trans q (fun k h => .inl h)
theorem Tn.set {F : Nat -> Prop} {w x : World} (p : Tn F w x) (g j : Nat) (v : Value) (h : F g) : Tn F w (x.setCell ⟨g, j, none⟩ v) :=
  ⟨p.os, p.tape, p.output, Nat.le_trans p.size ((Below.refl 0 x).setCell (Nat.zero_le _) v).size, fun i hi hn => (heap_setCell_other x ⟨g, j, none⟩ i v (fun e => hn (by rw [e]; exact h))).trans (p.block i hi hn)⟩
theorem Tn.drew {F : Nat -> Prop} {w x : World} (p : Tn F w x) : Tn F w x.drew := ⟨p.os, p.tape, p.output, p.size, p.block⟩
theorem Tn.later {F : Nat -> Prop} {w x y : World} (p : Tn F w x) (q : Below x.heap.size x y) : Tn F w y :=
  ⟨q.os.trans p.os, q.tape.trans p.tape, q.output.trans p.output, Nat.le_trans p.size q.size, fun i hi hn => (q.block i (Nat.lt_of_lt_of_le hi p.size)).trans (p.block i hi hn)⟩
theorem Tn.of_below {F : Nat -> Prop} {w x : World} (q : Below w.heap.size w x) : Tn F w x := (Tn.refl F w).later q
theorem Tn.of_but {F : Nat -> Prop} {w x : World} {g : Nat} (q : But g w x) (h : F g) : Tn F w x := ⟨q.os, q.tape, q.output, q.size, fun k hk hn => q.block k hk (fun e => hn (by rw [e]; exact h))⟩
theorem Tn.of_grown {F : Nat -> Prop} {w x : World} {row : Option Nat} (q : w.grownBy x row) (h : ∀ k, row = some k -> F k) : Tn F w x := ⟨q.os, q.tape, q.output, q.size, fun k hk hn => q.block k hk (fun e => hn (h k e.symm))⟩
theorem Tn.weak {F G : Nat -> Prop} {w x : World} (p : Tn F w x) (h : ∀ k, F k -> G k) : Tn G w x := ⟨p.os, p.tape, p.output, p.size, fun k hk hn => p.block k hk (fun e => hn (h k e))⟩
theorem Tn.below {F : Nat -> Prop} {n : Nat} {w x : World} (p : Tn F w x) (h : ∀ k, F k -> n <= k) (hs : n <= w.heap.size) : Below n w x := ⟨p.os, p.tape, p.output, p.size, fun i hi => p.block i (by omega) (fun hf => by have := h i hf; omega)⟩
theorem Tn.row {F : Nat -> Prop} {w x : World} {k : Nat} {t : TypeId} {cs : Array Value} (p : Tn F w x) (hr : Qa w k t cs) (h : ¬ F k) : Qa x k t cs := (p.block k hr.lt h).trans hr
theorem Qti {w : World} {k : Nat} {t u : TypeId} {cs ds : Array Value} (h : Qa w k t cs) (h2 : Qa w k u ds) : t = u := by
  have h3 : w.heap[k]? = some (.cells cs t (0, 0)) := h; have h4 : w.heap[k]? = some (.cells ds u (0, 0)) := h2; rw [h3] at h4; injection h4 with h4; injection h4 with _ h5
section
def Stop10 (p : Prop) : Prop := p
theorem Qg {p : Prop} (h : p) : Stop10 p := h
theorem Qpa {p : Prop} (h : Stop10 p) : p := h
section
variable {P : Program} {ops : Array Oper} {rest : List Oper} {o : Oper} {a : Act} {w : World} {Q : Exit -> Act -> World -> Prop}
theorem Qxa (d : Tmp) (hd : o.dst = some d) (h : Stop10 (wpList P ops Q (o :: rest) a w)) : wpList P ops Q (o :: rest) a w := h
theorem Qsw (d : Option Tmp) (v : Value) (hd : o.dst = d) (hw : Region.wanted o (yielded ops a.tmps) = true) (hv : (execOp a.eval o).run P w = .ok (.value v) w) (h : wpList P ops Q rest (a.put d v) w) : wpList P ops Q (o :: rest) a w := by
  subst hd; exact Qnf hw v hv h
theorem lst_skip (d : Option Tmp) (hd : o.dst = d) (hw : Region.wanted o (yielded ops a.tmps) = false) (h : wpList P ops Q rest (a.put d undef) w) : wpList P ops Q (o :: rest) a w := by
  subst hd; refine wpList_step fun K hK => ?_
  rw [if_neg (by rw [hw]; simp)]; exact hK _ _ h
theorem lst_call (d : Option Tmp) (hd : o.dst = d) (hw : Region.wanted o (yielded ops a.tmps) = true) (f : FuncId) (args : Array Value) (he : (execOp a.eval o).run P w = .ok (.enter f args) w)
    (hc : Calls P f args w fun e w' => ∃ v, e = .returned v /\ wpList P ops Q rest (a.put d v) w') : wpList P ops Q (o :: rest) a w := by
  subst hd; refine wpList_step fun K hK => ?_
  rw [if_pos hw]; unfold Oper.wp; rw [he, Oper.upon_enter]; refine hc.mono ?_; rintro e w' ⟨v, rfl, h⟩; exact hK _ _ h
theorem lst_load (d : Option Tmp) (v : Value) (hd : o.dst = d) (hw : Region.wanted o (yielded ops a.tmps) = true) (t : TypeId) (x : Operand) (ho : o.op = .load t x) (u : Value) (hu : a.eval x = u) (hv : (Instr.loadAt t u).run P w = .ok v w) (h : wpList P ops Q rest (a.put d v) w) : wpList P ops Q (o :: rest) a w :=
  Qsw d v hd hw (by unfold execOp; simp only [ho, hu, Sem.run_bind, hv, Result.andThen_ok, Sem.run_pure]) h
theorem lst_bin (d : Option Tmp) (v : Value) (hd : o.dst = d) (hw : Region.wanted o (yielded ops a.tmps) = true) (op : BinOp) (t r : TypeId) (x y : Operand) (ho : o.op = .binOp op t x y r) (u z : Value) (hu : a.eval x = u) (hz : a.eval y = z) (hg : (eqGuard op t x y u z).run P w = .ok () w) (hv : (binOp op t u z).run P w = .ok v w) (h : wpList P ops Q rest (a.put d v) w) : wpList P ops Q (o :: rest) a w := by
  subst hd; exact Qtn hw op t r x y ho u z v hu hz hg hv h
theorem lst_run (d : Option Tmp) (hd : o.dst = d) (hw : Region.wanted o (yielded ops a.tmps) = true) (v : Value) (w' : World) (he : (execOp a.eval o).run P w = .ok (.value v) w') (h : wpList P ops Q rest (a.put d v) w') : wpList P ops Q (o :: rest) a w := by
  subst hd; refine wpList_step fun K hK => ?_
  rw [if_pos hw]; unfold Oper.wp; rw [he]; exact hK _ _ h
theorem lst_nil (h : Q .normal a w) : wpList P ops Q [] a w := h
end
end
theorem Qqs (a : Option Addr) (n c : Nat) (w : World) : (binOp .eql 25 (.slice a n c) (.slice none 0 0)).run Try.prog w = .ok (.bool a.isNone) w := by
  have q := run_equal_slice_nil (P := Try.prog) w 25 42 a n c Try.underlying25; simp [binOp, q]
theorem clone15T {w : World} {v : Value} {l : List Tx} (h : Qxb w v l) (hl : l.length * 40 <= 140737488355328) : Calls Try.prog 51 #[v] w fun e w' => ∃ v', e = .returned v' /\ w'.ownsRow w.heap.size 42 5 v' l.length (flatT l) /\ Below w.heap.size w w' := by
  have h0 := h; obtain ⟨a, c, rfl, hc⟩ := h0
  cases a with
  | none =>
    have hm : l = [] := by
      rcases l with _ | ⟨m, ms⟩
      · rfl
      · obtain ⟨b, off, h, _⟩ := hc (by simp); cases h
    subst hm; have q0 := fun n w => Qqs none n c w
    simp only [Option.isNone_none] at q0; clear h hc hl; rw [show ([] : List Tx).length = 0 from rfl]; have q1 := fun w => q0 0 w
    clear q0; go_enter Try.func51, Try.ntmps51; go_wp2; go_ret; exact ⟨_, rfl, World.ownsRow_nil _ _ _ _, Below.refl _ _⟩
  | some ad =>
    have b5 : Below w.heap.size w (w.alloc (.cells #[] 42)) := (Below.refl w.heap.size w).alloc (Nat.le_refl _) _; have ho : (w.alloc (.cells #[] 42)).ownsRow w.heap.size 42 5 (.slice (some ⟨w.heap.size, 0, none⟩) 0 0) 0 [] := ⟨rfl, .inr ⟨w.heap.size, 0, #[], rfl, Nat.le_refl _, Qa.new w _ _, Nat.le_refl _, Nat.zero_le _, rfl, rfl⟩⟩; obtain ⟨v1, y1, r1, o1, g1⟩ := Qld txA Tx.zero 5 (fun _ => rfl) (by decide) (P := Try.prog) (w.alloc (.cells #[] 42)) w.heap.size 25 25 42 _ 40 Try.underlying25 infoTx3 rfl (.slice (some ⟨w.heap.size, 0, none⟩) 0 0) 0 [] ho (.slice (some ad) l.length c) l (h.below b5) (fun a len c h ha => by injection h with h1; rw [ha] at h1; cases h1) (fun m _ u hu => by have := Qrm m; rw [Array.all_eq_true'] at this; exact this u (by simpa using hu)) (by unfold maxLen; omega) (by omega) b5.size; rw [Nat.zero_add, List.nil_append] at o1; have HE := Qb (show y1.ownsRow w.heap.size 42 5 v1 l.length (flatT l) /\ Below w.heap.size w y1 from ⟨o1, b5.trans ((Tn.of_grown (F := fun k => k = w.heap.size) g1 (fun k hk => by injection hk with hk; exact hk.symm)).below (fun k hk => by rw [hk]; exact Nat.le_refl _) b5.size)⟩); generalize l.length = n at *; have q0 := fun w => Qqs (some ad) n c w
    simp only [Option.isNone_some] at q0; clear h hc hl o1 g1 ho b5; go_enter Try.func51, Try.ntmps51; go_wp2_with (with_reducible refine Qxa 7 rfl ?_); refine Qg ?_; refine Lib.wpList_append_run _ rfl _ _ _ _ rfl _ _ rfl rfl _ _ r1 ?_; go_wp2; go_ret; exact ⟨_, rfl, HE.out⟩
theorem Qts (a : Option Addr) (n c : Nat) (w : World) : (binOp .eql 26 (.slice a n c) (.slice none 0 0)).run Try.prog w = .ok (.bool a.isNone) w := by
  have q := run_equal_slice_nil (P := Try.prog) w 26 81 a n c Try.underlying26; simp [binOp, q]
theorem clone15D {w : World} {v : Value} {l : List Di} (h : Qxc w v l) (hl : l.length * 16 <= 140737488355328) : Calls Try.prog 52 #[v] w fun e w' => ∃ v', e = .returned v' /\ w'.ownsRow w.heap.size 81 2 v' l.length (flatD l) /\ Below w.heap.size w w' := by
  have h0 := h; obtain ⟨a, c, rfl, hc⟩ := h0
  cases a with
  | none =>
    have hm : l = [] := by
      rcases l with _ | ⟨m, ms⟩
      · rfl
      · obtain ⟨b, off, h, _⟩ := hc (by simp); cases h
    subst hm; have q0 := fun n w => Qts none n c w
    simp only [Option.isNone_none] at q0; clear h hc hl; rw [show ([] : List Di).length = 0 from rfl]; have q1 := fun w => q0 0 w
    clear q0; go_enter Try.func52, Try.ntmps52; go_wp2; go_ret; exact ⟨_, rfl, World.ownsRow_nil _ _ _ _, Below.refl _ _⟩
  | some ad =>
    have b5 : Below w.heap.size w (w.alloc (.cells #[] 81)) := (Below.refl w.heap.size w).alloc (Nat.le_refl _) _; have ho : (w.alloc (.cells #[] 81)).ownsRow w.heap.size 81 2 (.slice (some ⟨w.heap.size, 0, none⟩) 0 0) 0 [] := ⟨rfl, .inr ⟨w.heap.size, 0, #[], rfl, Nat.le_refl _, Qa.new w _ _, Nat.le_refl _, Nat.zero_le _, rfl, rfl⟩⟩; obtain ⟨v1, y1, r1, o1, g1⟩ := Qld diA Di.zero 2 (fun _ => rfl) (by decide) (P := Try.prog) (w.alloc (.cells #[] 81)) w.heap.size 26 26 81 _ 16 Try.underlying26 infoDi3 rfl (.slice (some ⟨w.heap.size, 0, none⟩) 0 0) 0 [] ho (.slice (some ad) l.length c) l (h.below b5) (fun a len c h ha => by injection h with h1; rw [ha] at h1; cases h1) (fun m _ u hu => by have := Qqq m; rw [Array.all_eq_true'] at this; exact this u (by simpa using hu)) (by unfold maxLen; omega) (by omega) b5.size; rw [Nat.zero_add, List.nil_append] at o1; have HE := Qb (show y1.ownsRow w.heap.size 81 2 v1 l.length (flatD l) /\ Below w.heap.size w y1 from ⟨o1, b5.trans ((Tn.of_grown (F := fun k => k = w.heap.size) g1 (fun k hk => by injection hk with hk; exact hk.symm)).below (fun k hk => by rw [hk]; exact Nat.le_refl _) b5.size)⟩); generalize l.length = n at *; have q0 := fun w => Qts (some ad) n c w
    simp only [Option.isNone_some] at q0; clear h hc hl o1 g1 ho b5; go_enter Try.func52, Try.ntmps52; go_wp2_with (with_reducible refine Qxa 7 rfl ?_); refine Qg ?_; refine Lib.wpList_append_run _ rfl _ _ _ _ rfl _ _ rfl rfl _ _ r1 ?_; go_wp2; go_ret; exact ⟨_, rfl, HE.out⟩
theorem nan16 (x : Int) (w : World) : Calls Try.prog 87 #[.int .i64 x] w fun e w' => e = .returned (.bool false) /\ w = w' := by
  go_enter Try.func87, Try.ntmps87; go_wp2; go_ret; simp
def Qoi (x y : Int) : Int := if x < y then -1 else if y < x then 1 else 0
theorem Qcd (x y : Int) : 0 < Qoi x y ↔ y < x := by
  unfold Qoi
  split
  · omega
  · split <;> omega
theorem Qme (x y : Int) : Qoi x y = 0 ↔ x = y := by
  unfold Qoi
  split
  · omega
  · split <;> omega
theorem cmp16 (x y : Int) (w : World) : Calls Try.prog 70 #[.int .i64 x, .int .i64 y] w fun e w' => e = .returned (.int .i64 (Qoi x y)) /\ w = w' := by
  have HN := Qb (fun z w => nan16 z w); unfold Qoi
  by_cases h1 : x < y
  · rw [if_pos h1]; go_enter Try.func70, Try.ntmps70; go_wp2_with fail; refine (HN.out x w).mono ?_; rintro e w1 ⟨rfl, rfl⟩; go_wp2_with fail; refine (HN.out y w).mono ?_; rintro e w1 ⟨rfl, rfl⟩; go_wp2; go_ret; exact ⟨rfl, rfl⟩
  · rw [if_neg h1]
    by_cases h2 : y < x
    · rw [if_pos h2]; go_enter Try.func70, Try.ntmps70; go_wp2_with fail; refine (HN.out x w).mono ?_; rintro e w1 ⟨rfl, rfl⟩; go_wp2_with fail; refine (HN.out y w).mono ?_; rintro e w1 ⟨rfl, rfl⟩; go_wp2; go_ret; exact ⟨rfl, rfl⟩
    · rw [if_neg h2]; go_enter Try.func70, Try.ntmps70; go_wp2_with fail; refine (HN.out x w).mono ?_; rintro e w1 ⟨rfl, rfl⟩; go_wp2_with fail; refine (HN.out y w).mono ?_; rintro e w1 ⟨rfl, rfl⟩; go_wp2; go_ret; exact ⟨rfl, rfl⟩
structure Sf (c : Nat -> Int) (n i : Nat) (q : Bool) : Prop where
  le : i <= n
  low : ∀ k, k < i -> 0 < c k
  high : ∀ k, i <= k -> k < n -> c k <= 0
  yes : q = true -> i < n /\ c i = 0
  no : q = false -> i < n -> c i ≠ 0
def SfAns (c : Nat -> Int) (n : Nat) (w : World) (e : Ending) (w' : World) : Prop := ∃ (i : Nat) (q : Bool), e = .returned (.tuple #[.int .i64 (i : Int), .bool q]) /\ Sf c n i q /\ Below w.heap.size w w'
theorem Qdr (fn : FuncId) (g1 g2 : Nat) (n : Nat) (c : Nat -> Int) (w : World)
    (hc : ∀ x h, Below w.heap.size w x -> h < n -> Calls Try.prog fn #[.int .i64 (h : Int), .pointer (some ⟨g1, 0, none⟩), .pointer (some ⟨g2, 0, none⟩)] x fun e w' => e = .returned (.int .i64 (c h)) /\ Below x.heap.size x w')
    (hf : ∀ (args : Array Value) (x : World), Sem.run Try.prog (callFunc fn args) x = Result.ok (Next.enter fn args) x)
    (hm : ∀ p q, p < q -> q < n -> 0 < c q -> 0 < c p) (hn : n <= 100000) :
    Calls Try.prog 42 #[.int .i64 (n : Int), .func (.func fn) #[] #[.pointer (some ⟨g1, 0, none⟩), .pointer (some ⟨g2, 0, none⟩)]] w (SfAns c n w) := by
  have HC := Qb hc; have HM := Qb hm; clear hc hm; go_enter Try.func42, Try.ntmps42; go_wp2; go_loopw [4, 6] (fun i j wr => ∃ p q : Nat, p <= q /\ q <= n /\ i = .int .i64 (p : Int) /\ j = .int .i64 (q : Int) /\ Hid ((∀ k, k < p -> 0 < c k) /\ (∀ k, q <= k -> k < n -> c k <= 0)) /\ Hid (Below w.heap.size w wr)) (fun i j _ => (intOf j).toNat - (intOf i).toNat)
  case atStart => exact ⟨0, n, Nat.zero_le _, Nat.le_refl _, rfl, rfl, ⟨fun k hk => absurd hk (Nat.not_lt_zero _), fun k h1 h2 => absurd h1 (by omega)⟩, Below.refl _ _⟩
  case round =>
    obtain ⟨p, q, hpq, hq, rfl, rfl, HPQ, HB⟩ := hrel
    by_cases hlt : p < q
    · have ipq : (p : Int) < (q : Int) := by omega
      obtain ⟨hh, hhd⟩ : ∃ hh, hh = (p + q) / 2 := ⟨_, rfl⟩; have eh : ((p : Int) + (q : Int)) / 2 = (hh : Int) := by omega
      have h1 : p <= hh := by omega
      have h2 : hh < q := by omega
      have hhn : hh < n := by omega
      clear hhd; have HO := Qb (HC.out wr hh HB.out hhn)
      by_cases hlo : 0 < c hh
      · have HLO := Qb hlo; generalize hck : c hh = ck at *; have HCK := Qb hck; clear hck; go_wp2_with (simp only [hf]); try rw [Oper.upon_enter]
        refine HO.out.mono ?_; rintro e w1 ⟨rfl, hb1⟩; have HB1 := Qb (HB.out.trans (hb1.mono HB.out.size)); clear hb1 HB HO; go_wp2; go_roundw
        case rel =>
          refine ⟨hh + 1, q, by omega, hq, by go_num, rfl, ⟨fun k hk => ?_, HPQ.out.2⟩, HB1.out⟩
          rcases Nat.lt_or_ge k hh with hk2 | hk2
          · exact HM.out k hh hk2 hhn (by rw [HCK.out]; exact HLO.out)
          · obtain rfl : k = hh := by omega
            rw [HCK.out]; exact HLO.out
        case measure => simp [intOf]; omega
      · have HLO : Hid (c hh <= 0) := by show c hh <= 0; omega
        generalize hck : c hh = ck at *; have HCK := Qb hck; clear hck; go_wp2_with (simp only [hf]); try rw [Oper.upon_enter]
        refine HO.out.mono ?_; rintro e w1 ⟨rfl, hb1⟩; have HB1 := Qb (HB.out.trans (hb1.mono HB.out.size)); clear hb1 HB HO; go_wp2; go_roundw
        case rel =>
          refine ⟨p, hh, h1, by omega, rfl, rfl, ⟨HPQ.out.1, fun k hk hk2 => ?_⟩, HB1.out⟩
          have h3 : ¬ 0 < c k := fun h4 => by
            rcases Nat.lt_or_ge hh k with hk3 | hk3
            · have := HM.out hh k hk3 hk2 h4; rw [HCK.out] at this; exact absurd this (by have := HLO.out; omega)
            · obtain rfl : k = hh := by omega
              rw [HCK.out] at h4; exact absurd h4 (by have := HLO.out; omega)
          omega
        case measure => simp [intOf]; omega
    · obtain rfl : p = q := by omega
      by_cases hpl : p < n
      · have ipl : (p : Int) < (n : Int) := by omega
        have HO := Qb (HC.out wr p HB.out hpl)
        by_cases heq : c p = 0
        · rw [heq] at HO; have HEQ := Qb heq; clear heq; go_wp2_with (simp only [hf]); try rw [Oper.upon_enter]
          refine HO.out.mono ?_; rintro e w1 ⟨rfl, hb1⟩; have HB1 := Qb (HB.out.trans (hb1.mono HB.out.size)); clear hb1 HB HO; go_wp2; go_ret2; exact ⟨p, true, rfl, ⟨hq, HPQ.out.1, HPQ.out.2, fun _ => ⟨hpl, HEQ.out⟩, fun h => (nomatch h)⟩, HB1.out⟩
        · have HEQ := Qb heq; generalize hck : c p = ck at *; have HCK := Qb hck; have e1 : (ck == 0) = false := by simpa using heq
          clear hck heq; go_wp2_with (simp only [hf]); try rw [Oper.upon_enter]
          refine HO.out.mono ?_; rintro e w1 ⟨rfl, hb1⟩; have HB1 := Qb (HB.out.trans (hb1.mono HB.out.size)); clear hb1 HB HO; go_wp2; go_ret2; exact ⟨p, false, rfl, ⟨hq, HPQ.out.1, HPQ.out.2, fun h => (nomatch h), fun _ _ => by rw [HCK.out]; exact HEQ.out⟩, HB1.out⟩
      · have ipl : ¬ (p : Int) < (n : Int) := by omega
        have HPL := Qb hpl; clear hpl; go_wp2; go_ret2; exact ⟨p, false, rfl, ⟨hq, HPQ.out.1, HPQ.out.2, fun h => (nomatch h), fun _ h => absurd h HPL.out⟩, HB.out⟩
section
def Qfr (cs : Array Value) (o : Nat) (vs : List Value) : Prop := ∀ j, j < vs.length -> cs[o + j]? = vs[j]?
def Qxf (cs : Array Value) (o : Nat) (vs : List Value) : Array Value := (cs.toList.take o ++ vs ++ cs.toList.drop (o + vs.length)).toArray
theorem partA_size (cs : Array Value) (o : Nat) (vs : List Value) (h : o + vs.length <= cs.size) : (Qxf cs o vs).size = cs.size := by
  unfold Qxf; rw [List.size_toArray, List.length_append, List.length_append, List.length_take, List.length_drop, Array.length_toList]; omega
theorem partA_in (cs : Array Value) (o : Nat) (vs : List Value) (h : o + vs.length <= cs.size) (j : Nat) (hj : j < vs.length) : (Qxf cs o vs)[o + j]? = vs[j]? := by
  unfold Qxf; have hl : (cs.toList.take o).length = o := by rw [List.length_take, Array.length_toList]; omega
  rw [List.getElem?_toArray, List.append_assoc, List.getElem?_append_right (by omega), hl, Nat.add_sub_cancel_left, List.getElem?_append_left hj]
theorem partA_out (cs : Array Value) (o : Nat) (vs : List Value) (h : o + vs.length <= cs.size) (k : Nat) (hk : k < o ∨ o + vs.length <= k) : (Qxf cs o vs)[k]? = cs[k]? := by
  unfold Qxf; have hl : (cs.toList.take o).length = o := by rw [List.length_take, Array.length_toList]; omega
  rw [List.getElem?_toArray, List.append_assoc]
  rcases hk with hk | hk
  · rw [List.getElem?_append_left (by omega), List.getElem?_take_of_lt hk, Array.getElem?_toList]
  · rw [List.getElem?_append_right (by omega), List.getElem?_append_right (by omega), hl, List.getElem?_drop, <- Array.getElem?_toList]; congr 1; omega
theorem Qfr.same (cs : Array Value) (o : Nat) (vs : List Value) (h : o + vs.length <= cs.size) : Qfr (Qxf cs o vs) o vs := fun j hj => partA_in cs o vs h j hj
theorem Qfr.apart {cs : Array Value} {o' : Nat} {us : List Value} (h : Qfr cs o' us) (o : Nat) (vs : List Value) (hf : o + vs.length <= cs.size) (ha : o' + us.length <= o ∨ o + vs.length <= o') : Qfr (Qxf cs o vs) o' us := fun j hj => by
  rw [partA_out cs o vs hf (o' + j) (by omega)]; exact h j hj
theorem Qfr.set {cs : Array Value} {o : Nat} {us : List Value} (h : Qfr cs o us) (k : Nat) (v : Value) (ha : k < o ∨ o + us.length <= k) : Qfr (cs.setIfInBounds k v) o us := fun j hj => by
  rw [Array.getElem?_setIfInBounds_ne (by omega)]; exact h j hj
theorem Qfr.ext {cs : Array Value} {o : Nat} {vs : List Value} (h : Qfr cs o vs) (n : Nat) (hn : vs.length = n) (hf : o + n <= cs.size) : cs.extract o (o + n) = vs.toArray := by
  subst hn; apply Array.ext'; apply List.ext_getElem?; intro j
  by_cases hj : j < vs.length
  · have h1 := h j hj; rw [Array.getElem?_toList, Array.getElem?_extract, if_pos (by omega), h1]
  · rw [List.getElem?_eq_none (by rw [Array.length_toList, Array.size_extract]; omega), List.getElem?_eq_none (by simpa using hj)]
theorem Qfr.left {cs : Array Value} {o : Nat} {us vs : List Value} (h : Qfr cs o (us ++ vs)) : Qfr cs o us := fun j hj => by
  rw [h j (by rw [List.length_append]; omega), List.getElem?_append_left hj]
theorem Qfr.cell {cs : Array Value} {o : Nat} {vs : List Value} (h : Qfr cs o vs) (j : Nat) (v : Value) (hv : vs[j]? = some v) : cs[o + j]? = some v := by
  rw [h j (List.getElem?_eq_some_iff.1 hv).1, hv]
section
variable {P : Program} {ops : Array Oper} {rest : List Oper} {o : Oper} {a : Act} {w : World} {Q : Exit -> Act -> World -> Prop}
theorem Qzn (w : World) (t ty : TypeId) (g off n : Nat) (cs : Array Value) (hg : Qa w g t cs) (d : TypeDesc) (hu : P.underlying ty = some d) (hd : d.isRow = true) (hi : (P.info? ty).map (·.size) = some n) (hf : off + n <= cs.size) :
    (Instr.loadAt ty (.pointer (some ⟨g, off, none⟩))).run P w = .ok (.agg (cs.extract off (off + n))) w := by
  have h1 := run_loadAt_mid (P := P) w g off ty (cs.extract off (off + n)).toList d (World.rangeAt_of_block hg off n) hu hd (by rw [Array.length_toList, Array.size_extract, hi]; congr 1; omega); rwa [Array.toArray_toList] at h1
theorem Qbv (hw : Region.wanted o (yielded ops a.tmps) = true) (ty : TypeId) (x : Operand) (ho : o.op = .load ty x) (g off n : Nat) (hx : a.eval x = .pointer (some ⟨g, off, none⟩)) (t : TypeId) (cs : Array Value) (hg : Qa w g t cs) (d : TypeDesc)
    (hu : P.underlying ty = some d) (hd : d.isRow = true) (hi : (P.info? ty).map (·.size) = some n) (hf : off + n <= cs.size) (v : Array Value) (hv : cs.extract off (off + n) = v) (h : wpList P ops Q rest (a.put o.dst (.agg v)) w) : wpList P ops Q (o :: rest) a w :=
  wpList_step fun K hK => by
    simp only [hw, if_true]; unfold Oper.wp execOp; simp only [ho, hx, Sem.run_bind, Qzn w t ty g off n cs hg d hu hd hi hf, Result.andThen_ok, Sem.run_pure]; rw [hv]; exact hK _ _ h
theorem Qv {S : World -> Prop} (hw : Region.wanted o (yielded ops a.tmps) = true) (ty : TypeId) (x : Operand) (ho : o.op = .load ty x) (u : Value) (hu : a.eval x = u) (v : Value) (hv : ∀ y, S y -> (Instr.loadAt ty u).run P y = .ok v y) : YieldsIf P ops S o v a :=
  .inl ⟨hw, fun y hy => by
    unfold execOp
    simp only [ho, hu, Sem.run_bind, hv y hy, Result.andThen_ok, Sem.run_pure]⟩
theorem Qcq {K : Act -> World -> Prop} {E : Prop} (hg : o.guard = none) (f : FuncId) (args : Array Value) (he : (execOp a.eval o).run P w = .ok (.enter f args) w)
    (hc : Calls P f args w fun e w' => ∃ v, e = .returned v /\ K (a.put o.dst v) w') : if Region.wanted o (yielded ops a.tmps) = true then Oper.wp P o a w K Q else E := by
  have hw : Region.wanted o (yielded ops a.tmps) = true := by simp [Region.wanted, hg]
  rw [if_pos hw]; unfold Oper.wp; rw [he, Oper.upon_enter]; refine hc.mono ?_; rintro e w' ⟨v, rfl, h⟩; exact h
theorem Qfl (w : World) (t ty : TypeId) (g off : Nat) (c0 cs : Array Value) (hg : Qa w g t c0) (hi : (P.info? ty).map (·.size) = some cs.size) (hf : off + cs.size <= c0.size) (h1 : cs.all (·.oneCell') = true) :
    (Instr.storeAt ty (.pointer (some ⟨g, off, none⟩)) (.agg cs)).run P w = .ok () (w.setRow g (Qxf c0 off cs.toList)) := by
  have hs := run_storeCells_at P g off t cs.toList 0 c0 w hg (by rw [Array.length_toList]; omega) (fun v hv => (Array.all_eq_true_iff_forall_mem.1 h1) v (by simpa using hv))
  have hsv : (storeVar ty ⟨g, off, none⟩ (.agg cs)).run P w = .ok () (w.setRow g (Qxf c0 off cs.toList)) := by
    cases hq : P.info? ty with
    | none => simp [hq] at hi
    | some i =>
      have hz : cs.size = i.size := by simp [hq] at hi; omega
      simp only [Nat.add_zero] at hs; simp [storeVar, sizeOf, typeInfo, hq, Value.cells, hz, hs, Qxf]
  simp only [Instr.storeAt, Instr.sureAddr, Sem.run_bind, Sem.run_pure, Result.andThen_ok, hsv]
structure Only (g : Nat) (w w' : World) : Prop where
  os : w'.os = w.os
  tape : w'.tape = w.tape
  output : w'.output = w.output
  size : w.heap.size = w'.heap.size
  block : ∀ k, k ≠ g -> w'.heap[k]? = w.heap[k]?
theorem Qgk (w : World) (g : Nat) (cs : Array Value) : Only g w (w.setRow g cs) := ⟨rfl, rfl, rfl, by simp [World.setRow], fun k hk => setRow_other w g k _ hk⟩
theorem Only.below {g B : Nat} {w0 w w' : World} (p : Only g w w') (h : Below B w0 w) (hB : B <= g) : Below B w0 w' :=
  ⟨p.os.trans h.1, p.tape.trans h.2, p.output.trans h.3, Nat.le_trans h.4 (Nat.le_of_eq p.size), fun k hk => (p.block k (by omega)).trans (h.5 k hk)⟩
theorem Only.row {g k : Nat} {w w' : World} {t : TypeId} {cs : Array Value} (p : Only g w w') (h : Qa w k t cs) (hk : k ≠ g) : Qa w' k t cs := (p.block k hk).trans h
theorem Ql (hgd : o.guard = none) (ty : TypeId) (x y : Operand) (ho : o.op = .store ty x y) (g off : Nat) (t : TypeId) (c0 cs : Array Value) (hx : a.eval x = .pointer (some ⟨g, off, none⟩)) (hy : a.eval y = .agg cs) (hg : Qa w g t c0)
    (hi : (P.info? ty).map (·.size) = some cs.size) (hf : off + cs.size <= c0.size) (h1 : cs.all (·.oneCell') = true)
    (h : ∀ w2, Qa w2 g t (Qxf c0 off cs.toList) -> Only g w w2 -> wpList P ops Q rest (a.put o.dst undef) w2) : wpList P ops Q (o :: rest) a w :=
  wpList_plain hgd fun K hK => by
    unfold Oper.wp execOp; simp only [ho, hx, hy, Sem.run_bind, Qfl w t ty g off c0 cs hg hi hf h1, Result.andThen_ok, Sem.run_pure]; exact hK _ _ (h _ (setRow_heap w g c0 _ t (0, 0) hg) (Qgk w g _))
variable {K : Act -> World -> Prop} {E : Prop}
theorem Qnj (hgd : o.guard = none) (ty : TypeId) (x y : Operand) (ho : o.op = .store ty x y) (g off : Nat) (t : TypeId) (c0 cs : Array Value) (hx : a.eval x = .pointer (some ⟨g, off, none⟩)) (hy : a.eval y = .agg cs) (hg : Qa w g t c0)
    (hi : (P.info? ty).map (·.size) = some cs.size) (hf : off + cs.size <= c0.size) (h1 : cs.all (·.oneCell') = true)
    (h : ∀ w2, Qa w2 g t (Qxf c0 off cs.toList) -> Only g w w2 -> K (a.put o.dst undef) w2) : if Region.wanted o (yielded ops a.tmps) = true then Oper.wp P o a w K Q else E := by
  have hw : Region.wanted o (yielded ops a.tmps) = true := by simp [Region.wanted, hgd]
  rw [if_pos hw]; unfold Oper.wp execOp; simp only [ho, hx, hy, Sem.run_bind, Qfl w t ty g off c0 cs hg hi hf h1, Result.andThen_ok, Sem.run_pure]; exact h _ (setRow_heap w g c0 _ t (0, 0) hg) (Qgk w g _)
theorem step_load_part (hw : Region.wanted o (yielded ops a.tmps) = true) (ty : TypeId) (x : Operand) (ho : o.op = .load ty x) (g off n : Nat) (hx : a.eval x = .pointer (some ⟨g, off, none⟩)) (t : TypeId) (cs : Array Value) (hg : Qa w g t cs) (d : TypeDesc)
    (hu : P.underlying ty = some d) (hd : d.isRow = true) (hi : (P.info? ty).map (·.size) = some n) (hf : off + n <= cs.size) (v : Array Value) (hv : cs.extract off (off + n) = v) (h : K (a.put o.dst (.agg v)) w) : if Region.wanted o (yielded ops a.tmps) = true then Oper.wp P o a w K Q else E := by
  rw [if_pos hw]; unfold Oper.wp execOp; simp only [ho, hx, Sem.run_bind, Qzn w t ty g off n cs hg d hu hd hi hf, Result.andThen_ok, Sem.run_pure]; rw [hv]; exact h
end
end
section
section
variable {P : Program} {md : Region.Mode} {ops : Array Oper} {Q : Exit -> Act -> World -> Prop} {S : World -> Prop} {fuel : Nat} {listed : Array Bool} {a : Act} {w : World} {o : Oper}
theorem Qr (i : Nat) (d : Option Tmp) (v : Value) (hi : ops[i]? = some o) (hd : o.dst = d) (hs : Region.noSelect ops = true) (hf : Region.free md ops listed i = true) (hr : (Region.ready md ops listed).contains i = true)
    (hQ : ∀ c a w, Q (.panic c) (a.put d v) w -> Q (.panic c) a w) (hy : YieldsIf P ops S o v a) (hS : S w)
    (h : wpAnyH P md ops Q S fuel (listed.setIfInBounds i true) (a.put d v) w) : wpAnyH P md ops Q S (fuel + 1) listed a w := by
  subst hd; exact wpAnyH_take hi hs hf hr hQ hy hS h
theorem tkk {Q : Exit -> Act -> World -> Prop} (i : Nat) (d : Option Tmp) (v : Value) (hi : ops[i]? = some o) (hd : o.dst = d) (hk : (Region.noSelect ops && Region.free md ops listed i && (Region.ready md ops listed).contains i) = true) (hw : Region.wanted o (yielded ops a.tmps) = true)
    (hy : ∀ x, S x -> (execOp a.eval o).run P x = .ok (.value v) x) (hS : S w) (h : wpAnyH P md ops (NoPanic Q) S fuel (listed.setIfInBounds i true) (a.put d v) w) : wpAnyH P md ops (NoPanic Q) S (fuel + 1) listed a w := by
  simp only [Bool.and_eq_true] at hk; exact Qr i d v hi hd hk.1.1 hk.1.2 hk.2 (fun _ _ _ h => h) (Or.inl ⟨hw, hy⟩) hS h
theorem tkq {Q : Exit -> Act -> World -> Prop} (i : Nat) (d : Option Tmp) (v : Value) (hS : S w) (h : wpAnyH P md ops (NoPanic Q) S fuel (listed.setIfInBounds i true) (a.put d v) w) (hi : ops[i]? = some o := by rfl) (hd : o.dst = d := by rfl) (hk : (Region.noSelect ops && Region.free md ops listed i && (Region.ready md ops listed).contains i) = true := by kernel_rfl) (hw : Region.wanted o (yielded ops a.tmps) = true := by kernel_rfl)
    (hy : ∀ x, S x -> (execOp a.eval o).run P x = .ok (.value v) x := by intro x _; go_simp) : wpAnyH P md ops (NoPanic Q) S (fuel + 1) listed a w := tkk i d v hi hd hk hw hy hS h
theorem Qm (i : Nat) (hr : Region.ready md ops listed = [i]) (h : wpOp P ops Q i (fun a' w' => S w' /\ wpAnyH P md ops Q S fuel (listed.setIfInBounds i true) a' w') a w) : wpAnyH P md ops Q S (fuel + 1) listed a w :=
  wpAnyH_all hr (by simp) (fun k hk => by
    obtain rfl : k = i := by simpa using hk
    exact h)
theorem Qpf (i j : Nat) (hr : Region.ready md ops listed = [i, j]) (h : wpOp P ops Q i (fun a' w' => S w' /\ wpAnyH P md ops Q S fuel (listed.setIfInBounds i true) a' w') a w) (h2 : wpOp P ops Q j (fun a' w' => S w' /\ wpAnyH P md ops Q S fuel (listed.setIfInBounds j true) a' w') a w) : wpAnyH P md ops Q S (fuel + 1) listed a w :=
  wpAnyH_all hr (by simp) (fun k hk => by
    rcases List.mem_cons.1 hk with rfl | hk
    · exact h
    · obtain rfl : k = j := by simpa using hk
      exact h2)
variable {K : Act -> World -> Prop} {i : Nat}
theorem Qfa (d : Option Tmp) (ho : ops[i]? = some o) (hd : o.dst = d) (hg : o.guard = none) (f : FuncId) (args : Array Value) (he : (execOp a.eval o).run P w = .ok (.enter f args) w)
    (hc : Calls P f args w fun e w' => ∃ v, e = .returned v /\ K (a.put d v) w') : wpOp P ops Q i K a w := by
  subst hd; exact wpOp_step ho (fun K' hK => Qcq hg f args he (hc.mono fun e w' ⟨v, h1, h2⟩ => ⟨v, h1, hK _ _ h2⟩))
theorem Qub (d : Option Tmp) (ho : ops[i]? = some o) (hd : o.dst = d) (hg : o.guard = none) (v : Value) (w' : World) (he : (execOp a.eval o).run P w = .ok (.value v) w') (h : K (a.put d v) w') : wpOp P ops Q i K a w := by
  subst hd; refine wpOp_step ho (fun K' hK => ?_); have hw : Region.wanted o (yielded ops a.tmps) = true := by simp [Region.wanted, hg]
  rw [if_pos hw]; unfold Oper.wp; rw [he]; exact hK _ _ h
theorem Qwl (d : Option Tmp) (ho : ops[i]? = some o) (hd : o.dst = d) (hw : Region.wanted o (yielded ops a.tmps) = true) (f : FuncId) (args : Array Value) (he : (execOp a.eval o).run P w = .ok (.enter f args) w)
    (hc : Calls P f args w fun e w' => ∃ v, e = .returned v /\ K (a.put d v) w') : wpOp P ops Q i K a w := by
  subst hd; refine wpOp_step ho (fun K' hK => ?_); rw [if_pos hw]; unfold Oper.wp; rw [he, Oper.upon_enter]; refine hc.mono ?_; rintro e w' ⟨v, rfl, h⟩; exact hK _ _ h
theorem hand_runw (d : Option Tmp) (ho : ops[i]? = some o) (hd : o.dst = d) (hw : Region.wanted o (yielded ops a.tmps) = true) (v : Value) (w' : World) (he : (execOp a.eval o).run P w = .ok (.value v) w') (h : K (a.put d v) w') : wpOp P ops Q i K a w := by
  subst hd; refine wpOp_step ho (fun K' hK => ?_); rw [if_pos hw]; unfold Oper.wp; rw [he]; exact hK _ _ h
theorem Qca (ho : ops[i]? = some o) (hd : o.dst = none) (hg : o.guard = none) (ty : TypeId) (x y : Operand) (hop : o.op = .store ty x y) (g off : Nat) (t : TypeId) (c0 cs : Array Value) (hx : a.eval x = .pointer (some ⟨g, off, none⟩)) (hy : a.eval y = .agg cs) (hr : Qa w g t c0)
    (hi : (P.info? ty).map (·.size) = some cs.size) (hf : off + cs.size <= c0.size) (h1 : cs.all (·.oneCell') = true) (h : ∀ w2, Qa w2 g t (Qxf c0 off cs.toList) -> Only g w w2 -> K a w2) : wpOp P ops Q i K a w := by
  refine wpOp_step ho (fun K' hK => ?_); refine Qnj hg ty x y hop g off t c0 cs hx hy hr hi hf h1 (fun w2 h2 h3 => ?_); rw [hd]; exact hK _ _ (h w2 h2 h3)
theorem exec_load (ty : TypeId) (x : Operand) (ho : o.op = .load ty x) (u : Value) (hu : a.eval x = u) (v : Value) (hv : (Instr.loadAt ty u).run P w = .ok v w) : (execOp a.eval o).run P w = .ok (.value v) w := by
  unfold execOp; simp only [ho, hu, Sem.run_bind, hv, Result.andThen_ok, Sem.run_pure]
theorem Qn (c0 cs : Array Value) (h : c0.size = cs.size) : Qxf c0 0 cs.toList = cs := by
  unfold Qxf; rw [List.take_zero, List.nil_append, Array.length_toList, Nat.zero_add, List.drop_of_length_le (by rw [Array.length_toList]; omega), List.append_nil, Array.toArray_toList]
end
end
structure Sl where
  b : Option Nat
  c : Nat
def adr (o : Option Nat) : Option Addr := o.map fun b => ⟨b, 0, none⟩
def slV (s : Sl) (n : Nat) : Value := .slice (adr s.b) n s.c
def Sl.nil : Sl := ⟨none, 0⟩
def ofS (s : Sl) (k : Nat) : Prop := s.b = some k
theorem Qk : ∀ (vs : List Value) (o : Nat) (w : World) (b : Nat) (t : TypeId) (cs : Array Value), Qa w b t cs -> ∃ ds, Qa (w.setCells b o vs) b t ds /\ ds.size = cs.size
  | [], _, w, b, t, cs, h => ⟨cs, h, rfl⟩
  | v :: vs, o, w, b, t, cs, h => by
    obtain ⟨ds, h1, h2⟩ := Qk vs (o + 1) (w.setCell ⟨b, o, none⟩ v) b t _ (h.set o v); exact ⟨ds, h1, by rw [h2]; simp⟩
theorem Qp : ∀ (vs : List Value) (o : Nat) (w : World) (b : Nat) (F : Nat -> Prop), F b -> Tn F w (w.setCells b o vs)
  | [], _, w, _, F, _ => Tn.refl F w
  | v :: vs, o, w, b, F, h => ((Tn.refl F w).set b o v h).then (Qp vs (o + 1) _ b F h)
theorem Qva {P : Program} (w : World) (dT sT ty elem : TypeId) (k : Nat) (b o dLen dCap : Nat) (a : Addr) (sLen sCap : Nat) (cs : List Value)
    (hu : P.underlying dT = some (.slice elem)) (hs : (P.info? elem).map (·.size) = some k) (hn : cs.length = Nat.min sLen dLen * k)
    (hsrc : ∀ j v, cs[j]? = some v -> w.cell? (a.add j) = some v) (hc : ∀ j, j < cs.length -> (w.cell? ⟨b, o + j, none⟩).isSome = true) (hf : ∀ j, j < cs.length -> w.frozen? ⟨b, o + j, none⟩ = false) (h1 : ∀ v ∈ cs, v.oneCell' = true) :
    (Builtin.copy_ #[dT, sT] ty #[.slice (some ⟨b, o, none⟩) dLen dCap, .slice (some a) sLen sCap]).run P w = .ok (goInt (Nat.min sLen dLen)) (w.setCells b o cs) := by
  have hl := run_loadCells_list (P := P) w a cs hsrc; have hst := run_storeCells_cells (P := P) b o cs 0 w (by simpa using hc) (by simpa using hf) h1
  cases hq : P.info? elem with
  | none => simp [hq] at hs
  | some i =>
    have hi : i.size = k := by simpa [hq] using hs
    simp [Builtin.copy_, run_underlying hu, Builtin.lenOf, Builtin.firstCells, sizeOf, typeInfo, hq, hi, <- hn, hl, hst]
theorem Qq {w : World} {b : Nat} {t : TypeId} {cs : Array Value} (h : Qa w b t cs) {j : Nat} (hj : j < cs.size) : (w.cell? ⟨b, j, none⟩).isSome = true := by
  rw [cell_of_row w b j _ _ (0, 0) h, Array.getElem?_eq_getElem hj]; rfl
theorem Qfe {P : Program} {ops : Array Oper} {o : Oper} {a : Act} {w : World} {K : Act -> World -> Prop} {Q : Exit -> Act -> World -> Prop} {E : Prop}
    (hg : o.guard = none) (d x : Operand) (t u : TypeId) (hop : o.op = Op.call { callee := Callee.builtin Builtin.append, args := #[d, x], argTypes := #[t, u] })
    (vd vx v' : Value) (w' : World) (hs : a.eval d = vd) (hx : a.eval x = vx) (hrun : (Builtin.append_ #[t, u] o.type #[vd, vx]).run P w = .ok v' w') (hK : K (a.put o.dst v') w') :
    if Region.wanted o (yielded ops a.tmps) = true then Oper.wp P o a w K Q else E := by
  have hw : Region.wanted o (yielded ops a.tmps) = true := by simp [Region.wanted, hg]
  rw [if_pos hw]; unfold Oper.wp; simp [execOp, hop, resolve, invoke, builtin, hs, hx, hrun, Result.andThen]; exact hK
theorem Qrb {P : Program} (w : World) {ops : Array Oper} {rest : List Oper} {o : Oper} {a : Act} {Q : Exit -> Act -> World -> Prop} (hgd : o.guard = none) (d s : Operand) (t t' : TypeId)
    (ho : o.op = .call { callee := .builtin .copy, args := #[d, s], argTypes := #[t, t'] }) (v u : Value) (hd : a.eval d = v) (hs : a.eval s = u) {v' : Value} {w' : World}
    (hr : (Builtin.copy_ #[t, t'] o.type #[v, u]).run P w = .ok v' w') (h : wpList P ops Q rest (a.put o.dst v') w') : wpList P ops Q (o :: rest) a w :=
  wpList_plain hgd fun _ hK => by
    unfold Oper.wp execOp; simp only [ho, resolve, invoke, builtin, Sem.run_bind, Sem.run_pure, Result.andThen_ok, List.map_toArray, List.map_cons, List.map_nil, hd, hs, hr]; exact hK _ _ h
theorem Qgc {P : Program} {ops : Array Oper} {o : Oper} {a : Act} {w : World} {K : Act -> World -> Prop} {Q : Exit -> Act -> World -> Prop} {E : Prop}
    (hg : o.guard = none) (d x : Operand) (dT sT : TypeId) (hop : o.op = Op.call { callee := Callee.builtin Builtin.copy, args := #[d, x], argTypes := #[dT, sT] })
    (v u : Value) (hd : a.eval d = v) (hx : a.eval x = u) {v' : Value} {w' : World} (hr : (Builtin.copy_ #[dT, sT] o.type #[v, u]).run P w = .ok v' w') (hK : K (a.put o.dst v') w') :
    if Region.wanted o (yielded ops a.tmps) = true then Oper.wp P o a w K Q else E := by
  have hw : Region.wanted o (yielded ops a.tmps) = true := by simp [Region.wanted, hg]
  rw [if_pos hw]; unfold Oper.wp; simp [execOp, hop, resolve, invoke, builtin, hd, hx, hr, Result.andThen]; exact hK
theorem isSome_set {b : Nat} {vs : List Value} {o : Nat} {w : World} {t : TypeId} {cs : Array Value} (h : Qa w b t cs) {k : Nat} (hk : k < cs.size) : ((w.setCells b o vs).cell? ⟨b, k, none⟩).isSome = true := by
  obtain ⟨ds, h1, h2⟩ := Qk vs o w b t cs h; exact Qq h1 (by omega)
theorem Qkg (x : World) (a : Addr) : x.drew.cell? a = x.cell? a := rfl
theorem Qgj {x : World} {b : Nat} {t : TypeId} {cs : Array Value} (h : Qa x b t cs) : Qa x.drew b t cs := h
theorem Qtc (w : World) (A B : Array Value) (t t2 : TypeId) : Qa ((w.alloc (.cells A t)).alloc (.cells B t2)) w.heap.size t A /\ Qa ((w.alloc (.cells A t)).alloc (.cells B t2)) (w.heap.size + 1) t2 B /\ Below w.heap.size w ((w.alloc (.cells A t)).alloc (.cells B t2)) := by
  have e1 : (w.alloc (.cells A t)).heap.size = w.heap.size + 1 := by simp
  have b1 := (Below.refl w.heap.size w).alloc (Nat.le_refl _) (.cells A t); have b2 := (Below.refl _ (w.alloc (.cells A t))).alloc (Nat.le_refl _) (.cells B t2); refine ⟨(Qa.new w _ _).later b2, ?_, b1.trans (b2.mono (by omega))⟩; have h := Qa.new (w.alloc (.cells A t)) t2 B; rw [e1] at h; exact h
section
def txL (x : Tx) : List Value := [.int .i64 x.t, .int .i64 x.s, .int .u64 (x.f : Int), .int .u64 (x.l : Int), .int .u64 (x.n : Int)]
def flT (l : List Tx) : List Value := l.flatMap txL
theorem Qra : ∀ l : List Tx, (flT l).length = l.length * 5
  | [] => rfl
  | h :: l => by
    have := Qra l; unfold flT at this |-; rw [List.flatMap_cons, List.length_append, this, List.length_cons]; show 5 + _ = _; omega
theorem Qjc (l m : List Tx) : flT (l ++ m) = flT l ++ flT m := List.flatMap_append
theorem Qpq (h : Tx) : flT [h] = txL h := by simp [flT]
theorem Qgm : ∀ (l : List Tx) (i j : Nat) (h : Tx), l[i]? = some h -> j < 5 -> (flT l)[i * 5 + j]? = (txL h)[j]?
  | [], i, j, h, e, _ => by simp at e
  | k :: l, 0, j, h, e, hj => by
    simp at e; subst e; have : flT (k :: l) = txL k ++ flT l := by simp [flT]
    rw [this, Nat.zero_mul, Nat.zero_add, List.getElem?_append_left hj]
  | k :: l, i + 1, j, h, e, hj => by
    simp at e; have : flT (k :: l) = txL k ++ flT l := by simp [flT]
    rw [this, List.getElem?_append_right (by show 5 <= _; omega)]; have h2 := Qgm l i j h e hj; have h3 : (i + 1) * 5 + j - (txL k).length = i * 5 + j := by show (i + 1) * 5 + j - 5 = _; omega
    rw [h3]; exact h2
theorem Qem (h : Tx) : ∀ u ∈ txL h, u.oneCell' = true := by
  intro u hu; simp only [txL, List.mem_cons, List.not_mem_nil, or_false] at hu; rcases hu with rfl | rfl | rfl | rfl | rfl <;> rfl
theorem Qtm (l : List Tx) : ∀ u ∈ flT l, u.oneCell' = true := by
  intro u hu; obtain ⟨h, _, hu⟩ := List.mem_flatMap.1 hu; exact Qem h u hu
theorem Qrg (l : List Tx) (i : Nat) : (flT l).take (i * 5) = flT (l.take i) := by
  by_cases hi : i <= l.length
  · conv => lhs; rw [<- List.take_append_drop i l, Qjc]
    rw [List.take_append_of_le_length (by rw [Qra, List.length_take]; omega), List.take_of_length_le (by rw [Qra, List.length_take]; omega)]
  · rw [List.take_of_length_le (by rw [Qra]; omega), List.take_of_length_le (by omega)]
theorem Qvm (l : List Tx) (i : Nat) : (flT l).drop (i * 5) = flT (l.drop i) := by
  by_cases hi : i <= l.length
  · conv => lhs; rw [<- List.take_append_drop i l, Qjc]
    have e : (flT (l.take i)).length = i * 5 := by rw [Qra, List.length_take]; omega
    rw [<- e, List.drop_left]
  · rw [List.drop_of_length_le (by rw [Qra]; omega), List.drop_of_length_le (by omega)]; rfl
def RT (w : World) (s : Sl) (l : List Tx) : Prop :=
  (s.b = none /\ l = [] /\ s.c = 0) ∨ ∃ b cs, s.b = some b /\ Qa w b 42 cs /\ cs.size = s.c * 5 /\ l.length <= s.c /\ 0 <= s.c /\ s.c <= maxLen /\ ∀ j u, (flT l)[j]? = some u -> w.cell? ⟨b, j, none⟩ = some u
theorem RT.nil (w : World) : RT w Sl.nil [] := .inl ⟨rfl, rfl, rfl⟩
section
variable {w x : World} {s : Sl} {l : List Tx}
theorem RT.keep (h : RT w s l) (hb : ∀ b, s.b = some b -> x.heap[b]? = w.heap[b]?) : RT x s l := by
  rcases h with h | ⟨b, cs, h1, h2, h3, h4, h5, h6, h7⟩
  · exact .inl h
  · have e := hb b h1; exact .inr ⟨b, cs, h1, e.trans h2, h3, h4, h5, h6, fun j u hu => (World.cell?_of_block (a := ⟨b, j, none⟩) e).trans (h7 j u hu)⟩
theorem RT.lt (h : RT w s l) {b : Nat} (hb : s.b = some b) : b < w.heap.size := by
  rcases h with h | ⟨b', cs, h1, h2, _⟩
  · rw [h.1] at hb; cases hb
  · rw [h1] at hb; injection hb with hb; subst hb; exact h2.lt
theorem RT.later (h : RT w s l) (p : Below w.heap.size w x) : RT x s l := h.keep (fun b hb => p.block b (h.lt hb))
theorem RT.turn {F : Nat -> Prop} (h : RT w s l) (p : Tn F w x) (hn : ∀ b, s.b = some b -> ¬ F b) : RT x s l := h.keep (fun b hb => p.block b (h.lt hb) (hn b hb))
theorem RT.cap (h : RT w s l) : l.length <= s.c /\ s.c <= maxLen := by
  rcases h with ⟨_, rfl, h3⟩ | ⟨b, cs, h1, h2, h3, h4, h5, h6, h7⟩
  · rw [h3]; exact ⟨Nat.le_refl _, Nat.zero_le _⟩
  · exact ⟨h4, h6⟩
end
theorem Qci : (Try.prog.info? 42).map (fun i => (i.zero, i.size, i.bytes)) = some (some (.agg #[.int .i64 0, .int .i64 0, .int .u64 0, .int .u64 0, .int .u64 0]), 5, 40) := by kernel_rfl
theorem Qdc : (Try.prog.info? 42).map (·.size) = some 5 := by kernel_rfl
theorem RT.laid {w w' : World} {s : Sl} {l l' : List Tx} {b : Nat} {cs : Array Value} (hb : s.b = some b) (hr : Qa w' b 42 cs) (hs : cs.size = s.c * 5) (hl : l'.length <= s.c) (h0 : 0 <= s.c) (hm : s.c <= maxLen) (hc : ∀ j u, (flT l')[j]? = some u -> w'.cell? ⟨b, j, none⟩ = some u) : RT w' s l' := .inr ⟨b, cs, hb, hr, hs, hl, h0, hm, hc⟩
theorem RT.at {w : World} {s : Sl} {l : List Tx} (h : RT w s l) {i : Nat} {k : Tx} (hi : l[i]? = some k) : ∃ b, s.b = some b /\ b < w.heap.size /\ ∀ j u, j < 5 -> (txL k)[j]? = some u -> w.cell? ⟨b, i * 5 + j, none⟩ = some u := by
  rcases h with ⟨_, rfl, _⟩ | ⟨b, cs, h1, h2, h3, h4, h5, h6, h7⟩
  · simp at hi
  · exact ⟨b, h1, h2.lt, fun j u hj hu => h7 _ _ (by rw [Qgm l i j k hi hj]; exact hu)⟩
theorem RT.of {w : World} {l : List Tx} {base n : Nat} {v : Value} (hn : n = l.length) (ho : w.ownsRow base 42 5 v n (flatT l)) : ∃ s : Sl, v = slV s n /\ RT w s l /\ ∀ k, s.b = some k -> base <= k := by
  subst hn
  rcases ho.2 with ⟨rfl, h0⟩ | ⟨g, cap, cur, rfl, h1, h2, h3, h4, h5, h6⟩
  · exact ⟨Sl.nil, by rw [h0]; rfl, .inl ⟨rfl, List.eq_nil_of_length_eq_zero h0, rfl⟩, fun k hk => (nomatch hk)⟩
  · refine ⟨⟨some g, cap⟩, rfl, .inr ⟨g, cur, rfl, h2, h5, h3, Nat.zero_le _, h4, fun j u hu => ?_⟩, fun k hk => by injection hk with hk; omega⟩; rw [cell_of_row w g j _ _ (0, 0) h2]; have hu2 : (flatT l)[j]? = some u := hu; rw [<- h6] at hu2; rw [<- Array.getElem?_toList]; rw [List.getElem?_take] at hu2
    split at hu2
    · exact hu2
    · cases hu2
theorem RT.fresh {w : World} {l : List Tx} {base n : Nat} {v : Value} (hn : n = l.length) (hp : 0 < n) (ho : w.ownsRow base 42 5 v n (flT l)) : ∃ s : Sl, v = slV s n /\ RT w s l /\ ∀ k, s.b = some k -> base <= k := RT.of hn ho
end
section
def diL (x : Di) : List Value := [.int .i64 x.p, .int .u64 (x.r : Int)]
def flD (l : List Di) : List Value := l.flatMap diL
theorem Qwa : ∀ l : List Di, (flD l).length = l.length * 2
  | [] => rfl
  | h :: l => by
    have := Qwa l; unfold flD at this |-; rw [List.flatMap_cons, List.length_append, this, List.length_cons]; show 2 + _ = _; omega
theorem Qic (l m : List Di) : flD (l ++ m) = flD l ++ flD m := List.flatMap_append
theorem Qkr (h : Di) : flD [h] = diL h := by simp [flD]
theorem flD_get : ∀ (l : List Di) (i j : Nat) (h : Di), l[i]? = some h -> j < 2 -> (flD l)[i * 2 + j]? = (diL h)[j]?
  | [], i, j, h, e, _ => by simp at e
  | k :: l, 0, j, h, e, hj => by
    simp at e; subst e; have : flD (k :: l) = diL k ++ flD l := by simp [flD]
    rw [this, Nat.zero_mul, Nat.zero_add, List.getElem?_append_left hj]
  | k :: l, i + 1, j, h, e, hj => by
    simp at e; have : flD (k :: l) = diL k ++ flD l := by simp [flD]
    rw [this, List.getElem?_append_right (by show 2 <= _; omega)]; have h2 := flD_get l i j h e hj; have h3 : (i + 1) * 2 + j - (diL k).length = i * 2 + j := by show (i + 1) * 2 + j - 2 = _; omega
    rw [h3]; exact h2
theorem Qjm (h : Di) : ∀ u ∈ diL h, u.oneCell' = true := by
  intro u hu; simp only [diL, List.mem_cons, List.not_mem_nil, or_false] at hu; rcases hu with rfl | rfl <;> rfl
theorem Qzs (l : List Di) : ∀ u ∈ flD l, u.oneCell' = true := by
  intro u hu; obtain ⟨h, _, hu⟩ := List.mem_flatMap.1 hu; exact Qjm h u hu
theorem Qng (l : List Di) (i : Nat) : (flD l).take (i * 2) = flD (l.take i) := by
  by_cases hi : i <= l.length
  · conv => lhs; rw [<- List.take_append_drop i l, Qic]
    rw [List.take_append_of_le_length (by rw [Qwa, List.length_take]; omega), List.take_of_length_le (by rw [Qwa, List.length_take]; omega)]
  · rw [List.take_of_length_le (by rw [Qwa]; omega), List.take_of_length_le (by omega)]
theorem Qyr (l : List Di) (i : Nat) : (flD l).drop (i * 2) = flD (l.drop i) := by
  by_cases hi : i <= l.length
  · conv => lhs; rw [<- List.take_append_drop i l, Qic]
    have e : (flD (l.take i)).length = i * 2 := by rw [Qwa, List.length_take]; omega
    rw [<- e, List.drop_left]
  · rw [List.drop_of_length_le (by rw [Qwa]; omega), List.drop_of_length_le (by omega)]; rfl
def RD (w : World) (s : Sl) (l : List Di) : Prop :=
  (s.b = none /\ l = [] /\ s.c = 0) ∨ ∃ b cs, s.b = some b /\ Qa w b 81 cs /\ cs.size = s.c * 2 /\ l.length <= s.c /\ 0 <= s.c /\ s.c <= maxLen /\ ∀ j u, (flD l)[j]? = some u -> w.cell? ⟨b, j, none⟩ = some u
theorem RD.nil (w : World) : RD w Sl.nil [] := .inl ⟨rfl, rfl, rfl⟩
section
variable {w x : World} {s : Sl} {l : List Di}
theorem RD.keep (h : RD w s l) (hb : ∀ b, s.b = some b -> x.heap[b]? = w.heap[b]?) : RD x s l := by
  rcases h with h | ⟨b, cs, h1, h2, h3, h4, h5, h6, h7⟩
  · exact .inl h
  · have e := hb b h1; exact .inr ⟨b, cs, h1, e.trans h2, h3, h4, h5, h6, fun j u hu => (World.cell?_of_block (a := ⟨b, j, none⟩) e).trans (h7 j u hu)⟩
theorem RD.lt (h : RD w s l) {b : Nat} (hb : s.b = some b) : b < w.heap.size := by
  rcases h with h | ⟨b', cs, h1, h2, _⟩
  · rw [h.1] at hb; cases hb
  · rw [h1] at hb; injection hb with hb; subst hb; exact h2.lt
theorem RD.later (h : RD w s l) (p : Below w.heap.size w x) : RD x s l := h.keep (fun b hb => p.block b (h.lt hb))
theorem RD.turn {F : Nat -> Prop} (h : RD w s l) (p : Tn F w x) (hn : ∀ b, s.b = some b -> ¬ F b) : RD x s l := h.keep (fun b hb => p.block b (h.lt hb) (hn b hb))
theorem RD.cap (h : RD w s l) : l.length <= s.c /\ s.c <= maxLen := by
  rcases h with ⟨_, rfl, h3⟩ | ⟨b, cs, h1, h2, h3, h4, h5, h6, h7⟩
  · rw [h3]; exact ⟨Nat.le_refl _, Nat.zero_le _⟩
  · exact ⟨h4, h6⟩
end
theorem Quj : (Try.prog.info? 81).map (fun i => (i.zero, i.size, i.bytes)) = some (some (.agg #[.int .i64 0, .int .u64 0]), 2, 16) := by kernel_rfl
theorem Qcm : (Try.prog.info? 81).map (·.size) = some 2 := by kernel_rfl
theorem RD.laid {w w' : World} {s : Sl} {l l' : List Di} {b : Nat} {cs : Array Value} (hb : s.b = some b) (hr : Qa w' b 81 cs) (hs : cs.size = s.c * 2) (hl : l'.length <= s.c) (h0 : 0 <= s.c) (hm : s.c <= maxLen) (hc : ∀ j u, (flD l')[j]? = some u -> w'.cell? ⟨b, j, none⟩ = some u) : RD w' s l' := .inr ⟨b, cs, hb, hr, hs, hl, h0, hm, hc⟩
theorem RD.at {w : World} {s : Sl} {l : List Di} (h : RD w s l) {i : Nat} {k : Di} (hi : l[i]? = some k) : ∃ b, s.b = some b /\ b < w.heap.size /\ ∀ j u, j < 2 -> (diL k)[j]? = some u -> w.cell? ⟨b, i * 2 + j, none⟩ = some u := by
  rcases h with ⟨_, rfl, _⟩ | ⟨b, cs, h1, h2, h3, h4, h5, h6, h7⟩
  · simp at hi
  · exact ⟨b, h1, h2.lt, fun j u hj hu => h7 _ _ (by rw [flD_get l i j k hi hj]; exact hu)⟩
theorem RD.of {w : World} {l : List Di} {base n : Nat} {v : Value} (hn : n = l.length) (ho : w.ownsRow base 81 2 v n (flatD l)) : ∃ s : Sl, v = slV s n /\ RD w s l /\ ∀ k, s.b = some k -> base <= k := by
  subst hn
  rcases ho.2 with ⟨rfl, h0⟩ | ⟨g, cap, cur, rfl, h1, h2, h3, h4, h5, h6⟩
  · exact ⟨Sl.nil, by rw [h0]; rfl, .inl ⟨rfl, List.eq_nil_of_length_eq_zero h0, rfl⟩, fun k hk => (nomatch hk)⟩
  · refine ⟨⟨some g, cap⟩, rfl, .inr ⟨g, cur, rfl, h2, h5, h3, Nat.zero_le _, h4, fun j u hu => ?_⟩, fun k hk => by injection hk with hk; omega⟩; rw [cell_of_row w g j _ _ (0, 0) h2]; have hu2 : (flatD l)[j]? = some u := hu; rw [<- h6] at hu2; rw [<- Array.getElem?_toList]; rw [List.getElem?_take] at hu2
    split at hu2
    · exact hu2
    · cases hu2
theorem RD.fresh {w : World} {l : List Di} {base n : Nat} {v : Value} (hn : n = l.length) (hp : 0 < n) (ho : w.ownsRow base 81 2 v n (flD l)) : ∃ s : Sl, v = slV s n /\ RD w s l /\ ∀ k, s.b = some k -> base <= k := RD.of hn ho
end
end Go.Proofs.Ytkgniegdefaieaa
