/-
  Texts that lean on one another, one behind the other: each opens with its own remark.
-/
import Derived.ArgAppend
import Derived.Deep.RegionLawGrows
import Derived.Laws.AppendOwn
import Derived.Laws.AppendOwnNone
import Derived.Lib.AppendStr
import Derived.Lib.AppendZerosOnto
import Derived.Test.YtohdmmfmjadipaaProg
import Derived.WalkSpells
import Derived.Laws.CopyOwn
import Derived.Room.AppendFits
import Derived.Laws.OwnMore
import Derived.Test.YtohdmmfmjadipaaK04
import Derived.Test.YtohdmmfmjadipaaK00
import Derived.Test.YtohdmmfmjadipaaK01
import Derived.Test.YtohdmmfmjadipaaK03

namespace Go.Proofs.Ytohdmmfmjadipaa
open Go.RowKit
set_option linter.unusedVariables false
set_option maxRecDepth 8000
set_option maxHeartbeats 25600000
theorem Qte {b j : Nat} (x : World) (v : Int) (h : x.cell? ⟨b, j, none⟩ = some (.int .u64 v)) : (Instr.loadAt 23 (.pointer (some ⟨b, j, none⟩))).run Try.prog x = .ok (.int .u64 v) x := by go_simp
theorem load_text {b j : Nat} (x : World) (s : ByteArray) (h : x.cell? ⟨b, j, none⟩ = some (.string s)) : (Instr.loadAt 9 (.pointer (some ⟨b, j, none⟩))).run Try.prog x = .ok (.string s) x := by go_simp
theorem used_fits {r : Rec} (h : r.fits) : r.used.fits := by
  refine ⟨?_, ?_, ?_, ?_, ?_⟩
  · show (if r.k <= 2 then r.c else Ch.zero).fits
    by_cases hk : r.k <= 2
    · rw [if_pos hk]; exact h.c
    · rw [if_neg hk]; exact Qwj
  · show (if r.k = 8 then r.ts else []).length <= maxLen
    by_cases hk : r.k = 8
    · rw [if_pos hk]; exact h.tl
    · rw [if_neg hk]; exact Nat.zero_le _
  · show (if r.k = 8 then r.ds else []).length <= maxLen
    by_cases hk : r.k = 8
    · rw [if_pos hk]; exact h.dl
    · rw [if_neg hk]; exact Nat.zero_le _
  · show ∀ x ∈ (if r.k = 8 then r.ts else []), x.fits
    by_cases hk : r.k = 8
    · rw [if_pos hk]; exact h.ts
    · rw [if_neg hk]; exact fun x hx => nomatch hx
  · show ∀ x ∈ (if r.k = 8 then r.ds else []), x.fits
    by_cases hk : r.k = 8
    · rw [if_pos hk]; exact h.ds
    · rw [if_neg hk]; exact fun x hx => nomatch hx
theorem load_rc (y : World) (g : Nat) (cs : Array Value) (h : Qb y g 30 cs) (hz : cs.size = 14) : (Instr.loadAt 30 (.pointer (some ⟨g, 0, none⟩))).run Try.prog y = .ok (.agg cs) y := by
  have h1 := run_loadAt_mid (P := Try.prog) y g 0 30 cs.toList _ (fun j v hv => by rw [Nat.zero_add]; exact h.cell j v (by rw [<- Array.getElem?_toList]; exact hv)) Try.underlying30 rfl (by rw [Qv, Array.length_toList, hz]); rwa [Array.toArray_toList] at h1
theorem right_at (r : Rec) (va vb : Value) (w : World) (q : Bool) (Hq : Hid (q = true ↔ r.right)) (hf : r.fits) (hin : Qhd w r va vb) :
    Calls Try.prog 28 #[.agg (rcA r va vb)] w fun e w' => e = .returned (.bool q) /\ Below w.heap.size w w' := by
  have HIN := Qd hin; have HFI := Qd hf; clear hin hf; have HK0 := Qd (Qu.one w 30 (rcA r va vb))
  have HF : Hid (¬ r.right -> q = false) := fun h => by
    cases q
    · rfl
    · exact absurd (Hq.out.1 rfl) h
  have HT : Hid (r.right -> q = true) := fun h => Hq.out.2 h
  clear Hq; by_cases l1 : (1 : Int) <= (r.l : Int)
  case neg =>
    obtain rfl := HF.out (fun h => by have := h.l1; omega); have l1f : ((1 : Int) <= (r.l : Int)) = False := eq_false l1; clear HF HT HIN HFI l1; go_enter Try.func28, Try.ntmps28; go_wp2_with fail; refine Qub (fun y => Qu w y [(w.heap.size, 30, rcA r va vb)]) (by kernel_rfl) (by kernel_rfl) HK0.out.drew ?_; clear HK0
    repeat (first
      | go_big_quiet_skip
      | (refine Qx rfl 23 (.tmp 3) rfl _ (.int .u64 (r.l : Int)) rfl (fun y hy => Qte y _ (hy.1.1.cell 1 _ rfl)) ?_; simp only [Act.put, List.setIfInBounds_toArray, List.set])
      | (refine Qjb rfl (fun K hK => ?_); go_simp; refine hK _ ?_; clear hK K))
    refine wpQuiet_nil ?_; intro w3 h3; have d3 := h3.2; clear h3; go_wp2; go_ret; exact ⟨by rfl, d3⟩
  by_cases l2 : (r.l : Int) <= 4611686018427387904
  case neg =>
    obtain rfl := HF.out (fun h => by have := h.lm; unfold Qce at this; omega); have l2f : ((r.l : Int) <= 4611686018427387904) = False := eq_false l2; clear HF HT HIN HFI l2; go_enter Try.func28, Try.ntmps28; go_wp2_with fail; refine Qub (fun y => Qu w y [(w.heap.size, 30, rcA r va vb)]) (by kernel_rfl) (by kernel_rfl) HK0.out.drew ?_; clear HK0
    repeat (first
      | go_big_quiet_skip
      | (refine Qx rfl 23 (.tmp 3) rfl _ (.int .u64 (r.l : Int)) rfl (fun y hy => Qte y _ (hy.1.1.cell 1 _ rfl)) ?_; simp only [Act.put, List.setIfInBounds_toArray, List.set])
      | (refine Qx rfl 23 (.tmp 7) rfl _ (.int .u64 (r.l : Int)) rfl (fun y hy => Qte y _ (hy.1.1.cell 1 _ rfl)) ?_; simp only [Act.put, List.setIfInBounds_toArray, List.set])
      | (refine Qjb rfl (fun K hK => ?_); go_simp; refine hK _ ?_; clear hK K))
    refine wpQuiet_nil ?_; intro w3 h3; have d3 := h3.2; clear h3; go_wp2; go_ret; exact ⟨by rfl, d3⟩
  have l2t : ((r.l : Int) <= 4611686018427387904) = True := eq_true l2; have HLM : Hid (1 <= r.l /\ r.l <= Qce) := ⟨by omega, by unfold Qce; omega⟩; clear l2; by_cases hu : r.uses
  case neg =>
    obtain rfl := HF.out (fun h => hu (Qhi.1 h).2.2.1); have HU := Qd (fun x h => Qis r va vb x false (Qd ⟨fun h => (nomatch h), fun h => absurd h hu⟩) h); clear HF HT HFI hu; go_enter Try.func28, Try.ntmps28; go_wp2_with fail; refine Qub (fun y => Qu w y [(w.heap.size, 30, rcA r va vb)]) (by kernel_rfl) (by kernel_rfl) HK0.out.drew ?_; clear HK0
    repeat (first
      | go_big_quiet_skip
      | (refine Qx rfl 23 (.tmp 3) rfl _ (.int .u64 (r.l : Int)) rfl (fun y hy => Qte y _ (hy.1.1.cell 1 _ rfl)) ?_; simp only [Act.put, List.setIfInBounds_toArray, List.set])
      | (refine Qx rfl 23 (.tmp 7) rfl _ (.int .u64 (r.l : Int)) rfl (fun y hy => Qte y _ (hy.1.1.cell 1 _ rfl)) ?_; simp only [Act.put, List.setIfInBounds_toArray, List.set])
      | (refine Qx rfl 30 (.tmp 1) rfl _ (.agg (rcA r va vb)) rfl (fun y hy => load_rc y _ _ hy.1.1 rfl) ?_; simp only [Act.put, List.setIfInBounds_toArray, List.set])
      | (refine Qcd rfl 41 #[.agg (rcA r va vb)] (.bool false) ?_ (fun x hx => (HU.out x (HIN.out.below hx.2)).mono fun e x' h => ⟨h.1, hx.later h.2⟩) ?_; (intro x; go_simp); simp only [Act.put, List.setIfInBounds_toArray, List.set])
      | (refine Qjb rfl (fun K hK => ?_); go_simp; refine hK _ ?_; clear hK K))
    refine wpQuiet_nil ?_; intro w3 h3; have d3 := h3.2; clear h3; go_wp2; go_ret; exact ⟨by rfl, d3⟩
  have HU := Qd (fun x h => Qis r va vb x true (Qd ⟨fun _ => hu, fun _ => rfl⟩) h); have HX := Qd (fun x h => used_any r va vb x ⟨hu.1, hu.2.1⟩ h)
  have HQ2 : Hid (q = true ↔ r = r.used) := by
    constructor
    · intro h
      by_cases hd : r = r.used
      · exact hd
      · rw [HF.out (fun h => hd (Qhi.1 h).2.2.2)] at h; cases h
    · intro hd; exact HT.out (Qhi.2 ⟨HLM.out.1, HLM.out.2, hu, hd⟩)
  have HS := Qd (fun x h => same_at r r.used va vb (uV r va) (uV r vb) x q HQ2 HFI.out (used_fits HFI.out) h (uV_in h)); clear HF HT HFI HQ2 hu HLM; go_enter Try.func28, Try.ntmps28; go_wp2_with fail; refine Qub (fun y => Qu w y [(w.heap.size, 30, rcA r va vb)]) (by kernel_rfl) (by kernel_rfl) HK0.out.drew ?_; clear HK0
  repeat (first
    | go_big_quiet_skip
    | (refine Qx rfl 23 (.tmp 3) rfl _ (.int .u64 (r.l : Int)) rfl (fun y hy => Qte y _ (hy.1.1.cell 1 _ rfl)) ?_; simp only [Act.put, List.setIfInBounds_toArray, List.set])
    | (refine Qx rfl 23 (.tmp 7) rfl _ (.int .u64 (r.l : Int)) rfl (fun y hy => Qte y _ (hy.1.1.cell 1 _ rfl)) ?_; simp only [Act.put, List.setIfInBounds_toArray, List.set])
    | (refine Qx rfl 30 (.tmp 1) rfl _ (.agg (rcA r va vb)) rfl (fun y hy => load_rc y _ _ hy.1.1 rfl) ?_; simp only [Act.put, List.setIfInBounds_toArray, List.set])
    | (refine Qcd rfl 41 #[.agg (rcA r va vb)] (.bool true) ?_ (fun x hx => (HU.out x (HIN.out.below hx.2)).mono fun e x' h => ⟨h.1, hx.later h.2⟩) ?_; (intro x; go_simp); simp only [Act.put, List.setIfInBounds_toArray, List.set])
    | (refine Qcd rfl 43 #[.agg (rcA r va vb)] (.agg (rcA r.used (uV r va) (uV r vb))) ?_ (fun x hx => (HX.out x (HIN.out.below hx.2)).mono fun e x' h => ⟨h.1, hx.later h.2⟩) ?_; (intro x; go_simp); simp only [Act.put, List.setIfInBounds_toArray, List.set])
    | (refine Qcd rfl 42 #[.agg (rcA r va vb), .agg (rcA r.used (uV r va) (uV r vb))] (.bool q) ?_ (fun x hx => (HS.out x (HIN.out.below hx.2)).mono fun e x' h => ⟨h.1, hx.later h.2⟩) ?_; (intro x; go_simp); simp only [Act.put, List.setIfInBounds_toArray, List.set])
    | (refine Qjb rfl (fun K hK => ?_); go_simp; refine hK _ ?_; clear hK K))
  refine wpQuiet_nil ?_; intro w3 h3; have d3 := h3.2; clear h3; go_wp2; go_ret; exact ⟨by rfl, d3⟩
theorem Qkm (r : Rec) (va vb : Value) (w : World) (hf : r.fits) (hin : Qhd w r va vb) :
    Calls Try.prog 28 #[.agg (rcA r va vb)] w fun e w' => e = .returned (.bool r.rightB) /\ Below w.heap.size w w' :=
  right_at r va vb w _ (Qd Qei) hf hin
theorem Qnb {w : World} {b off n : Nat} {bs : List UInt8} (h : IsB w (some ⟨b, off, none⟩) n bs) : ∀ j u, (toV bs)[j]? = some u -> w.cell? ((⟨b, off, none⟩ : Addr).add j) = some u := by
  intro j u hu
  have hj : j < bs.length := by
    have := (List.getElem?_eq_some_iff.1 hu).1; rwa [Qn] at this
  obtain ⟨b', off', hb, _, hc⟩ := h.2 (by have := h.1; omega); cases hb; rw [Addr.add_lit, hc j (by have := h.1; omega), <- Qkg bs j hj]; exact hu
theorem wpList_append_b {P : Program} (w : World) {ops : Array Oper} {rest : List Oper} {o : Oper} {a : Act} {Q : Exit -> Act -> World -> Prop}
    (hg : o.guard = none) (s x : Operand) (t : TypeId) (hop : o.op = Op.call { callee := Callee.builtin Builtin.append, args := #[s, x], argTypes := #[t, t] })
    (e : TypeId) (ht : P.underlying t = some (.slice e)) (hi : (P.info? e).map (fun i => (i.zero, i.size, i.bytes)) = some (some (.int .u8 0), 1, 1))
    (b off n cap : Nat) (xs : List UInt8) (hs : a.eval s = .slice (some ⟨b, off, none⟩) n cap) (hB : IsB w (some ⟨b, off, none⟩) n xs)
    (b2 off2 m c : Nat) (ys : List UInt8) (hx : a.eval x = .slice (some ⟨b2, off2, none⟩) m c) (hB2 : IsB w (some ⟨b2, off2, none⟩) m ys)
    (hfull : cap < n + m) (hz : n + m <= 140737488355328)
    (hK : ∀ v' w', w'.ownsRow w.heap.size e 1 v' (n + m) (toV (xs ++ ys)) -> w.grownBy w' none -> wpList P ops Q rest (a.put o.dst v') w') :
    wpList P ops Q (o :: rest) a w := by
  obtain ⟨i, hi0, hi1⟩ := Option.map_eq_some_iff.1 hi; simp only [Prod.mk.injEq] at hi1
  refine wpList_append_grows w hg s x t hop e i (.int .u8 0) 1 1 ht hi0 hi1.1 hi1.2.1 hi1.2.2 rfl (by omega) (some ⟨b, off, none⟩) n cap (toV xs) hs (fun h => nomatch h) (by rw [Qn, hB.1, Nat.mul_one]) ?_
    ⟨b2, off2, none⟩ m c (toV ys) hx (by rw [Qn, hB2.1, Nat.mul_one]) (Qnb hB2) ?_ hfull (by unfold maxLen; omega) (by omega) ?_
  · intro b' hb'; cases hb'; exact Qnb hB
  · intro u hu; obtain ⟨y, _, rfl⟩ := List.mem_map.1 hu; rfl
  · intro v' w' h1 h2; refine hK v' w' ?_ h2; have e2 : toV xs ++ toV ys = toV (xs ++ ys) := by simp [toV]
    rw [<- e2]; exact h1
theorem step_append_b {P : Program} {ops : Array Oper} {o : Oper} {a : Act} {w : World} {K : Act -> World -> Prop} {Q : Exit -> Act -> World -> Prop} {E : Prop}
    (hg : o.guard = none) (s x : Operand) (t : TypeId) (hop : o.op = Op.call { callee := Callee.builtin Builtin.append, args := #[s, x], argTypes := #[t, t] })
    (e : TypeId) (ht : P.underlying t = some (.slice e)) (hi : (P.info? e).map (fun i => (i.zero, i.size, i.bytes)) = some (some (.int .u8 0), 1, 1))
    (b off n cap : Nat) (xs : List UInt8) (hs : a.eval s = .slice (some ⟨b, off, none⟩) n cap) (hB : IsB w (some ⟨b, off, none⟩) n xs)
    (b2 off2 m c : Nat) (ys : List UInt8) (hx : a.eval x = .slice (some ⟨b2, off2, none⟩) m c) (hB2 : IsB w (some ⟨b2, off2, none⟩) m ys)
    (hfull : cap < n + m) (hz : n + m <= 140737488355328)
    (hK : ∀ v' w', w'.ownsRow w.heap.size e 1 v' (n + m) (toV (xs ++ ys)) -> w.grownBy w' none -> K (a.put o.dst v') w') :
    if Region.wanted o (yielded ops a.tmps) = true then Oper.wp P o a w K Q else E := by
  obtain ⟨i, hi0, hi1⟩ := Option.map_eq_some_iff.1 hi; simp only [Prod.mk.injEq] at hi1
  refine step_append_grows hg s x t hop e i (.int .u8 0) 1 1 ht hi0 hi1.1 hi1.2.1 hi1.2.2 rfl (by omega) (some ⟨b, off, none⟩) n cap (toV xs) hs (fun h => nomatch h) (by rw [Qn, hB.1, Nat.mul_one]) ?_
    ⟨b2, off2, none⟩ m c (toV ys) hx (by rw [Qn, hB2.1, Nat.mul_one]) (Qnb hB2) ?_ hfull (by unfold maxLen; omega) (by omega) ?_
  · intro b' hb'; cases hb'; exact Qnb hB
  · intro u hu; obtain ⟨y, _, rfl⟩ := List.mem_map.1 hu; rfl
  · intro v' w' h1 h2; refine hK v' w' ?_ h2; have e2 : toV xs ++ toV ys = toV (xs ++ ys) := by simp [toV]
    rw [<- e2]; exact h1
section
section
variable {P : Program} (w : World) {ops : Array Oper} {rest : List Oper} {o : Oper} {a : Act} {Q : Exit -> Act -> World -> Prop}
theorem Qrk (bs : List UInt8) : ∀ u ∈ toV bs, u.oneCell' = true := by
  intro u hu; obtain ⟨y, _, rfl⟩ := List.mem_map.1 hu; rfl
theorem Qyu (hg : o.guard = none) (s x : Operand) (t : TypeId) (hop : o.op = Op.call { callee := Callee.builtin Builtin.append, args := #[s, x], argTypes := #[t, t] })
    (e : TypeId) (ht : P.underlying t = some (.slice e)) (hi : (P.info? e).map (fun i => (i.zero, i.size, i.bytes)) = some (some (.int .u8 0), 1, 1))
    (base : Nat) (v : Value) (n : Nat) (xs : List UInt8) (hs : a.eval s = v) (hown : w.ownsRow base e 1 v n (toV xs))
    (ad : Option Addr) (m c : Nat) (ys : List UInt8) (hx : a.eval x = .slice ad m c) (hB : IsB w ad m ys) (hnil : ad = none -> c = 0) (hz : n + m <= 140737488355328) (hbase : base <= w.heap.size)
    (hK : ∀ v' w', w'.ownsRow base e 1 v' (n + m) (toV (xs ++ ys)) -> w.grownBy w' v.ownBlock -> wpList P ops Q rest (a.put o.dst v') w') :
    wpList P ops Q (o :: rest) a w := by
  obtain ⟨i, hi0, hi1⟩ := Option.map_eq_some_iff.1 hi; simp only [Prod.mk.injEq] at hi1; have hl := hB.1
  cases ad with
  | none =>
    obtain rfl : m = 0 := by
      by_cases hm : 0 < m
      · obtain ⟨b, off, h1, _⟩ := hB.2 hm; cases h1
      · omega
    obtain rfl := List.eq_nil_of_length_eq_zero hl; obtain rfl := hnil rfl; refine wpList_append_own_none hg s x t hop base e i 1 ht hi0 v n (toV xs) hs hown hx (hK v w ?_ ⟨rfl, rfl, rfl, Nat.le_refl _, fun _ _ _ => rfl⟩); simpa using hown
  | some b =>
    refine wpList_append_own w hg s x t hop base e i (.int .u8 0) 1 1 ht hi0 hi1.1 hi1.2.1 hi1.2.2 rfl (by omega) v n (toV xs) hs hown b m c (toV ys) hx (by rw [Qn, hl, Nat.mul_one]) ?_ (Qrk ys) (by unfold maxLen; omega) (by omega) hbase ?_
    · intro j u hu
      have hj : j < ys.length := by
        have := (List.getElem?_eq_some_iff.1 hu).1; rwa [Qn] at this
      obtain ⟨b', off', hb, _, hc⟩ := hB.2 (by omega); cases hb; rw [Addr.add_lit, hc j (by omega), <- Qkg ys j hj]; exact hu
    · intro v' w' h1 h2 _; rw [<- Quc] at h1; exact hK v' w' h1 h2
theorem Qzu (hg : o.guard = none) (s x : Operand) (t u : TypeId) (hop : o.op = Op.call { callee := Callee.builtin Builtin.append, args := #[s, x], argTypes := #[t, u] })
    (e : TypeId) (ht : P.underlying t = some (.slice e)) (hu : P.underlying u = some .string) (hi : (P.info? e).map (fun i => (i.zero, i.size, i.bytes)) = some (some (.int .u8 0), 1, 1))
    (base : Nat) (v : Value) (n : Nat) (xs : List UInt8) (hs : a.eval s = v) (hown : w.ownsRow base e 1 v n (toV xs))
    (y : ByteArray) (hx : a.eval x = .string y) (hz : n + y.size <= 140737488355328) (hbase : base <= w.heap.size)
    (hK : ∀ v' w', w'.ownsRow base e 1 v' (n + y.size) (toV (xs ++ y.data.toList)) -> w.grownBy w' v.ownBlock -> wpList P ops Q rest (a.put o.dst v') w') :
    wpList P ops Q (o :: rest) a w := by
  obtain ⟨i, hi0, hi1⟩ := Option.map_eq_some_iff.1 hi; simp only [Prod.mk.injEq] at hi1; refine Lib.wpList_append_own_string w hg s x t u hop base e i ht hu hi0 hi1.1 hi1.2.1 hi1.2.2 v n (toV xs) hs hown y hx (by unfold maxLen; omega) hz hbase ?_; intro v' w' h1 h2 _; rw [toV_str] at h1; exact hK v' w' h1 h2
theorem Qkc (k : Nat) : Builtin.zeroCells (Value.int .u8 0).cells k = (Qml k).toArray := by
  apply Array.ext'; have e : (Value.int IntKind.u8 0).cells = #[.int .u8 0] := rfl; rw [e]; unfold Builtin.zeroCells Qml; simp only [Array.toList_map, Array.toList_range]
  apply List.ext_getElem
  · simp
  · intro i h1 h2; simp [Nat.mod_one]
theorem Qeo (k : Nat) : Qml k = toV (List.replicate k 0) := by simp [Qml, toV]
theorem Qhg (base : Nat) (t tn ty e : TypeId) (i : TypeInfo) (kn : IntKind) (ht : P.underlying t = some (.slice e)) (htn : P.underlying tn = some (.int kn)) (hi : P.info? e = some i) (hz : i.zero = some (.int .u8 0)) (hsize : i.size = 1) (hby : i.bytes = 1)
    (v : Value) (n : Nat) (xs : List Value) (hown : w.ownsRow base e 1 v n xs) (k : Nat) (h0 : 0 < k) (hbytes : n + k <= 140737488355328) (hbase : base <= w.heap.size) :
    ∃ v' w', (Builtin.append_ #[t, tn] ty #[v, .int .i64 (k : Int)]).run P w = .ok v' w' /\ w'.ownsRow base e 1 v' (n + k) (xs ++ Qml k) /\ w.grownBy w' v.ownBlock := by
  have h63 : n + k <= maxLen := by unfold maxLen; omega
  have hxl : xs.length = n := by simpa using hown.1
  have hlen : (xs ++ Qml k).length = (n + k) * 1 := by rw [List.length_append, hxl, Qdc, Nat.mul_one]
  have grown : ∀ (old : Nat), ∀ (row : Option Nat),
      (w.drew.alloc (.cells (xs.toArray ++ (Qml k).toArray ++ (Qml (grownCap w (n + k) old e - (n + k))).toArray) e)).ownsRow base e 1
        (.slice (some ⟨w.heap.size, 0, none⟩) (n + k) (grownCap w (n + k) old e)) (n + k) (xs ++ Qml k) /\
      w.grownBy (w.drew.alloc (.cells (xs.toArray ++ (Qml k).toArray ++ (Qml (grownCap w (n + k) old e - (n + k))).toArray) e)) row := by
    intro old row; have hge := grownCap_ge w (n + k) old e; have hcm : grownCap w (n + k) old e <= maxLen := grownCap_le_maxLen w (n + k) old e h63
    refine ⟨⟨hlen, .inr ⟨w.heap.size, _, _, rfl, hbase, heap_alloc_new w.drew _, hge, hcm, ?_, ?_⟩⟩, ⟨rfl, rfl, rfl, by simp, fun k hk _ => Below.heap_alloc w.drew _ k hk⟩⟩
    · simp only [Array.size_append, List.size_toArray, Qdc, hxl]; omega
    · simp only [Array.toList_append, List.append_assoc]; rw [<- List.append_assoc, <- hlen]; exact List.take_left
  have hk : k ≠ 0 := by omega
  rcases hown.2 with ⟨rfl, rfl⟩ | ⟨g, cap, cur, rfl, hbg, hg, hnc, hcm, hcs, htake⟩
  · have hx : xs = [] := List.eq_nil_of_length_eq_zero hxl; subst hx; have hr := Lib.run_append_nil_zeros (P := P) w t tn ty e i (.int .u8 0) .i64 kn ht htn hi hz k h0 (by omega) (by omega) (by rw [hby]; omega); have hgr := grown 0 (Value.ownBlock (.slice none 0 0)); rw [Qkc, Qkc] at hr; simp only [Nat.zero_add, List.nil_append, Array.empty_append] at hgr |-; exact ⟨_, _, hr, hgr.1, hgr.2⟩
  · by_cases hroom : n + k <= cap
    · have hcs' : cur.size = cap := by simpa using hcs
      have hw : IntKind.i64.wrap (k : Int) = k := by rw [IntKind.wrap_i64]; omega
      have h48i : ¬ (281474976710656 < (k : Int) * (i.bytes : Int)) := by rw [hby]; omega
      have hneg : ¬ ((k : Int) < 0) := by omega
      have hst := run_storeCells_at P g n e (Qml k) 0 cur w hg (by rw [Qdc]; omega) (by intro u hu; rw [Qeo] at hu; exact Qrk _ u hu); simp only [Nat.add_zero, Qdc] at hst
      have hr : (Builtin.append_ #[t, tn] ty #[.slice (some ⟨g, 0, none⟩) n cap, .int .i64 (k : Int)]).run P w =
          .ok (.slice (some ⟨g, 0, none⟩) (n + k) cap) (w.setRow g (cur.toList.take n ++ Qml k ++ cur.toList.drop (n + k)).toArray) := by
        have h48i2 : ¬ (281474976710656 < (k : Int)) := by omega
        simp [Builtin.append_, run_underlying ht, run_underlying htn, sizeOf, typeInfo, zeroValue, hi, hz, asInt, asIntOf, hw, hk, hneg, hby, hsize, h48i2, hroom, Qkc, Addr.add_lit, hst]
      refine ⟨_, _, hr, ⟨hlen, .inr ⟨g, cap, _, rfl, hbg, setRow_heap w g cur _ e _ hg, hroom, hcm, ?_, ?_⟩⟩, ⟨rfl, rfl, rfl, by simp, fun k _ hk => setRow_other w g k _ (fun e => hk (by simp [Value.ownBlock, e]))⟩⟩
      · simp only [List.size_toArray, List.length_append, List.length_take, List.length_drop, Array.length_toList, Qdc]; omega
      · have ht' : cur.toList.take n = xs := by simpa using htake
        rw [ht', <- hlen]; exact List.take_left
    · have holds : ∀ j u, xs[j]? = some u -> w.cell? ((⟨g, 0, none⟩ : Addr).add j) = some u := hown.cells (g := g) rfl; have hfo := run_firstCells_some (P := P) w.drew i.size n ⟨g, 0, none⟩ n cap xs (by rw [hsize, hxl, Nat.mul_one]) (by simpa using holds); have hr := Lib.run_append_grow_zeros (P := P) w t tn ty e i (.int .u8 0) .i64 kn ht htn hi hz (some ⟨g, 0, none⟩) n cap xs hfo k h0 (by omega) (by omega) (by omega) (by rw [hby]; omega) (by rw [hby]; exact growslice_fits (by omega) (by omega)); rw [Qkc, Qkc] at hr; have hgr := grown cap (Value.ownBlock (.slice (some ⟨g, 0, none⟩) n cap)); exact ⟨_, _, hr, hgr.1, hgr.2⟩
theorem Qxu (hg : o.guard = none) (s x : Operand) (t tn : TypeId) (hop : o.op = Op.call { callee := Callee.builtin Builtin.append, args := #[s, x], argTypes := #[t, tn] })
    (e : TypeId) (kn : IntKind) (ht : P.underlying t = some (.slice e)) (htn : P.underlying tn = some (.int kn)) (hi : (P.info? e).map (fun i => (i.zero, i.size, i.bytes)) = some (some (.int .u8 0), 1, 1))
    (base : Nat) (v : Value) (n : Nat) (xs : List UInt8) (hs : a.eval s = v) (hown : w.ownsRow base e 1 v n (toV xs))
    (k : Nat) (hx : a.eval x = .int .i64 (k : Int)) (h0 : 0 < k) (hz : n + k <= 140737488355328) (hbase : base <= w.heap.size)
    (hK : ∀ v' w', w'.ownsRow base e 1 v' (n + k) (toV (xs ++ List.replicate k 0)) -> w.grownBy w' v.ownBlock -> wpList P ops Q rest (a.put o.dst v') w') :
    wpList P ops Q (o :: rest) a w := by
  obtain ⟨i, hi0, hi1⟩ := Option.map_eq_some_iff.1 hi; simp only [Prod.mk.injEq] at hi1; obtain ⟨v', w', hr, h1, h2⟩ := Qhg (P := P) w base t tn o.type e i kn ht htn hi0 hi1.1 hi1.2.1 hi1.2.2 v n (toV xs) hown k h0 hz hbase; rw [Qeo, <- Quc] at h1; exact Lib.wpList_append_run w hg s x t tn hop v _ hs hx v' w' hr (hK v' w' h1 h2)
end
end
theorem info8 : (Try.prog.info? 5).map (fun i => (i.zero, i.size, i.bytes)) = some (some (.int .u8 0), 1, 1) := by kernel_rfl
theorem info8s : (Try.prog.info? 5).map (·.size) = some 1 := by kernel_rfl
set_option linter.unusedVariables false
theorem text_row {w : World} {base g len cap : Nat} {e : TypeId} {bs : List UInt8} {s : ByteArray} (h : s.size <= 255)
    (hw : w.ownsRow base e 1 (.slice (some ⟨g, 0, none⟩) (len + 1 + s.size) cap) (len + 1 + s.size) (toV bs ++ Value.int .u8 (s.size : Int) :: Lib.strCells s)) :
    w.ownsRow base e 1 (.slice (some ⟨g, 0, none⟩) (len + (1 + s.size)) cap) (len + (1 + s.size)) (toV (bs ++ Qjd s.data.toList)) := by
  have e1 : toV (bs ++ Qjd s.data.toList) = toV bs ++ Value.int .u8 (s.size : Int) :: Lib.strCells s := by
    have e2 : ((UInt8.ofNat s.data.toList.length).toNat : Int) = (s.size : Int) := by
      rw [Qvb]; simp; omega
    simp only [toV, Qjd, List.map_append, List.map_cons, e2, Lib.strCells]
  rw [e1, <- Nat.add_assoc]; exact hw
structure Mv (g : Nat) (w w' : World) : Prop where
  below : Below g w w'
  rows : ∀ k t cs, k ≠ g -> t ≠ 5 -> Qb w k t cs -> Qb w' k t cs
theorem Mv.refl (g : Nat) (w : World) : Mv g w w := ⟨Below.refl _ _, fun _ _ _ _ _ h => h⟩
theorem Mv.trans {g : Nat} {w x y : World} (h : Mv g w x) (k : Mv g x y) : Mv g w y := ⟨h.below.trans k.below, fun a t cs h1 h2 h3 => k.rows a t cs h1 h2 (h.rows a t cs h1 h2 h3)⟩
theorem Mv.later {g : Nat} {w x : World} (hg : g <= w.heap.size) (h : Below w.heap.size w x) : Mv g w x := ⟨h.mono hg, fun k t cs _ _ hr => hr.later h⟩
def Aside (g : Nat) (l : List (Nat × TypeId × Array Value)) : Prop := ∀ e ∈ l, e.1 ≠ g /\ e.2.1 ≠ 5
theorem Has.moved {g : Nat} {x y : World} (h : Mv g x y) : ∀ {l : List (Nat × TypeId × Array Value)}, Aside g l -> Has x l -> Has y l
  | [], _, _ => trivial
  | e :: l, ha, hh => ⟨h.rows _ _ _ (ha e (by simp)).1 (ha e (by simp)).2 hh.1, Has.moved h (fun e he => ha e (by simp [he])) hh.2⟩
theorem own_shape {w : World} {base n : Nat} {e : TypeId} {v : Value} {xs : List Value} (h : w.ownsRow base e 1 v n xs) : ∃ a c, v = .slice a n c := by
  rcases h.2 with ⟨h1, h2⟩ | ⟨g', cap, cur, h2, _⟩
  · exact ⟨none, 0, by rw [h1, h2]⟩
  · exact ⟨_, _, h2⟩
theorem textB_len (s : ByteArray) : (Qjd s.data.toList).length = 1 + s.size := by
  unfold Qjd; rw [List.length_cons, Qkb]; omega
theorem isB_nil (w : World) : IsB w none 0 [] := ⟨rfl, fun h => absurd h (by omega)⟩
theorem Qr {P : Program} {ops : Array Oper} {rest : List Oper} {o : Oper} {a : Act} {w : World} {Q : Exit -> Act -> World -> Prop} (hw : Region.wanted o (yielded ops a.tmps) = true) (t : TypeId) (x : Operand) (ho : o.op = .load t x) (u v : Value) (hu : a.eval x = u) (hv : (Instr.loadAt t u).run P w = .ok v w)
    (h : wpList P ops Q rest (a.put o.dst v) w) : wpList P ops Q (o :: rest) a w :=
  Qwf hw v (by unfold execOp; simp only [ho, hu, Sem.run_bind, hv, Result.andThen_ok, Sem.run_pure]) h
set_option linter.unusedVariables false
set_option linter.unusedVariables false
def rdB (v : Value) (k : Nat) (e : Int) (r : Rec) (va vb : Value) : Array Value := #[v, .int .i64 (k : Int), .int .i64 e, .int .i64 r.k, .int .u64 (r.l : Int), .int .i64 r.t, .int .u64 (r.p : Int), .int .i64 r.c.k, .int .i64 r.c.pg, .int .i64 r.c.sl, .string r.c.o, .string r.c.n, .int .u64 (r.n : Int), .int .i64 r.s, .int .u64 (r.b : Int), va, vb]
theorem isB_grown {w x : World} {a : Option Addr} {len g : Nat} {bs : List UInt8} (h : IsB w a len bs) (hg : w.grownBy x (some g)) (hn : 0 < len -> ∀ y, a = some y -> y.block ≠ g) : IsB x a len bs := by
  refine ⟨h.1, fun hp => ?_⟩; obtain ⟨b, off, ha, hlt, hc⟩ := h.2 hp; refine ⟨b, off, ha, Nat.lt_of_lt_of_le hlt hg.size, fun j hj => ?_⟩; rw [World.cell?_of_block (a := ⟨b, off + j, none⟩) (hg.block b hlt (fun e => hn hp _ ha (by cases e; rfl)))]; exact hc j hj
theorem apart_ne {len g : Nat} {a : Option Addr} (h : 0 < len -> ∀ x, a = some x -> x.block < g) : 0 < len -> ∀ x, a = some x -> x.block ≠ g := fun hp x hx => Nat.ne_of_lt (h hp x hx)
theorem row_grown {w x : World} {g k : Nat} {t : TypeId} {cs : Array Value} (h : Qb w k t cs) (hg : w.grownBy x (some g)) (hn : k ≠ g) : Qb x k t cs := (hg.block k h.lt (fun e => hn (by cases e; rfl))).trans h
theorem grown_none {w x : World} (h : w.grownBy x none) : Below w.heap.size w x := ⟨h.os, h.tape, h.output, h.size, fun k hk => h.block k hk (by simp)⟩
theorem of_below {w x : World} {o : Option Nat} (h : Below w.heap.size w x) : w.grownBy x o := ⟨h.os, h.tape, h.output, h.size, fun k hk _ => h.block k hk⟩
theorem num_zero {k : Nat} {s : St} (h : (Qxa k s).2.e ≠ 0) : (Qxa k s).1 = 0 := by
  unfold Qxa at h |-
  by_cases he : s.e ≠ 0
  · rw [if_pos he]
  · rw [if_neg he] at h |-
    by_cases hk : k <= s.l.length
    · rw [if_pos hk] at h; exact absurd rfl h
    · rw [if_neg hk]
theorem text_zero {s : St} (h : (Qrc s).2.e ≠ 0) : (Qrc s).1 = ⟨#[]⟩ := by
  unfold Qrc at h |-
  by_cases he : s.e ≠ 0
  · rw [if_pos he]
  · rw [if_neg he] at h |-
    cases hs : s.l with
    | nil => rfl
    | cons b l =>
      rw [hs] at h; simp only at h |-
      by_cases hk : b.toNat <= l.length
      · rw [if_pos hk] at h; exact absurd rfl h
      · rw [if_neg hk]
theorem Qas (k : Nat) (s : St) : (Qxa k s).1 < 256 ^ k := by
  have hp : 0 < 256 ^ k := Nat.pow_pos (by omega); unfold Qxa
  by_cases he : s.e ≠ 0
  · rw [if_pos he]; exact hp
  · rw [if_neg he]
    by_cases hk : k <= s.l.length
    · rw [if_pos hk]; have h := Qau (s.l.take k); rw [List.length_take, Nat.min_eq_left hk] at h; exact h
    · rw [if_neg hk]; exact hp
theorem in_val (lo hi : Nat) (s : St) : (pIn lo hi s).1 = (Qxa 1 s).1 := by
  unfold pIn; split <;> rfl
def cntN (m : Nat) (s : St) : Nat := if (pIn 0 m s).2.e = 0 then (pIn 0 m s).1 else 0
def Off (g : Nat) (l : List (Nat × TypeId × Array Value)) : Prop := ∀ e ∈ l, e.1 ≠ g
theorem has_grown {g : Nat} {x y : World} (h : x.grownBy y (some g)) : ∀ {l : List (Nat × TypeId × Array Value)}, Off g l -> Has x l -> Has y l
  | [], _, _ => trivial
  | e :: l, ha, hh => ⟨row_grown hh.1 h (ha e (by simp)), has_grown h (fun e he => ha e (by simp [he])) hh.2⟩
theorem conv_i64 (n : Nat) (h : n < 9223372036854775808) : IntKind.i64.wrap (n : Int) = (n : Int) := by
  rw [IntKind.wrap_i64]; omega
def itS {α : Type} (p : St -> α × St) : Nat -> St -> St
  | 0, s => s
  | n + 1, s => itS p n (p s).2
def itL {α : Type} (p : St -> α × St) : Nat -> St -> List α
  | 0, _ => []
  | n + 1, s => (p s).1 :: itL p n (p s).2
theorem itS_more {α : Type} (p : St -> α × St) : ∀ n s, itS p (n + 1) s = (p (itS p n s)).2
  | 0, _ => rfl
  | n + 1, s => itS_more p n (p s).2
theorem itL_more {α : Type} (p : St -> α × St) : ∀ n s, itL p (n + 1) s = itL p n s ++ [(p (itS p n s)).1]
  | 0, _ => rfl
  | n + 1, s => by
    show (p s).1 :: itL p (n + 1) (p s).2 = _; rw [itL_more p n (p s).2]; rfl
theorem Qku {α : Type} (p : St -> α × St) : ∀ n s, (itL p n s).length = n
  | 0, _ => rfl
  | n + 1, s => by
    show (itL p n (p s).2).length + 1 = n + 1; rw [Qku p n]
theorem Qoo {α : Type} {p : St -> α × St} (hp : Good p) : ∀ n s, s.e ≠ 0 -> itS p n s = s
  | 0, _, _ => rfl
  | n + 1, s, h => by
    show itS p n (p s).2 = s; rw [hp.stick s h]; exact Qoo hp n s h
theorem some_it {α : Type} {p : St -> α × St} (hp : Good p) : ∀ n s, (Qua p n s).2 = itS p n s /\ ((Qua p n s).2.e = 0 -> (Qua p n s).1 = itL p n s)
  | 0, _ => ⟨rfl, fun _ => rfl⟩
  | n + 1, s => by
    by_cases h : s.e ≠ 0
    · have e : Qua p (n + 1) s = ([], s) := by rw [Qua, if_pos h]
      rw [e, Qoo hp (n + 1) s h]; exact ⟨rfl, fun h2 => absurd h2 h⟩
    · have e : Qua p (n + 1) s = ((p s).1 :: (Qua p n (p s).2).1, (Qua p n (p s).2).2) := by rw [Qua, if_neg h]
      have ih := some_it hp n (p s).2; rw [e]; refine ⟨ih.1, fun h2 => ?_⟩; show (p s).1 :: (Qua p n (p s).2).1 = (p s).1 :: itL p n (p s).2; rw [ih.2 h2]
theorem own_ne {w x : World} {T : TypeId} {sz : Nat} {v : Value} {n : Nat} {xs : List Value} (h : x.ownsRow w.heap.size T sz v n xs) {k : Nat} (hk : k < w.heap.size) : some k ≠ v.ownBlock := fun e => by
  have := (h.lt k e.symm).1; omega
theorem Qsu (w : World) {P : Program} {ops : Array Oper} {rest : List Oper} {o : Oper} {a : Act} {Q : Exit -> Act -> World -> Prop} (hg : o.guard = none) (s x : Operand) (t e : TypeId) (hop : o.op = Op.call { callee := Callee.builtin Builtin.append, args := #[s, x], argTypes := #[t, t] })
    (z : Array Value) (sz by' : Nat) (ht : P.underlying t = some (.slice e)) (hi : (P.info? e).map (fun i => (i.zero, i.size, i.bytes)) = some (some (.agg z), sz, by')) (hzs : z.size = sz) (hsz : 0 < sz)
    (base : Nat) (v : Value) (n : Nat) (xs : List Value) (hs : a.eval s = v) (hown : w.ownsRow base e sz v n xs)
    (b : Nat) (c : Array Value) (hc : c.size = sz) (h1 : c.all (·.oneCell') = true) (hx : a.eval x = .slice (some ⟨b, 0, none⟩) 1 1) (hB : Qb w b e c) (hn : n <= 1000) (hby : by' <= 1000) (hbase : base <= w.heap.size)
    (hK : ∀ v' w', w'.ownsRow base e sz v' (n + 1) (xs ++ c.toList) -> w.grownBy w' v.ownBlock -> wpList P ops Q rest (a.put o.dst v') w') :
    wpList P ops Q (o :: rest) a w := by
  obtain ⟨i, hi0, hi1⟩ := Option.map_eq_some_iff.1 hi; simp only [Prod.mk.injEq] at hi1
  refine wpList_append_own w hg s x t hop base e i (.agg z) sz by' ht hi0 hi1.1 hi1.2.1 hi1.2.2 hzs hsz v n xs hs hown ⟨b, 0, none⟩ 1 1 c.toList hx (by rw [Array.length_toList, hc, Nat.one_mul]) ?_ ?_ (by unfold maxLen; omega) ?_ hbase (fun v' w' h1 h2 _ => hK v' w' h1 h2)
  · intro j u hu; rw [Array.getElem?_toList] at hu; rw [Addr.add_lit, Nat.zero_add]; exact hB.cell j u hu
  · intro u hu; rw [Array.all_eq_true'] at h1; exact h1 u (by simpa using hu)
  · have : (n + 1) * by' <= 1001 * 1000 := Nat.mul_le_mul (by omega) hby
    omega
theorem row_new2 (w : World) (t : TypeId) (cs : Array Value) {g : Nat} (hg : w.heap.size = g) : Qb (w.alloc (.cells cs t)) g t cs := by
  subst hg; exact Qb.new w t cs
theorem infoTx3 : (Try.prog.info? 84).map (fun i => (i.zero, i.size, i.bytes)) = some (some (.agg #[.int .i64 0, .int .i64 0, .int .u64 0, .int .u64 0, .int .u64 0]), 5, 40) := by kernel_rfl
theorem infoDi3 : (Try.prog.info? 86).map (fun i => (i.zero, i.size, i.bytes)) = some (some (.agg #[.int .i64 0, .int .u64 0]), 2, 16) := by kernel_rfl
def Qzw (ts : List Tx) : List Value := ts.flatMap fun x => (txA x).toList
def flatD (ts : List Di) : List Value := ts.flatMap fun x => (diA x).toList
set_option linter.unusedVariables false
set_option linter.unusedVariables false
theorem grown_setch {w x : World} {g : Nat} (h : w.grownBy x (some g)) (c : Ch) : w.grownBy (x.setCells g 7 (chA c).toList) (some g) := Qgf _ (Qgf _ (Qgf _ (Qgf _ (Qgf _ h))))
theorem own_shape5 {w : World} {base n sz : Nat} {e : TypeId} {v : Value} {xs : List Value} (h : w.ownsRow base e sz v n xs) : ∃ a c, v = .slice a n c := by
  rcases h.2 with ⟨h1, h2⟩ | ⟨g', cap, cur, h2, _⟩
  · exact ⟨none, 0, by rw [h1, h2]⟩
  · exact ⟨_, _, h2⟩
theorem own_mono {w : World} {base base' n sz : Nat} {e : TypeId} {v : Value} {xs : List Value} (h : w.ownsRow base e sz v n xs) (hb : base' <= base) : w.ownsRow base' e sz v n xs := by
  refine ⟨h.1, h.2.imp id ?_⟩; rintro ⟨g', cap, cur, h2, h3, h4⟩; exact ⟨g', cap, cur, h2, Nat.le_trans hb h3, h4⟩
def recRest (k : Nat) : St -> Rec × St := Qgb (Qxa 8) fun l => Qgb (Qxa 4) fun t => Qgb (Qxa 8) fun p => Qgb (Qoi (k <= 2) Ch.zero pCh) fun c => Qgb (Qoi (k = 2) 0 (Qxa 8)) fun n => Qgb (Qoi (k = 6) 0 (Qxa 1)) fun s =>
    Qgb (Qoi (k = 8) (0, [], []) Qtd) fun x => Qvi ⟨k, l, t, p, c, n, s, x.1, x.2.1, x.2.2⟩
theorem rec_rest (s : St) : Qkl s = recRest (pIn 1 8 s).1 (pIn 1 8 s).2 := rfl
theorem Good.rest (k : Nat) : Good (recRest k) := (Good.num 8).bind fun _ => (Good.num 4).bind fun _ => (Good.num 8).bind fun _ => (Good.may Good.ch).bind fun _ => (Good.may (Good.num 8)).bind fun _ => (Good.may (Good.num 1)).bind fun _ => (Good.may Good.check).bind fun _ => Good.pure _
theorem kind_bad {s : St} (hs : s.e = 0) (h : (pIn 1 8 s).2.e ≠ 0) : (pIn 1 8 s).1 < 1 ∨ 8 < (pIn 1 8 s).1 := by
  rw [in_val]
  by_cases h1 : (Qxa 1 s).2.e = 0
  · by_cases hb : (Qxa 1 s).1 < 1 ∨ 8 < (Qxa 1 s).1
    · exact hb
    · have e : pIn 1 8 s = Qxa 1 s := by unfold pIn; rw [if_neg (fun h => hb h.2)]
      rw [e] at h; exact absurd h1 h
  · rw [num_zero h1]; omega
theorem kind_good {s : St} (h : (pIn 1 8 s).2.e = 0) : 1 <= (pIn 1 8 s).1 /\ (pIn 1 8 s).1 <= 8 := by
  by_cases hb : (Qxa 1 s).2.e = 0 /\ ((Qxa 1 s).1 < 1 ∨ 8 < (Qxa 1 s).1)
  · have e : pIn 1 8 s = ((Qxa 1 s).1, ⟨(Qxa 1 s).2.l, 2⟩) := by unfold pIn; rw [if_pos hb]
    rw [e] at h; cases h
  · have e : pIn 1 8 s = Qxa 1 s := by unfold pIn; rw [if_neg hb]
    rw [e] at h |-
    by_cases h2 : (Qxa 1 s).1 < 1 ∨ 8 < (Qxa 1 s).1
    · exact absurd ⟨h, h2⟩ hb
    · omega
theorem cnt_some {α : Type} {p : St -> α × St} (hp : Good p) (m : Nat) (s : St) : (Qua p (pIn 0 m s).1 (pIn 0 m s).2).2 = itS p (cntN m s) (pIn 0 m s).2 /\ ((Qua p (pIn 0 m s).1 (pIn 0 m s).2).2.e = 0 -> (Qua p (pIn 0 m s).1 (pIn 0 m s).2).1 = itL p (cntN m s) (pIn 0 m s).2) := by
  by_cases h : (pIn 0 m s).2.e = 0
  · have e : cntN m s = (pIn 0 m s).1 := by unfold cntN; rw [if_pos h]
    rw [e]; exact some_it hp _ _
  · have e : cntN m s = 0 := by unfold cntN; rw [if_neg h]
    rw [e, (Good.some hp _).stick _ h]; exact ⟨rfl, fun h2 => absurd h2 h⟩
set_option linter.unusedVariables false
set_option linter.unusedVariables false
set_option linter.unusedVariables false
set_option linter.unusedVariables false
set_option linter.unusedVariables false
set_option linter.unusedVariables false
set_option linter.unusedVariables false
set_option linter.unusedVariables false
set_option linter.unusedVariables false
theorem wf_i64n (n : Nat) (h : n < 9223372036854775808) : (Lit.int .i64 (n : Int)).wf = true := by
  rw [<- conv_i64 n h]; exact wf_wrap _ _
theorem wf_u64n (n : Nat) (h : n < 18446744073709551616) : (Lit.int .u64 (n : Int)).wf = true := by
  have e : IntKind.u64.wrap (n : Int) = (n : Int) := by rw [IntKind.wrap_u64]; omega
  rw [<- e]; exact wf_wrap _ _
theorem Qkr (s : St) : (Qrc s).1.size <= 255 := by
  unfold Qrc
  by_cases he : s.e ≠ 0
  · rw [if_pos he]; exact Nat.zero_le _
  · rw [if_neg he]
    cases hs : s.l with
    | nil => exact Nat.zero_le _
    | cons b l =>
      simp only
      by_cases hk : b.toNat <= l.length
      · rw [if_pos hk]; show (l.take b.toNat).toArray.size <= 255; rw [List.size_toArray, List.length_take]; have := b.toNat_lt; omega
      · rw [if_neg hk]; exact Nat.zero_le _
theorem Qzl (w : Nat) (hw : w <= 4) (s : St) : (Lit.int .i64 ((Qxa w s).1 : Int)).wf = true := by
  have h := Qas w s; have h2 : 256 ^ w <= 256 ^ 4 := Nat.pow_le_pow_right (by omega) hw; exact wf_i64n _ (by omega)
theorem Qmm (w : Nat) (hw : w <= 8) (s : St) : (Lit.int .u64 ((Qxa w s).1 : Int)).wf = true := by
  have h := Qas w s; have h2 : 256 ^ w <= 256 ^ 8 := Nat.pow_le_pow_right (by omega) hw; exact wf_u64n _ (by omega)
theorem ch_fits (s : St) : (pCh s).1.fits := by
  have hm : (255 : Nat) <= maxLen := by unfold maxLen; omega
  exact ⟨Qzl 1 (by omega) _, Qzl 2 (by omega) _, Qzl 1 (by omega) _, Nat.le_trans (Qkr _) hm, Nat.le_trans (Qkr _) hm⟩
theorem tx_fits (s : St) : (pTx s).1.fits := ⟨Qzl 4 (by omega) _, Qzl 1 (by omega) _, Qmm 8 (by omega) _, Qmm 8 (by omega) _, Qmm 8 (by omega) _⟩
theorem di_fits (s : St) : (pDi s).1.fits := ⟨Qzl 2 (by omega) _, Qmm 8 (by omega) _⟩
theorem Qdn {α : Type} {p : St -> α × St} {G : α -> Prop} (hp : ∀ s, G (p s).1) : ∀ n s, (∀ x ∈ (Qua p n s).1, G x) /\ (Qua p n s).1.length <= n
  | 0, _ => ⟨fun x hx => (nomatch hx), Nat.le_refl _⟩
  | n + 1, s => by
    by_cases h : s.e ≠ 0
    · have e : Qua p (n + 1) s = ([], s) := by rw [Qua, if_pos h]
      rw [e]; exact ⟨fun x hx => (nomatch hx), Nat.zero_le _⟩
    · have e : Qua p (n + 1) s = ((p s).1 :: (Qua p n (p s).2).1, (Qua p n (p s).2).2) := by rw [Qua, if_neg h]
      have ih := Qdn hp n (p s).2; rw [e]; refine ⟨fun x hx => ?_, by show _ + 1 <= _; exact Nat.succ_le_succ ih.2⟩
      rcases List.mem_cons.1 hx with rfl | hx
      · exact hp s
      · exact ih.1 x hx
theorem Qfr (q : Prop) [Decidable q] (s : St) : (Qoi q Ch.zero pCh s).1.fits := by
  unfold Qoi
  split
  · exact ch_fits s
  · exact Qwj
theorem check_all (q : Prop) [Decidable q] (s : St) : (∀ x ∈ (Qoi q (0, [], []) Qtd s).1.2.1, x.fits) /\ (Qoi q (0, [], []) Qtd s).1.2.1.length <= 255 /\ (∀ x ∈ (Qoi q (0, [], []) Qtd s).1.2.2, x.fits) /\ (Qoi q (0, [], []) Qtd s).1.2.2.length <= 255 := by
  unfold Qoi
  split
  · have h1 := Qdn (p := pTx) tx_fits (pIn 0 16 (Qxa 8 s).2).1 (pIn 0 16 (Qxa 8 s).2).2; have h2 := Qdn (p := pDi) di_fits (pIn 0 32 (Qua pTx (pIn 0 16 (Qxa 8 s).2).1 (pIn 0 16 (Qxa 8 s).2).2).2).1 (pIn 0 32 (Qua pTx (pIn 0 16 (Qxa 8 s).2).1 (pIn 0 16 (Qxa 8 s).2).2).2).2; have b1 : (pIn 0 16 (Qxa 8 s).2).1 <= 255 := by rw [in_val]; have := Qas 1 (Qxa 8 s).2; omega
    have b2 : (pIn 0 32 (Qua pTx (pIn 0 16 (Qxa 8 s).2).1 (pIn 0 16 (Qxa 8 s).2).2).2).1 <= 255 := by rw [in_val]; have := Qas 1 (Qua pTx (pIn 0 16 (Qxa 8 s).2).1 (pIn 0 16 (Qxa 8 s).2).2).2; omega
    exact ⟨h1.1, Nat.le_trans h1.2 b1, h2.1, Nat.le_trans h2.2 b2⟩
  · exact ⟨fun x hx => (nomatch hx), Nat.zero_le _, fun x hx => (nomatch hx), Nat.zero_le _⟩
theorem rec_fits (s : St) : (Qkl s).1.fits := by
  have hm : (255 : Nat) <= maxLen := by unfold maxLen; omega
  obtain ⟨c1, c2, c3, c4⟩ := check_all ((pIn 1 8 s).1 = 8) (Qoi ((pIn 1 8 s).1 = 6) 0 (Qxa 1) (Qoi ((pIn 1 8 s).1 = 2) 0 (Qxa 8) (Qoi ((pIn 1 8 s).1 <= 2) Ch.zero pCh (Qxa 8 (Qxa 4 (Qxa 8 (pIn 1 8 s).2).2).2).2).2).2).2; exact ⟨Qfr _ _, Nat.le_trans c2 hm, Nat.le_trans c4 hm, c1, c3⟩
theorem Qnc : Rec.zero.fits := ⟨Qwj, Nat.zero_le _, Nat.zero_le _, fun x hx => (nomatch hx), fun x hx => (nomatch hx)⟩
theorem dec_fits (b : List UInt8) : (Qol b).1.fits := by
  unfold Qol
  split
  · exact Qnc
  · split
    · exact Qnc
    · exact rec_fits _
def Qdh (base : Nat) (w : World) (r : Rec) (va vb : Value) : Prop := w.ownsRow base 84 5 va r.ts.length (Qzw r.ts) /\ w.ownsRow base 86 2 vb r.ds.length (flatD r.ds)
theorem Qdh.below {base : Nat} {w x : World} {r : Rec} {va vb : Value} (h : Qdh base w r va vb) (hb : Below w.heap.size w x) : Qdh base x r va vb := ⟨Qhh h.1 hb, Qhh h.2 hb⟩
theorem Qfj {α : Type} (f : α -> Array Value) (n : Nat) (hf : ∀ x, (f x).size = n) (z : α) : ∀ (xs : List α) (i j : Nat), i < xs.length -> j < n -> (xs.flatMap fun x => (f x).toList)[i * n + j]? = (f (xs.getD i z)).toList[j]?
  | [], i, _, h, _ => absurd h (by simp)
  | x :: xs, 0, j, _, hj => by
    rw [List.flatMap_cons, List.getElem?_append_left (by rw [Array.length_toList, hf]; omega), Nat.zero_mul, Nat.zero_add]; rfl
  | x :: xs, i + 1, j, h, hj => by
    have e : (i + 1) * n + j = (f x).toList.length + (i * n + j) := by rw [Array.length_toList, hf, Nat.add_mul, Nat.one_mul]; omega
    rw [List.flatMap_cons, e, List.getElem?_append_right (Nat.le_add_right _ _), Nat.add_sub_cancel_left]; exact Qfj f n hf z xs i j (by simpa using h) hj
theorem Qph {α : Type} (f : α -> Array Value) (z : α) (n : Nat) (hf : ∀ x, (f x).size = n) {w : World} {base : Nat} {e : TypeId} {v : Value} {xs : List α} (h : w.ownsRow base e n v xs.length (xs.flatMap fun x => (f x).toList)) : Qsd f z n w v xs := by
  rcases h.2 with ⟨h1, h2⟩ | ⟨g, cap, cur, h1, h2, h3, -⟩
  · exact ⟨none, 0, by rw [h1, h2], fun hp => absurd h2 (by omega)⟩
  · subst h1; refine ⟨_, cap, rfl, fun hp => ⟨g, 0, rfl, (Array.getElem?_eq_some_iff.1 h3).1, fun i hi j u hu => ?_⟩⟩
    have hj : j < n := by
      have := (List.getElem?_eq_some_iff.1 hu).1; rwa [Array.length_toList, hf] at this
    have hij : i * n + j < xs.length * n := by
      have h5 : (i + 1) * n <= xs.length * n := Nat.mul_le_mul_right n (by omega); rw [Nat.add_mul, Nat.one_mul] at h5; omega
    rw [Nat.zero_add, h.cellAt (i * n + j) hij, Qfj f n hf z xs i j hi hj]; exact hu
theorem Qdh.rc {base : Nat} {w : World} {r : Rec} {va vb : Value} (h : Qdh base w r va vb) : Qhd w r va vb := ⟨Qph txA Tx.zero 5 (fun _ => rfl) h.1, Qph diA Di.zero 2 (fun _ => rfl) h.2⟩
theorem Qb.setSame {w : World} {b : Nat} {t : TypeId} {cs : Array Value} (h : Qb w b t cs) (j : Nat) (v : Value) (hv : cs[j]? = some v) : Qb (w.setCell ⟨b, j, none⟩ v) b t cs := by
  have h2 := h.set j v
  have e : cs.setIfInBounds j v = cs := by
    apply Array.ext_getElem?; intro i; rw [Array.getElem?_setIfInBounds]
    split
    · rename_i hij; subst hij; rw [hv]; have := (Array.getElem?_eq_some_iff.1 hv).1; simp [this]
    · rfl
  rwa [e] at h2
end Go.Proofs.Ytohdmmfmjadipaa
