/-
  Texts that lean on one another, one behind the other: each opens with its own remark.
-/
import Derived.Deep.RegionHeld3
import Derived.WalkKit
import Derived.ArgAppend
import Derived.Test.YtbnlkfcaahgpmaaProg
import Derived.RegionTactic
import Derived.BigRegion
import Derived.Laws.IdiomCopy
import Derived.WalkSpells
import Derived.Laws.OwnMore
import Derived.WalkMore
import Derived.Test.YtbnlkfcaahgpmaaK08
import Derived.Test.YtbnlkfcaahgpmaaK06
import Derived.Test.YtbnlkfcaahgpmaaK07
import Derived.Test.YtbnlkfcaahgpmaaK05
import Derived.Test.YtbnlkfcaahgpmaaK00

/-
  What a call may turn: the blocks of a thing, and what is new. Of no program.
-/
namespace Go.Proofs.Ytbnlkfcaahgpmaa
open Go.RowKit
set_option linter.unusedVariables false

/-- One block. -/
def Is (g k : Nat) : Prop := k = g
/-- Only blocks of F, and what is new, was turned. -/
structure Tn (F : Nat → Prop) (w w' : World) : Prop where
  os : w'.os = w.os
  tape : w'.tape = w.tape
  output : w'.output = w.output
  size : w.heap.size ≤ w'.heap.size
  block : ∀ k, k < w.heap.size → ¬ F k → w'.heap[k]? = w.heap[k]?
theorem Tn.refl (F : Nat → Prop) (w : World) : Tn F w w := ⟨rfl, rfl, rfl, Nat.le_refl _, fun _ _ _ => rfl⟩
theorem Tn.trans {F G : Nat → Prop} {w x y : World} (p : Tn F w x) (q : Tn G x y) (h : ∀ k, G k → F k ∨ w.heap.size ≤ k) : Tn F w y :=
  ⟨q.os.trans p.os, q.tape.trans p.tape, q.output.trans p.output, Nat.le_trans p.size q.size, fun k hk hn => (q.block k (Nat.lt_of_lt_of_le hk p.size) (fun hg => by
    rcases h k hg with h1 | h1
    · exact hn h1
    · omega)).trans (p.block k hk hn)⟩
theorem Tn.then {F : Nat → Prop} {w x y : World} (p : Tn F w x) (q : Tn F x y) : Tn F w y := p.trans q (fun k h => .inl h)
theorem Tn.set {F : Nat → Prop} {w x : World} (p : Tn F w x) (g j : Nat) (v : Value) (h : F g) : Tn F w (x.setCell ⟨g, j, none⟩ v) :=
  ⟨p.os, p.tape, p.output, Nat.le_trans p.size ((Below.refl 0 x).setCell (Nat.zero_le _) v).size, fun i hi hn => (heap_setCell_other x ⟨g, j, none⟩ i v (fun e => hn (by rw [e]; exact h))).trans (p.block i hi hn)⟩
theorem Tn.drew {F : Nat → Prop} {w x : World} (p : Tn F w x) : Tn F w x.drew := ⟨p.os, p.tape, p.output, p.size, p.block⟩
theorem Tn.later {F : Nat → Prop} {w x y : World} (p : Tn F w x) (q : Below x.heap.size x y) : Tn F w y :=
  ⟨q.os.trans p.os, q.tape.trans p.tape, q.output.trans p.output, Nat.le_trans p.size q.size, fun i hi hn => (q.block i (Nat.lt_of_lt_of_le hi p.size)).trans (p.block i hi hn)⟩
theorem Tn.of_below {F : Nat → Prop} {w x : World} (q : Below w.heap.size w x) : Tn F w x := (Tn.refl F w).later q
theorem Tn.of_but {F : Nat → Prop} {w x : World} {g : Nat} (q : But g w x) (h : F g) : Tn F w x := ⟨q.os, q.tape, q.output, q.size, fun k hk hn => q.block k hk (fun e => hn (by rw [e]; exact h))⟩
theorem Tn.of_grown {F : Nat → Prop} {w x : World} {row : Option Nat} (q : w.grownBy x row) (h : ∀ k, row = some k → F k) : Tn F w x := ⟨q.os, q.tape, q.output, q.size, fun k hk hn => q.block k hk (fun e => hn (h k e.symm))⟩
theorem Tn.weak {F G : Nat → Prop} {w x : World} (p : Tn F w x) (h : ∀ k, F k → G k) : Tn G w x := ⟨p.os, p.tape, p.output, p.size, fun k hk hn => p.block k hk (fun e => hn (h k e))⟩
theorem Tn.below {F : Nat → Prop} {n : Nat} {w x : World} (p : Tn F w x) (h : ∀ k, F k → n ≤ k) (hs : n ≤ w.heap.size) : Below n w x := ⟨p.os, p.tape, p.output, p.size, fun i hi => p.block i (by omega) (fun hf => by have := h i hf; omega)⟩
theorem Tn.row {F : Nat → Prop} {w x : World} {k : Nat} {t : TypeId} {cs : Array Value} (p : Tn F w x) (hr : RowAt w k t cs) (h : ¬ F k) : RowAt x k t cs := (p.block k hr.lt h).trans hr
theorem row_kind {w : World} {k : Nat} {t u : TypeId} {cs ds : Array Value} (h : RowAt w k t cs) (h2 : RowAt w k u ds) : t = u := by
  have h3 : w.heap[k]? = some (.cells cs t (0, 0)) := h
  have h4 : w.heap[k]? = some (.cells ds u (0, 0)) := h2
  rw [h3] at h4
  injection h4 with h4
  injection h4 with _ h5
end Go.Proofs.Ytbnlkfcaahgpmaa

/-
  The contract of package wal's copied: a record with lists of its own.
-/
namespace Go.Proofs.Ytbnlkfcaahgpmaa
open Go.RowKit
set_option linter.unusedVariables false

/-- A list that lies there, put into a new one. -/
theorem run_append_new {α : Type} (f : α → Array Value) (zz : α) (sz : Nat) (hf : ∀ x, (f x).size = sz) (hsz : 0 < sz) {P : Program} (w : World) (t ty e : TypeId) (z : Array Value) (by' : Nat) (ht : P.underlying t = some (.slice e))
    (hi : (P.info? e).map (fun i => (i.zero, i.size, i.bytes)) = some (some (.agg z), sz, by')) (hzs : z.size = sz) (vx : Value) (ms : List α) (hr : RowsIn f zz sz w vx ms) (h1 : ∀ m ∈ ms, ∀ u ∈ (f m).toList, u.oneCell' = true) (hl : ms.length ≤ maxLen) (hb : ms.length * by' ≤ 140737488355328) :
    ∃ a c w', (Builtin.append_ #[t, t] ty #[.slice none 0 0, vx]).run P w = .ok (.slice a ms.length c) w' ∧ w'.ownsRow w.heap.size e sz (.slice a ms.length c) ms.length (ms.flatMap fun m => (f m).toList) ∧ w.grownBy w' none := by
  have hr' := hr
  obtain ⟨a, cap, rfl, hc⟩ := hr'
  cases a with
  | none =>
    have hm : ms = [] := by
      rcases ms with _ | ⟨m, ms⟩
      · rfl
      · obtain ⟨b, off, h, _⟩ := hc (by simp)
        cases h
    subst hm
    obtain ⟨i, hi0, hi1⟩ := Option.map_eq_some_iff.1 hi
    refine ⟨none, 0, w, ?_, World.ownsRow_nil _ _ _ _, ⟨rfl, rfl, rfl, Nat.le_refl _, fun _ _ _ => rfl⟩⟩
    simp [Builtin.append_, run_underlying ht, sizeOf, typeInfo, hi0, Builtin.lenOf, Builtin.firstCells]
  | some ad =>
    obtain ⟨v', w', r1, r2, r3⟩ := run_append_rows f zz sz hf hsz (P := P) w w.heap.size t ty e z by' ht hi hzs (.slice none 0 0) 0 [] (World.ownsRow_nil _ _ _ _) (.slice (some ad) ms.length cap) ms hr (fun a len c h ha => by injection h with h1; rw [ha] at h1; cases h1) h1 (by rw [Nat.zero_add]; exact hl) (by rw [Nat.zero_add]; exact hb) (Nat.le_refl _)
    rw [Nat.zero_add, List.nil_append] at r2
    have hv : ∃ a c, v' = .slice a ms.length c := by
      rcases r2.2 with ⟨h2, h3⟩ | ⟨g, c, cur, h2, _⟩
      · exact ⟨none, 0, by rw [h2, h3]⟩
      · exact ⟨_, c, h2⟩
    obtain ⟨a, c, rfl⟩ := hv
    exact ⟨a, c, w', r1, r2, r3⟩
theorem own_low {w : World} {base low n sz : Nat} {e : TypeId} {v : Value} {xs : List Value} (h : w.ownsRow base e sz v n xs) (hl : low ≤ base) : w.ownsRow low e sz v n xs := by
  refine ⟨h.1, ?_⟩
  rcases h.2 with h2 | ⟨g, c, cur, h2, h3, h4⟩
  · exact .inl h2
  · exact .inr ⟨g, c, cur, h2, Nat.le_trans hl h3, h4⟩
theorem grown_row {w x : World} (h : w.grownBy x none) {k : Nat} {t : TypeId} {cs : Array Value} (hr : RowAt w k t cs) : RowAt x k t cs := (h.block k hr.lt (by simp)).trans hr
theorem grown_below {w x : World} (h : w.grownBy x none) : Below w.heap.size w x := ⟨h.os, h.tape, h.output, h.size, fun k hk => h.block k hk (by simp)⟩

end Go.Proofs.Ytbnlkfcaahgpmaa

/-
  A log in memory: a list of records that came in, or that was made.
-/
namespace Go.Proofs.Ytbnlkfcaahgpmaa
open Go.RowKit
set_option linter.unusedVariables false

/-- A list of records: what a log is in memory. -/
structure LogIn (w : World) (v : Value) (ms : List (Rec × Value × Value)) : Prop where
  rs : RsIn w v ms
  few : ms.length ≤ 1000
  cap : ∀ a len c, v = .slice a len c → len ≤ c
theorem LogIn.below {w x : World} {v : Value} {ms : List (Rec × Value × Value)} (h : LogIn w v ms) (hb : Below w.heap.size w x) : LogIn x v ms := ⟨h.rs.below hb, h.few, h.cap⟩
theorem LogIn.slice {w : World} {v : Value} {ms : List (Rec × Value × Value)} (h : LogIn w v ms) : ∃ a c, v = .slice a ms.length c ∧ ms.length ≤ c := by
  obtain ⟨⟨⟨a, c, rfl, -⟩, -⟩, _, h3⟩ := h
  exact ⟨a, c, rfl, h3 _ _ _ rfl⟩
theorem slices15 {w : World} {r : Rec} {va vb : Value} (h : RcIn w r va vb) : (∃ a c, va = .slice a r.ts.length c) ∧ ∃ a c, vb = .slice a r.ds.length c := by
  obtain ⟨⟨a1, c1, e1, _⟩, ⟨a2, c2, e2, _⟩⟩ := h
  exact ⟨⟨a1, c1, e1⟩, a2, c2, e2⟩
theorem all15 {w : World} {m : Rec × Value × Value} (h : RcIn w m.1 m.2.1 m.2.2) : (rcF m).all (·.oneCell') = true := by
  obtain ⟨⟨a1, c1, h1⟩, a2, c2, h2⟩ := slices15 h
  obtain ⟨r, va, vb⟩ := m
  simp only at h1 h2
  subst h1 h2
  simp [rcF, rcA, Value.oneCell']
/-- A record of a log, in every later world. -/
theorem LogIn.mid {w : World} {a : Option Addr} {len c : Nat} {ms : List (Rec × Value × Value)} (h : LogIn w (.slice a len c) ms) {i : Nat} (hi : i < ms.length) : ∃ b off, a = some ⟨b, off, none⟩ ∧ (ms.getD i rcZ).1.fits ∧ (ms.getD i rcZ).1 = (msR ms).getD i Rec.zero ∧ ∀ x, Below w.heap.size w x → x.rangeAt b (off + i * 14) (rcF (ms.getD i rcZ)).toList ∧ RcIn x (ms.getD i rcZ).1 (ms.getD i rcZ).2.1 (ms.getD i rcZ).2.2 := by
  obtain ⟨b, off, h1, h2, h3, h4, h5⟩ := h.rs.at hi
  exact ⟨b, off, h1, h4, (msR_get ms i).symm, fun x hx => ⟨rangeAt_below h3 hx h2, h5.below hx⟩⟩
theorem msR_len (ms : List (Rec × Value × Value)) : (msR ms).length = ms.length := by simp [msR]
theorem msR_take (ms : List (Rec × Value × Value)) (i : Nat) : msR (ms.take i) = (msR ms).take i := by simp [msR, List.map_take]
theorem msR_mem {ms : List (Rec × Value × Value)} {i : Nat} (h : i < ms.length) : (ms.getD i rcZ).1 ∈ msR ms := by
  rw [← msR_get]
  exact getD_mem _ _ _ (by rw [msR_len]; exact h)
theorem take_snoc15 {α : Type} (xs : List α) (i : Nat) (z : α) (h : i < xs.length) : xs.take (i + 1) = xs.take i ++ [xs.getD i z] := by
  rw [List.take_add_one, List.getElem?_eq_getElem h, List.getD_eq_getElem?_getD, List.getElem?_eq_getElem h]
  rfl
theorem msR_take_succ {ms : List (Rec × Value × Value)} {i : Nat} (h : i < ms.length) : (msR ms).take (i + 1) = (msR ms).take i ++ [(ms.getD i rcZ).1] := by
  rw [take_snoc15 _ i Rec.zero (by rw [msR_len]; exact h), msR_get]
/-- A prefix that isn't a log makes the whole none. -/
theorem rise_append : ∀ (l m : List Rec) (a : Nat), Rise a (l ++ m) ↔ Rise a l ∧ Rise (lastL a l) m
  | [], m, a => ⟨fun h => ⟨trivial, h⟩, fun h => h.2⟩
  | q :: l, m, a => by
    have ih := rise_append l m q.l
    constructor
    · rintro ⟨h1, h2, h3⟩
      exact ⟨⟨h1, h2, (ih.1 h3).1⟩, (ih.1 h3).2⟩
    · rintro ⟨⟨h1, h2, h3⟩, h4⟩
      exact ⟨h1, h2, ih.2 ⟨h3, h4⟩⟩
theorem rise_take (l : List Rec) (i : Nat) (h : Rise 0 l) : Rise 0 (l.take i) := by
  rw [← List.take_append_drop i l] at h
  exact ((rise_append _ _ _).1 h).1
theorem riseB_of {l : List Rec} (q : Bool) (h : q = true ↔ Rise 0 l) : riseB 0 l = q := by
  rw [Bool.eq_iff_iff, riseB_iff]
  exact h.symm
end Go.Proofs.Ytbnlkfcaahgpmaa

/-
  The contract of txn.Good: whether records are a log.
-/
namespace Go.Proofs.Ytbnlkfcaahgpmaa
open Go.RowKit
set_option linter.unusedVariables false

set_option maxRecDepth 8000 in
set_option maxHeartbeats 3200000 in
theorem good15 (v : Value) (ms : List (Rec × Value × Value)) (w : World) (h : LogIn w v ms) :
    Calls Try.prog 15 #[v] w fun e w' => e = .returned (.bool (riseB 0 (msR ms))) ∧ Below w.heap.size w w' := by
  obtain ⟨q, hq⟩ : ∃ q, q = riseB 0 (msR ms) := ⟨_, rfl⟩
  have HQ : Hid (q = true ↔ Rise 0 (msR ms)) := by rw [hq]; exact riseB_iff _ _
  rw [← hq]
  clear hq
  have HA := hide h
  obtain ⟨aa, ca, rfl, hlc⟩ := h.slice
  have hl := h.few
  clear h
  obtain ⟨ln, hln⟩ : ∃ ln, ln = ms.length := ⟨_, rfl⟩
  rw [← hln] at HA hl hlc ⊢
  have HN := hide hln
  clear hln
  have ft : (4 : Int) = 4 := rfl
  go_enter Try.func15, Try.ntmps15
  go_wp2
  go_loopw [3, 8] (fun v i wr => ∃ (j ll : Nat), j ≤ ln ∧ i = .int .i64 (j : Int) ∧ v = .int .u64 (ll : Int) ∧ ll < 18446744073709551616 ∧ Hid (ll = lastL 0 ((msR ms).take j)) ∧ Hid (Rise 0 ((msR ms).take j)) ∧ Hid (Below w.heap.size w wr)) (fun _ i _ => ln - (intOf i).toNat)
  case atStart => exact ⟨0, 0, Nat.zero_le _, rfl, rfl, by decide, by rw [List.take_zero]; rfl, by rw [List.take_zero]; trivial, Below.refl _ _⟩
  case round =>
    obtain ⟨j, ll, hj, rfl, rfl, hll, HLL, HRI, HBR⟩ := hrel
    by_cases hlt : j < ln
    · have hjm : j < ms.length := by rw [← HN.out]; exact hlt
      have HS := hide (msR_take_succ hjm)
      obtain ⟨b, off, rfl, hf, _, hx⟩ := HA.out.mid hjm
      obtain ⟨m, hm⟩ : ∃ m, m = ms.getD j rcZ := ⟨_, rfl⟩
      rw [← hm] at hf hx HS
      clear hm
      have ij : (j : Int) < (ln : Int) := by omega
      obtain ⟨hr0, hin⟩ := hx wr HBR.out
      have HLD := hide (load_mid wr b (off + j * 14) m hr0)
      have hb1 : Below wr.heap.size wr (wr.alloc (.cells zeroA 30)) := (Below.refl _ _).alloc (Nat.le_refl _) _
      have HZ := hide (And.intro (RowAt.new wr 30 zeroA) hb1)
      have hall := all15 hin
      have HFX := hide (And.intro hf hx)
      clear hr0 hf hx hb1 hin
      go_wp2_with (first | (refine wpList_load_val rfl 30 (.tmp 10) rfl _ _ rfl HLD.out ?_) | (refine wpList_store_at rfl 30 (.tmp 5) (.tmp 11) rfl wr.heap.size zeroA (rcF m) rfl rfl HZ.out.1 infoRc rfl hall ?_; intro w2 hr2 hk2 hrow2; refine stop10 ?_))
      have hb2 := hk2 _ _ HZ.out.2 (Nat.le_refl _)
      have hbw := HBR.out.trans (hb2.mono HBR.out.size)
      have c1 := hr2.cell 1 (.int .u64 (m.1.l : Int)) rfl
      have H2 := hide (And.intro hr2 hbw)
      clear hr2 hk2 hrow2 hb2 HLD HZ
      refine unstop10 ?_
      by_cases hle : m.1.l ≤ ll
      · have ile : (m.1.l : Int) ≤ (ll : Int) := by omega
        go_wp2
        go_ret
        refine ⟨?_, H2.out.2⟩
        congr 2
        cases hq : q
        · rfl
        · exfalso
          have h1 := rise_take _ (j + 1) (HQ.out.1 hq)
          rw [HS.out, rise_snoc, ← HLL.out] at h1
          omega
      · have ile : ¬ (m.1.l : Int) ≤ (ll : Int) := by omega
        have HR := hide (rec_right_any m.1 m.2.1 m.2.2 w2 HFX.out.1 ((HFX.out.2 w2 hbw).2))
        clear hbw
        by_cases hr : m.1.right
        · rw [rightB_yes hr] at HR
          have hrl : m.1.l < 18446744073709551616 := by have := hr.lm; unfold maxP at this; omega
          go_wp2_with (refine wpList_load_at rfl 30 (.tmp 5) rfl wr.heap.size rfl (rcF m) H2.out.1 _ Try.underlying30 rfl infoRc ?_)
          refine HR.out.mono ?_
          rintro e w3 ⟨rfl, hb3⟩
          have k1 := (H2.out.1.later hb3).cell 1 (.int .u64 (m.1.l : Int)) rfl
          have HB3 := hide (H2.out.2.trans (hb3.mono H2.out.2.size))
          clear c1 hb3 HR
          go_wp2
          go_roundw
          case rel =>
            refine ⟨j + 1, m.1.l, by omega, by go_num, rfl, hrl, ?_, ?_, HB3⟩
            · rw [HS.out, last_snoc]
              exact rfl
            · rw [HS.out, rise_snoc, ← HLL.out]
              exact ⟨HRI.out, hr, by omega⟩
          case measure => simp [intOf]; omega
        · rw [rightB_no hr] at HR
          go_wp2_with (refine wpList_load_at rfl 30 (.tmp 5) rfl wr.heap.size rfl (rcF m) H2.out.1 _ Try.underlying30 rfl infoRc ?_)
          refine HR.out.mono ?_
          rintro e w3 ⟨rfl, hb3⟩
          have HB3 := hide (H2.out.2.trans (hb3.mono H2.out.2.size))
          clear c1 hb3 HR
          go_wp2
          go_ret
          refine ⟨?_, HB3.out⟩
          congr 2
          cases hq : q
          · rfl
          · exfalso
            have h1 := rise_take _ (j + 1) (HQ.out.1 hq)
            rw [HS.out, rise_snoc] at h1
            exact hr h1.2.1
    · obtain rfl : j = ln := by omega
      go_wp2
      go_ret
      refine ⟨?_, HBR.out⟩
      have h1 := HRI.out
      rw [HN.out, ← msR_len, List.take_length] at h1
      rw [HQ.out.2 h1]
      rfl
end Go.Proofs.Ytbnlkfcaahgpmaa

/-
  A region that draws its order, with loads of structs taken first. Of no program.
-/
namespace Go.Proofs.Ytbnlkfcaahgpmaa
set_option linter.unusedVariables false

section
variable {P : Program} {ops : Array Oper} {S : World → Prop} {a : Act} {o : Oper}

theorem yields_load (hw : Region.wanted o (yielded ops a.tmps) = true) (t : TypeId) (x : Operand) (ho : o.op = .load t x) (u v : Value) (hu : a.eval x = u) (hv : ∀ y, S y → (Instr.loadAt t u).run P y = .ok v y) : YieldsIf P ops S o v a :=
  Or.inl ⟨hw, fun y hy => by unfold execOp; simp only [ho, hu, Sem.run_bind, hv y hy, Result.andThen_ok, Sem.run_pure]⟩
end
end Go.Proofs.Ytbnlkfcaahgpmaa

/-
  The contract of the document's Get: the first record of a number.
-/
namespace Go.Proofs.Ytbnlkfcaahgpmaa
open Go.RowKit
set_option linter.unusedVariables false

theorem find_lt {l : List Rec} {n j : Nat} (h : ∀ i, i < j → (l.getD i Rec.zero).l ≠ n) (hj : j < l.length) (he : (l.getD j Rec.zero).l = n) : getT l n = some (l.getD j Rec.zero) := by
  unfold getT
  rw [List.find?_eq_some_iff_getElem]
  refine ⟨by simpa using he, j, hj, ?_, fun i hi => ?_⟩
  · rw [List.getD_eq_getElem?_getD, List.getElem?_eq_getElem hj]
    rfl
  · have h1 := h i hi
    rw [List.getD_eq_getElem?_getD, List.getElem?_eq_getElem (by omega)] at h1
    simpa using h1
theorem find_all {l : List Rec} {n : Nat} (h : ∀ i, i < l.length → (l.getD i Rec.zero).l ≠ n) : getT l n = none := by
  refine getT_none fun r hr => ?_
  obtain ⟨i, hi, rfl⟩ := List.mem_iff_getElem.1 hr
  have := h i hi
  rwa [List.getD_eq_getElem?_getD, List.getElem?_eq_getElem hi] at this
/-- What a look for a number answers: a record with its lists, or none. -/
def GetAns15 (l : List Rec) (n : Nat) (w : World) (e : Ending) (w' : World) : Prop := ∃ (m : Rec × Value × Value) (q : Bool), e = .returned (.tuple #[.agg (rcF m), .bool q]) ∧ ((q = true ∧ getT l n = some m.1) ∨ (q = false ∧ getT l n = none ∧ m.1 = Rec.zero)) ∧ m.1.fits ∧ RcIn w' m.1 m.2.1 m.2.2 ∧ Below w.heap.size w w'
theorem zero_in15 (w : World) : RcIn w Rec.zero (.slice none 0 0) (.slice none 0 0) := ⟨⟨none, 0, rfl, fun h => absurd h (by simp [Rec.zero])⟩, ⟨none, 0, rfl, fun h => absurd h (by simp [Rec.zero])⟩⟩
theorem zero_fits15 : Rec.zero.fits := ⟨⟨by decide, by decide, by decide, by show (0 : Nat) ≤ maxLen; omega, by show (0 : Nat) ≤ maxLen; omega⟩, Nat.zero_le _, Nat.zero_le _, fun x hx => (nomatch hx), fun x hx => (nomatch hx)⟩
theorem rcZ_cells : rcF rcZ = zeroA := rfl

set_option maxRecDepth 8000 in
set_option maxHeartbeats 3200000 in
theorem rget15 (v : Value) (ms : List (Rec × Value × Value)) (n : Nat) (w : World) (h : LogIn w v ms) :
    Calls Try.prog 11 #[v, .int .u64 (n : Int)] w (GetAns15 (msR ms) n w) := by
  have hb0 : Below w.heap.size w (w.alloc (.cells zeroA 30)) := (Below.refl _ _).alloc (Nat.le_refl _) _
  obtain ⟨gR, hgR⟩ : ∃ g, g = w.heap.size := ⟨_, rfl⟩
  have H0 : Hid (RowAt (w.alloc (.cells zeroA 30)) gR 30 zeroA ∧ Below w.heap.size w (w.alloc (.cells zeroA 30))) := by
    rw [hgR]
    exact ⟨RowAt.new w _ _, hb0⟩
  clear hb0
  have HA := hide h
  obtain ⟨aa, ca, rfl, hlc⟩ := h.slice
  have hl := h.few
  clear h
  obtain ⟨ln, hln⟩ : ∃ ln, ln = ms.length := ⟨_, rfl⟩
  rw [← hln] at HA hl hlc ⊢
  have HN := hide hln
  clear hln
  have HGR := hide hgR
  go_enter Try.func11, Try.ntmps11
  go_wp2
  refine gen_wp (fun x => RowAt x gR 30 zeroA ∧ Below w.heap.size w x) H0.out ?_
  intro y HY
  have HYY := hide HY
  clear HY H0
  rw [← hgR]
  clear hgR
  go_loopw [9] (fun i wr => ∃ (j : Nat), j ≤ ln ∧ i = .int .i64 (j : Int) ∧ Hid (∀ k, k < j → ((msR ms).getD k Rec.zero).l ≠ n) ∧ Hid (RowAt wr gR 30 zeroA ∧ Below w.heap.size w wr)) (fun i _ => ln - (intOf i).toNat)
  case atStart => exact ⟨0, Nat.zero_le _, rfl, fun k hk => absurd hk (by omega), HYY.out⟩
  case round =>
    obtain ⟨j, hj, rfl, HNO, HBR⟩ := hrel
    by_cases hlt : j < ln
    · have hjm : j < ms.length := by rw [← HN.out]; exact hlt
      obtain ⟨b, off, rfl, hf, he, hx⟩ := HA.out.mid hjm
      obtain ⟨m, hm⟩ : ∃ m, m = ms.getD j rcZ := ⟨_, rfl⟩
      rw [← hm] at hf hx he
      clear hm
      have ij : (j : Int) < (ln : Int) := by omega
      obtain ⟨hr0, hin⟩ := hx wr HBR.out.2
      have c1 : wr.cell? ⟨b, off + j * 14 + 1, none⟩ = some (.int .u64 (m.1.l : Int)) := hr0 1 _ rfl
      have HLD := hide (load_mid wr b (off + j * 14) m hr0)
      have hall := all15 hin
      have HE := hide he
      have HF := hide (And.intro hf hx)
      clear hr0 hx hf he hin
      by_cases hn : m.1.l = n
      · have ibe : ((m.1.l : Int) == (n : Int)) = true := by rw [hn]; simp
        go_wp2_with (first | (refine wpList_load_val rfl 30 (.tmp 21) rfl _ _ rfl HLD.out ?_) | (refine wpList_store_at rfl 30 (.tmp 4) (.tmp 22) rfl gR zeroA (rcF m) rfl rfl HBR.out.1 infoRc rfl hall ?_; intro w2 hr2 hk2 hrow2; refine stop10 ?_))
        have hb2 := hk2 _ _ HBR.out.2 (by rw [HGR.out]; exact Nat.le_refl _)
        have H2 := hide (And.intro hr2 hb2)
        clear hr2 hk2 hrow2 hb2
        refine unstop10 ?_
        go_wp2
        refine bodyPost_ret (res_at rfl _ _ gR (rcF m) _ rfl H2.out.1 Try.underlying30 rfl infoRc) rfl ⟨m, true, rfl, .inl ⟨rfl, ?_⟩, HF.out.1, (HF.out.2 w2 H2.out.2).2, H2.out.2⟩
        rw [find_lt (j := j) HNO.out (by rw [msR_len]; exact hjm) (by rw [← HE.out]; exact hn), ← HE.out]
      · have ibe : ((m.1.l : Int) == (n : Int)) = false := by simp; omega
        go_wp2
        go_roundw
        case rel =>
          refine ⟨j + 1, by omega, by go_num, fun k hk => ?_, HBR⟩
          by_cases hkj : k < j
          · exact HNO.out k hkj
          · obtain rfl : k = j := by omega
            rw [← HE.out]
            exact hn
        case measure => simp [intOf]; omega
    · obtain rfl : j = ln := by omega
      go_wp2_with (refine wpList_store_at rfl 30 (.tmp 4) (.tmp 24) rfl gR zeroA zeroA rfl rfl HBR.out.1 infoRc rfl (by simp [zeroA, Value.oneCell']) ?_; intro w2 hr2 hk2 hrow2; refine stop10 ?_)
      have hb2 := hk2 _ _ HBR.out.2 (by rw [HGR.out]; exact Nat.le_refl _)
      have H2 := hide (And.intro hr2 hb2)
      clear hr2 hk2 hrow2 hb2
      refine unstop10 ?_
      go_wp2
      refine bodyPost_ret (res_at rfl _ _ gR zeroA _ rfl H2.out.1 Try.underlying30 rfl infoRc) rfl ⟨rcZ, false, rfl, .inr ⟨rfl, ?_, rfl⟩, zero_fits15, zero_in15 _, H2.out.2⟩
      refine find_all fun i hi => HNO.out i ?_
      rw [msR_len] at hi
      rw [HN.out]
      exact hi
end Go.Proofs.Ytbnlkfcaahgpmaa

/-
  Frames cut off anywhere: what is scanned of them. Plain facts, of no program.
-/
namespace Go.Proofs.Ytbnlkfcaahgpmaa
open Go.RowKit
set_option linter.unusedVariables false

theorem framesB_append (a b : List Rec) : framesB (a ++ b) = framesB a ++ framesB b := by simp [framesB]
theorem framesB_cons (r : Rec) (rs : List Rec) : framesB (r :: rs) = frameB r ++ framesB rs := by simp [framesB]
theorem rise_first : ∀ (rs : List Rec) (a i : Nat), Rise a rs → Rise a (rs.take i)
  | _, _, 0, _ => by rw [List.take_zero]; trivial
  | [], _, _ + 1, _ => trivial
  | r :: rs, a, i + 1, h => ⟨h.1, h.2.1, rise_first rs r.l i h.2.2⟩
theorem head_nil : (headF []).2.2 ≠ 0 := by
  unfold headF
  rw [if_pos (.inl (by decide))]
  decide
theorem cut_scan (rs : List Rec) (k i : Nat) (hr : Rise 0 rs) (hi : i ≤ rs.length) (h1 : (framesB (rs.take i)).length ≤ k) (h2 : i < rs.length → k < (framesB (rs.take (i + 1))).length) : scanL ((framesB rs).take k) = (rs.take i, (framesB (rs.take i)).length) := by
  have e1 : framesB rs = framesB (rs.take i) ++ framesB (rs.drop i) := by rw [← framesB_append, List.take_append_drop]
  have e2 : (framesB rs).take k = framesB (rs.take i) ++ (framesB (rs.drop i)).take (k - (framesB (rs.take i)).length) := by
    rw [e1, List.take_append, List.take_of_length_le h1]
  refine scan_end e2 (rise_first rs 0 i hr) (.inl ?_)
  by_cases hlt : i < rs.length
  · have e3 : rs.drop i = rs[i] :: rs.drop (i + 1) := List.drop_eq_getElem_cons hlt
    have e4 : framesB (rs.drop i) = frameB rs[i] ++ framesB (rs.drop (i + 1)) := by rw [e3, framesB_cons]
    have e5 : rs.take (i + 1) = rs.take i ++ [rs[i]] := by rw [List.take_add_one, List.getElem?_eq_getElem hlt]; rfl
    have h3 := h2 hlt
    rw [e5, framesB_append, List.length_append] at h3
    have e6 : framesB [rs[i]] = frameB rs[i] := by simp [framesB]
    rw [e6] at h3
    have hrr : rs[i].right := rise_right rs 0 hr _ (List.getElem_mem hlt)
    rw [e4, List.take_append_of_le_length (by omega)]
    rw [head_cut rs[i] hrr _ _ (List.take_append_drop (k - (framesB (rs.take i)).length) _).symm (fun h => by
      have h5 := congrArg List.length h
      rw [List.length_drop] at h5
      have h6 : (frameB rs[i]).length - (k - (framesB (rs.take i)).length) = 0 := h5
      omega)]
    decide
  · have e3 : rs.drop i = [] := List.drop_eq_nil_of_le (by omega)
    rw [e3]
    have e4 : (framesB []).take (k - (framesB (rs.take i)).length) = [] := by simp [framesB]
    rw [e4]
    exact head_nil
end Go.Proofs.Ytbnlkfcaahgpmaa

/-
  Plain facts on numbers of records, of no program: the order of numbers and nodes; lists that rise; what a clock answers.
-/
namespace Go.Proofs.Ytbnlkfcaahgpmaa
open Go.RowKit
set_option linter.unusedVariables false

/-- The greatest number, and the greatest one that is not spare. -/
def maxL : Nat := 4611686018427387904
def topL : Nat := 4611686018427322368

/-- A fact kept from the walk. -/
theorem hideL {p : Prop} (h : p) : Hid p := h

/-- The order of numbers of nodes. -/
def bef (a : Nat) (i : Int) (b : Nat) (j : Int) : Bool := decide (a < b) || (decide (a = b) && decide (i < j))
theorem bef_iff (a b : Nat) (i j : Int) : bef a i b j = true ↔ (a < b ∨ a = b ∧ i < j) := by simp [bef]
theorem bef_no (a b : Nat) (i j : Int) : bef a i b j = false ↔ ¬ (a < b ∨ a = b ∧ i < j) := by
  rw [← bef_iff]
  simp

/-- Numbers that rise. -/
def rises : List Nat → Bool
  | [] => true
  | [_] => true
  | a :: b :: l => decide (a < b) && rises (b :: l)

/-- What 'Next' answers, and the last number behind it. -/
def full (n f : Nat) (s : Bool) : Bool := decide (maxL ≤ max n f) || (!s && decide (topL ≤ max n f))
def nextS (n f : Nat) (s : Bool) : Int × Int := if full n f s then (0, 7) else ((max n f + 1 : Nat), 0)
def nextN (n f : Nat) (s : Bool) : Nat := if full n f s then n else max n f + 1

/-- A slice value whose elements read as these numbers. -/
def IsU (w : World) (a : Option Addr) (len : Nat) (zs : List Nat) : Prop :=
  zs.length = len ∧ (∀ z ∈ zs, z < 18446744073709551616) ∧ (0 < len → ∃ b off, a = some ⟨b, off, none⟩ ∧ b < w.heap.size ∧ ∀ j, j < len → w.cell? ⟨b, off + j, none⟩ = some (.int .u64 (zs.getD j 0 : Nat)))
theorem IsU.nil (w : World) : IsU w none 0 [] := ⟨rfl, fun _ h => absurd h (by simp), fun h => absurd h (by omega)⟩
theorem IsU.below {w w' : World} {a : Option Addr} {len : Nat} {zs : List Nat} (h : IsU w a len zs) (hb : Below w.heap.size w w') : IsU w' a len zs := by
  refine ⟨h.1, h.2.1, fun hp => ?_⟩
  obtain ⟨b, off, ha, hlt, hc⟩ := h.2.2 hp
  exact ⟨b, off, ha, Nat.lt_of_lt_of_le hlt hb.size, fun j hj => (hb.cell (p := ⟨b, off + j, none⟩) hlt).trans (hc j hj)⟩
end Go.Proofs.Ytbnlkfcaahgpmaa

/-
  A log: its tape, its clock, its records, how many are on the tape and stand fast, what is held back, the greatest LSN that stood fast. Of no program.
-/
namespace Go.Proofs.Ytbnlkfcaahgpmaa
open Go.RowKit
set_option linter.unusedVariables false

structure Lg where
  t : Tp
  c : Nat
  l : List Rec
  on : Nat
  fa : Nat
  hd : Nat
  du : Nat
def Rec.put (r : Rec) (n : Nat) : Rec := { r with l := n }
def bytesS (rs : List Rec) : ByteArray := ⟨(framesB rs).toArray⟩
theorem bytesS_size (rs : List Rec) : (bytesS rs).size = (framesB rs).length := by simp [bytesS, ByteArray.size]
theorem bytesS_data (rs : List Rec) : (bytesS rs).data.toList = framesB rs := by simp [bytesS]
def Lg.used (g : Lg) : Nat := g.t.b.size + (framesB (g.l.drop g.on)).length
def Lg.see (g : Lg) (n : Nat) : Lg := { g with c := max g.c (min n maxL) }
def Lg.open (t : Tp) (base : Nat) : Lg :=
  ⟨(t.chop ((scanL t.b.data.toList).2 : Int)).1.sync, max (max 0 (min base maxL)) (min (lastL 0 (scanL t.b.data.toList).1) maxL), (scanL t.b.data.toList).1, (scanL t.b.data.toList).1.length, (scanL t.b.data.toList).1.length, 0, lastL 0 (scanL t.b.data.toList).1⟩
/-- The number that a record gets. -/
def Lg.num (g : Lg) (floor : Nat) : Nat := max g.c floor + 1
def Lg.hold (g : Lg) (h : Int) : Nat := (max 0 ((g.hd : Int) + h)).toNat
/-- Append: 0, or the error's number. -/
def Lg.appE (g : Lg) (r : Rec) (floor : Nat) (h : Int) : Int :=
  if r.l ≠ 0 ∨ h < -65536 ∨ 65536 < h then 1
  else if full g.c floor (decide (h < 0)) = true then 7
  else @ite Int (¬ (r.put (g.num floor)).right) (@instDecidableNot _ (r.put (g.num floor)).rightD) 1 (if g.t.m < g.used + (frameB (r.put (g.num floor))).length + g.hold h then 7 else 0)
def Lg.app (g : Lg) (r : Rec) (floor : Nat) (h : Int) : Lg := if g.appE r floor h = 0 then { g with c := g.num floor, hd := g.hold h, l := g.l ++ [r.put (g.num floor)] } else g
def Lg.appN (g : Lg) (r : Rec) (floor : Nat) (h : Int) : Nat := if g.appE r floor h = 0 then g.num floor else 0
/-- Write, where it fits (it always does). -/
def Lg.write (g : Lg) : Lg := { g with t := (g.t.app (bytesS (g.l.drop g.on))).1, on := g.l.length }
def Lg.sync (g : Lg) : Lg := { g with t := g.t.sync, fa := g.on, du := if 0 < g.on then (g.l.getD (g.on - 1) Rec.zero).l else g.du }
/-- How many records are trimmed: from the first on, at most so many, with lower numbers. -/
def trimK : List Rec → Nat → Nat → Nat
  | [], _, _ => 0
  | _, 0, _ => 0
  | r :: rs, f + 1, n => if r.l < n then trimK rs f n + 1 else 0
def Lg.trim (g : Lg) (n : Nat) : Lg := { g with t := (g.t.cut ((framesB (g.l.take (trimK g.l g.fa n))).length : Int)).1, l := g.l.drop (trimK g.l g.fa n), on := g.on - trimK g.l g.fa n, fa := g.fa - trimK g.l g.fa n }
def Lg.pend (g : Lg) : Nat := if g.fa = g.l.length then 0 else (g.l.getD g.fa Rec.zero).l
/-- What every log keeps to. -/
structure Lg.ok (g : Lg) : Prop where
  tok : g.t.ok
  on : g.on ≤ g.l.length
  fa : g.fa ≤ g.on
  rise : Rise 0 g.l
  last : lastL 0 g.l ≤ g.c
  top : g.c ≤ maxL
  bytes : g.t.b.data.toList = framesB (g.l.take g.on)
  fast : g.t.f = (framesB (g.l.take g.fa)).length
  room : g.used + g.hd ≤ g.t.m
  low : ∀ r ∈ g.l.take g.fa, r.l ≤ g.du
  high : ∀ r ∈ g.l.drop g.fa, g.du < r.l
  du : g.du ≤ g.c

/-! ### Lists -/
theorem frames_cut (l : List Rec) (i : Nat) : framesB l = framesB (l.take i) ++ framesB (l.drop i) := by rw [← framesB_append, List.take_append_drop]
theorem frames_len (l : List Rec) (i : Nat) : (framesB l).length = (framesB (l.take i)).length + (framesB (l.drop i)).length := by
  have h := congrArg List.length (frames_cut l i)
  rwa [List.length_append] at h
theorem frames_mono (l : List Rec) (i j : Nat) (h : i ≤ j) : (framesB (l.take i)).length ≤ (framesB (l.take j)).length := by
  have h1 := frames_len (l.take j) i
  rw [List.take_take, Nat.min_eq_left h] at h1
  omega
theorem rise_le : ∀ (l : List Rec) (a : Nat), Rise a l → a ≤ lastL a l
  | [], _, _ => Nat.le_refl _
  | r :: rs, a, h => Nat.le_trans (Nat.le_of_lt h.2.1) (rise_le rs r.l h.2.2)
theorem rise_mem : ∀ (l : List Rec) (a : Nat), Rise a l → ∀ r ∈ l, a < r.l ∧ r.l ≤ lastL a l
  | [], _, _, _, h => nomatch h
  | q :: rs, a, h, r, hr => by
    rcases List.mem_cons.1 hr with rfl | hr
    · exact ⟨h.2.1, rise_le rs r.l h.2.2⟩
    · have := rise_mem rs q.l h.2.2 r hr
      exact ⟨Nat.lt_trans h.2.1 this.1, this.2⟩
theorem rise_weak : ∀ (l : List Rec) (a b : Nat), Rise a l → b ≤ a → Rise b l
  | [], _, _, _, _ => trivial
  | r :: rs, a, b, h, hb => ⟨h.1, Nat.lt_of_le_of_lt hb h.2.1, h.2.2⟩
theorem rise_drop : ∀ (l : List Rec) (a i : Nat), Rise a l → Rise (lastL a (l.take i)) (l.drop i)
  | l, a, 0, h => by rw [List.take_zero, List.drop_zero]; exact h
  | [], _, _ + 1, _ => trivial
  | r :: rs, a, i + 1, h => rise_drop rs r.l i h.2.2
theorem last_drop : ∀ (l : List Rec) (a i : Nat), lastL (lastL a (l.take i)) (l.drop i) = lastL a l
  | l, a, 0 => by rw [List.take_zero, List.drop_zero]; rfl
  | [], _, _ + 1 => rfl
  | r :: rs, a, i + 1 => last_drop rs r.l i
theorem last_mono : ∀ (l : List Rec) (a b : Nat), a ≤ b → lastL a l ≤ lastL b l
  | [], _, _, h => h
  | _ :: _, _, _, _ => Nat.le_refl _
theorem last_le_drop (l : List Rec) (i : Nat) (h : Rise 0 l) : lastL 0 (l.drop i) ≤ lastL 0 l := by
  rw [← last_drop l 0 i]
  exact last_mono _ _ _ (Nat.zero_le _)
/-- The last of the first ones. -/
theorem last_take : ∀ (l : List Rec) (a i : Nat), i < l.length → lastL a (l.take (i + 1)) = (l.getD i Rec.zero).l
  | [], _, _, h => absurd h (by simp)
  | r :: rs, a, 0, _ => by simp [lastL]
  | r :: rs, a, i + 1, h => by
    have := last_take rs r.l i (by simpa using h)
    simpa [lastL] using this
theorem trimK_le : ∀ (l : List Rec) (f n : Nat), trimK l f n ≤ f ∧ trimK l f n ≤ l.length
  | [], f, n => ⟨Nat.zero_le _, Nat.zero_le _⟩
  | r :: rs, 0, n => ⟨Nat.zero_le _, Nat.zero_le _⟩
  | r :: rs, f + 1, n => by
    have := trimK_le rs f n
    unfold trimK
    split
    · simp only [List.length_cons]
      omega
    · exact ⟨Nat.zero_le _, Nat.zero_le _⟩
theorem trimK_low : ∀ (l : List Rec) (f n : Nat), ∀ r ∈ l.take (trimK l f n), r.l < n
  | [], f, n, r, h => by simp at h
  | q :: rs, 0, n, r, h => by simp [trimK] at h
  | q :: rs, f + 1, n, r, h => by
    unfold trimK at h
    split at h
    · rename_i hq
      rw [List.take_succ_cons] at h
      rcases List.mem_cons.1 h with rfl | h
      · exact hq
      · exact trimK_low rs f n r h
    · simp at h
theorem trimK_stop : ∀ (l : List Rec) (f n : Nat), trimK l f n < f → trimK l f n < l.length → n ≤ (l.getD (trimK l f n) Rec.zero).l
  | [], f, n, _, h => absurd h (by simp)
  | q :: rs, 0, n, h, _ => absurd h (Nat.not_lt_zero _)
  | q :: rs, f + 1, n, h1, h2 => by
    unfold trimK at h1 h2 ⊢
    split
    · rename_i hq
      rw [if_pos hq] at h1 h2
      have := trimK_stop rs f n (by omega) (by simpa using h2)
      simpa using this
    · rename_i hq
      simp only [List.getD_cons_zero]
      omega

/-! ### What is kept -/
theorem Lg.see_ok (g : Lg) (h : g.ok) (n : Nat) : (g.see n).ok :=
  ⟨h.tok, h.on, h.fa, h.rise, by show lastL 0 g.l ≤ max g.c (min n maxL); have := h.last; omega, by show max g.c (min n maxL) ≤ maxL; have := h.top; omega, h.bytes, h.fast, h.room, h.low, h.high, by show g.du ≤ max g.c (min n maxL); have := h.du; omega⟩
theorem few_recs (g : Lg) (h : g.ok) : g.l.length * 6 ≤ 65536 := by
  have h1 := framesB_long g.l
  have h2 := frames_len g.l g.on
  have h3 := congrArg List.length h.bytes
  rw [Array.length_toList] at h3
  have h4 : g.t.b.data.size = g.t.b.size := rfl
  have h5 := h.room
  have h6 := h.tok.room
  unfold Lg.used at h5
  omega
theorem scan_facts (bs : List UInt8) : Rise 0 (scanL bs).1 ∧ bs.take (scanL bs).2 = framesB (scanL bs).1 ∧ (scanL bs).2 ≤ bs.length := scan_again _ 0 bs
theorem last_max : ∀ (l : List Rec) (a : Nat), Rise a l → a ≤ maxL → lastL a l ≤ maxL
  | [], _, _, h => h
  | r :: rs, a, h, _ => last_max rs r.l h.2.2 (by have := h.1.lm; unfold maxP at this; unfold maxL; omega)
theorem Lg.open_ok (t : Tp) (h : t.ok) (base : Nat) : (Lg.open t base).ok := by
  obtain ⟨h1, h2, h3⟩ := scan_facts t.b.data.toList
  have hl := last_max _ 0 h1 (Nat.zero_le _)
  have hsz : t.b.data.toList.length = t.b.size := by rw [Array.length_toList]; rfl
  have hc : t.chop ((scanL t.b.data.toList).2 : Int) = ({ t with b := t.b.extract 0 (scanL t.b.data.toList).2, f := min t.f (scanL t.b.data.toList).2 }, 0) := by
    unfold Tp.chop
    rw [if_neg (by omega)]
    simp
  have hz : (t.b.extract 0 (scanL t.b.data.toList).2).size = (scanL t.b.data.toList).2 := by rw [ByteArray.size_extract]; omega
  have hd : (t.b.extract 0 (scanL t.b.data.toList).2).data.toList = framesB (scanL t.b.data.toList).1 := by
    have e := extract_eq t.b 0 (scanL t.b.data.toList).2 (by omega)
    rw [Nat.zero_add] at e
    rw [e, ← h2]
    simp
  have hlen : (framesB (scanL t.b.data.toList).1).length = (scanL t.b.data.toList).2 := by
    rw [← h2, List.length_take]
    omega
  have hco := t.chop_ok h ((scanL t.b.data.toList).2 : Int)
  rw [hc] at hco
  unfold Lg.open
  rw [hc]
  refine ⟨Tp.sync_ok _ hco, Nat.le_refl _, Nat.le_refl _, h1, ?_, ?_, ?_, ?_, ?_, ?_, ?_, ?_⟩
  · show lastL 0 (scanL t.b.data.toList).1 ≤ max (max 0 (min base maxL)) (min (lastL 0 (scanL t.b.data.toList).1) maxL)
    omega
  · show max (max 0 (min base maxL)) _ ≤ maxL
    omega
  · show (t.b.extract 0 (scanL t.b.data.toList).2).data.toList = framesB ((scanL t.b.data.toList).1.take (scanL t.b.data.toList).1.length)
    rw [List.take_length, hd]
  · show (t.b.extract 0 (scanL t.b.data.toList).2).size = (framesB ((scanL t.b.data.toList).1.take (scanL t.b.data.toList).1.length)).length
    rw [List.take_length, hz, hlen]
  · show (t.b.extract 0 (scanL t.b.data.toList).2).size + (framesB ((scanL t.b.data.toList).1.drop (scanL t.b.data.toList).1.length)).length + 0 ≤ t.m
    rw [List.drop_length, hz]
    have := h.few
    simp [framesB]
    omega
  · intro r hr
    rw [List.take_length] at hr
    exact (rise_mem _ 0 h1 r hr).2
  · intro r hr
    rw [List.drop_length] at hr
    nomatch hr
  · show lastL 0 (scanL t.b.data.toList).1 ≤ max (max 0 (min base maxL)) (min (lastL 0 (scanL t.b.data.toList).1) maxL)
    omega
end Go.Proofs.Ytbnlkfcaahgpmaa

/-
  What every log keeps to is kept by its calls. Of no program.
-/
namespace Go.Proofs.Ytbnlkfcaahgpmaa
open Go.RowKit
set_option linter.unusedVariables false

theorem Lg.app_no (g : Lg) (r : Rec) (f : Nat) (h : Int) (he : g.appE r f h ≠ 0) : g.app r f h = g ∧ g.appN r f h = 0 := by
  unfold Lg.app Lg.appN
  rw [if_neg he, if_neg he]
  exact ⟨rfl, rfl⟩
theorem Lg.app_yes (g : Lg) (r : Rec) (f : Nat) (h : Int) (he : g.appE r f h = 0) : g.app r f h = { g with c := g.num f, hd := g.hold h, l := g.l ++ [r.put (g.num f)] } ∧ g.appN r f h = g.num f := by
  unfold Lg.app Lg.appN
  rw [if_pos he, if_pos he]
  exact ⟨rfl, rfl⟩
/-- What an Append that was OK tells. -/
theorem Lg.appE_ok (g : Lg) (r : Rec) (f : Nat) (h : Int) (he : g.appE r f h = 0) : r.l = 0 ∧ -65536 ≤ h ∧ h ≤ 65536 ∧ full g.c f (decide (h < 0)) = false ∧ (r.put (g.num f)).right ∧ g.used + (frameB (r.put (g.num f))).length + g.hold h ≤ g.t.m := by
  unfold Lg.appE at he
  split at he
  · omega
  split at he
  · omega
  split at he
  · omega
  split at he
  · omega
  rename_i h1 h2 h3 h4
  have h3' := Classical.not_not.1 h3
  refine ⟨by omega, by omega, by omega, by simpa using h2, h3', by omega⟩
theorem frames_one (r : Rec) : framesB [r] = frameB r := by simp [framesB]
theorem Lg.app_ok (g : Lg) (hg : g.ok) (r : Rec) (f : Nat) (h : Int) : (g.app r f h).ok := by
  by_cases he : g.appE r f h = 0
  · rw [(g.app_yes r f h he).1]
    obtain ⟨h1, h2, h3, h4, h5, h6⟩ := g.appE_ok r f h he
    have hon := hg.on
    have hfa := hg.fa
    have hnl : (r.put (g.num f)).l = g.num f := rfl
    have htop : g.num f ≤ maxL := by
      have := h5.lm
      rw [hnl] at this
      unfold maxP at this
      unfold maxL
      omega
    have hnum : g.c < g.num f := by unfold Lg.num; omega
    have hlast := hg.last
    refine ⟨hg.tok, ?_, hg.fa, ?_, ?_, htop, ?_, ?_, ?_, ?_, ?_, ?_⟩
    · show g.on ≤ (g.l ++ [_]).length
      rw [List.length_append]
      omega
    · show Rise 0 (g.l ++ [_])
      rw [rise_snoc]
      exact ⟨hg.rise, h5, by rw [hnl]; omega⟩
    · show lastL 0 (g.l ++ [_]) ≤ g.num f
      rw [last_snoc, hnl]
      exact Nat.le_refl _
    · show g.t.b.data.toList = framesB ((g.l ++ [_]).take g.on)
      rw [List.take_append_of_le_length hon]
      exact hg.bytes
    · show g.t.f = (framesB ((g.l ++ [_]).take g.fa)).length
      rw [List.take_append_of_le_length (by omega)]
      exact hg.fast
    · show g.t.b.size + (framesB ((g.l ++ [_]).drop g.on)).length + g.hold h ≤ g.t.m
      rw [List.drop_append_of_le_length hon, framesB_append, List.length_append, frames_one]
      unfold Lg.used at h6
      omega
    · intro q hq
      have hq' : q ∈ (g.l ++ [r.put (g.num f)]).take g.fa := hq
      rw [List.take_append_of_le_length (by omega)] at hq'
      exact hg.low q hq'
    · intro q hq
      have hq' : q ∈ (g.l ++ [r.put (g.num f)]).drop g.fa := hq
      rw [List.drop_append_of_le_length (by omega)] at hq'
      rcases List.mem_append.1 hq' with hq' | hq'
      · exact hg.high q hq'
      · rw [List.mem_singleton.1 hq', hnl]
        exact Nat.lt_of_le_of_lt hg.du hnum
    · exact Nat.le_trans hg.du (Nat.le_of_lt hnum)
  · rw [(g.app_no r f h he).1]
    exact hg
theorem Lg.write_app (g : Lg) (hg : g.ok) : g.t.app (bytesS (g.l.drop g.on)) = ({ g.t with b := g.t.b ++ bytesS (g.l.drop g.on) }, 0) := by
  have h1 := hg.room
  unfold Lg.used at h1
  unfold Tp.app
  rw [bytesS_size, if_neg (by omega)]
theorem data_append (a b : ByteArray) : (a ++ b).data.toList = a.data.toList ++ b.data.toList := by
  rw [ByteArray.data_append, Array.toList_append]
theorem Lg.write_ok (g : Lg) (hg : g.ok) : g.write.ok := by
  have ht := g.t.app_ok hg.tok (bytesS (g.l.drop g.on))
  have e := g.write_app hg
  have h1 := hg.room
  unfold Lg.used at h1
  unfold Lg.write
  rw [e] at ht ⊢
  refine ⟨ht, Nat.le_refl _, Nat.le_trans hg.fa hg.on, hg.rise, hg.last, hg.top, ?_, hg.fast, ?_, hg.low, hg.high, hg.du⟩
  · show (g.t.b ++ bytesS (g.l.drop g.on)).data.toList = framesB (g.l.take g.l.length)
    rw [data_append, bytesS_data, hg.bytes, List.take_length, ← frames_cut]
  · show (g.t.b ++ bytesS (g.l.drop g.on)).size + (framesB (g.l.drop g.l.length)).length + g.hd ≤ g.t.m
    rw [ByteArray.size_append, bytesS_size, List.drop_length]
    have h0 : (framesB []).length = 0 := rfl
    rw [h0]
    omega
theorem Lg.sync_ok (g : Lg) (hg : g.ok) : g.sync.ok := by
  have hb := congrArg List.length hg.bytes
  rw [Array.length_toList] at hb
  have hdu : ∀ r ∈ g.l.take g.on, r.l ≤ g.sync.du := by
    intro r hr
    have h0 : 0 < g.on := by
      rcases Nat.eq_zero_or_pos g.on with h | h
      · rw [h] at hr
        simp at hr
      · exact h
    have hm := (rise_mem _ 0 (rise_first g.l 0 g.on hg.rise) r hr).2
    have e := last_take g.l 0 (g.on - 1) (by have := hg.on; omega)
    rw [Nat.sub_add_cancel h0] at e
    show r.l ≤ if 0 < g.on then (g.l.getD (g.on - 1) Rec.zero).l else g.du
    rw [if_pos h0, ← e]
    exact hm
  have hlast : g.sync.du ≤ lastL 0 (g.l.take g.on) ∨ g.sync.du = g.du ∧ g.on = 0 := by
    show (if 0 < g.on then (g.l.getD (g.on - 1) Rec.zero).l else g.du) ≤ _ ∨ _
    by_cases h0 : 0 < g.on
    · have e := last_take g.l 0 (g.on - 1) (by have := hg.on; omega)
      rw [Nat.sub_add_cancel h0] at e
      rw [if_pos h0, ← e]
      exact .inl (Nat.le_refl _)
    · refine .inr ⟨?_, by omega⟩
      show (if 0 < g.on then (g.l.getD (g.on - 1) Rec.zero).l else g.du) = g.du
      rw [if_neg h0]
  refine ⟨g.t.sync_ok hg.tok, hg.on, Nat.le_refl _, hg.rise, hg.last, hg.top, hg.bytes, ?_, hg.room, hdu, ?_, ?_⟩
  · show g.t.b.size = (framesB (g.l.take g.on)).length
    exact hb
  · intro r hr
    have hr' : r ∈ g.l.drop g.on := hr
    rcases hlast with h | ⟨h, h0⟩
    · have := (rise_mem _ _ (rise_drop g.l 0 g.on hg.rise) r hr').1
      omega
    · rw [h]
      have hf := hg.fa
      exact hg.high r (by rw [show g.fa = 0 by omega, List.drop_zero]; rw [h0, List.drop_zero] at hr'; exact hr')
  · show g.sync.du ≤ g.c
    rcases hlast with h | ⟨h, _⟩
    · have h1 := last_drop g.l 0 g.on
      have h2 := rise_le _ _ (rise_drop g.l 0 g.on hg.rise)
      have h3 := hg.last
      omega
    · rw [h]
      exact hg.du
theorem Lg.trim_k (g : Lg) (hg : g.ok) (n : Nat) : trimK g.l g.fa n ≤ g.fa ∧ (framesB (g.l.take (trimK g.l g.fa n))).length ≤ g.t.f := by
  have h := (trimK_le g.l g.fa n).1
  exact ⟨h, by rw [hg.fast]; exact frames_mono g.l _ _ h⟩
theorem Lg.trim_cut (g : Lg) (hg : g.ok) (n : Nat) : g.t.cut ((framesB (g.l.take (trimK g.l g.fa n))).length : Int) = (⟨g.t.b.extract (framesB (g.l.take (trimK g.l g.fa n))).length g.t.b.size, g.t.f - (framesB (g.l.take (trimK g.l g.fa n))).length, g.t.m, (g.t.s + (framesB (g.l.take (trimK g.l g.fa n))).length) % 18446744073709551616⟩, 0) := by
  have h := (g.trim_k hg n).2
  unfold Tp.cut
  rw [if_neg (by omega)]
  simp
theorem Lg.trim_ok (g : Lg) (hg : g.ok) (n : Nat) : (g.trim n).ok := by
  have hc := g.t.cut_ok hg.tok ((framesB (g.l.take (trimK g.l g.fa n))).length : Int)
  have e := g.trim_cut hg n
  obtain ⟨hk, hkf⟩ := g.trim_k hg n
  have hon := hg.on
  have hfa := hg.fa
  have hff := hg.tok.fast
  unfold Lg.trim
  rw [e] at hc ⊢
  generalize trimK g.l g.fa n = k at *
  have hb : g.t.b.data.toList.length = g.t.b.size := by rw [Array.length_toList]; rfl
  have htk : ∀ j, k ≤ j → (g.l.drop k).take (j - k) = (g.l.take j).drop k := fun j hj => by rw [List.drop_take]
  have hsplit : ∀ j, k ≤ j → framesB (g.l.take j) = framesB (g.l.take k) ++ framesB ((g.l.take j).drop k) := fun j hj => by
    have := frames_cut (g.l.take j) k
    rwa [List.take_take, Nat.min_eq_left hj] at this
  have hdat : (g.t.b.extract (framesB (g.l.take k)).length g.t.b.size).data.toList = framesB ((g.l.take g.on).drop k) := by
    have e2 := extract_eq g.t.b (framesB (g.l.take k)).length (g.t.b.size - (framesB (g.l.take k)).length) (by omega)
    rw [show (framesB (g.l.take k)).length + (g.t.b.size - (framesB (g.l.take k)).length) = g.t.b.size by omega] at e2
    rw [e2]
    simp only
    rw [List.take_of_length_le (by rw [List.length_drop]; omega), hg.bytes, hsplit g.on (by omega), List.drop_left' rfl]
  have hsz : (g.t.b.extract (framesB (g.l.take k)).length g.t.b.size).size = g.t.b.size - (framesB (g.l.take k)).length := by rw [ByteArray.size_extract]; omega
  refine ⟨hc, ?_, ?_, ?_, ?_, hg.top, ?_, ?_, ?_, ?_, ?_, hg.du⟩
  · show g.on - k ≤ (g.l.drop k).length
    rw [List.length_drop]
    omega
  · show g.fa - k ≤ g.on - k
    omega
  · exact rise_weak _ _ 0 (rise_drop g.l 0 k hg.rise) (Nat.zero_le _)
  · exact Nat.le_trans (last_le_drop g.l k hg.rise) hg.last
  · show _ = framesB ((g.l.drop k).take (g.on - k))
    rw [hdat, htk g.on (by omega)]
  · show g.t.f - (framesB (g.l.take k)).length = (framesB ((g.l.drop k).take (g.fa - k))).length
    rw [htk g.fa hk, hg.fast, hsplit g.fa hk, List.length_append]
    omega
  · show (g.t.b.extract (framesB (g.l.take k)).length g.t.b.size).size + (framesB ((g.l.drop k).drop (g.on - k))).length + g.hd ≤ g.t.m
    rw [hsz, List.drop_drop, show k + (g.on - k) = g.on by omega]
    have := hg.room
    unfold Lg.used at this
    omega
  · intro r hr
    have hr' : r ∈ (g.l.drop k).take (g.fa - k) := hr
    rw [htk g.fa hk] at hr'
    exact hg.low r (List.mem_of_mem_drop hr')
  · intro r hr
    have hr' : r ∈ (g.l.drop k).drop (g.fa - k) := hr
    rw [List.drop_drop, show k + (g.fa - k) = g.fa by omega] at hr'
    exact hg.high r hr'
end Go.Proofs.Ytbnlkfcaahgpmaa

/-
  The beginning and the rest of a list of records.
-/
namespace Go.Proofs.Ytbnlkfcaahgpmaa
open Go.RowKit
set_option linter.unusedVariables false

theorem RsIn.first {w : World} {a : Option Addr} {len cap i : Nat} {ms : List (Rec × Value × Value)} (h : RsIn w (.slice a len cap) ms) (hi : i ≤ ms.length) : RsIn w (.slice a i cap) (ms.take i) := by
  have hl : (ms.take i).length = i := by rw [List.length_take, Nat.min_eq_left hi]
  obtain ⟨⟨a', cap', h1, h2⟩, h3⟩ := h
  injection h1 with e1 e2 e3
  subst e1 e3
  refine ⟨⟨a, cap, by rw [hl], fun hp => ?_⟩, fun m hm => h3 m (List.mem_of_mem_take hm)⟩
  rw [hl] at hp
  obtain ⟨b, off, h4, h5, h6⟩ := h2 (by omega)
  refine ⟨b, off, h4, h5, fun j hj => ?_⟩
  rw [hl] at hj
  have e : (ms.take i).getD j rcZ = ms.getD j rcZ := by
    rw [List.getD_eq_getElem?_getD, List.getD_eq_getElem?_getD, List.getElem?_take, if_pos hj]
  rw [e]
  exact h6 j (by omega)
theorem RsIn.empty (w : World) (a : Option Addr) (cap : Nat) : RsIn w (.slice a 0 cap) [] := ⟨⟨a, cap, rfl, fun h => absurd h (by simp)⟩, fun m hm => (nomatch hm)⟩
theorem RsIn.rest {w : World} {b off len cap i : Nat} {ms : List (Rec × Value × Value)} (h : RsIn w (.slice (some ⟨b, off, none⟩) len cap) ms) (hi : i ≤ ms.length) (k c : Nat) (hk : k = len - i) : RsIn w (.slice (some ⟨b, off + i * 14, none⟩) k c) (ms.drop i) := by
  obtain ⟨⟨a', cap', h1, h2⟩, h3⟩ := h
  injection h1 with e1 e2 e3
  subst e1
  have hl : (ms.drop i).length = k := by rw [List.length_drop, hk, e2]
  refine ⟨⟨_, c, by rw [hl], fun hp => ?_⟩, fun m hm => h3 m (List.mem_of_mem_drop hm)⟩
  rw [List.length_drop] at hp
  obtain ⟨b', off', h4, h5, h6⟩ := h2 (by omega)
  injection h4 with h7
  injection h7 with h8 h9
  subst h8 h9
  refine ⟨b, off + i * 14, rfl, h5, fun j hj => ?_⟩
  rw [List.length_drop] at hj
  have e : (ms.drop i).getD j rcZ = ms.getD (i + j) rcZ := by
    rw [List.getD_eq_getElem?_getD, List.getD_eq_getElem?_getD, List.getElem?_drop]
  have e4 : off + i * 14 + j * 14 = off + (i + j) * 14 := by omega
  rw [e, e4]
  exact h6 (i + j) (by omega)
end Go.Proofs.Ytbnlkfcaahgpmaa

/-
  Lists of records that a log keeps, in memory: their row, with room behind it; their lists stay where they are.
-/
namespace Go.Proofs.Ytbnlkfcaahgpmaa
open Go.RowKit
set_option linter.unusedVariables false

/-- A block that no log's call turns: it was there at the beginning, or holds rows of a record's lists. -/
def Safe (B : Nat) (w : World) (b : Nat) : Prop := b < w.heap.size ∧ (b < B ∨ ∃ t cs, (t = 84 ∨ t = 86) ∧ RowAt w b t cs)
/-- Blocks that logs and tapes are made of. -/
def Loose (B : Nat) (w : World) (F : Nat → Prop) : Prop := ∀ k, F k → B ≤ k ∧ k < w.heap.size ∧ ∀ t cs, RowAt w k t cs → t ≠ 84 ∧ t ≠ 86
theorem Safe.not {B b : Nat} {w : World} {F : Nat → Prop} (h : Safe B w b) (hl : Loose B w F) : ¬ F b := fun hf => by
  obtain ⟨h1, h2, h3⟩ := hl b hf
  rcases h.2 with h4 | ⟨t, cs, h4, h5⟩
  · omega
  · have := h3 t cs h5
    rcases h4 with h4 | h4
    · exact this.1 h4
    · exact this.2 h4
theorem Safe.keep {B b : Nat} {w x : World} {F : Nat → Prop} (h : Safe B w b) (hl : Loose B w F) (p : Tn F w x) : Safe B x b := by
  have hn := h.not hl
  refine ⟨Nat.lt_of_lt_of_le h.1 p.size, ?_⟩
  rcases h.2 with h4 | ⟨t, cs, h4, h5⟩
  · exact .inl h4
  · exact .inr ⟨t, cs, h4, p.row h5 hn⟩
/-- Where a list's elements lie. -/
def LiesIn (G : Nat → Prop) (v : Value) : Prop := ∀ b off n c, v = .slice (some ⟨b, off, none⟩) n c → 0 < n → G b
theorem rows_keep {α : Type} {f : α → Array Value} {z : α} {n : Nat} {w x : World} {v : Value} {xs : List α} (h : RowsIn f z n w v xs) (hs : ∀ b off m c, v = .slice (some ⟨b, off, none⟩) m c → 0 < m → x.heap[b]? = w.heap[b]?) (hz : w.heap.size ≤ x.heap.size) : RowsIn f z n x v xs := by
  obtain ⟨a, cap, rfl, h2⟩ := h
  refine ⟨a, cap, rfl, fun hp => ?_⟩
  obtain ⟨b, off, rfl, h4, h5⟩ := h2 hp
  have hk := hs b off _ _ rfl hp
  exact ⟨b, off, rfl, Nat.lt_of_lt_of_le h4 hz, fun i hi j u hu => (World.cell?_of_block (a := ⟨b, off + i * n + j, none⟩) hk).trans (h5 i hi j u hu)⟩
/-- A record's lists, where no log's call turns them. -/
structure RcK (B : Nat) (w : World) (r : Rec) (va vb : Value) : Prop where
  rc : RcIn w r va vb
  tx : LiesIn (Safe B w) va
  di : LiesIn (Safe B w) vb
theorem RcK.keep {B : Nat} {w x : World} {F : Nat → Prop} {r : Rec} {va vb : Value} (h : RcK B w r va vb) (hl : Loose B w F) (p : Tn F w x) : RcK B x r va vb :=
  ⟨⟨rows_keep h.rc.1 (fun b off m c e hm => p.block b (h.tx b off m c e hm).1 ((h.tx b off m c e hm).not hl)) p.size, rows_keep h.rc.2 (fun b off m c e hm => p.block b (h.di b off m c e hm).1 ((h.di b off m c e hm).not hl)) p.size⟩,
    fun b off m c e hm => (h.tx b off m c e hm).keep hl p, fun b off m c e hm => (h.di b off m c e hm).keep hl p⟩
theorem loose_none (B : Nat) (w : World) : Loose B w (fun _ => False) := fun k h => h.elim
theorem RcK.later {B : Nat} {w x : World} {r : Rec} {va vb : Value} (h : RcK B w r va vb) (p : Below w.heap.size w x) : RcK B x r va vb := h.keep (loose_none B w) (Tn.of_below p)
/-- What was there at the beginning. -/
theorem RcK.first {w x : World} {r : Rec} {va vb : Value} (h : RcIn w r va vb) (p : Below w.heap.size w x) : RcK w.heap.size x r va vb := by
  have lies : ∀ {α : Type} {f : α → Array Value} {z : α} {n : Nat} {v : Value} {xs : List α}, RowsIn f z n w v xs → LiesIn (Safe w.heap.size x) v := by
    intro α f z n v xs h b off m c e hm
    obtain ⟨a, cap, rfl, h2⟩ := h
    injection e with e1 e2 e3
    obtain ⟨b', off', h3, h4, _⟩ := h2 (by omega)
    rw [e1] at h3
    injection h3 with h3
    injection h3 with h3
    subst h3
    exact ⟨Nat.lt_of_lt_of_le h4 p.size, .inl h4⟩
  exact ⟨h.below p, lies h.1, lies h.2⟩
/-- What was decoded. -/
theorem RcK.got {B base : Nat} {w : World} {r : Rec} {va vb : Value} (h : GotIn base w r va vb) : RcK B w r va vb := by
  have lies : ∀ {e : TypeId} {sz n : Nat} {v : Value} {xs : List Value}, (e = 84 ∨ e = 86) → w.ownsRow base e sz v n xs → LiesIn (Safe B w) v := by
    intro e sz n v xs he h b off m c ev hm
    rcases h.2 with ⟨h1, _⟩ | ⟨g, cap, cur, h1, _, h2, _⟩
    · rw [h1] at ev
      cases ev
    · rw [h1] at ev
      injection ev with ev
      injection ev with ev
      injection ev with ev
      subst ev
      exact ⟨(Array.getElem?_eq_some_iff.1 h2).1, .inr ⟨e, cur, he, h2⟩⟩
  exact ⟨h.rc, lies (.inl rfl) h.1, lies (.inr rfl) h.2⟩

/-! ### A row of records with room behind it -/
abbrev Rm := Rec × Value × Value
/-- A list of records in a row of its own, from some place on. -/
def RB (B : Nat) (w : World) (a : Option Addr) (cap : Nat) (ms : List Rm) : Prop :=
  ((a = none ∧ ms = [] ∧ cap = 0) ∨ ∃ b off cs, a = some ⟨b, off, none⟩ ∧ B ≤ b ∧ RowAt w b 30 cs ∧ off + cap * 14 ≤ cs.size ∧ ms.length ≤ cap ∧ ∀ i, i < ms.length → w.rangeAt b (off + i * 14) (rcF (ms.getD i rcZ)).toList) ∧
  ∀ m ∈ ms, m.1.fits ∧ RcK B w m.1 m.2.1 m.2.2
/-- Its block. -/
def blk (a : Option Addr) (k : Nat) : Prop := ∃ off, a = some ⟨k, off, none⟩
theorem RB.rs {B : Nat} {w : World} {a : Option Addr} {cap : Nat} {ms : List Rm} (h : RB B w a cap ms) : RsIn w (.slice a ms.length cap) ms := by
  refine ⟨⟨a, cap, rfl, fun hp => ?_⟩, fun m hm => ⟨(h.2 m hm).1, (h.2 m hm).2.rc⟩⟩
  rcases h.1 with ⟨_, rfl, _⟩ | ⟨b, off, cs, rfl, _, h2, _, _, h5⟩
  · exact absurd hp (by simp)
  · exact ⟨b, off, rfl, h2.lt, h5⟩
theorem RB.cap {B : Nat} {w : World} {a : Option Addr} {cap : Nat} {ms : List Rm} (h : RB B w a cap ms) : ms.length ≤ cap := by
  rcases h.1 with ⟨_, rfl, _⟩ | ⟨_, _, _, _, _, _, _, h4, _⟩
  · exact Nat.zero_le _
  · exact h4
theorem RB.nil (B : Nat) (w : World) : RB B w none 0 [] := ⟨.inl ⟨rfl, rfl, rfl⟩, fun m hm => nomatch hm⟩
/-- Another thing's calls leave it. -/
theorem RB.keep {B : Nat} {w x : World} {F : Nat → Prop} {a : Option Addr} {cap : Nat} {ms : List Rm} (h : RB B w a cap ms) (hl : Loose B w F) (p : Tn F w x) (hn : ∀ k, blk a k → ¬ F k) : RB B x a cap ms := by
  refine ⟨?_, fun m hm => ⟨(h.2 m hm).1, (h.2 m hm).2.keep hl p⟩⟩
  rcases h.1 with h1 | ⟨b, off, cs, rfl, h1, h2, h3, h4, h5⟩
  · exact .inl h1
  · have hb := p.block b h2.lt (hn b ⟨off, rfl⟩)
    exact .inr ⟨b, off, cs, rfl, h1, hb.trans h2, h3, h4, fun i hi j u hu => (World.cell?_of_block (a := ⟨b, off + i * 14 + j, none⟩) hb).trans (h5 i hi j u hu)⟩
theorem RB.later {B : Nat} {w x : World} {a : Option Addr} {cap : Nat} {ms : List Rm} (h : RB B w a cap ms) (p : Below w.heap.size w x) : RB B x a cap ms := h.keep (loose_none B w) (Tn.of_below p) (fun _ _ h => h)
/-- Only the row's own block, elsewhere than at its elements, or blocks beside it, were turned. -/
theorem RB.drop {B : Nat} {w : World} {b off cap : Nat} {ms : List Rm} (h : RB B w (some ⟨b, off, none⟩) cap ms) (k : Nat) (hk : k ≤ ms.length) (hc : ¬ cap = k) : RB B w (some ⟨b, off + k * 14, none⟩) (cap - k) (ms.drop k) := by
  refine ⟨?_, fun m hm => h.2 m (List.mem_of_mem_drop hm)⟩
  rcases h.1 with ⟨h1, _⟩ | ⟨b', off', cs, h1, h2, h3, h4, h5, h6⟩
  · cases h1
  · injection h1 with h1
    injection h1 with h1 h7
    subst h1 h7
    refine .inr ⟨b, off + k * 14, cs, rfl, h2, h3, by omega, by rw [List.length_drop]; omega, fun i hi => ?_⟩
    rw [List.length_drop] at hi
    have e : (ms.drop k).getD i rcZ = ms.getD (k + i) rcZ := by
      rw [List.getD_eq_getElem?_getD, List.getD_eq_getElem?_getD, List.getElem?_drop]
    rw [e, show off + k * 14 + i * 14 = off + (k + i) * 14 by omega]
    exact h6 (k + i) (by omega)
/-- All are dropped where the row ends. -/
theorem RB.drop_all {B : Nat} {w : World} {a : Option Addr} {cap : Nat} {ms : List Rm} (h : RB B w a cap ms) : RB B w a 0 [] := by
  refine ⟨?_, fun m hm => nomatch hm⟩
  rcases h.1 with ⟨h1, _, _⟩ | ⟨b, off, cs, h1, h2, h3, h4, h5, h6⟩
  · exact .inl ⟨h1, rfl, rfl⟩
  · exact .inr ⟨b, off, cs, h1, h2, h3, by omega, Nat.zero_le _, fun i hi => absurd hi (by simp)⟩
/-- What Scan leaves. -/
theorem RB.own {B base : Nat} {w : World} {v : Value} {ms : List Rm} (hB : B ≤ base) (ho : w.ownsRow base 30 14 v ms.length (flatR ms)) (hg : ∀ m ∈ ms, m.1.fits ∧ GotIn base w m.1 m.2.1 m.2.2) : ∃ a cap, v = .slice a ms.length cap ∧ RB B w a cap ms ∧ ∀ k, blk a k → base ≤ k := by
  have hs := RsIn.own ho hg
  rcases ho.2 with ⟨rfl, h0⟩ | ⟨g, cap, cur, rfl, h1, h2, h3, h4, h5, h6⟩
  · obtain rfl := List.eq_nil_of_length_eq_zero h0
    exact ⟨none, 0, rfl, RB.nil B w, fun k hk => by obtain ⟨_, h⟩ := hk; cases h⟩
  · refine ⟨_, cap, rfl, ⟨.inr ⟨g, 0, cur, rfl, Nat.le_trans hB h1, h2, by omega, h3, fun i hi => ?_⟩, fun m hm => ⟨(hg m hm).1, RcK.got (hg m hm).2⟩⟩, fun k hk => by
      obtain ⟨_, h⟩ := hk
      injection h with h
      injection h with h
      omega⟩
    obtain ⟨b, off, e, _, h8, _⟩ := hs.at hi
    injection e with e
    injection e with e1 e2
    subst e1 e2
    exact h8
end Go.Proofs.Ytbnlkfcaahgpmaa

/-
  The code's tape in memory: its block, and the row of its bytes. What its calls may turn.
-/
namespace Go.Proofs.Ytbnlkfcaahgpmaa
open Go.RowKit
set_option linter.unusedVariables false

/-- Only these two blocks, and what is new, was turned. -/
structure Turn (g h : Nat) (w w' : World) : Prop where
  os : w'.os = w.os
  tape : w'.tape = w.tape
  output : w'.output = w.output
  size : w.heap.size ≤ w'.heap.size
  block : ∀ k, k < w.heap.size → k ≠ g → k ≠ h → w'.heap[k]? = w.heap[k]?
theorem Turn.refl (g h : Nat) (w : World) : Turn g h w w := ⟨rfl, rfl, rfl, Nat.le_refl _, fun _ _ _ _ => rfl⟩
theorem Turn.trans {g h : Nat} {w x y : World} (p : Turn g h w x) (q : Turn g h x y) : Turn g h w y :=
  ⟨q.os.trans p.os, q.tape.trans p.tape, q.output.trans p.output, Nat.le_trans p.size q.size, fun i hi h1 h2 => (q.block i (Nat.lt_of_lt_of_le hi p.size) h1 h2).trans (p.block i hi h1 h2)⟩
theorem Turn.set {g h : Nat} {w x : World} (p : Turn g h w x) (j : Nat) (v : Value) : Turn g h w (x.setCell ⟨g, j, none⟩ v) :=
  ⟨p.os, p.tape, p.output, Nat.le_trans p.size ((Below.refl 0 x).setCell (Nat.zero_le _) v).size, fun i hi h1 h2 => (heap_setCell_other x ⟨g, j, none⟩ i v h1).trans (p.block i hi h1 h2)⟩
theorem Turn.drew {g h : Nat} {w x : World} (p : Turn g h w x) : Turn g h w x.drew := ⟨p.os, p.tape, p.output, p.size, p.block⟩
theorem Turn.below {g h n : Nat} {w x : World} (p : Turn g h w x) (h1 : n ≤ g) (h2 : n ≤ h) (hs : n ≤ w.heap.size) : Below n w x :=
  ⟨p.os, p.tape, p.output, p.size, fun i hi => p.block i (by omega) (by omega) (by omega)⟩
theorem Turn.of_below {g h : Nat} {w x : World} (p : Below w.heap.size w x) : Turn g h w x := ⟨p.os, p.tape, p.output, p.size, fun i hi _ _ => p.block i hi⟩
theorem Turn.row {g h k : Nat} {w x : World} {t : TypeId} {cs : Array Value} (p : Turn g h w x) (hr : RowAt w k t cs) (h1 : k ≠ g) (h2 : k ≠ h) : RowAt x k t cs := (p.block k hr.lt h1 h2).trans hr
theorem Turn.grown {g h : Nat} {w x y : World} {row : Option Nat} (p : Turn g h w x) (q : x.grownBy y row) (hr : ∀ k, row = some k → k = h ∨ w.heap.size ≤ k) : Turn g h w y :=
  ⟨q.os.trans p.os, q.tape.trans p.tape, q.output.trans p.output, Nat.le_trans p.size q.size, fun i hi h1 h2 => (q.block i (Nat.lt_of_lt_of_le hi p.size) (fun e => by
    rcases hr i e.symm with h3 | h3
    · exact h2 h3
    · omega)).trans (p.block i hi h1 h2)⟩

theorem row_apart {w : World} {g k : Nat} {t u : TypeId} {cs ds : Array Value} (h : RowAt w g t cs) (h2 : w.heap[k]? = some (.cells ds u (0, 0))) (hne : t ≠ u) : g ≠ k := by
  intro e
  subst e
  have h3 : w.heap[g]? = some (.cells cs t (0, 0)) := h
  rw [h3] at h2
  injection h2 with h2
  injection h2 with _ h4
  exact hne h4
end Go.Proofs.Ytbnlkfcaahgpmaa

/-
  What the code's log keeps to, as the statements' walks lean on it: one form, whatever its fields are.
-/
namespace Go.Proofs.Ytbnlkfcaahgpmaa
open Go.RowKit
set_option linter.unusedVariables false

/-- What tells which log a code's log stands for: the tape's block, the log's, the world, all its blocks (the tape's too), the log. -/
abbrev LogAt := Nat → Nat → World → (Nat → Prop) → Lg → Prop
/-- Behind a call: the log, in blocks that were its own or are new. -/
def Aft (LA : LogAt) (gt gl : Nat) (x : World) (F : Nat → Prop) (g : Lg) (x' : World) : Prop := ∃ F', LA gt gl x' F' g ∧ Tn F x x' ∧ ∀ k, F' k → F k ∨ x.heap.size ≤ k
/-- The record of a number. -/
def Lg.get (g : Lg) (n : Nat) : Rec × Bool := match g.l.find? (fun r => decide (r.l = n)) with
  | some r => (r, true)
  | none => (Rec.zero, false)
end Go.Proofs.Ytbnlkfcaahgpmaa

/-
  A record put behind a log's records: in their row, or in a new one.
-/
namespace Go.Proofs.Ytbnlkfcaahgpmaa
open Go.RowKit
set_option linter.unusedVariables false

theorem flat_length {α : Type} (f : α → Array Value) (n : Nat) (hf : ∀ x, (f x).size = n) : ∀ xs : List α, (xs.flatMap fun x => (f x).toList).length = xs.length * n
  | [] => by simp
  | x :: xs => by rw [List.flatMap_cons, List.length_append, flat_length f n hf xs, Array.length_toList, hf, List.length_cons, Nat.add_mul, Nat.one_mul, Nat.add_comm]
/-- 'append' as one step of a region that draws its order, by what it answers. -/
theorem step_append_run {P : Program} {ops : Array Oper} {o : Oper} {a : Act} {w : World} {K : Act → World → Prop} {Q : Exit → Act → World → Prop} {E : Prop}
    (hg : o.guard = none) (d x : Operand) (t u : TypeId) (hop : o.op = Op.call { callee := Callee.builtin Builtin.append, args := #[d, x], argTypes := #[t, u] })
    (vd vx v' : Value) (w' : World) (hs : a.eval d = vd) (hx : a.eval x = vx) (hrun : (Builtin.append_ #[t, u] o.type #[vd, vx]).run P w = .ok v' w') (hK : K (a.put o.dst v') w') :
    if Region.wanted o (yielded ops a.tmps) = true then Oper.wp P o a w K Q else E := by
  have hw : Region.wanted o (yielded ops a.tmps) = true := by simp [Region.wanted, hg]
  rw [if_pos hw]
  unfold Oper.wp
  simp [execOp, hop, resolve, invoke, builtin, hs, hx, hrun, Result.andThen]
  exact hK
theorem setCells_row : ∀ (vs : List Value) (o : Nat) (w : World) (b : Nat) (t : TypeId) (cs : Array Value), RowAt w b t cs → ∃ ds, RowAt (w.setCells b o vs) b t ds ∧ ds.size = cs.size
  | [], _, w, b, t, cs, h => ⟨cs, h, rfl⟩
  | v :: vs, o, w, b, t, cs, h => by
    obtain ⟨ds, h1, h2⟩ := setCells_row vs (o + 1) (w.setCell ⟨b, o, none⟩ v) b t _ (h.set o v)
    exact ⟨ds, h1, by rw [h2]; simp⟩
theorem setCells_tn : ∀ (vs : List Value) (o : Nat) (w : World) (b : Nat) (F : Nat → Prop), F b → Tn F w (w.setCells b o vs)
  | [], _, w, _, F, _ => Tn.refl F w
  | v :: vs, o, w, b, F, h => ((Tn.refl F w).set b o v h).then (setCells_tn vs (o + 1) _ b F h)
theorem rcF_one (m : Rm) (h : m.2.1.oneCell' = true ∧ m.2.2.oneCell' = true) : ∀ u ∈ (rcF m).toList, u.oneCell' = true := by
  intro u hu
  simp only [rcF, rcA, List.mem_cons, List.not_mem_nil, or_false] at hu
  rcases hu with rfl | rfl | rfl | rfl | rfl | rfl | rfl | rfl | rfl | rfl | rfl | rfl | rfl | rfl
  all_goals first | rfl | exact h.1 | exact h.2
theorem rc_one {w : World} {r : Rec} {va vb : Value} (h : RcIn w r va vb) : va.oneCell' = true ∧ vb.oneCell' = true := by
  obtain ⟨⟨a, c, rfl, _⟩, ⟨b, d, rfl, _⟩⟩ := h
  exact ⟨rfl, rfl⟩
theorem getD_snoc (ms : List Rm) (m : Rm) (i : Nat) : (ms ++ [m]).getD i rcZ = if i < ms.length then ms.getD i rcZ else if i = ms.length then m else rcZ := by
  by_cases h : i < ms.length
  · rw [if_pos h]
    simp only [List.getD_eq_getElem?_getD, List.getElem?_append_left h]
  · rw [if_neg h]
    by_cases e : i = ms.length
    · subst e
      rw [if_pos rfl]
      simp [List.getD_eq_getElem?_getD]
    · rw [if_neg e]
      simp only [List.getD_eq_getElem?_getD]
      rw [List.getElem?_eq_none (by rw [List.length_append]; simp; omega)]
      rfl
/-- A new row is a row of records. -/
theorem RB.fresh {B : Nat} {w : World} {v : Value} {ms : List Rm} {base n : Nat} (hn : n = ms.length) (hp : 0 < n) (hB : B ≤ base) (ho : w.ownsRow base 30 14 v n (flatR ms)) (hg : ∀ m ∈ ms, m.1.fits ∧ RcK B w m.1 m.2.1 m.2.2) : ∃ a cap, v = .slice a n cap ∧ RB B w a cap ms ∧ ∀ k, blk a k → base ≤ k := by
  subst hn
  have hs := own_rows rcF rcZ 14 (fun _ => rfl) ho
  rcases ho.2 with ⟨rfl, h0⟩ | ⟨g, cap, cur, rfl, h1, h2, h3, h4, h5, h6⟩
  · omega
  · obtain ⟨a', cap', e, h7⟩ := hs
    injection e with e1 e2 e3
    obtain ⟨b, off, h8, _, h9⟩ := h7 hp
    rw [← e1] at h8
    injection h8 with h8
    injection h8 with h10 h11
    subst h10 h11
    exact ⟨_, cap, rfl, ⟨.inr ⟨g, 0, cur, rfl, Nat.le_trans hB h1, h2, by omega, h3, h9⟩, hg⟩, fun k hk => by
      obtain ⟨_, h⟩ := hk
      injection h with h
      injection h with h
      omega⟩
theorem RB.loose {B : Nat} {w : World} {a : Option Addr} {cap : Nat} {ms : List Rm} (h : RB B w a cap ms) : Loose B w (blk a) := by
  intro k hk
  obtain ⟨off, e⟩ := hk
  rcases h.1 with ⟨h1, _⟩ | ⟨b, off', cs, h1, h2, h3, _⟩
  · rw [h1] at e
    cases e
  · rw [h1] at e
    injection e with e
    injection e with e
    subst e
    exact ⟨h2, h3.lt, fun t ds hr => by rw [row_kind hr h3]; decide⟩

set_option maxRecDepth 8000 in
theorem run_push (B : Nat) (w : World) (t ty : TypeId) (ht : Try.prog.underlying t = some (.slice 30)) (a : Option Addr) (cap : Nat) (ms : List Rm) (h : RB B w a cap ms) (m : Rm) (g c : Nat) (hg : RowAt w g 30 (rcF m)) (hm : m.1.fits ∧ RcK B w m.1 m.2.1 m.2.2) (hB : B ≤ w.heap.size) (hl : ms.length ≤ 100000000) :
    ∃ a' cap' w', (Builtin.append_ #[t, t] ty #[.slice a ms.length cap, .slice (some ⟨g, 0, none⟩) 1 c]).run Try.prog w = .ok (.slice a' (ms.length + 1) cap') w' ∧ RB B w' a' cap' (ms ++ [m]) ∧ Tn (blk a) w w' ∧ ∀ k, blk a' k → blk a k ∨ w.heap.size ≤ k := by
  obtain ⟨i, hi0, hi1⟩ := Option.map_eq_some_iff.1 infoRc3
  simp only [Prod.mk.injEq] at hi1
  have hone := rcF_one m (rc_one hm.2.rc)
  have hlen : (rcF m).toList.length = 1 * 14 := rfl
  have hcells : ∀ j u, (rcF m).toList[j]? = some u → w.cell? ((⟨g, 0, none⟩ : Addr).add j) = some u := fun j u hu => by
    rw [Addr.add_lit, Nat.zero_add]
    exact hg.cell j u (by simpa using hu)
  have hz : (Value.agg zeroA).cells.size = 14 := rfl
  have flat : flatR (ms ++ [m]) = flatR ms ++ (rcF m).toList := by rw [flatR_append]; simp [flatR]
  have fresh : ∀ v' w', w'.ownsRow w.heap.size 30 14 v' (ms.length + 1) (flatR ms ++ (rcF m).toList) → w.grownBy w' none → ∃ a' cap', v' = .slice a' (ms.length + 1) cap' ∧ RB B w' a' cap' (ms ++ [m]) ∧ Tn (blk a) w w' ∧ ∀ k, blk a' k → blk a k ∨ w.heap.size ≤ k := by
    intro v' w' h1 h2
    have hb : Below w.heap.size w w' := ⟨h2.os, h2.tape, h2.output, h2.size, fun k hk => h2.block k hk (by simp)⟩
    rw [← flat] at h1
    obtain ⟨a', cap', rfl, h3, h4⟩ := RB.fresh (by simp) (by omega) hB h1 (fun x hx => by
      rcases List.mem_append.1 hx with hx | hx
      · exact ⟨(h.2 x hx).1, (h.2 x hx).2.later hb⟩
      · rw [List.mem_singleton.1 hx]
        exact ⟨hm.1, hm.2.later hb⟩)
    exact ⟨a', cap', rfl, h3, Tn.of_below hb, fun k hk => .inr (h4 k hk)⟩
  have hold : ∀ b off, a = some ⟨b, off, none⟩ → ∀ j u, (flatR ms)[j]? = some u → w.cell? ((⟨b, off, none⟩ : Addr).add j) = some u := by
    intro b off e j u hu
    subst e
    rcases h.1 with ⟨h1, _⟩ | ⟨b', off', cs, h1, _, _, _, _, h6⟩
    · cases h1
    · injection h1 with h1
      injection h1 with h1 h7
      subst h1 h7
      have hj : j < ms.length * 14 := by
        have := (List.getElem?_eq_some_iff.1 hu).1
        rwa [flatR, flat_length rcF 14 (fun _ => rfl)] at this
      have h4 := flat_get rcF 14 (fun _ => rfl) rcZ ms (j / 14) (j % 14) (by omega) (by omega)
      rw [show j / 14 * 14 + j % 14 = j by omega] at h4
      rw [Addr.add_lit]
      have h5 := h6 (j / 14) (by omega) (j % 14) u (by rw [← h4]; exact hu)
      rwa [show off + j / 14 * 14 + j % 14 = off + j by omega] at h5
  rcases h.1 with ⟨rfl, rfl, rfl⟩ | ⟨b, off, cs, rfl, h1, h2, h3, h4, h6⟩
  · obtain ⟨v', w', r1, r2, r3, _⟩ := run_append_own (P := Try.prog) w w.heap.size t ty 30 i (.agg zeroA) 14 160 ht hi0 hi1.1 hi1.2.1 hi1.2.2 hz (by omega) (.slice none 0 0) 0 [] (World.ownsRow_nil _ _ _ _) ⟨g, 0, none⟩ 1 c (rcF m).toList hlen hcells hone (by unfold maxLen; omega) (by omega) (Nat.le_refl _)
    obtain ⟨a', cap', rfl, q⟩ := fresh v' w' r2 r3
    exact ⟨a', cap', w', r1, q⟩
  · by_cases hr : ms.length + 1 ≤ cap
    · have hc : ∀ j, j < (rcF m).toList.length → (w.cell? ⟨b, off + ms.length * i.size + j, none⟩).isSome = true := fun j hj => by
        have hj14 : j < 14 := hj
        rw [hi1.2.1, cell_of_row _ _ _ _ _ _ h2, Array.getElem?_eq_getElem (by omega)]
        rfl
      have r1 := run_append_room_cells (P := Try.prog) w t ty 30 i ht hi0 b off ms.length cap ⟨g, 0, none⟩ 1 c (rcF m).toList (by rw [hlen, hi1.2.1]) hcells hone hr hc (fun j _ => h2.free _)
      rw [hi1.2.1] at r1 hc
      obtain ⟨ds, hd1, hd2⟩ := setCells_row (rcF m).toList (off + ms.length * 14) w b 30 cs h2
      have hT := setCells_tn (rcF m).toList (off + ms.length * 14) w b (blk (some ⟨b, off, none⟩)) ⟨off, rfl⟩
      have hL := h.loose
      refine ⟨_, _, _, r1, ⟨.inr ⟨b, off, ds, rfl, h1, hd1, by omega, by rw [List.length_append]; simpa using hr, fun k hk => ?_⟩, fun x hx => ?_⟩, hT, fun k hk => .inl hk⟩
      · rw [List.length_append, List.length_singleton] at hk
        intro j u hu
        have hj14 : j < 14 := (List.getElem?_eq_some_iff.1 hu).1
        by_cases e : k < ms.length
        · rw [getD_snoc, if_pos e] at hu
          rw [World.cell?_setCells_out b _ _ w _ (fun _ _ => .inl (by show off + k * 14 + j < off + ms.length * 14; omega))]
          exact h6 k e j u hu
        · obtain rfl : k = ms.length := by omega
          rw [getD_snoc, if_neg e, if_pos rfl] at hu
          have h9 := World.cell?_setCells_in b (rcF m).toList (off + ms.length * 14) w hc j hj14
          rw [h9]
          rw [List.getElem?_eq_getElem hj14] at hu
          exact hu
      · rcases List.mem_append.1 hx with hx | hx
        · exact ⟨(h.2 x hx).1, (h.2 x hx).2.keep hL hT⟩
        · rw [List.mem_singleton.1 hx]
          exact ⟨hm.1, hm.2.keep hL hT⟩
    · obtain ⟨v', w', r1, r2, r3⟩ := run_append_arg_grows (P := Try.prog) w t ty 30 i (.agg zeroA) 14 160 ht hi0 hi1.1 hi1.2.1 hi1.2.2 hz (by omega) ⟨b, off, none⟩ ms.length cap (flatR ms) (by rw [flatR, flat_length rcF 14 (fun _ => rfl)]) (hold b off rfl) ⟨g, 0, none⟩ 1 c (rcF m).toList hlen hcells (by omega) (by unfold maxLen; omega) (by omega)
      obtain ⟨a', cap', rfl, q⟩ := fresh v' w' r2 r3
      exact ⟨a', cap', w', r1, q⟩
end Go.Proofs.Ytbnlkfcaahgpmaa

/-
  The contracts of quaysideref03's clock and of its Rises.
-/
namespace Go.Proofs.Ytbnlkfcaahgpmaa
open Go.RowKit
set_option linter.unusedVariables false

theorem grown_setL (w : World) (b : Nat) (v : Value) : w.grownBy (w.setCell ⟨b, 0, none⟩ v) (some b) :=
  ⟨rfl, rfl, rfl, by simp, fun k _ hk => heap_setCell_other w ⟨b, 0, none⟩ k v (fun e => hk (by simp [e]))⟩
theorem grown_reflL (w : World) (b : Nat) : w.grownBy w (some b) := ⟨rfl, rfl, rfl, Nat.le_refl _, fun _ _ _ => rfl⟩

theorem full_iff (n f : Nat) (s : Bool) : full n f s = true ↔ (maxL ≤ max n f ∨ (s = false ∧ topL ≤ max n f)) := by
  cases s <;> simp [full]

end Go.Proofs.Ytbnlkfcaahgpmaa

/-
  The contracts of package lsn: all but See and Rises.
-/
namespace Go.Proofs.Ytbnlkfcaahgpmaa
open Go.RowKit
set_option linter.unusedVariables false

theorem wrap_up (n : Nat) (h : n < 4611686018427387904) : IntKind.u64.wrap ((n : Int) + 1) = ((n + 1 : Nat) : Int) := by
  simp only [IntKind.wrap, IntKind.bits, IntKind.signed]
  simp
  omega

theorem full_top (n f : Nat) (s : Bool) : full n f s = true ↔ (if s then maxL else topL) ≤ max n f := by
  rw [full_iff]
  cases s
  · simp only [maxL, topL, true_and, Bool.false_eq_true, if_false]
    omega
  · simp [maxL]

end Go.Proofs.Ytbnlkfcaahgpmaa

/-
  The code's log in memory: its block, its clock, its tape, its records' row, the frames that wait.
-/
namespace Go.Proofs.Ytbnlkfcaahgpmaa
open Go.RowKit
set_option linter.unusedVariables false

/-- Bytes in a row of their own. -/
def WB (B : Nat) (w : World) (wa : Option Addr) (wc : Nat) (bs : List UInt8) : Prop := w.ownsRow B 5 1 (.slice wa bs.length wc) bs.length (toV bs)
theorem WB.kind {B : Nat} {w : World} {wa : Option Addr} {wc : Nat} {bs : List UInt8} (h : WB B w wa wc bs) : ∀ k, blk wa k → B ≤ k ∧ ∃ cs, RowAt w k 5 cs := by
  rintro k ⟨off, rfl⟩
  rcases h.2 with ⟨e, _⟩ | ⟨g, c, cur, e, hb, hg, _⟩
  · cases e
  · injection e with e1
    injection e1 with e1
    injection e1 with e1
    subst e1
    exact ⟨hb, cur, hg⟩
theorem WB.keep {B : Nat} {w x : World} {wa : Option Addr} {wc : Nat} {bs : List UInt8} (h : WB B w wa wc bs) (hk : ∀ k, blk wa k → x.heap[k]? = w.heap[k]?) : WB B x wa wc bs := by
  refine ⟨h.1, ?_⟩
  rcases h.2 with h4 | ⟨g, c, cur, e, hb, hg, hc⟩
  · exact .inl h4
  · refine .inr ⟨g, c, cur, e, hb, ?_, hc⟩
    injection e with e1
    rw [hk g ⟨0, e1⟩]
    exact hg
theorem WB.nil (B : Nat) (w : World) : WB B w none 0 [] := World.ownsRow_nil _ _ _ _

def lvA (gc gt : Nat) (a : Option Addr) (cap : Nat) (wa : Option Addr) (wn wc : Nat) (g : Lg) : Array Value :=
  #[.pointer (some ⟨gc, 0, none⟩), .pointer (some ⟨gt, 0, none⟩), .slice a g.l.length cap, .int .i64 (g.fa : Int), .int .i64 (g.on : Int), .slice wa wn wc, .int .u64 (g.du : Int), .int .i64 (g.hd : Int)]
/-- Its blocks. -/
def FC (gl gc gt gb : Nat) (a wa : Option Addr) (k : Nat) : Prop := k = gl ∨ k = gc ∨ k = gt ∨ k = gb ∨ blk a k ∨ blk wa k
section
variable {B : Nat} {w x : World} {gl gc gt gb : Nat} {a : Option Addr} {cap : Nat} {ms : List Rm} {wa : Option Addr} {wc : Nat} {bs : List UInt8} {g : Lg}
theorem RB.kind {ms : List Rm} (h : RB B w a cap ms) : ∀ k, blk a k → B ≤ k ∧ ∃ cs, RowAt w k 30 cs := by
  intro k ⟨off, e⟩
  rcases h.1 with ⟨h1, _⟩ | ⟨b, off', cs, h1, h2, h3, _⟩
  · rw [h1] at e
    cases e
  · rw [h1] at e
    injection e with e
    injection e with e
    subst e
    exact ⟨h2, cs, h3⟩
/-- The blocks are apart. -/
structure LVapart (gl gc gt gb : Nat) (a wa : Option Addr) : Prop where
  lc : gl ≠ gc
  lt : gl ≠ gt
  lb : gl ≠ gb
  la : ¬ blk a gl
  lw : ¬ blk wa gl
  ct : gc ≠ gt
  cb : gc ≠ gb
  ca : ¬ blk a gc
  cw : ¬ blk wa gc
  ta : ¬ blk a gt
  tw : ¬ blk wa gt
  ba : ¬ blk a gb
  aw : ∀ k, blk a k → ¬ blk wa k
theorem Turn.tn {gt gb : Nat} {w x : World} (p : Turn gt gb w x) : Tn (fun k => k = gt ∨ k = gb) w x := ⟨p.os, p.tape, p.output, p.size, fun k hk hn => p.block k hk (fun e => hn (.inl e)) (fun e => hn (.inr e))⟩
end
/-- A record's LSN. -/
theorem RB.lsnAt {B : Nat} {w : World} {a : Option Addr} {cap : Nat} {ms : List Rm} (h : RB B w a cap ms) {i : Nat} (hi : i < ms.length) : ∃ b off, a = some ⟨b, off, none⟩ ∧ w.cell? ⟨b, off + i * 14 + 1, none⟩ = some (.int .u64 ((ms.getD i rcZ).1.l : Int)) := by
  rcases h.1 with ⟨_, rfl, _⟩ | ⟨b, off, cs, rfl, _, _, _, _, h5⟩
  · exact absurd hi (by simp)
  · exact ⟨b, off, rfl, h5 i hi 1 _ rfl⟩
end Go.Proofs.Ytbnlkfcaahgpmaa

/-
  Plain facts on what bytes tell of a page: the page cell by cell, of no program.
-/
namespace Go.Proofs.Ytbnlkfcaahgpmaa
open Go.RowKit
set_option linter.unusedVariables false

/-- The first cells of the page that bytes tell. -/
def prefP (bs : List UInt8) (j : Nat) : Pg := ⟨beAt bs 0 8, fun i => decide (i < j) && usedAt (taleOf bs) i, fun i => if i < j then cutAt (taleOf bs) i else ⟨#[]⟩⟩

theorem pref_full (bs : List UInt8) : (prefP bs 8).same (scanP bs) := by
  refine ⟨rfl, fun i hi => ⟨?_, ?_⟩⟩
  · show (decide (i < 8) && usedAt (taleOf bs) i) = usedAt (taleOf bs) i
    simp [hi]
  · show (if i < 8 then cutAt (taleOf bs) i else ⟨#[]⟩) = cutAt (taleOf bs) i
    rw [if_pos hi]

theorem pref_zero (bs : List UInt8) : pgA (prefP bs 0) = pgA ⟨beAt bs 0 8, Pg.zero.u, Pg.zero.s⟩ := by
  refine same_pgA ⟨rfl, fun i hi => ⟨?_, ?_⟩⟩
  · show (decide (i < 0) && usedAt (taleOf bs) i) = false
    simp
  · show (if i < 0 then cutAt (taleOf bs) i else ⟨#[]⟩) = _
    rw [if_neg (by omega)]
    rfl

theorem cut_unused (t : List UInt8) (j : Nat) (h : usedAt t j = false) : cutAt t j = ⟨#[]⟩ := by
  unfold cutAt lenAt
  rw [h]
  simp

theorem pref_skip (bs : List UInt8) (j : Nat) (h : usedAt (taleOf bs) j = false) : pgA (prefP bs (j + 1)) = pgA (prefP bs j) := by
  refine same_pgA ⟨rfl, fun i hi => ⟨?_, ?_⟩⟩
  · show (decide (i < j + 1) && usedAt (taleOf bs) i) = (decide (i < j) && usedAt (taleOf bs) i)
    by_cases hij : i = j
    · subst hij
      simp [h]
    · have e : decide (i < j + 1) = decide (i < j) := decide_eq_decide.2 (by omega)
      rw [e]
  · show (if i < j + 1 then cutAt (taleOf bs) i else ⟨#[]⟩) = if i < j then cutAt (taleOf bs) i else ⟨#[]⟩
    by_cases hij : i = j
    · subst hij
      rw [if_pos (by omega), if_neg (by omega), cut_unused _ _ h]
    · by_cases h2 : i < j
      · rw [if_pos (by omega), if_pos h2]
      · rw [if_neg (by omega), if_neg h2]

theorem pgA_set (p : Pg) (j : Nat) (hj : j < 8) (b : Bool) (s : ByteArray) :
    ((pgA p).setIfInBounds (1 + j * 2) (.bool b)).setIfInBounds (1 + j * 2 + 1) (.string s) = pgA ⟨p.l, fun i => if i = j then b else p.u i, fun i => if i = j then s else p.s i⟩ := by
  rcases lt8 hj with rfl | rfl | rfl | rfl | rfl | rfl | rfl | rfl <;> simp [pgA]

theorem pref_more (bs : List UInt8) (j : Nat) (h : usedAt (taleOf bs) j = true) :
    pgA ⟨(prefP bs j).l, fun i => if i = j then true else (prefP bs j).u i, fun i => if i = j then cutAt (taleOf bs) j else (prefP bs j).s i⟩ = pgA (prefP bs (j + 1)) := by
  refine same_pgA ⟨rfl, fun i hi => ⟨?_, ?_⟩⟩
  · show (if i = j then true else (decide (i < j) && usedAt (taleOf bs) i)) = (decide (i < j + 1) && usedAt (taleOf bs) i)
    by_cases hij : i = j
    · subst hij
      simp [h]
    · have e : decide (i < j + 1) = decide (i < j) := decide_eq_decide.2 (by omega)
      rw [e, if_neg hij]
  · show (if i = j then cutAt (taleOf bs) j else if i < j then cutAt (taleOf bs) i else ⟨#[]⟩) = if i < j + 1 then cutAt (taleOf bs) i else ⟨#[]⟩
    by_cases hij : i = j
    · subst hij
      rw [if_pos rfl, if_pos (by omega)]
    · rw [if_neg hij]
      by_cases h2 : i < j
      · rw [if_pos h2, if_pos (by omega)]
      · rw [if_neg h2, if_neg (by omega)]

theorem pos_le (t : List UInt8) (j : Nat) (h : ∀ k, k < j → lenAt t k ≤ 20) : posAt t j ≤ 10 + 20 * j := by
  induction j with
  | zero => exact Nat.le_refl _
  | succ j ih =>
    have h1 := ih (fun k hk => h k (by omega))
    have h2 := h j (by omega)
    rw [posAt]
    omega

theorem cut_size (t : List UInt8) (j : Nat) (ht : t.length = 240) : (cutAt t j).size = min (lenAt t j) (240 - posAt t j) := by
  unfold cutAt
  rw [size_mk, List.length_take, List.length_drop, ht]

/-- A cell's byte between 21 and 254: no right page. -/
theorem scan_wrong (bs : List UInt8) (j : Nat) (hb : bs.length = 256) (hj : j < 8) (h : ∀ k, k < j → lenAt (taleOf bs) k ≤ 20) (hl : 20 < lenAt (taleOf bs) j) : ¬ (scanP bs).right := by
  intro hr
  have h1 := (hr.2 j hj).1
  have h2 := cut_size (taleOf bs) j (taleOf_length bs hb)
  have h3 := pos_le (taleOf bs) j h
  have h4 : (scanP bs).s j = cutAt (taleOf bs) j := rfl
  rw [h4, h2] at h1
  omega

theorem nAt_str (s : ByteArray) (T : ByteArray) (hT : T = ⟨(taleOf s.data.toList).toArray⟩) (j : Nat) (h : 2 + j < T.size) : T[2 + j].toNat = nAt (taleOf s.data.toList) j := by
  unfold nAt
  rw [← getD_str T (2 + j) h, hT]

theorem cut_str (s : ByteArray) (T : ByteArray) (hT : T = ⟨(taleOf s.data.toList).toArray⟩) (j : Nat) (h : posAt (taleOf s.data.toList) j + lenAt (taleOf s.data.toList) j ≤ T.size) :
    T.extract (posAt (taleOf s.data.toList) j) (posAt (taleOf s.data.toList) j + lenAt (taleOf s.data.toList) j) = cutAt (taleOf s.data.toList) j := by
  rw [extract_eq T _ _ h, hT]
  rfl
theorem len_used (t : List UInt8) (j m : Nat) (hm : nAt t j = m) (h : m ≠ 255) : lenAt t j = m ∧ usedAt t j = true := by
  have hu : usedAt t j = true := by unfold usedAt; rw [hm]; simp [h]
  exact ⟨by unfold lenAt; rw [hu, if_pos rfl, hm], hu⟩
theorem len_unused (t : List UInt8) (j : Nat) (hm : nAt t j = 255) : lenAt t j = 0 ∧ usedAt t j = false := by
  have hu : usedAt t j = false := by unfold usedAt; rw [hm]; simp
  exact ⟨by unfold lenAt; rw [hu]; simp, hu⟩

/-- What 'Decode' answers behind the sum. -/
theorem dec_last (id : Int) (bs : List UInt8) (h0 : 0 ≤ id ∧ id ≤ 31) (hb : bs.length = 256) (ht : tornB bs = false) (hs : leN ((taleOf bs).drop 236) = crc ((taleOf bs).take 236)) :
    decE id bs = if (scanP bs).right ∧ imageB id.toNat (scanP bs) = bs then 0 else 2 := by
  unfold decE
  rw [if_neg (by simpa using h0), if_neg (by omega), if_neg (by omega), if_neg (by simp [ht]), if_neg (by simp [hs])]
end Go.Proofs.Ytbnlkfcaahgpmaa

/-
  What 'Apply' finds and leaves in memory, and what it answers: of no program's function.
-/
namespace Go.Proofs.Ytbnlkfcaahgpmaa
open Go.RowKit
set_option linter.unusedVariables false

/-- What stands at the entry: the page, the change, the result. -/
def AppIn (w : World) (gc gr : Nat) (p : Pg) (c : Ch) (x : World) : Prop :=
  PgAt x w.heap.size p ∧ ChAt x gc c ∧ PgAt x gr Pg.zero ∧ Below w.heap.size w x ∧ w.heap.size < gc ∧ gc < gr
theorem AppIn.later {w x y : World} {gc gr : Nat} {p : Pg} {c : Ch} (h : AppIn w gc gr p c x) (hb : Below x.heap.size x y) : AppIn w gc gr p c y := by
  have l0 : w.heap.size < x.heap.size := (Array.getElem?_eq_some_iff.1 h.1).1
  have l1 := h.2.1.lt
  have l2 : gr < x.heap.size := (Array.getElem?_eq_some_iff.1 h.2.2.1).1
  exact ⟨h.1.below hb l0, h.2.1.below hb l1, h.2.2.1.below hb l2, h.2.2.2.1.trans (hb.mono (Nat.le_of_lt l0)), h.2.2.2.2⟩

theorem app_in (w : World) (p : Pg) (c : Ch) : AppIn w (w.heap.size + 1) (w.heap.size + 1 + 1) p c (((w.alloc (.cells (pgA p) 77)).alloc (.cells (chA c) 26)).alloc (.cells (pgA Pg.zero) 77)) := by
  have e1 : (w.alloc (.cells (pgA p) 77)).heap.size = w.heap.size + 1 := by simp
  have e2 : ((w.alloc (.cells (pgA p) 77)).alloc (.cells (chA c) 26)).heap.size = w.heap.size + 1 + 1 := by simp
  have b1 := (Below.refl w.heap.size w).alloc (Nat.le_refl _) (.cells (pgA p) 77)
  have b2 := (Below.refl _ (w.alloc (.cells (pgA p) 77))).alloc (Nat.le_refl _) (.cells (chA c) 26)
  have b3 := (Below.refl _ ((w.alloc (.cells (pgA p) 77)).alloc (.cells (chA c) 26))).alloc (Nat.le_refl _) (.cells (pgA Pg.zero) 77)
  have r0 : RowAt (w.alloc (.cells (pgA p) 77)) w.heap.size 77 (pgA p) := RowAt.new _ _ _
  have r1 : RowAt ((w.alloc (.cells (pgA p) 77)).alloc (.cells (chA c) 26)) (w.heap.size + 1) 26 (chA c) := by
    have h := RowAt.new (w.alloc (.cells (pgA p) 77)) 26 (chA c)
    rw [e1] at h
    exact h
  have r2 : RowAt (((w.alloc (.cells (pgA p) 77)).alloc (.cells (chA c) 26)).alloc (.cells (pgA Pg.zero) 77)) (w.heap.size + 1 + 1) 77 (pgA Pg.zero) := by
    have h := RowAt.new ((w.alloc (.cells (pgA p) 77)).alloc (.cells (chA c) 26)) 77 (pgA Pg.zero)
    rw [e2] at h
    exact h
  exact ⟨(r0.later b2).later b3, r1.later b3, r2, b1.trans ((b2.mono b1.size).trans (b3.mono (by omega))), by omega, by omega⟩

/-- The page behind the change, in memory. -/
theorem put_mem {w x : World} {gc gr i : Nat} {p : Pg} {c : Ch} (h : AppIn w gc gr p c x) (hi : i < 8) (l : Nat) (u : Bool) (s : ByteArray) :
    PgAt (((x.setCell ⟨w.heap.size, 1 + i * 2, none⟩ (.bool u)).setCell ⟨w.heap.size, 1 + i * 2 + 1, none⟩ (.string s)).setCell ⟨w.heap.size, 0, none⟩ (.int .u64 (l : Int))) w.heap.size (p.put l i u s) ∧
    PgAt (((x.setCell ⟨w.heap.size, 1 + i * 2, none⟩ (.bool u)).setCell ⟨w.heap.size, 1 + i * 2 + 1, none⟩ (.string s)).setCell ⟨w.heap.size, 0, none⟩ (.int .u64 (l : Int))) gr Pg.zero ∧
    Below w.heap.size w (((x.setCell ⟨w.heap.size, 1 + i * 2, none⟩ (.bool u)).setCell ⟨w.heap.size, 1 + i * 2 + 1, none⟩ (.string s)).setCell ⟨w.heap.size, 0, none⟩ (.int .u64 (l : Int))) ∧ w.heap.size < gr := by
  have hg : w.heap.size < gr := by have := h.2.2.2.2; omega
  have h1 := heap_setCell_same x w.heap.size (1 + i * 2) _ _ (.bool u) h.1
  have h2 := heap_setCell_same _ w.heap.size (1 + i * 2 + 1) _ _ (.string s) h1
  rw [pgA_set _ i hi] at h2
  have h3 := heap_setCell_same _ w.heap.size 0 _ _ (.int .u64 (l : Int)) h2
  refine ⟨h3, ((h.2.2.1.other _ _ (by simp; omega)).other _ _ (by simp; omega)).other _ _ (by simp; omega), ?_, hg⟩
  exact ((h.2.2.2.1.setCell (by show w.heap.size ≤ w.heap.size; omega) _).setCell (by show w.heap.size ≤ w.heap.size; omega) _).setCell (by show w.heap.size ≤ w.heap.size; omega) _

/-- What 'Apply' answers, once its arguments are right. -/
theorem app_at (p : Pg) (c : Ch) (l : Nat) (hp : p.right) (hc : c.right) (hl : l ≤ maxP) (hl2 : p.l < l) (i : Nat) (hi : c.at = i) :
    (p.u i = true ∧ c.wantU = false → appE p c l = 6 ∧ appP p c l = Pg.zero) ∧ (p.u i = false ∧ c.wantU = true → appE p c l = 5 ∧ appP p c l = Pg.zero) ∧
    (p.u i = c.wantU → p.s i ≠ c.wantV → appE p c l = 2 ∧ appP p c l = Pg.zero) ∧ (p.u i = c.wantU → p.s i = c.wantV → appE p c l = 0 ∧ appP p c l = p.put l i c.makeU c.makeV) := by
  subst hi
  have hbase : appE p c l = if p.u c.at = true ∧ c.wantU = false then 6 else if p.u c.at = false ∧ c.wantU = true then 5 else if p.s c.at ≠ c.wantV then 2 else 0 := by
    unfold appE
    rw [if_neg (fun h => h ⟨hp, hc, hl⟩), if_neg (by omega)]
  refine ⟨fun h => ?_, fun h => ?_, fun h1 h2 => ?_, fun h1 h2 => ?_⟩
  · have e : appE p c l = 6 := by rw [hbase, if_pos h]
    exact ⟨e, app_no _ _ _ (by rw [e]; decide)⟩
  · have e : appE p c l = 5 := by rw [hbase, if_neg (by rw [h.1]; simp), if_pos h]
    exact ⟨e, app_no _ _ _ (by rw [e]; decide)⟩
  · have e : appE p c l = 2 := by rw [hbase, if_neg (by rw [h1]; intro h; rw [h.1] at h; cases h.2), if_neg (by rw [h1]; intro h; rw [h.1] at h; cases h.2), if_pos h2]
    exact ⟨e, app_no _ _ _ (by rw [e]; decide)⟩
  · have e : appE p c l = 0 := (app_yes p c l).2 ⟨hp, hc, hl, hl2, h1, h2⟩
    exact ⟨e, by unfold appP; rw [if_pos e]⟩
end Go.Proofs.Ytbnlkfcaahgpmaa

/-
  A struct's block that is loaded; a page's cell that is stored.
-/
namespace Go.Proofs.Ytbnlkfcaahgpmaa
open Go.RowKit
set_option linter.unusedVariables false

theorem load_row {P : Program} {b : Nat} {t : TypeId} {cs : Array Value} {d : TypeDesc} (x : World) (h : RowAt x b t cs) (hu : P.underlying t = some d) (hd : (match d with | .struct _ | .array _ _ => true | _ => false) = true) (hi : (P.info? t).map (·.size) = some cs.size) :
    (Instr.loadAt t (.pointer (some ⟨b, 0, none⟩))).run P x = .ok (.agg cs) x := by
  have h1 := run_loadVar_row (P := P) x b t t cs (0, 0) d h hu hd hi
  simp only [Instr.loadAt, Instr.sureAddr, Sem.run_bind, Sem.run_pure, Result.andThen_ok, h1]

theorem put_cell {x : World} {g i : Nat} {p : Pg} (h : PgAt x g p) (hi : i < 8) (u : Bool) (s : ByteArray) : PgAt ((x.setCell ⟨g, 1 + i * 2, none⟩ (.bool u)).setCell ⟨g, 1 + i * 2 + 1, none⟩ (.string s)) g (p.put p.l i u s) := by
  have h1 := heap_setCell_same x g (1 + i * 2) _ _ (.bool u) h
  have h2 := heap_setCell_same _ g (1 + i * 2 + 1) _ _ (.string s) h1
  rw [pgA_set _ i hi] at h2
  exact h2

/-- A cell stored into a page. -/
theorem wpList_store_ce {ops : Array Oper} {rest : List Oper} {o : Oper} {a : Act} {w : World} {Q : Exit → Act → World → Prop} (hgd : o.guard = none) (x y : Operand) (ho : o.op = .store 63 x y)
    (g i : Nat) (hi : i < 8) (p : Pg) (u : Bool) (s : ByteArray) (hx : a.eval x = .pointer (some ⟨g, 1 + i * 2, none⟩)) (hy : a.eval y = .agg (ceA u s)) (hg : PgAt w g p)
    (h : ∀ w2, PgAt w2 g (p.put p.l i u s) → (∀ B w0, Below B w0 w → B ≤ g → Below B w0 w2) → (∀ k t' c', k ≠ g → RowAt w k t' c' → RowAt w2 k t' c') → wpList Try.prog ops Q rest (a.put o.dst undef) w2) : wpList Try.prog ops Q (o :: rest) a w := by
  have q1 := hg.used i hi
  have q2 := hg.val i hi
  have s1 := hg.free (1 + i * 2)
  have s2 := hg.free (1 + i * 2 + 1)
  have h2 := h _ (put_cell hg hi u s) (fun B w0 hb hB => ((hb.setCell (by exact hB) _).setCell (by exact hB) _)) (fun k t' c' hk hr => (hr.other _ _ hk).other _ _ hk)
  refine wpList_step fun K hK => ?_
  have hw : Region.wanted o (yielded ops a.tmps) = true := by unfold Region.wanted; rw [hgd]
  simp only [hw, if_true]
  have hK2 := hK _ _ h2
  clear h h2 hK hg
  unfold Oper.wp execOp
  simp only [ho, hx, hy, ceA]
  go_simp
  exact hK2
end Go.Proofs.Ytbnlkfcaahgpmaa

/-
  The contracts of cmp.Compare, package wal's order, slices.BinarySearchFunc at a log's records.
-/
namespace Go.Proofs.Ytbnlkfcaahgpmaa
open Go.RowKit
set_option linter.unusedVariables false

set_option maxRecDepth 4000 in
set_option maxHeartbeats 400000 in
theorem nan9 (x : Nat) (w : World) : Calls Try.prog 65 #[.int .u64 (x : Int)] w fun e w' => e = .returned (.bool false) ∧ w = w' := by
  go_enter Try.func65, Try.ntmps65
  go_wp2
  go_ret
  simp
/-- What Compare answers. -/
def cmpI (x y : Nat) : Int := if x < y then -1 else if y < x then 1 else 0
set_option maxRecDepth 4000 in
set_option maxHeartbeats 400000 in
theorem cmp9 (x y : Nat) (w : World) : Calls Try.prog 49 #[.int .u64 (x : Int), .int .u64 (y : Int)] w fun e w' => e = .returned (.int .i64 (cmpI x y)) ∧ w = w' := by
  have HN := hide (fun z w => nan9 z w)
  unfold cmpI
  by_cases h1 : x < y
  · rw [if_pos h1]
    have i1 : (x : Int) < (y : Int) := by omega
    go_enter Try.func49, Try.ntmps49
    go_wp2_with fail
    refine (HN.out x w).mono ?_
    rintro e w1 ⟨rfl, rfl⟩
    go_wp2_with fail
    refine (HN.out y w).mono ?_
    rintro e w1 ⟨rfl, rfl⟩
    go_wp2
    go_ret
    exact ⟨rfl, rfl⟩
  · rw [if_neg h1]
    by_cases h2 : y < x
    · rw [if_pos h2]
      have i1 : ¬ (x : Int) < (y : Int) := by omega
      have i2 : (y : Int) < (x : Int) := by omega
      go_enter Try.func49, Try.ntmps49
      go_wp2_with fail
      refine (HN.out x w).mono ?_
      rintro e w1 ⟨rfl, rfl⟩
      go_wp2_with fail
      refine (HN.out y w).mono ?_
      rintro e w1 ⟨rfl, rfl⟩
      go_wp2
      go_ret
      exact ⟨rfl, rfl⟩
    · rw [if_neg h2]
      have i1 : ¬ (x : Int) < (y : Int) := by omega
      have i2 : ¬ (y : Int) < (x : Int) := by omega
      go_enter Try.func49, Try.ntmps49
      go_wp2_with fail
      refine (HN.out x w).mono ?_
      rintro e w1 ⟨rfl, rfl⟩
      go_wp2_with fail
      refine (HN.out y w).mono ?_
      rintro e w1 ⟨rfl, rfl⟩
      go_wp2
      go_ret
      exact ⟨rfl, rfl⟩
/-- Where a number stands, or would. -/
theorem cmpI_lt (x y : Nat) : (cmpI x y < 0 ↔ x < y) ∧ (cmpI x y = 0 ↔ x = y) := by
  unfold cmpI
  split
  · constructor <;> omega
  · split
    · constructor <;> omega
    · constructor <;> omega

/-- What the search tells. -/
def Found9 (ms : List Rm) (n : Nat) (w : World) (e : Ending) (w' : World) : Prop := ∃ i : Nat, ∃ q : Bool, e = .returned (.tuple #[.int .i64 (i : Int), .bool q]) ∧ (q = true → i < ms.length ∧ (ms.getD i rcZ).1.l = n) ∧ (q = false → ∀ j, j < ms.length → (ms.getD j rcZ).1.l ≠ n) ∧ Below w.heap.size w w'
end Go.Proofs.Ytbnlkfcaahgpmaa

/-
  The contract of txn.find: where a number stands in a log.
-/
namespace Go.Proofs.Ytbnlkfcaahgpmaa
open Go.RowKit
set_option linter.unusedVariables false

theorem rise_get15 : ∀ (l : List Rec) (a : Nat), Rise a l → ∀ p q, p < q → q < l.length → (l.getD p Rec.zero).l < (l.getD q Rec.zero).l
  | [], _, _, _, _, _, h => absurd h (by simp)
  | r :: rs, a, h, 0, q + 1, _, hq => by
    have hm : rs.getD q Rec.zero ∈ rs := getD_mem _ _ _ (by simpa using hq)
    have := (rise_mem15 rs r.l h.2.2 _ hm).1
    simpa [List.getD] using this
  | r :: rs, a, h, p + 1, q + 1, hpq, hq => by
    have := rise_get15 rs r.l h.2.2 p q (by omega) (by simpa using hq)
    simpa [List.getD] using this
  | r :: rs, a, h, p, 0, hpq, _ => absurd hpq (by omega)
set_option maxRecDepth 4000 in
set_option maxHeartbeats 400000 in
theorem order15 (r : Rec) (va vb : Value) (n : Nat) (w : World) : Calls Try.prog 48 #[.agg (rcA r va vb), .int .u64 (n : Int)] w fun e w' => e = .returned (.int .i64 (cmpI r.l n)) ∧ Below w.heap.size w w' := by
  have c1 := (RowAt.new w 30 (rcA r va vb)).cell 1 (.int .u64 (r.l : Int)) rfl
  have HB := hide ((Below.refl w.heap.size w).alloc (Nat.le_refl _) (.cells (rcA r va vb) 30))
  have HC := hide (fun w => cmp9 r.l n w)
  generalize cmpI r.l n = c at *
  generalize rcA r va vb = A at *
  go_enter Try.func48, Try.ntmps48
  go_wp2_with fail
  refine (HC.out _).mono ?_
  rintro e w1 ⟨rfl, rfl⟩
  go_wp2
  go_ret
  exact ⟨rfl, HB.out⟩
/-- What the search tells. -/
def Found15 (ms : List (Rec × Value × Value)) (n : Nat) (w : World) (e : Ending) (w' : World) : Prop := ∃ i : Nat, ∃ q : Bool, e = .returned (.tuple #[.int .i64 (i : Int), .bool q]) ∧ (q = true → i < ms.length ∧ (ms.getD i rcZ).1.l = n) ∧ (q = false → ∀ j, j < ms.length → (ms.getD j rcZ).1.l ≠ n) ∧ Below w.heap.size w w'
set_option maxRecDepth 8000 in
set_option maxHeartbeats 1600000 in
theorem search15 (a : Option Addr) (cap : Nat) (ms : List (Rec × Value × Value)) (n : Nat) (w : World) (h : RsIn w (.slice a ms.length cap) ms) (hm : ∀ p q, p < q → q < ms.length → (ms.getD p rcZ).1.l < (ms.getD q rcZ).1.l) (hl : ms.length ≤ 100000) (hcap : ms.length ≤ cap) :
    Calls Try.prog 47 #[.slice a ms.length cap, .int .u64 (n : Int), .func (.func 48) #[] #[]] w (Found15 ms n w) := by
  have H := hide h
  have HM := hide hm
  obtain ⟨ln, hln⟩ : ∃ ln, ln = ms.length := ⟨_, rfl⟩
  rw [← hln] at H HM hl hcap ⊢
  have HLN := hide hln
  clear hln h hm
  go_enter Try.func47, Try.ntmps47
  go_wp2
  go_loopw [9, 10, 11] (fun i j _ wr => ∃ p q : Nat, p ≤ q ∧ q ≤ ln ∧ i = .int .i64 (p : Int) ∧ j = .int .i64 (q : Int) ∧ Hid ((∀ k, k < p → (ms.getD k rcZ).1.l < n) ∧ (∀ k, q ≤ k → k < ln → n ≤ (ms.getD k rcZ).1.l)) ∧ Hid (Below w.heap.size w wr)) (fun i j _ _ => (intOf j).toNat - (intOf i).toNat)
  case atStart => exact ⟨0, ln, Nat.zero_le _, Nat.le_refl _, rfl, rfl, ⟨fun k hk => absurd hk (Nat.not_lt_zero _), fun k h1 h2 => absurd h1 (by omega)⟩, Below.refl _ _⟩
  case round =>
    obtain ⟨p, q, hpq, hq, rfl, rfl, HPQ, HB⟩ := hrel
    by_cases hlt : p < q
    · have ipq : (p : Int) < (q : Int) := by omega
      obtain ⟨hh, hhd⟩ : ∃ hh, hh = (p + q) / 2 := ⟨_, rfl⟩
      have eh : ((p : Int) + (q : Int)) / 2 = (hh : Int) := by omega
      have h1 : p ≤ hh := by omega
      have h2 : hh < q := by omega
      have hhl : (hh : Int) < (ln : Int) := by omega
      obtain ⟨b, off, rfl, hbl, hrg, hft, hin⟩ := H.out.at (i := hh) (by have := HLN.out; omega)
      obtain ⟨m, hm⟩ : ∃ m, m = ms.getD hh rcZ := ⟨_, rfl⟩
      rw [← hm] at hrg
      have HMM := hide hm
      clear hm hft hin hhd
      have HLD := hide (load_mid wr b (off + hh * 14) m (rangeAt_below hrg HB.out hbl))
      clear hrg
      by_cases hlo : m.1.l < n
      · have ilo : cmpI m.1.l n < 0 := (cmpI_lt _ _).1.2 hlo
        have HO := hide (fun w => order15 m.1 m.2.1 m.2.2 n w)
        generalize cmpI m.1.l n = c at *
        go_wp2_with (refine wpList_load_val rfl 30 (.tmp 27) rfl _ _ rfl HLD.out ?_)
        refine (HO.out wr).mono ?_
        rintro e w1 ⟨rfl, hb1⟩
        have HB1 := hide (HB.out.trans (hb1.mono HB.out.size))
        clear hb1 HB HLD HO
        go_wp2
        go_roundw
        case rel =>
          refine ⟨hh + 1, q, by omega, hq, by go_num, rfl, ⟨fun k hk => ?_, HPQ.out.2⟩, HB1.out⟩
          rcases Nat.lt_or_ge k hh with hk2 | hk2
          · have := HM.out k hh hk2 (by omega)
            rw [← HMM.out] at this
            omega
          · obtain rfl : k = hh := by omega
            rw [← HMM.out]
            exact hlo
        case measure => simp [intOf]; omega
      · have ilo : ¬ cmpI m.1.l n < 0 := fun h => hlo ((cmpI_lt _ _).1.1 h)
        have HO := hide (fun w => order15 m.1 m.2.1 m.2.2 n w)
        generalize cmpI m.1.l n = c at *
        go_wp2_with (refine wpList_load_val rfl 30 (.tmp 27) rfl _ _ rfl HLD.out ?_)
        refine (HO.out wr).mono ?_
        rintro e w1 ⟨rfl, hb1⟩
        have HB1 := hide (HB.out.trans (hb1.mono HB.out.size))
        clear hb1 HB HLD HO
        go_wp2
        go_roundw
        case rel =>
          refine ⟨p, hh, h1, by omega, rfl, rfl, ⟨HPQ.out.1, fun k hk hk2 => ?_⟩, HB1.out⟩
          rcases Nat.lt_or_ge hh k with hk3 | hk3
          · have := HM.out hh k hk3 hk2
            rw [← HMM.out] at this
            omega
          · obtain rfl : k = hh := by omega
            rw [← HMM.out]
            omega
        case measure => simp [intOf]; omega
    · obtain rfl : p = q := by omega
      by_cases hpl : p < ln
      · have ipl : (p : Int) < (ln : Int) := by omega
        obtain ⟨b, off, rfl, hbl, hrg, hft, hin⟩ := H.out.at (i := p) (by have := HLN.out; omega)
        obtain ⟨m, hm⟩ : ∃ m, m = ms.getD p rcZ := ⟨_, rfl⟩
        rw [← hm] at hrg
        have HMM := hide hm
        clear hm hft hin
        have HLD := hide (load_mid wr b (off + p * 14) m (rangeAt_below hrg HB.out hbl))
        clear hrg
        have HO := hide (fun w => order15 m.1 m.2.1 m.2.2 n w)
        by_cases heq : m.1.l = n
        · have ieq : (cmpI m.1.l n == 0) = true := by rw [beq_iff_eq]; exact (cmpI_lt _ _).2.2 heq
          generalize cmpI m.1.l n = c at *
          go_wp2_with (refine wpList_load_val rfl 30 (.tmp 43) rfl _ _ rfl HLD.out ?_)
          refine (HO.out wr).mono ?_
          rintro e w1 ⟨rfl, hb1⟩
          have HB1 := hide (HB.out.trans (hb1.mono HB.out.size))
          clear hb1 HB HLD HO
          go_wp2
          go_ret2
          exact ⟨p, true, rfl, fun _ => ⟨by have := HLN.out; omega, by rw [← HMM.out]; exact heq⟩, fun h => (nomatch h), HB1.out⟩
        · have ieq : (cmpI m.1.l n == 0) = false := by rw [beq_eq_false_iff_ne]; exact fun h => heq ((cmpI_lt _ _).2.1 h)
          generalize cmpI m.1.l n = c at *
          go_wp2_with (refine wpList_load_val rfl 30 (.tmp 43) rfl _ _ rfl HLD.out ?_)
          refine (HO.out wr).mono ?_
          rintro e w1 ⟨rfl, hb1⟩
          have HB1 := hide (HB.out.trans (hb1.mono HB.out.size))
          clear hb1 HB HLD HO
          go_wp2
          go_ret2
          refine ⟨p, false, rfl, fun h => (nomatch h), fun _ j hj => ?_, HB1.out⟩
          rcases Nat.lt_trichotomy j p with h3 | h3 | h3
          · have := HPQ.out.1 j h3
            omega
          · rw [h3, ← HMM.out]
            exact heq
          · have h4 := HM.out p j h3 (by have := HLN.out; omega)
            have h5 := HPQ.out.2 p (Nat.le_refl _) hpl
            omega
      · have ipl : ¬ (p : Int) < (ln : Int) := by omega
        go_wp2
        go_ret2
        refine ⟨p, false, rfl, fun h => (nomatch h), fun _ j hj => ?_, HB.out⟩
        have := HPQ.out.1 j (by have := HLN.out; omega)
        omega
/-- A log's record of a number, by its place. -/
def At15 (ms : List (Rec × Value × Value)) (n : Nat) (w : World) (e : Ending) (w' : World) : Prop := ∃ i : Nat, ∃ q : Bool, e = .returned (.tuple #[.int .i64 (i : Int), .bool q]) ∧ ((q = true ∧ i < ms.length ∧ (ms.getD i rcZ).1.l = n) ∨ (q = false ∧ ∀ r ∈ msR ms, r.l ≠ n)) ∧ Below w.heap.size w w'
theorem mem_get15 {ms : List (Rec × Value × Value)} {r : Rec} (h : r ∈ msR ms) : ∃ j, j < ms.length ∧ (ms.getD j rcZ).1 = r := by
  obtain ⟨j, hj, rfl⟩ := List.mem_iff_getElem.1 h
  rw [msR_len] at hj
  refine ⟨j, hj, ?_⟩
  rw [← msR_get, List.getD_eq_getElem?_getD, List.getElem?_eq_getElem (by rw [msR_len]; exact hj)]
  rfl
set_option maxRecDepth 4000 in
theorem find15 (v : Value) (ms : List (Rec × Value × Value)) (n : Nat) (w : World) (h : LogIn w v ms) (hr : Rise 0 (msR ms)) :
    Calls Try.prog 31 #[v, .int .u64 (n : Int)] w (At15 ms n w) := by
  obtain ⟨a, c, rfl, hlc⟩ := h.slice
  have HF := hide (search15 a c ms n w h.rs (fun p q hpq hq => by
    rw [← msR_get, ← msR_get]
    exact rise_get15 _ 0 hr p q hpq (by rw [msR_len]; exact hq)) (by have := h.few; omega) hlc)
  clear h hr hlc
  generalize hln : ms.length = ln at *
  have HN := hide hln
  clear hln
  go_enter Try.func31, Try.ntmps31
  go_wp2_with fail
  refine HF.out.mono ?_
  rintro e w1 ⟨i, q, rfl, h1, h2, hb⟩
  have H := hide (And.intro h1 (And.intro h2 hb))
  clear h1 h2 hb HF
  go_wp2
  go_ret2
  refine ⟨i, q, rfl, ?_, H.out.2.2⟩
  cases q with
  | true => exact .inl ⟨rfl, H.out.1 rfl⟩
  | false =>
    refine .inr ⟨rfl, fun r hr => ?_⟩
    obtain ⟨j, h3, h4⟩ := mem_get15 hr
    rw [← h4]
    exact H.out.2.1 rfl j h3
end Go.Proofs.Ytbnlkfcaahgpmaa

/-
  The contract of txn.next: the way from record to record.
-/
namespace Go.Proofs.Ytbnlkfcaahgpmaa
open Go.RowKit
set_option linter.unusedVariables false

/-- What of a record is looked at. -/
theorem rec_cells {x : World} {b o : Nat} {m : Rec × Value × Value} (h : x.rangeAt b o (rcF m).toList) : x.cell? ⟨b, o, none⟩ = some (.int .i64 m.1.k) ∧ x.cell? ⟨b, o + 2, none⟩ = some (.int .i64 m.1.t) ∧ x.cell? ⟨b, o + 3, none⟩ = some (.int .u64 (m.1.p : Int)) ∧ x.cell? ⟨b, o + 9, none⟩ = some (.int .u64 (m.1.n : Int)) := ⟨h 0 _ rfl, h 2 _ rfl, h 3 _ rfl, h 9 _ rfl⟩
set_option maxRecDepth 8000 in
set_option maxHeartbeats 3200000 in
theorem next15 (v : Value) (ms : List (Rec × Value × Value)) (n : Nat) (w : World) (h : LogIn w v ms) (hr : Rise 0 (msR ms)) :
    Calls Try.prog 30 #[v, .int .u64 (n : Int)] w fun e w' => e = .returned (.int .u64 (nextT (msR ms) n : Int)) ∧ Below w.heap.size w w' := by
  have HA := hide h
  have HR := hide hr
  obtain ⟨aa, ca, rfl, hlc⟩ := h.slice
  have hl := h.few
  have HF := hide (fun k x (hx : Below w.heap.size w x) => find15 _ ms k x (h.below hx) hr)
  clear h hr
  obtain ⟨ln, hln⟩ : ∃ ln, ln = ms.length := ⟨_, rfl⟩
  rw [← hln] at HA HF hl hlc ⊢
  have HN := hide hln
  clear hln
  obtain ⟨q, hq⟩ : ∃ q, q = nextT (msR ms) n := ⟨_, rfl⟩
  have HQ := hide hq
  rw [← hq]
  clear hq
  go_enter Try.func30, Try.ntmps30
  go_wp2
  go_step3
  go_wp2
  go_step3
  go_wp2
  go_loopw [1] (fun i wr => ∃ (j : Nat), i = .int .u64 (j : Int) ∧ Hid (q = nextT (msR ms) j) ∧ Hid (Below w.heap.size w wr)) (fun i _ => (intOf i).toNat)
  case atStart => exact ⟨n, rfl, HQ.out, Below.refl _ _⟩
  case round =>
    obtain ⟨j, rfl, HQJ, HBR⟩ := hrel
    have HC := hide (HF.out j wr HBR.out)
    go_wp2_with fail
    refine HC.out.mono ?_
    rintro e w1 ⟨i, f, rfl, hcase, hb1⟩
    have HB1 := hide (HBR.out.trans (hb1.mono HBR.out.size))
    clear hb1 HBR HC
    rcases hcase with ⟨rfl, hi, he⟩ | ⟨rfl, hno⟩
    · obtain ⟨b, off, rfl, hf, hm0, hx⟩ := HA.out.mid hi
      have hmem := msR_mem hi
      obtain ⟨m, hm⟩ : ∃ m, m = ms.getD i rcZ := ⟨_, rfl⟩
      rw [← hm] at hf hx hm0 hmem he
      have hmR := rise_right _ 0 HR.out _ hmem
      have HST := hide (show nextT (msR ms) m.1.l = stepT (msR ms) m.1 from nextT_step HR.out hmem)
      have HJ := hide he
      have hlp := right_prev hmR
      have hln2 := right_next hmR
      obtain ⟨c0, c2, c3, c9⟩ := rec_cells (hx w1 HB1.out).1
      rw [he] at HST hlp hln2
      have ij : (i : Int) < (ln : Int) := by have := HN.out; omega
      clear hf hx hm0 hm hmem hmR he hi
      by_cases k1 : m.1.k = 1
      · go_wp2
        (try rw [Exit.noGoto_ret])
        go_ret
        refine ⟨?_, HB1.out⟩
        rw [HQJ.out, HST.out, stepT, if_pos k1, HJ.out]
        rfl
      · by_cases k2 : m.1.k = 2
        · go_wp2
          go_roundw
          case rel =>
            refine ⟨m.1.n, rfl, ?_, HB1⟩
            rw [HQJ.out, HST.out, stepT, if_neg k1, if_pos k2]
            exact rfl
          case measure => simp [intOf] <;> omega
        · go_wp2
          go_roundw
          case rel =>
            refine ⟨m.1.p, rfl, ?_, HB1⟩
            rw [HQJ.out, HST.out, stepT, if_neg k1, if_neg k2]
            exact rfl
          case measure => simp [intOf] <;> omega
    · go_wp2
      (try rw [Exit.noGoto_ret])
      go_ret
      refine ⟨?_, HB1.out⟩
      rw [HQJ.out, nextT_none hno]
      rfl
end Go.Proofs.Ytbnlkfcaahgpmaa

/-
  The contracts of package page's Right and of what it calls.
-/
namespace Go.Proofs.Ytbnlkfcaahgpmaa
open Go.RowKit
set_option linter.unusedVariables false

set_option maxRecDepth 4000 in
set_option maxHeartbeats 400000 in
theorem rightCell_any (u : Bool) (s : ByteArray) (w : World) :
    Calls Try.prog 69 #[.agg (ceA u s)] w fun e w' => e = .returned (.bool (decide (cellOk u s))) ∧ Below w.heap.size w w' := by
  have hb0 : Below w.heap.size w (w.alloc (.cells (ceA u s) 63)) := (Below.refl _ _).alloc (Nat.le_refl _) _
  have hr := RowAt.new w 63 (ceA u s)
  have c0 := hr.cell 0 (.bool u) rfl
  have c1 := hr.cell 1 (.string s) rfl
  clear hr
  cases u with
  | true =>
    have e : decide (cellOk true s) = decide ((s.size : Int) ≤ 20) := decide_eq_decide.2 ⟨fun h => by have := h.1; omega, fun h => ⟨by omega, by simp⟩⟩
    have HE := hide e
    clear e
    go_enter Try.func69, Try.ntmps69
    go_wp2
    go_ret
    rw [HE.out]
    exact ⟨rfl, hb0⟩
  | false =>
    have e : decide (cellOk false s) = s.toList.isEmpty := by
      rw [Bool.eq_iff_iff, empty_iff, decide_eq_true_eq]
      exact ⟨fun h => h.2 rfl, fun h => ⟨by omega, fun _ => h⟩⟩
    have HE := hide e
    clear e
    go_enter Try.func69, Try.ntmps69
    go_wp2
    go_ret
    rw [HE.out]
    exact ⟨rfl, hb0⟩

/-- The cells' test. -/
abbrev Pg.cellsOk (p : Pg) : Prop := ∀ i, i < 8 → cellOk (p.u i) (p.s i)
theorem cells_no (p : Pg) (j : Nat) (hj : j < 8) (h : ¬ cellOk (p.u j) (p.s j)) : decide p.cellsOk = false := by
  rw [decide_eq_false_iff_not]
  intro hp
  exact h (hp j hj)
theorem cells_more {p : Pg} {j : Nat} (h : ∀ k, k < j → cellOk (p.u k) (p.s k)) (hj : cellOk (p.u j) (p.s j)) : ∀ k, k < j + 1 → cellOk (p.u k) (p.s k) := by
  intro k hk
  by_cases hkj : k = j
  · subst hkj
    exact hj
  · exact h k (by omega)

set_option maxRecDepth 4000 in
set_option maxHeartbeats 400000 in
theorem rightCells_any (p : Pg) (w : World) :
    Calls Try.prog 56 #[.agg (csA p)] w fun e w' => e = .returned (.bool (decide p.cellsOk)) ∧ Below w.heap.size w w' := by
  have hb0 : Below w.heap.size w (w.alloc (.cells (csA p) 75)) := (Below.refl _ _).alloc (Nat.le_refl _) _
  have hr := hide (RowAt.new w 75 (csA p))
  go_enter Try.func56, Try.ntmps56
  go_wp2_with (refine wpList_load_at rfl 75 (.tmp 1) rfl w.heap.size rfl (csA p) hr.out _ Try.underlying75 rfl infoCs ?_)
  go_loopw [6] (fun i wr => ∃ j : Nat, j ≤ 8 ∧ i = .int .i64 j ∧ Below w.heap.size w wr ∧ ∀ k, k < j → cellOk (p.u k) (p.s k)) (fun i _ => 8 - (intOf i).toNat)
  case atStart => exact ⟨0, Nat.zero_le _, rfl, hb0, fun k hk => absurd hk (by omega)⟩
  case round =>
    obtain ⟨j, hj, rfl, hbr, hok⟩ := hrel
    clear hb0 hr
    by_cases hlt : j < 8
    · have R := rightCell_any (p.u j) (p.s j)
      have HK := hide hok
      clear hok
      by_cases hc : cellOk (p.u j) (p.s j)
      · have HR := hide (fun w => (show Calls Try.prog 69 #[.agg (ceA (p.u j) (p.s j))] w fun e w' => e = .returned (.bool true) ∧ Below w.heap.size w w' by have := R w; rwa [decide_eq_true hc] at this))
        have HY := hide (cells_more HK.out hc)
        clear R hc HK
        go_wp2_with (first | (refine wpList_index_cs rfl (.tmp 5) (.tmp 6) rfl p j hlt rfl rfl ?_) | (refine wpList_store_at rfl 63 (.tmp 4) (.tmp 8) rfl wr.heap.size (ceA false ⟨#[]⟩) (ceA (p.u j) (p.s j)) rfl rfl (RowAt.new wr 63 _) infoCe rfl (ceA_one _ _) ?_))
        intro w2 hr2 hk2 _
        have d2 := hk2 _ _ (hbr.alloc hbr.size _) hbr.size
        have HR2 := hide hr2
        clear hr2 hk2 hbr
        go_wp2_with (refine wpList_load_at rfl 63 (.tmp 4) rfl wr.heap.size rfl (ceA (p.u j) (p.s j)) HR2.out _ Try.underlying63 rfl infoCe ?_)
        refine (HR.out _).mono ?_
        rintro e w3 ⟨rfl, hb3⟩
        have d3 := d2.trans (hb3.mono d2.size)
        clear d2 hb3 HR HR2
        go_wp2
        go_roundw
        case rel => exact ⟨j + 1, by omega, by go_num, d3, HY.out⟩
        case measure => simp [intOf]; omega
      · have HR := hide (fun w => (show Calls Try.prog 69 #[.agg (ceA (p.u j) (p.s j))] w fun e w' => e = .returned (.bool false) ∧ Below w.heap.size w w' by have := R w; rwa [decide_eq_false hc] at this))
        have HN := hide (cells_no p j hlt hc)
        clear R hc HK
        go_wp2_with (first | (refine wpList_index_cs rfl (.tmp 5) (.tmp 6) rfl p j hlt rfl rfl ?_) | (refine wpList_store_at rfl 63 (.tmp 4) (.tmp 8) rfl wr.heap.size (ceA false ⟨#[]⟩) (ceA (p.u j) (p.s j)) rfl rfl (RowAt.new wr 63 _) infoCe rfl (ceA_one _ _) ?_))
        intro w2 hr2 hk2 _
        have d2 := hk2 _ _ (hbr.alloc hbr.size _) hbr.size
        have HR2 := hide hr2
        clear hr2 hk2 hbr
        go_wp2_with (refine wpList_load_at rfl 63 (.tmp 4) rfl wr.heap.size rfl (ceA (p.u j) (p.s j)) HR2.out _ Try.underlying63 rfl infoCe ?_)
        refine (HR.out _).mono ?_
        rintro e w3 ⟨rfl, hb3⟩
        have d3 := d2.trans (hb3.mono d2.size)
        clear d2 hb3 HR HR2
        go_wp2
        go_ret
        rw [HN.out]
        exact ⟨rfl, d3⟩
    · obtain rfl : j = 8 := by omega
      have HE := hide (decide_eq_true (show p.cellsOk from hok))
      clear hok
      go_wp2
      go_ret
      rw [HE.out]
      exact ⟨rfl, hbr⟩

set_option maxRecDepth 4000 in
set_option maxHeartbeats 400000 in
theorem right_any (p : Pg) (w : World) :
    Calls Try.prog 35 #[.agg (pgA p)] w fun e w' => e = .returned (.bool (decide p.right)) ∧ Below w.heap.size w w' := by
  have hP : PgAt (w.alloc (.cells (pgA p) 77)) w.heap.size p := heap_alloc_new w _
  have hb0 : Below w.heap.size w (w.alloc (.cells (pgA p) 77)) := (Below.refl _ _).alloc (Nat.le_refl _) _
  have c0 := hP.lsn
  have HP := hide hP
  clear hP
  have e2 : maxP = 4611686018427387904 := rfl
  by_cases h : (p.l : Int) ≤ 4611686018427387904
  · have e : decide p.right = decide p.cellsOk := decide_eq_decide.2 ⟨fun h => h.2, fun g => ⟨by omega, g⟩⟩
    have HR := hide (rightCells_any p)
    rw [e]
    clear e e2
    generalize decide p.cellsOk = r at *
    go_enter Try.func35, Try.ntmps35
    go_wp2_with (refine wpList_load_cs rfl (.tmp 7) rfl w.heap.size rfl p HP.out ?_)
    refine (HR.out _).mono ?_
    rintro e w1 ⟨rfl, hb1⟩
    have d1 := hb0.trans (hb1.mono hb0.size)
    clear hb0 hb1 HR HP c0
    go_wp2
    go_ret
    exact ⟨rfl, d1⟩
  · have e : decide p.right = false := by
      rw [decide_eq_false_iff_not]
      intro h1
      have := h1.1
      omega
    rw [e]
    clear e e2
    have h1 : ((p.l : Int) ≤ 4611686018427387904) = False := by simpa using h
    clear h
    go_enter Try.func35, Try.ntmps35
    go_wp2
    go_ret
    exact ⟨rfl, hb0⟩
end Go.Proofs.Ytbnlkfcaahgpmaa

/-
  The contract of package change's Apply.
-/
namespace Go.Proofs.Ytbnlkfcaahgpmaa
open Go.RowKit
set_option linter.unusedVariables false

theorem load_ch {b : Nat} {c : Ch} (x : World) (h : ChAt x b c) : (Instr.loadAt 26 (.pointer (some ⟨b, 0, none⟩))).run Try.prog x = .ok (.agg (chA c)) x := by
  have h1 := run_loadVar_row (P := Try.prog) x b 26 26 (chA c) (0, 0) _ h Try.underlying26 rfl infoCh
  simp only [Instr.loadAt, Instr.sureAddr, Sem.run_bind, Sem.run_pure, Result.andThen_ok, h1]
theorem pg_ext (p : Pg) (i : Nat) (hi : i < 8) : ((pgA p).extract (1 + i * 2) (1 + i * 2 + 2)).toList = (ceA (p.u i) (p.s i)).toList := by
  rcases lt8 hi with rfl | rfl | rfl | rfl | rfl | rfl | rfl | rfl <;> simp [pgA, ceA]
theorem load_ce {b : Nat} {p : Pg} (x : World) (i : Nat) (hi : i < 8) (h : PgAt x b p) : (Instr.loadAt 63 (.pointer (some ⟨b, 1 + i * 2, none⟩))).run Try.prog x = .ok (.agg (ceA (p.u i) (p.s i))) x := by
  have hr := World.rangeAt_of_block h (1 + i * 2) 2
  rw [pg_ext p i hi] at hr
  have h1 := run_loadAt_mid (P := Try.prog) x b (1 + i * 2) 63 _ _ hr Try.underlying63 rfl infoCe
  rwa [Array.toArray_toList] at h1
theorem load_slot {b : Nat} {c : Ch} (x : World) (i : Nat) (hi : c.sl = (i : Int)) (h : ChAt x b c) : (Instr.loadAt 3 (.pointer (some ⟨b, 2, none⟩))).run Try.prog x = .ok (.int .i64 (i : Int)) x := by
  have h1 := h.all.2.2.1
  rw [hi] at h1
  go_simp

/-- What 'Apply' answers, once its arguments are right: by 'refusal'. -/
theorem app_ref (p : Pg) (c : Ch) (l : Nat) (hp : p.right) (hc : c.right) (hl : l ≤ maxP) (hl2 : p.l < l) : appE p c l = refE (p.u c.at) (p.s c.at) c := by
  have hv : c.k = 1 → c.o = ⟨#[]⟩ := fun h => by
    rcases hc.2 with h1 | h1 | h1
    · exact size0 _ h1.2
    · omega
    · omega
  unfold appE refE Ch.wantU Ch.wantV
  rw [if_neg (fun h => h ⟨hp, hc, hl⟩), if_neg (by omega)]
  by_cases k : c.k = 1
  · rw [if_pos k, if_pos k, hv k]
    cases p.u c.at <;> simp [k]
  · rw [if_neg k, if_neg k]
    cases p.u c.at <;> simp [k]

theorem AppIn.drew {w x : World} {gc gr : Nat} {p : Pg} {c : Ch} (h : AppIn w gc gr p c x) : AppIn w gc gr p c x.drew := ⟨h.1, h.2.1, h.2.2.1, below_dn h.2.2.2.1 1, h.2.2.2.2⟩

set_option maxRecDepth 4000 in
set_option maxHeartbeats 1600000 in
theorem app_go (p : Pg) (c : Ch) (l : Nat) (w : World) (hp : p.right) (hc : c.right) (hl : l ≤ maxP) (hl2 : p.l < l) :
    Calls Try.prog 26 #[.agg (pgA p), .agg (chA c), .int .u64 l] w fun e w' => e = .returned (.tuple #[.agg (pgA (appP p c l)), .int .i64 (appE p c l)]) ∧ Below w.heap.size w w' := by
  have H0 := hide (app_in w p c)
  have HR1 := hide (fun w => right_any p w)
  have HR2 := hide (fun w => cright_at c w true (hide (decide_eq_true hc)))
  rw [decide_eq_true hp] at HR1
  have i1 : ((4611686018427387904 : Int) < (l : Int)) = False := eq_false (by unfold maxP at hl; omega)
  have i2 : ¬ (l : Int) ≤ (p.l : Int) := by omega
  obtain ⟨i, hi⟩ := Int.eq_ofNat_of_zero_le hc.1.2.2.1
  have hi8 : i < 8 := by have := hc.1.2.2.2.1; omega
  have hat : c.at = i := by unfold Ch.at; rw [hi]; rfl
  have HF := hide (fun w => refuse_at (p.u i) (p.s i) c w (appE p c l) (hide (by rw [app_ref p c l hp hc hl hl2, hat])))
  have HE0 := hide (fun h : appE p c l = 0 => show appP p c l = p.put l i c.makeU c.makeV by unfold appP; rw [if_pos h, hat])
  have HE1 := hide (app_no p c l)
  clear hp hc hl hl2 hat
  generalize appE p c l = er at *
  generalize appP p c l = rp at *
  go_enter Try.func26, Try.ntmps26
  obtain ⟨gc, h1⟩ : ∃ g, g = w.heap.size + 1 := ⟨_, rfl⟩
  obtain ⟨gr, h2⟩ : ∃ g, g = w.heap.size + 1 + 1 := ⟨_, rfl⟩
  rw [← h2, ← h1] at H0
  go_wp2_with (refine wpList_load_page rfl _ rfl w.heap.size rfl p H0.out.1 ?_)
  rw [← h2, ← h1]
  refine gen_calls (fun x => Hid (AppIn w gc gr p c x)) H0 ?_
  clear H0 h1 h2
  intro w0 H0
  refine (HR1.out _).mono ?_
  rintro e w1 ⟨rfl, hb1⟩
  have H1 := hide (H0.out.later hb1)
  clear H0 hb1 HR1
  go_wp2_with (refine wpList_load_at rfl 26 _ rfl gc rfl (chA c) H1.out.2.1 _ Try.underlying26 rfl infoCh ?_)
  refine (HR2.out _).mono ?_
  rintro e w2 ⟨rfl, hb2⟩
  have H2 := hide (H1.out.later hb2)
  clear H1 hb2 HR2
  have a0 := H2.out.1.lsn
  go_wp2_with fail
  clear a0 i1 i2
  refine wp_region_in (fun x => AppIn w gc gr p c x) (by kernel_rfl) (by kernel_rfl) H2.out.drew ?_
  clear H2
  have j1 : (i : Int) < 8 := by omega
  repeat (first
    | go_big_quiet_skip
    | (refine wpQuiet_load rfl 3 (.tmp 27) rfl _ (.int .i64 (i : Int)) rfl (fun y hy => load_slot y i hi hy.2.1) ?_; simp only [Act.put, Array.setIfInBounds, List.size_toArray, List.length_cons, List.length_nil, Nat.reduceAdd, Nat.reduceLT, ↓reduceDIte, List.set_toArray, List.set_cons_succ, List.set_cons_zero])
    | (refine wpQuiet_load rfl 63 (.tmp 30) rfl _ (.agg (ceA (p.u i) (p.s i))) rfl (fun y hy => load_ce y i hi8 hy.1) ?_; simp only [Act.put, Array.setIfInBounds, List.size_toArray, List.length_cons, List.length_nil, Nat.reduceAdd, Nat.reduceLT, ↓reduceDIte, List.set_toArray, List.set_cons_succ, List.set_cons_zero])
    | (refine wpQuiet_load rfl 26 (.tmp 4) rfl _ (.agg (chA c)) rfl (fun y hy => load_ch y hy.2.1) ?_; simp only [Act.put, Array.setIfInBounds, List.size_toArray, List.length_cons, List.length_nil, Nat.reduceAdd, Nat.reduceLT, ↓reduceDIte, List.set_toArray, List.set_cons_succ, List.set_cons_zero])
    | (refine wpQuiet_call rfl 37 #[.agg (ceA (p.u i) (p.s i)), .agg (chA c)] (.int .i64 er) ?_ (fun x hC => (HF.out x).mono fun e x' h => ⟨h.1, hC.later h.2⟩) ?_; (intro x; go_simp); simp only [Act.put, Array.setIfInBounds, List.size_toArray, List.length_cons, List.length_nil, Nat.reduceAdd, Nat.reduceLT, ↓reduceDIte, List.set_toArray, List.set_cons_succ, List.set_cons_zero])
    | (refine wpQuiet_plain rfl (fun K hK => ?_); go_simp; refine hK _ ?_; clear hK K))
  refine wpQuiet_nil ?_
  intro w3 h3
  have H3 := hide h3
  clear h3 HF
  by_cases h0 : er = 0
  · obtain rfl := HE0.out h0
    subst h0
    clear HE0 HE1
    go_wp2_with fail
    refine wp_region_noPanic ?_
    refine wp_region_held_drew (S := fun x => ChAt x gc c) (by kernel_rfl) H3.out.drew.2.1 (fun hHeld => ?_)
    refine wpAnyH_take (i := 0) (v := .pointer (some ⟨gc, 2, none⟩)) rfl (by kernel_rfl) (by kernel_rfl) (by kernel_rfl) (fun _ _ _ h => h) (Or.inl ⟨by kernel_rfl, fun w hSw => by go_simp⟩) hHeld ?_
    try simp only [Act.put]
    refine wpAnyH_take (i := 1) (v := .int .i64 (i : Int)) rfl (by kernel_rfl) (by kernel_rfl) (by kernel_rfl) (fun _ _ _ h => h) (yields_load (by kernel_rfl) 3 (.tmp 38) rfl _ _ rfl (fun y hy => load_slot y i hi hy)) hHeld ?_
    try simp only [Act.put]
    refine wpAnyH_take (i := 2) (v := .agg (chA c)) rfl (by kernel_rfl) (by kernel_rfl) (by kernel_rfl) (fun _ _ _ h => h) (yields_load (by kernel_rfl) 26 (.tmp 4) rfl _ _ rfl (fun y hy => load_ch y hy)) hHeld ?_
    try simp only [Act.put]
    refine wpAnyH_take (i := 4) (v := .pointer (some ⟨w.heap.size, 1, none⟩)) rfl (by kernel_rfl) (by kernel_rfl) (by kernel_rfl) (fun _ _ _ h => h) (Or.inl ⟨by kernel_rfl, fun w hSw => by go_simp⟩) hHeld ?_
    try simp only [Act.put]
    refine wpAnyH_ready (rs := [3]) (by kernel_rfl) (by simp) ?_
    refine AllReadyH.cons rfl (fun K hK => ?_) AllReadyH.nil
    go_simp
    refine (made_any c _).mono ?_
    rintro e w5 ⟨rfl, hb5⟩
    have H5 := hide (H3.out.drew.later hb5)
    clear hb5 H3
    go_wp2_with fail
    refine hK.out _ _ H5.out.2.1 (fun hHeld5 => ?_)
    clear hK K
    try simp only [Act.put]
    refine wpAnyH_take (i := 5) (v := .pointer (some ⟨w.heap.size, 1 + i * 2, none⟩)) rfl (by kernel_rfl) (by kernel_rfl) (by kernel_rfl) (fun _ _ _ h => h) (Or.inl ⟨by kernel_rfl, fun w hSw => by go_simp⟩) hHeld5 ?_
    try simp only [Act.put]
    have q1 := H5.out.1.used i hi8
    have q2 := H5.out.1.val i hi8
    have s1 := H5.out.1.free (1 + i * 2)
    have s2 := H5.out.1.free (1 + i * 2 + 1)
    have HN := hide (put_mem H5.out hi8 l c.makeU c.makeV)
    have hHeld6 := hide (show ChAt ((w5.setCell ⟨w.heap.size, 1 + i * 2, none⟩ (.bool c.makeU)).setCell ⟨w.heap.size, 1 + i * 2 + 1, none⟩ (.string c.makeV)) gc c from (RowAt.other (RowAt.other (show RowAt _ gc 26 (chA c) from H5.out.2.1) _ _ (by have := H5.out.2.2.2.2; simp; omega)) _ _ (by have := H5.out.2.2.2.2; simp; omega)))
    simp only [ceA]
    refine wpAnyH_ready (rs := [6]) (by kernel_rfl) (by simp) ?_
    refine AllReadyH.cons rfl (fun K hK => ?_) AllReadyH.nil
    go_simp
    refine hK.out _ _ hHeld6.out (fun _ => ?_)
    clear hK K
    try simp only [Act.put]
    refine wpAnyH_done (by kernel_rfl) ?_ _
    refine NoPanic.normal ?_
    have t3 := H5.out.1.free 0
    have t4 := H5.out.1.lsn
    clear hHeld hHeld5 hHeld6 H5
    go_wp2_with (first | (refine wpList_load_page ?hw (.tmp 3) ?ho w.heap.size ?hx (p.put l i c.makeU c.makeV) ?hg ?_; (case ho => rfl); (case hw => rfl); (case hx => rfl); (case hg => exact HN.out.1)) | (refine wpList_store_page ?hw (.tmp 6) (.tmp 46) ?ho gr Pg.zero (p.put l i c.makeU c.makeV) ?hx ?hy ?hg ?_; (case ho => rfl); (case hw => rfl); (case hx => rfl); (case hy => rfl); (case hg => exact HN.out.2.1)))
    intro w7 hP7 hk
    have HP7 := hide hP7
    have d7 := hk _ _ HN.out.2.2.1 (by have := HN.out.2.2.2; omega)
    clear hP7 hk HN q1 q2 s1 s2 t3 t4
    go_wp2
    exact bodyPost_ret (res_page rfl _ _ gr _ rfl HP7.out) rfl ⟨rfl, d7⟩
  · have hz := HE1.out h0
    subst hz
    have k0 : (er == 0) = false := by simpa using h0
    clear HE0 HE1 h0
    go_wp2_with (refine wpList_store_page rfl _ _ rfl gr Pg.zero Pg.zero rfl rfl H3.out.2.2.1 ?_)
    intro w7 hP7 hk
    have HP7 := hide hP7
    have d7 := hk _ _ H3.out.2.2.2.1 (by have := H3.out.2.2.2.2; omega)
    clear hP7 hk H3
    go_wp2
    exact bodyPost_ret (res_page rfl _ _ gr Pg.zero rfl HP7.out) rfl ⟨rfl, d7⟩
end Go.Proofs.Ytbnlkfcaahgpmaa

/-
  The contract of package change's Inverse.
-/
namespace Go.Proofs.Ytbnlkfcaahgpmaa
open Go.RowKit
set_option linter.unusedVariables false

set_option maxRecDepth 4000 in
set_option maxHeartbeats 400000 in
theorem invKind_any (k : Int) (w : World) (hk : k = 1 ∨ k = 2 ∨ k = 3) :
    Calls Try.prog 66 #[.int .i64 k] w fun e w' => e = .returned (.int .i64 (4 - k)) ∧ w = w' := by
  rcases hk with rfl | rfl | rfl
  all_goals
    go_enter Try.func66, Try.ntmps66
    go_wp2
    go_ret
    exact ⟨rfl, rfl⟩

/-- A change's fields. -/
theorem load_int {b : Nat} (x : World) (j : Nat) (v : Int) (h : x.cell? ⟨b, j, none⟩ = some (.int .i64 v)) : (Instr.loadAt 3 (.pointer (some ⟨b, j, none⟩))).run Try.prog x = .ok (.int .i64 v) x := by go_simp
theorem load_str {b : Nat} (x : World) (j : Nat) (s : ByteArray) (h : x.cell? ⟨b, j, none⟩ = some (.string s)) : (Instr.loadAt 9 (.pointer (some ⟨b, j, none⟩))).run Try.prog x = .ok (.string s) x := by go_simp

def InvIn (w : World) (gr : Nat) (c : Ch) (x : World) : Prop := RowAt x w.heap.size 26 (chA c) ∧ RowAt x gr 26 (chA Ch.zero) ∧ Below w.heap.size w x ∧ w.heap.size < gr
theorem InvIn.later {w x y : World} {gr : Nat} {c : Ch} (h : InvIn w gr c x) (hb : Below x.heap.size x y) : InvIn w gr c y :=
  ⟨h.1.later hb, h.2.1.later hb, h.2.2.1.trans (hb.mono (Nat.le_of_lt h.1.lt)), h.2.2.2⟩
theorem InvIn.drew {w x : World} {gr : Nat} {c : Ch} (h : InvIn w gr c x) : InvIn w gr c x.drew := ⟨h.1, h.2.1, below_dn h.2.2.1 1, h.2.2.2⟩

set_option maxRecDepth 4000 in
set_option maxHeartbeats 3200000 in
theorem inverse_any (c : Ch) (w : World) :
    Calls Try.prog 50 #[.agg (chA c)] w fun e w' => e = .returned (.tuple #[.agg (chA (invC c)), .int .i64 (invE c)]) ∧ Below w.heap.size w w' := by
  have HP : Hid (InvIn w (w.heap.size + 1) c ((w.alloc (.cells (chA c) 26)).alloc (.cells #[.int .i64 0, .int .i64 0, .int .i64 0, .string ⟨#[]⟩, .string ⟨#[]⟩] 26))) := by
    obtain ⟨h1, h2, h3⟩ := two_new w (chA c) #[.int .i64 0, .int .i64 0, .int .i64 0, .string ⟨#[]⟩, .string ⟨#[]⟩] 26 26
    exact ⟨h1, h2, h3, by omega⟩
  go_enter Try.func50, Try.ntmps50
  obtain ⟨gr, hg⟩ : ∃ g, g = w.heap.size + 1 := ⟨_, rfl⟩
  rw [← hg] at HP
  by_cases h : c.right
  · have HR := hide (fun w => cright_at c w true (hide (decide_eq_true h)))
    have e1 : invE c = 0 := by unfold invE; rw [if_pos h]
    have e2 : invC c = ⟨4 - c.k, c.pg, c.sl, c.n, c.o⟩ := by unfold invC; rw [if_pos h]
    have HK := hide (fun w => invKind_any c.k w (by rcases h.2 with h | h | h <;> omega))
    rw [e1, e2]
    clear e1 e2 h
    go_wp2_with (refine wpList_load_at rfl 26 (.tmp 1) rfl w.heap.size rfl (chA c) HP.out.1 _ Try.underlying26 rfl infoCh ?_)
    rw [← hg]
    refine gen_calls (fun x => Hid (InvIn w gr c x)) HP ?_
    clear HP hg
    intro w0 H0
    refine (HR.out _).mono ?_
    rintro e w1 ⟨rfl, hb1⟩
    have H1 := hide (H0.out.later hb1)
    clear H0 hb1 HR
    go_wp2_with fail
    obtain ⟨a0, a1, a2, a3, a4⟩ := ChAt.all (show ChAt w1 w.heap.size c from H1.out.1)
    have lw : w.heap.size < w1.heap.size := H1.out.1.lt
    have n1 : ¬ w1.heap.size = w.heap.size := by omega
    have n2 : ¬ w.heap.size = w1.heap.size := by omega
    generalize ek : c.k = k at *
    generalize epg : c.pg = pg at *
    generalize esl : c.sl = sl at *
    generalize eo : c.o = o at *
    generalize en : c.n = n at *
    go_region_held3 (fun x => x.cell? ⟨w.heap.size, 0, none⟩ = some (.int .i64 k) ∧ x.cell? ⟨w.heap.size, 1, none⟩ = some (.int .i64 pg) ∧ x.cell? ⟨w.heap.size, 2, none⟩ = some (.int .i64 sl) ∧ x.cell? ⟨w.heap.size, 3, none⟩ = some (.string o) ∧ x.cell? ⟨w.heap.size, 4, none⟩ = some (.string n)) (go_keep)
      (first | (go_at_call 66; refine (HK.out _).mono ?_; rintro e w5 ⟨rfl, rfl⟩))
    all_goals
      have HN : Hid (RowAt (w1.alloc (.cells #[.int .i64 (4 - k), .int .i64 pg, .int .i64 sl, .string n, .string o] 26)).drew w1.heap.size 26 (chA ⟨4 - k, pg, sl, n, o⟩) ∧ RowAt (w1.alloc (.cells #[.int .i64 (4 - k), .int .i64 pg, .int .i64 sl, .string n, .string o] 26)).drew gr 26 (chA Ch.zero) ∧ Below w.heap.size w (w1.alloc (.cells #[.int .i64 (4 - k), .int .i64 pg, .int .i64 sl, .string n, .string o] 26)).drew ∧ w.heap.size < gr) := ⟨RowAt.new w1 26 (chA ⟨4 - k, pg, sl, n, o⟩), (H1.out.later ((Below.refl w1.heap.size w1).alloc (Nat.le_refl _) _)).drew.2⟩
      clear H1 a0 a1 a2 a3 a4 n1 n2 HK
      go_wp2_with (first | (refine wpList_load_at rfl 26 (.tmp 4) rfl w1.heap.size rfl (chA ⟨4 - k, pg, sl, n, o⟩) HN.out.1 _ Try.underlying26 rfl infoCh ?_) | (refine wpList_store_at rfl 26 (.tmp 2) (.tmp 21) rfl gr (chA Ch.zero) (chA ⟨4 - k, pg, sl, n, o⟩) rfl rfl HN.out.2.1 infoCh rfl (chA_one _) ?_))
      intro w2 hr2 hk2 _
      have d2 := hk2 _ _ HN.out.2.2.1 (by have := HN.out.2.2.2; omega)
      have HR2 := hide hr2
      clear hr2 hk2 HN
      go_wp2
      refine bodyPost_ret (res_at rfl _ _ gr (chA ⟨4 - k, pg, sl, n, o⟩) _ rfl HR2.out Try.underlying26 rfl infoCh) rfl ⟨?_, d2⟩
      rw [ek, epg, esl, eo, en]
      rfl
  · have HR := hide (fun w => cright_at c w false (hide (decide_eq_false h)))
    have e1 : invE c = 1 := by unfold invE; rw [if_neg h]
    have e2 : invC c = Ch.zero := by unfold invC; rw [if_neg h]
    rw [e1, e2]
    clear e1 e2 h
    go_wp2_with (refine wpList_load_at rfl 26 (.tmp 1) rfl w.heap.size rfl (chA c) HP.out.1 _ Try.underlying26 rfl infoCh ?_)
    rw [← hg]
    refine gen_calls (fun x => Hid (InvIn w gr c x)) HP ?_
    clear HP hg
    intro w0 H0
    refine (HR.out _).mono ?_
    rintro e w1 ⟨rfl, hb1⟩
    have H1 := hide (H0.out.later hb1)
    clear H0 hb1 HR
    go_wp2_with (refine wpList_store_at rfl 26 (.tmp 2) (.tmp 8) rfl gr (chA Ch.zero) (chA Ch.zero) rfl rfl H1.out.2.1 infoCh rfl (chA_one _) ?_)
    intro w2 hr2 hk2 _
    have d2 := hk2 _ _ H1.out.2.2.1 (by have := H1.out.2.2.2; omega)
    have HR2 := hide hr2
    clear hr2 hk2 H1
    go_wp2
    exact bodyPost_ret (res_at rfl _ _ gr (chA Ch.zero) _ rfl HR2.out Try.underlying26 rfl infoCh) rfl ⟨rfl, d2⟩
end Go.Proofs.Ytbnlkfcaahgpmaa
