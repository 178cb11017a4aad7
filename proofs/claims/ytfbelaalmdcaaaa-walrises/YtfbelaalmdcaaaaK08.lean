/-
  Texts that lean on one another, one behind the other: each opens with its own remark.
-/
import Derived.Test.YtfbelaalmdcaaaaK07
import Derived.Test.YtfbelaalmdcaaaaK04
import Derived.Test.YtfbelaalmdcaaaaK00
import Derived.Test.YtfbelaalmdcaaaaK05

/-
  The contracts of package change's refusal, made, inverseKind, kindOf and rightCells.
-/
namespace Go.Proofs.Ytfbelaalmdcaaaa
open Go.RowKit
set_option linter.unusedVariables false

/-- Why a cell can't be changed so. -/
def refE (u : Bool) (s : ByteArray) (c : Ch) : Int := if c.k = 1 then (if u = true then 6 else if s ≠ c.o then 2 else 0) else if u = false then 5 else if s ≠ c.o then 2 else 0

theorem ne_text {s t : ByteArray} (h : s ≠ t) : (s.toList == t.toList) = false := by
  rw [beq_eq_false_iff_ne]
  intro h2
  apply h
  rw [ByteArray.toList_eq, ByteArray.toList_eq] at h2
  rw [← mk_data s, h2, mk_data]

theorem two_new (w : World) (A B : Array Value) (t t2 : TypeId) : RowAt ((w.alloc (.cells A t)).alloc (.cells B t2)) w.heap.size t A ∧ RowAt ((w.alloc (.cells A t)).alloc (.cells B t2)) (w.heap.size + 1) t2 B ∧ Below w.heap.size w ((w.alloc (.cells A t)).alloc (.cells B t2)) := by
  have e1 : (w.alloc (.cells A t)).heap.size = w.heap.size + 1 := by simp
  have b1 := (Below.refl w.heap.size w).alloc (Nat.le_refl _) (.cells A t)
  have b2 := (Below.refl _ (w.alloc (.cells A t))).alloc (Nat.le_refl _) (.cells B t2)
  refine ⟨(RowAt.new w _ _).later b2, ?_, b1.trans (b2.mono (by omega))⟩
  have h := RowAt.new (w.alloc (.cells A t)) t2 B
  rw [e1] at h
  exact h

end Go.Proofs.Ytfbelaalmdcaaaa

/-
  The contract of package wal's copied: a record with lists of its own.
-/
namespace Go.Proofs.Ytfbelaalmdcaaaa
open Go.RowKit
set_option linter.unusedVariables false

/-- A list that lies there, put into a new one. -/
theorem run_append_new {α : Type} (f : α → Array Value) (zz : α) (sz : Nat) (hf : ∀ x, (f x).size = sz) (hsz : 0 < sz) {P : Program} (w : World) (t ty e : TypeId) (z : Array Value) (by' : Nat) (ht : P.underlying t = some (.slice e))
    (hi : (P.info? e).map (fun i => (i.zero, i.size, i.bytes)) = some (some (.agg z), sz, by')) (hzs : z.size = sz) (vx : Value) (ms : List α) (hr : RowsIn f zz sz w vx ms) (h1 : ∀ m ∈ ms, ∀ u ∈ (f m).toList, u.oneCell' = true) (hl : ms.length ≤ maxLen) (hb : ms.length * by' ≤ 140737488355328) :
    ∃ a c w', (Builtin.append_ #[t, t] ty #[.slice none 0 0, vx]).run P w = .ok (.slice a ms.length c) w' ∧ w'.ownsRow w.heap.size e sz (.slice a ms.length c) ms.length (ms.flatMap fun m => (f m).toList) ∧ w.grownBy w' none := by
  have hr' := hr
  obtain ⟨a, cap, rfl, hc⟩ := hr'
  cases a with
  | none =>
    have hm : ms = [] := by
      rcases ms with _ | ⟨m, ms⟩
      · rfl
      · obtain ⟨b, off, h, _⟩ := hc (by simp)
        cases h
    subst hm
    obtain ⟨i, hi0, hi1⟩ := Option.map_eq_some_iff.1 hi
    refine ⟨none, 0, w, ?_, World.ownsRow_nil _ _ _ _, ⟨rfl, rfl, rfl, Nat.le_refl _, fun _ _ _ => rfl⟩⟩
    simp [Builtin.append_, run_underlying ht, sizeOf, typeInfo, hi0, Builtin.lenOf, Builtin.firstCells]
  | some ad =>
    obtain ⟨v', w', r1, r2, r3⟩ := run_append_rows f zz sz hf hsz (P := P) w w.heap.size t ty e z by' ht hi hzs (.slice none 0 0) 0 [] (World.ownsRow_nil _ _ _ _) (.slice (some ad) ms.length cap) ms hr (fun a len c h ha => by injection h with h1; rw [ha] at h1; cases h1) h1 (by rw [Nat.zero_add]; exact hl) (by rw [Nat.zero_add]; exact hb) (Nat.le_refl _)
    rw [Nat.zero_add, List.nil_append] at r2
    have hv : ∃ a c, v' = .slice a ms.length c := by
      rcases r2.2 with ⟨h2, h3⟩ | ⟨g, c, cur, h2, _⟩
      · exact ⟨none, 0, by rw [h2, h3]⟩
      · exact ⟨_, c, h2⟩
    obtain ⟨a, c, rfl⟩ := hv
    exact ⟨a, c, w', r1, r2, r3⟩
theorem own_low {w : World} {base low n sz : Nat} {e : TypeId} {v : Value} {xs : List Value} (h : w.ownsRow base e sz v n xs) (hl : low ≤ base) : w.ownsRow low e sz v n xs := by
  refine ⟨h.1, ?_⟩
  rcases h.2 with h2 | ⟨g, c, cur, h2, h3, h4⟩
  · exact .inl h2
  · exact .inr ⟨g, c, cur, h2, Nat.le_trans hl h3, h4⟩
theorem grown_row {w x : World} (h : w.grownBy x none) {k : Nat} {t : TypeId} {cs : Array Value} (hr : RowAt w k t cs) : RowAt x k t cs := (h.block k hr.lt (by simp)).trans hr
theorem grown_below {w x : World} (h : w.grownBy x none) : Below w.heap.size w x := ⟨h.os, h.tape, h.output, h.size, fun k hk => h.block k hk (by simp)⟩

set_option maxRecDepth 8000 in
set_option maxHeartbeats 1600000 in
theorem copied9_any (r : Rec) (va vb : Value) (w : World) (hin : RcIn w r va vb) (ht : r.ts.length ≤ 1000000) (hd : r.ds.length ≤ 1000000) :
    Calls Try.prog 29 #[.agg (rcA r va vb)] w fun e w' => ∃ ua ub, e = .returned (.agg (rcA r ua ub)) ∧ GotIn w.heap.size w' r ua ub ∧ Below w.heap.size w w' := by
  obtain ⟨n1, n2, n3⟩ := two_new w (rcA r va vb) #[.int .i64 0, .int .u64 0, .int .i64 0, .int .u64 0, .int .i64 0, .int .i64 0, .int .i64 0, .string ⟨#[]⟩, .string ⟨#[]⟩, .int .u64 0, .int .i64 0, .int .u64 0, .slice none 0 0, .slice none 0 0] 43 43
  have hin0 := hin.below n3
  have hs : (∃ a1 c1, va = .slice a1 r.ts.length c1) ∧ ∃ a2 c2, vb = .slice a2 r.ds.length c2 := by
    obtain ⟨⟨a1, c1, e1, _⟩, ⟨a2, c2, e2, _⟩⟩ := hin
    exact ⟨⟨a1, c1, e1⟩, a2, c2, e2⟩
  obtain ⟨⟨a1, c1, rfl⟩, a2, c2, rfl⟩ := hs
  obtain ⟨y, hy⟩ : ∃ y, y = ((w.alloc (.cells (rcA r (.slice a1 r.ts.length c1) (.slice a2 r.ds.length c2)) 43)).alloc (.cells #[.int .i64 0, .int .u64 0, .int .i64 0, .int .u64 0, .int .i64 0, .int .i64 0, .int .i64 0, .string ⟨#[]⟩, .string ⟨#[]⟩, .int .u64 0, .int .i64 0, .int .u64 0, .slice none 0 0, .slice none 0 0] 43)) := ⟨_, rfl⟩
  rw [← hy] at n1 n2 n3 hin0
  obtain ⟨b1, hb1⟩ : ∃ b1, b1 = w.heap.size := ⟨_, rfl⟩
  obtain ⟨b2, hb2⟩ : ∃ b2, b2 = w.heap.size + 1 := ⟨_, rfl⟩
  rw [← hb1] at n1
  rw [← hb2] at n2
  have hne : b1 ≠ b2 := by omega
  -- the first list
  obtain ⟨ua, uc, w1, q1, o1, g1⟩ := run_append_new txA Tx.zero 5 (fun _ => rfl) (by decide) (P := Try.prog) y 40 40 81 _ 40 Try.underlying40 infoTx3 rfl _ r.ts hin0.1 (fun m _ u hu => by have := txA_one m; rw [Array.all_eq_true'] at this; exact this u (by simpa using hu)) (by unfold maxLen; omega) (by omega)
  have r1 := grown_row g1 n1
  have r2 := grown_row g1 n2
  have hbel1 := grown_below g1
  -- the second one
  obtain ⟨x1, hx1⟩ : ∃ x1, x1 = w1.setCell ⟨b1, 12, none⟩ (.slice ua r.ts.length uc) := ⟨_, rfl⟩
  have s1 : RowAt x1 b1 43 (rcA r (.slice ua r.ts.length uc) (.slice a2 r.ds.length c2)) := by
    rw [hx1]
    exact r1.set 12 _
  have s2 : RowAt x1 b2 43 zeroA := by
    rw [hx1]
    exact r2.other _ _ (fun e => hne e.symm)
  have hbx : Below w.heap.size w x1 := by
    rw [hx1]
    exact (n3.trans (hbel1.mono n3.size)).setCell (by rw [hb1]; exact Nat.le_refl _) _
  have hdx : DiIn x1 (.slice a2 r.ds.length c2) r.ds := (hin.below hbx).2
  have ox1 : x1.ownsRow y.heap.size 81 5 (.slice ua r.ts.length uc) r.ts.length (flatT r.ts) := own_kept o1 (fun k cs hk => by
    rw [hx1]
    exact hk.other _ _ (fun e => by
      have e' : k = b1 := e
      rw [e'] at hk
      exact absurd (row_kind hk r1) (by decide)))
  obtain ⟨ub, vc, w2, q2, o2, g2⟩ := run_append_new diA Di.zero 2 (fun _ => rfl) (by decide) (P := Try.prog) x1 41 41 83 _ 16 Try.underlying41 infoDi3 rfl _ r.ds hdx (fun m _ u hu => by have := diA_one m; rw [Array.all_eq_true'] at this; exact this u (by simpa using hu)) (by unfold maxLen; omega) (by omega)
  have t1 := grown_row g2 s1
  have t2 := grown_row g2 s2
  have hbel2 := grown_below g2
  obtain ⟨x2, hx2⟩ : ∃ x2, x2 = w2.setCell ⟨b1, 13, none⟩ (.slice ub r.ds.length vc) := ⟨_, rfl⟩
  have u1 : RowAt x2 b1 43 (rcA r (.slice ua r.ts.length uc) (.slice ub r.ds.length vc)) := by
    rw [hx2]
    exact t1.set 13 _
  have u2 : RowAt x2 b2 43 zeroA := by
    rw [hx2]
    exact t2.other _ _ (fun e => hne e.symm)
  have hby : Below w.heap.size w x2 := by
    rw [hx2]
    exact (hbx.trans (hbel2.mono hbx.size)).setCell (by rw [hb1]; exact Nat.le_refl _) _
  have got : GotIn w.heap.size x2 r (.slice ua r.ts.length uc) (.slice ub r.ds.length vc) := by
    have keep : ∀ {e : TypeId} (hne : e ≠ 43) (k : Nat) (cs : Array Value), RowAt w2 k e cs → RowAt x2 k e cs := fun hne k cs hk => by
      rw [hx2]
      exact hk.other _ _ (fun e => by
        have e' : k = b1 := e
        rw [e'] at hk
        exact absurd (row_kind hk t1) hne)
    refine ⟨?_, ?_⟩
    · exact own_low (own_kept (own_kept ox1 (fun k cs hk => grown_row g2 hk)) (keep (by decide))) n3.size
    · exact own_low (own_kept o2 (keep (by decide))) hbx.size
  have HF := hide (And.intro u1 (And.intro u2 (And.intro hby got)))
  have c12 := n1.cell 12 (.slice a1 r.ts.length c1) rfl
  have d12 := r1.cell 12 (.slice a1 r.ts.length c1) rfl
  have f12 := r1.free 12
  have c13 := s1.cell 13 (.slice a2 r.ds.length c2) rfl
  have d13 := t1.cell 13 (.slice a2 r.ds.length c2) rfl
  have f13 := t1.free 13
  rw [hy, hb1] at c12
  rw [hy] at q1
  rw [hb1] at d12 f12 c13 d13 f13 hx1 hx2
  rw [hx1] at q2 c13
  have HX2 := hide hx2
  have HB := hide (And.intro hb1 hb2)
  clear n1 n2 n3 hin0 hy r1 r2 o1 g1 hbel1 s1 s2 hbx hdx ox1 hx1 o2 g2 t1 t2 hbel2 hx2 u1 u2 hby got hin hb1 hb2 hne
  generalize r.ts.length = lt at *
  generalize r.ds.length = ld at *
  go_enter Try.func29, Try.ntmps29
  go_wp2_with (first | (at_builtin; refine wpList_append_run rfl _ (.tmp 4) 40 40 rfl _ _ _ rfl rfl q1 ?_) | (at_builtin; refine wpList_append_run rfl _ (.tmp 8) 41 41 rfl _ _ _ rfl rfl q2 ?_) | (refine wpList_load_at rfl 43 (.tmp 1) rfl b1 ?h1 (rcA r (.slice ua lt uc) (.slice ub ld vc)) ?h2 _ Try.underlying43 rfl infoRc ?_; (case h1 => rw [HB.out.1]; rfl); (case h2 => rw [← HX2.out]; exact HF.out.1)) | (refine wpList_store_at rfl 43 (.tmp 2) (.tmp 11) rfl b2 zeroA (rcA r (.slice ua lt uc) (.slice ub ld vc)) ?h1 rfl ?h2 infoRc rfl (by simp [rcA, Value.oneCell']) ?_; (case h1 => rw [HB.out.2]; rfl); (case h2 => rw [← HX2.out]; exact HF.out.2.1)))
  intro w3 hr3 hk3 hrow3
  rw [← HX2.out] at hk3 hrow3
  have hbl := hk3 _ _ HF.out.2.2.1 (by have := HB.out.2; omega)
  have hgot : GotIn w.heap.size w3 r (.slice ua lt uc) (.slice ub ld vc) :=
    ⟨own_kept HF.out.2.2.2.1 (fun k cs hk => hrow3 k _ cs (fun e => by rw [e] at hk; exact absurd (row_kind hk HF.out.2.1) (by decide)) hk),
      own_kept HF.out.2.2.2.2 (fun k cs hk => hrow3 k _ cs (fun e => by rw [e] at hk; exact absurd (row_kind hk HF.out.2.1) (by decide)) hk)⟩
  have HR3 := hide hr3
  have HBL := hide hbl
  have HG := hide hgot
  clear hr3 hk3 hrow3 hbl hgot HF q1 q2 c12 c13 d12 d13
  go_wp2
  exact bodyPost_ret (res_one rfl _ _ b2 (rcA r (.slice ua lt uc) (.slice ub ld vc)) _ (by rw [HB.out.2]; rfl) HR3.out Try.underlying43 rfl infoRc) rfl ⟨_, _, rfl, HG.out, HBL.out⟩
end Go.Proofs.Ytfbelaalmdcaaaa

/-
  The writer of package record: change, txns, dirty.
-/
namespace Go.Proofs.Ytfbelaalmdcaaaa
open Go.RowKit
set_option linter.unusedVariables false

theorem conv_nat (i : Int) (h0 : 0 ≤ i) (h1 : i < 18446744073709551616) : IntKind.u64.wrap i = (i.toNat : Int) := by
  rw [IntKind.wrap_u64]
  omega

theorem ch_bounds {c : Ch} (h : c.right) : 0 ≤ c.k ∧ c.k ≤ 255 ∧ 0 ≤ c.pg ∧ c.pg ≤ 31 ∧ (0 ≤ c.sl ∧ c.sl ≤ 7) ∧ c.o.size ≤ 20 ∧ c.n.size ≤ 20 := by
  obtain ⟨⟨h1, h2, h3, h4, h5, h6⟩, h7⟩ := h
  have hk : 1 ≤ c.k ∧ c.k ≤ 3 := by
    unfold Ch.kindOk at h7
    omega
  exact ⟨by omega, by omega, by omega, by omega, by omega, by omega, by omega⟩
/-- Rows whose numbers fit their widths. -/
def txFit (x : Tx) : Prop := 0 ≤ x.t ∧ x.t ≤ 1048575 ∧ 0 ≤ x.s ∧ x.s ≤ 3 ∧ x.f < 18446744073709551616 ∧ x.l < 18446744073709551616 ∧ x.n < 18446744073709551616
def diFit (d : Di) : Prop := 0 ≤ d.p ∧ d.p ≤ 31 ∧ d.r < 18446744073709551616
theorem txsB_len (ts : List Tx) : (txsB ts).length = 29 * ts.length := by
  induction ts with
  | nil => rfl
  | cons x ts ih =>
    have e : (txB x).length = 29 := by simp only [txB, List.length_append, beB_length]
    rw [txsB, List.flatMap_cons, List.length_append, e, List.length_cons]
    rw [txsB] at ih
    omega
theorem disB_len (ts : List Di) : (disB ts).length = 10 * ts.length := by
  induction ts with
  | nil => rfl
  | cons x ts ih =>
    have e : (diB x).length = 10 := by simp only [diB, List.length_append, beB_length]
    rw [disB, List.flatMap_cons, List.length_append, e, List.length_cons]
    rw [disB] at ih
    omega
theorem take_more {α : Type} (xs : List α) (j : Nat) (z : α) (h : j < xs.length) : xs.take (j + 1) = xs.take j ++ [xs.getD j z] := by
  rw [List.take_add_one, List.getElem?_eq_getElem h, List.getD_eq_getElem?_getD, List.getElem?_eq_getElem h]
  rfl
theorem txsB_more (xs : List Tx) (j : Nat) (h : j < xs.length) : txsB (xs.take (j + 1)) = txsB (xs.take j) ++ txB (xs.getD j Tx.zero) := by
  rw [take_more xs j Tx.zero h, txsB, List.flatMap_append]
  simp [txsB]
theorem disB_more (xs : List Di) (j : Nat) (h : j < xs.length) : disB (xs.take (j + 1)) = disB (xs.take j) ++ diB (xs.getD j Di.zero) := by
  rw [take_more xs j Di.zero h, disB, List.flatMap_append]
  simp [disB]

set_option maxRecDepth 4000 in
set_option maxHeartbeats 1600000 in
theorem wchange_any (g : Nat) (c : Ch) (bs : List UInt8) (w : World) (h : Wr w g bs) (hc : c.right) (hl : bs.length ≤ 100000) :
    Calls Try.prog 65 #[.pointer (some ⟨g, 0, none⟩), .agg (chA c)] w fun e w' => e = .returned (.tuple #[]) ∧ Wr w' g (bs ++ chB c) ∧ Mv g w w' := by
  obtain ⟨r1, r2, r3, r4, r5, r6, r7⟩ := ch_bounds hc
  have e1 := conv_nat c.k (by omega) (by omega)
  have e2 := conv_nat c.pg (by omega) (by omega)
  have e3 := conv_nat c.sl (by omega) (by omega)
  have HG := hide h.lt
  have hA : Hid (Aside g [(w.heap.size, 39, chA c)]) := fun e he => by
    simp only [List.mem_cons, List.not_mem_nil, or_false] at he
    subst he
    exact ⟨by show w.heap.size ≠ g; have := HG.out; omega, by show (39 : TypeId) ≠ 5; decide⟩
  have hb0 := (Below.refl w.heap.size w).alloc (Nat.le_refl _) (.cells (chA c) 39)
  have HK : Hid (WK g w (w.alloc (.cells (chA c) 39)) bs [(w.heap.size, 39, chA c)]) := ⟨h.later hb0, Mv.later (Nat.le_of_lt HG.out) hb0, RowAt.new _ _ _, trivial⟩
  clear hb0 h
  have W1 := hide (fun bs w h hl => wnum_any g 1 c.k.toNat bs w h (by omega) (by omega) hl)
  have W2 := hide (fun bs w h hl => wnum_any g 2 c.pg.toNat bs w h (by omega) (by omega) hl)
  have W3 := hide (fun bs w h hl => wnum_any g 1 c.sl.toNat bs w h (by omega) (by omega) hl)
  have W4 := hide (fun bs w h hl => wtext_any g c.o bs w h (by omega) hl)
  have W5 := hide (fun bs w h hl => wtext_any g c.n bs w h (by omega) hl)
  rw [← e1] at W1
  rw [← e2] at W2
  rw [← e3] at W3
  have HL := hide hl
  have HSZ : Hid (c.o.size ≤ 255 ∧ c.n.size ≤ 255) := ⟨by omega, by omega⟩
  clear r1 r2 r3 r4 r5 r6 r7 e1 e2 e3 hc hl
  have d0 := HK.out.2.2.1.cell 0 (.int .i64 c.k) rfl
  go_enter Try.func65, Try.ntmps65
  go_wp2_with fail
  refine (W1.out bs _ HK.out.1 (by have := HL.out; omega)).mono ?_
  rintro e w1 ⟨rfl, hw, hm⟩
  have HK1 := hide (HK.out.step hw hm hA.out)
  clear hw hm d0 HK W1
  have d1 := HK1.out.2.2.1.cell 1 (.int .i64 c.pg) rfl
  go_wp2_with fail
  refine (W2.out (bs ++ beB 1 c.k.toNat) _ HK1.out.1 (by have := HL.out; have := HSZ.out; simp only [List.length_append, beB_length]; omega)).mono ?_
  rintro e w2 ⟨rfl, hw, hm⟩
  have HK2 := hide (HK1.out.step hw hm hA.out)
  clear hw hm d1 HK1 W2
  have d2 := HK2.out.2.2.1.cell 2 (.int .i64 c.sl) rfl
  go_wp2_with fail
  refine (W3.out ((bs ++ beB 1 c.k.toNat) ++ beB 2 c.pg.toNat) _ HK2.out.1 (by have := HL.out; have := HSZ.out; simp only [List.length_append, beB_length]; omega)).mono ?_
  rintro e w3 ⟨rfl, hw, hm⟩
  have HK3 := hide (HK2.out.step hw hm hA.out)
  clear hw hm d2 HK2 W3
  have d3 := HK3.out.2.2.1.cell 3 (.string c.o) rfl
  go_wp2_with fail
  refine (W4.out (((bs ++ beB 1 c.k.toNat) ++ beB 2 c.pg.toNat) ++ beB 1 c.sl.toNat) _ HK3.out.1 (by have := HL.out; have := HSZ.out; simp only [List.length_append, beB_length]; omega)).mono ?_
  rintro e w4 ⟨rfl, hw, hm⟩
  have HK4 := hide (HK3.out.step hw hm hA.out)
  clear hw hm d3 HK3 W4
  have d4 := HK4.out.2.2.1.cell 4 (.string c.n) rfl
  go_wp2_with fail
  refine (W5.out ((((bs ++ beB 1 c.k.toNat) ++ beB 2 c.pg.toNat) ++ beB 1 c.sl.toNat) ++ textB c.o.data.toList) _ HK4.out.1 (by have := HL.out; have := HSZ.out; simp only [List.length_append, beB_length, textB_len]; omega)).mono ?_
  rintro e w5 ⟨rfl, hw, hm⟩
  have HK5 := hide (HK4.out.step hw hm hA.out)
  clear hw hm d4 HK4 W5
  go_wp2
  go_end0
  refine ⟨rfl, ?_, HK5.out.2.1⟩
  have h := HK5.out.1
  simp only [List.append_assoc] at h
  exact h
end Go.Proofs.Ytfbelaalmdcaaaa

/-
  The writer of package record: txns.
-/
namespace Go.Proofs.Ytfbelaalmdcaaaa
open Go.RowKit
set_option linter.unusedVariables false

set_option maxRecDepth 4000 in
set_option maxHeartbeats 3200000 in
theorem wtxns_any (g : Nat) (va : Value) (xs : List Tx) (bs : List UInt8) (w0 w : World) (h : Wr w g bs) (hg : w0.heap.size ≤ g) (hb : Below w0.heap.size w0 w) (hin : TxIn w0 va xs) (hx : ∀ i, i < xs.length → txFit (xs.getD i Tx.zero)) (hn : xs.length ≤ 16) (hl : bs.length ≤ 10000) :
    Calls Try.prog 66 #[.pointer (some ⟨g, 0, none⟩), va] w fun e w' => e = .returned (.tuple #[]) ∧ Wr w' g (bs ++ (beB 1 xs.length ++ txsB xs)) ∧ Mv g w w' := by
  have HIN := hide (hin.below hb)
  have HFX := hide hx
  have HBL : Hid (∀ b, b < w0.heap.size → b < g) := fun b h => Nat.lt_of_lt_of_le h hg
  obtain ⟨a, cap, rfl, hrow⟩ := hin
  have HRW := hide hrow
  have HW0 := hide hb
  have e1 := conv_nat (xs.length : Int) (by omega) (by omega)
  rw [Int.toNat_natCast] at e1
  have W0 := hide (wnum_any g 1 xs.length bs w h (by omega) (by omega) (by omega))
  have HL := hide hl
  have HN := hide hn
  have HWR := hide h
  clear hx hrow hb hg hl h
  go_enter Try.func66, Try.ntmps66
  go_wp2_with fail
  refine W0.out.mono ?_
  rintro e w1 ⟨rfl, hw, hm⟩
  have HK1 : Hid (WK g w w1 (bs ++ beB 1 xs.length) []) := ⟨hw, hm, trivial⟩
  clear hw hm W0 e1
  go_wp2
  go_loopw [13] (fun v wr => ∃ j : Nat, j ≤ xs.length ∧ v = .int .i64 j ∧ WK g w wr (bs ++ (beB 1 xs.length ++ txsB (xs.take j))) []) (fun v _ => xs.length - (intOf v).toNat)
  case atStart => exact ⟨0, Nat.zero_le _, rfl, by have h := HK1.out; simpa [txsB] using h⟩
  case round =>
    obtain ⟨j, hj, rfl, hk⟩ := hrel
    have HK := hide hk
    clear hk HK1
    by_cases hlt : j < xs.length
    · have jlt : (j : Int) < (xs.length : Int) := by omega
      obtain ⟨b, off, rfl, hb, hcell⟩ := HRW.out (by omega)
      have HRG := hide (rangeAt_below (hcell j hlt) (HW0.out.trans (HK.out.2.1.below.mono (Nat.le_of_lt_succ (Nat.lt_succ_of_le (Nat.le_of_not_lt (fun hc => by have := HBL.out; have h1 := this g hc; omega)))))) hb)
      clear hcell hb
      obtain ⟨x, hx⟩ : ∃ x, x = xs.getD j Tx.zero := ⟨_, rfl⟩
      have HX := hide hx
      have HF := hide (HFX.out j hlt)
      rw [← hx] at HRG HF
      clear hx
      go_wp2_with (first | (refine wpList_load_mid rfl 81 (.tmp 15) rfl b (off + j * 5) (txA x) rfl HRG.out _ Try.underlying81 rfl infoTx ?_) | (refine wpList_store_at rfl 81 (.tmp 5) (.tmp 16) rfl wr.heap.size (txA Tx.zero) (txA x) rfl rfl (RowAt.new wr 81 (txA Tx.zero)) infoTx rfl (txA_one _) ?_))
      intro w2 hr2 hk2 _
      have hb2 := hk2 _ _ ((Below.refl wr.heap.size wr).alloc (Nat.le_refl _) _) (Nat.le_refl _)
      have HK2 : Hid (WK g w w2 (bs ++ (beB 1 xs.length ++ txsB (xs.take j))) [(wr.heap.size, 81, txA x)]) := ⟨HK.out.1.later hb2, HK.out.2.1.trans (Mv.later (Nat.le_of_lt HK.out.1.lt) hb2), hr2, trivial⟩
      have hA : Hid (Aside g [(wr.heap.size, 81, txA x)]) := fun e he => by
        simp only [List.mem_cons, List.not_mem_nil, or_false] at he
        subst he
        exact ⟨by show wr.heap.size ≠ g; have := HK.out.1.lt; omega, by show (81 : TypeId) ≠ 5; decide⟩
      clear hr2 hk2 hb2 HK HRG
      generalize wr.heap.size = p at *
      obtain ⟨bs0, hbs0⟩ : ∃ bs0, bs0 = bs ++ (beB 1 xs.length ++ txsB (xs.take j)) := ⟨_, rfl⟩
      have HBS := hide hbs0
      have HB0 : Hid (bs0.length ≤ 20000) := by
        have h1 := txsB_len (xs.take j)
        rw [List.length_take] at h1
        have := HL.out
        have := HN.out
        show bs0.length ≤ 20000
        rw [hbs0]
        simp only [List.length_append, beB_length, h1]
        omega
      rw [← hbs0] at HK2
      clear hbs0
      have e0 := conv_nat x.t (by have := HF.out; unfold txFit at this; omega) (by have := HF.out; unfold txFit at this; omega)
      have W0 := hide (fun bs w h hl => wnum_any g 4 x.t.toNat bs w h (by omega) (by have := HF.out; unfold txFit at this; omega) hl)
      rw [← e0] at W0
      clear e0
      have e1 := conv_nat x.s (by have := HF.out; unfold txFit at this; omega) (by have := HF.out; unfold txFit at this; omega)
      have W1 := hide (fun bs w h hl => wnum_any g 1 x.s.toNat bs w h (by omega) (by have := HF.out; unfold txFit at this; omega) hl)
      rw [← e1] at W1
      clear e1
      have W2 := hide (fun bs w h hl => wnum_any g 8 x.f bs w h (by omega) (by have := HF.out; unfold txFit at this; omega) hl)
      have W3 := hide (fun bs w h hl => wnum_any g 8 x.l bs w h (by omega) (by have := HF.out; unfold txFit at this; omega) hl)
      have W4 := hide (fun bs w h hl => wnum_any g 8 x.n bs w h (by omega) (by have := HF.out; unfold txFit at this; omega) hl)
      have d0 := HK2.out.2.2.1.cell 0 (.int .i64 x.t) rfl
      go_wp2_with fail
      refine (W0.out bs0 _ HK2.out.1 (by have := HB0.out; omega)).mono ?_
      rintro e v0 ⟨rfl, hw, hm⟩
      have HK3 := hide (HK2.out.step hw hm hA.out)
      clear hw hm d0 HK2 W0
      have d1 := HK3.out.2.2.1.cell 1 (.int .i64 x.s) rfl
      go_wp2_with fail
      refine (W1.out (bs0 ++ beB 4 x.t.toNat) _ HK3.out.1 (by have := HB0.out; simp only [List.length_append, beB_length]; omega)).mono ?_
      rintro e v1 ⟨rfl, hw, hm⟩
      have HK4 := hide (HK3.out.step hw hm hA.out)
      clear hw hm d1 HK3 W1
      have d2 := HK4.out.2.2.1.cell 2 (.int .u64 (x.f : Int)) rfl
      go_wp2_with fail
      refine (W2.out ((bs0 ++ beB 4 x.t.toNat) ++ beB 1 x.s.toNat) _ HK4.out.1 (by have := HB0.out; simp only [List.length_append, beB_length]; omega)).mono ?_
      rintro e v2 ⟨rfl, hw, hm⟩
      have HK5 := hide (HK4.out.step hw hm hA.out)
      clear hw hm d2 HK4 W2
      have d3 := HK5.out.2.2.1.cell 3 (.int .u64 (x.l : Int)) rfl
      go_wp2_with fail
      refine (W3.out (((bs0 ++ beB 4 x.t.toNat) ++ beB 1 x.s.toNat) ++ beB 8 x.f) _ HK5.out.1 (by have := HB0.out; simp only [List.length_append, beB_length]; omega)).mono ?_
      rintro e v3 ⟨rfl, hw, hm⟩
      have HK6 := hide (HK5.out.step hw hm hA.out)
      clear hw hm d3 HK5 W3
      have d4 := HK6.out.2.2.1.cell 4 (.int .u64 (x.n : Int)) rfl
      go_wp2_with fail
      refine (W4.out ((((bs0 ++ beB 4 x.t.toNat) ++ beB 1 x.s.toNat) ++ beB 8 x.f) ++ beB 8 x.l) _ HK6.out.1 (by have := HB0.out; simp only [List.length_append, beB_length]; omega)).mono ?_
      rintro e v4 ⟨rfl, hw, hm⟩
      have HK7 := hide (HK6.out.step hw hm hA.out)
      clear hw hm d4 HK6 W4
      go_wp2
      go_roundw
      case rel =>
        refine ⟨j + 1, by omega, by go_num, ?_, HK7.out.2.1, trivial⟩
        have h := HK7.out.1
        rw [HBS.out] at h
        have e3 : txsB (xs.take (j + 1)) = txsB (xs.take j) ++ txB x := by
          rw [HX.out]
          exact txsB_more xs j hlt
        rw [e3]
        simp only [txB, List.append_assoc] at h ⊢
        exact h
      case measure => simp [intOf]; omega
    · obtain rfl : j = xs.length := by omega
      go_wp2
      go_end0
      refine ⟨rfl, ?_, HK.out.2.1⟩
      have h := HK.out.1
      rwa [List.take_length] at h
end Go.Proofs.Ytfbelaalmdcaaaa

/-
  The writer of package record: dirty.
-/
namespace Go.Proofs.Ytfbelaalmdcaaaa
open Go.RowKit
set_option linter.unusedVariables false

set_option maxRecDepth 4000 in
set_option maxHeartbeats 3200000 in
theorem wdirty_any (g : Nat) (va : Value) (xs : List Di) (bs : List UInt8) (w0 w : World) (h : Wr w g bs) (hg : w0.heap.size ≤ g) (hb : Below w0.heap.size w0 w) (hin : DiIn w0 va xs) (hx : ∀ i, i < xs.length → diFit (xs.getD i Di.zero)) (hn : xs.length ≤ 32) (hl : bs.length ≤ 10000) :
    Calls Try.prog 67 #[.pointer (some ⟨g, 0, none⟩), va] w fun e w' => e = .returned (.tuple #[]) ∧ Wr w' g (bs ++ (beB 1 xs.length ++ disB xs)) ∧ Mv g w w' := by
  have HIN := hide (hin.below hb)
  have HFX := hide hx
  have HBL : Hid (∀ b, b < w0.heap.size → b < g) := fun b h => Nat.lt_of_lt_of_le h hg
  obtain ⟨a, cap, rfl, hrow⟩ := hin
  have HRW := hide hrow
  have HW0 := hide hb
  have e1 := conv_nat (xs.length : Int) (by omega) (by omega)
  rw [Int.toNat_natCast] at e1
  have W0 := hide (wnum_any g 1 xs.length bs w h (by omega) (by omega) (by omega))
  have HL := hide hl
  have HN := hide hn
  have HWR := hide h
  clear hx hrow hb hg hl h
  go_enter Try.func67, Try.ntmps67
  go_wp2_with fail
  refine W0.out.mono ?_
  rintro e w1 ⟨rfl, hw, hm⟩
  have HK1 : Hid (WK g w w1 (bs ++ beB 1 xs.length) []) := ⟨hw, hm, trivial⟩
  clear hw hm W0 e1
  go_wp2
  go_loopw [13] (fun v wr => ∃ j : Nat, j ≤ xs.length ∧ v = .int .i64 j ∧ WK g w wr (bs ++ (beB 1 xs.length ++ disB (xs.take j))) []) (fun v _ => xs.length - (intOf v).toNat)
  case atStart => exact ⟨0, Nat.zero_le _, rfl, by have h := HK1.out; simpa [disB] using h⟩
  case round =>
    obtain ⟨j, hj, rfl, hk⟩ := hrel
    have HK := hide hk
    clear hk HK1
    by_cases hlt : j < xs.length
    · have jlt : (j : Int) < (xs.length : Int) := by omega
      obtain ⟨b, off, rfl, hb, hcell⟩ := HRW.out (by omega)
      have HRG := hide (rangeAt_below (hcell j hlt) (HW0.out.trans (HK.out.2.1.below.mono (Nat.le_of_lt_succ (Nat.lt_succ_of_le (Nat.le_of_not_lt (fun hc => by have := HBL.out; have h1 := this g hc; omega)))))) hb)
      clear hcell hb
      obtain ⟨x, hx⟩ : ∃ x, x = xs.getD j Di.zero := ⟨_, rfl⟩
      have HX := hide hx
      have HF := hide (HFX.out j hlt)
      rw [← hx] at HRG HF
      clear hx
      go_wp2_with (first | (refine wpList_load_mid rfl 83 (.tmp 15) rfl b (off + j * 2) (diA x) rfl HRG.out _ Try.underlying83 rfl infoDi ?_) | (refine wpList_store_at rfl 83 (.tmp 5) (.tmp 16) rfl wr.heap.size (diA Di.zero) (diA x) rfl rfl (RowAt.new wr 83 (diA Di.zero)) infoDi rfl (diA_one _) ?_))
      intro w2 hr2 hk2 _
      have hb2 := hk2 _ _ ((Below.refl wr.heap.size wr).alloc (Nat.le_refl _) _) (Nat.le_refl _)
      have HK2 : Hid (WK g w w2 (bs ++ (beB 1 xs.length ++ disB (xs.take j))) [(wr.heap.size, 83, diA x)]) := ⟨HK.out.1.later hb2, HK.out.2.1.trans (Mv.later (Nat.le_of_lt HK.out.1.lt) hb2), hr2, trivial⟩
      have hA : Hid (Aside g [(wr.heap.size, 83, diA x)]) := fun e he => by
        simp only [List.mem_cons, List.not_mem_nil, or_false] at he
        subst he
        exact ⟨by show wr.heap.size ≠ g; have := HK.out.1.lt; omega, by show (83 : TypeId) ≠ 5; decide⟩
      clear hr2 hk2 hb2 HK HRG
      generalize wr.heap.size = p at *
      obtain ⟨bs0, hbs0⟩ : ∃ bs0, bs0 = bs ++ (beB 1 xs.length ++ disB (xs.take j)) := ⟨_, rfl⟩
      have HBS := hide hbs0
      have HB0 : Hid (bs0.length ≤ 20000) := by
        have h1 := disB_len (xs.take j)
        rw [List.length_take] at h1
        have := HL.out
        have := HN.out
        show bs0.length ≤ 20000
        rw [hbs0]
        simp only [List.length_append, beB_length, h1]
        omega
      rw [← hbs0] at HK2
      clear hbs0
      have e0 := conv_nat x.p (by have := HF.out; unfold diFit at this; omega) (by have := HF.out; unfold diFit at this; omega)
      have W0 := hide (fun bs w h hl => wnum_any g 2 x.p.toNat bs w h (by omega) (by have := HF.out; unfold diFit at this; omega) hl)
      rw [← e0] at W0
      clear e0
      have W1 := hide (fun bs w h hl => wnum_any g 8 x.r bs w h (by omega) (by have := HF.out; unfold diFit at this; omega) hl)
      have d0 := HK2.out.2.2.1.cell 0 (.int .i64 x.p) rfl
      go_wp2_with fail
      refine (W0.out bs0 _ HK2.out.1 (by have := HB0.out; omega)).mono ?_
      rintro e v0 ⟨rfl, hw, hm⟩
      have HK3 := hide (HK2.out.step hw hm hA.out)
      clear hw hm d0 HK2 W0
      have d1 := HK3.out.2.2.1.cell 1 (.int .u64 (x.r : Int)) rfl
      go_wp2_with fail
      refine (W1.out (bs0 ++ beB 2 x.p.toNat) _ HK3.out.1 (by have := HB0.out; simp only [List.length_append, beB_length]; omega)).mono ?_
      rintro e v1 ⟨rfl, hw, hm⟩
      have HK4 := hide (HK3.out.step hw hm hA.out)
      clear hw hm d1 HK3 W1
      go_wp2
      go_roundw
      case rel =>
        refine ⟨j + 1, by omega, by go_num, ?_, HK4.out.2.1, trivial⟩
        have h := HK4.out.1
        rw [HBS.out] at h
        have e3 : disB (xs.take (j + 1)) = disB (xs.take j) ++ diB x := by
          rw [HX.out]
          exact disB_more xs j hlt
        rw [e3]
        simp only [diB, List.append_assoc] at h ⊢
        exact h
      case measure => simp [intOf]; omega
    · obtain rfl : j = xs.length := by omega
      go_wp2
      go_end0
      refine ⟨rfl, ?_, HK.out.2.1⟩
      have h := HK.out.1
      rwa [List.take_length] at h
end Go.Proofs.Ytfbelaalmdcaaaa

/-
  The contract of record.Encode, of a record that is right, by kinds.
-/
namespace Go.Proofs.Ytfbelaalmdcaaaa
open Go.RowKit
set_option linter.unusedVariables false

/-- What Encode answers: the bytes in a row of the call's own, or none. -/
def EncIn (w : World) (v : Value) (bs : List UInt8) : Prop := ∃ a c, v = .slice a bs.length c ∧ (a = none → c = 0) ∧ bs.length ≤ c ∧ IsB w a bs.length bs
theorem enc_in {w : World} {base : Nat} {v : Value} {bs : List UInt8} (h : w.ownsRow base 5 1 v bs.length (toV bs)) : EncIn w v bs := by
  rcases h.2 with ⟨h1, h2⟩ | ⟨g, cap, cur, h2, h3, h4, h5, h6, h7, h8⟩
  · have hn : bs = [] := List.eq_nil_of_length_eq_zero h2
    subst hn
    exact ⟨none, 0, h1, fun _ => rfl, Nat.le_refl _, isB_nil w⟩
  · subst h2
    exact ⟨_, cap, rfl, fun h => (nomatch h), h5, h.isB rfl⟩
theorem chB_len2 (c : Ch) : (chB c).length = 6 + c.o.size + c.n.size := by
  unfold chB
  simp only [List.length_append, beB_length, textB_len]
  omega
theorem enc_bounds {r : Rec} (h : r.right) : (r.p < 18446744073709551616 ∧ r.n < 18446744073709551616 ∧ r.b < 18446744073709551616) ∧ (0 ≤ r.t ∧ r.t ≤ 1048575) ∧ (0 ≤ r.s ∧ r.s ≤ 8) ∧ r.ts.length ≤ 16 ∧ r.ds.length ≤ 32 ∧ (r.c.o.size ≤ 20 ∧ r.c.n.size ≤ 20) := by
  have hl : r.l ≤ 4611686018427387904 := h.lm
  have ht : (0 ≤ r.t ∧ r.t ≤ 1048575) ∧ r.p < 18446744073709551616 := by
    by_cases hk : r.k ≤ 6
    · have := h.own hk
      omega
    · have := h.none (by omega)
      omega
  have hn : r.n < 18446744073709551616 := by
    by_cases hk : r.k = 2
    · have := h.next hk
      omega
    · have := h.nonext hk
      omega
  have hs : 0 ≤ r.s ∧ r.s ≤ 8 := by
    by_cases hk : r.k = 6
    · have := h.save hk
      omega
    · have := h.nosave hk
      omega
  have hc : r.c.o.size ≤ 20 ∧ r.c.n.size ≤ 20 := by
    by_cases hk : r.k ≤ 2
    · have := ch_bounds (h.ch hk)
      omega
    · rw [h.noch (by omega)]
      exact ⟨Nat.zero_le _, Nat.zero_le _⟩
  by_cases hk : r.k = 8
  · obtain ⟨h1, h2, _, _, h5, h6⟩ := h.check hk
    exact ⟨⟨ht.2, hn, by omega⟩, ht.1, hs, h1, h2, hc⟩
  · obtain ⟨h1, h2, h3⟩ := h.nocheck hk
    rw [h1, h2, h3]
    exact ⟨⟨ht.2, hn, by omega⟩, ht.1, hs, Nat.zero_le _, Nat.zero_le _, hc⟩
theorem enc_txs {r : Rec} (h : r.right) (hk : r.k = 8) : ∀ i, i < r.ts.length → txFit (r.ts.getD i Tx.zero) := fun i hi => by
  have hl : r.l ≤ 4611686018427387904 := h.lm
  obtain ⟨h1, h2, h3, h4, h5, h6, h7, h8⟩ := ((h.check hk).2.2.1 i hi).1
  exact ⟨by omega, by omega, by omega, by omega, by omega, by omega, by omega⟩
theorem enc_dis {r : Rec} (h : r.right) (hk : r.k = 8) : ∀ i, i < r.ds.length → diFit (r.ds.getD i Di.zero) := fun i hi => by
  have hl : r.l ≤ 4611686018427387904 := h.lm
  obtain ⟨h1, h2, h3, h4⟩ := ((h.check hk).2.2.2.1 i hi).1
  exact ⟨by omega, by omega, by omega⟩
end Go.Proofs.Ytfbelaalmdcaaaa

/-
  The contract of record.Encode, kind 1.
-/
namespace Go.Proofs.Ytfbelaalmdcaaaa
open Go.RowKit
set_option linter.unusedVariables false

set_option maxRecDepth 4000 in
set_option maxHeartbeats 1600000 in
theorem enc_1 (r : Rec) (va vb : Value) (w : World) (hr : r.right) (hk : r.k = 1) (hf : r.fits) (hin : RcIn w r va vb) :
    Calls Try.prog 51 #[.agg (rcA r va vb)] w fun e w' => (∃ v, e = .returned (.tuple #[v, .int .i64 0]) ∧ EncIn w' v (recB r)) ∧ Below w.heap.size w w' := by
  have HIN := hide hin
  have HRT := hide (fun w h => right_at r va vb w true (hide ⟨fun _ => hr, fun _ => rfl⟩) hf h)
  obtain ⟨⟨e1, cap1, rfl, -⟩, ⟨e2, cap2, rfl, -⟩⟩ := hin
  have HK0 := hide (Keeps.one w 43 (rcA r (.slice e1 r.ts.length cap1) (.slice e2 r.ds.length cap2)))
  have HRR := hide hr
  have hlm : r.l ≤ 4611686018427387904 := hr.lm
  have hbs := enc_bounds hr
  obtain ⟨b1, b2, b3, b4, b5, b6⟩ := hbs
  go_enter Try.func51, Try.ntmps51
  go_wp2_with (refine wpList_load_at rfl 43 (.tmp 1) rfl w.heap.size rfl (rcA r (.slice e1 r.ts.length cap1) (.slice e2 r.ds.length cap2)) HK0.out.1.1 _ Try.underlying43 rfl infoRc ?_)
  refine (HRT.out _ (HIN.out.below HK0.out.2)).mono ?_
  rintro e x0 ⟨rfl, hb0⟩
  have HK1 := hide (HK0.out.later hb0)
  clear HK0 hb0 HRT
  obtain ⟨g, hg⟩ : ∃ g, g = x0.heap.size := ⟨_, rfl⟩
  have hbl := (Below.refl x0.heap.size x0).alloc (Nat.le_refl _) (.cells #[.slice none 0 0] 108)
  have HW0 : Hid (WK g x0 (x0.alloc (.cells #[.slice none 0 0] 108)) [] [(w.heap.size, 43, (rcA r (.slice e1 r.ts.length cap1) (.slice e2 r.ds.length cap2)))]) := by
    rw [hg]
    exact ⟨⟨.slice none 0 0, RowAt.new _ _ _, World.ownsRow_nil _ _ _ _⟩, Mv.later (Nat.le_refl _) hbl, HK1.out.1.1.later hbl, trivial⟩
  have hA : Hid (Aside g [(w.heap.size, 43, (rcA r (.slice e1 r.ts.length cap1) (.slice e2 r.ds.length cap2)))]) := fun e he => by
    simp only [List.mem_cons, List.not_mem_nil, or_false] at he
    subst he
    exact ⟨by show w.heap.size ≠ g; have := HK1.out.1.1.lt; rw [hg]; exact Nat.ne_of_lt this, by show (43 : TypeId) ≠ 5; decide⟩
  have HBX := hide HK1.out.2
  have HGW : Hid (w.heap.size ≤ g) := by show w.heap.size ≤ g; rw [hg]; exact HBX.out.size
  have HCX := hide (fun (y : World) (bs : List UInt8) (h : WK g x0 y bs [(w.heap.size, 43, (rcA r (.slice e1 r.ts.length cap1) (.slice e2 r.ds.length cap2)))]) => (HBX.out.trans (h.2.1.below.mono HGW.out) : Below w.heap.size w y))
  have c0 := HW0.out.2.2.1.cell 0 (.int .i64 1) (by rw [← hk]; rfl)
  clear hbl HK1
  go_wp2_with fail
  rw [← hg]
  refine gen_calls (fun x => Hid (WK g x0 x [] [(w.heap.size, 43, (rcA r (.slice e1 r.ts.length cap1) (.slice e2 r.ds.length cap2)))])) (by rw [hg]; rw [hg] at HW0; exact HW0) ?_
  clear HW0 c0 hg
  intro y0 H0
  refine (wnum_any g 1 1 [] _ H0.out.1 (by omega) (by omega) (Nat.zero_le _)).mono ?_
  rintro e y1 ⟨rfl, hw, hm⟩
  have H1 := hide (H0.out.step hw hm hA.out)
  clear hw hm H0
  have c1 := H1.out.2.2.1.cell 1 (.int .u64 (r.l : Int)) (by rfl)
  go_wp2_with fail
  refine (wnum_any g 8 r.l ([] ++ beB 1 1) _ H1.out.1 (by omega) (by omega) (by first | (simp only [List.length_append, beB_length, List.length_nil]; done) | (simp only [List.length_append, beB_length, List.length_nil]; omega))).mono ?_
  rintro e y2 ⟨rfl, hw, hm⟩
  have H2 := hide (H1.out.step hw hm hA.out)
  clear hw hm H1
  clear c1
  have c2 := H2.out.2.2.1.cell 2 (.int .i64 r.t) (by rfl)
  go_wp2_with fail
  have W := hide (wnum_any g 4 r.t.toNat (([] ++ beB 1 1) ++ beB 8 r.l) _ H2.out.1 (by omega) (by omega) (by first | (simp only [List.length_append, beB_length, List.length_nil]; done) | (simp only [List.length_append, beB_length, List.length_nil]; omega)))
  rw [Int.toNat_of_nonneg (by omega)] at W
  refine W.out.mono ?_
  clear W
  rintro e y3 ⟨rfl, hw, hm⟩
  have H3 := hide (H2.out.step hw hm hA.out)
  clear hw hm H2
  clear c2
  have c3 := H3.out.2.2.1.cell 3 (.int .u64 (r.p : Int)) (by rfl)
  have c0 := H3.out.2.2.1.cell 0 (.int .i64 1) (by rw [← hk]; rfl)
  go_wp2_with fail
  refine (wnum_any g 8 r.p ((([] ++ beB 1 1) ++ beB 8 r.l) ++ beB 4 r.t.toNat) _ H3.out.1 (by omega) (by omega) (by first | (simp only [List.length_append, beB_length, List.length_nil]; done) | (simp only [List.length_append, beB_length, List.length_nil]; omega))).mono ?_
  rintro e y4 ⟨rfl, hw, hm⟩
  have H4 := hide (H3.out.step hw hm hA.out)
  clear hw hm H3
  clear c3 c0
  have c0 := H4.out.2.2.1.cell 0 (.int .i64 1) (by rw [← hk]; rfl)
  go_wp2_with (refine wpList_load_mid rfl 39 (.tmp 27) rfl w.heap.size 4 (chA r.c) rfl (rc_change H4.out.2.2.1) _ Try.underlying39 rfl infoCh ?_)
  refine (wchange_any g r.c (((([] ++ beB 1 1) ++ beB 8 r.l) ++ beB 4 r.t.toNat) ++ beB 8 r.p) _ H4.out.1 (HRR.out.ch (by omega)) (by first | (simp only [List.length_append, beB_length, List.length_nil]; done) | (simp only [List.length_append, beB_length, List.length_nil]; omega))).mono ?_
  rintro e y5 ⟨rfl, hw, hm⟩
  have H5 := hide (H4.out.step hw hm hA.out)
  clear hw hm H4
  clear c0
  have hrb : ((((([] ++ beB 1 1) ++ beB 8 r.l) ++ beB 4 r.t.toNat) ++ beB 8 r.p) ++ chB r.c) = recB r := by
    unfold recB mayB
    rw [hk]
    simp
  have HX := hide (HCX.out _ _ H5.out)
  obtain ⟨v, hrow, hown⟩ := H5.out.1
  have HO := hide hown
  have HRO := hide hrow
  have HRB := hide hrb
  clear hown hrow hrb H5 hA HIN HCX HBX
  obtain ⟨a, c, hv⟩ := own_shape HO.out
  have HV := hide hv
  clear hv
  go_wp2_with (refine wpList_load_val rfl 60 (.tmp 55) rfl _ v rfl (load_b8 _ v a _ c HV.out (HRO.out.cell 0 v rfl)) ?_)
  (try simp only [Exit.inBlock, Exit.then])
  refine bodyPost_ret (results_tmp2 rfl _ _ _) rfl ?_
  refine ⟨⟨v, rfl, ?_⟩, HX.out⟩
  have ho := HO.out
  rw [HRB.out] at ho
  exact enc_in ho
end Go.Proofs.Ytfbelaalmdcaaaa

/-
  The contract of record.Encode, kind 2.
-/
namespace Go.Proofs.Ytfbelaalmdcaaaa
open Go.RowKit
set_option linter.unusedVariables false

set_option maxRecDepth 4000 in
set_option maxHeartbeats 1600000 in
theorem enc_2 (r : Rec) (va vb : Value) (w : World) (hr : r.right) (hk : r.k = 2) (hf : r.fits) (hin : RcIn w r va vb) :
    Calls Try.prog 51 #[.agg (rcA r va vb)] w fun e w' => (∃ v, e = .returned (.tuple #[v, .int .i64 0]) ∧ EncIn w' v (recB r)) ∧ Below w.heap.size w w' := by
  have HIN := hide hin
  have HRT := hide (fun w h => right_at r va vb w true (hide ⟨fun _ => hr, fun _ => rfl⟩) hf h)
  obtain ⟨⟨e1, cap1, rfl, -⟩, ⟨e2, cap2, rfl, -⟩⟩ := hin
  have HK0 := hide (Keeps.one w 43 (rcA r (.slice e1 r.ts.length cap1) (.slice e2 r.ds.length cap2)))
  have HRR := hide hr
  have hlm : r.l ≤ 4611686018427387904 := hr.lm
  have hbs := enc_bounds hr
  obtain ⟨b1, b2, b3, b4, b5, b6⟩ := hbs
  go_enter Try.func51, Try.ntmps51
  go_wp2_with (refine wpList_load_at rfl 43 (.tmp 1) rfl w.heap.size rfl (rcA r (.slice e1 r.ts.length cap1) (.slice e2 r.ds.length cap2)) HK0.out.1.1 _ Try.underlying43 rfl infoRc ?_)
  refine (HRT.out _ (HIN.out.below HK0.out.2)).mono ?_
  rintro e x0 ⟨rfl, hb0⟩
  have HK1 := hide (HK0.out.later hb0)
  clear HK0 hb0 HRT
  obtain ⟨g, hg⟩ : ∃ g, g = x0.heap.size := ⟨_, rfl⟩
  have hbl := (Below.refl x0.heap.size x0).alloc (Nat.le_refl _) (.cells #[.slice none 0 0] 108)
  have HW0 : Hid (WK g x0 (x0.alloc (.cells #[.slice none 0 0] 108)) [] [(w.heap.size, 43, (rcA r (.slice e1 r.ts.length cap1) (.slice e2 r.ds.length cap2)))]) := by
    rw [hg]
    exact ⟨⟨.slice none 0 0, RowAt.new _ _ _, World.ownsRow_nil _ _ _ _⟩, Mv.later (Nat.le_refl _) hbl, HK1.out.1.1.later hbl, trivial⟩
  have hA : Hid (Aside g [(w.heap.size, 43, (rcA r (.slice e1 r.ts.length cap1) (.slice e2 r.ds.length cap2)))]) := fun e he => by
    simp only [List.mem_cons, List.not_mem_nil, or_false] at he
    subst he
    exact ⟨by show w.heap.size ≠ g; have := HK1.out.1.1.lt; rw [hg]; exact Nat.ne_of_lt this, by show (43 : TypeId) ≠ 5; decide⟩
  have HBX := hide HK1.out.2
  have HGW : Hid (w.heap.size ≤ g) := by show w.heap.size ≤ g; rw [hg]; exact HBX.out.size
  have HCX := hide (fun (y : World) (bs : List UInt8) (h : WK g x0 y bs [(w.heap.size, 43, (rcA r (.slice e1 r.ts.length cap1) (.slice e2 r.ds.length cap2)))]) => (HBX.out.trans (h.2.1.below.mono HGW.out) : Below w.heap.size w y))
  have c0 := HW0.out.2.2.1.cell 0 (.int .i64 2) (by rw [← hk]; rfl)
  clear hbl HK1
  go_wp2_with fail
  rw [← hg]
  refine gen_calls (fun x => Hid (WK g x0 x [] [(w.heap.size, 43, (rcA r (.slice e1 r.ts.length cap1) (.slice e2 r.ds.length cap2)))])) (by rw [hg]; rw [hg] at HW0; exact HW0) ?_
  clear HW0 c0 hg
  intro y0 H0
  refine (wnum_any g 1 2 [] _ H0.out.1 (by omega) (by omega) (Nat.zero_le _)).mono ?_
  rintro e y1 ⟨rfl, hw, hm⟩
  have H1 := hide (H0.out.step hw hm hA.out)
  clear hw hm H0
  have c1 := H1.out.2.2.1.cell 1 (.int .u64 (r.l : Int)) (by rfl)
  go_wp2_with fail
  refine (wnum_any g 8 r.l ([] ++ beB 1 2) _ H1.out.1 (by omega) (by omega) (by first | (simp only [List.length_append, beB_length, List.length_nil]; done) | (simp only [List.length_append, beB_length, List.length_nil]; omega))).mono ?_
  rintro e y2 ⟨rfl, hw, hm⟩
  have H2 := hide (H1.out.step hw hm hA.out)
  clear hw hm H1
  clear c1
  have c2 := H2.out.2.2.1.cell 2 (.int .i64 r.t) (by rfl)
  go_wp2_with fail
  have W := hide (wnum_any g 4 r.t.toNat (([] ++ beB 1 2) ++ beB 8 r.l) _ H2.out.1 (by omega) (by omega) (by first | (simp only [List.length_append, beB_length, List.length_nil]; done) | (simp only [List.length_append, beB_length, List.length_nil]; omega)))
  rw [Int.toNat_of_nonneg (by omega)] at W
  refine W.out.mono ?_
  clear W
  rintro e y3 ⟨rfl, hw, hm⟩
  have H3 := hide (H2.out.step hw hm hA.out)
  clear hw hm H2
  clear c2
  have c3 := H3.out.2.2.1.cell 3 (.int .u64 (r.p : Int)) (by rfl)
  have c0 := H3.out.2.2.1.cell 0 (.int .i64 2) (by rw [← hk]; rfl)
  go_wp2_with fail
  refine (wnum_any g 8 r.p ((([] ++ beB 1 2) ++ beB 8 r.l) ++ beB 4 r.t.toNat) _ H3.out.1 (by omega) (by omega) (by first | (simp only [List.length_append, beB_length, List.length_nil]; done) | (simp only [List.length_append, beB_length, List.length_nil]; omega))).mono ?_
  rintro e y4 ⟨rfl, hw, hm⟩
  have H4 := hide (H3.out.step hw hm hA.out)
  clear hw hm H3
  clear c3 c0
  have c0 := H4.out.2.2.1.cell 0 (.int .i64 2) (by rw [← hk]; rfl)
  go_wp2_with (refine wpList_load_mid rfl 39 (.tmp 32) rfl w.heap.size 4 (chA r.c) rfl (rc_change H4.out.2.2.1) _ Try.underlying39 rfl infoCh ?_)
  refine (wchange_any g r.c (((([] ++ beB 1 2) ++ beB 8 r.l) ++ beB 4 r.t.toNat) ++ beB 8 r.p) _ H4.out.1 (HRR.out.ch (by omega)) (by first | (simp only [List.length_append, beB_length, List.length_nil]; done) | (simp only [List.length_append, beB_length, List.length_nil]; omega))).mono ?_
  rintro e y5 ⟨rfl, hw, hm⟩
  have H5 := hide (H4.out.step hw hm hA.out)
  clear hw hm H4
  clear c0
  have c9 := H5.out.2.2.1.cell 9 (.int .u64 (r.n : Int)) (by rfl)
  go_wp2_with fail
  refine (wnum_any g 8 r.n ((((([] ++ beB 1 2) ++ beB 8 r.l) ++ beB 4 r.t.toNat) ++ beB 8 r.p) ++ chB r.c) _ H5.out.1 (by omega) (by omega) (by first | (simp only [List.length_append, beB_length, List.length_nil, chB_len2]; done) | (simp only [List.length_append, beB_length, List.length_nil, chB_len2]; omega))).mono ?_
  rintro e y6 ⟨rfl, hw, hm⟩
  have H6 := hide (H5.out.step hw hm hA.out)
  clear hw hm H5
  clear c9
  have hrb : (((((([] ++ beB 1 2) ++ beB 8 r.l) ++ beB 4 r.t.toNat) ++ beB 8 r.p) ++ chB r.c) ++ beB 8 r.n) = recB r := by
    unfold recB mayB
    rw [hk]
    simp
  have HX := hide (HCX.out _ _ H6.out)
  obtain ⟨v, hrow, hown⟩ := H6.out.1
  have HO := hide hown
  have HRO := hide hrow
  have HRB := hide hrb
  clear hown hrow hrb H6 hA HIN HCX HBX
  obtain ⟨a, c, hv⟩ := own_shape HO.out
  have HV := hide hv
  clear hv
  go_wp2_with (refine wpList_load_val rfl 60 (.tmp 55) rfl _ v rfl (load_b8 _ v a _ c HV.out (HRO.out.cell 0 v rfl)) ?_)
  (try simp only [Exit.inBlock, Exit.then])
  refine bodyPost_ret (results_tmp2 rfl _ _ _) rfl ?_
  refine ⟨⟨v, rfl, ?_⟩, HX.out⟩
  have ho := HO.out
  rw [HRB.out] at ho
  exact enc_in ho
end Go.Proofs.Ytfbelaalmdcaaaa

/-
  The contract of record.Encode, kind 3.
-/
namespace Go.Proofs.Ytfbelaalmdcaaaa
open Go.RowKit
set_option linter.unusedVariables false

set_option maxRecDepth 4000 in
set_option maxHeartbeats 1600000 in
theorem enc_3 (r : Rec) (va vb : Value) (w : World) (hr : r.right) (hk : r.k = 3) (hf : r.fits) (hin : RcIn w r va vb) :
    Calls Try.prog 51 #[.agg (rcA r va vb)] w fun e w' => (∃ v, e = .returned (.tuple #[v, .int .i64 0]) ∧ EncIn w' v (recB r)) ∧ Below w.heap.size w w' := by
  have HIN := hide hin
  have HRT := hide (fun w h => right_at r va vb w true (hide ⟨fun _ => hr, fun _ => rfl⟩) hf h)
  obtain ⟨⟨e1, cap1, rfl, -⟩, ⟨e2, cap2, rfl, -⟩⟩ := hin
  have HK0 := hide (Keeps.one w 43 (rcA r (.slice e1 r.ts.length cap1) (.slice e2 r.ds.length cap2)))
  have HRR := hide hr
  have hlm : r.l ≤ 4611686018427387904 := hr.lm
  have hbs := enc_bounds hr
  obtain ⟨b1, b2, b3, b4, b5, b6⟩ := hbs
  go_enter Try.func51, Try.ntmps51
  go_wp2_with (refine wpList_load_at rfl 43 (.tmp 1) rfl w.heap.size rfl (rcA r (.slice e1 r.ts.length cap1) (.slice e2 r.ds.length cap2)) HK0.out.1.1 _ Try.underlying43 rfl infoRc ?_)
  refine (HRT.out _ (HIN.out.below HK0.out.2)).mono ?_
  rintro e x0 ⟨rfl, hb0⟩
  have HK1 := hide (HK0.out.later hb0)
  clear HK0 hb0 HRT
  obtain ⟨g, hg⟩ : ∃ g, g = x0.heap.size := ⟨_, rfl⟩
  have hbl := (Below.refl x0.heap.size x0).alloc (Nat.le_refl _) (.cells #[.slice none 0 0] 108)
  have HW0 : Hid (WK g x0 (x0.alloc (.cells #[.slice none 0 0] 108)) [] [(w.heap.size, 43, (rcA r (.slice e1 r.ts.length cap1) (.slice e2 r.ds.length cap2)))]) := by
    rw [hg]
    exact ⟨⟨.slice none 0 0, RowAt.new _ _ _, World.ownsRow_nil _ _ _ _⟩, Mv.later (Nat.le_refl _) hbl, HK1.out.1.1.later hbl, trivial⟩
  have hA : Hid (Aside g [(w.heap.size, 43, (rcA r (.slice e1 r.ts.length cap1) (.slice e2 r.ds.length cap2)))]) := fun e he => by
    simp only [List.mem_cons, List.not_mem_nil, or_false] at he
    subst he
    exact ⟨by show w.heap.size ≠ g; have := HK1.out.1.1.lt; rw [hg]; exact Nat.ne_of_lt this, by show (43 : TypeId) ≠ 5; decide⟩
  have HBX := hide HK1.out.2
  have HGW : Hid (w.heap.size ≤ g) := by show w.heap.size ≤ g; rw [hg]; exact HBX.out.size
  have HCX := hide (fun (y : World) (bs : List UInt8) (h : WK g x0 y bs [(w.heap.size, 43, (rcA r (.slice e1 r.ts.length cap1) (.slice e2 r.ds.length cap2)))]) => (HBX.out.trans (h.2.1.below.mono HGW.out) : Below w.heap.size w y))
  have c0 := HW0.out.2.2.1.cell 0 (.int .i64 3) (by rw [← hk]; rfl)
  clear hbl HK1
  go_wp2_with fail
  rw [← hg]
  refine gen_calls (fun x => Hid (WK g x0 x [] [(w.heap.size, 43, (rcA r (.slice e1 r.ts.length cap1) (.slice e2 r.ds.length cap2)))])) (by rw [hg]; rw [hg] at HW0; exact HW0) ?_
  clear HW0 c0 hg
  intro y0 H0
  refine (wnum_any g 1 3 [] _ H0.out.1 (by omega) (by omega) (Nat.zero_le _)).mono ?_
  rintro e y1 ⟨rfl, hw, hm⟩
  have H1 := hide (H0.out.step hw hm hA.out)
  clear hw hm H0
  have c1 := H1.out.2.2.1.cell 1 (.int .u64 (r.l : Int)) (by rfl)
  go_wp2_with fail
  refine (wnum_any g 8 r.l ([] ++ beB 1 3) _ H1.out.1 (by omega) (by omega) (by first | (simp only [List.length_append, beB_length, List.length_nil]; done) | (simp only [List.length_append, beB_length, List.length_nil]; omega))).mono ?_
  rintro e y2 ⟨rfl, hw, hm⟩
  have H2 := hide (H1.out.step hw hm hA.out)
  clear hw hm H1
  clear c1
  have c2 := H2.out.2.2.1.cell 2 (.int .i64 r.t) (by rfl)
  go_wp2_with fail
  have W := hide (wnum_any g 4 r.t.toNat (([] ++ beB 1 3) ++ beB 8 r.l) _ H2.out.1 (by omega) (by omega) (by first | (simp only [List.length_append, beB_length, List.length_nil]; done) | (simp only [List.length_append, beB_length, List.length_nil]; omega)))
  rw [Int.toNat_of_nonneg (by omega)] at W
  refine W.out.mono ?_
  clear W
  rintro e y3 ⟨rfl, hw, hm⟩
  have H3 := hide (H2.out.step hw hm hA.out)
  clear hw hm H2
  clear c2
  have c3 := H3.out.2.2.1.cell 3 (.int .u64 (r.p : Int)) (by rfl)
  have c0 := H3.out.2.2.1.cell 0 (.int .i64 3) (by rw [← hk]; rfl)
  go_wp2_with fail
  refine (wnum_any g 8 r.p ((([] ++ beB 1 3) ++ beB 8 r.l) ++ beB 4 r.t.toNat) _ H3.out.1 (by omega) (by omega) (by first | (simp only [List.length_append, beB_length, List.length_nil]; done) | (simp only [List.length_append, beB_length, List.length_nil]; omega))).mono ?_
  rintro e y4 ⟨rfl, hw, hm⟩
  have H4 := hide (H3.out.step hw hm hA.out)
  clear hw hm H3
  clear c3 c0
  have hrb : (((([] ++ beB 1 3) ++ beB 8 r.l) ++ beB 4 r.t.toNat) ++ beB 8 r.p) = recB r := by
    unfold recB mayB
    rw [hk]
    simp
  have HX := hide (HCX.out _ _ H4.out)
  obtain ⟨v, hrow, hown⟩ := H4.out.1
  have HO := hide hown
  have HRO := hide hrow
  have HRB := hide hrb
  have c0 := H4.out.2.2.1.cell 0 (.int .i64 3) (by rw [← hk]; rfl)
  clear hown hrow hrb H4 hA HIN HCX HBX
  obtain ⟨a, c, hv⟩ := own_shape HO.out
  have HV := hide hv
  clear hv
  go_wp2_with (refine wpList_load_val rfl 60 (.tmp 55) rfl _ v rfl (load_b8 _ v a _ c HV.out (HRO.out.cell 0 v rfl)) ?_)
  (try simp only [Exit.inBlock, Exit.then])
  refine bodyPost_ret (results_tmp2 rfl _ _ _) rfl ?_
  refine ⟨⟨v, rfl, ?_⟩, HX.out⟩
  have ho := HO.out
  rw [HRB.out] at ho
  exact enc_in ho
end Go.Proofs.Ytfbelaalmdcaaaa

/-
  The contract of record.Encode, kind 4.
-/
namespace Go.Proofs.Ytfbelaalmdcaaaa
open Go.RowKit
set_option linter.unusedVariables false

set_option maxRecDepth 4000 in
set_option maxHeartbeats 1600000 in
theorem enc_4 (r : Rec) (va vb : Value) (w : World) (hr : r.right) (hk : r.k = 4) (hf : r.fits) (hin : RcIn w r va vb) :
    Calls Try.prog 51 #[.agg (rcA r va vb)] w fun e w' => (∃ v, e = .returned (.tuple #[v, .int .i64 0]) ∧ EncIn w' v (recB r)) ∧ Below w.heap.size w w' := by
  have HIN := hide hin
  have HRT := hide (fun w h => right_at r va vb w true (hide ⟨fun _ => hr, fun _ => rfl⟩) hf h)
  obtain ⟨⟨e1, cap1, rfl, -⟩, ⟨e2, cap2, rfl, -⟩⟩ := hin
  have HK0 := hide (Keeps.one w 43 (rcA r (.slice e1 r.ts.length cap1) (.slice e2 r.ds.length cap2)))
  have HRR := hide hr
  have hlm : r.l ≤ 4611686018427387904 := hr.lm
  have hbs := enc_bounds hr
  obtain ⟨b1, b2, b3, b4, b5, b6⟩ := hbs
  go_enter Try.func51, Try.ntmps51
  go_wp2_with (refine wpList_load_at rfl 43 (.tmp 1) rfl w.heap.size rfl (rcA r (.slice e1 r.ts.length cap1) (.slice e2 r.ds.length cap2)) HK0.out.1.1 _ Try.underlying43 rfl infoRc ?_)
  refine (HRT.out _ (HIN.out.below HK0.out.2)).mono ?_
  rintro e x0 ⟨rfl, hb0⟩
  have HK1 := hide (HK0.out.later hb0)
  clear HK0 hb0 HRT
  obtain ⟨g, hg⟩ : ∃ g, g = x0.heap.size := ⟨_, rfl⟩
  have hbl := (Below.refl x0.heap.size x0).alloc (Nat.le_refl _) (.cells #[.slice none 0 0] 108)
  have HW0 : Hid (WK g x0 (x0.alloc (.cells #[.slice none 0 0] 108)) [] [(w.heap.size, 43, (rcA r (.slice e1 r.ts.length cap1) (.slice e2 r.ds.length cap2)))]) := by
    rw [hg]
    exact ⟨⟨.slice none 0 0, RowAt.new _ _ _, World.ownsRow_nil _ _ _ _⟩, Mv.later (Nat.le_refl _) hbl, HK1.out.1.1.later hbl, trivial⟩
  have hA : Hid (Aside g [(w.heap.size, 43, (rcA r (.slice e1 r.ts.length cap1) (.slice e2 r.ds.length cap2)))]) := fun e he => by
    simp only [List.mem_cons, List.not_mem_nil, or_false] at he
    subst he
    exact ⟨by show w.heap.size ≠ g; have := HK1.out.1.1.lt; rw [hg]; exact Nat.ne_of_lt this, by show (43 : TypeId) ≠ 5; decide⟩
  have HBX := hide HK1.out.2
  have HGW : Hid (w.heap.size ≤ g) := by show w.heap.size ≤ g; rw [hg]; exact HBX.out.size
  have HCX := hide (fun (y : World) (bs : List UInt8) (h : WK g x0 y bs [(w.heap.size, 43, (rcA r (.slice e1 r.ts.length cap1) (.slice e2 r.ds.length cap2)))]) => (HBX.out.trans (h.2.1.below.mono HGW.out) : Below w.heap.size w y))
  have c0 := HW0.out.2.2.1.cell 0 (.int .i64 4) (by rw [← hk]; rfl)
  clear hbl HK1
  go_wp2_with fail
  rw [← hg]
  refine gen_calls (fun x => Hid (WK g x0 x [] [(w.heap.size, 43, (rcA r (.slice e1 r.ts.length cap1) (.slice e2 r.ds.length cap2)))])) (by rw [hg]; rw [hg] at HW0; exact HW0) ?_
  clear HW0 c0 hg
  intro y0 H0
  refine (wnum_any g 1 4 [] _ H0.out.1 (by omega) (by omega) (Nat.zero_le _)).mono ?_
  rintro e y1 ⟨rfl, hw, hm⟩
  have H1 := hide (H0.out.step hw hm hA.out)
  clear hw hm H0
  have c1 := H1.out.2.2.1.cell 1 (.int .u64 (r.l : Int)) (by rfl)
  go_wp2_with fail
  refine (wnum_any g 8 r.l ([] ++ beB 1 4) _ H1.out.1 (by omega) (by omega) (by first | (simp only [List.length_append, beB_length, List.length_nil]; done) | (simp only [List.length_append, beB_length, List.length_nil]; omega))).mono ?_
  rintro e y2 ⟨rfl, hw, hm⟩
  have H2 := hide (H1.out.step hw hm hA.out)
  clear hw hm H1
  clear c1
  have c2 := H2.out.2.2.1.cell 2 (.int .i64 r.t) (by rfl)
  go_wp2_with fail
  have W := hide (wnum_any g 4 r.t.toNat (([] ++ beB 1 4) ++ beB 8 r.l) _ H2.out.1 (by omega) (by omega) (by first | (simp only [List.length_append, beB_length, List.length_nil]; done) | (simp only [List.length_append, beB_length, List.length_nil]; omega)))
  rw [Int.toNat_of_nonneg (by omega)] at W
  refine W.out.mono ?_
  clear W
  rintro e y3 ⟨rfl, hw, hm⟩
  have H3 := hide (H2.out.step hw hm hA.out)
  clear hw hm H2
  clear c2
  have c3 := H3.out.2.2.1.cell 3 (.int .u64 (r.p : Int)) (by rfl)
  have c0 := H3.out.2.2.1.cell 0 (.int .i64 4) (by rw [← hk]; rfl)
  go_wp2_with fail
  refine (wnum_any g 8 r.p ((([] ++ beB 1 4) ++ beB 8 r.l) ++ beB 4 r.t.toNat) _ H3.out.1 (by omega) (by omega) (by first | (simp only [List.length_append, beB_length, List.length_nil]; done) | (simp only [List.length_append, beB_length, List.length_nil]; omega))).mono ?_
  rintro e y4 ⟨rfl, hw, hm⟩
  have H4 := hide (H3.out.step hw hm hA.out)
  clear hw hm H3
  clear c3 c0
  have hrb : (((([] ++ beB 1 4) ++ beB 8 r.l) ++ beB 4 r.t.toNat) ++ beB 8 r.p) = recB r := by
    unfold recB mayB
    rw [hk]
    simp
  have HX := hide (HCX.out _ _ H4.out)
  obtain ⟨v, hrow, hown⟩ := H4.out.1
  have HO := hide hown
  have HRO := hide hrow
  have HRB := hide hrb
  have c0 := H4.out.2.2.1.cell 0 (.int .i64 4) (by rw [← hk]; rfl)
  clear hown hrow hrb H4 hA HIN HCX HBX
  obtain ⟨a, c, hv⟩ := own_shape HO.out
  have HV := hide hv
  clear hv
  go_wp2_with (refine wpList_load_val rfl 60 (.tmp 55) rfl _ v rfl (load_b8 _ v a _ c HV.out (HRO.out.cell 0 v rfl)) ?_)
  (try simp only [Exit.inBlock, Exit.then])
  refine bodyPost_ret (results_tmp2 rfl _ _ _) rfl ?_
  refine ⟨⟨v, rfl, ?_⟩, HX.out⟩
  have ho := HO.out
  rw [HRB.out] at ho
  exact enc_in ho
end Go.Proofs.Ytfbelaalmdcaaaa

/-
  The contract of record.Encode, kind 5.
-/
namespace Go.Proofs.Ytfbelaalmdcaaaa
open Go.RowKit
set_option linter.unusedVariables false

set_option maxRecDepth 4000 in
set_option maxHeartbeats 1600000 in
theorem enc_5 (r : Rec) (va vb : Value) (w : World) (hr : r.right) (hk : r.k = 5) (hf : r.fits) (hin : RcIn w r va vb) :
    Calls Try.prog 51 #[.agg (rcA r va vb)] w fun e w' => (∃ v, e = .returned (.tuple #[v, .int .i64 0]) ∧ EncIn w' v (recB r)) ∧ Below w.heap.size w w' := by
  have HIN := hide hin
  have HRT := hide (fun w h => right_at r va vb w true (hide ⟨fun _ => hr, fun _ => rfl⟩) hf h)
  obtain ⟨⟨e1, cap1, rfl, -⟩, ⟨e2, cap2, rfl, -⟩⟩ := hin
  have HK0 := hide (Keeps.one w 43 (rcA r (.slice e1 r.ts.length cap1) (.slice e2 r.ds.length cap2)))
  have HRR := hide hr
  have hlm : r.l ≤ 4611686018427387904 := hr.lm
  have hbs := enc_bounds hr
  obtain ⟨b1, b2, b3, b4, b5, b6⟩ := hbs
  go_enter Try.func51, Try.ntmps51
  go_wp2_with (refine wpList_load_at rfl 43 (.tmp 1) rfl w.heap.size rfl (rcA r (.slice e1 r.ts.length cap1) (.slice e2 r.ds.length cap2)) HK0.out.1.1 _ Try.underlying43 rfl infoRc ?_)
  refine (HRT.out _ (HIN.out.below HK0.out.2)).mono ?_
  rintro e x0 ⟨rfl, hb0⟩
  have HK1 := hide (HK0.out.later hb0)
  clear HK0 hb0 HRT
  obtain ⟨g, hg⟩ : ∃ g, g = x0.heap.size := ⟨_, rfl⟩
  have hbl := (Below.refl x0.heap.size x0).alloc (Nat.le_refl _) (.cells #[.slice none 0 0] 108)
  have HW0 : Hid (WK g x0 (x0.alloc (.cells #[.slice none 0 0] 108)) [] [(w.heap.size, 43, (rcA r (.slice e1 r.ts.length cap1) (.slice e2 r.ds.length cap2)))]) := by
    rw [hg]
    exact ⟨⟨.slice none 0 0, RowAt.new _ _ _, World.ownsRow_nil _ _ _ _⟩, Mv.later (Nat.le_refl _) hbl, HK1.out.1.1.later hbl, trivial⟩
  have hA : Hid (Aside g [(w.heap.size, 43, (rcA r (.slice e1 r.ts.length cap1) (.slice e2 r.ds.length cap2)))]) := fun e he => by
    simp only [List.mem_cons, List.not_mem_nil, or_false] at he
    subst he
    exact ⟨by show w.heap.size ≠ g; have := HK1.out.1.1.lt; rw [hg]; exact Nat.ne_of_lt this, by show (43 : TypeId) ≠ 5; decide⟩
  have HBX := hide HK1.out.2
  have HGW : Hid (w.heap.size ≤ g) := by show w.heap.size ≤ g; rw [hg]; exact HBX.out.size
  have HCX := hide (fun (y : World) (bs : List UInt8) (h : WK g x0 y bs [(w.heap.size, 43, (rcA r (.slice e1 r.ts.length cap1) (.slice e2 r.ds.length cap2)))]) => (HBX.out.trans (h.2.1.below.mono HGW.out) : Below w.heap.size w y))
  have c0 := HW0.out.2.2.1.cell 0 (.int .i64 5) (by rw [← hk]; rfl)
  clear hbl HK1
  go_wp2_with fail
  rw [← hg]
  refine gen_calls (fun x => Hid (WK g x0 x [] [(w.heap.size, 43, (rcA r (.slice e1 r.ts.length cap1) (.slice e2 r.ds.length cap2)))])) (by rw [hg]; rw [hg] at HW0; exact HW0) ?_
  clear HW0 c0 hg
  intro y0 H0
  refine (wnum_any g 1 5 [] _ H0.out.1 (by omega) (by omega) (Nat.zero_le _)).mono ?_
  rintro e y1 ⟨rfl, hw, hm⟩
  have H1 := hide (H0.out.step hw hm hA.out)
  clear hw hm H0
  have c1 := H1.out.2.2.1.cell 1 (.int .u64 (r.l : Int)) (by rfl)
  go_wp2_with fail
  refine (wnum_any g 8 r.l ([] ++ beB 1 5) _ H1.out.1 (by omega) (by omega) (by first | (simp only [List.length_append, beB_length, List.length_nil]; done) | (simp only [List.length_append, beB_length, List.length_nil]; omega))).mono ?_
  rintro e y2 ⟨rfl, hw, hm⟩
  have H2 := hide (H1.out.step hw hm hA.out)
  clear hw hm H1
  clear c1
  have c2 := H2.out.2.2.1.cell 2 (.int .i64 r.t) (by rfl)
  go_wp2_with fail
  have W := hide (wnum_any g 4 r.t.toNat (([] ++ beB 1 5) ++ beB 8 r.l) _ H2.out.1 (by omega) (by omega) (by first | (simp only [List.length_append, beB_length, List.length_nil]; done) | (simp only [List.length_append, beB_length, List.length_nil]; omega)))
  rw [Int.toNat_of_nonneg (by omega)] at W
  refine W.out.mono ?_
  clear W
  rintro e y3 ⟨rfl, hw, hm⟩
  have H3 := hide (H2.out.step hw hm hA.out)
  clear hw hm H2
  clear c2
  have c3 := H3.out.2.2.1.cell 3 (.int .u64 (r.p : Int)) (by rfl)
  have c0 := H3.out.2.2.1.cell 0 (.int .i64 5) (by rw [← hk]; rfl)
  go_wp2_with fail
  refine (wnum_any g 8 r.p ((([] ++ beB 1 5) ++ beB 8 r.l) ++ beB 4 r.t.toNat) _ H3.out.1 (by omega) (by omega) (by first | (simp only [List.length_append, beB_length, List.length_nil]; done) | (simp only [List.length_append, beB_length, List.length_nil]; omega))).mono ?_
  rintro e y4 ⟨rfl, hw, hm⟩
  have H4 := hide (H3.out.step hw hm hA.out)
  clear hw hm H3
  clear c3 c0
  have hrb : (((([] ++ beB 1 5) ++ beB 8 r.l) ++ beB 4 r.t.toNat) ++ beB 8 r.p) = recB r := by
    unfold recB mayB
    rw [hk]
    simp
  have HX := hide (HCX.out _ _ H4.out)
  obtain ⟨v, hrow, hown⟩ := H4.out.1
  have HO := hide hown
  have HRO := hide hrow
  have HRB := hide hrb
  have c0 := H4.out.2.2.1.cell 0 (.int .i64 5) (by rw [← hk]; rfl)
  clear hown hrow hrb H4 hA HIN HCX HBX
  obtain ⟨a, c, hv⟩ := own_shape HO.out
  have HV := hide hv
  clear hv
  go_wp2_with (refine wpList_load_val rfl 60 (.tmp 55) rfl _ v rfl (load_b8 _ v a _ c HV.out (HRO.out.cell 0 v rfl)) ?_)
  (try simp only [Exit.inBlock, Exit.then])
  refine bodyPost_ret (results_tmp2 rfl _ _ _) rfl ?_
  refine ⟨⟨v, rfl, ?_⟩, HX.out⟩
  have ho := HO.out
  rw [HRB.out] at ho
  exact enc_in ho
end Go.Proofs.Ytfbelaalmdcaaaa

/-
  The contract of record.Encode, kind 6.
-/
namespace Go.Proofs.Ytfbelaalmdcaaaa
open Go.RowKit
set_option linter.unusedVariables false

set_option maxRecDepth 4000 in
set_option maxHeartbeats 1600000 in
theorem enc_6 (r : Rec) (va vb : Value) (w : World) (hr : r.right) (hk : r.k = 6) (hf : r.fits) (hin : RcIn w r va vb) :
    Calls Try.prog 51 #[.agg (rcA r va vb)] w fun e w' => (∃ v, e = .returned (.tuple #[v, .int .i64 0]) ∧ EncIn w' v (recB r)) ∧ Below w.heap.size w w' := by
  have HIN := hide hin
  have HRT := hide (fun w h => right_at r va vb w true (hide ⟨fun _ => hr, fun _ => rfl⟩) hf h)
  obtain ⟨⟨e1, cap1, rfl, -⟩, ⟨e2, cap2, rfl, -⟩⟩ := hin
  have HK0 := hide (Keeps.one w 43 (rcA r (.slice e1 r.ts.length cap1) (.slice e2 r.ds.length cap2)))
  have HRR := hide hr
  have hlm : r.l ≤ 4611686018427387904 := hr.lm
  have hbs := enc_bounds hr
  obtain ⟨b1, b2, b3, b4, b5, b6⟩ := hbs
  go_enter Try.func51, Try.ntmps51
  go_wp2_with (refine wpList_load_at rfl 43 (.tmp 1) rfl w.heap.size rfl (rcA r (.slice e1 r.ts.length cap1) (.slice e2 r.ds.length cap2)) HK0.out.1.1 _ Try.underlying43 rfl infoRc ?_)
  refine (HRT.out _ (HIN.out.below HK0.out.2)).mono ?_
  rintro e x0 ⟨rfl, hb0⟩
  have HK1 := hide (HK0.out.later hb0)
  clear HK0 hb0 HRT
  obtain ⟨g, hg⟩ : ∃ g, g = x0.heap.size := ⟨_, rfl⟩
  have hbl := (Below.refl x0.heap.size x0).alloc (Nat.le_refl _) (.cells #[.slice none 0 0] 108)
  have HW0 : Hid (WK g x0 (x0.alloc (.cells #[.slice none 0 0] 108)) [] [(w.heap.size, 43, (rcA r (.slice e1 r.ts.length cap1) (.slice e2 r.ds.length cap2)))]) := by
    rw [hg]
    exact ⟨⟨.slice none 0 0, RowAt.new _ _ _, World.ownsRow_nil _ _ _ _⟩, Mv.later (Nat.le_refl _) hbl, HK1.out.1.1.later hbl, trivial⟩
  have hA : Hid (Aside g [(w.heap.size, 43, (rcA r (.slice e1 r.ts.length cap1) (.slice e2 r.ds.length cap2)))]) := fun e he => by
    simp only [List.mem_cons, List.not_mem_nil, or_false] at he
    subst he
    exact ⟨by show w.heap.size ≠ g; have := HK1.out.1.1.lt; rw [hg]; exact Nat.ne_of_lt this, by show (43 : TypeId) ≠ 5; decide⟩
  have HBX := hide HK1.out.2
  have HGW : Hid (w.heap.size ≤ g) := by show w.heap.size ≤ g; rw [hg]; exact HBX.out.size
  have HCX := hide (fun (y : World) (bs : List UInt8) (h : WK g x0 y bs [(w.heap.size, 43, (rcA r (.slice e1 r.ts.length cap1) (.slice e2 r.ds.length cap2)))]) => (HBX.out.trans (h.2.1.below.mono HGW.out) : Below w.heap.size w y))
  have c0 := HW0.out.2.2.1.cell 0 (.int .i64 6) (by rw [← hk]; rfl)
  clear hbl HK1
  go_wp2_with fail
  rw [← hg]
  refine gen_calls (fun x => Hid (WK g x0 x [] [(w.heap.size, 43, (rcA r (.slice e1 r.ts.length cap1) (.slice e2 r.ds.length cap2)))])) (by rw [hg]; rw [hg] at HW0; exact HW0) ?_
  clear HW0 c0 hg
  intro y0 H0
  refine (wnum_any g 1 6 [] _ H0.out.1 (by omega) (by omega) (Nat.zero_le _)).mono ?_
  rintro e y1 ⟨rfl, hw, hm⟩
  have H1 := hide (H0.out.step hw hm hA.out)
  clear hw hm H0
  have c1 := H1.out.2.2.1.cell 1 (.int .u64 (r.l : Int)) (by rfl)
  go_wp2_with fail
  refine (wnum_any g 8 r.l ([] ++ beB 1 6) _ H1.out.1 (by omega) (by omega) (by first | (simp only [List.length_append, beB_length, List.length_nil]; done) | (simp only [List.length_append, beB_length, List.length_nil]; omega))).mono ?_
  rintro e y2 ⟨rfl, hw, hm⟩
  have H2 := hide (H1.out.step hw hm hA.out)
  clear hw hm H1
  clear c1
  have c2 := H2.out.2.2.1.cell 2 (.int .i64 r.t) (by rfl)
  go_wp2_with fail
  have W := hide (wnum_any g 4 r.t.toNat (([] ++ beB 1 6) ++ beB 8 r.l) _ H2.out.1 (by omega) (by omega) (by first | (simp only [List.length_append, beB_length, List.length_nil]; done) | (simp only [List.length_append, beB_length, List.length_nil]; omega)))
  rw [Int.toNat_of_nonneg (by omega)] at W
  refine W.out.mono ?_
  clear W
  rintro e y3 ⟨rfl, hw, hm⟩
  have H3 := hide (H2.out.step hw hm hA.out)
  clear hw hm H2
  clear c2
  have c3 := H3.out.2.2.1.cell 3 (.int .u64 (r.p : Int)) (by rfl)
  have c0 := H3.out.2.2.1.cell 0 (.int .i64 6) (by rw [← hk]; rfl)
  go_wp2_with fail
  refine (wnum_any g 8 r.p ((([] ++ beB 1 6) ++ beB 8 r.l) ++ beB 4 r.t.toNat) _ H3.out.1 (by omega) (by omega) (by first | (simp only [List.length_append, beB_length, List.length_nil]; done) | (simp only [List.length_append, beB_length, List.length_nil]; omega))).mono ?_
  rintro e y4 ⟨rfl, hw, hm⟩
  have H4 := hide (H3.out.step hw hm hA.out)
  clear hw hm H3
  clear c3 c0
  have c10 := H4.out.2.2.1.cell 10 (.int .i64 r.s) (by rfl)
  have c0 := H4.out.2.2.1.cell 0 (.int .i64 6) (by rw [← hk]; rfl)
  go_wp2_with fail
  have W := hide (wnum_any g 1 r.s.toNat (((([] ++ beB 1 6) ++ beB 8 r.l) ++ beB 4 r.t.toNat) ++ beB 8 r.p) _ H4.out.1 (by omega) (by omega) (by first | (simp only [List.length_append, beB_length, List.length_nil]; done) | (simp only [List.length_append, beB_length, List.length_nil]; omega)))
  rw [Int.toNat_of_nonneg (by omega)] at W
  refine W.out.mono ?_
  clear W
  rintro e y5 ⟨rfl, hw, hm⟩
  have H5 := hide (H4.out.step hw hm hA.out)
  clear hw hm H4
  clear c10 c0
  have hrb : ((((([] ++ beB 1 6) ++ beB 8 r.l) ++ beB 4 r.t.toNat) ++ beB 8 r.p) ++ beB 1 r.s.toNat) = recB r := by
    unfold recB mayB
    rw [hk]
    simp
  have HX := hide (HCX.out _ _ H5.out)
  obtain ⟨v, hrow, hown⟩ := H5.out.1
  have HO := hide hown
  have HRO := hide hrow
  have HRB := hide hrb
  clear hown hrow hrb H5 hA HIN HCX HBX
  obtain ⟨a, c, hv⟩ := own_shape HO.out
  have HV := hide hv
  clear hv
  go_wp2_with (refine wpList_load_val rfl 60 (.tmp 55) rfl _ v rfl (load_b8 _ v a _ c HV.out (HRO.out.cell 0 v rfl)) ?_)
  (try simp only [Exit.inBlock, Exit.then])
  refine bodyPost_ret (results_tmp2 rfl _ _ _) rfl ?_
  refine ⟨⟨v, rfl, ?_⟩, HX.out⟩
  have ho := HO.out
  rw [HRB.out] at ho
  exact enc_in ho
end Go.Proofs.Ytfbelaalmdcaaaa

/-
  The contract of record.Encode, kind 7.
-/
namespace Go.Proofs.Ytfbelaalmdcaaaa
open Go.RowKit
set_option linter.unusedVariables false

set_option maxRecDepth 4000 in
set_option maxHeartbeats 1600000 in
theorem enc_7 (r : Rec) (va vb : Value) (w : World) (hr : r.right) (hk : r.k = 7) (hf : r.fits) (hin : RcIn w r va vb) :
    Calls Try.prog 51 #[.agg (rcA r va vb)] w fun e w' => (∃ v, e = .returned (.tuple #[v, .int .i64 0]) ∧ EncIn w' v (recB r)) ∧ Below w.heap.size w w' := by
  have HIN := hide hin
  have HRT := hide (fun w h => right_at r va vb w true (hide ⟨fun _ => hr, fun _ => rfl⟩) hf h)
  obtain ⟨⟨e1, cap1, rfl, -⟩, ⟨e2, cap2, rfl, -⟩⟩ := hin
  have HK0 := hide (Keeps.one w 43 (rcA r (.slice e1 r.ts.length cap1) (.slice e2 r.ds.length cap2)))
  have HRR := hide hr
  have hlm : r.l ≤ 4611686018427387904 := hr.lm
  have hbs := enc_bounds hr
  obtain ⟨b1, b2, b3, b4, b5, b6⟩ := hbs
  go_enter Try.func51, Try.ntmps51
  go_wp2_with (refine wpList_load_at rfl 43 (.tmp 1) rfl w.heap.size rfl (rcA r (.slice e1 r.ts.length cap1) (.slice e2 r.ds.length cap2)) HK0.out.1.1 _ Try.underlying43 rfl infoRc ?_)
  refine (HRT.out _ (HIN.out.below HK0.out.2)).mono ?_
  rintro e x0 ⟨rfl, hb0⟩
  have HK1 := hide (HK0.out.later hb0)
  clear HK0 hb0 HRT
  obtain ⟨g, hg⟩ : ∃ g, g = x0.heap.size := ⟨_, rfl⟩
  have hbl := (Below.refl x0.heap.size x0).alloc (Nat.le_refl _) (.cells #[.slice none 0 0] 108)
  have HW0 : Hid (WK g x0 (x0.alloc (.cells #[.slice none 0 0] 108)) [] [(w.heap.size, 43, (rcA r (.slice e1 r.ts.length cap1) (.slice e2 r.ds.length cap2)))]) := by
    rw [hg]
    exact ⟨⟨.slice none 0 0, RowAt.new _ _ _, World.ownsRow_nil _ _ _ _⟩, Mv.later (Nat.le_refl _) hbl, HK1.out.1.1.later hbl, trivial⟩
  have hA : Hid (Aside g [(w.heap.size, 43, (rcA r (.slice e1 r.ts.length cap1) (.slice e2 r.ds.length cap2)))]) := fun e he => by
    simp only [List.mem_cons, List.not_mem_nil, or_false] at he
    subst he
    exact ⟨by show w.heap.size ≠ g; have := HK1.out.1.1.lt; rw [hg]; exact Nat.ne_of_lt this, by show (43 : TypeId) ≠ 5; decide⟩
  have HBX := hide HK1.out.2
  have HGW : Hid (w.heap.size ≤ g) := by show w.heap.size ≤ g; rw [hg]; exact HBX.out.size
  have HCX := hide (fun (y : World) (bs : List UInt8) (h : WK g x0 y bs [(w.heap.size, 43, (rcA r (.slice e1 r.ts.length cap1) (.slice e2 r.ds.length cap2)))]) => (HBX.out.trans (h.2.1.below.mono HGW.out) : Below w.heap.size w y))
  have c0 := HW0.out.2.2.1.cell 0 (.int .i64 7) (by rw [← hk]; rfl)
  clear hbl HK1
  go_wp2_with fail
  rw [← hg]
  refine gen_calls (fun x => Hid (WK g x0 x [] [(w.heap.size, 43, (rcA r (.slice e1 r.ts.length cap1) (.slice e2 r.ds.length cap2)))])) (by rw [hg]; rw [hg] at HW0; exact HW0) ?_
  clear HW0 c0 hg
  intro y0 H0
  refine (wnum_any g 1 7 [] _ H0.out.1 (by omega) (by omega) (Nat.zero_le _)).mono ?_
  rintro e y1 ⟨rfl, hw, hm⟩
  have H1 := hide (H0.out.step hw hm hA.out)
  clear hw hm H0
  have c1 := H1.out.2.2.1.cell 1 (.int .u64 (r.l : Int)) (by rfl)
  go_wp2_with fail
  refine (wnum_any g 8 r.l ([] ++ beB 1 7) _ H1.out.1 (by omega) (by omega) (by first | (simp only [List.length_append, beB_length, List.length_nil]; done) | (simp only [List.length_append, beB_length, List.length_nil]; omega))).mono ?_
  rintro e y2 ⟨rfl, hw, hm⟩
  have H2 := hide (H1.out.step hw hm hA.out)
  clear hw hm H1
  clear c1
  have c2 := H2.out.2.2.1.cell 2 (.int .i64 r.t) (by rfl)
  go_wp2_with fail
  have W := hide (wnum_any g 4 r.t.toNat (([] ++ beB 1 7) ++ beB 8 r.l) _ H2.out.1 (by omega) (by omega) (by first | (simp only [List.length_append, beB_length, List.length_nil]; done) | (simp only [List.length_append, beB_length, List.length_nil]; omega)))
  rw [Int.toNat_of_nonneg (by omega)] at W
  refine W.out.mono ?_
  clear W
  rintro e y3 ⟨rfl, hw, hm⟩
  have H3 := hide (H2.out.step hw hm hA.out)
  clear hw hm H2
  clear c2
  have c3 := H3.out.2.2.1.cell 3 (.int .u64 (r.p : Int)) (by rfl)
  have c0 := H3.out.2.2.1.cell 0 (.int .i64 7) (by rw [← hk]; rfl)
  go_wp2_with fail
  refine (wnum_any g 8 r.p ((([] ++ beB 1 7) ++ beB 8 r.l) ++ beB 4 r.t.toNat) _ H3.out.1 (by omega) (by omega) (by first | (simp only [List.length_append, beB_length, List.length_nil]; done) | (simp only [List.length_append, beB_length, List.length_nil]; omega))).mono ?_
  rintro e y4 ⟨rfl, hw, hm⟩
  have H4 := hide (H3.out.step hw hm hA.out)
  clear hw hm H3
  clear c3 c0
  have hrb : (((([] ++ beB 1 7) ++ beB 8 r.l) ++ beB 4 r.t.toNat) ++ beB 8 r.p) = recB r := by
    unfold recB mayB
    rw [hk]
    simp
  have HX := hide (HCX.out _ _ H4.out)
  obtain ⟨v, hrow, hown⟩ := H4.out.1
  have HO := hide hown
  have HRO := hide hrow
  have HRB := hide hrb
  have c0 := H4.out.2.2.1.cell 0 (.int .i64 7) (by rw [← hk]; rfl)
  clear hown hrow hrb H4 hA HIN HCX HBX
  obtain ⟨a, c, hv⟩ := own_shape HO.out
  have HV := hide hv
  clear hv
  go_wp2_with (refine wpList_load_val rfl 60 (.tmp 55) rfl _ v rfl (load_b8 _ v a _ c HV.out (HRO.out.cell 0 v rfl)) ?_)
  (try simp only [Exit.inBlock, Exit.then])
  refine bodyPost_ret (results_tmp2 rfl _ _ _) rfl ?_
  refine ⟨⟨v, rfl, ?_⟩, HX.out⟩
  have ho := HO.out
  rw [HRB.out] at ho
  exact enc_in ho
end Go.Proofs.Ytfbelaalmdcaaaa

/-
  The contract of record.Encode, kind 8.
-/
namespace Go.Proofs.Ytfbelaalmdcaaaa
open Go.RowKit
set_option linter.unusedVariables false

set_option maxRecDepth 4000 in
set_option maxHeartbeats 1600000 in
theorem enc_8 (r : Rec) (va vb : Value) (w : World) (hr : r.right) (hk : r.k = 8) (hf : r.fits) (hin : RcIn w r va vb) :
    Calls Try.prog 51 #[.agg (rcA r va vb)] w fun e w' => (∃ v, e = .returned (.tuple #[v, .int .i64 0]) ∧ EncIn w' v (recB r)) ∧ Below w.heap.size w w' := by
  have HIN := hide hin
  have HRT := hide (fun w h => right_at r va vb w true (hide ⟨fun _ => hr, fun _ => rfl⟩) hf h)
  obtain ⟨⟨e1, cap1, rfl, -⟩, ⟨e2, cap2, rfl, -⟩⟩ := hin
  have HK0 := hide (Keeps.one w 43 (rcA r (.slice e1 r.ts.length cap1) (.slice e2 r.ds.length cap2)))
  have HRR := hide hr
  have hlm : r.l ≤ 4611686018427387904 := hr.lm
  have hbs := enc_bounds hr
  obtain ⟨b1, b2, b3, b4, b5, b6⟩ := hbs
  go_enter Try.func51, Try.ntmps51
  go_wp2_with (refine wpList_load_at rfl 43 (.tmp 1) rfl w.heap.size rfl (rcA r (.slice e1 r.ts.length cap1) (.slice e2 r.ds.length cap2)) HK0.out.1.1 _ Try.underlying43 rfl infoRc ?_)
  refine (HRT.out _ (HIN.out.below HK0.out.2)).mono ?_
  rintro e x0 ⟨rfl, hb0⟩
  have HK1 := hide (HK0.out.later hb0)
  clear HK0 hb0 HRT
  obtain ⟨g, hg⟩ : ∃ g, g = x0.heap.size := ⟨_, rfl⟩
  have hbl := (Below.refl x0.heap.size x0).alloc (Nat.le_refl _) (.cells #[.slice none 0 0] 108)
  have HW0 : Hid (WK g x0 (x0.alloc (.cells #[.slice none 0 0] 108)) [] [(w.heap.size, 43, (rcA r (.slice e1 r.ts.length cap1) (.slice e2 r.ds.length cap2)))]) := by
    rw [hg]
    exact ⟨⟨.slice none 0 0, RowAt.new _ _ _, World.ownsRow_nil _ _ _ _⟩, Mv.later (Nat.le_refl _) hbl, HK1.out.1.1.later hbl, trivial⟩
  have hA : Hid (Aside g [(w.heap.size, 43, (rcA r (.slice e1 r.ts.length cap1) (.slice e2 r.ds.length cap2)))]) := fun e he => by
    simp only [List.mem_cons, List.not_mem_nil, or_false] at he
    subst he
    exact ⟨by show w.heap.size ≠ g; have := HK1.out.1.1.lt; rw [hg]; exact Nat.ne_of_lt this, by show (43 : TypeId) ≠ 5; decide⟩
  have HBX := hide HK1.out.2
  have HGW : Hid (w.heap.size ≤ g) := by show w.heap.size ≤ g; rw [hg]; exact HBX.out.size
  have HCX := hide (fun (y : World) (bs : List UInt8) (h : WK g x0 y bs [(w.heap.size, 43, (rcA r (.slice e1 r.ts.length cap1) (.slice e2 r.ds.length cap2)))]) => (HBX.out.trans (h.2.1.below.mono HGW.out) : Below w.heap.size w y))
  have c0 := HW0.out.2.2.1.cell 0 (.int .i64 8) (by rw [← hk]; rfl)
  clear hbl HK1
  go_wp2_with fail
  rw [← hg]
  refine gen_calls (fun x => Hid (WK g x0 x [] [(w.heap.size, 43, (rcA r (.slice e1 r.ts.length cap1) (.slice e2 r.ds.length cap2)))])) (by rw [hg]; rw [hg] at HW0; exact HW0) ?_
  clear HW0 c0 hg
  intro y0 H0
  refine (wnum_any g 1 8 [] _ H0.out.1 (by omega) (by omega) (Nat.zero_le _)).mono ?_
  rintro e y1 ⟨rfl, hw, hm⟩
  have H1 := hide (H0.out.step hw hm hA.out)
  clear hw hm H0
  have c1 := H1.out.2.2.1.cell 1 (.int .u64 (r.l : Int)) (by rfl)
  go_wp2_with fail
  refine (wnum_any g 8 r.l ([] ++ beB 1 8) _ H1.out.1 (by omega) (by omega) (by first | (simp only [List.length_append, beB_length, List.length_nil]; done) | (simp only [List.length_append, beB_length, List.length_nil]; omega))).mono ?_
  rintro e y2 ⟨rfl, hw, hm⟩
  have H2 := hide (H1.out.step hw hm hA.out)
  clear hw hm H1
  clear c1
  have c2 := H2.out.2.2.1.cell 2 (.int .i64 r.t) (by rfl)
  go_wp2_with fail
  have W := hide (wnum_any g 4 r.t.toNat (([] ++ beB 1 8) ++ beB 8 r.l) _ H2.out.1 (by omega) (by omega) (by first | (simp only [List.length_append, beB_length, List.length_nil]; done) | (simp only [List.length_append, beB_length, List.length_nil]; omega)))
  rw [Int.toNat_of_nonneg (by omega)] at W
  refine W.out.mono ?_
  clear W
  rintro e y3 ⟨rfl, hw, hm⟩
  have H3 := hide (H2.out.step hw hm hA.out)
  clear hw hm H2
  clear c2
  have c3 := H3.out.2.2.1.cell 3 (.int .u64 (r.p : Int)) (by rfl)
  have c0 := H3.out.2.2.1.cell 0 (.int .i64 8) (by rw [← hk]; rfl)
  go_wp2_with fail
  refine (wnum_any g 8 r.p ((([] ++ beB 1 8) ++ beB 8 r.l) ++ beB 4 r.t.toNat) _ H3.out.1 (by omega) (by omega) (by first | (simp only [List.length_append, beB_length, List.length_nil]; done) | (simp only [List.length_append, beB_length, List.length_nil]; omega))).mono ?_
  rintro e y4 ⟨rfl, hw, hm⟩
  have H4 := hide (H3.out.step hw hm hA.out)
  clear hw hm H3
  clear c3 c0
  have c11 := H4.out.2.2.1.cell 11 (.int .u64 (r.b : Int)) (by rfl)
  have c0 := H4.out.2.2.1.cell 0 (.int .i64 8) (by rw [← hk]; rfl)
  go_wp2_with fail
  refine (wnum_any g 8 r.b (((([] ++ beB 1 8) ++ beB 8 r.l) ++ beB 4 r.t.toNat) ++ beB 8 r.p) _ H4.out.1 (by omega) (by omega) (by first | (simp only [List.length_append, beB_length, List.length_nil]; done) | (simp only [List.length_append, beB_length, List.length_nil]; omega))).mono ?_
  rintro e y5 ⟨rfl, hw, hm⟩
  have H5 := hide (H4.out.step hw hm hA.out)
  clear hw hm H4
  clear c11 c0
  have c12 := H5.out.2.2.1.cell 12 (.slice e1 r.ts.length cap1) (by rfl)
  go_wp2_with fail
  refine (wtxns_any g _ r.ts ((((([] ++ beB 1 8) ++ beB 8 r.l) ++ beB 4 r.t.toNat) ++ beB 8 r.p) ++ beB 8 r.b) w _ H5.out.1 HGW.out (HCX.out _ _ H5.out) HIN.out.1 (enc_txs HRR.out hk) (HRR.out.check hk).1 (by first | (simp only [List.length_append, beB_length, List.length_nil]; done) | (simp only [List.length_append, beB_length, List.length_nil]; omega))).mono ?_
  rintro e y6 ⟨rfl, hw, hm⟩
  have H6 := hide (H5.out.step hw hm hA.out)
  clear hw hm H5
  clear c12
  have c13 := H6.out.2.2.1.cell 13 (.slice e2 r.ds.length cap2) (by rfl)
  go_wp2_with fail
  refine (wdirty_any g _ r.ds (((((([] ++ beB 1 8) ++ beB 8 r.l) ++ beB 4 r.t.toNat) ++ beB 8 r.p) ++ beB 8 r.b) ++ (beB 1 r.ts.length ++ txsB r.ts)) w _ H6.out.1 HGW.out (HCX.out _ _ H6.out) HIN.out.2 (enc_dis HRR.out hk) (HRR.out.check hk).2.1 (by first | (simp only [List.length_append, beB_length, List.length_nil, txsB_len]; done) | (simp only [List.length_append, beB_length, List.length_nil, txsB_len]; omega))).mono ?_
  rintro e y7 ⟨rfl, hw, hm⟩
  have H7 := hide (H6.out.step hw hm hA.out)
  clear hw hm H6
  clear c13
  have hrb : ((((((([] ++ beB 1 8) ++ beB 8 r.l) ++ beB 4 r.t.toNat) ++ beB 8 r.p) ++ beB 8 r.b) ++ (beB 1 r.ts.length ++ txsB r.ts)) ++ (beB 1 r.ds.length ++ disB r.ds)) = recB r := by
    unfold recB mayB
    rw [hk]
    simp [checkB]
  have HX := hide (HCX.out _ _ H7.out)
  obtain ⟨v, hrow, hown⟩ := H7.out.1
  have HO := hide hown
  have HRO := hide hrow
  have HRB := hide hrb
  clear hown hrow hrb H7 hA HIN HCX HBX
  obtain ⟨a, c, hv⟩ := own_shape HO.out
  have HV := hide hv
  clear hv
  go_wp2_with (refine wpList_load_val rfl 60 (.tmp 55) rfl _ v rfl (load_b8 _ v a _ c HV.out (HRO.out.cell 0 v rfl)) ?_)
  (try simp only [Exit.inBlock, Exit.then])
  refine bodyPost_ret (results_tmp2 rfl _ _ _) rfl ?_
  refine ⟨⟨v, rfl, ?_⟩, HX.out⟩
  have ho := HO.out
  rw [HRB.out] at ho
  exact enc_in ho
end Go.Proofs.Ytfbelaalmdcaaaa
