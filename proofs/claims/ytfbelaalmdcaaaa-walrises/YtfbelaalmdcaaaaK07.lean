/-
  Texts that lean on one another, one behind the other: each opens with its own remark.
-/
import Derived.Maps.AppendAt
import Derived.ArgAppend
import Derived.Test.YtfbelaalmdcaaaaProg
import Derived.RegionTactic
import Derived.BigRegion
import Derived.Laws.IdiomCopy
import Derived.WalkSpells
import Derived.Laws.OwnMore
import Derived.Deep.QuietTactic
import Derived.BigQuiet
import Derived.WalkSmall
import Derived.Deep.RegionWith
import Derived.Deep.RegionHeld3
import Derived.Lib.ConvBytes
import Derived.Lib.AppendStr
import Derived.OwnWalkIn
import Derived.Laws.ResultCell
import Derived.Laws.Tables
import Derived.Deep.Draws
import Derived.Deep.MidRow
import Derived.Test.YtfbelaalmdcaaaaK06
import Derived.Test.YtfbelaalmdcaaaaK00
import Derived.Test.YtfbelaalmdcaaaaK03
import Derived.Test.YtfbelaalmdcaaaaK04
import Derived.Test.YtfbelaalmdcaaaaK05

/-
  The contract of frame.Scan.
-/
namespace Go.Proofs.Ytfbelaalmdcaaaa
open Go.RowKit Go.Shelf
set_option linter.unusedVariables false
attribute [local go_sem] Oper.semAt_some

/-- The cells of records, one behind the other. -/
def flatR (ms : List (Rec × Value × Value)) : List Value := ms.flatMap fun m => (rcF m).toList
theorem flatR_append (a b : List (Rec × Value × Value)) : flatR (a ++ b) = flatR a ++ flatR b := by simp [flatR]
theorem infoRc3 : (Try.prog.info? 43).map (fun i => (i.zero, i.size, i.bytes)) = some (some (.agg zeroA), 14, 160) := by kernel_rfl
theorem own_kind {y : World} {base n sz k : Nat} {e t : TypeId} {v : Value} {xs : List Value} {cs : Array Value} (h : y.ownsRow base e sz v n xs) (hr : RowAt y k t cs) (ht : t ≠ e) : v.ownBlock ≠ some k := fun hk => by
  rcases h.2 with ⟨rfl, _⟩ | ⟨g, cap, cur, rfl, _, hg, _⟩
  · cases hk
  · obtain rfl : g = k := by simpa [Value.ownBlock] using hk
    have h5 := (show y.heap[g]? = _ from hr).symm.trans hg
    simp only [Option.some.injEq, Obj.cells.injEq] at h5
    exact ht h5.2.1
/-- A row of the call's own, where blocks of its type are kept. -/
theorem own_kept {A B : World} {base n sz : Nat} {e : TypeId} {v : Value} {xs : List Value} (h : A.ownsRow base e sz v n xs) (hk : ∀ k cs, RowAt A k e cs → RowAt B k e cs) : B.ownsRow base e sz v n xs := by
  refine ⟨h.1, h.2.imp id ?_⟩
  rintro ⟨g, cap, cur, h1, h2, h3, h4⟩
  exact ⟨g, cap, cur, h1, h2, hk g cur h3, h4⟩
theorem cells_new (W : World) (t : TypeId) (cs : Array Value) : ∀ j u, cs.toList[j]? = some u → (W.alloc (.cells cs t)).cell? ((⟨W.heap.size, 0, none⟩ : Addr).add j) = some u := fun j u hu => by
  rw [Addr.add_lit, Nat.zero_add]
  refine (RowAt.new W t cs).cell j u ?_
  rw [← hu, Array.getElem?_toList]
theorem hush_row {n : Nat} {A B : World} (h : Hush n A B) {k : Nat} {t : TypeId} {cs : Array Value} (hr : RowAt A k t cs) : RowAt B k t cs := h.cells k cs t (0, 0) hr
theorem hush_below {n : Nat} {w A B : World} (h : Hush n A B) (hb : Below n w A) : Below n w B := ⟨h.os.trans hb.os, h.tape.trans hb.tape, h.output.trans hb.output, Nat.le_trans hb.size h.size, fun k hk => (h.low k hk).trans (hb.block k hk)⟩

set_option maxRecDepth 4000 in
theorem frames_any (a : Option Addr) (len cap : Nat) (w : World) :
    Calls Try.prog 48 #[.slice a len cap] w fun e w' => e = .returned (.func (.func 60) #[] #[.pointer (some ⟨w.heap.size, 0, none⟩)]) ∧ w' = w.alloc (.cells #[.slice a len cap] 60) := by
  go_enter Try.func48, Try.ntmps48
  go_wp2
  go_ret
  exact ⟨rfl, rfl⟩

/-- What Scan keeps between two rounds; v: the records so far. -/
structure ScI (n0 : Nat) (w : World) (bs : List UInt8) (v : Value) (pre : List Hd) (W : World) : Prop where
  box : RowAt W n0 29 #[v]
  own : W.ownsRow n0 43 14 v pre.length (flatR (pre.map (·.1)))
  size : RowAt W (n0 + 1) 3 #[.int .i64 ((framesB (recs pre)).length : Int)]
  last : RowAt W (n0 + 1 + 1) 31 #[.int .u64 ((lastL 0 (recs pre) : Nat) : Int)]
  rise : Rise 0 (recs pre)
  part : ∃ y, bs = framesB (recs pre) ++ y
  got : ∀ x ∈ pre, x.1.1.fits ∧ GotIn n0 W x.1.1 x.1.2.1 x.1.2.2
  bel : Below n0 w W
theorem ScI.hush {n0 : Nat} {w : World} {bs : List UInt8} {v : Value} {pre : List Hd} {A B : World} {n : Nat} (h : ScI n0 w bs v pre A) (hn : n0 ≤ n) (hc : Hush n A B) : ScI n0 w bs v pre B :=
  ⟨hush_row hc h.box, own_kept h.own (fun _ _ => hush_row hc), hush_row hc h.size, hush_row hc h.last, h.rise, h.part, fun x hx => ⟨(h.got x hx).1, own_kept (h.got x hx).2.1 (fun _ _ => hush_row hc), own_kept (h.got x hx).2.2 (fun _ _ => hush_row hc)⟩,
    ⟨hc.os.trans h.bel.os, hc.tape.trans h.bel.tape, hc.output.trans h.bel.output, Nat.le_trans h.bel.size hc.size, fun k hk => (hc.low k (by omega)).trans (h.bel.block k hk)⟩⟩
theorem told_hush {base n : Nat} {bs : List UInt8} {pre : List Hd} {x : Hd} {A B : World} (h : Told base bs pre x A) (hc : Hush n A B) : Told base bs pre x B :=
  ⟨h.1, h.2.1, ⟨own_kept h.2.2.1.1 (fun _ _ => hush_row hc), own_kept h.2.2.1.2 (fun _ _ => hush_row hc)⟩, h.2.2.2⟩

theorem kpI_right {n0 gb n : Nat} {A B C : World} (h : KpI n0 gb A B) (hc : Hush n B C) (hn : n0 ≤ n) : KpI n0 gb A C :=
  ⟨⟨hc.os.trans h.1.os, hc.tape.trans h.1.tape, hc.output.trans h.1.output, Nat.le_trans h.1.size hc.size, fun k hk => (hc.low k (by omega)).trans (h.1.block k hk)⟩, fun cs hr => hush_row hc (h.2 cs hr)⟩

/-- The frame of a round, behind the assignment of its variables. -/
def actS (n0 : Nat) (a : Option Addr) (len cap g : Nat) (x : Hd) : Act :=
  { tmps := #[.slice a len cap, undef, .slice none 0 0, .int .i64 0, .bool false, .pointer (some ⟨n0, 0, none⟩), .pointer (some ⟨n0 + 1, 0, none⟩), .pointer (some ⟨n0 + 1 + 1, 0, none⟩), .pointer (some ⟨g, 0, none⟩), .int .i64 (x.2 : Int), .slice a len cap, .func (.func 60) #[] #[.pointer (some ⟨n0 + 1 + 1 + 1, 0, none⟩)], .agg (rcF x.1), .int .i64 (x.2 : Int), undef, undef, undef, undef, undef, undef, undef, undef, undef, undef, undef, undef, undef, undef, undef, undef, undef], defers := [] }
def AcS (n0 : Nat) (w : World) (a : Option Addr) (len cap : Nat) (bs : List UInt8) (pre : List Hd) (x : Hd) (c : Act) (W : World) : Prop :=
  ∃ g v, c = actS n0 a len cap g x ∧ RowAt W g 43 (rcF x.1) ∧ ScI n0 w bs v pre W ∧ Told n0 bs pre x W ∧ v.ownBlock ≠ some g

theorem ScI.drew {n0 : Nat} {w : World} {bs : List UInt8} {v : Value} {pre : List Hd} {A : World} (h : ScI n0 w bs v pre A) : ScI n0 w bs v pre A.drew :=
  ⟨h.box, h.own, h.size, h.last, h.rise, h.part, h.got, below_drew h.bel⟩
theorem scan_fin {n0 : Nat} {w W X : World} {bs : List UInt8} {v : Value} {xs : List Hd} {mm len : Nat} (hn : n0 = w.heap.size) (h : ScI n0 w bs v xs W) (he : scanL bs = (recs xs, mm)) (hc : Hush n0 W.drew X) :
    ∃ u ms, Ending.returned (.tuple #[v, .int .i64 (mm : Int), .bool ((mm : Int) == (len : Int))]) = .returned (.tuple #[u, .int .i64 ((scanL bs).2 : Int), .bool (decide ((scanL bs).2 = len))]) ∧ ms.map (·.1) = (scanL bs).1 ∧
      X.ownsRow w.heap.size 43 14 u ms.length (flatR ms) ∧ (∀ m ∈ ms, m.1.fits ∧ GotIn w.heap.size X m.1 m.2.1 m.2.2) ∧ Below w.heap.size w X := by
  subst hn
  have h2 := h.drew.hush (Nat.le_refl _) hc
  refine ⟨v, xs.map (·.1), ?_, ?_, ?_, fun m hm => ?_, h2.bel⟩
  · rw [he]
    have e : ((mm : Int) == (len : Int)) = decide (mm = len) := by
      rw [Bool.eq_iff_iff]
      simp
      omega
    rw [e]
  · rw [he]
    simp [recs]
  · rw [List.length_map]
    exact h2.own
  · obtain ⟨x, hx, rfl⟩ := List.mem_map.1 hm
    exact h2.got x hx

set_option maxRecDepth 100000 in
set_option maxHeartbeats 6400000 in
theorem scan_any (a : Option Addr) (len cap : Nat) (bs : List UInt8) (w : World) (hB : IsB w a len bs) (hl : len ≤ 140737488355) (hcap : len ≤ cap) :
    Calls Try.prog 30 #[.slice a len cap] w fun e w' => ∃ v ms, e = .returned (.tuple #[v, .int .i64 ((scanL bs).2 : Int), .bool (decide ((scanL bs).2 = len))]) ∧ ms.map (·.1) = (scanL bs).1 ∧
      w'.ownsRow w.heap.size 43 14 v ms.length (flatR ms) ∧ (∀ m ∈ ms, m.1.fits ∧ GotIn w.heap.size w' m.1 m.2.1 m.2.2) ∧ Below w.heap.size w w' := by
  have HB := hide hB
  clear hB
  refine (callsIn_wide (n := 3)).1 ?_
  refine callsIn_of_wp_marks Try.func30 rfl trivial ?_ rfl
  simp only [Try.ntmps30, List.size_toArray, List.length_cons, List.length_nil, Nat.reduceAdd, Nat.reduceSub, Array.replicate_succ, Array.replicate_zero, List.push_toArray, List.append_toArray, List.nil_append, List.cons_append]
  gi_wp2_with fail
  refine ⟨trivial, (callsIn_wide.2 (frames_any a len cap _)).mono ?_⟩
  rintro e w4 ⟨rfl, hw4⟩
  have K3 := Keeps.three w 29 3 31 #[.slice none 0 0] #[.int .i64 0] #[.int .u64 0]
  have z3 : (((w.alloc (.cells #[.slice none 0 0] 29)).alloc (.cells #[.int .i64 0] 3)).alloc (.cells #[.int .u64 0] 31)).heap.size = w.heap.size + 1 + 1 + 1 := by simp
  rw [z3]
  have K4 := K3.more ((Below.refl _ _).alloc (Nat.le_refl _) (.cells #[.slice a len cap] 60)) (RowAt.new _ 60 #[.slice a len cap])
  rw [z3, ← hw4] at K4
  have HZ4 : Hid (w4.heap.size = w.heap.size + 1 + 1 + 1 + 1) := by rw [hw4, World.size_alloc, z3]; exact rfl
  have HK4 := hide K4
  clear K3 K4 z3 hw4
  obtain ⟨n0, hn0⟩ : ∃ n0, n0 = w.heap.size := ⟨_, rfl⟩
  rw [← hn0] at HK4 HZ4
  rw [← hn0]
  have HN0 := hide hn0
  clear hn0
  gi_wp2
  have hz4 : n0 ≤ w4.heap.size := by
    rw [HZ4.out]
    omega
  have hz5 : n0 + 1 + 1 + 1 < w4.heap.size := by
    rw [HZ4.out]
    omega
  refine wpIn_range_told (α := Hd) rfl (by decide) (gf := 60) (lb := #[.pointer (some ⟨n0 + 1 + 1 + 1, 0, none⟩)]) rfl trivial (enters_of Try.func60 (by kernel_rfl) rfl)
    encH (fun _ => rfl) 0 (Told n0 bs) (fun xs _ => Over bs xs) (KpI n0 (n0 + 1 + 1 + 1)) (fun pre W => ∃ v, ScI n0 w bs v pre W)
    (fun pre W => ∃ v, ScI n0 w bs v pre W ∧ ∃ y, bs = framesB (recs pre) ++ y ∧ (headF y).1.l ≤ lastL 0 (recs pre)) (AcS n0 w a len cap bs)
    (fun A B C h hc => kpI_right h hc hz4) (fun A B C h k => ⟨h.1.trans k.1, fun cs hr => k.2 cs (h.2 cs hr)⟩)
    (fun s A B hc h => h.imp fun v hv => hv.hush hz4 hc) (fun s A B hc h => h.imp fun v hv => ⟨hv.1.hush hz4 hc, hv.2⟩)
    (fun s x c A B hc h => by
      obtain ⟨g, v, h1, h2, h3, h4, h5⟩ := h
      exact ⟨g, v, h1, hush_row hc h2, h3.hush hz4 hc, told_hush h4 hc, h5⟩)
    (fun l J Jx W hb hJ hY h0 => iter_any l 2 (n0 + 1 + 1 + 1) n0 a len cap bs (by decide) (by omega) hcap J Jx hJ hY W (fun W' h => HB.out.below ((HK4.out.2.trans (hb.mono HK4.out.2.size)).trans (HN0.out ▸ h))) (Nat.le_trans hz4 hb.size) (HK4.out.1.1.below hb hz5) h0)
    ⟨.slice none 0 0, ?_⟩ (fun _ _ _ _ h => h) ?assign ?body ?done ?stop
  · refine ⟨HK4.out.1.2.2.2.1, World.ownsRow_nil _ _ _ _, HK4.out.1.2.2.1, HK4.out.1.2.1, trivial, ⟨bs, rfl⟩, fun x hx => (nomatch hx), ?_⟩
    rw [HN0.out]
    exact HK4.out.2
  case assign =>
    rintro l pre x W K ⟨v, hi⟩ hg hK
    obtain ⟨hr, hf, hgot, hend, hpart⟩ := hg
    obtain ⟨av, cv, hav⟩ := own_shape5 hgot.1
    obtain ⟨au, cu, hau⟩ := own_shape5 hgot.2
    have HI := hide hi
    have HTO : Hid (Told n0 bs pre x W) := ⟨hr, hf, hgot, hend, hpart⟩
    have HKK := hide hK
    clear hi hr hf hgot hend hpart hK
    have h1c : (rcF x.1).all (·.oneCell') = true := by
      unfold rcF
      rw [hav, hau]
      simp [rcA, Value.oneCell']
    clear hav hau
    obtain ⟨A, hA⟩ : ∃ A, A = rcF x.1 := ⟨_, rfl⟩
    have hsz : A.size = 14 := by rw [hA]; rfl
    unfold encH
    rw [← hA] at h1c ⊢
    have HA := hide hA
    have HSZ := hide hsz
    have H1C := hide h1c
    clear hA hsz h1c
    gi_wp2_with (refine wpListIn_store_at rfl 43 (.tmp 8) (.tmp 12) rfl W.heap.size zeroA A rfl rfl (RowAt.new W 43 zeroA) (by rw [HSZ.out]; exact infoRc) (by rw [HSZ.out]; rfl) H1C.out ?_)
    intro w2 hr2 hg2
    have hb2 : Below W.heap.size W w2 := ((Below.refl W.heap.size W).alloc (Nat.le_refl _) (.cells zeroA 43)).grown hg2 (by simp) (fun k hk => by cases hk; exact Nat.le_refl _)
    have HC := hide (Hush.of_below (n := n0) hb2 (by have := HI.out.box.lt; omega))
    have hlt : n0 ≤ W.heap.size := by have := HI.out.box.lt; omega
    gi_wp2
    refine HKK.out _ w2 ⟨hb2.size, fun k o _ hk _ => (hb2.block k (Array.getElem?_eq_some_iff.1 hk).1).trans hk⟩ ⟨hb2.mono hlt, fun cs hr => hr.later hb2⟩ ⟨W.heap.size, v, ?_, ?_, HI.out.hush (Nat.le_refl _) HC.out, told_hush HTO.out HC.out, fun e => ?_⟩
    · unfold actS
      rw [HA.out]
    · rw [← HA.out]
      exact hr2
    · have := (HI.out.own.lt _ e).2
      omega
  case body =>
    rintro l pre x c W ⟨g, v, rfl, hg, hi, ht, hne⟩
    obtain ⟨hr, hf, hgot, hend, hpart⟩ := ht
    obtain ⟨av, cv, hav⟩ := own_shape5 hgot.1
    obtain ⟨au, cu, hau⟩ := own_shape5 hgot.2
    obtain ⟨⟨r, va, vb⟩, k9⟩ := x
    simp only at hr hf hgot hend hpart hav hau
    subst hav hau
    have HTO : Hid (Told n0 bs pre ((r, .slice av r.ts.length cv, .slice au r.ds.length cu), k9) W) := ⟨hr, hf, hgot, hend, hpart⟩
    have HI := hide hi
    have HNE := hide hne
    have HG := hide hg
    have hcl := hg.cell 1 (.int .u64 (r.l : Int)) rfl
    have hlast := hi.last.cell 0 _ rfl
    have hrl : r.l < 18446744073709551616 := by have := hr.lm; unfold maxP at this; omega
    have hll := last_lt (recs pre) 0 hi.rise (by decide)
    clear hr hf hgot hend hpart hi hne hg
    generalize hLL : lastL 0 (recs pre) = ll at *
    have HLL := hide hLL
    clear hLL
    unfold actS
    dsimp only
    by_cases hle : r.l ≤ ll
    · gi_wp2
      obtain ⟨_, _, _, _, y2, hy2⟩ := HTO.out
      refine ⟨rfl, KeepsFrom.refl _ _, ⟨v, HI.out⟩, frameB r ++ y2, ?_, ?_⟩
      · rw [recs_snoc, framesB_snoc, List.append_assoc] at hy2
        exact hy2
      · rw [head_frame r HTO.out.1 y2, HLL.out]
        exact hle
    · obtain ⟨a9, c9, hv9⟩ := own_shape5 HI.out.own
      subst hv9
      have hcb := HI.out.box.cell 0 _ rfl
      obtain ⟨i0, hi, hz0, hz1, hz2⟩ := info_parts infoRc3
      have HPL : Hid (pre.length * 6 ≤ len) := by
        obtain ⟨_, _, _, _, y2, hy2⟩ := HTO.out
        have h1 := congrArg List.length hy2
        have h2 := framesB_long (recs pre)
        have h3 : (recs pre).length = pre.length := by simp [recs]
        rw [recs_snoc, framesB_snoc, List.length_append, List.length_append, HB.out.1] at h1
        unfold Hid
        omega
      have HWS : Hid (n0 ≤ W.heap.size) := by
        have := HI.out.box.lt
        unfold Hid
        omega
      gi_wp2_with (first | (refine wpListIn_load_at rfl 43 (.tmp 8) rfl g rfl #[.int .i64 r.k, .int .u64 (r.l : Int), .int .i64 r.t, .int .u64 (r.p : Int), .int .i64 r.c.k, .int .i64 r.c.pg, .int .i64 r.c.sl, .string r.c.o, .string r.c.n, .int .u64 (r.n : Int), .int .i64 r.s, .int .u64 (r.b : Int), .slice av r.ts.length cv, .slice au r.ds.length cu] HG.out _ Try.underlying43 rfl infoRc ?_) | (gi_at_builtin; refine wpListIn_append_own _ rfl (.tmp 18) (.tmp 20) 29 rfl n0 43 i0 (.agg zeroA) 14 160 Try.underlying29 hi hz0 hz1 hz2 rfl (by decide) _ pre.length _ rfl (HI.out.own.alloc _) ⟨W.heap.size, 0, none⟩ 1 1 (rcF (r, .slice av r.ts.length cv, .slice au r.ds.length cu)).toList rfl rfl (cells_new W 43 (rcF (r, .slice av r.ts.length cv, .slice au r.ds.length cu))) (by simp [rcF, rcA, Value.oneCell']) (by have := HPL.out; unfold maxLen; omega) (by have := HPL.out; omega) (by have := HWS.out; simp; omega) ?_))
      intro v' w1 hown' hgrow _
      obtain ⟨g', cap', rfl⟩ := ownsRow_succ hown'
      obtain ⟨hv1, hv2, hr2, hk2, hb2⟩ := Boxed.appended (t := 29) (v := .slice a9 pre.length c9) (W := W) HI.out.box (by decide) HI.out.own HWS.out (Nat.le_refl _) hown' hgrow
      have hc1 := hv1.cell
      have hf1 := hv1.frozen
      have HT : Hid (∀ k t cs, t ≠ 43 → t ≠ 29 → RowAt W k t cs → RowAt (w1.setCell ⟨n0, 0, none⟩ (.slice (some ⟨g', 0, none⟩) (pre.length + 1) cap')) k t cs) := fun k t cs h1 h2 hr => by
        have hr1 := hr.later ((Below.refl W.heap.size W).alloc (Nat.le_refl _) (.cells (rcF (r, .slice av r.ts.length cv, .slice au r.ds.length cu)) 43))
        have hr2 : RowAt w1 k t cs := (hgrow.block k hr1.lt (fun e => own_kind HI.out.own hr h1 e.symm)).trans hr1
        exact hr2.other _ _ (fun e => by
          subst e
          have := (show W.heap[_]? = _ from hr).symm.trans HI.out.box
          simp only [Option.some.injEq, Obj.cells.injEq] at this
          exact h2 this.2.1)
      have HGA : Hid (RowAt (w1.setCell ⟨n0, 0, none⟩ (.slice (some ⟨g', 0, none⟩) (pre.length + 1) cap')) g 43 (rcF (r, .slice av r.ts.length cv, .slice au r.ds.length cu))) := by
        have hr1 := HG.out.later ((Below.refl W.heap.size W).alloc (Nat.le_refl _) (.cells (rcF (r, .slice av r.ts.length cv, .slice au r.ds.length cu)) 43))
        have hr2 : RowAt w1 g 43 (rcF (r, .slice av r.ts.length cv, .slice au r.ds.length cu)) := (hgrow.block g hr1.lt (fun e => HNE.out e.symm)).trans hr1
        exact hr2.other _ _ (fun e => by
          subst e
          have := (show W.heap[_]? = _ from HG.out).symm.trans HI.out.box
          simp only [Option.some.injEq, Obj.cells.injEq] at this
          exact absurd this.2.1 (by decide))
      have HBA : Hid (RowAt (w1.setCell ⟨n0, 0, none⟩ (.slice (some ⟨g', 0, none⟩) (pre.length + 1) cap')) n0 29 #[.slice (some ⟨g', 0, none⟩) (pre.length + 1) cap'] ∧ (w1.setCell ⟨n0, 0, none⟩ (.slice (some ⟨g', 0, none⟩) (pre.length + 1) cap')).ownsRow n0 43 14 (.slice (some ⟨g', 0, none⟩) (pre.length + 1) cap') (pre.length + 1) (flatR (pre.map (·.1)) ++ (rcF (r, .slice av r.ts.length cv, .slice au r.ds.length cu)).toList) ∧ KeepsOthers W (w1.setCell ⟨n0, 0, none⟩ (.slice (some ⟨g', 0, none⟩) (pre.length + 1) cap')) ∧ Below n0 W (w1.setCell ⟨n0, 0, none⟩ (.slice (some ⟨g', 0, none⟩) (pre.length + 1) cap'))) := ⟨hv2, hr2, hk2, hb2⟩
      clear hv1 hv2 hr2 hk2 hb2 hown' hgrow hcb hcl hlast
      gi_wp2
      refine gen_w (fun A1 => Hid (∀ k t cs, t ≠ 43 → t ≠ 29 → RowAt W k t cs → RowAt A1 k t cs) ∧ Hid (RowAt A1 g 43 (rcF (r, .slice av r.ts.length cv, .slice au r.ds.length cu))) ∧ Hid (RowAt A1 n0 29 #[.slice (some ⟨g', 0, none⟩) (pre.length + 1) cap'] ∧ A1.ownsRow n0 43 14 (.slice (some ⟨g', 0, none⟩) (pre.length + 1) cap') (pre.length + 1) (flatR (pre.map (·.1)) ++ (rcF (r, .slice av r.ts.length cv, .slice au r.ds.length cu)).toList) ∧ KeepsOthers W A1 ∧ Below n0 W A1)) ⟨HT, HGA, HBA⟩ ?_
      clear HT HGA HBA hc1 hf1
      rintro A1 ⟨HT, HGA, HBA⟩
      have HS := hide (HT.out _ _ _ (show (3 : TypeId) ≠ 43 by decide) (by decide) HI.out.size)
      have HL := hide (HT.out _ _ _ (show (31 : TypeId) ≠ 43 by decide) (by decide) HI.out.last)
      have c1 := HGA.out.cell 1 (.int .u64 (r.l : Int)) rfl
      have c2 := HS.out.cell 0 _ rfl
      have f2 := HS.out.free 0
      have c3 := HL.out.cell 0 _ rfl
      have f3 := HL.out.free 0
      have n1 : ¬ g = n0 + 1 := fun e => by
        subst e
        have := (show A1.heap[_]? = _ from HGA.out).symm.trans HS.out
        simp only [Option.some.injEq, Obj.cells.injEq] at this
        exact absurd this.2.1 (by decide)
      have n2 : ¬ g = n0 + 1 + 1 := fun e => by
        subst e
        have := (show A1.heap[_]? = _ from HGA.out).symm.trans HL.out
        simp only [Option.some.injEq, Obj.cells.injEq] at this
        exact absurd this.2.1 (by decide)
      have hmix : Try.prog.follows .mixedOrders = true := by kernel_rfl
      have HFIN : Hid (KeepsFrom w4.heap.size W ((A1.setCell ⟨n0 + 1, 0, none⟩ (.int .i64 (k9 : Int))).setCell ⟨n0 + 1 + 1, 0, none⟩ (.int .u64 (r.l : Int))).drew ∧ KpI n0 (n0 + 1 + 1 + 1) W ((A1.setCell ⟨n0 + 1, 0, none⟩ (.int .i64 (k9 : Int))).setCell ⟨n0 + 1 + 1, 0, none⟩ (.int .u64 (r.l : Int))).drew ∧ ∃ v, ScI n0 w bs v (pre ++ [((r, .slice av r.ts.length cv, .slice au r.ds.length cu), k9)]) ((A1.setCell ⟨n0 + 1, 0, none⟩ (.int .i64 (k9 : Int))).setCell ⟨n0 + 1 + 1, 0, none⟩ (.int .u64 (r.l : Int))).drew) := by
        have hle' : ll < r.l := by omega
        have hpt := HTO.out.2.2.2.2
        have hS1 : RowAt (A1.setCell ⟨n0 + 1, 0, none⟩ (.int .i64 (k9 : Int))) (n0 + 1) 3 #[.int .i64 (k9 : Int)] := HS.out.set 0 _
        have hO : ∀ k t cs, k ≠ n0 + 1 → k ≠ n0 + 1 + 1 → RowAt A1 k t cs → RowAt ((A1.setCell ⟨n0 + 1, 0, none⟩ (.int .i64 (k9 : Int))).setCell ⟨n0 + 1 + 1, 0, none⟩ (.int .u64 (r.l : Int))).drew k t cs := fun k t cs h1 h2 hr => (hr.other _ _ h1).other _ _ h2
        have hOT : ∀ k t cs, t ≠ 3 → t ≠ 31 → RowAt A1 k t cs → RowAt ((A1.setCell ⟨n0 + 1, 0, none⟩ (.int .i64 (k9 : Int))).setCell ⟨n0 + 1 + 1, 0, none⟩ (.int .u64 (r.l : Int))).drew k t cs := fun k t cs h1 h2 hr => hO k t cs (fun e => by
            subst e
            have := (show A1.heap[_]? = _ from hr).symm.trans HS.out
            simp only [Option.some.injEq, Obj.cells.injEq] at this
            exact h1 this.2.1) (fun e => by
            subst e
            have := (show A1.heap[_]? = _ from hr).symm.trans HL.out
            simp only [Option.some.injEq, Obj.cells.injEq] at this
            exact h2 this.2.1) hr
        have hbB : Below n0 W ((A1.setCell ⟨n0 + 1, 0, none⟩ (.int .i64 (k9 : Int))).setCell ⟨n0 + 1 + 1, 0, none⟩ (.int .u64 (r.l : Int))).drew := below_drew ((HBA.out.2.2.2.setCell (p := ⟨n0 + 1, 0, none⟩) (by show n0 ≤ n0 + 1; omega) _).setCell (p := ⟨n0 + 1 + 1, 0, none⟩) (by show n0 ≤ n0 + 1 + 1; omega) _)
        refine ⟨(((HBA.out.2.2.1.trans (KeepsOthers.setCell _ _ _)).trans (KeepsOthers.setCell _ _ _)).trans (KeepsOthers.drew _)).from _, ⟨hbB, fun cs hr => ?_⟩, .slice (some ⟨g', 0, none⟩) (pre.length + 1) cap', ?_⟩
        · exact hOT _ _ _ (by decide) (by decide) (HT.out _ _ _ (show (60 : TypeId) ≠ 43 by decide) (by decide) hr)
        · have hKO : ∀ e, e ≠ 43 → e ≠ 29 → e ≠ 3 → e ≠ 31 → ∀ k cs, RowAt W k e cs → RowAt ((A1.setCell ⟨n0 + 1, 0, none⟩ (.int .i64 (k9 : Int))).setCell ⟨n0 + 1 + 1, 0, none⟩ (.int .u64 (r.l : Int))).drew k e cs := fun e h1 h2 h3 h4 k cs hr => hOT _ _ _ h3 h4 (HT.out _ _ _ h1 h2 hr)
          refine ⟨hOT _ _ _ (by decide) (by decide) HBA.out.1, ?_, ?_, ?_, ?_, ?_, ?_, HI.out.bel.trans hbB⟩
          · have ho := own_kept HBA.out.2.1 (fun k cs hr => hOT k 43 cs (by decide) (by decide) hr)
            rw [List.length_append, List.map_append, flatR_append]
            exact ho
          · have hq := HTO.out.2.2.2.1
            simp only at hq
            rw [← hq]
            exact hS1.other _ _ (by show n0 + 1 ≠ n0 + 1 + 1; omega)
          · rw [recs_snoc, last_snoc]
            exact (HL.out.other ⟨n0 + 1, 0, none⟩ (.int .i64 (k9 : Int)) (by show n0 + 1 + 1 ≠ n0 + 1; omega)).set 0 (.int .u64 (r.l : Int))
          · rw [recs_snoc, rise_snoc]
            exact ⟨HI.out.rise, HTO.out.1, by rw [HLL.out]; exact hle'⟩
          · exact hpt
          · intro z hz
            rcases List.mem_append.1 hz with hz | hz
            · exact ⟨(HI.out.got z hz).1, own_kept (HI.out.got z hz).2.1 (hKO _ (by decide) (by decide) (by decide) (by decide)), own_kept (HI.out.got z hz).2.2 (hKO _ (by decide) (by decide) (by decide) (by decide))⟩
            · obtain rfl := List.mem_singleton.1 hz
              exact ⟨HTO.out.2.1, own_kept HTO.out.2.2.1.1 (hKO _ (by decide) (by decide) (by decide) (by decide)), own_kept HTO.out.2.2.1.2 (hKO _ (by decide) (by decide) (by decide) (by decide))⟩
      gi_region_with_o (fail)
      all_goals exact HFIN.out
  case done =>
    rintro D xs W hD ⟨y, hy, he⟩ ⟨v, hi⟩ hK
    obtain ⟨a9, c9, hv9⟩ := own_shape5 hi.own
    subst hv9
    have c1 := hi.box.cell 0 _ rfl
    have c2 := hi.size.cell 0 _ rfl
    have HI := hide hi
    have HEN := hide (scan_end hy hi.rise (.inl he))
    have HKK := hide hK
    have HDD := hide hD
    clear hi hy he hK hD
    generalize hmm : (framesB (recs xs)).length = mm at *
    have HMM := hide hmm
    clear hmm
    gi_wp2
    gi_region
    gi_wp2
    refine ⟨by simp, .inl ⟨_, _, rfl, run_takeDeferred HKK.out, ?_⟩⟩
    refine ⟨_, results_tmp3 rfl _ _ _, ?_⟩
    exact scan_fin HN0.out HI.out HEN.out (Hush.put _ (Nat.le_trans hz4 HDD.out) HKK.out rfl)
  case stop =>
    rintro D xs W hD ⟨v, hi, y, hy, he⟩ hK
    obtain ⟨a9, c9, hv9⟩ := own_shape5 hi.own
    subst hv9
    have c1 := hi.box.cell 0 _ rfl
    have c2 := hi.size.cell 0 _ rfl
    have HI := hide hi
    have HEN := hide (scan_end hy hi.rise (.inr he))
    have HKK := hide hK
    have HDD := hide hD
    clear hi hy he hK hD
    generalize hmm : (framesB (recs xs)).length = mm at *
    have HMM := hide hmm
    clear hmm
    gi_wp2
    gi_region
    gi_wp2
    refine ⟨by simp, .inl ⟨_, _, rfl, run_takeDeferred HKK.out, ?_⟩⟩
    refine ⟨_, results_tmp3 rfl _ _ _, ?_⟩
    exact scan_fin HN0.out HI.out HEN.out (Hush.put _ (Nat.le_trans hz4 HDD.out) HKK.out rfl)

def msR (ms : List (Rec × Value × Value)) : List Rec := ms.map (·.1)
theorem msR_snoc (ms : List (Rec × Value × Value)) (m : Rec × Value × Value) : msR (ms ++ [m]) = msR ms ++ [m.1] := by simp [msR]
/-- What Scan answers. -/
def ScanAns (w : World) (bs : List UInt8) (len : Nat) (e : Ending) (w' : World) : Prop :=
  ∃ v ms, e = .returned (.tuple #[v, .int .i64 ((scanL bs).2 : Int), .bool (decide ((scanL bs).2 = len))]) ∧ msR ms = (scanL bs).1 ∧
    w'.ownsRow w.heap.size 43 14 v ms.length (flatR ms) ∧ (∀ m ∈ ms, m.1.fits ∧ GotIn w.heap.size w' m.1 m.2.1 m.2.2) ∧ Below w.heap.size w w'
/-- THE CONTRACT. -/
theorem scan7_any (a : Option Addr) (len cap : Nat) (bs : List UInt8) (w : World) (hB : IsB w a len bs) (hl : len ≤ 140737488355) (hcap : len ≤ cap) :
    Calls Try.prog 30 #[.slice a len cap] w (ScanAns w bs len) := scan_any a len cap bs w hB hl hcap
end Go.Proofs.Ytfbelaalmdcaaaa

/-
  Lists of records in memory; the contract of quaysideref06.List.
-/
namespace Go.Proofs.Ytfbelaalmdcaaaa
open Go.RowKit
set_option linter.unusedVariables false

/-- A list of records that lies there, with all that its records lead to. -/
def RsIn (w : World) (v : Value) (ms : List (Rec × Value × Value)) : Prop := RowsIn rcF rcZ 14 w v ms ∧ ∀ m ∈ ms, m.1.fits ∧ RcIn w m.1 m.2.1 m.2.2
theorem RsIn.below {w x : World} {v : Value} {ms : List (Rec × Value × Value)} (h : RsIn w v ms) (hb : Below w.heap.size w x) : RsIn x v ms := ⟨h.1.below hb, fun m hm => ⟨(h.2 m hm).1, (h.2 m hm).2.below hb⟩⟩
theorem RsIn.own {w : World} {base : Nat} {v : Value} {ms : List (Rec × Value × Value)} (ho : w.ownsRow base 43 14 v ms.length (flatR ms)) (hg : ∀ m ∈ ms, m.1.fits ∧ GotIn base w m.1 m.2.1 m.2.2) : RsIn w v ms :=
  ⟨own_rows rcF rcZ 14 (fun _ => rfl) ho, fun m hm => ⟨(hg m hm).1, (hg m hm).2.rc⟩⟩
theorem load_mid (y : World) (b k : Nat) (m : Rec × Value × Value) (h : y.rangeAt b k (rcF m).toList) : (Instr.loadAt 43 (.pointer (some ⟨b, k, none⟩))).run Try.prog y = .ok (.agg (rcF m)) y := by
  have h1 := run_loadAt_mid (P := Try.prog) y b k 43 (rcF m).toList _ h Try.underlying43 rfl (by rw [infoRc]; rfl)
  rwa [Array.toArray_toList] at h1
theorem RsIn.at {w : World} {a : Option Addr} {len cap : Nat} {ms : List (Rec × Value × Value)} (h : RsIn w (.slice a len cap) ms) {i : Nat} (hi : i < ms.length) : ∃ b off, a = some ⟨b, off, none⟩ ∧ b < w.heap.size ∧ w.rangeAt b (off + i * 14) (rcF (ms.getD i rcZ)).toList ∧ (ms.getD i rcZ).1.fits ∧ RcIn w (ms.getD i rcZ).1 (ms.getD i rcZ).2.1 (ms.getD i rcZ).2.2 := by
  obtain ⟨⟨a', cap', h1, h2⟩, h3⟩ := h
  injection h1 with e1 e2 e3
  subst e1
  obtain ⟨b, off, h4, h5, h6⟩ := h2 (by omega)
  have h7 := h3 _ (getD_mem ms i rcZ hi)
  exact ⟨b, off, h4, h5, h6 i hi, h7.1, h7.2⟩
theorem msR_get (ms : List (Rec × Value × Value)) (i : Nat) : (msR ms).getD i Rec.zero = (ms.getD i rcZ).1 := by
  unfold msR
  simp only [List.getD_eq_getElem?_getD, List.getElem?_map]
  cases ms[i]? <;> rfl

set_option maxRecDepth 8000 in
set_option maxHeartbeats 3200000 in
theorem rlist_any (va vb : Value) (ms ns : List (Rec × Value × Value)) (w : World) (ha : RsIn w va ms) (hb : RsIn w vb ns) (he : msR ms = msR ns) (hl : ms.length ≤ 1000000000000) :
    Calls Try.prog 14 #[va, vb] w fun e w' => e = .returned (.bool true) ∧ Below w.heap.size w w' := by
  have HA := hide ha
  have HB := hide hb
  obtain ⟨⟨aa, ca, rfl, -⟩, -⟩ := ha
  obtain ⟨⟨ab, cb, rfl, -⟩, -⟩ := hb
  have hlen : ns.length = ms.length := by
    have := congrArg List.length he
    simpa [msR] using this.symm
  rw [hlen] at HB ⊢
  have HE : Hid (∀ i, (ms.getD i rcZ).1 = (ns.getD i rcZ).1) := fun i => by rw [← msR_get, ← msR_get, he]
  have HL := hide hlen
  clear he hlen
  obtain ⟨ln, hln⟩ : ∃ ln, ln = ms.length := ⟨_, rfl⟩
  rw [← hln] at HA HB hl HL ⊢
  have HN := hide hln
  clear hln
  go_enter Try.func14, Try.ntmps14
  go_wp2
  go_loopw [13] (fun i wr => ∃ j : Nat, j ≤ ln ∧ i = .int .i64 (j : Int) ∧ Hid (Below w.heap.size w wr)) (fun i _ => ln - (intOf i).toNat)
  case atStart => exact ⟨0, Nat.zero_le _, rfl, Below.refl _ _⟩
  case round =>
    obtain ⟨j, hj, rfl, HBR⟩ := hrel
    by_cases hlt : j < ln
    · obtain ⟨b1, o1, h1, h2, h3, h4, h5⟩ := HA.out.at (i := j) (by rw [← HN.out]; exact hlt)
      obtain ⟨b2, o2, k1, k2, k3, k4, k5⟩ := HB.out.at (i := j) (by rw [HL.out]; exact hlt)
      subst h1 k1
      have he := HE.out j
      generalize ms.getD j rcZ = m1 at he h3 h4 h5
      generalize ns.getD j rcZ = m2 at he k3 k4 k5
      have HS := hide (fun x (hx : Below w.heap.size w x) => rsame_at m1.1 m2.1 _ _ _ _ x true (hide ⟨fun _ => he, fun _ => rfl⟩) h4 k4 (h5.below hx) (k5.below hx))
      have HL1 := hide (fun y (hy : Below w.heap.size w y) => load_mid y b1 (o1 + j * 14) m1 (rangeAt_below h3 hy h2))
      have HL2 := hide (fun y (hy : Below w.heap.size w y) => load_mid y b2 (o2 + j * 14) m2 (rangeAt_below k3 hy k2))
      unfold rcF at HL1 HL2
      generalize rcA m1.1 m1.2.1 m1.2.2 = A1 at HS HL1
      generalize rcA m2.1 m2.2.1 m2.2.2 = A2 at HS HL2
      clear h2 h3 h4 h5 k2 k3 k4 k5 he m1 m2 HE
      have i1 : (j : Int) < (ln : Int) := by omega
      have i0 : (0 : Int) ≤ (j : Int) := by omega
      go_wp2_with fail
      refine wp_region_in (fun x => Below w.heap.size w x) (by kernel_rfl) (by kernel_rfl) (below_drew HBR.out) ?_
      clear HBR
      repeat (first
        | go_big_quiet_skip
        | (refine wpQuiet_load rfl 43 (.tmp 18) rfl _ (.agg A1) rfl (fun y hy => HL1.out y hy) ?_; simp only [Act.put, Array.setIfInBounds, List.size_toArray, List.length_cons, List.length_nil, Nat.reduceAdd, Nat.reduceLT, ↓reduceDIte, List.set_toArray, List.set_cons_succ, List.set_cons_zero])
        | (refine wpQuiet_load rfl 43 (.tmp 22) rfl _ (.agg A2) rfl (fun y hy => HL2.out y hy) ?_; simp only [Act.put, Array.setIfInBounds, List.size_toArray, List.length_cons, List.length_nil, Nat.reduceAdd, Nat.reduceLT, ↓reduceDIte, List.set_toArray, List.set_cons_succ, List.set_cons_zero])
        | (refine wpQuiet_call rfl 23 #[.agg A1, .agg A2] (.bool true) ?_ (fun x hC => (HS.out x hC).mono fun e x' h => ⟨h.1, hC.trans (h.2.mono hC.size)⟩) ?_; (intro x; go_simp); simp only [Act.put, Array.setIfInBounds, List.size_toArray, List.length_cons, List.length_nil, Nat.reduceAdd, Nat.reduceLT, ↓reduceDIte, List.set_toArray, List.set_cons_succ, List.set_cons_zero])
        | (refine wpQuiet_plain rfl (fun K hK => ?_); go_simp; refine hK _ ?_; clear hK K))
      refine wpQuiet_nil ?_
      intro x hx
      have HX := hide hx
      clear hx HS HL1 HL2
      go_wp2
      go_roundw
      case rel => exact ⟨j + 1, by omega, by go_num, HX⟩
      case measure => simp [intOf]; omega
    · go_wp2
      go_ret
      exact ⟨rfl, HBR.out⟩
end Go.Proofs.Ytfbelaalmdcaaaa

/-
  The beginning and the rest of a list of records.
-/
namespace Go.Proofs.Ytfbelaalmdcaaaa
open Go.RowKit
set_option linter.unusedVariables false

theorem RsIn.first {w : World} {a : Option Addr} {len cap i : Nat} {ms : List (Rec × Value × Value)} (h : RsIn w (.slice a len cap) ms) (hi : i ≤ ms.length) : RsIn w (.slice a i cap) (ms.take i) := by
  have hl : (ms.take i).length = i := by rw [List.length_take, Nat.min_eq_left hi]
  obtain ⟨⟨a', cap', h1, h2⟩, h3⟩ := h
  injection h1 with e1 e2 e3
  subst e1 e3
  refine ⟨⟨a, cap, by rw [hl], fun hp => ?_⟩, fun m hm => h3 m (List.mem_of_mem_take hm)⟩
  rw [hl] at hp
  obtain ⟨b, off, h4, h5, h6⟩ := h2 (by omega)
  refine ⟨b, off, h4, h5, fun j hj => ?_⟩
  rw [hl] at hj
  have e : (ms.take i).getD j rcZ = ms.getD j rcZ := by
    rw [List.getD_eq_getElem?_getD, List.getD_eq_getElem?_getD, List.getElem?_take, if_pos hj]
  rw [e]
  exact h6 j (by omega)
theorem RsIn.empty (w : World) (a : Option Addr) (cap : Nat) : RsIn w (.slice a 0 cap) [] := ⟨⟨a, cap, rfl, fun h => absurd h (by simp)⟩, fun m hm => (nomatch hm)⟩
theorem RsIn.rest {w : World} {b off len cap i : Nat} {ms : List (Rec × Value × Value)} (h : RsIn w (.slice (some ⟨b, off, none⟩) len cap) ms) (hi : i ≤ ms.length) (k c : Nat) (hk : k = len - i) : RsIn w (.slice (some ⟨b, off + i * 14, none⟩) k c) (ms.drop i) := by
  obtain ⟨⟨a', cap', h1, h2⟩, h3⟩ := h
  injection h1 with e1 e2 e3
  subst e1
  have hl : (ms.drop i).length = k := by rw [List.length_drop, hk, e2]
  refine ⟨⟨_, c, by rw [hl], fun hp => ?_⟩, fun m hm => h3 m (List.mem_of_mem_drop hm)⟩
  rw [List.length_drop] at hp
  obtain ⟨b', off', h4, h5, h6⟩ := h2 (by omega)
  injection h4 with h7
  injection h7 with h8 h9
  subst h8 h9
  refine ⟨b, off + i * 14, rfl, h5, fun j hj => ?_⟩
  rw [List.length_drop] at hj
  have e : (ms.drop i).getD j rcZ = ms.getD (i + j) rcZ := by
    rw [List.getD_eq_getElem?_getD, List.getD_eq_getElem?_getD, List.getElem?_drop]
  have e4 : off + i * 14 + j * 14 = off + (i + j) * 14 := by omega
  rw [e, e4]
  exact h6 (i + j) (by omega)
end Go.Proofs.Ytfbelaalmdcaaaa

/-
  Lists of records that a log keeps, in memory: their row, with room behind it; their lists stay where they are.
-/
namespace Go.Proofs.Ytfbelaalmdcaaaa
open Go.RowKit
set_option linter.unusedVariables false

/-- A block that no log's call turns: it was there at the beginning, or holds rows of a record's lists. -/
def Safe (B : Nat) (w : World) (b : Nat) : Prop := b < w.heap.size ∧ (b < B ∨ ∃ t cs, (t = 81 ∨ t = 83) ∧ RowAt w b t cs)
/-- Blocks that logs and tapes are made of. -/
def Loose (B : Nat) (w : World) (F : Nat → Prop) : Prop := ∀ k, F k → B ≤ k ∧ k < w.heap.size ∧ ∀ t cs, RowAt w k t cs → t ≠ 81 ∧ t ≠ 83
theorem Safe.not {B b : Nat} {w : World} {F : Nat → Prop} (h : Safe B w b) (hl : Loose B w F) : ¬ F b := fun hf => by
  obtain ⟨h1, h2, h3⟩ := hl b hf
  rcases h.2 with h4 | ⟨t, cs, h4, h5⟩
  · omega
  · have := h3 t cs h5
    rcases h4 with h4 | h4
    · exact this.1 h4
    · exact this.2 h4
theorem Safe.keep {B b : Nat} {w x : World} {F : Nat → Prop} (h : Safe B w b) (hl : Loose B w F) (p : Tn F w x) : Safe B x b := by
  have hn := h.not hl
  refine ⟨Nat.lt_of_lt_of_le h.1 p.size, ?_⟩
  rcases h.2 with h4 | ⟨t, cs, h4, h5⟩
  · exact .inl h4
  · exact .inr ⟨t, cs, h4, p.row h5 hn⟩
/-- Where a list's elements lie. -/
def LiesIn (G : Nat → Prop) (v : Value) : Prop := ∀ b off n c, v = .slice (some ⟨b, off, none⟩) n c → 0 < n → G b
theorem rows_keep {α : Type} {f : α → Array Value} {z : α} {n : Nat} {w x : World} {v : Value} {xs : List α} (h : RowsIn f z n w v xs) (hs : ∀ b off m c, v = .slice (some ⟨b, off, none⟩) m c → 0 < m → x.heap[b]? = w.heap[b]?) (hz : w.heap.size ≤ x.heap.size) : RowsIn f z n x v xs := by
  obtain ⟨a, cap, rfl, h2⟩ := h
  refine ⟨a, cap, rfl, fun hp => ?_⟩
  obtain ⟨b, off, rfl, h4, h5⟩ := h2 hp
  have hk := hs b off _ _ rfl hp
  exact ⟨b, off, rfl, Nat.lt_of_lt_of_le h4 hz, fun i hi j u hu => (World.cell?_of_block (a := ⟨b, off + i * n + j, none⟩) hk).trans (h5 i hi j u hu)⟩
/-- A record's lists, where no log's call turns them. -/
structure RcK (B : Nat) (w : World) (r : Rec) (va vb : Value) : Prop where
  rc : RcIn w r va vb
  tx : LiesIn (Safe B w) va
  di : LiesIn (Safe B w) vb
theorem RcK.keep {B : Nat} {w x : World} {F : Nat → Prop} {r : Rec} {va vb : Value} (h : RcK B w r va vb) (hl : Loose B w F) (p : Tn F w x) : RcK B x r va vb :=
  ⟨⟨rows_keep h.rc.1 (fun b off m c e hm => p.block b (h.tx b off m c e hm).1 ((h.tx b off m c e hm).not hl)) p.size, rows_keep h.rc.2 (fun b off m c e hm => p.block b (h.di b off m c e hm).1 ((h.di b off m c e hm).not hl)) p.size⟩,
    fun b off m c e hm => (h.tx b off m c e hm).keep hl p, fun b off m c e hm => (h.di b off m c e hm).keep hl p⟩
theorem loose_none (B : Nat) (w : World) : Loose B w (fun _ => False) := fun k h => h.elim
theorem RcK.later {B : Nat} {w x : World} {r : Rec} {va vb : Value} (h : RcK B w r va vb) (p : Below w.heap.size w x) : RcK B x r va vb := h.keep (loose_none B w) (Tn.of_below p)
/-- What was there at the beginning. -/
theorem RcK.first {w x : World} {r : Rec} {va vb : Value} (h : RcIn w r va vb) (p : Below w.heap.size w x) : RcK w.heap.size x r va vb := by
  have lies : ∀ {α : Type} {f : α → Array Value} {z : α} {n : Nat} {v : Value} {xs : List α}, RowsIn f z n w v xs → LiesIn (Safe w.heap.size x) v := by
    intro α f z n v xs h b off m c e hm
    obtain ⟨a, cap, rfl, h2⟩ := h
    injection e with e1 e2 e3
    obtain ⟨b', off', h3, h4, _⟩ := h2 (by omega)
    rw [e1] at h3
    injection h3 with h3
    injection h3 with h3
    subst h3
    exact ⟨Nat.lt_of_lt_of_le h4 p.size, .inl h4⟩
  exact ⟨h.below p, lies h.1, lies h.2⟩
/-- What was decoded. -/
theorem RcK.got {B base : Nat} {w : World} {r : Rec} {va vb : Value} (h : GotIn base w r va vb) : RcK B w r va vb := by
  have lies : ∀ {e : TypeId} {sz n : Nat} {v : Value} {xs : List Value}, (e = 81 ∨ e = 83) → w.ownsRow base e sz v n xs → LiesIn (Safe B w) v := by
    intro e sz n v xs he h b off m c ev hm
    rcases h.2 with ⟨h1, _⟩ | ⟨g, cap, cur, h1, _, h2, _⟩
    · rw [h1] at ev
      cases ev
    · rw [h1] at ev
      injection ev with ev
      injection ev with ev
      injection ev with ev
      subst ev
      exact ⟨(Array.getElem?_eq_some_iff.1 h2).1, .inr ⟨e, cur, he, h2⟩⟩
  exact ⟨h.rc, lies (.inl rfl) h.1, lies (.inr rfl) h.2⟩

/-! ### A row of records with room behind it -/
abbrev Rm := Rec × Value × Value
/-- A list of records in a row of its own, from some place on. -/
def RB (B : Nat) (w : World) (a : Option Addr) (cap : Nat) (ms : List Rm) : Prop :=
  ((a = none ∧ ms = [] ∧ cap = 0) ∨ ∃ b off cs, a = some ⟨b, off, none⟩ ∧ B ≤ b ∧ RowAt w b 43 cs ∧ off + cap * 14 ≤ cs.size ∧ ms.length ≤ cap ∧ ∀ i, i < ms.length → w.rangeAt b (off + i * 14) (rcF (ms.getD i rcZ)).toList) ∧
  ∀ m ∈ ms, m.1.fits ∧ RcK B w m.1 m.2.1 m.2.2
/-- Its block. -/
def blk (a : Option Addr) (k : Nat) : Prop := ∃ off, a = some ⟨k, off, none⟩
theorem RB.rs {B : Nat} {w : World} {a : Option Addr} {cap : Nat} {ms : List Rm} (h : RB B w a cap ms) : RsIn w (.slice a ms.length cap) ms := by
  refine ⟨⟨a, cap, rfl, fun hp => ?_⟩, fun m hm => ⟨(h.2 m hm).1, (h.2 m hm).2.rc⟩⟩
  rcases h.1 with ⟨_, rfl, _⟩ | ⟨b, off, cs, rfl, _, h2, _, _, h5⟩
  · exact absurd hp (by simp)
  · exact ⟨b, off, rfl, h2.lt, h5⟩
theorem RB.cap {B : Nat} {w : World} {a : Option Addr} {cap : Nat} {ms : List Rm} (h : RB B w a cap ms) : ms.length ≤ cap := by
  rcases h.1 with ⟨_, rfl, _⟩ | ⟨_, _, _, _, _, _, _, h4, _⟩
  · exact Nat.zero_le _
  · exact h4
theorem RB.nil (B : Nat) (w : World) : RB B w none 0 [] := ⟨.inl ⟨rfl, rfl, rfl⟩, fun m hm => nomatch hm⟩
/-- Another thing's calls leave it. -/
theorem RB.keep {B : Nat} {w x : World} {F : Nat → Prop} {a : Option Addr} {cap : Nat} {ms : List Rm} (h : RB B w a cap ms) (hl : Loose B w F) (p : Tn F w x) (hn : ∀ k, blk a k → ¬ F k) : RB B x a cap ms := by
  refine ⟨?_, fun m hm => ⟨(h.2 m hm).1, (h.2 m hm).2.keep hl p⟩⟩
  rcases h.1 with h1 | ⟨b, off, cs, rfl, h1, h2, h3, h4, h5⟩
  · exact .inl h1
  · have hb := p.block b h2.lt (hn b ⟨off, rfl⟩)
    exact .inr ⟨b, off, cs, rfl, h1, hb.trans h2, h3, h4, fun i hi j u hu => (World.cell?_of_block (a := ⟨b, off + i * 14 + j, none⟩) hb).trans (h5 i hi j u hu)⟩
theorem RB.later {B : Nat} {w x : World} {a : Option Addr} {cap : Nat} {ms : List Rm} (h : RB B w a cap ms) (p : Below w.heap.size w x) : RB B x a cap ms := h.keep (loose_none B w) (Tn.of_below p) (fun _ _ h => h)
/-- Only the row's own block, elsewhere than at its elements, or blocks beside it, were turned. -/
theorem RB.drop {B : Nat} {w : World} {b off cap : Nat} {ms : List Rm} (h : RB B w (some ⟨b, off, none⟩) cap ms) (k : Nat) (hk : k ≤ ms.length) (hc : ¬ cap = k) : RB B w (some ⟨b, off + k * 14, none⟩) (cap - k) (ms.drop k) := by
  refine ⟨?_, fun m hm => h.2 m (List.mem_of_mem_drop hm)⟩
  rcases h.1 with ⟨h1, _⟩ | ⟨b', off', cs, h1, h2, h3, h4, h5, h6⟩
  · cases h1
  · injection h1 with h1
    injection h1 with h1 h7
    subst h1 h7
    refine .inr ⟨b, off + k * 14, cs, rfl, h2, h3, by omega, by rw [List.length_drop]; omega, fun i hi => ?_⟩
    rw [List.length_drop] at hi
    have e : (ms.drop k).getD i rcZ = ms.getD (k + i) rcZ := by
      rw [List.getD_eq_getElem?_getD, List.getD_eq_getElem?_getD, List.getElem?_drop]
    rw [e, show off + k * 14 + i * 14 = off + (k + i) * 14 by omega]
    exact h6 (k + i) (by omega)
/-- All are dropped where the row ends. -/
theorem RB.drop_all {B : Nat} {w : World} {a : Option Addr} {cap : Nat} {ms : List Rm} (h : RB B w a cap ms) : RB B w a 0 [] := by
  refine ⟨?_, fun m hm => nomatch hm⟩
  rcases h.1 with ⟨h1, _, _⟩ | ⟨b, off, cs, h1, h2, h3, h4, h5, h6⟩
  · exact .inl ⟨h1, rfl, rfl⟩
  · exact .inr ⟨b, off, cs, h1, h2, h3, by omega, Nat.zero_le _, fun i hi => absurd hi (by simp)⟩
/-- What Scan leaves. -/
theorem RB.own {B base : Nat} {w : World} {v : Value} {ms : List Rm} (hB : B ≤ base) (ho : w.ownsRow base 43 14 v ms.length (flatR ms)) (hg : ∀ m ∈ ms, m.1.fits ∧ GotIn base w m.1 m.2.1 m.2.2) : ∃ a cap, v = .slice a ms.length cap ∧ RB B w a cap ms ∧ ∀ k, blk a k → base ≤ k := by
  have hs := RsIn.own ho hg
  rcases ho.2 with ⟨rfl, h0⟩ | ⟨g, cap, cur, rfl, h1, h2, h3, h4, h5, h6⟩
  · obtain rfl := List.eq_nil_of_length_eq_zero h0
    exact ⟨none, 0, rfl, RB.nil B w, fun k hk => by obtain ⟨_, h⟩ := hk; cases h⟩
  · refine ⟨_, cap, rfl, ⟨.inr ⟨g, 0, cur, rfl, Nat.le_trans hB h1, h2, by omega, h3, fun i hi => ?_⟩, fun m hm => ⟨(hg m hm).1, RcK.got (hg m hm).2⟩⟩, fun k hk => by
      obtain ⟨_, h⟩ := hk
      injection h with h
      injection h with h
      omega⟩
    obtain ⟨b, off, e, _, h8, _⟩ := hs.at hi
    injection e with e
    injection e with e1 e2
    subst e1 e2
    exact h8
end Go.Proofs.Ytfbelaalmdcaaaa

/-
  The code's tape in memory: its block, and the row of its bytes. What its calls may turn.
-/
namespace Go.Proofs.Ytfbelaalmdcaaaa
open Go.RowKit
set_option linter.unusedVariables false

/-- Only these two blocks, and what is new, was turned. -/
structure Turn (g h : Nat) (w w' : World) : Prop where
  os : w'.os = w.os
  tape : w'.tape = w.tape
  output : w'.output = w.output
  size : w.heap.size ≤ w'.heap.size
  block : ∀ k, k < w.heap.size → k ≠ g → k ≠ h → w'.heap[k]? = w.heap[k]?
theorem Turn.refl (g h : Nat) (w : World) : Turn g h w w := ⟨rfl, rfl, rfl, Nat.le_refl _, fun _ _ _ _ => rfl⟩
theorem Turn.trans {g h : Nat} {w x y : World} (p : Turn g h w x) (q : Turn g h x y) : Turn g h w y :=
  ⟨q.os.trans p.os, q.tape.trans p.tape, q.output.trans p.output, Nat.le_trans p.size q.size, fun i hi h1 h2 => (q.block i (Nat.lt_of_lt_of_le hi p.size) h1 h2).trans (p.block i hi h1 h2)⟩
theorem Turn.set {g h : Nat} {w x : World} (p : Turn g h w x) (j : Nat) (v : Value) : Turn g h w (x.setCell ⟨g, j, none⟩ v) :=
  ⟨p.os, p.tape, p.output, Nat.le_trans p.size ((Below.refl 0 x).setCell (Nat.zero_le _) v).size, fun i hi h1 h2 => (heap_setCell_other x ⟨g, j, none⟩ i v h1).trans (p.block i hi h1 h2)⟩
theorem Turn.drew {g h : Nat} {w x : World} (p : Turn g h w x) : Turn g h w x.drew := ⟨p.os, p.tape, p.output, p.size, p.block⟩
theorem Turn.below {g h n : Nat} {w x : World} (p : Turn g h w x) (h1 : n ≤ g) (h2 : n ≤ h) (hs : n ≤ w.heap.size) : Below n w x :=
  ⟨p.os, p.tape, p.output, p.size, fun i hi => p.block i (by omega) (by omega) (by omega)⟩
theorem Turn.of_below {g h : Nat} {w x : World} (p : Below w.heap.size w x) : Turn g h w x := ⟨p.os, p.tape, p.output, p.size, fun i hi _ _ => p.block i hi⟩
theorem Turn.row {g h k : Nat} {w x : World} {t : TypeId} {cs : Array Value} (p : Turn g h w x) (hr : RowAt w k t cs) (h1 : k ≠ g) (h2 : k ≠ h) : RowAt x k t cs := (p.block k hr.lt h1 h2).trans hr
theorem Turn.grown {g h : Nat} {w x y : World} {row : Option Nat} (p : Turn g h w x) (q : x.grownBy y row) (hr : ∀ k, row = some k → k = h ∨ w.heap.size ≤ k) : Turn g h w y :=
  ⟨q.os.trans p.os, q.tape.trans p.tape, q.output.trans p.output, Nat.le_trans p.size q.size, fun i hi h1 h2 => (q.block i (Nat.lt_of_lt_of_le hi p.size) (fun e => by
    rcases hr i e.symm with h3 | h3
    · exact h2 h3
    · omega)).trans (p.block i hi h1 h2)⟩

/-- The code's tape: its block, the row of its bytes. -/
def TpV (w : World) (gt gb cap : Nat) (a : Option Addr) (t : Tp) : Prop :=
  RowAt w gt 69 #[.slice a t.b.size cap, .int .i64 (t.f : Int), .int .u64 (t.s : Int), .int .i64 (t.m : Int)] ∧ w.ownsRow 0 5 1 (.slice a t.b.size cap) t.b.size (toV t.b.data.toList) ∧ (a = none ∧ gb = gt ∨ a = some ⟨gb, 0, none⟩)
def TpAt (w : World) (gt gb : Nat) (t : Tp) : Prop := ∃ cap a, TpV w gt gb cap a t

theorem row_apart {w : World} {g k : Nat} {t u : TypeId} {cs ds : Array Value} (h : RowAt w g t cs) (h2 : w.heap[k]? = some (.cells ds u (0, 0))) (hne : t ≠ u) : g ≠ k := by
  intro e
  subst e
  have h3 : w.heap[g]? = some (.cells cs t (0, 0)) := h
  rw [h3] at h2
  injection h2 with h2
  injection h2 with _ h4
  exact hne h4
theorem TpV.own {w : World} {gt gb cap : Nat} {a : Option Addr} {t : Tp} (h : TpV w gt gb cap a t) : (a = none ∧ gb = gt ∧ t.b.size = 0 ∧ cap = 0) ∨ (a = some ⟨gb, 0, none⟩ ∧ gt ≠ gb ∧ gb < w.heap.size ∧ t.b.size ≤ cap ∧ cap ≤ maxLen ∧ ∃ cur, w.heap[gb]? = some (.cells cur 5 (0, 0)) ∧ cur.size = cap ∧ cur.toList.take t.b.size = toV t.b.data.toList) := by
  obtain ⟨h1, h2, h3⟩ := h
  rcases h2.2 with ⟨e, h4⟩ | ⟨g, c, cur, e, _, hg, hc, hm, hs, ht⟩
  · injection e with e1 e2 e3
    subst e1 e3
    rcases h3 with ⟨_, h5⟩ | h5
    · exact .inl ⟨rfl, h5, h4, rfl⟩
    · cases h5
  · injection e with e1 e2 e3
    subst e1 e3
    rcases h3 with ⟨h5, _⟩ | h5
    · cases h5
    · injection h5 with h5
      injection h5 with h5
      subst h5
      exact .inr ⟨rfl, row_apart h1 hg (by decide), (Array.getElem?_eq_some_iff.1 hg).1, hc, hm, cur, hg, by simpa using hs, by simpa using ht⟩
/-- A tape that is kept. -/
theorem TpV.keep {w x : World} {gt gb cap : Nat} {a : Option Addr} {t : Tp} (h : TpV w gt gb cap a t) (h1 : x.heap[gt]? = w.heap[gt]?) (h2 : x.heap[gb]? = w.heap[gb]?) : TpV x gt gb cap a t := by
  refine ⟨h1.trans h.1, ⟨h.2.1.1, ?_⟩, h.2.2⟩
  rcases h.2.1.2 with h4 | ⟨g, c, cur, e, hb, hg, hc⟩
  · exact .inl h4
  · refine .inr ⟨g, c, cur, e, hb, ?_, hc⟩
    rcases h.2.2 with ⟨h5, _⟩ | h5
    · subst h5
      cases e
    · subst h5
      injection e with e1
      injection e1 with e1
      injection e1 with e1
      subst e1
      rw [h2]
      exact hg
theorem TpV.lt {w : World} {gt gb cap : Nat} {a : Option Addr} {t : Tp} (h : TpV w gt gb cap a t) : gt < w.heap.size ∧ gb < w.heap.size := by
  have h1 := h.1.lt
  rcases h.own with ⟨_, h2, _⟩ | ⟨_, _, h2, _⟩
  · exact ⟨h1, by omega⟩
  · exact ⟨h1, h2⟩
theorem TpAt.lt {w : World} {gt gb : Nat} {t : Tp} (h : TpAt w gt gb t) : gt < w.heap.size ∧ gb < w.heap.size := by
  obtain ⟨_, _, h⟩ := h
  exact h.lt
theorem TpAt.keep {w x : World} {gt gb : Nat} {t : Tp} (h : TpAt w gt gb t) (h1 : x.heap[gt]? = w.heap[gt]?) (h2 : x.heap[gb]? = w.heap[gb]?) : TpAt x gt gb t := by
  obtain ⟨c, a, h⟩ := h
  exact ⟨c, a, h.keep h1 h2⟩
theorem TpAt.later {w x : World} {gt gb : Nat} {t : Tp} (h : TpAt w gt gb t) (hb : Below w.heap.size w x) : TpAt x gt gb t := h.keep (hb.block _ h.lt.1) (hb.block _ h.lt.2)
/-- Another tape's calls leave a tape. -/
theorem TpAt.turn {w x : World} {gt gb ht hb : Nat} {t : Tp} (h : TpAt w gt gb t) (p : Turn ht hb w x) (h1 : gt ≠ ht) (h2 : gt ≠ hb) (h3 : gb ≠ ht) (h4 : gb ≠ hb) : TpAt x gt gb t := h.keep (p.block _ h.lt.1 h1 h2) (p.block _ h.lt.2 h3 h4)
/-- A struct of another kind isn't among a tape's blocks. -/
theorem TpAt.apart {w : World} {gt gb k : Nat} {t : Tp} {u : TypeId} {cs : Array Value} (h : TpAt w gt gb t) (hr : RowAt w k u cs) (h1 : u ≠ 69) (h2 : u ≠ 5) : k ≠ gt ∧ k ≠ gb := by
  obtain ⟨c, a, h⟩ := h
  have h3 : k ≠ gt := row_apart hr h.1 h1
  refine ⟨h3, ?_⟩
  rcases h.own with ⟨_, h4, _⟩ | ⟨_, _, _, _, _, cur, hg, _⟩
  · rw [h4]
    exact h3
  · exact row_apart hr hg h2
end Go.Proofs.Ytfbelaalmdcaaaa

/-
  What the code's log keeps to, as the statements' walks lean on it: one form, whatever its fields are.
-/
namespace Go.Proofs.Ytfbelaalmdcaaaa
open Go.RowKit
set_option linter.unusedVariables false

/-- What tells which log a code's log stands for: the tape's block, the log's, the world, all its blocks (the tape's too), the log. -/
abbrev LogAt := Nat → Nat → World → (Nat → Prop) → Lg → Prop
/-- Behind a call: the log, in blocks that were its own or are new. -/
def Aft (LA : LogAt) (gt gl : Nat) (x : World) (F : Nat → Prop) (g : Lg) (x' : World) : Prop := ∃ F', LA gt gl x' F' g ∧ Tn F x x' ∧ ∀ k, F' k → F k ∨ x.heap.size ≤ k
/-- The record of a number. -/
def Lg.get (g : Lg) (n : Nat) : Rec × Bool := match g.l.find? (fun r => decide (r.l = n)) with
  | some r => (r, true)
  | none => (Rec.zero, false)
/-- How a code's log stays. -/
structure ClBase (B : Nat) (LA : LogAt) : Prop where
  loose : ∀ gt gl x F g, LA gt gl x F g → Loose B x F
  keep : ∀ gt gl x y F G g, LA gt gl x F g → Loose B x G → Tn G x y → (∀ k, F k → ¬ G k) → LA gt gl y F g
  tape : ∀ gt gl x F g, LA gt gl x F g → ∃ gb, TpAt x gt gb g.t ∧ F gt ∧ F gb
def ClOpens (B : Nat) (LA : LogAt) : Prop := ∀ (gt : Nat) (gb : Nat) (x : World) (t : Tp) (base : Nat), TpAt x gt gb t → t.ok → B ≤ gt → B ≤ gb → base < 18446744073709551616 → Calls Try.prog 13 #[.pointer (some ⟨gt, 0, none⟩), .int .u64 (base : Int)] x fun e x' => ∃ gl F', e = .returned (.tuple #[.pointer (some ⟨gl, 0, none⟩), .int .i64 0]) ∧ LA gt gl x' F' (Lg.open t base) ∧ Tn (fun k => k = gt ∨ k = gb) x x' ∧ (∀ k, F' k → k = gt ∨ k = gb ∨ x.heap.size ≤ k) ∧ x.heap.size ≤ gl
def ClAppend (B : Nat) (LA : LogAt) : Prop := ∀ (gt : Nat) (gl : Nat) (x : World) (F : Nat → Prop) (g : Lg) (r : Rec) (va : Value) (vb : Value) (f : Nat) (h : Int), LA gt gl x F g → g.ok → r.fits → RcK B x r va vb → f < 18446744073709551616 → (Lit.int .i64 h).wf = true → Calls Try.prog 16 #[.pointer (some ⟨gl, 0, none⟩), .agg (rcA r va vb), .int .u64 (f : Int), .int .i64 h] x fun e x' => e = .returned (.tuple #[.int .u64 (g.appN r f h : Int), .int .i64 (g.appE r f h)]) ∧ Aft LA gt gl x F (g.app r f h) x'
def ClSee (B : Nat) (LA : LogAt) : Prop := ∀ (gt : Nat) (gl : Nat) (x : World) (F : Nat → Prop) (g : Lg) (n : Nat), LA gt gl x F g → g.ok → n < 18446744073709551616 → Calls Try.prog 21 #[.pointer (some ⟨gl, 0, none⟩), .int .u64 (n : Int)] x fun e x' => e = .returned (.tuple #[]) ∧ Aft LA gt gl x F (g.see n) x'
def ClWrite (B : Nat) (LA : LogAt) : Prop := ∀ (gt : Nat) (gl : Nat) (x : World) (F : Nat → Prop) (g : Lg), LA gt gl x F g → g.ok → Calls Try.prog 25 #[.pointer (some ⟨gl, 0, none⟩)] x fun e x' => e = .returned (.int .i64 0) ∧ Aft LA gt gl x F g.write x'
def ClSync (B : Nat) (LA : LogAt) : Prop := ∀ (gt : Nat) (gl : Nat) (x : World) (F : Nat → Prop) (g : Lg), LA gt gl x F g → g.ok → Calls Try.prog 26 #[.pointer (some ⟨gl, 0, none⟩)] x fun e x' => e = .returned (.int .i64 0) ∧ Aft LA gt gl x F g.sync x'
def ClTrim (B : Nat) (LA : LogAt) : Prop := ∀ (gt : Nat) (gl : Nat) (x : World) (F : Nat → Prop) (g : Lg) (n : Nat), LA gt gl x F g → g.ok → n < 18446744073709551616 → Calls Try.prog 24 #[.pointer (some ⟨gl, 0, none⟩), .int .u64 (n : Int)] x fun e x' => e = .returned (.tuple #[.int .i64 (trimK g.l g.fa n : Int), .int .i64 0]) ∧ Aft LA gt gl x F (g.trim n) x'
def ClRecords (B : Nat) (LA : LogAt) : Prop := ∀ (gt : Nat) (gl : Nat) (x : World) (F : Nat → Prop) (g : Lg), LA gt gl x F g → g.ok → Calls Try.prog 10 #[.pointer (some ⟨gl, 0, none⟩)] x fun e x' => ∃ a cap ms, e = .returned (.slice a ms.length cap) ∧ RsIn x' (.slice a ms.length cap) ms ∧ msR ms = g.l ∧ ms.length ≤ cap ∧ Below x.heap.size x x'
def ClGet (B : Nat) (LA : LogAt) : Prop := ∀ (gt : Nat) (gl : Nat) (x : World) (F : Nat → Prop) (g : Lg) (n : Nat), LA gt gl x F g → g.ok → n < 18446744073709551616 → Calls Try.prog 22 #[.pointer (some ⟨gl, 0, none⟩), .int .u64 (n : Int)] x fun e x' => ∃ m : Rm, e = .returned (.tuple #[.agg (rcF m), .bool (g.get n).2]) ∧ m.1 = (g.get n).1 ∧ m.1.fits ∧ RcIn x' m.1 m.2.1 m.2.2 ∧ Below x.heap.size x x'
def ClLast (B : Nat) (LA : LogAt) : Prop := ∀ (gt : Nat) (gl : Nat) (x : World) (F : Nat → Prop) (g : Lg), LA gt gl x F g → g.ok → Calls Try.prog 18 #[.pointer (some ⟨gl, 0, none⟩)] x fun e x' => e = .returned (.int .u64 (g.c : Int)) ∧ Below x.heap.size x x'
def ClDurable (B : Nat) (LA : LogAt) : Prop := ∀ (gt : Nat) (gl : Nat) (x : World) (F : Nat → Prop) (g : Lg), LA gt gl x F g → g.ok → Calls Try.prog 11 #[.pointer (some ⟨gl, 0, none⟩)] x fun e x' => e = .returned (.int .u64 (g.du : Int)) ∧ Below x.heap.size x x'
def ClHeld (B : Nat) (LA : LogAt) : Prop := ∀ (gt : Nat) (gl : Nat) (x : World) (F : Nat → Prop) (g : Lg), LA gt gl x F g → g.ok → Calls Try.prog 15 #[.pointer (some ⟨gl, 0, none⟩)] x fun e x' => e = .returned (.int .i64 (g.hd : Int)) ∧ Below x.heap.size x x'
def ClLeft (B : Nat) (LA : LogAt) : Prop := ∀ (gt : Nat) (gl : Nat) (x : World) (F : Nat → Prop) (g : Lg), LA gt gl x F g → g.ok → Calls Try.prog 19 #[.pointer (some ⟨gl, 0, none⟩)] x fun e x' => e = .returned (.int .i64 ((g.t.m : Int) - (g.used : Int) - (g.hd : Int))) ∧ Below x.heap.size x x'
end Go.Proofs.Ytfbelaalmdcaaaa

/-
  A record put behind a log's records: in their row, or in a new one.
-/
namespace Go.Proofs.Ytfbelaalmdcaaaa
open Go.RowKit
set_option linter.unusedVariables false

theorem flat_length {α : Type} (f : α → Array Value) (n : Nat) (hf : ∀ x, (f x).size = n) : ∀ xs : List α, (xs.flatMap fun x => (f x).toList).length = xs.length * n
  | [] => by simp
  | x :: xs => by rw [List.flatMap_cons, List.length_append, flat_length f n hf xs, Array.length_toList, hf, List.length_cons, Nat.add_mul, Nat.one_mul, Nat.add_comm]
/-- 'append' as one step of a region that draws its order, by what it answers. -/
theorem step_append_run {P : Program} {ops : Array Oper} {o : Oper} {a : Act} {w : World} {K : Act → World → Prop} {Q : Exit → Act → World → Prop} {E : Prop}
    (hg : o.guard = none) (d x : Operand) (t u : TypeId) (hop : o.op = Op.call { callee := Callee.builtin Builtin.append, args := #[d, x], argTypes := #[t, u] })
    (vd vx v' : Value) (w' : World) (hs : a.eval d = vd) (hx : a.eval x = vx) (hrun : (Builtin.append_ #[t, u] o.type #[vd, vx]).run P w = .ok v' w') (hK : K (a.put o.dst v') w') :
    if Region.wanted o (yielded ops a.tmps) = true then Oper.wp P o a w K Q else E := by
  have hw : Region.wanted o (yielded ops a.tmps) = true := by simp [Region.wanted, hg]
  rw [if_pos hw]
  unfold Oper.wp
  simp [execOp, hop, resolve, invoke, builtin, hs, hx, hrun, Result.andThen]
  exact hK
theorem setCells_row : ∀ (vs : List Value) (o : Nat) (w : World) (b : Nat) (t : TypeId) (cs : Array Value), RowAt w b t cs → ∃ ds, RowAt (w.setCells b o vs) b t ds ∧ ds.size = cs.size
  | [], _, w, b, t, cs, h => ⟨cs, h, rfl⟩
  | v :: vs, o, w, b, t, cs, h => by
    obtain ⟨ds, h1, h2⟩ := setCells_row vs (o + 1) (w.setCell ⟨b, o, none⟩ v) b t _ (h.set o v)
    exact ⟨ds, h1, by rw [h2]; simp⟩
theorem setCells_tn : ∀ (vs : List Value) (o : Nat) (w : World) (b : Nat) (F : Nat → Prop), F b → Tn F w (w.setCells b o vs)
  | [], _, w, _, F, _ => Tn.refl F w
  | v :: vs, o, w, b, F, h => ((Tn.refl F w).set b o v h).then (setCells_tn vs (o + 1) _ b F h)
theorem rcF_one (m : Rm) (h : m.2.1.oneCell' = true ∧ m.2.2.oneCell' = true) : ∀ u ∈ (rcF m).toList, u.oneCell' = true := by
  intro u hu
  simp only [rcF, rcA, List.mem_cons, List.not_mem_nil, or_false] at hu
  rcases hu with rfl | rfl | rfl | rfl | rfl | rfl | rfl | rfl | rfl | rfl | rfl | rfl | rfl | rfl
  all_goals first | rfl | exact h.1 | exact h.2
theorem rc_one {w : World} {r : Rec} {va vb : Value} (h : RcIn w r va vb) : va.oneCell' = true ∧ vb.oneCell' = true := by
  obtain ⟨⟨a, c, rfl, _⟩, ⟨b, d, rfl, _⟩⟩ := h
  exact ⟨rfl, rfl⟩
theorem getD_snoc (ms : List Rm) (m : Rm) (i : Nat) : (ms ++ [m]).getD i rcZ = if i < ms.length then ms.getD i rcZ else if i = ms.length then m else rcZ := by
  by_cases h : i < ms.length
  · rw [if_pos h]
    simp only [List.getD_eq_getElem?_getD, List.getElem?_append_left h]
  · rw [if_neg h]
    by_cases e : i = ms.length
    · subst e
      rw [if_pos rfl]
      simp [List.getD_eq_getElem?_getD]
    · rw [if_neg e]
      simp only [List.getD_eq_getElem?_getD]
      rw [List.getElem?_eq_none (by rw [List.length_append]; simp; omega)]
      rfl
/-- A new row is a row of records. -/
theorem RB.fresh {B : Nat} {w : World} {v : Value} {ms : List Rm} {base n : Nat} (hn : n = ms.length) (hp : 0 < n) (hB : B ≤ base) (ho : w.ownsRow base 43 14 v n (flatR ms)) (hg : ∀ m ∈ ms, m.1.fits ∧ RcK B w m.1 m.2.1 m.2.2) : ∃ a cap, v = .slice a n cap ∧ RB B w a cap ms ∧ ∀ k, blk a k → base ≤ k := by
  subst hn
  have hs := own_rows rcF rcZ 14 (fun _ => rfl) ho
  rcases ho.2 with ⟨rfl, h0⟩ | ⟨g, cap, cur, rfl, h1, h2, h3, h4, h5, h6⟩
  · omega
  · obtain ⟨a', cap', e, h7⟩ := hs
    injection e with e1 e2 e3
    obtain ⟨b, off, h8, _, h9⟩ := h7 hp
    rw [← e1] at h8
    injection h8 with h8
    injection h8 with h10 h11
    subst h10 h11
    exact ⟨_, cap, rfl, ⟨.inr ⟨g, 0, cur, rfl, Nat.le_trans hB h1, h2, by omega, h3, h9⟩, hg⟩, fun k hk => by
      obtain ⟨_, h⟩ := hk
      injection h with h
      injection h with h
      omega⟩
theorem RB.loose {B : Nat} {w : World} {a : Option Addr} {cap : Nat} {ms : List Rm} (h : RB B w a cap ms) : Loose B w (blk a) := by
  intro k hk
  obtain ⟨off, e⟩ := hk
  rcases h.1 with ⟨h1, _⟩ | ⟨b, off', cs, h1, h2, h3, _⟩
  · rw [h1] at e
    cases e
  · rw [h1] at e
    injection e with e
    injection e with e
    subst e
    exact ⟨h2, h3.lt, fun t ds hr => by rw [row_kind hr h3]; decide⟩

set_option maxRecDepth 8000 in
theorem run_push (B : Nat) (w : World) (t ty : TypeId) (ht : Try.prog.underlying t = some (.slice 43)) (a : Option Addr) (cap : Nat) (ms : List Rm) (h : RB B w a cap ms) (m : Rm) (g c : Nat) (hg : RowAt w g 43 (rcF m)) (hm : m.1.fits ∧ RcK B w m.1 m.2.1 m.2.2) (hB : B ≤ w.heap.size) (hl : ms.length ≤ 100000000) :
    ∃ a' cap' w', (Builtin.append_ #[t, t] ty #[.slice a ms.length cap, .slice (some ⟨g, 0, none⟩) 1 c]).run Try.prog w = .ok (.slice a' (ms.length + 1) cap') w' ∧ RB B w' a' cap' (ms ++ [m]) ∧ Tn (blk a) w w' ∧ ∀ k, blk a' k → blk a k ∨ w.heap.size ≤ k := by
  obtain ⟨i, hi0, hi1⟩ := Option.map_eq_some_iff.1 infoRc3
  simp only [Prod.mk.injEq] at hi1
  have hone := rcF_one m (rc_one hm.2.rc)
  have hlen : (rcF m).toList.length = 1 * 14 := rfl
  have hcells : ∀ j u, (rcF m).toList[j]? = some u → w.cell? ((⟨g, 0, none⟩ : Addr).add j) = some u := fun j u hu => by
    rw [Addr.add_lit, Nat.zero_add]
    exact hg.cell j u (by simpa using hu)
  have hz : (Value.agg zeroA).cells.size = 14 := rfl
  have flat : flatR (ms ++ [m]) = flatR ms ++ (rcF m).toList := by rw [flatR_append]; simp [flatR]
  have fresh : ∀ v' w', w'.ownsRow w.heap.size 43 14 v' (ms.length + 1) (flatR ms ++ (rcF m).toList) → w.grownBy w' none → ∃ a' cap', v' = .slice a' (ms.length + 1) cap' ∧ RB B w' a' cap' (ms ++ [m]) ∧ Tn (blk a) w w' ∧ ∀ k, blk a' k → blk a k ∨ w.heap.size ≤ k := by
    intro v' w' h1 h2
    have hb : Below w.heap.size w w' := ⟨h2.os, h2.tape, h2.output, h2.size, fun k hk => h2.block k hk (by simp)⟩
    rw [← flat] at h1
    obtain ⟨a', cap', rfl, h3, h4⟩ := RB.fresh (by simp) (by omega) hB h1 (fun x hx => by
      rcases List.mem_append.1 hx with hx | hx
      · exact ⟨(h.2 x hx).1, (h.2 x hx).2.later hb⟩
      · rw [List.mem_singleton.1 hx]
        exact ⟨hm.1, hm.2.later hb⟩)
    exact ⟨a', cap', rfl, h3, Tn.of_below hb, fun k hk => .inr (h4 k hk)⟩
  have hold : ∀ b off, a = some ⟨b, off, none⟩ → ∀ j u, (flatR ms)[j]? = some u → w.cell? ((⟨b, off, none⟩ : Addr).add j) = some u := by
    intro b off e j u hu
    subst e
    rcases h.1 with ⟨h1, _⟩ | ⟨b', off', cs, h1, _, _, _, _, h6⟩
    · cases h1
    · injection h1 with h1
      injection h1 with h1 h7
      subst h1 h7
      have hj : j < ms.length * 14 := by
        have := (List.getElem?_eq_some_iff.1 hu).1
        rwa [flatR, flat_length rcF 14 (fun _ => rfl)] at this
      have h4 := flat_get rcF 14 (fun _ => rfl) rcZ ms (j / 14) (j % 14) (by omega) (by omega)
      rw [show j / 14 * 14 + j % 14 = j by omega] at h4
      rw [Addr.add_lit]
      have h5 := h6 (j / 14) (by omega) (j % 14) u (by rw [← h4]; exact hu)
      rwa [show off + j / 14 * 14 + j % 14 = off + j by omega] at h5
  rcases h.1 with ⟨rfl, rfl, rfl⟩ | ⟨b, off, cs, rfl, h1, h2, h3, h4, h6⟩
  · obtain ⟨v', w', r1, r2, r3, _⟩ := run_append_own (P := Try.prog) w w.heap.size t ty 43 i (.agg zeroA) 14 160 ht hi0 hi1.1 hi1.2.1 hi1.2.2 hz (by omega) (.slice none 0 0) 0 [] (World.ownsRow_nil _ _ _ _) ⟨g, 0, none⟩ 1 c (rcF m).toList hlen hcells hone (by unfold maxLen; omega) (by omega) (Nat.le_refl _)
    obtain ⟨a', cap', rfl, q⟩ := fresh v' w' r2 r3
    exact ⟨a', cap', w', r1, q⟩
  · by_cases hr : ms.length + 1 ≤ cap
    · have hc : ∀ j, j < (rcF m).toList.length → (w.cell? ⟨b, off + ms.length * i.size + j, none⟩).isSome = true := fun j hj => by
        have hj14 : j < 14 := hj
        rw [hi1.2.1, cell_of_row _ _ _ _ _ _ h2, Array.getElem?_eq_getElem (by omega)]
        rfl
      have r1 := run_append_room_cells (P := Try.prog) w t ty 43 i ht hi0 b off ms.length cap ⟨g, 0, none⟩ 1 c (rcF m).toList (by rw [hlen, hi1.2.1]) hcells hone hr hc (fun j _ => h2.free _)
      rw [hi1.2.1] at r1 hc
      obtain ⟨ds, hd1, hd2⟩ := setCells_row (rcF m).toList (off + ms.length * 14) w b 43 cs h2
      have hT := setCells_tn (rcF m).toList (off + ms.length * 14) w b (blk (some ⟨b, off, none⟩)) ⟨off, rfl⟩
      have hL := h.loose
      refine ⟨_, _, _, r1, ⟨.inr ⟨b, off, ds, rfl, h1, hd1, by omega, by rw [List.length_append]; simpa using hr, fun k hk => ?_⟩, fun x hx => ?_⟩, hT, fun k hk => .inl hk⟩
      · rw [List.length_append, List.length_singleton] at hk
        intro j u hu
        have hj14 : j < 14 := (List.getElem?_eq_some_iff.1 hu).1
        by_cases e : k < ms.length
        · rw [getD_snoc, if_pos e] at hu
          rw [World.cell?_setCells_out b _ _ w _ (fun _ _ => .inl (by show off + k * 14 + j < off + ms.length * 14; omega))]
          exact h6 k e j u hu
        · obtain rfl : k = ms.length := by omega
          rw [getD_snoc, if_neg e, if_pos rfl] at hu
          have h9 := World.cell?_setCells_in b (rcF m).toList (off + ms.length * 14) w hc j hj14
          rw [h9]
          rw [List.getElem?_eq_getElem hj14] at hu
          exact hu
      · rcases List.mem_append.1 hx with hx | hx
        · exact ⟨(h.2 x hx).1, (h.2 x hx).2.keep hL hT⟩
        · rw [List.mem_singleton.1 hx]
          exact ⟨hm.1, hm.2.keep hL hT⟩
    · obtain ⟨v', w', r1, r2, r3⟩ := run_append_arg_grows (P := Try.prog) w t ty 43 i (.agg zeroA) 14 160 ht hi0 hi1.1 hi1.2.1 hi1.2.2 hz (by omega) ⟨b, off, none⟩ ms.length cap (flatR ms) (by rw [flatR, flat_length rcF 14 (fun _ => rfl)]) (hold b off rfl) ⟨g, 0, none⟩ 1 c (rcF m).toList hlen hcells (by omega) (by unfold maxLen; omega) (by omega)
      obtain ⟨a', cap', rfl, q⟩ := fresh v' w' r2 r3
      exact ⟨a', cap', w', r1, q⟩
end Go.Proofs.Ytfbelaalmdcaaaa

/-
  The contracts of quaysideref03's clock and of its Rises.
-/
namespace Go.Proofs.Ytfbelaalmdcaaaa
open Go.RowKit
set_option linter.unusedVariables false

theorem grown_setL (w : World) (b : Nat) (v : Value) : w.grownBy (w.setCell ⟨b, 0, none⟩ v) (some b) :=
  ⟨rfl, rfl, rfl, by simp, fun k _ hk => heap_setCell_other w ⟨b, 0, none⟩ k v (fun e => hk (by simp [e]))⟩
theorem grown_reflL (w : World) (b : Nat) : w.grownBy w (some b) := ⟨rfl, rfl, rfl, Nat.le_refl _, fun _ _ _ => rfl⟩

theorem full_iff (n f : Nat) (s : Bool) : full n f s = true ↔ (maxL ≤ max n f ∨ (s = false ∧ topL ≤ max n f)) := by
  cases s <;> simp [full]

end Go.Proofs.Ytfbelaalmdcaaaa

/-
  The contracts of package lsn: all but See and Rises.
-/
namespace Go.Proofs.Ytfbelaalmdcaaaa
open Go.RowKit
set_option linter.unusedVariables false

/-- A clock in memory. -/
def ClkAt (w : World) (b n : Nat) : Prop := n ≤ maxL ∧ w.heap[b]? = some (.cells #[.int .u64 n] 94 (0, 0))
theorem ClkAt.cell {w : World} {b n : Nat} (h : ClkAt w b n) : w.cell? ⟨b, 0, none⟩ = some (.int .u64 n) := by
  rw [cell_of_row w b 0 _ _ (0, 0) h.2]
  simp
theorem ClkAt.free {w : World} {b n : Nat} (h : ClkAt w b n) : w.frozen? ⟨b, 0, none⟩ = false := frozen_of_row w b 0 _ _ h.2
theorem ClkAt.set {w : World} {b n : Nat} (h : ClkAt w b n) (m : Nat) (hm : m ≤ maxL) : ClkAt (w.setCell ⟨b, 0, none⟩ (.int .u64 m)) b m := by
  have h1 := heap_setCell_same w b 0 _ _ (.int .u64 m) h.2
  refine ⟨hm, ?_⟩
  rw [h1]
  simp
theorem ClkAt.new (w : World) (n : Nat) (h : n ≤ maxL) : ClkAt (w.alloc (.cells #[.int .u64 n] 94)) w.heap.size n := ⟨h, heap_alloc_new w _⟩

set_option maxRecDepth 4000 in
set_option maxHeartbeats 400000 in
theorem capped_any (l : Nat) (w : World) :
    Calls Try.prog 49 #[.int .u64 l] w fun e w' => e = .returned (.int .u64 (min l maxL : Nat)) ∧ w' = w := by
  by_cases h : maxL < l
  · have e : min l maxL = maxL := by omega
    have h1 : (4611686018427387904 : Int) < (l : Int) := by unfold maxL at h; omega
    rw [e]
    clear e
    go_enter Try.func49, Try.ntmps49
    go_wp2
    go_ret
    exact ⟨rfl, rfl⟩
  · have e : min l maxL = l := by omega
    have h1 : ¬ (4611686018427387904 : Int) < (l : Int) := by unfold maxL at h; omega
    rw [e]
    clear e
    go_enter Try.func49, Try.ntmps49
    go_wp2
    go_ret
    exact ⟨rfl, rfl⟩

set_option maxRecDepth 4000 in
set_option maxHeartbeats 400000 in
theorem top_any (s : Bool) (w : World) :
    Calls Try.prog 62 #[.bool s] w fun e w' => e = .returned (.int .u64 ((if s then maxL else topL : Nat) : Int)) ∧ w' = w := by
  cases s
  · go_enter Try.func62, Try.ntmps62
    go_wp2
    go_ret
    exact ⟨rfl, rfl⟩
  · go_enter Try.func62, Try.ntmps62
    go_wp2
    go_ret
    exact ⟨rfl, rfl⟩

set_option maxRecDepth 4000 in
set_option maxHeartbeats 400000 in
theorem new_any (s : Nat) (w : World) (hs : s < 18446744073709551616) :
    Calls Try.prog 32 #[.int .u64 s] w fun e w' => ∃ b, e = .returned (.pointer (some ⟨b, 0, none⟩)) ∧ w.heap.size ≤ b ∧ ClkAt w' b (min s maxL) ∧ Below w.heap.size w w' := by
  have L := capped_any s w
  have hm : min s maxL ≤ maxL := Nat.min_le_right _ _
  generalize min s maxL = m at L hm
  have HL := hideL L
  clear L
  have HN := hideL (ClkAt.new w m hm)
  go_enter Try.func32, Try.ntmps32
  go_wp2_with fail
  refine HL.out.mono ?_
  rintro e w1 ⟨rfl, rfl⟩
  go_wp2
  go_ret
  exact ⟨_, rfl, Nat.le_refl _, HN.out, (Below.refl _ _).alloc (Nat.le_refl _) _⟩

set_option maxRecDepth 4000 in
set_option maxHeartbeats 400000 in
theorem last_any (b n : Nat) (w : World) (h : ClkAt w b n) :
    Calls Try.prog 39 #[.pointer (some ⟨b, 0, none⟩)] w fun e w' => e = .returned (.int .u64 n) ∧ w = w' := by
  have hc := h.cell
  clear h
  go_enter Try.func39, Try.ntmps39
  go_wp2
  go_ret
  exact ⟨rfl, rfl⟩

set_option maxRecDepth 4000 in
set_option maxHeartbeats 400000 in
theorem last_nil (w : World) :
    Calls Try.prog 39 #[.pointer none] w fun e w' => e = .returned (.int .u64 0) ∧ w = w' := by
  go_enter Try.func39, Try.ntmps39
  go_wp2
  go_ret
  exact ⟨rfl, rfl⟩

set_option maxRecDepth 4000 in
set_option maxHeartbeats 400000 in
theorem see_nil (l : Int) (w : World) :
    Calls Try.prog 33 #[.pointer none, .int .u64 l] w fun e w' => e = .returned (.tuple #[]) ∧ w = w' := by
  go_enter Try.func33, Try.ntmps33
  go_wp2
  refine bodyPost_ret (results_none rfl _ _ _) rfl ?_
  exact ⟨rfl, rfl⟩

set_option maxRecDepth 4000 in
set_option maxHeartbeats 400000 in
theorem next_nil (f : Int) (s : Bool) (w : World) :
    Calls Try.prog 50 #[.pointer none, .int .u64 f, .bool s] w fun e w' => e = .returned (.tuple #[.int .u64 0, .int .i64 1]) ∧ w = w' := by
  go_enter Try.func50, Try.ntmps50
  go_wp2
  go_ret2
  exact ⟨rfl, rfl⟩

set_option maxRecDepth 4000 in
set_option maxHeartbeats 400000 in
theorem next_full_at (b n f t : Nat) (s : Bool) (w : World) (hc : w.cell? ⟨b, 0, none⟩ = some (.int .u64 n)) (ht : t ≤ max n f)
    (HL : Hid (∀ w, Calls Try.prog 62 #[.bool s] w fun e w' => e = .returned (.int .u64 (t : Int)) ∧ w' = w)) :
    Calls Try.prog 50 #[.pointer (some ⟨b, 0, none⟩), .int .u64 f, .bool s] w fun e w' => e = .returned (.tuple #[.int .u64 0, .int .i64 7]) ∧ w' = w := by
  by_cases h1 : n < f
  · have h2 : (n : Int) < (f : Int) := by omega
    have h3 : (t : Int) ≤ (f : Int) := by omega
    clear ht
    go_enter Try.func50, Try.ntmps50
    go_wp2_with fail
    refine (HL.out _).mono ?_
    rintro e w1 ⟨rfl, rfl⟩
    go_wp2
    go_ret2
    exact ⟨rfl, rfl⟩
  · have h2 : ¬ (n : Int) < (f : Int) := by omega
    have h3 : (t : Int) ≤ (n : Int) := by omega
    clear ht
    go_enter Try.func50, Try.ntmps50
    go_wp2_with fail
    refine (HL.out _).mono ?_
    rintro e w1 ⟨rfl, rfl⟩
    go_wp2
    go_ret2
    exact ⟨rfl, rfl⟩

theorem wrap_up (n : Nat) (h : n < 4611686018427387904) : IntKind.u64.wrap ((n : Int) + 1) = ((n + 1 : Nat) : Int) := by
  simp only [IntKind.wrap, IntKind.bits, IntKind.signed]
  simp
  omega

set_option maxRecDepth 4000 in
set_option maxHeartbeats 400000 in
theorem next_gives_false (b n f : Nat) (w : World) (hc : w.cell? ⟨b, 0, none⟩ = some (.int .u64 n)) (hfz : w.frozen? ⟨b, 0, none⟩ = false) (ht : ¬ topL ≤ max n f)
    (HL : Hid (∀ w, Calls Try.prog 62 #[.bool false] w fun e w' => e = .returned (.int .u64 4611686018427322368) ∧ w' = w)) :
    Calls Try.prog 50 #[.pointer (some ⟨b, 0, none⟩), .int .u64 f, .bool false] w fun e w' => e = .returned (.tuple #[.int .u64 ((max n f + 1 : Nat) : Int), .int .i64 0]) ∧ w' = w.setCell ⟨b, 0, none⟩ (.int .u64 ((max n f + 1 : Nat) : Int)) := by
  unfold topL at ht
  by_cases h1 : n < f
  · have h2 : (n : Int) < (f : Int) := by omega
    have h3 : ((4611686018427322368 : Int) ≤ (f : Int)) = False := eq_false (by omega)
    have HW := hideL (wrap_up f (by omega))
    have hmx : max n f = f := by omega
    rw [hmx]
    clear ht hmx
    go_enter Try.func50, Try.ntmps50
    go_wp2_with fail
    refine (HL.out _).mono ?_
    rintro e w1 ⟨rfl, rfl⟩
    clear HL
    go_wp2
    go_ret2
    rw [HW.out]
    exact ⟨rfl, rfl⟩
  · have h2 : ¬ (n : Int) < (f : Int) := by omega
    have h3 : ((4611686018427322368 : Int) ≤ (n : Int)) = False := eq_false (by omega)
    have HW := hideL (wrap_up n (by omega))
    have hmx : max n f = n := by omega
    rw [hmx]
    clear ht hmx
    go_enter Try.func50, Try.ntmps50
    go_wp2_with fail
    refine (HL.out _).mono ?_
    rintro e w1 ⟨rfl, rfl⟩
    clear HL
    go_wp2
    go_ret2
    rw [HW.out]
    exact ⟨rfl, rfl⟩

set_option maxRecDepth 4000 in
set_option maxHeartbeats 400000 in
theorem next_gives_true (b n f : Nat) (w : World) (hc : w.cell? ⟨b, 0, none⟩ = some (.int .u64 n)) (hfz : w.frozen? ⟨b, 0, none⟩ = false) (ht : ¬ maxL ≤ max n f)
    (HL : Hid (∀ w, Calls Try.prog 62 #[.bool true] w fun e w' => e = .returned (.int .u64 4611686018427387904) ∧ w' = w)) :
    Calls Try.prog 50 #[.pointer (some ⟨b, 0, none⟩), .int .u64 f, .bool true] w fun e w' => e = .returned (.tuple #[.int .u64 ((max n f + 1 : Nat) : Int), .int .i64 0]) ∧ w' = w.setCell ⟨b, 0, none⟩ (.int .u64 ((max n f + 1 : Nat) : Int)) := by
  unfold maxL at ht
  by_cases h1 : n < f
  · have h2 : (n : Int) < (f : Int) := by omega
    have h3 : ((4611686018427387904 : Int) ≤ (f : Int)) = False := eq_false (by omega)
    have HW := hideL (wrap_up f (by omega))
    have hmx : max n f = f := by omega
    rw [hmx]
    clear ht hmx
    go_enter Try.func50, Try.ntmps50
    go_wp2_with fail
    refine (HL.out _).mono ?_
    rintro e w1 ⟨rfl, rfl⟩
    clear HL
    go_wp2
    go_ret2
    rw [HW.out]
    exact ⟨rfl, rfl⟩
  · have h2 : ¬ (n : Int) < (f : Int) := by omega
    have h3 : ((4611686018427387904 : Int) ≤ (n : Int)) = False := eq_false (by omega)
    have HW := hideL (wrap_up n (by omega))
    have hmx : max n f = n := by omega
    rw [hmx]
    clear ht hmx
    go_enter Try.func50, Try.ntmps50
    go_wp2_with fail
    refine (HL.out _).mono ?_
    rintro e w1 ⟨rfl, rfl⟩
    clear HL
    go_wp2
    go_ret2
    rw [HW.out]
    exact ⟨rfl, rfl⟩

theorem full_top (n f : Nat) (s : Bool) : full n f s = true ↔ (if s then maxL else topL) ≤ max n f := by
  rw [full_iff]
  cases s
  · simp only [maxL, topL, true_and, Bool.false_eq_true, if_false]
    omega
  · simp [maxL]

theorem next_any (b n f : Nat) (s : Bool) (w : World) (h : ClkAt w b n) (hf : f < 18446744073709551616) :
    Calls Try.prog 50 #[.pointer (some ⟨b, 0, none⟩), .int .u64 f, .bool s] w fun e w' => e = .returned (.tuple #[.int .u64 (nextS n f s).1, .int .i64 (nextS n f s).2]) ∧ ClkAt w' b (nextN n f s) ∧ w.grownBy w' (some b) := by
  have hq := full_top n f s
  by_cases ht : (if s then maxL else topL) ≤ max n f
  · have e := hq.2 ht
    have e1 : nextS n f s = (0, 7) := by simp [nextS, e]
    have e2 : nextN n f s = n := by simp [nextN, e]
    rw [e1, e2]
    refine (next_full_at b n f _ s w h.cell ht (hideL fun w => top_any s w)).mono ?_
    rintro e w' ⟨rfl, rfl⟩
    exact ⟨rfl, h, grown_reflL _ _⟩
  · have e : full n f s = false := by
      rw [← Bool.not_eq_true, hq]
      exact ht
    have e1 : nextS n f s = (((max n f + 1 : Nat) : Int), 0) := by simp [nextS, e]
    have e2 : nextN n f s = max n f + 1 := by simp [nextN, e]
    rw [e1, e2]
    cases s
    · refine (next_gives_false b n f w h.cell h.free (by simpa using ht) (hideL fun w => top_any false w)).mono ?_
      rintro e w' ⟨rfl, rfl⟩
      exact ⟨rfl, h.set _ (by unfold maxL; simp [topL] at ht; omega), grown_setL _ _ _⟩
    · refine (next_gives_true b n f w h.cell h.free (by simpa using ht) (hideL fun w => top_any true w)).mono ?_
      rintro e w' ⟨rfl, rfl⟩
      exact ⟨rfl, h.set _ (by simp at ht; omega), grown_setL _ _ _⟩
end Go.Proofs.Ytfbelaalmdcaaaa

/-
  The code's log in memory: its block, its clock, its tape, its records' row, the frames that wait.
-/
namespace Go.Proofs.Ytfbelaalmdcaaaa
open Go.RowKit
set_option linter.unusedVariables false

/-- Bytes in a row of their own. -/
def WB (B : Nat) (w : World) (wa : Option Addr) (wc : Nat) (bs : List UInt8) : Prop := w.ownsRow B 5 1 (.slice wa bs.length wc) bs.length (toV bs)
theorem WB.kind {B : Nat} {w : World} {wa : Option Addr} {wc : Nat} {bs : List UInt8} (h : WB B w wa wc bs) : ∀ k, blk wa k → B ≤ k ∧ ∃ cs, RowAt w k 5 cs := by
  rintro k ⟨off, rfl⟩
  rcases h.2 with ⟨e, _⟩ | ⟨g, c, cur, e, hb, hg, _⟩
  · cases e
  · injection e with e1
    injection e1 with e1
    injection e1 with e1
    subst e1
    exact ⟨hb, cur, hg⟩
theorem WB.keep {B : Nat} {w x : World} {wa : Option Addr} {wc : Nat} {bs : List UInt8} (h : WB B w wa wc bs) (hk : ∀ k, blk wa k → x.heap[k]? = w.heap[k]?) : WB B x wa wc bs := by
  refine ⟨h.1, ?_⟩
  rcases h.2 with h4 | ⟨g, c, cur, e, hb, hg, hc⟩
  · exact .inl h4
  · refine .inr ⟨g, c, cur, e, hb, ?_, hc⟩
    injection e with e1
    rw [hk g ⟨0, e1⟩]
    exact hg
theorem WB.nil (B : Nat) (w : World) : WB B w none 0 [] := World.ownsRow_nil _ _ _ _

def lvA (gc gt : Nat) (a : Option Addr) (cap : Nat) (wa : Option Addr) (wn wc : Nat) (g : Lg) : Array Value :=
  #[.pointer (some ⟨gc, 0, none⟩), .pointer (some ⟨gt, 0, none⟩), .slice a g.l.length cap, .int .i64 (g.fa : Int), .int .i64 (g.on : Int), .slice wa wn wc, .int .u64 (g.du : Int), .int .i64 (g.hd : Int)]
structure LV (B : Nat) (w : World) (gl gc gt gb : Nat) (a : Option Addr) (cap : Nat) (ms : List Rm) (wa : Option Addr) (wc : Nat) (bs : List UInt8) (g : Lg) : Prop where
  lowl : B ≤ gl
  lowc : B ≤ gc
  lowt : B ≤ gt
  lowb : B ≤ gb
  log : RowAt w gl 66 (lvA gc gt a cap wa bs.length wc g)
  clock : ClkAt w gc g.c
  tape : TpAt w gt gb g.t
  recs : RB B w a cap ms
  same : msR ms = g.l
  wait : WB B w wa wc bs
  apart : ¬ blk wa gb
/-- Its blocks. -/
def FC (gl gc gt gb : Nat) (a wa : Option Addr) (k : Nat) : Prop := k = gl ∨ k = gc ∨ k = gt ∨ k = gb ∨ blk a k ∨ blk wa k
section
variable {B : Nat} {w x : World} {gl gc gt gb : Nat} {a : Option Addr} {cap : Nat} {ms : List Rm} {wa : Option Addr} {wc : Nat} {bs : List UInt8} {g : Lg}
theorem LV.len (h : LV B w gl gc gt gb a cap ms wa wc bs g) : ms.length = g.l.length := by rw [← h.same]; simp [msR]
theorem RB.kind {ms : List Rm} (h : RB B w a cap ms) : ∀ k, blk a k → B ≤ k ∧ ∃ cs, RowAt w k 43 cs := by
  intro k ⟨off, e⟩
  rcases h.1 with ⟨h1, _⟩ | ⟨b, off', cs, h1, h2, h3, _⟩
  · rw [h1] at e
    cases e
  · rw [h1] at e
    injection e with e
    injection e with e
    subst e
    exact ⟨h2, cs, h3⟩
theorem TpAt.kind {t : Tp} (h : TpAt w gt gb t) : (∃ cs, RowAt w gt 69 cs) ∧ (gb = gt ∨ ∃ cs, RowAt w gb 5 cs) := by
  obtain ⟨c, a, h⟩ := h
  refine ⟨⟨_, h.1⟩, ?_⟩
  rcases h.own with ⟨_, h4, _⟩ | ⟨_, _, _, _, _, cur, hg, _⟩
  · exact .inl h4
  · exact .inr ⟨cur, hg⟩
/-- Each block is of one of five kinds. -/
theorem LV.kinds (h : LV B w gl gc gt gb a cap ms wa wc bs g) (k : Nat) (hk : FC gl gc gt gb a wa k) : B ≤ k ∧ ∃ t cs, RowAt w k t cs ∧ (t = 66 ∨ t = 94 ∨ t = 69 ∨ t = 5 ∨ t = 43) := by
  obtain ⟨⟨c1, t1⟩, t2⟩ := h.tape.kind
  rcases hk with rfl | rfl | rfl | rfl | hk | hk
  · exact ⟨h.lowl, _, _, h.log, .inl rfl⟩
  · exact ⟨h.lowc, _, _, h.clock.2, .inr (.inl rfl)⟩
  · exact ⟨h.lowt, _, _, t1, .inr (.inr (.inl rfl))⟩
  · rcases t2 with rfl | ⟨c2, t2⟩
    · exact ⟨h.lowt, _, _, t1, .inr (.inr (.inl rfl))⟩
    · exact ⟨h.lowb, _, _, t2, .inr (.inr (.inr (.inl rfl)))⟩
  · obtain ⟨h1, cs, h2⟩ := h.recs.kind k hk
    exact ⟨h1, _, _, h2, .inr (.inr (.inr (.inr rfl)))⟩
  · obtain ⟨h1, cs, h2⟩ := h.wait.kind k hk
    exact ⟨h1, _, _, h2, .inr (.inr (.inr (.inl rfl)))⟩
theorem LV.loose (h : LV B w gl gc gt gb a cap ms wa wc bs g) : Loose B w (FC gl gc gt gb a wa) := by
  intro k hk
  obtain ⟨h1, t, cs, h2, h3⟩ := h.kinds k hk
  refine ⟨h1, h2.lt, fun u ds hr => ?_⟩
  rw [row_kind hr h2]
  rcases h3 with rfl | rfl | rfl | rfl | rfl <;> decide
/-- The blocks are apart. -/
structure LVapart (gl gc gt gb : Nat) (a wa : Option Addr) : Prop where
  lc : gl ≠ gc
  lt : gl ≠ gt
  lb : gl ≠ gb
  la : ¬ blk a gl
  lw : ¬ blk wa gl
  ct : gc ≠ gt
  cb : gc ≠ gb
  ca : ¬ blk a gc
  cw : ¬ blk wa gc
  ta : ¬ blk a gt
  tw : ¬ blk wa gt
  ba : ¬ blk a gb
  aw : ∀ k, blk a k → ¬ blk wa k
theorem LV.all (h : LV B w gl gc gt gb a cap ms wa wc bs g) : LVapart gl gc gt gb a wa := by
  obtain ⟨⟨c1, t1⟩, t2⟩ := h.tape.kind
  have k1 := h.log
  have k2 : RowAt w gc 94 _ := h.clock.2
  have ne : ∀ {p q : Nat} {t u : TypeId} {cs ds : Array Value}, RowAt w p t cs → RowAt w q u ds → t ≠ u → p ≠ q := fun h1 h2 hn e => by
    subst e
    exact hn (row_kind h1 h2)
  have lt := ne k1 t1 (by decide)
  have ct := ne k2 t1 (by decide)
  have na : ∀ {p : Nat} {t : TypeId} {cs : Array Value}, RowAt w p t cs → t ≠ 43 → ¬ blk a p := fun h1 hn hk => by
    obtain ⟨_, ds, h2⟩ := h.recs.kind _ hk
    exact hn (row_kind h1 h2)
  have nw : ∀ {p : Nat} {t : TypeId} {cs : Array Value}, RowAt w p t cs → t ≠ 5 → ¬ blk wa p := fun h1 hn hk => by
    obtain ⟨_, ds, h2⟩ := h.wait.kind _ hk
    exact hn (row_kind h1 h2)
  refine ⟨ne k1 k2 (by decide), lt, ?_, na k1 (by decide), nw k1 (by decide), ct, ?_, na k2 (by decide), nw k2 (by decide), na t1 (by decide), nw t1 (by decide), ?_, fun k hk => ?_⟩
  · rcases t2 with rfl | ⟨c2, t2⟩
    · exact lt
    · exact ne k1 t2 (by decide)
  · rcases t2 with rfl | ⟨c2, t2⟩
    · exact ct
    · exact ne k2 t2 (by decide)
  · rcases t2 with rfl | ⟨c2, t2⟩
    · exact na t1 (by decide)
    · exact na t2 (by decide)
  · obtain ⟨_, ds, h2⟩ := h.recs.kind _ hk
    exact nw h2 (by decide)
/-- Another thing's calls leave it. -/
theorem LV.keep {F : Nat → Prop} (h : LV B w gl gc gt gb a cap ms wa wc bs g) (hl : Loose B w F) (p : Tn F w x) (hn : ∀ k, FC gl gc gt gb a wa k → ¬ F k) : LV B x gl gc gt gb a cap ms wa wc bs g :=
  ⟨h.lowl, h.lowc, h.lowt, h.lowb, p.row h.log (hn _ (.inl rfl)), ⟨h.clock.1, p.row h.clock.2 (hn _ (.inr (.inl rfl)))⟩,
    h.tape.keep (p.block _ h.tape.lt.1 (hn _ (.inr (.inr (.inl rfl))))) (p.block _ h.tape.lt.2 (hn _ (.inr (.inr (.inr (.inl rfl)))))),
    h.recs.keep hl p (fun k hk => hn k (.inr (.inr (.inr (.inr (.inl hk)))))), h.same, h.wait.keep (fun k hk => p.block k (by obtain ⟨_, _, hr⟩ := h.wait.kind k hk; exact hr.lt) (hn k (.inr (.inr (.inr (.inr (.inr hk))))))), h.apart⟩
theorem LV.later (h : LV B w gl gc gt gb a cap ms wa wc bs g) (p : Below w.heap.size w x) : LV B x gl gc gt gb a cap ms wa wc bs g := h.keep (loose_none B w) (Tn.of_below p) (fun _ _ h => h)
theorem LV.drew (h : LV B w gl gc gt gb a cap ms wa wc bs g) : LV B w.drew gl gc gt gb a cap ms wa wc bs g := h.later ⟨rfl, rfl, rfl, Nat.le_refl _, fun _ _ => rfl⟩
theorem LV.here (h : LV B w gl gc gt gb a cap ms wa wc bs g) : B ≤ w.heap.size := Nat.le_trans h.lowl (Nat.le_of_lt h.log.lt)
/-- Only the log's own block was turned. -/
theorem LV.put {a' wa' : Option Addr} {cap' wc' : Nat} {ms' : List Rm} {bs' : List UInt8} {g' : Lg} (h : LV B w gl gc gt gb a cap ms wa wc bs g) (p : Tn (Is gl) w x) (hl : RowAt x gl 66 (lvA gc gt a' cap' wa' bs'.length wc' g')) (hc : g'.c = g.c) (ht : g'.t = g.t)
    (hr : RB B w a' cap' ms') (ha : ¬ blk a' gl) (hs : msR ms' = g'.l) (hw : WB B w wa' wc' bs') (hwl : ¬ blk wa' gl) (hwb : ¬ blk wa' gb) : LV B x gl gc gt gb a' cap' ms' wa' wc' bs' g' := by
  have A := h.all
  refine ⟨h.lowl, h.lowc, h.lowt, h.lowb, hl, ?_, ?_, hr.keep (F := Is gl) (fun k hk => h.loose k (.inl hk)) p (fun k hk e => ha (by rw [← show k = gl from e]; exact hk)), hs, hw.keep (fun k hk => p.block k (by obtain ⟨_, _, hr⟩ := hw.kind k hk; exact hr.lt) (fun e => hwl (by rw [← show k = gl from e]; exact hk))), hwb⟩
  · rw [hc]
    exact ⟨h.clock.1, p.row h.clock.2 (fun e => A.lc (show gc = gl from e).symm)⟩
  · rw [ht]
    exact h.tape.keep (p.block _ h.tape.lt.1 (fun e => A.lt (show gt = gl from e).symm)) (p.block _ h.tape.lt.2 (fun e => A.lb (show gb = gl from e).symm))
theorem Turn.tn {gt gb : Nat} {w x : World} (p : Turn gt gb w x) : Tn (fun k => k = gt ∨ k = gb) w x := ⟨p.os, p.tape, p.output, p.size, fun k hk hn => p.block k hk (fun e => hn (.inl e)) (fun e => hn (.inr e))⟩
/-- Only the tape's blocks were turned. -/
theorem LV.turnT {gb' : Nat} {t' : Tp} (h : LV B w gl gc gt gb a cap ms wa wc bs g) (p : Turn gt gb w x) (ht : TpAt x gt gb' t') (hb : gb' = gb ∨ w.heap.size ≤ gb') : LV B x gl gc gt gb' a cap ms wa wc bs { g with t := t' } := by
  have A := h.all
  have q := p.tn
  have hlo : Loose B w (fun k => k = gt ∨ k = gb) := fun k hk => h.loose k (by rcases hk with h1 | h1; exact .inr (.inr (.inl h1)); exact .inr (.inr (.inr (.inl h1))))
  refine ⟨h.lowl, h.lowc, h.lowt, ?_, q.row h.log (fun e => by rcases e with e | e; exact A.lt e; exact A.lb e), ⟨h.clock.1, q.row h.clock.2 (fun e => by rcases e with e | e; exact A.ct e; exact A.cb e)⟩, ht, h.recs.keep hlo q (fun k hk e => by
    rcases e with e | e
    · exact A.ta (by rw [← e]; exact hk)
    · exact A.ba (by rw [← e]; exact hk)), h.same, h.wait.keep (fun k hk => q.block k (by obtain ⟨_, _, hr⟩ := h.wait.kind k hk; exact hr.lt) (fun e => by
    rcases e with e | e
    · exact A.tw (by rw [← e]; exact hk)
    · exact h.apart (by rw [← e]; exact hk))), ?_⟩
  · rcases hb with rfl | hb
    · exact h.lowb
    · exact Nat.le_trans h.here hb
  · rcases hb with rfl | hb
    · exact h.apart
    · intro hk
      obtain ⟨_, _, hr⟩ := h.wait.kind _ hk
      have := hr.lt
      omega
/-- Only the clock was turned. -/
theorem LV.turnC {c' : Nat} (h : LV B w gl gc gt gb a cap ms wa wc bs g) (q : Tn (Is gc) w x) (hc : ClkAt x gc c') : LV B x gl gc gt gb a cap ms wa wc bs { g with c := c' } := by
  have A := h.all
  refine ⟨h.lowl, h.lowc, h.lowt, h.lowb, q.row h.log (fun e => A.lc e), hc, h.tape.keep (q.block _ h.tape.lt.1 (fun e => A.ct (show gt = gc from e).symm)) (q.block _ h.tape.lt.2 (fun e => A.cb (show gb = gc from e).symm)), h.recs.keep (fun k hk => h.loose k (.inr (.inl hk))) q (fun k hk e => A.ca (by rw [← show k = gc from e]; exact hk)), h.same, h.wait.keep (fun k hk => q.block k (by obtain ⟨_, _, hr⟩ := h.wait.kind k hk; exact hr.lt) (fun e => A.cw (by rw [← show k = gc from e]; exact hk))), h.apart⟩
theorem LV.c0 (h : LV B w gl gc gt gb a cap ms wa wc bs g) : w.cell? ⟨gl, 0, none⟩ = some (.pointer (some ⟨gc, 0, none⟩)) := h.log.cell 0 _ rfl
theorem LV.c1 (h : LV B w gl gc gt gb a cap ms wa wc bs g) : w.cell? ⟨gl, 1, none⟩ = some (.pointer (some ⟨gt, 0, none⟩)) := h.log.cell 1 _ rfl
theorem LV.c2 (h : LV B w gl gc gt gb a cap ms wa wc bs g) : w.cell? ⟨gl, 2, none⟩ = some (.slice a g.l.length cap) := h.log.cell 2 _ rfl
theorem LV.c3 (h : LV B w gl gc gt gb a cap ms wa wc bs g) : w.cell? ⟨gl, 3, none⟩ = some (.int .i64 (g.fa : Int)) := h.log.cell 3 _ rfl
theorem LV.c4 (h : LV B w gl gc gt gb a cap ms wa wc bs g) : w.cell? ⟨gl, 4, none⟩ = some (.int .i64 (g.on : Int)) := h.log.cell 4 _ rfl
theorem LV.c5 (h : LV B w gl gc gt gb a cap ms wa wc bs g) : w.cell? ⟨gl, 5, none⟩ = some (.slice wa bs.length wc) := h.log.cell 5 _ rfl
theorem LV.c6 (h : LV B w gl gc gt gb a cap ms wa wc bs g) : w.cell? ⟨gl, 6, none⟩ = some (.int .u64 (g.du : Int)) := h.log.cell 6 _ rfl
theorem LV.c7 (h : LV B w gl gc gt gb a cap ms wa wc bs g) : w.cell? ⟨gl, 7, none⟩ = some (.int .i64 (g.hd : Int)) := h.log.cell 7 _ rfl
end
/-- A record's LSN. -/
theorem RB.lsnAt {B : Nat} {w : World} {a : Option Addr} {cap : Nat} {ms : List Rm} (h : RB B w a cap ms) {i : Nat} (hi : i < ms.length) : ∃ b off, a = some ⟨b, off, none⟩ ∧ w.cell? ⟨b, off + i * 14 + 1, none⟩ = some (.int .u64 ((ms.getD i rcZ).1.l : Int)) := by
  rcases h.1 with ⟨_, rfl, _⟩ | ⟨b, off, cs, rfl, _, _, _, _, h5⟩
  · exact absurd hi (by simp)
  · exact ⟨b, off, rfl, h5 i hi 1 _ rfl⟩
/-- The code's log, as the statements' walks lean on it. -/
def LAc (B : Nat) : LogAt := fun gt gl w F g => ∃ gc gb a cap ms wa wc, LV B w gl gc gt gb a cap ms wa wc (framesB (g.l.drop g.on)) g ∧ F = FC gl gc gt gb a wa
theorem base9 (B : Nat) : ClBase B (LAc B) := by
  refine ⟨?_, ?_, ?_⟩
  · rintro gt gl x F g ⟨gc, gb, a, cap, ms, wa, wc, h, rfl⟩
    exact h.loose
  · rintro gt gl x y F G g ⟨gc, gb, a, cap, ms, wa, wc, h, rfl⟩ hl p hn
    exact ⟨gc, gb, a, cap, ms, wa, wc, h.keep hl p hn, rfl⟩
  · rintro gt gl x F g ⟨gc, gb, a, cap, ms, wa, wc, h, rfl⟩
    exact ⟨gb, h.tape, .inr (.inr (.inl rfl)), .inr (.inr (.inr (.inl rfl)))⟩
end Go.Proofs.Ytfbelaalmdcaaaa

/-
  The contract of quaysideref03.Rises.
-/
namespace Go.Proofs.Ytfbelaalmdcaaaa
open Go.RowKit
set_option linter.unusedVariables false

/-- Numbers rise up to a place. -/
def risesTo (zs : List Nat) (i : Nat) : Prop := ∀ k, 1 ≤ k → k < i → zs.getD (k - 1) 0 < zs.getD k 0
theorem rises_iff (zs : List Nat) : rises zs = true ↔ risesTo zs zs.length := by
  induction zs with
  | nil => exact ⟨fun _ k h1 h2 => absurd h2 (by simp), fun _ => rfl⟩
  | cons a l ih =>
    cases l with
    | nil =>
      refine ⟨fun _ k h1 h2 => ?_, fun _ => rfl⟩
      simp only [List.length_cons, List.length_nil] at h2
      omega
    | cons b l =>
      rw [rises, Bool.and_eq_true, decide_eq_true_iff, ih]
      constructor
      · rintro ⟨h1, h2⟩ k hk1 hk2
        obtain ⟨k, rfl⟩ : ∃ m, k = m + 1 := ⟨k - 1, by omega⟩
        cases k with
        | zero => exact h1
        | succ k => exact h2 (k + 1) (by omega) (by simp only [List.length_cons] at hk2 ⊢; omega)
      · intro h
        refine ⟨h 1 (by omega) (by simp), fun k hk1 hk2 => ?_⟩
        obtain ⟨k, rfl⟩ : ∃ m, k = m + 1 := ⟨k - 1, by omega⟩
        exact h (k + 2) (by omega) (by simp only [List.length_cons] at hk2 ⊢; omega)
theorem rises_no (zs : List Nat) (i : Nat) (h1 : 1 ≤ i) (h2 : i < zs.length) (h : zs.getD i 0 ≤ zs.getD (i - 1) 0) : rises zs = false := by
  rw [← Bool.not_eq_true, rises_iff]
  intro hr
  have := hr i h1 h2
  omega

end Go.Proofs.Ytfbelaalmdcaaaa

/-
  The contracts of package lsn: See and Rises.
-/
namespace Go.Proofs.Ytfbelaalmdcaaaa
open Go.RowKit
set_option linter.unusedVariables false

theorem below_drwL {B : Nat} {a b : World} (h : Below B a b) (k : Nat) : Below B a (b.drewN k) := ⟨h.1, h.2, h.3, h.4, h.5⟩

theorem ClkAt.drewN {w : World} {b n : Nat} (h : ClkAt w b n) : ClkAt w.drew b n := h
theorem grown_drewL {w w' : World} {b : Nat} (h : w.grownBy w' (some b)) : w.grownBy w'.drew (some b) := ⟨h.1, h.2, h.3, h.4, h.5⟩

set_option maxRecDepth 4000 in
set_option maxHeartbeats 400000 in
theorem see_any (b n l : Nat) (w : World) (h : ClkAt w b n) (hl : l < 18446744073709551616) :
    Calls Try.prog 33 #[.pointer (some ⟨b, 0, none⟩), .int .u64 l] w fun e w' => e = .returned (.tuple #[]) ∧ ClkAt w' b (max n (min l maxL)) ∧ w.grownBy w' (some b) := by
  have hc := h.cell
  have hf := h.free
  have L := fun w => capped_any l w
  have hm : min l maxL ≤ maxL := Nat.min_le_right _ _
  generalize min l maxL = m at L hm ⊢
  have HL := hideL L
  clear L
  by_cases h1 : n < m
  · have h2 : (n : Int) < (m : Int) := by omega
    have e : max n m = m := by omega
    rw [e]
    have HS := hideL (h.set m hm).drewN
    clear e h
    go_enter Try.func33, Try.ntmps33
    go_wp2_with fail
    go_region_with (go_at_call 49; refine (HL.out _).mono ?_; rintro e w1 ⟨rfl, rfl⟩)
    all_goals (go_end0; exact ⟨rfl, HS.out, grown_drewL (grown_setL _ _ _)⟩)
  · have h2 : ¬ (n : Int) < (m : Int) := by omega
    have e : max n m = n := by omega
    rw [e]
    have HS := hideL (h.set n h.1).drewN
    clear e h
    go_enter Try.func33, Try.ntmps33
    go_wp2_with fail
    go_region_with (go_at_call 49; refine (HL.out _).mono ?_; rintro e w1 ⟨rfl, rfl⟩)
    all_goals (go_end0; exact ⟨rfl, HS.out, grown_drewL (grown_setL _ _ _)⟩)
end Go.Proofs.Ytfbelaalmdcaaaa

/-
  The contracts of the code's tape: what it tells of itself, a new one, Sync.
-/
namespace Go.Proofs.Ytfbelaalmdcaaaa
open Go.RowKit
set_option linter.unusedVariables false

theorem tp_new (r x : Int) (w : World) (hx : x = max 0 (min r 65536)) : TpAt (w.alloc (.cells #[.slice none 0 0, .int .i64 0, .int .u64 0, .int .i64 x] 69)) w.heap.size w.heap.size (Tp.new r) := by
  have hm : x = ((Tp.new r).m : Int) := by
    rw [hx]
    unfold Tp.new
    simp only
    omega
  rw [hm]
  exact ⟨0, none, RowAt.new w 69 _, World.ownsRow_nil _ _ _ _, .inl ⟨rfl, rfl⟩⟩

set_option maxRecDepth 4000 in
set_option maxHeartbeats 400000 in
theorem new8_any (r : Int) (w : World) :
    Calls Try.prog 20 #[.int .i64 r] w fun e w' => e = .returned (.pointer (some ⟨w.heap.size, 0, none⟩)) ∧ TpAt w' w.heap.size w.heap.size (Tp.new r) ∧ Below w.heap.size w w' := by
  go_enter Try.func20, Try.ntmps20
  go_wp2
  all_goals
    go_ret
    exact ⟨rfl, tp_new r _ w (by omega), (Below.refl w.heap.size w).alloc (Nat.le_refl _) _⟩

set_option maxRecDepth 4000 in
set_option maxHeartbeats 400000 in
theorem len8_any (gt gb : Nat) (t : Tp) (w : World) (h : TpAt w gt gb t) :
    Calls Try.prog 54 #[.pointer (some ⟨gt, 0, none⟩)] w fun e w' => e = .returned (.int .i64 (t.b.size : Int)) ∧ w = w' := by
  obtain ⟨cap, a, h⟩ := h
  have c0 := h.1.cell 0 _ rfl
  clear h
  go_enter Try.func54, Try.ntmps54
  go_wp2
  go_ret
  exact ⟨rfl, rfl⟩
set_option maxRecDepth 4000 in
set_option maxHeartbeats 400000 in
theorem room8_any (gt gb : Nat) (t : Tp) (w : World) (h : TpAt w gt gb t) :
    Calls Try.prog 38 #[.pointer (some ⟨gt, 0, none⟩)] w fun e w' => e = .returned (.int .i64 (t.m : Int)) ∧ w = w' := by
  obtain ⟨cap, a, h⟩ := h
  have c0 := h.1.cell 3 _ rfl
  clear h
  go_enter Try.func38, Try.ntmps38
  go_wp2
  go_ret
  exact ⟨rfl, rfl⟩

theorem TpV.setf {w : World} {gt gb cap : Nat} {a : Option Addr} {t : Tp} (h : TpV w gt gb cap a t) (f : Int) (n : Nat) (hf : f = (n : Int)) : TpV (w.setCell ⟨gt, 1, none⟩ (.int .i64 f)) gt gb cap a { t with f := n } := by
  subst hf
  refine ⟨RowAt.set h.1 1 _, ?_, h.2.2⟩
  rcases h.own with ⟨rfl, _, h2, rfl⟩ | ⟨rfl, h2, h3, h4, h5, cur, h6, h7, h8⟩
  · show World.ownsRow _ 0 5 1 (.slice none t.b.size 0) t.b.size (toV t.b.data.toList)
    have hd : t.b.data.toList = [] := List.eq_nil_of_length_eq_zero (by rw [data_length, h2])
    rw [h2, hd]
    exact World.ownsRow_nil _ _ _ _
  · exact ⟨h.2.1.1, .inr ⟨gb, cap, cur, rfl, Nat.zero_le _, (heap_setCell_other w ⟨gt, 1, none⟩ gb _ (fun e => h2 e.symm)).trans h6, h4, h5, by simpa using h7, by simpa using h8⟩⟩

set_option maxRecDepth 4000 in
set_option maxHeartbeats 400000 in
theorem sync8_any (gt gb : Nat) (t : Tp) (w : World) (h : TpAt w gt gb t) :
    Calls Try.prog 46 #[.pointer (some ⟨gt, 0, none⟩)] w fun e w' => e = .returned (.int .i64 0) ∧ TpAt w' gt gb t.sync ∧ Turn gt gb w w' := by
  obtain ⟨cap, a, h⟩ := h
  have H := hide h
  have c0 := h.1.cell 0 _ rfl
  have c1 := h.1.cell 1 _ rfl
  have f1 := h.1.free 1
  clear h
  go_enter Try.func46, Try.ntmps46
  go_wp2
  go_ret
  exact ⟨rfl, ⟨cap, a, H.out.setf _ _ rfl⟩, (Turn.refl gt gb w).set 1 _⟩
end Go.Proofs.Ytfbelaalmdcaaaa

/-
  The contracts of package wal's small functions: hasTape, used, Last, Durable, Held, Pending, Left, See, number.
-/
namespace Go.Proofs.Ytfbelaalmdcaaaa
open Go.RowKit
set_option linter.unusedVariables false

theorem load9c_p {b j : Nat} (x : World) (v : Value) (p : Addr) (hv : v = .pointer (some p)) (h : x.cell? ⟨b, j, none⟩ = some v) : (Instr.loadAt 25 (.pointer (some ⟨b, j, none⟩))).run Try.prog x = .ok v x := by
  subst hv
  go_simp
theorem load9c_i {b j : Nat} (x : World) (v : Int) (h : x.cell? ⟨b, j, none⟩ = some (.int .i64 v)) : (Instr.loadAt 3 (.pointer (some ⟨b, j, none⟩))).run Try.prog x = .ok (.int .i64 v) x := by
  go_simp
set_option maxRecDepth 4000 in
set_option maxHeartbeats 400000 in
theorem hastape9 (gl gt : Nat) (w : World) (h1 : w.cell? ⟨gl, 1, none⟩ = some (.pointer (some ⟨gt, 0, none⟩))) :
    Calls Try.prog 34 #[.pointer (some ⟨gl, 0, none⟩)] w fun e w' => e = .returned (.bool true) ∧ w = w' := by
  go_enter Try.func34, Try.ntmps34
  go_wp2
  go_ret
  exact ⟨rfl, rfl⟩
set_option maxRecDepth 4000 in
set_option maxHeartbeats 400000 in
theorem hastape9_nil (w : World) :
    Calls Try.prog 34 #[.pointer none] w fun e w' => e = .returned (.bool false) ∧ w = w' := by
  go_enter Try.func34, Try.ntmps34
  go_wp2
  go_ret
  exact ⟨rfl, rfl⟩
section
variable {B : Nat} {gl gc gt gb : Nat} {a : Option Addr} {cap : Nat} {ms : List Rm} {wa : Option Addr} {wc : Nat} {bs : List UInt8} {g : Lg}
theorem LV.dn {w : World} (h : LV B w gl gc gt gb a cap ms wa wc bs g) (k : Nat) : LV B (w.drewN k) gl gc gt gb a cap ms wa wc bs g := h.later (below_dn (Below.refl _ _) k)
set_option maxRecDepth 4000 in
set_option maxHeartbeats 400000 in
theorem used9_any (w : World) (h : LV B w gl gc gt gb a cap ms wa wc bs g) (hs : g.t.b.size + bs.length ≤ 200000) :
    Calls Try.prog 37 #[.pointer (some ⟨gl, 0, none⟩)] w fun e w' => e = .returned (.int .i64 ((g.t.b.size + bs.length : Nat) : Int)) ∧ Below w.heap.size w w' := by
  have H := hide h
  have c1 := h.c1
  have c5 := h.c5
  have HL := hide (fun k => len8_any gt gb g.t (w.drewN k) (h.dn k).tape)
  generalize g.t.b.size = N at *
  generalize bs.length = M at *
  have e : IntKind.i64.wrap ((N : Int) + (M : Int)) = (N : Int) + (M : Int) := by rw [IntKind.wrap_i64]; omega
  clear h
  go_enter Try.func37, Try.ntmps37
  go_wp2_with fail
  go_quiet (first | (go_at_call 54; exact Calls.quiet_of_same ((HL.out _).mono fun e w' hh => ⟨hh.1, hh.2.symm⟩)))
  go_wp2
  go_ret
  exact ⟨by simp, below_dn (Below.refl _ _) nq⟩
set_option maxRecDepth 4000 in
set_option maxHeartbeats 400000 in
theorem last9_any (w : World) (h : LV B w gl gc gt gb a cap ms wa wc bs g) :
    Calls Try.prog 18 #[.pointer (some ⟨gl, 0, none⟩)] w fun e w' => e = .returned (.int .u64 (g.c : Int)) ∧ Below w.heap.size w w' := by
  have c0 := h.c0
  have HC := hide h.clock
  clear h
  go_enter Try.func18, Try.ntmps18
  go_wp2_with fail
  refine (last_any gc g.c w HC.out).mono ?_
  rintro e w1 ⟨rfl, rfl⟩
  go_wp2
  go_ret
  exact ⟨rfl, Below.refl _ _⟩
set_option maxRecDepth 4000 in
set_option maxHeartbeats 400000 in
theorem dur9_any (w : World) (h : LV B w gl gc gt gb a cap ms wa wc bs g) :
    Calls Try.prog 11 #[.pointer (some ⟨gl, 0, none⟩)] w fun e w' => e = .returned (.int .u64 (g.du : Int)) ∧ Below w.heap.size w w' := by
  have c6 := h.c6
  clear h
  go_enter Try.func11, Try.ntmps11
  go_wp2
  go_ret
  exact ⟨rfl, Below.refl _ _⟩
set_option maxRecDepth 4000 in
set_option maxHeartbeats 400000 in
theorem held9_any (w : World) (h : LV B w gl gc gt gb a cap ms wa wc bs g) :
    Calls Try.prog 15 #[.pointer (some ⟨gl, 0, none⟩)] w fun e w' => e = .returned (.int .i64 (g.hd : Int)) ∧ Below w.heap.size w w' := by
  have c7 := h.c7
  clear h
  go_enter Try.func15, Try.ntmps15
  go_wp2
  go_ret
  exact ⟨rfl, Below.refl _ _⟩
set_option maxRecDepth 4000 in
set_option maxHeartbeats 400000 in
theorem see9_any (w : World) (n : Nat) (h : LV B w gl gc gt gb a cap ms wa wc bs g) (hn : n < 18446744073709551616) :
    Calls Try.prog 21 #[.pointer (some ⟨gl, 0, none⟩), .int .u64 (n : Int)] w fun e w' => e = .returned (.tuple #[]) ∧ LV B w' gl gc gt gb a cap ms wa wc bs (g.see n) ∧ Tn (Is gc) w w' := by
  have c0 := h.c0
  have H := hide h
  clear h
  go_enter Try.func21, Try.ntmps21
  go_wp2_with fail
  refine (see_any gc g.c n w H.out.clock hn).mono ?_
  rintro e w1 ⟨rfl, hc, hg⟩
  have hT : Tn (Is gc) w w1 := Tn.of_grown hg (fun k hk => by injection hk with hk; exact hk.symm)
  have H1 := hide (And.intro (H.out.turnC hT hc) hT)
  clear hc hg hT
  go_wp2
  go_end0
  exact ⟨rfl, H1.out.1, H1.out.2⟩
set_option maxRecDepth 4000 in
set_option maxHeartbeats 800000 in
theorem left9_any (w : World) (h : LV B w gl gc gt gb a cap ms wa wc bs g) (hs : g.t.b.size + bs.length ≤ 200000) (hm : g.t.m ≤ 65536) (hh : g.hd ≤ 65536) :
    Calls Try.prog 19 #[.pointer (some ⟨gl, 0, none⟩)] w fun e w' => e = .returned (.int .i64 ((g.t.m : Int) - ((g.t.b.size + bs.length : Nat) : Int) - (g.hd : Int))) ∧ Below w.heap.size w w' := by
  have H := hide h
  have HU := hide (fun y (hy : LV B y gl gc gt gb a cap ms wa wc bs g) => used9_any y hy hs)
  generalize g.t.b.size + bs.length = U at *
  have ew1 : IntKind.i64.wrap ((g.t.m : Int) - (U : Int)) = (g.t.m : Int) - (U : Int) := by rw [IntKind.wrap_i64]; omega
  have ew2 : IntKind.i64.wrap ((g.t.m : Int) - (U : Int) - (g.hd : Int)) = (g.t.m : Int) - (U : Int) - (g.hd : Int) := by rw [IntKind.wrap_i64]; omega
  clear h
  go_enter Try.func19, Try.ntmps19
  go_wp2_with fail
  refine wp_region_in (fun x => LV B x gl gc gt gb a cap ms wa wc bs g ∧ Below w.heap.size w x) (by kernel_rfl) (by kernel_rfl) ⟨H.out.drew, below_dn (Below.refl _ _) 1⟩ ?_
  repeat (first
    | go_big_quiet_skip
    | (refine wpQuiet_load rfl 25 _ rfl _ (.pointer (some ⟨gt, 0, none⟩)) rfl (fun y hy => load9c_p y _ _ rfl hy.1.c1) ?_; simp only [Act.put, Array.setIfInBounds, List.size_toArray, List.length_cons, List.length_nil, Nat.reduceAdd, Nat.reduceLT, ↓reduceDIte, List.set_toArray, List.set_cons_succ, List.set_cons_zero])
    | (refine wpQuiet_load rfl 3 _ rfl _ (.int .i64 (g.hd : Int)) rfl (fun y hy => load9c_i y _ hy.1.c7) ?_; simp only [Act.put, Array.setIfInBounds, List.size_toArray, List.length_cons, List.length_nil, Nat.reduceAdd, Nat.reduceLT, ↓reduceDIte, List.set_toArray, List.set_cons_succ, List.set_cons_zero])
    | (refine wpQuiet_call rfl 38 #[.pointer (some ⟨gt, 0, none⟩)] (.int .i64 (g.t.m : Int)) ?_ (fun x hC => (room8_any gt gb g.t x hC.1.tape).mono fun e x' hh => ⟨hh.1, hh.2 ▸ hC⟩) ?_; (intro x; go_simp); simp only [Act.put, Array.setIfInBounds, List.size_toArray, List.length_cons, List.length_nil, Nat.reduceAdd, Nat.reduceLT, ↓reduceDIte, List.set_toArray, List.set_cons_succ, List.set_cons_zero])
    | (refine wpQuiet_call rfl 37 #[.pointer (some ⟨gl, 0, none⟩)] (.int .i64 (U : Int)) ?_ (fun x hC => (HU.out x hC.1).mono fun e x' hh => ⟨hh.1, hC.1.later hh.2, hC.2.trans (hh.2.mono hC.2.size)⟩) ?_; (intro x; go_simp); simp only [Act.put, Array.setIfInBounds, List.size_toArray, List.length_cons, List.length_nil, Nat.reduceAdd, Nat.reduceLT, ↓reduceDIte, List.set_toArray, List.set_cons_succ, List.set_cons_zero])
    | (refine wpQuiet_plain rfl (fun K hK => ?_); go_simp; (try simp only [ew1, ew2]); refine hK _ ?_; clear hK K))
  refine wpQuiet_nil ?_
  intro x hx
  have HX := hide hx
  clear hx
  go_wp2
  go_ret
  exact ⟨rfl, HX.out.2⟩
set_option maxRecDepth 4000 in
set_option maxHeartbeats 800000 in
/-- The number that the clock would give. -/
theorem number9_any (w : World) (f : Nat) (s : Bool) (h : LV B w gl gc gt gb a cap ms wa wc bs g) (hf : f < 18446744073709551616) :
    Calls Try.prog 35 #[.pointer (some ⟨gl, 0, none⟩), .int .u64 (f : Int), .bool s] w fun e w' => e = .returned (.tuple #[.int .u64 (nextS g.c f s).1, .int .i64 (nextS g.c f s).2]) ∧ Below w.heap.size w w' := by
  have c0 := h.c0
  have HC := hide h.clock
  have htop : g.c ≤ maxL := h.clock.1
  have hlt : g.c < 18446744073709551616 := by unfold maxL at htop; omega
  have HM := hide (show min g.c maxL = g.c by omega)
  clear h
  go_enter Try.func35, Try.ntmps35
  go_wp2_with fail
  refine (last_any gc g.c w HC.out).mono ?_
  rintro e w1 ⟨rfl, rfl⟩
  go_wp2_with fail
  refine (new_any g.c w hlt).mono ?_
  rintro e w2 ⟨b, rfl, hb, hc, hbel⟩
  rw [HM.out] at hc
  have H2 := hide (And.intro hb (And.intro hc hbel))
  clear hb hc hbel
  go_wp2_with fail
  refine (next_any b g.c f s w2 H2.out.2.1 hf).mono ?_
  rintro e w3 ⟨rfl, _, hg⟩
  have hT : Tn (Is b) w2 w3 := Tn.of_grown hg (fun k hk => by injection hk with hk; exact hk.symm)
  have HB := hide (H2.out.2.2.trans (hT.below (fun k hk => by rw [show k = b from hk]; exact H2.out.1) H2.out.2.2.size))
  clear hg hT
  go_wp2
  go_ret2
  exact ⟨rfl, HB.out⟩
end
end Go.Proofs.Ytfbelaalmdcaaaa

/-
  Bytes and texts put behind the bytes of a conversion, or of a row of the call's own: by cells. Of no program.
-/
namespace Go.Proofs.Ytfbelaalmdcaaaa
open Go.RowKit
set_option linter.unusedVariables false

theorem wpList_append_run {P : Program} {ops : Array Oper} {rest : List Oper} {o : Oper} {a : Act} {w w' : World} {Q : Exit → Act → World → Prop} (hgd : o.guard = none) (s x : Operand) (t u : TypeId) (hop : o.op = Op.call { callee := Callee.builtin Builtin.append, args := #[s, x], argTypes := #[t, u] })
    (vs vx v' : Value) (hs : a.eval s = vs) (hx : a.eval x = vx) (hrun : (Builtin.append_ #[t, u] o.type #[vs, vx]).run P w = .ok v' w') (h : wpList P ops Q rest (a.put o.dst v') w') : wpList P ops Q (o :: rest) a w := by
  refine wpList_plain hgd fun K hK => ?_
  unfold Oper.wp
  simp [execOp, hop, resolve, invoke, builtin, hs, hx, hrun, Result.andThen]
  exact hK _ _ h

/-- Bytes in a block, with room behind them that may be written. -/
structure BufC (w : World) (base g n cap : Nat) (bs : List UInt8) : Prop where
  low : base ≤ g
  lt : g < w.heap.size
  room : n ≤ cap
  len : bs.length = n
  cell : ∀ j, j < n → w.cell? ⟨g, j, none⟩ = some (.int .u8 ((bs.getD j 0).toNat : Int))
  free : ∀ j, j < cap → (w.cell? ⟨g, j, none⟩).isSome = true ∧ w.frozen? ⟨g, j, none⟩ = false
theorem BufC.isB {w : World} {base g n cap : Nat} {bs : List UInt8} (h : BufC w base g n cap bs) : IsB w (some ⟨g, 0, none⟩) n bs :=
  ⟨h.len, fun _ => ⟨g, 0, rfl, h.lt, fun j hj => by rw [Nat.zero_add]; exact h.cell j hj⟩⟩
theorem BufC.below {w x : World} {base g n cap : Nat} {bs : List UInt8} (h : BufC w base g n cap bs) (hb : Below w.heap.size w x) : BufC x base g n cap bs := by
  have hc : ∀ j, x.cell? ⟨g, j, none⟩ = w.cell? ⟨g, j, none⟩ := fun j => hb.cell (p := ⟨g, j, none⟩) h.lt
  have hf : ∀ j, x.frozen? ⟨g, j, none⟩ = w.frozen? ⟨g, j, none⟩ := fun j => World.frozen?_of_block (a := ⟨g, j, none⟩) (hb.block g h.lt)
  exact ⟨h.low, Nat.lt_of_lt_of_le h.lt hb.size, h.room, h.len, fun j hj => (hc j).trans (h.cell j hj), fun j hj => by rw [hc, hf]; exact h.free j hj⟩
theorem bufC_conv (w : World) (e : TypeId) (s : ByteArray) : BufC (Lib.bytesWorld w e s) w.heap.size w.heap.size s.size (grownCap w s.size 0 e) s.data.toList := by
  have hge := grownCap_ge w s.size 0 e
  have hsz : (Lib.bytesCells w e s).size = grownCap w s.size 0 e := by
    have h1 : s.data.size = s.size := rfl
    simp only [Lib.bytesCells, Array.size_append, Array.size_map, Array.size_replicate, h1]
    omega
  have hat := Lib.bytesWorld_at_new w e s
  rw [hsz] at hat
  refine ⟨Nat.le_refl _, by rw [Lib.bytesWorld_size]; omega, hge, data_length s, fun j hj => Lib.bytesWorld_cell w e s j hj, fun j hj => ⟨?_, ?_⟩⟩
  · rw [cell_of_row _ _ _ _ _ _ hat, Array.getElem?_eq_getElem (by rw [hsz]; exact hj)]
    rfl
  · simp only [World.frozen?, hat, Bool.and_eq_false_iff, decide_eq_false_iff_not]
    left
    omega
theorem bufC_own {w : World} {base n : Nat} {e : TypeId} {v : Value} {bs : List UInt8} (h : w.ownsRow base e 1 v n (toV bs)) (hn : 0 < n) : ∃ g cap, v = .slice (some ⟨g, 0, none⟩) n cap ∧ BufC w base g n cap bs := by
  have hl : bs.length = n := by
    have := h.1
    rw [toV_length] at this
    omega
  rcases h.2 with ⟨_, h0⟩ | ⟨g, cap, cur, rfl, hb, hg, hnc, _, hcs, _⟩
  · omega
  · refine ⟨g, cap, rfl, hb, (h.lt g rfl).2, hnc, hl, fun j hj => (h.cellAt j (by omega)).trans (toV_get bs j (by omega)), fun j hj => ⟨?_, h.frozenAt j⟩⟩
    rw [cell_of_row _ _ _ _ _ _ hg, Array.getElem?_eq_getElem (by omega)]
    rfl
theorem below_setCells {B b : Nat} : ∀ (vs : List Value) (o : Nat) (w : World), B ≤ b → Below B w (w.setCells b o vs)
  | [], _, w, _ => Below.refl _ _
  | v :: vs, o, w, h => ((Below.refl B w).setCell (p := ⟨b, o, none⟩) h v).trans (below_setCells vs (o + 1) _ h)
theorem BufC.put {w : World} {base g n cap : Nat} {bs ys : List UInt8} (h : BufC w base g n cap bs) (hr : n + ys.length ≤ cap) : BufC (w.setCells g n (toV ys)) base g (n + ys.length) cap (bs ++ ys) := by
  have hb := below_setCells (B := 0) (b := g) (toV ys) n w (Nat.zero_le _)
  have hin := World.cell?_setCells_in g (toV ys) n w (fun j hj => (h.free (n + j) (by rw [toV_length] at hj; omega)).1)
  refine ⟨h.low, Nat.lt_of_lt_of_le h.lt hb.size, hr, by rw [List.length_append, h.len], fun j hj => ?_, fun j hj => ⟨?_, by rw [World.frozen?_setCells]; exact (h.free j hj).2⟩⟩
  · by_cases hjn : j < n
    · rw [World.cell?_setCells_out g (toV ys) n w _ (fun _ _ => .inl hjn), h.cell j hjn]
      rw [List.getD_eq_getElem?_getD, List.getD_eq_getElem?_getD, List.getElem?_append_left (by rw [h.len]; exact hjn)]
    · obtain ⟨k, rfl⟩ : ∃ k, j = n + k := ⟨j - n, by omega⟩
      have hk : k < ys.length := by omega
      rw [hin k (by rw [toV_length]; exact hk)]
      have e : (bs ++ ys).getD (n + k) 0 = ys.getD k 0 := by
        rw [List.getD_eq_getElem?_getD, List.getD_eq_getElem?_getD, List.getElem?_append_right (by rw [h.len]; omega), h.len]
        congr 2
        omega
      rw [e]
      have h2 := toV_get ys k hk
      rw [List.getElem?_eq_getElem (by rw [toV_length]; exact hk)] at h2
      exact h2
  · by_cases hjn : n ≤ j ∧ j < n + ys.length
    · obtain ⟨k, rfl⟩ : ∃ k, j = n + k := ⟨j - n, by omega⟩
      rw [hin k (by rw [toV_length]; omega)]
      rfl
    · rw [World.cell?_setCells_out g (toV ys) n w _ (fun _ _ => by rw [toV_length]; show j < n ∨ n + ys.length ≤ j; omega)]
      exact (h.free j hj).1

section
theorem run_append_c {P : Program} (w : World) (t e : TypeId) (ht : P.underlying t = some (.slice e)) (hi : (P.info? e).map (fun i => (i.zero, i.size, i.bytes)) = some (some (.int .u8 0), 1, 1)) (ty : TypeId) {base g n cap : Nat} {bs : List UInt8} (h : BufC w base g n cap bs) (b2 off2 m c : Nat) (ys : List UInt8) (hY : IsB w (some ⟨b2, off2, none⟩) m ys) (hm : 0 < n + m) (hz : n + m ≤ 140737488355328) (hb : base ≤ w.heap.size) :
    ∃ g' cap' w', (Builtin.append_ #[t, t] ty #[.slice (some ⟨g, 0, none⟩) n cap, .slice (some ⟨b2, off2, none⟩) m c]).run P w = .ok (.slice (some ⟨g', 0, none⟩) (n + m) cap') w' ∧ BufC w' base g' (n + m) cap' (bs ++ ys) ∧ Below base w w' := by
  obtain ⟨i, hi0, hi1⟩ := Option.map_eq_some_iff.1 hi
  simp only [Prod.mk.injEq] at hi1
  have hyl := hY.1
  by_cases hr : n + m ≤ cap
  · have hrun := run_append_room_cells (P := P) w t ty e i ht hi0 g 0 n cap ⟨b2, off2, none⟩ m c (toV ys) (by rw [toV_length, hyl, hi1.2.1, Nat.mul_one]) (isB_cells hY) (toV_one ys) hr
      (fun j hj => by rw [toV_length] at hj; rw [hi1.2.1, Nat.mul_one, Nat.zero_add]; exact (h.free (n + j) (by omega)).1) (fun j hj => by rw [toV_length] at hj; rw [hi1.2.1, Nat.mul_one, Nat.zero_add]; exact (h.free (n + j) (by omega)).2)
    rw [hi1.2.1, Nat.mul_one, Nat.zero_add] at hrun
    have hp := h.put (ys := ys) (by omega)
    rw [hyl] at hp
    exact ⟨g, cap, _, hrun, hp, below_setCells _ _ _ h.low⟩
  · obtain ⟨v', w', hrun, r1, r2⟩ := run_append_arg_grows (P := P) w t ty e i (.int .u8 0) 1 1 ht hi0 hi1.1 hi1.2.1 hi1.2.2 rfl (by omega) ⟨g, 0, none⟩ n cap (toV bs) (by rw [toV_length, h.len, Nat.mul_one]) (isB_cells h.isB) ⟨b2, off2, none⟩ m c (toV ys) (by rw [toV_length, hyl, Nat.mul_one]) (isB_cells hY) (by omega) (by unfold maxLen; omega) (by omega)
    rw [← toV_append] at r1
    obtain ⟨g', cap', rfl, hB⟩ := bufC_own r1 hm
    exact ⟨g', cap', w', hrun, ⟨Nat.le_trans hb hB.low, hB.lt, hB.room, hB.len, hB.cell, hB.free⟩, ⟨r2.os, r2.tape, r2.output, r2.size, fun k hk => r2.block k (Nat.lt_of_lt_of_le hk hb) (by simp)⟩⟩
theorem run_append_cs {P : Program} (w : World) (t e : TypeId) (ht : P.underlying t = some (.slice e)) (hi : (P.info? e).map (fun i => (i.zero, i.size, i.bytes)) = some (some (.int .u8 0), 1, 1)) (u ty : TypeId) (hu : P.underlying u = some .string) {base g n cap : Nat} {bs : List UInt8} (h : BufC w base g n cap bs) (s : ByteArray) (hm : 0 < n + s.size) (hz : n + s.size ≤ 140737488355328) (hb : base ≤ w.heap.size) :
    ∃ g' cap' w', (Builtin.append_ #[t, u] ty #[.slice (some ⟨g, 0, none⟩) n cap, .string s]).run P w = .ok (.slice (some ⟨g', 0, none⟩) (n + s.size) cap') w' ∧ BufC w' base g' (n + s.size) cap' (bs ++ s.data.toList) ∧ Below base w w' := by
  obtain ⟨i, hi0, hi1⟩ := Option.map_eq_some_iff.1 hi
  simp only [Prod.mk.injEq] at hi1
  have hsl := data_length s
  have hst0 : Lib.strCells s = toV s.data.toList := by
    have := toV_str [] s
    simpa [toV] using this
  by_cases hr : n + s.size ≤ cap
  · have hf := Lib.run_firstCells_string (P := P) w 1 s
    have hst := run_storeCells_cells (P := P) g n (Lib.strCells s) 0 w (fun j hj => by rw [Lib.strCells_length] at hj; exact (h.free (n + 0 + j) (by omega)).1) (fun j hj => by rw [Lib.strCells_length] at hj; exact (h.free (n + 0 + j) (by omega)).2) (Lib.strCells_oneCell s)
    simp only [Nat.add_zero] at hst
    have hrun : (Builtin.append_ #[t, u] ty #[.slice (some ⟨g, 0, none⟩) n cap, .string s]).run P w = .ok (.slice (some ⟨g, 0, none⟩) (n + s.size) cap) (w.setCells g n (Lib.strCells s)) := by
      simp [Builtin.append_, run_underlying ht, run_underlying hu, sizeOf, typeInfo, hi0, hi1.2.1, Builtin.lenOf, hr, hf, Addr.add_lit, hst]
    rw [hst0] at hrun
    have hp := h.put (ys := s.data.toList) (by omega)
    rw [hsl] at hp
    exact ⟨g, cap, _, hrun, hp, below_setCells _ _ _ h.low⟩
  · have hr2 := Lib.run_append_grow_string (P := P) w t u ty e i (.int .u8 0) ht hu hi0 hi1.1 ⟨g, 0, none⟩ n cap (toV bs) (by rw [toV_length, h.len, hi1.2.1, Nat.mul_one]) (isB_cells h.isB) s (by omega) (by omega) (by rw [hi1.2.2]; exact growslice_fits (by omega) (by omega))
    have hge := grownCap_ge w (n + s.size) cap e
    have hcm : grownCap w (n + s.size) cap e ≤ maxLen := grownCap_le_maxLen w (n + s.size) cap e (by unfold maxLen; omega)
    refine ⟨w.heap.size, _, _, hr2, ?_, ?_⟩
    · have hown : (w.drew.alloc (.cells ((toV bs).toArray ++ (Lib.strCells s).toArray ++ Builtin.zeroCells (Value.int .u8 0).cells (grownCap w (n + s.size) cap e - (n + s.size))) e)).ownsRow w.heap.size e 1 (.slice (some ⟨w.heap.size, 0, none⟩) (n + s.size) (grownCap w (n + s.size) cap e)) (n + s.size) (toV (bs ++ s.data.toList)) := by
        have hlen : (toV (bs ++ s.data.toList)).length = n + s.size := by rw [toV_length, List.length_append, h.len, hsl]
        refine ⟨by rw [hlen, Nat.mul_one], .inr ⟨w.heap.size, _, _, rfl, Nat.le_refl _, heap_alloc_new w.drew _, hge, hcm, ?_, ?_⟩⟩
        · have hz1 : (Value.int IntKind.u8 0).cells.size = 1 := rfl
          simp only [Array.size_append, List.size_toArray, size_zeroCells, hz1, toV_length, h.len, Lib.strCells_length]
          omega
        · simp only [Array.toList_append, List.append_assoc]
          rw [← List.append_assoc, hst0, ← toV_append, Nat.mul_one, ← hlen]
          exact List.take_left
      obtain ⟨g', cap', hv, hB⟩ := bufC_own hown hm
      injection hv with h1 h2 h3
      injection h1 with h4
      injection h4 with h5
      subst h5 h3
      exact ⟨Nat.le_trans hb hB.low, hB.lt, hB.room, hB.len, hB.cell, hB.free⟩
    · exact ⟨rfl, rfl, rfl, by simp, fun k hk => heap_alloc_old w.drew _ (show k < w.drew.heap.size from Nat.lt_of_lt_of_le hk hb)⟩
end
end Go.Proofs.Ytfbelaalmdcaaaa

/-
  The contract of the code's Append.
-/
namespace Go.Proofs.Ytfbelaalmdcaaaa
open Go.RowKit
set_option linter.unusedVariables false

theorem load8_sl {b j : Nat} (x : World) (a : Option Addr) (n c : Nat) (h : x.cell? ⟨b, j, none⟩ = some (.slice a n c)) : (Instr.loadAt 60 (.pointer (some ⟨b, j, none⟩))).run Try.prog x = .ok (.slice a n c) x := by
  go_simp
theorem load8_n {b j : Nat} (x : World) (v : Int) (h : x.cell? ⟨b, j, none⟩ = some (.int .i64 v)) : (Instr.loadAt 3 (.pointer (some ⟨b, j, none⟩))).run Try.prog x = .ok (.int .i64 v) x := by
  go_simp
theorem TpV.drew {w : World} {gt gb cap : Nat} {a : Option Addr} {t : Tp} (h : TpV w gt gb cap a t) : TpV w.drew gt gb cap a t := h.keep rfl rfl

/-- Bytes put behind bytes of the call's own: in their place, or in a new row. -/
theorem run_app8 {P : Program} (w : World) (t ty e : TypeId) (ht : P.underlying t = some (.slice e)) (hi : (P.info? e).map (fun i => (i.zero, i.size, i.bytes)) = some (some (.int .u8 0), 1, 1)) (a : Option Addr) (n cap : Nat) (xs : List UInt8) (hown : w.ownsRow 0 e 1 (.slice a n cap) n (toV xs))
    (ad : Option Addr) (m c : Nat) (ys : List UInt8) (hB : IsB w ad m ys) (hnil : ad = none → c = 0) (hz : n + m ≤ 140737488355328) :
    ∃ a' c' w', (Builtin.append_ #[t, t] ty #[.slice a n cap, .slice ad m c]).run P w = .ok (.slice a' (n + m) c') w' ∧ w'.ownsRow 0 e 1 (.slice a' (n + m) c') (n + m) (toV (xs ++ ys)) ∧ w.grownBy w' (Value.slice a n cap).ownBlock ∧ (a' = a ∨ ∃ g, a' = some ⟨g, 0, none⟩ ∧ w.heap.size ≤ g) := by
  obtain ⟨i, hi0, hi1⟩ := Option.map_eq_some_iff.1 hi
  simp only [Prod.mk.injEq] at hi1
  have hyl := hB.1
  have hxl : xs.length = n := by
    have := hown.1
    rw [toV_length] at this
    omega
  cases ad with
  | none =>
    obtain rfl : m = 0 := by
      by_cases hm : 0 < m
      · obtain ⟨b, off, h1, _⟩ := hB.2 hm
        cases h1
      · omega
    obtain rfl := List.eq_nil_of_length_eq_zero hyl
    obtain rfl := hnil rfl
    exact ⟨a, cap, w, run_append_owned_none (P := P) w 0 t ty e i 1 ht hi0 _ n (toV xs) hown, by simpa using hown, ⟨rfl, rfl, rfl, Nat.le_refl _, fun _ _ _ => rfl⟩, .inl rfl⟩
  | some b =>
    have hcells : ∀ j u, (toV ys)[j]? = some u → w.cell? (b.add j) = some u := by
      intro j u hu
      have hj : j < ys.length := by
        have := (List.getElem?_eq_some_iff.1 hu).1
        rwa [toV_length] at this
      obtain ⟨b', off', hb, _, hc⟩ := hB.2 (by omega)
      cases hb
      rw [Addr.add_lit, hc j (by omega), ← toV_get ys j hj]
      exact hu
    have fresh : ∀ v' w', w'.ownsRow w.heap.size e 1 v' (n + m) (toV xs ++ toV ys) → w.grownBy w' none → v' = .slice none 0 0 ∧ a = none ∧ n + m = 0 ∨ (∃ g c', v' = .slice (some ⟨g, 0, none⟩) (n + m) c' ∧ w.heap.size ≤ g) → ∃ a' c', v' = .slice a' (n + m) c' ∧ w'.ownsRow 0 e 1 (.slice a' (n + m) c') (n + m) (toV (xs ++ ys)) ∧ w.grownBy w' (Value.slice a n cap).ownBlock ∧ (a' = a ∨ ∃ g, a' = some ⟨g, 0, none⟩ ∧ w.heap.size ≤ g) := by
      intro v' w' h1 h2 h3
      have h4 : w.grownBy w' (Value.slice a n cap).ownBlock := ⟨h2.os, h2.tape, h2.output, h2.size, fun k hk _ => h2.block k hk (by simp)⟩
      have h5 : w'.ownsRow 0 e 1 v' (n + m) (toV (xs ++ ys)) := by
        rw [toV_append]
        refine ⟨h1.1, ?_⟩
        rcases h1.2 with h6 | ⟨g, c', cur, q1, _, q2⟩
        · exact .inl h6
        · exact .inr ⟨g, c', cur, q1, Nat.zero_le _, q2⟩
      rcases h3 with ⟨rfl, h6, h7⟩ | ⟨g, c', rfl, h6⟩
      · exact ⟨none, 0, by rw [h7], by rw [h7] at h5 ⊢; exact h5, h4, .inl h6.symm⟩
      · exact ⟨_, _, rfl, h5, h4, .inr ⟨g, rfl, h6⟩⟩
    rcases hown.2 with ⟨e1, h0⟩ | ⟨g, c0, cur, e1, _, hg, hc, hm, hs, htk⟩
    · injection e1 with e1 e2 e3
      subst e1 e2 e3
      obtain rfl : xs = [] := List.eq_nil_of_length_eq_zero hxl
      obtain ⟨v', w', r1, r2, r3, r4⟩ := run_append_own (P := P) w w.heap.size t ty e i (.int .u8 0) 1 1 ht hi0 hi1.1 hi1.2.1 hi1.2.2 rfl (by omega) (.slice none 0 0) 0 (toV []) (World.ownsRow_nil _ _ _ _) b m c (toV ys) (by rw [toV_length, hyl, Nat.mul_one]) hcells (toV_one ys) (by unfold maxLen; omega) (by omega) (Nat.le_refl _)
      obtain ⟨a', c', rfl, q⟩ := fresh v' w' r2 r3 (by
        rcases r2.2 with ⟨h5, h6⟩ | ⟨g, c', cur, q1, q2, _⟩
        · exact .inl ⟨h5, rfl, h6⟩
        · exact .inr ⟨g, c', q1, q2⟩)
      exact ⟨a', c', w', r1, q⟩
    · injection e1 with e1 e2 e3
      subst e1 e3
      by_cases hr : n + m ≤ cap
      · have r1 := run_append_room (P := P) w t ty e i ht hi0 g n cap cur hg b m c (toV ys) (by rw [toV_length, hyl, hi1.2.1, Nat.mul_one]) hcells (toV_one ys) hr (by rw [toV_length, hyl, hi1.2.1, hs]; omega)
        refine ⟨_, _, _, r1, ⟨by rw [toV_length, List.length_append, hxl, hyl, Nat.mul_one], .inr ⟨g, cap, _, rfl, Nat.zero_le _, setRow_heap w g cur _ e _ hg, hr, hm, ?_, ?_⟩⟩, ⟨rfl, rfl, rfl, by simp, fun k _ hk => setRow_other w g k _ (fun e => hk (by simp [Value.ownBlock, e]))⟩, .inl rfl⟩
        · simp only [List.size_toArray, List.length_append, List.length_take, List.length_drop, Array.length_toList, toV_length, hi1.2.1, hs, hyl]
          omega
        · rw [Nat.mul_one] at htk
          rw [hi1.2.1, Nat.mul_one, Nat.mul_one, htk, ← toV_append]
          have hl2 : (toV (xs ++ ys)).length = n + m := by rw [toV_length, List.length_append, hxl, hyl]
          rw [← hl2]
          exact List.take_left
      · obtain ⟨v', w', r1, r2, r3⟩ := run_append_arg_grows (P := P) w t ty e i (.int .u8 0) 1 1 ht hi0 hi1.1 hi1.2.1 hi1.2.2 rfl (by omega) ⟨g, 0, none⟩ n cap (toV xs) (by rw [toV_length, hxl, Nat.mul_one]) (hown.cells (g := g) rfl) b m c (toV ys) (by rw [toV_length, hyl, Nat.mul_one]) hcells (by omega) (by unfold maxLen; omega) (by omega)
        obtain ⟨a', c', rfl, q⟩ := fresh v' w' r2 r3 (by
          rcases r2.2 with ⟨h5, h6⟩ | ⟨g, c', cur, q1, q2, _⟩
          · omega
          · exact .inr ⟨g, c', q1, q2⟩)
        exact ⟨a', c', w', r1, q⟩

/-- A tape whose bytes are another row now. -/
theorem TpV.put {w x : World} {gt gb cap n c' : Nat} {a a' : Option Addr} {t : Tp} {bs : List UInt8} (h : TpV w gt gb cap a t) (hb : bs.length = n) (ho : x.ownsRow 0 5 1 (.slice a' (t.b.size + n) c') (t.b.size + n) (toV (t.b.data.toList ++ bs))) (hg : w.grownBy x (Value.slice a t.b.size cap).ownBlock) (hs : a' = a ∨ ∃ g, a' = some ⟨g, 0, none⟩ ∧ w.heap.size ≤ g) :
    RowAt x gt 69 #[.slice a t.b.size cap, .int .i64 (t.f : Int), .int .u64 (t.s : Int), .int .i64 (t.m : Int)] ∧ ∃ gb', TpAt (x.setCell ⟨gt, 0, none⟩ (.slice a' (t.b.size + n) c')) gt gb' { t with b := t.b ++ ⟨bs.toArray⟩ } ∧ Turn gt gb w (x.setCell ⟨gt, 0, none⟩ (.slice a' (t.b.size + n) c')) ∧ (gb' = gb ∨ w.heap.size ≤ gb') := by
  have hrow : ∀ k, (Value.slice a t.b.size cap).ownBlock = some k → k = gb ∧ gt ≠ gb := by
    intro k hk
    rcases h.own with ⟨rfl, _⟩ | ⟨rfl, h2, _⟩
    · cases hk
    · injection hk with hk
      exact ⟨hk.symm, h2⟩
  have hR : RowAt x gt 69 #[.slice a t.b.size cap, .int .i64 (t.f : Int), .int .u64 (t.s : Int), .int .i64 (t.m : Int)] := (hg.block gt h.1.lt (fun e => by
    obtain ⟨q1, q2⟩ := hrow gt e.symm
    exact q2 q1)).trans h.1
  have hz : (t.b ++ (⟨bs.toArray⟩ : ByteArray)).size = t.b.size + n := by
    have := size_mk bs
    rw [ByteArray.size_append]
    omega
  have hd : (t.b ++ (⟨bs.toArray⟩ : ByteArray)).data.toList = t.b.data.toList ++ bs := by
    rw [str_append]
  have hT : Turn gt gb w (x.setCell ⟨gt, 0, none⟩ (.slice a' (t.b.size + n) c')) := ((Turn.refl gt gb w).grown hg (fun k hk => .inl (hrow k hk).1)).set 0 _
  have hown : ∀ g, a' = some ⟨g, 0, none⟩ → g ≠ gt → (x.setCell ⟨gt, 0, none⟩ (.slice a' (t.b.size + n) c')).ownsRow 0 5 1 (.slice a' (t.b.size + n) c') (t.b.size + n) (toV (t.b.data.toList ++ bs)) := by
    intro g e hne
    subst e
    refine ⟨ho.1, ?_⟩
    rcases ho.2 with ⟨h5, _⟩ | ⟨g', c2, cur, q1, q2, q3, q4⟩
    · cases h5
    · injection q1 with q1 _ q5
      injection q1 with q1
      injection q1 with q1
      subst q1 q5
      exact .inr ⟨g, c', cur, rfl, q2, (heap_setCell_other x ⟨gt, 0, none⟩ g _ hne).trans q3, q4⟩
  have fin : ∀ gb', (a' = none ∧ gb' = gt ∨ a' = some ⟨gb', 0, none⟩ ∧ gb' ≠ gt) → TpAt (x.setCell ⟨gt, 0, none⟩ (.slice a' (t.b.size + n) c')) gt gb' { t with b := t.b ++ ⟨bs.toArray⟩ } := by
    intro gb' hq
    refine ⟨c', a', ?_, ?_, ?_⟩
    · show RowAt _ gt _ #[.slice a' (t.b ++ (⟨bs.toArray⟩ : ByteArray)).size c', _, _, _]
      rw [hz]
      exact RowAt.set hR 0 _
    · show World.ownsRow _ 0 _ 1 (.slice a' (t.b ++ (⟨bs.toArray⟩ : ByteArray)).size c') (t.b ++ (⟨bs.toArray⟩ : ByteArray)).size (toV (t.b ++ (⟨bs.toArray⟩ : ByteArray)).data.toList)
      rw [hz, hd]
      rcases hq with ⟨rfl, _⟩ | ⟨e, hne⟩
      · refine ⟨ho.1, .inl ?_⟩
        rcases ho.2 with h5 | ⟨g', c2, cur, q1, _⟩
        · exact h5
        · cases q1
      · exact hown _ e hne
    · rcases hq with h5 | ⟨e, _⟩
      · exact .inl h5
      · exact .inr e
  refine ⟨hR, ?_⟩
  rcases hs with rfl | ⟨g, e, hge⟩
  · rcases h.own with ⟨rfl, q, _⟩ | ⟨q, h2, _⟩
    · exact ⟨gb, fin gb (.inl ⟨rfl, q⟩), hT, .inl rfl⟩
    · exact ⟨gb, fin gb (.inr ⟨q, fun e => h2 e.symm⟩), hT, .inl rfl⟩
  · exact ⟨g, fin g (.inr ⟨e, by have := h.1.lt; omega⟩), hT, .inr hge⟩

set_option maxRecDepth 4000 in
set_option maxHeartbeats 800000 in
theorem app8_no (gt gb cap : Nat) (a : Option Addr) (t : Tp) (ad : Option Addr) (n c : Nat) (w : World) (h : TpV w gt gb cap a t) (ok : t.ok) (hn : t.m < t.b.size + n) (hs : n ≤ 70000) :
    Calls Try.prog 45 #[.pointer (some ⟨gt, 0, none⟩), .slice ad n c] w fun e w' => e = .returned (.int .i64 7) ∧ TpV w' gt gb cap a t ∧ Turn gt gb w w' := by
  have H := hide h
  have hz := ok.few
  have hy := ok.room
  have h1 : (t.m : Int) - (t.b.size : Int) < (n : Int) := by omega
  have ew : IntKind.i64.wrap ((t.m : Int) - (t.b.size : Int)) = (t.m : Int) - (t.b.size : Int) := by rw [IntKind.wrap_i64]; omega
  clear h ok
  go_enter Try.func45, Try.ntmps45
  go_wp2_with fail
  refine wp_region_in (fun x => TpV x gt gb cap a t ∧ Turn gt gb w x) (by kernel_rfl) (by kernel_rfl) ⟨H.out.drew, (Turn.refl gt gb w).drew⟩ ?_
  repeat (first
    | go_big_quiet_skip
    | (refine wpQuiet_load rfl 3 _ rfl _ (.int .i64 (t.m : Int)) rfl (fun y hy => load8_n y _ (hy.1.1.cell 3 _ rfl)) ?_; simp only [Act.put, Array.setIfInBounds, List.size_toArray, List.length_cons, List.length_nil, Nat.reduceAdd, Nat.reduceLT, ↓reduceDIte, List.set_toArray, List.set_cons_succ, List.set_cons_zero])
    | (refine wpQuiet_load rfl 60 _ rfl _ (.slice a t.b.size cap) rfl (fun y hy => load8_sl y _ _ _ (hy.1.1.cell 0 _ rfl)) ?_; simp only [Act.put, Array.setIfInBounds, List.size_toArray, List.length_cons, List.length_nil, Nat.reduceAdd, Nat.reduceLT, ↓reduceDIte, List.set_toArray, List.set_cons_succ, List.set_cons_zero])
    | (refine wpQuiet_plain rfl (fun K hK => ?_); go_simp; (try simp only [ew]); refine hK _ ?_; clear hK K))
  refine wpQuiet_nil ?_
  intro x hx
  have HX := hide hx
  clear hx
  go_wp2
  go_ret
  exact ⟨rfl, HX.out⟩
set_option maxRecDepth 4000 in
set_option maxHeartbeats 800000 in
theorem app8_yes (gt gb cap : Nat) (a : Option Addr) (t : Tp) (ad : Option Addr) (n c : Nat) (bs : List UInt8) (w : World) (h : TpV w gt gb cap a t) (ok : t.ok) (hB : IsB w ad n bs) (hnil : ad = none → c = 0) (hn : ¬ t.m < t.b.size + n) :
    Calls Try.prog 45 #[.pointer (some ⟨gt, 0, none⟩), .slice ad n c] w fun e w' => e = .returned (.int .i64 0) ∧ ∃ gb', TpAt w' gt gb' { t with b := t.b ++ ⟨bs.toArray⟩ } ∧ Turn gt gb w w' ∧ (gb' = gb ∨ w.heap.size ≤ gb') := by
  have H := hide h
  have hz := ok.few
  have hy := ok.room
  have h1 : ¬ (t.m : Int) - (t.b.size : Int) < (n : Int) := by omega
  have ew : IntKind.i64.wrap ((t.m : Int) - (t.b.size : Int)) = (t.m : Int) - (t.b.size : Int) := by rw [IntKind.wrap_i64]; omega
  have HB := hide hB
  have HN := hide hnil
  clear h ok hB hnil
  go_enter Try.func45, Try.ntmps45
  go_wp2_with fail
  refine wp_region_in (fun x => TpV x gt gb cap a t ∧ Turn gt gb w x ∧ IsB x ad n bs) (by kernel_rfl) (by kernel_rfl) ⟨H.out.drew, (Turn.refl gt gb w).drew, HB.out⟩ ?_
  repeat (first
    | go_big_quiet_skip
    | (refine wpQuiet_load rfl 3 _ rfl _ (.int .i64 (t.m : Int)) rfl (fun y hy => load8_n y _ (hy.1.1.cell 3 _ rfl)) ?_; simp only [Act.put, Array.setIfInBounds, List.size_toArray, List.length_cons, List.length_nil, Nat.reduceAdd, Nat.reduceLT, ↓reduceDIte, List.set_toArray, List.set_cons_succ, List.set_cons_zero])
    | (refine wpQuiet_load rfl 60 _ rfl _ (.slice a t.b.size cap) rfl (fun y hy => load8_sl y _ _ _ (hy.1.1.cell 0 _ rfl)) ?_; simp only [Act.put, Array.setIfInBounds, List.size_toArray, List.length_cons, List.length_nil, Nat.reduceAdd, Nat.reduceLT, ↓reduceDIte, List.set_toArray, List.set_cons_succ, List.set_cons_zero])
    | (refine wpQuiet_plain rfl (fun K hK => ?_); go_simp; (try simp only [ew]); refine hK _ ?_; clear hK K))
  refine wpQuiet_nil ?_
  intro x hx
  have HX := hide hx
  have c0 := hx.1.1.cell 0 _ rfl
  have f0 := hx.1.1.free 0
  clear hx
  obtain ⟨a', c', w2, q1, q2, q3, q4⟩ := run_app8 x 60 60 5 Try.underlying60 info8 a t.b.size cap t.b.data.toList HX.out.1.2.1 ad n c bs HX.out.2.2 HN.out (by omega)
  obtain ⟨hR, gb', r1, r2, r3⟩ := TpV.put HX.out.1 HX.out.2.2.1 q2 q3 q4
  have HR := hide (And.intro r1 (And.intro (HX.out.2.1.trans r2) (show gb' = gb ∨ w.heap.size ≤ gb' from r3.imp id fun h => Nat.le_trans HX.out.2.1.size h)))
  have c2 := hR.cell 0 _ rfl
  have f2 := hR.free 0
  clear HX q2 q3 q4 r1 r2 r3 HB HN H hR
  go_wp2_with (at_builtin; refine wpList_append_run rfl (.tmp 24) (.tmp 25) 60 60 rfl _ _ _ rfl rfl q1 ?_)
  go_ret
  exact ⟨rfl, gb', HR.out⟩
/-- Append, whole. -/
theorem app8_any (gt gb : Nat) (t : Tp) (ad : Option Addr) (n c : Nat) (bs : List UInt8) (w : World) (h : TpAt w gt gb t) (ok : t.ok) (hB : IsB w ad n bs) (hnil : ad = none → c = 0) (hs : n ≤ 70000) :
    Calls Try.prog 45 #[.pointer (some ⟨gt, 0, none⟩), .slice ad n c] w fun e w' => e = .returned (.int .i64 (t.app ⟨bs.toArray⟩).2) ∧ ∃ gb', TpAt w' gt gb' (t.app ⟨bs.toArray⟩).1 ∧ Turn gt gb w w' ∧ (gb' = gb ∨ w.heap.size ≤ gb') := by
  obtain ⟨cap, a, h⟩ := h
  have hsz : (⟨bs.toArray⟩ : ByteArray).size = n := (size_mk bs).trans hB.1
  unfold Tp.app
  rw [hsz]
  by_cases hn : t.m < t.b.size + n
  · rw [if_pos hn]
    exact (app8_no gt gb cap a t ad n c w h ok hn hs).mono fun e w' he => ⟨he.1, gb, ⟨cap, a, he.2.1⟩, he.2.2, .inl rfl⟩
  · rw [if_neg hn]
    exact app8_yes gt gb cap a t ad n c bs w h ok hB hnil hn
end Go.Proofs.Ytfbelaalmdcaaaa

/-
  The contracts of package wal's Sync and Write.
-/
namespace Go.Proofs.Ytfbelaalmdcaaaa
open Go.RowKit
set_option linter.unusedVariables false
section
variable {B : Nat} {gl gc gt gb : Nat} {a : Option Addr} {cap : Nat} {ms : List Rm} {wa : Option Addr} {wc : Nat} {bs : List UInt8} {g : Lg}
set_option maxRecDepth 8000 in
set_option maxHeartbeats 1600000 in
theorem sync9_any (w : World) (h : LV B w gl gc gt gb a cap ms wa wc bs g) (hon : g.on ≤ g.l.length) (hsz : g.l.length ≤ 100000) :
    Calls Try.prog 26 #[.pointer (some ⟨gl, 0, none⟩)] w fun e w' => e = .returned (.int .i64 0) ∧ LV B w' gl gc gt gb a cap ms wa wc bs g.sync ∧ Tn (FC gl gc gt gb a wa) w w' := by
  have H := hide h
  have hlen := h.len
  have c1 := h.c1
  clear h
  have HSY := hide (fun (w1 : World) (ht1 : TpAt w1 gt gb g.t.sync) (hT1 : Turn gt gb w w1) => And.intro (H.out.turnT hT1 ht1 (.inl rfl)) (hT1.tn.weak (G := FC gl gc gt gb a wa) (fun k hk => by rcases hk with hk | hk; exact .inr (.inr (.inl hk)); exact .inr (.inr (.inr (.inl hk))))))
  unfold Lg.sync
  by_cases h0 : 0 < g.on
  · rw [if_pos h0]
    obtain ⟨b, off, rfl, -⟩ := H.out.recs.lsnAt (i := g.on - 1) (by omega)
    have hgd : (g.l.getD (g.on - 1) Rec.zero).l = (ms.getD (g.on - 1) rcZ).1.l := by rw [← H.out.same, msR_get]
    rw [hgd]
    have h0' : (0 : Int) < (g.on : Int) := by omega
    obtain ⟨j, hj⟩ : ∃ j, g.on = j + 1 := ⟨g.on - 1, by omega⟩
    rw [show g.on - 1 = j by omega] at hgd ⊢
    obtain ⟨L, hL⟩ : ∃ L, L = (ms.getD j rcZ).1.l := ⟨_, rfl⟩
    rw [← hL]
    have HL := hide hL
    have hcap := H.out.recs.cap
    have HJ := hide hj
    have e1 : (g.on : Int) - 1 = (j : Int) := by omega
    have e2 : (j : Int) < (g.l.length : Int) := by omega
    clear hgd hj hL
    go_enter Try.func26, Try.ntmps26
    go_wp2_with fail
    refine (hastape9 gl gt w c1).mono ?_
    rintro e w0 ⟨rfl, rfl⟩
    go_wp2_with fail
    refine (sync8_any gt gb g.t w H.out.tape).mono ?_
    rintro e w1 ⟨rfl, ht1, hT1⟩
    have H1 := hide (HSY.out w1 ht1 hT1)
    clear ht1 hT1 H c1 HSY
    have c2 : w1.cell? ⟨gl, 2, none⟩ = some (.slice (some ⟨b, off, none⟩) g.l.length cap) := H1.out.1.c2
    have c3 : w1.cell? ⟨gl, 3, none⟩ = some (.int .i64 (g.fa : Int)) := H1.out.1.c3
    have c4 : w1.cell? ⟨gl, 4, none⟩ = some (.int .i64 (g.on : Int)) := H1.out.1.c4
    have c6 : w1.cell? ⟨gl, 6, none⟩ = some (.int .u64 (g.du : Int)) := H1.out.1.c6
    have f3 := H1.out.1.log.free 3
    have f6 := H1.out.1.log.free 6
    obtain ⟨b', off', eb, hcell⟩ := H1.out.1.recs.lsnAt (i := j) (by have := HJ.out; omega)
    injection eb with eb
    injection eb with eb1 eb2
    subst eb1 eb2
    rw [← HL.out] at hcell
    have hbw : b ≠ gl := fun e => H1.out.1.all.la ⟨off, by rw [e]⟩
    go_wp2_with fail
    go_region
    go_wp2
    go_ret
    refine ⟨rfl, H1.out.1.put (((Tn.refl (Is gl) w1).set gl 3 _ rfl).set gl 6 _ rfl).drew ?_ rfl rfl H1.out.1.recs H1.out.1.all.la H1.out.1.same H1.out.1.wait H1.out.1.all.lw H1.out.1.apart, ((H1.out.2.set gl 3 _ (.inl rfl)).set gl 6 _ (.inl rfl)).drew⟩
    exact (H1.out.1.log.set 3 _).set 6 _
  · rw [if_neg h0]
    have h0' : ¬ (0 : Int) < (g.on : Int) := by omega
    go_enter Try.func26, Try.ntmps26
    go_wp2_with fail
    refine (hastape9 gl gt w c1).mono ?_
    rintro e w0 ⟨rfl, rfl⟩
    go_wp2_with fail
    refine (sync8_any gt gb g.t w H.out.tape).mono ?_
    rintro e w1 ⟨rfl, ht1, hT1⟩
    have H1 := hide (HSY.out w1 ht1 hT1)
    clear ht1 hT1 H c1 HSY
    have c3 : w1.cell? ⟨gl, 3, none⟩ = some (.int .i64 (g.fa : Int)) := H1.out.1.c3
    have c4 : w1.cell? ⟨gl, 4, none⟩ = some (.int .i64 (g.on : Int)) := H1.out.1.c4
    have f3 := H1.out.1.log.free 3
    go_wp2
    go_ret
    refine ⟨rfl, H1.out.1.put ((Tn.refl (Is gl) w1).set gl 3 _ rfl) ?_ rfl rfl H1.out.1.recs H1.out.1.all.la H1.out.1.same H1.out.1.wait H1.out.1.all.lw H1.out.1.apart, H1.out.2.set gl 3 _ (.inl rfl)⟩
    exact H1.out.1.log.set 3 _
/-- The waiting bytes, as the tape's Append takes them. -/
theorem WB.isB {w : World} (h : WB B w wa wc bs) : IsB w wa bs.length bs ∧ (wa = none → wc = 0) := by
  obtain ⟨a', c', e, _, hB⟩ := shape_isB h
  injection e with e1 e2 e3
  subst e1
  refine ⟨hB, fun hn => ?_⟩
  rcases h.2 with ⟨e, h0⟩ | ⟨k, c, cur, e, _⟩
  · injection e
  · injection e with e1
    rw [hn] at e1
    cases e1
set_option maxRecDepth 8000 in
set_option maxHeartbeats 1600000 in
theorem write9_any (w : World) (h : LV B w gl gc gt gb a cap ms wa wc bs g) (ok : g.ok) (hbs : bs = framesB (g.l.drop g.on)) :
    Calls Try.prog 25 #[.pointer (some ⟨gl, 0, none⟩)] w fun e w' => e = .returned (.int .i64 0) ∧ ∃ gb', LV B w' gl gc gt gb' a cap ms none 0 [] g.write ∧ Tn (FC gl gc gt gb a wa) w w' ∧ (gb' = gb ∨ w.heap.size ≤ gb') := by
  have H := hide h
  have hroom := ok.room
  have hmm := ok.tok.room
  have hu : g.used = g.t.b.size + (framesB (g.l.drop g.on)).length := rfl
  rw [hu, ← hbs] at hroom
  have HAP := hide (show g.t.app ⟨bs.toArray⟩ = (g.write.t, 0) from by
    have e := g.write_app ok
    rw [hbs]
    show g.t.app (bytesS (g.l.drop g.on)) = _
    rw [e]
    unfold Lg.write
    rw [e])
  have HIB := hide h.drew.wait.isB
  have HOK := hide ok
  have c1 := h.c1
  have c2 := h.c2
  have c5 := h.c5
  have hn : bs.length ≤ 70000 := by omega
  clear h ok hbs hu
  obtain ⟨wn, hwn⟩ : ∃ wn, wn = bs.length := ⟨_, rfl⟩
  rw [← hwn] at HIB c5 hn
  have HWN := hide hwn
  clear hwn hroom
  go_enter Try.func25, Try.ntmps25
  go_wp2_with fail
  refine (hastape9 gl gt w c1).mono ?_
  rintro e w0 ⟨rfl, rfl⟩
  go_wp2_with fail
  go_region_held3 (fun x => x.cell? ⟨gl, 1, none⟩ = some (.pointer (some ⟨gt, 0, none⟩)) ∧ x.cell? ⟨gl, 5, none⟩ = some (.slice wa wn wc)) (go_keep)
    (first
      | (go_at_call 45; with_reducible refine (app8_any gt gb g.t wa wn wc bs w.drew H.out.drew.tape HOK.out.tok HIB.out.1 HIB.out.2 hn).mono ?_; rw [HAP.out]; rintro e w1 ⟨rfl, gb', ht1, hT1, hb1⟩; have H1 := hide (And.intro (H.out.drew.turnT hT1 ht1 hb1) (And.intro hT1 hb1)); have c1 := H1.out.1.c1; have c5 : w1.cell? ⟨gl, 5, none⟩ = some (.slice wa wn wc) := (by rw [HWN.out]; exact H1.out.1.c5)))
  clear c1 c2 c5 ht1 hT1 hb1
  have c2 : w1.cell? ⟨gl, 2, none⟩ = some (.slice a g.l.length cap) := H1.out.1.c2
  have c4 : w1.cell? ⟨gl, 4, none⟩ = some (.int .i64 (g.on : Int)) := H1.out.1.c4
  have c5 : w1.cell? ⟨gl, 5, none⟩ = some (.slice wa wn wc) := by rw [HWN.out]; exact H1.out.1.c5
  have f4 := H1.out.1.log.free 4
  have f5 := H1.out.1.log.free 5
  go_wp2
  go_ret
  have hT : Tn (FC gl gc gt gb a wa) w w1 := ((Tn.refl _ w).drew).then (H1.out.2.1.tn.weak (G := FC gl gc gt gb a wa) (fun k hk => by rcases hk with hk | hk; exact .inr (.inr (.inl hk)); exact .inr (.inr (.inr (.inl hk)))))
  refine ⟨rfl, gb', H1.out.1.put (((Tn.refl (Is gl) w1).set gl 5 _ rfl).set gl 4 _ rfl) ?_ rfl rfl H1.out.1.recs H1.out.1.all.la H1.out.1.same (WB.nil B w1) (fun hk => by obtain ⟨_, e⟩ := hk; cases e) (fun hk => by obtain ⟨_, e⟩ := hk; cases e), (hT.set gl 5 _ (.inl rfl)).set gl 4 _ (.inl rfl), H1.out.2.2⟩
  exact (H1.out.1.log.set 5 _).set 4 _
end
end Go.Proofs.Ytfbelaalmdcaaaa

/-
  The contracts of the code's Chop and Crash.
-/
namespace Go.Proofs.Ytfbelaalmdcaaaa
open Go.RowKit
set_option linter.unusedVariables false

/-- A tape of which the first bytes are left alone. -/
theorem TpV.first {w : World} {gt gb cap : Nat} {a : Option Addr} {t : Tp} (h : TpV w gt gb cap a t) (n : Nat) (hn : n ≤ t.b.size) : TpV (w.setCell ⟨gt, 0, none⟩ (.slice a n cap)) gt gb cap a { t with b := t.b.extract 0 n } := by
  have hz : (t.b.extract 0 n).size = n := by rw [ByteArray.size_extract]; omega
  have hd : (t.b.extract 0 n).data.toList = t.b.data.toList.take n := by
    have e := extract_eq t.b 0 n (by omega)
    rw [Nat.zero_add] at e
    rw [e]
    simp
  refine ⟨?_, ?_, h.2.2⟩
  · show RowAt _ gt _ #[.slice a (t.b.extract 0 n).size cap, _, _, _]
    rw [hz]
    exact RowAt.set h.1 0 _
  · show World.ownsRow _ 0 _ 1 (.slice a (t.b.extract 0 n).size cap) (t.b.extract 0 n).size (toV (t.b.extract 0 n).data.toList)
    rw [hz, hd]
    rcases h.own with ⟨rfl, _, h2, rfl⟩ | ⟨rfl, h2, h3, h4, h5, cur, h6, h7, h8⟩
    · obtain rfl : n = 0 := by omega
      exact World.ownsRow_nil _ _ _ _
    · refine ⟨by rw [toV_length, List.length_take, data_length]; omega, .inr ⟨gb, cap, cur, rfl, Nat.zero_le _, (heap_setCell_other w ⟨gt, 0, none⟩ gb _ (fun e => h2 e.symm)).trans h6, by omega, h5, by simpa using h7, ?_⟩⟩
      rw [Nat.mul_one]
      have e : toV (t.b.data.toList.take n) = (toV t.b.data.toList).take n := by simp [toV, List.map_take]
      rw [e, ← h8, List.take_take]
      congr 1
      omega

set_option maxRecDepth 4000 in
set_option maxHeartbeats 800000 in
theorem chop8_no (gt gb : Nat) (t : Tp) (n : Int) (w : World) (h : TpAt w gt gb t) (hn : n < 0 ∨ (t.b.size : Int) < n) :
    Calls Try.prog 31 #[.pointer (some ⟨gt, 0, none⟩), .int .i64 n] w fun e w' => e = .returned (.int .i64 1) ∧ w = w' := by
  obtain ⟨cap, a, h⟩ := h
  have c0 := h.1.cell 0 _ rfl
  clear h
  by_cases h1 : n < 0
  · clear hn
    go_enter Try.func31, Try.ntmps31
    go_wp2
    go_ret
    exact ⟨rfl, rfl⟩
  · have h2 : (t.b.size : Int) < n := by omega
    clear hn
    go_enter Try.func31, Try.ntmps31
    go_wp2
    go_ret
    exact ⟨rfl, rfl⟩

set_option maxRecDepth 4000 in
set_option maxHeartbeats 800000 in
theorem chop8_yes (gt gb : Nat) (t : Tp) (n : Nat) (w : World) (h : TpAt w gt gb t) (ok : t.ok) (hn : n ≤ t.b.size) :
    Calls Try.prog 31 #[.pointer (some ⟨gt, 0, none⟩), .int .i64 (n : Int)] w fun e w' => e = .returned (.int .i64 0) ∧ TpAt w' gt gb ⟨t.b.extract 0 n, min t.f n, t.m, t.s⟩ ∧ Turn gt gb w w' := by
  obtain ⟨cap, a, h⟩ := h
  have H := hide h
  have c0 := h.1.cell 0 _ rfl
  have c1 := h.1.cell 1 _ rfl
  have f0 := h.1.free 0
  have f1 := h.1.free 1
  have hz := ok.few
  have hy := ok.room
  have hx := ok.fast
  have hcap : t.b.size ≤ cap := by
    rcases h.own with ⟨_, _, h2, _⟩ | ⟨_, _, _, h2, _⟩ <;> omega
  have h1 : ¬ (n : Int) < 0 := by omega
  have h2 : ¬ (t.b.size : Int) < (n : Int) := by omega
  have h3 : (n : Int) ≤ (cap : Int) := by omega
  clear h ok
  go_enter Try.func31, Try.ntmps31
  go_wp2
  all_goals
    go_ret
    exact ⟨rfl, ⟨cap, a, (H.out.first n hn).setf _ _ (by omega)⟩, ((Turn.refl gt gb w).set 0 _).set 1 _⟩
theorem chop8_any (gt gb : Nat) (t : Tp) (n : Int) (w : World) (h : TpAt w gt gb t) (ok : t.ok) :
    Calls Try.prog 31 #[.pointer (some ⟨gt, 0, none⟩), .int .i64 n] w fun e w' => e = .returned (.int .i64 (t.chop n).2) ∧ TpAt w' gt gb (t.chop n).1 ∧ Turn gt gb w w' := by
  unfold Tp.chop
  by_cases hn : n < 0 ∨ (t.b.size : Int) < n
  · rw [if_pos hn]
    refine (chop8_no gt gb t n w h hn).mono ?_
    rintro e w' ⟨rfl, rfl⟩
    exact ⟨rfl, h, Turn.refl _ _ _⟩
  · rw [if_neg hn]
    obtain ⟨m, rfl⟩ := Int.eq_ofNat_of_zero_le (show 0 ≤ n by omega)
    exact chop8_yes gt gb t m w h ok (by omega)
end Go.Proofs.Ytfbelaalmdcaaaa

/-
  'copy' between slices, by what the operation answers. Of no program.
-/
namespace Go.Proofs.Ytfbelaalmdcaaaa
open Go.RowKit
set_option linter.unusedVariables false

theorem wpList_copy_run {P : Program} {ops : Array Oper} {rest : List Oper} {o : Oper} {a : Act} {w w' : World} {Q : Exit → Act → World → Prop} (hgd : o.guard = none) (d x : Operand) (t u : TypeId) (hop : o.op = Op.call { callee := Callee.builtin Builtin.copy, args := #[d, x], argTypes := #[t, u] })
    (vd vx v' : Value) (hs : a.eval d = vd) (hx : a.eval x = vx) (hrun : (Builtin.copy_ #[t, u] o.type #[vd, vx]).run P w = .ok v' w') (h : wpList P ops Q rest (a.put o.dst v') w') : wpList P ops Q (o :: rest) a w := by
  refine wpList_plain hgd fun K hK => ?_
  unfold Oper.wp
  simp [execOp, hop, resolve, invoke, builtin, hs, hx, hrun, Result.andThen]
  exact hK _ _ h

/-- Bytes copied into a row that was made for them. -/
theorem run_copy_made {P : Program} (w x : World) (t ty e : TypeId) (ht : P.underlying t = some (.slice e)) (hi : (P.info? e).map (·.size) = some 1) (g n : Nat) (hb : Below w.heap.size w x) (hg : w.heap.size ≤ g) (hr : x.heap[g]? = some (.cells (zrow n).toArray e (0, 0))) (a : Option Addr) (c : Nat) (bs : List UInt8) (hB : IsB x a n bs) (hm : n ≤ maxLen) :
    ∃ w', (Builtin.copy_ #[t, t] ty #[.slice (some ⟨g, 0, none⟩) n n, .slice a n c]).run P x = .ok (.int .i64 (n : Int)) w' ∧ w'.ownsRow w.heap.size e 1 (.slice (some ⟨g, 0, none⟩) n n) n (toV bs) ∧ Below w.heap.size w w' := by
  have hl := hB.1
  rcases Nat.eq_zero_or_pos n with rfl | hn
  · obtain rfl : bs = [] := List.eq_nil_of_length_eq_zero hl
    exact ⟨x, run_copy_none (P := P) x t t ty e _ _ 0 0 0 c ht hi rfl, ⟨rfl, .inr ⟨g, 0, _, rfl, hg, hr, Nat.le_refl _, hm, rfl, rfl⟩⟩, hb⟩
  · obtain ⟨b, off, rfl, _, hc⟩ := hB.2 hn
    have r1 := run_copy_row P x t t ty e g 0 n n ⟨b, off, none⟩ n c (zrow n).toArray e (toV bs) ht hi hr (by rw [toV_length, hl]; exact (Nat.min_self n).symm) (fun j v hv => by
      obtain ⟨h1, rfl⟩ := toV_some bs j v hv
      rw [Addr.add_lit]
      exact hc j (by omega)) (by rw [toV_length, hl]; simp [zrow]) (toV_one bs)
    rw [toV_length, hl] at r1
    refine ⟨_, r1, ⟨by rw [toV_length, hl, Nat.mul_one], .inr ⟨g, n, _, rfl, hg, setRow_heap x g _ _ e _ hr, Nat.le_refl _, hm, ?_, ?_⟩⟩, below_setRow hb hg _⟩
    · simp [zrow, toV_length, hl]
    · rw [Nat.mul_one]
      simp only [List.take_zero, List.nil_append]
      have e2 : n = (toV bs).length := by rw [toV_length, hl]
      rw [e2]
      exact List.take_left
/-- .. as one step of a region that draws its order. -/
theorem step_copy_run {P : Program} {ops : Array Oper} {o : Oper} {a : Act} {w : World} {K : Act → World → Prop} {Q : Exit → Act → World → Prop} {E : Prop}
    (hg : o.guard = none) (d x : Operand) (t u : TypeId) (hop : o.op = Op.call { callee := Callee.builtin Builtin.copy, args := #[d, x], argTypes := #[t, u] })
    (vd vx v' : Value) (w' : World) (hs : a.eval d = vd) (hx : a.eval x = vx) (hrun : (Builtin.copy_ #[t, u] o.type #[vd, vx]).run P w = .ok v' w') (hK : K (a.put o.dst v') w') :
    if Region.wanted o (yielded ops a.tmps) = true then Oper.wp P o a w K Q else E := by
  have hw : Region.wanted o (yielded ops a.tmps) = true := by simp [Region.wanted, hg]
  rw [if_pos hw]
  unfold Oper.wp
  simp [execOp, hop, resolve, invoke, builtin, hs, hx, hrun, Result.andThen]
  exact hK
end Go.Proofs.Ytfbelaalmdcaaaa

/-
  The contract of the code's Bytes.
-/
namespace Go.Proofs.Ytfbelaalmdcaaaa
open Go.RowKit
set_option linter.unusedVariables false

theorem TpV.isB {w : World} {gt gb cap : Nat} {a : Option Addr} {t : Tp} (h : TpV w gt gb cap a t) : IsB w a t.b.size t.b.data.toList := by
  rcases h.own with ⟨rfl, _, h2, rfl⟩ | ⟨rfl, _⟩
  · have hd : t.b.data.toList = [] := List.eq_nil_of_length_eq_zero (by rw [data_length, h2])
    rw [h2, hd]
    exact IsB.nil w
  · exact h.2.1.isB (data_length _)

set_option maxRecDepth 4000 in
set_option maxHeartbeats 800000 in
theorem bytes8_any (gt gb : Nat) (t : Tp) (w : World) (h : TpAt w gt gb t) (ok : t.ok) :
    Calls Try.prog 27 #[.pointer (some ⟨gt, 0, none⟩)] w fun e w' => ∃ v, e = .returned v ∧ w'.ownsRow w.heap.size 5 1 v t.b.size (toV t.b.data.toList) ∧ Below w.heap.size w w' := by
  obtain ⟨cap, a, h⟩ := h
  have hz := ok.few
  have hy := ok.room
  have hmk := fun w => run_mkn (P := Try.prog) 60 5 Try.underlying60 info8 t.b.size (by omega) w
  have hb : Below w.heap.size w (w.alloc (.cells (zrow t.b.size).toArray 5)) := (Below.refl _ _).alloc (Nat.le_refl _) _
  obtain ⟨w2, q1, q2, q3⟩ := run_copy_made (P := Try.prog) w (w.alloc (.cells (zrow t.b.size).toArray 5)) 60 3 5 Try.underlying60 info8s w.heap.size t.b.size hb (Nat.le_refl _) (heap_alloc_new w _) a cap t.b.data.toList (h.isB.below hb) (by unfold maxLen; omega)
  have c0 := h.1.cell 0 _ rfl
  have c1 := (h.1.later hb).cell 0 _ rfl
  have HR := hide (And.intro q2 q3)
  clear h ok hb q2 q3
  go_enter Try.func27, Try.ntmps27
  go_wp2_with (at_builtin; refine wpList_copy_run rfl (.tmp 12) (.tmp 16) 60 60 rfl _ _ _ rfl rfl q1 ?_)
  go_ret
  exact ⟨_, rfl, HR.out⟩
end Go.Proofs.Ytfbelaalmdcaaaa

/-
  The contract of package wal's Open.
-/
namespace Go.Proofs.Ytfbelaalmdcaaaa
open Go.RowKit
set_option linter.unusedVariables false

theorem last_get9 (l : List Rec) : lastL 0 l = if 0 < l.length then (l.getD (l.length - 1) Rec.zero).l else 0 := by
  by_cases h : 0 < l.length
  · rw [if_pos h]
    have e := last_take l 0 (l.length - 1) (by omega)
    rw [Nat.sub_add_cancel h, List.take_length] at e
    exact e
  · rw [if_neg h]
    have : l = [] := List.eq_nil_of_length_eq_zero (by omega)
    rw [this]
    rfl
set_option maxRecDepth 4000 in
set_option maxHeartbeats 400000 in
theorem open9_nil (base : Nat) (w : World) : Calls Try.prog 13 #[.pointer none, .int .u64 (base : Int)] w fun e w' => e = .returned (.tuple #[.pointer none, .int .i64 1]) ∧ w = w' := by
  go_enter Try.func13, Try.ntmps13
  go_wp2
  go_ret2
  exact ⟨rfl, rfl⟩
set_option maxRecDepth 8000 in
set_option maxHeartbeats 1600000 in
theorem open9_any (B gt gb : Nat) (w : World) (t : Tp) (base : Nat) (h : TpAt w gt gb t) (ok : t.ok) (hgt : B ≤ gt) (hgb : B ≤ gb) (hbase : base < 18446744073709551616) :
    Calls Try.prog 13 #[.pointer (some ⟨gt, 0, none⟩), .int .u64 (base : Int)] w fun e x' => ∃ gl F', e = .returned (.tuple #[.pointer (some ⟨gl, 0, none⟩), .int .i64 0]) ∧ LAc B gt gl x' F' (Lg.open t base) ∧ Tn (fun k => k = gt ∨ k = gb) w x' ∧ (∀ k, F' k → k = gt ∨ k = gb ∨ w.heap.size ≤ k) ∧ w.heap.size ≤ gl := by
  have hlt := h.lt
  have hsz : t.b.size ≤ 65536 := Nat.le_trans ok.few ok.room
  have H := hide h
  have HOK := hide ok
  have HS := hide (scan_facts t.b.data.toList)
  have hdl : t.b.data.toList.length = t.b.size := by rw [Array.length_toList]; rfl
  clear h ok
  go_enter Try.func13, Try.ntmps13
  go_wp2_with fail
  refine (bytes8_any gt gb t w H.out HOK.out).mono ?_
  rintro e w1 ⟨v, rfl, ho, hb1⟩
  obtain ⟨a0, c0, rfl, hc0, hB0⟩ := shape_isB ho
  have H1 := hide (And.intro (H.out.later hb1) (And.intro hb1 (And.intro hB0 hc0)))
  clear ho hb1 hB0 hc0
  go_wp2_with fail
  refine (scan7_any a0 t.b.size c0 t.b.data.toList w1 H1.out.2.2.1 (by omega) H1.out.2.2.2).mono ?_
  rintro e w2 ⟨v, ms, rfl, hms, ho, hgot, hb2⟩
  obtain ⟨a, cap, rfl, hrb, hblk⟩ := RB.own (B := B) (Nat.le_trans (Nat.le_trans hgt (Nat.le_of_lt hlt.1)) H1.out.2.1.size) ho hgot
  have hml : ms.length = (scanL t.b.data.toList).1.length := by rw [← hms]; simp [msR]
  have H2 := hide (show TpAt w2 gt gb t ∧ Below w.heap.size w w2 ∧ RB B w2 a cap ms ∧ (∀ k, blk a k → w.heap.size ≤ k) from ⟨H1.out.1.later hb2, H1.out.2.1.trans (hb2.mono H1.out.2.1.size), hrb, fun k hk => Nat.le_trans H1.out.2.1.size (hblk k hk)⟩)
  have HMS := hide (And.intro hms hml)
  clear ho hgot hb2 hrb hblk hms hml H1
  generalize hsc : scanL t.b.data.toList = sc at *
  obtain ⟨rs, N⟩ := sc
  have HSC := hide hsc
  clear hsc
  simp only at HMS HS ⊢
  obtain ⟨ln, hln⟩ : ∃ ln, ln = ms.length := ⟨_, rfl⟩
  rw [← hln] at HMS ⊢
  have HLN := hide hln
  clear hln
  have hl6 : ln ≤ 20000 := by
    have h1 := framesB_long rs
    have h2 := congrArg List.length HS.out.2.1
    rw [List.length_take] at h2
    have h3 : rs.length = ln := HMS.out.2.symm
    omega
  go_wp2_with fail
  refine (chop8_any gt gb t (N : Int) w2 H2.out.1 HOK.out).mono ?_
  rintro e w3 ⟨rfl, ht3, hT3⟩
  generalize hch : t.chop (N : Int) = ch at *
  obtain ⟨t2, e2⟩ := ch
  have HCH := hide hch
  clear hch
  simp only at ht3 ⊢
  have hq : Tn (fun k => k = gt ∨ k = gb) w2 w3 := hT3.tn
  have hlo2 : Loose B w2 (fun k => k = gt ∨ k = gb) := fun k hk => by
    obtain ⟨⟨c1, t1⟩, t2⟩ := H2.out.1.kind
    rcases hk with rfl | rfl
    · exact ⟨hgt, t1.lt, fun ty cs hrow => by rw [row_kind hrow t1]; decide⟩
    · rcases t2 with rfl | ⟨c2, t2⟩
      · exact ⟨hgt, t1.lt, fun ty cs hrow => by rw [row_kind hrow t1]; decide⟩
      · exact ⟨hgb, t2.lt, fun ty cs hrow => by rw [row_kind hrow t2]; decide⟩
  have H3 := hide (show TpAt w3 gt gb t2 ∧ Tn (fun k => k = gt ∨ k = gb) w w3 ∧ RB B w3 a cap ms ∧ (∀ k, blk a k → w.heap.size ≤ k) from ⟨ht3, (Tn.of_below H2.out.2.1).then hq, H2.out.2.2.1.keep hlo2 hq (fun k hk e => by
    have h1 := H2.out.2.2.2 k hk
    rcases e with e | e
    · omega
    · omega), H2.out.2.2.2⟩)
  clear ht3 hT3 hq hlo2 H2
  go_wp2_with fail
  refine (new_any base w3 hbase).mono ?_
  rintro e w4 ⟨gc, rfl, hgc, hc4, hb4⟩
  have H4 := hide (show TpAt w4 gt gb t2 ∧ Tn (fun k => k = gt ∨ k = gb) w w4 ∧ RB B w4 a cap ms ∧ ClkAt w4 gc (min base maxL) ∧ w.heap.size ≤ gc from ⟨H3.out.1.later hb4, H3.out.2.1.later hb4, H3.out.2.2.1.later hb4, hc4, Nat.le_trans H3.out.2.1.size hgc⟩)
  have HBK := hide H3.out.2.2.2
  clear hgc hc4 hb4 H3
  have hbx : Below w4.heap.size w4 (w4.alloc (.cells #[.pointer (some ⟨gc, 0, none⟩), .pointer (some ⟨gt, 0, none⟩), .slice a ln cap, .int .i64 0, .int .i64 (ln : Int), .slice none 0 0, .int .u64 0, .int .i64 0] 66)) := (Below.refl _ _).alloc (Nat.le_refl _) _
  have hrl : rs.length = ln := HMS.out.2.symm
  have H5 := hide (show LV B (w4.alloc (.cells #[.pointer (some ⟨gc, 0, none⟩), .pointer (some ⟨gt, 0, none⟩), .slice a ln cap, .int .i64 0, .int .i64 (ln : Int), .slice none 0 0, .int .u64 0, .int .i64 0] 66)) w4.heap.size gc gt gb a cap ms none 0 [] ⟨t2, min base maxL, rs, ln, 0, 0, 0⟩ ∧ Tn (fun k => k = gt ∨ k = gb) w (w4.alloc (.cells #[.pointer (some ⟨gc, 0, none⟩), .pointer (some ⟨gt, 0, none⟩), .slice a ln cap, .int .i64 0, .int .i64 (ln : Int), .slice none 0 0, .int .u64 0, .int .i64 0] 66)) from
    ⟨⟨Nat.le_trans hgt (Nat.le_trans (Nat.le_of_lt hlt.1) H4.out.2.1.size), Nat.le_trans hgt (Nat.le_trans (Nat.le_of_lt hlt.1) H4.out.2.2.2.2), hgt, hgb, (by
      show RowAt _ _ _ #[.pointer (some ⟨gc, 0, none⟩), .pointer (some ⟨gt, 0, none⟩), .slice a rs.length cap, .int .i64 0, .int .i64 (ln : Int), .slice none 0 0, .int .u64 0, .int .i64 0]
      rw [hrl]
      exact RowAt.new w4 _ _), ⟨H4.out.2.2.2.1.1, RowAt.later H4.out.2.2.2.1.2 hbx⟩, H4.out.1.later hbx, H4.out.2.2.1.later hbx, HMS.out.1, WB.nil B _, fun hk => by obtain ⟨_, e⟩ := hk; cases e⟩, H4.out.2.1.later hbx⟩)
  have HSZ := hide (And.intro H4.out.2.1.size H4.out.2.2.2.2)
  clear hbx H4
  go_wp2_with fail
  refine gen_calls (fun y => Hid (LV B y w4.heap.size gc gt gb a cap ms none 0 [] ⟨t2, min base maxL, rs, ln, 0, 0, 0⟩ ∧ Tn (fun k => k = gt ∨ k = gb) w y)) H5 ?_
  clear H5
  intro y H5
  obtain ⟨gl, hgl⟩ : ∃ gl, gl = w4.heap.size := ⟨_, rfl⟩
  rw [← hgl] at H5 HSZ ⊢
  clear hgl
  have hS6 := sync9_any y H5.out.1 (by show ln ≤ rs.length; omega) (by show rs.length ≤ 100000; omega)
  refine hS6.mono ?_
  rintro e w6 ⟨rfl, h6, hT6⟩
  obtain ⟨du, hdu⟩ : ∃ du, du = if 0 < ln then (rs.getD (ln - 1) Rec.zero).l else 0 := ⟨_, rfl⟩
  have h6' : LV B w6 gl gc gt gb a cap ms none 0 [] ⟨t2.sync, min base maxL, rs, ln, ln, 0, du⟩ := by
    rw [hdu]
    exact h6
  have hnew : ∀ k, FC gl gc gt gb a none k → (k = gt ∨ k = gb) ∨ w.heap.size ≤ k := fun k hk => by
    rcases hk with hk | hk | hk | hk | hk | hk
    · exact .inr (by rw [hk]; exact HSZ.out.1)
    · exact .inr (by rw [hk]; exact HSZ.out.2)
    · exact .inl (.inl hk)
    · exact .inl (.inr hk)
    · exact .inr (HBK.out k hk)
    · obtain ⟨_, e⟩ := hk
      cases e
  have H6 := hide (And.intro h6' (And.intro (H5.out.2.trans hT6 hnew) hnew))
  have HDU := hide hdu
  clear hS6 h6 hT6 h6' hnew hdu H5
  have hdl2 : du < 18446744073709551616 := by
    have h1 := last_max rs 0 HS.out.1 (Nat.zero_le _)
    rw [last_get9, hrl, ← HDU.out] at h1
    unfold maxL at h1
    omega
  have k0 := H6.out.1.c0
  have k6 : w6.cell? ⟨gl, 6, none⟩ = some (.int .u64 (du : Int)) := H6.out.1.c6
  have HSEE := hide (see_any gc (min base maxL) du w6.drew H6.out.1.drew.clock hdl2)
  go_wp2_with fail
  go_region_held3 (fun x => x.cell? ⟨gl, 0, none⟩ = some (.pointer (some ⟨gc, 0, none⟩)) ∧ x.cell? ⟨gl, 6, none⟩ = some (.int .u64 (du : Int))) (go_keep)
    (first | (go_at_call 33; with_reducible refine HSEE.out.mono ?_; rintro e w7 ⟨rfl, hc7, hg7⟩; have hT7 : Tn (Is gc) w6.drew w7 := Tn.of_grown hg7 (fun k hk => by injection hk with hk; unfold Is; exact hk.symm); have H7 := hide (And.intro (H6.out.1.drew.turnC hT7 hc7) hT7); have k0 := H7.out.1.c0; have k6 : w7.cell? ⟨gl, 6, none⟩ = some (.int .u64 (du : Int)) := H7.out.1.c6))
  clear hc7 hg7 hT7 k0 k6 HSEE
  go_wp2
  go_ret2
  have hlast : lastL 0 rs = du := by rw [last_get9, hrl, HDU.out]
  have hop : Lg.open t base = ⟨t2.sync, max (min base maxL) (min du maxL), rs, ln, ln, 0, du⟩ := by
    unfold Lg.open
    rw [HSC.out]
    simp only
    rw [HCH.out, hlast, hrl, Nat.zero_max]
  rw [hop]
  refine ⟨gl, FC gl gc gt gb a none, rfl, ⟨gc, gb, a, cap, ms, none, 0, ?_, rfl⟩, (H6.out.2.1.drew).trans H7.out.2 (fun k hk => ?_), fun k hk => ?_, HSZ.out.1⟩
  · have e : framesB (rs.drop ln) = [] := by rw [← hrl, List.drop_length]; rfl
    show LV B w7 gl gc gt gb a cap ms none 0 (framesB (rs.drop ln)) _
    rw [e]
    exact H7.out.1
  · exact .inr (by rw [show k = gc from hk]; exact HSZ.out.2)
  · rcases H6.out.2.2 k hk with (h1 | h1) | h1
    · exact .inl h1
    · exact .inr (.inl h1)
    · exact .inr (.inr h1)
end Go.Proofs.Ytfbelaalmdcaaaa

/-
  Lists put behind lists, by what the operation answers, inside a fence. Of no program.
-/
namespace Go.Proofs.Ytfbelaalmdcaaaa
open Go.RowKit
set_option linter.unusedVariables false

theorem wpListIn_append_run {F : Fence} {n : Nat} {P : Program} {ops : Array Oper} {rest : List Oper} {o : Oper} {a : Act} {w w' : World} {Q : Exit → Act → World → Prop} (hw : Region.wanted o (yielded ops a.tmps) = true) (s x : Operand) (t : TypeId) (hop : o.op = Op.call { callee := Callee.builtin Builtin.append, args := #[s, x], argTypes := #[t, t] })
    (vs vx v' : Value) (hs : a.eval s = vs) (hx : a.eval x = vx) (hrun : (Builtin.append_ #[t, t] o.type #[vs, vx]).run P w = .ok v' w') (h : wpListIn F n P ops Q rest (a.put o.dst v') w') : wpListIn F n P ops Q (o :: rest) a w :=
  wpListIn_step fun K hK => by
    simp only [hw, if_true]
    unfold Oper.wpIn
    refine ⟨?_, ?_⟩
    · simp [Oper.about, hop, resolve, Target.leads, Sem.run_pure]
    · rw [Oper.semAt_plain F _ _ (by rw [hop]; intro c hc; cases hc)]
      simp [execOp, hop, resolve, invoke, builtin, hs, hx, hrun, Result.andThen]
      exact hK _ _ h

/-- A list that lies there, put behind the call's own one. -/
theorem run_append_rows {α : Type} (f : α → Array Value) (zz : α) (sz : Nat) (hf : ∀ x, (f x).size = sz) (hsz : 0 < sz) {P : Program} (w : World) (base : Nat) (t ty e : TypeId) (z : Array Value) (by' : Nat) (ht : P.underlying t = some (.slice e))
    (hi : (P.info? e).map (fun i => (i.zero, i.size, i.bytes)) = some (some (.agg z), sz, by')) (hzs : z.size = sz) (v : Value) (n : Nat) (xs : List Value) (hown : w.ownsRow base e sz v n xs)
    (vx : Value) (ms : List α) (hr : RowsIn f zz sz w vx ms) (hnil : ∀ a len cap, vx = .slice a len cap → a = none → cap = 0) (h1 : ∀ m ∈ ms, ∀ u ∈ (f m).toList, u.oneCell' = true) (hl : n + ms.length ≤ maxLen) (hb : (n + ms.length) * by' ≤ 140737488355328) (hbase : base ≤ w.heap.size) :
    ∃ v' w', (Builtin.append_ #[t, t] ty #[v, vx]).run P w = .ok v' w' ∧ w'.ownsRow base e sz v' (n + ms.length) (xs ++ ms.flatMap fun m => (f m).toList) ∧ w.grownBy w' v.ownBlock := by
  obtain ⟨i, hi0, hi1⟩ := Option.map_eq_some_iff.1 hi
  simp only [Prod.mk.injEq] at hi1
  obtain ⟨a, cap, rfl, hc⟩ := hr
  have hlen : (ms.flatMap fun m => (f m).toList).length = ms.length * sz := by
    clear hc h1 hl hb hnil
    induction ms with
    | nil => simp
    | cons m ms ih => rw [List.flatMap_cons, List.length_append, ih, Array.length_toList, hf, List.length_cons, Nat.add_mul, Nat.one_mul, Nat.add_comm]
  cases a with
  | none =>
    obtain rfl := hnil _ _ _ rfl rfl
    have hm : ms = [] := by
      rcases ms with _ | ⟨m, ms⟩
      · rfl
      · obtain ⟨b, off, h, _⟩ := hc (by simp)
        cases h
    subst hm
    exact ⟨v, w, run_append_owned_none (P := P) w base t ty e i sz ht hi0 v n xs hown, by simpa using hown, ⟨rfl, rfl, rfl, Nat.le_refl _, fun _ _ _ => rfl⟩⟩
  | some ad =>
    obtain ⟨v', w', q1, q2, q3, _⟩ := run_append_own (P := P) w base t ty e i (.agg z) sz by' ht hi0 hi1.1 hi1.2.1 hi1.2.2 hzs hsz v n xs hown ad ms.length cap (ms.flatMap fun m => (f m).toList) hlen (fun j u hu => by
      have hj : j < ms.length * sz := by
        have := (List.getElem?_eq_some_iff.1 hu).1
        rwa [hlen] at this
      have hp : 0 < ms.length := by
        rcases Nat.eq_zero_or_pos ms.length with h | h
        · rw [h] at hj; omega
        · exact h
      obtain ⟨b, off, h2, _, h3⟩ := hc hp
      cases h2
      have hq : j / sz < ms.length := Nat.div_lt_of_lt_mul (by rw [Nat.mul_comm]; exact hj)
      have hr2 : j % sz < sz := Nat.mod_lt _ hsz
      have hjj : j / sz * sz + j % sz = j := by rw [Nat.mul_comm]; exact Nat.div_add_mod j sz
      have h4 := flat_get f sz hf zz ms (j / sz) (j % sz) hq hr2
      rw [hjj, hu] at h4
      have h5 := h3 (j / sz) hq (j % sz) u h4.symm
      rw [Addr.add_lit]
      rw [Nat.add_assoc, hjj] at h5
      exact h5) (fun u hu => by
      obtain ⟨m, hm, hu2⟩ := List.mem_flatMap.1 hu
      exact h1 m hm u hu2) hl hb hbase
    exact ⟨v', w', q1, q2, q3⟩

/-- Bytes put behind bytes whose row is full. -/
theorem run_append_full {P : Program} (w : World) (t ty e : TypeId) (ht : P.underlying t = some (.slice e)) (hi : (P.info? e).map (fun i => (i.zero, i.size, i.bytes)) = some (some (.int .u8 0), 1, 1))
    (ao : Option Addr) (lo : Nat) (xs : List UInt8) (hB : IsB w ao lo xs) (ay : Option Addr) (m c : Nat) (ys : List UInt8) (hY : IsB w ay m ys) (hn : m = 0 → ay = none ∧ c = 0) (hz : lo + m ≤ 140737488355328) :
    ∃ a' c' w', (Builtin.append_ #[t, t] ty #[.slice ao lo lo, .slice ay m c]).run P w = .ok (.slice a' (lo + m) c') w' ∧ IsB w' a' (lo + m) (xs ++ ys) ∧ lo + m ≤ c' ∧ Below w.heap.size w w' := by
  obtain ⟨i, hi0, hi1⟩ := Option.map_eq_some_iff.1 hi
  simp only [Prod.mk.injEq] at hi1
  rcases Nat.eq_zero_or_pos m with rfl | hm
  · obtain ⟨rfl, rfl⟩ := hn rfl
    obtain rfl : ys = [] := List.eq_nil_of_length_eq_zero hY.1
    refine ⟨ao, lo, w, ?_, by simpa using hB, Nat.le_refl _, Below.refl _ _⟩
    cases ao with
    | none =>
      have h0 : lo = 0 := by
        rcases Nat.eq_zero_or_pos lo with h | h
        · exact h
        · obtain ⟨b, off, hb, _⟩ := hB.2 h
          cases hb
      subst h0
      simp [Builtin.append_, run_underlying ht, sizeOf, typeInfo, hi0, Builtin.lenOf, Builtin.firstCells]
    | some b => simp [Builtin.append_, run_underlying ht, sizeOf, typeInfo, hi0, Builtin.lenOf, Builtin.firstCells, storeCells]
  · obtain ⟨b2, off2, rfl, _, _⟩ := hY.2 hm
    have fin : ∀ v' w', w'.ownsRow w.heap.size e 1 v' (lo + m) (toV xs ++ toV ys) → w.grownBy w' none → ∃ a' c', v' = .slice a' (lo + m) c' ∧ IsB w' a' (lo + m) (xs ++ ys) ∧ lo + m ≤ c' ∧ Below w.heap.size w w' := fun v' w' h1 h2 => by
      rw [← toV_append] at h1
      obtain ⟨a', c', rfl, hc, hB'⟩ := shape_isB h1
      exact ⟨a', c', rfl, hB', hc, ⟨h2.os, h2.tape, h2.output, h2.size, fun k hk => h2.block k hk (by simp)⟩⟩
    cases ao with
    | some b =>
      obtain ⟨b', off', hb', _, _⟩ | h0 : (∃ b' off', b = (⟨b', off', none⟩ : Addr) ∧ True ∧ True) ∨ lo = 0 := by
        rcases Nat.eq_zero_or_pos lo with h | h
        · exact .inr h
        · obtain ⟨b', off', hb', _⟩ := hB.2 h
          exact .inl ⟨b', off', by injection hb', trivial, trivial⟩
      · subst hb'
        obtain ⟨v', w', hrun, r1, r2⟩ := run_append_arg_grows (P := P) w t ty e i (.int .u8 0) 1 1 ht hi0 hi1.1 hi1.2.1 hi1.2.2 rfl (by omega) ⟨b', off', none⟩ lo lo (toV xs) (by rw [toV_length, hB.1, Nat.mul_one]) (isB_cells hB) ⟨b2, off2, none⟩ m c (toV ys) (by rw [toV_length, hY.1, Nat.mul_one]) (isB_cells hY) (by omega) (by unfold maxLen; omega) (by omega)
        obtain ⟨a', c', rfl, h3⟩ := fin v' w' r1 r2
        exact ⟨a', c', w', hrun, h3⟩
      · subst h0
        obtain rfl : xs = [] := List.eq_nil_of_length_eq_zero hB.1
        obtain ⟨v', w', hrun, r1, r2⟩ := run_append_arg_grows (P := P) w t ty e i (.int .u8 0) 1 1 ht hi0 hi1.1 hi1.2.1 hi1.2.2 rfl (by omega) b 0 0 (toV []) (by simp [toV]) (fun j u hu => by simp [toV] at hu) ⟨b2, off2, none⟩ m c (toV ys) (by rw [toV_length, hY.1, Nat.mul_one]) (isB_cells hY) (by omega) (by unfold maxLen; omega) (by omega)
        obtain ⟨a', c', rfl, h3⟩ := fin v' w' r1 r2
        exact ⟨a', c', w', hrun, h3⟩
    | none =>
      have h0 : lo = 0 := by
        rcases Nat.eq_zero_or_pos lo with h | h
        · exact h
        · obtain ⟨b, off, hb, _⟩ := hB.2 h
          cases hb
      subst h0
      obtain rfl : xs = [] := List.eq_nil_of_length_eq_zero hB.1
      obtain ⟨v', w', hrun, r1, r2, _⟩ := run_append_own (P := P) w w.heap.size t ty e i (.int .u8 0) 1 1 ht hi0 hi1.1 hi1.2.1 hi1.2.2 rfl (by omega) (.slice none 0 0) 0 [] (World.ownsRow_nil _ _ _ _) ⟨b2, off2, none⟩ m c (toV ys) (by rw [toV_length, hY.1, Nat.mul_one]) (isB_cells hY) (toV_one ys) (by unfold maxLen; omega) (by omega) (Nat.le_refl _)
      obtain ⟨a', c', rfl, h3⟩ := fin v' w' (by simpa [toV] using r1) r2
      exact ⟨a', c', w', hrun, h3⟩
end Go.Proofs.Ytfbelaalmdcaaaa

/-
  Pages in memory: how they are read, loaded and stored.
-/
namespace Go.Proofs.Ytfbelaalmdcaaaa
open Go.RowKit
set_option linter.unusedVariables false

theorem ne_list2 (s : ByteArray) (l : List UInt8) (h : l ≠ s.data.toList) : ((⟨l.toArray⟩ : ByteArray).toList == s.toList) = false := by
  rw [beq_eq_false_iff_ne]
  intro e
  apply h
  have e1 : ∀ b : ByteArray, b.toList = b.data.toList := fun b => ByteArray.toList_eq b
  rw [e1, e1] at e
  exact e

theorem pgA_one (q : Pg) : (pgA q).all (·.oneCell') = true := by simp [pgA, Value.oneCell']

end Go.Proofs.Ytfbelaalmdcaaaa

/-
  Eight cells as one value, and a cell: how they are loaded and indexed.
-/
namespace Go.Proofs.Ytfbelaalmdcaaaa
open Go.RowKit
set_option linter.unusedVariables false

/-- A cell's cells. -/
def ceA (u : Bool) (s : ByteArray) : Array Value := #[.bool u, .string s]
theorem ceA_one (u : Bool) (s : ByteArray) : (ceA u s).all (·.oneCell') = true := by simp [ceA, Value.oneCell']

/-- The eight cells of a page, as a value. -/
def csA (p : Pg) : Array Value := #[.bool (p.u 0), .string (p.s 0), .bool (p.u 1), .string (p.s 1), .bool (p.u 2), .string (p.s 2), .bool (p.u 3), .string (p.s 3), .bool (p.u 4), .string (p.s 4), .bool (p.u 5), .string (p.s 5), .bool (p.u 6), .string (p.s 6), .bool (p.u 7), .string (p.s 7)]
theorem csA_one (p : Pg) : (csA p).all (·.oneCell') = true := by simp [csA, Value.oneCell']
theorem csA_ext (p : Pg) : ((pgA p).extract 1 (1 + 16)).toList = (csA p).toList := by simp [pgA, csA]
theorem same_csA {p q : Pg} (h : p.same q) : csA p = csA q := by
  apply Array.ext'
  rw [← csA_ext, ← csA_ext, same_pgA h]
theorem csA_used (p : Pg) (i : Nat) (h : i < 8) : (csA p)[i * 2]? = some (.bool (p.u i)) := by
  rcases lt8 h with rfl | rfl | rfl | rfl | rfl | rfl | rfl | rfl <;> rfl
theorem csA_val (p : Pg) (i : Nat) (h : i < 8) : (csA p)[i * 2 + 1]? = some (.string (p.s i)) := by
  rcases lt8 h with rfl | rfl | rfl | rfl | rfl | rfl | rfl | rfl <;> rfl

end Go.Proofs.Ytfbelaalmdcaaaa

/-
  Changes and pages in memory.
-/
