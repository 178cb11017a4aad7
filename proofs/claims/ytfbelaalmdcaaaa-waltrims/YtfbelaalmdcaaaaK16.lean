/-
  Texts that lean on one another, one behind the other: each opens with its own remark.
-/
import Derived.Test.YtfbelaalmdcaaaaProg
import Derived.RegionTactic
import Derived.BigRegion
import Derived.WalkSpells
import Derived.Test.YtfbelaalmdcaaaaK15
import Derived.Test.YtfbelaalmdcaaaaK07
import Derived.Test.YtfbelaalmdcaaaaK04
import Derived.Test.YtfbelaalmdcaaaaK00
import Derived.Test.YtfbelaalmdcaaaaK05

/-
  The contract of package wal's Records.
-/
namespace Go.Proofs.Ytfbelaalmdcaaaa
open Go.RowKit
set_option linter.unusedVariables false

theorem there_row {w : World} {b o n : Nat} {t : TypeId} {cs : Array Value} (h : RowAt w b t cs) (hs : o + n ≤ cs.size) : w.there b o n := fun j hj => ⟨by rw [cell_of_row _ _ _ _ _ _ h, Array.getElem?_eq_getElem (by omega)]; rfl, h.free _⟩
theorem run_mk9 (n : Nat) (h : n ≤ 100000) (w : World) : ∃ cs : Array Value, cs.size = n * 14 ∧
    (Instr.makeSlice 29 (.int .i64 (n : Int)) (.int .i64 (n : Int))).run Try.prog w = .ok (.slice (some ⟨w.heap.size, 0, none⟩) n n) (w.alloc (.cells cs 43)) := by
  obtain ⟨i, hi0, hi1⟩ := Option.map_eq_some_iff.1 infoRc3
  simp only [Prod.mk.injEq] at hi1
  have hr := run_make (P := Try.prog) w 29 43 i (.agg zeroA) Try.underlying29 hi0 hi1.1 .i64 .i64 n n (by omega) (Int.le_refl _) (by rw [hi1.2.2]; omega) (by omega)
  simp only [Int.toNat_natCast, hi1.2.1] at hr
  exact ⟨_, by simp [madeCells], hr⟩
/-- The copies that are made. -/
structure RI (w wr : World) (ga ln : Nat) (g : Lg) (j : Nat) (ns : List Rm) : Prop where
  low : w.heap.size ≤ ga
  row : ∃ cs, RowAt wr ga 43 cs ∧ cs.size = ln * 14
  len : ns.length = j
  same : msR ns = g.l.take j
  cell : ∀ i, i < j → wr.rangeAt ga (i * 14) (rcF (ns.getD i rcZ)).toList
  got : ∀ m ∈ ns, m.1.fits ∧ GotIn w.heap.size wr m.1 m.2.1 m.2.2
  bel : Below w.heap.size w wr
theorem GotIn.kept {base : Nat} {x y : World} {r : Rec} {va vb : Value} (h : GotIn base x r va vb) (hk : ∀ k t cs, (t = 81 ∨ t = 83) → RowAt x k t cs → RowAt y k t cs) : GotIn base y r va vb :=
  ⟨own_kept h.1 (fun k cs hr => hk k _ cs (.inl rfl) hr), own_kept h.2 (fun k cs hr => hk k _ cs (.inr rfl) hr)⟩
theorem RI.later {w wr x : World} {ga ln j : Nat} {g : Lg} {ns : List Rm} (h : RI w wr ga ln g j ns) (p : Below wr.heap.size wr x) : RI w x ga ln g j ns := by
  obtain ⟨cs, h1, h2⟩ := h.row
  exact ⟨h.low, ⟨cs, h1.later p, h2⟩, h.len, h.same, fun i hi k u hu => (World.cell?_of_block (a := ⟨ga, i * 14 + k, none⟩) (p.block ga h1.lt)).trans (h.cell i hi k u hu), fun m hm => ⟨(h.got m hm).1, (h.got m hm).2.below p⟩, h.bel.trans (p.mono h.bel.size)⟩
/-- One more is stored. -/
theorem RI.put {w wr : World} {ga ln j : Nat} {g : Lg} {ns : List Rm} {m : Rm} (h : RI w wr ga ln g j ns) (hj : j < ln) (hl : j < g.l.length) (hm : m.1 = g.l.getD j Rec.zero) (hf : m.1.fits) (hg : GotIn w.heap.size wr m.1 m.2.1 m.2.2) : RI w (wr.setCells ga (j * 14) (rcF m).toList) ga ln g (j + 1) (ns ++ [m]) := by
  obtain ⟨cs, h1, h2⟩ := h.row
  obtain ⟨ds, d1, d2⟩ := setCells_row (rcF m).toList (j * 14) wr ga _ cs h1
  have hT := setCells_tn (rcF m).toList (j * 14) wr ga (Is ga) rfl
  have hk : ∀ k t cs, (t = 81 ∨ t = 83) → RowAt wr k t cs → RowAt (wr.setCells ga (j * 14) (rcF m).toList) k t cs := fun k t ds ht hr => hT.row hr (fun e => by
    rw [show k = ga from e] at hr
    have := row_kind hr h1
    rw [this] at ht
    rcases ht with ht | ht <;> exact absurd ht (by decide))
  refine ⟨h.low, ⟨ds, d1, by rw [d2, h2]⟩, by simp [h.len], ?_, fun i hi q u hu => ?_, fun x hx => ?_, h.bel.trans (hT.below (fun k hk => by rw [show k = ga from hk]; exact h.low) h.bel.size)⟩
  · rw [msR_snoc, h.same, hm, List.take_add_one, List.getD_eq_getElem?_getD, List.getElem?_eq_getElem hl]
    rfl
  · have hq : q < 14 := (List.getElem?_eq_some_iff.1 hu).1
    rw [getD_snoc, h.len] at hu
    by_cases e : i < j
    · rw [if_pos e] at hu
      rw [World.cell?_setCells_out ga _ _ wr _ (fun _ _ => .inl (by show i * 14 + q < j * 14; omega))]
      exact h.cell i e q u hu
    · obtain rfl : i = j := by omega
      rw [if_neg e, if_pos rfl] at hu
      have h9 := World.cell?_setCells_in ga (rcF m).toList (i * 14) wr (fun k hk => by
        have hk14 : k < 14 := hk
        rw [cell_of_row _ _ _ _ _ _ h1, Array.getElem?_eq_getElem (by omega)]
        rfl) q hq
      rw [h9]
      rw [List.getElem?_eq_getElem hq] at hu
      exact hu
  · rcases List.mem_append.1 hx with hx | hx
    · exact ⟨(h.got x hx).1, (h.got x hx).2.kept hk⟩
    · rw [List.mem_singleton.1 hx]
      exact ⟨hf, hg.kept hk⟩
/-- What Records answers. -/
def RecsAns (g : Lg) (w : World) (e : Ending) (w' : World) : Prop := ∃ ga ns, e = .returned (.slice (some ⟨ga, 0, none⟩) g.l.length g.l.length) ∧ RI w w' ga g.l.length g g.l.length ns
theorem RI.rs {w x : World} {ga : Nat} {g : Lg} {ns : List Rm} (h : RI w x ga g.l.length g g.l.length ns) : RsIn x (.slice (some ⟨ga, 0, none⟩) ns.length g.l.length) ns ∧ msR ns = g.l := by
  obtain ⟨cs, h1, h2⟩ := h.row
  refine ⟨⟨⟨_, _, rfl, fun hp => ⟨ga, 0, rfl, h1.lt, fun i hi => ?_⟩⟩, fun m hm => ⟨(h.got m hm).1, (h.got m hm).2.rc⟩⟩, ?_⟩
  · rw [Nat.zero_add]
    exact h.cell i (by rw [← h.len]; exact hi)
  · rw [h.same, List.take_length]
section
variable {B : Nat} {gl gc gt gb : Nat} {a : Option Addr} {cap : Nat} {ms : List Rm} {wa : Option Addr} {wc : Nat} {bs : List UInt8} {g : Lg}
set_option maxRecDepth 8000 in
set_option maxHeartbeats 3200000 in
theorem recs9_any (w : World) (h : LV B w gl gc gt gb a cap ms wa wc bs g) (ok : g.ok) :
    Calls Try.prog 10 #[.pointer (some ⟨gl, 0, none⟩)] w (RecsAns g w) := by
  have hlen := h.len
  have hcap := h.recs.cap
  have hfew := few_recs g ok
  have c2 := h.c2
  obtain ⟨cs, hcs, hmk⟩ := run_mk9 g.l.length (by omega) w
  have hb0 : Below w.heap.size w (w.alloc (.cells cs 43)) := (Below.refl _ _).alloc (Nat.le_refl _) _
  have k2 := (h.later hb0).c2
  obtain ⟨ln, hln⟩ : ∃ ln, ln = g.l.length := ⟨_, rfl⟩
  have H0 := hide (show LV B (w.alloc (.cells cs 43)) gl gc gt gb a cap ms wa wc bs g ∧ RI w (w.alloc (.cells cs 43)) w.heap.size ln g 0 [] from ⟨h.later hb0, ⟨Nat.le_refl _, ⟨cs, RowAt.new w _ cs, by rw [hcs, hln]⟩, rfl, by simp [msR], fun i hi => absurd hi (Nat.not_lt_zero _), fun m hm => (nomatch hm), hb0⟩⟩)
  have HLT := hide (fun k (hk : FC gl gc gt gb a wa k) => (h.loose k hk).2.1)
  have HBW := hide h.here
  have HOK := hide ok
  have HRA : Hid (RecsAns g w = fun e w' => ∃ ga ns, e = .returned (.slice (some ⟨ga, 0, none⟩) ln ln) ∧ RI w w' ga ln g ln ns) := by
    show RecsAns g w = _
    unfold RecsAns
    rw [hln]
  rw [← hln] at hlen hfew c2 hmk k2
  have HLN := hide hln
  have HML := hide hlen
  clear h ok hb0 hcs hln hlen
  obtain ⟨ga, hga⟩ : ∃ ga, ga = w.heap.size := ⟨_, rfl⟩
  rw [← hga] at hmk H0
  have HGA := hide hga
  clear hga
  obtain ⟨y, hy⟩ : ∃ y, y = w.alloc (.cells cs 43) := ⟨_, rfl⟩
  rw [← hy] at hmk H0 k2
  clear hy
  go_enter Try.func10, Try.ntmps10
  go_wp2
  go_loopw [19] (fun i wr => ∃ j : Nat, j ≤ ln ∧ i = .int .i64 j ∧ ∃ ns, Hid (LV B wr gl gc gt gb a cap ms wa wc bs g ∧ RI w wr ga ln g j ns)) (fun i _ => ln - (intOf i).toNat)
  case atStart => exact ⟨0, Nat.zero_le _, rfl, [], H0.out⟩
  case round =>
    obtain ⟨j, hj, rfl, ns, HI⟩ := hrel
    clear k2 c2 hmk H0
    by_cases hlt : j < ln
    · have ij : (j : Int) < (ln : Int) := by omega
      have hjm : j < ms.length := by have := HML.out; omega
      obtain ⟨b, off, rfl, hbl, hrg, hft, hin⟩ := HI.out.1.recs.rs.at hjm
      obtain ⟨hrt, hgi⟩ := HI.out.1.recAt HOK.out hjm
      obtain ⟨m, hm⟩ : ∃ m, m = ms.getD j rcZ := ⟨_, rfl⟩
      rw [← hm] at hrg hft hin hrt hgi
      have HM := hide (And.intro hgi hft)
      have HLD := hide (load_mid wr b (off + j * 14) m hrg)
      have hb1 : Below wr.heap.size wr (wr.alloc (.cells zeroA 43)) := (Below.refl _ _).alloc (Nat.le_refl _) _
      have HZ := hide (And.intro (RowAt.new wr 43 zeroA) hb1)
      have HCP := hide (fun y (hy : RcIn y m.1 m.2.1 m.2.2) => copied9_any m.1 m.2.1 m.2.2 y hy (right_few hrt).1 (right_few hrt).2)
      have HIN := hide hin
      obtain ⟨⟨a1, c1, h1⟩, a2, c2', h2⟩ := rcF_slices hin
      clear hrg hin hft hb1 hm hgi hrt
      go_wp2_with (first | (refine wpList_load_val rfl 43 (.tmp 22) rfl _ _ rfl HLD.out ?_) | (refine wpList_store_at rfl 43 (.tmp 5) (.tmp 23) rfl wr.heap.size zeroA (rcF m) rfl rfl HZ.out.1 infoRc rfl (rcF_all m ⟨a1, c1, h1⟩ ⟨a2, c2', h2⟩) ?_; intro w2 hr2 hk2 hrow2; refine stop9 ?_))
      have hb2 := hk2 _ _ HZ.out.2 (Nat.le_refl _)
      have H2 := hide (And.intro hr2 hb2)
      clear hr2 hk2 hrow2 hb2 HLD HZ h1 h2
      refine unstop9 ?_
      go_wp2_with (refine wpList_load_at rfl 43 (.tmp 5) rfl wr.heap.size rfl (rcF m) H2.out.1 _ Try.underlying43 rfl infoRc ?_)
      refine (HCP.out w2 (HIN.out.below H2.out.2)).mono ?_
      rintro e w3 ⟨ua, ub, rfl, hgot, hb3⟩
      have hb23 := H2.out.2.trans (hb3.mono H2.out.2.size)
      have H3 := hide (show LV B w3 gl gc gt gb (some ⟨b, off, none⟩) cap ms wa wc bs g ∧ RI w w3 ga ln g j ns ∧ GotIn w.heap.size w3 m.1 ua ub from ⟨HI.out.1.later hb23, HI.out.2.later hb23, own_low hgot.1 (Nat.le_trans HI.out.2.bel.size H2.out.2.size), own_low hgot.2 (Nat.le_trans HI.out.2.bel.size H2.out.2.size)⟩)
      obtain ⟨⟨a1, c1, rfl⟩, a2, c2', rfl⟩ := rcF_slices hgot.rc
      have hth : w3.there ga (j * 14) 14 := by
        obtain ⟨ds, d1, d2⟩ := H3.out.2.1.row
        exact there_row d1 (by rw [d2]; omega)
      have hPut := H3.out.2.1.put (m := (m.1, .slice a1 m.1.ts.length c1, .slice a2 m.1.ds.length c2')) hlt (by rw [← HLN.out]; exact hlt) HM.out.1 HM.out.2 H3.out.2.2
      have hT : Tn (Is ga) w3 (w3.setCells ga (j * 14) (rcA m.1 (.slice a1 m.1.ts.length c1) (.slice a2 m.1.ds.length c2')).toList) := setCells_tn _ _ w3 ga (Is ga) rfl
      have hLV : LV B (w3.setCells ga (j * 14) (rcA m.1 (.slice a1 m.1.ts.length c1) (.slice a2 m.1.ds.length c2')).toList) gl gc gt gb (some ⟨b, off, none⟩) cap ms wa wc bs g := by
        obtain ⟨ds, d1, d2⟩ := H3.out.2.1.row
        have hlow := H3.out.2.1.low
        refine H3.out.1.keep (F := Is ga) (fun k hk => ?_) hT (fun k hk e => ?_)
        · rw [show k = ga from hk]
          exact ⟨Nat.le_trans HBW.out hlow, d1.lt, fun ty es hrow => by rw [row_kind hrow d1]; decide⟩
        · have h5 := HLT.out k hk
          have h6 : k = ga := e
          omega
      have H4 := hide (And.intro hLV hPut)
      have HTH := hide hth
      clear hgot hb3 hb23 hth hPut hT hLV H2 HCP HIN
      go_wp2_with (refine wpList_store_mid ?hg 43 (.tmp 28) (.tmp 27) ?ho ga (j * 14) (rcA m.1 (.slice a1 m.1.ts.length c1) (.slice a2 m.1.ds.length c2')) ?h1 ?h2 ?ht ?hi ?h3 ?_; (case ho => with_reducible rfl); (case hg => rfl); (case h1 => simp [Act.eval]; done); (case h2 => rfl); (case ht => exact HTH.out); (case hi => exact infoRc); (case h3 => simp [rcA, Value.oneCell']))
      go_roundw
      case rel => exact ⟨j + 1, by omega, by go_num, _, H4.out⟩
      case measure => simp [intOf]; omega
    · obtain rfl : j = ln := by omega
      go_wp2
      go_ret
      rw [HRA.out]
      exact ⟨ga, ns, rfl, HI.out.2⟩
end
end Go.Proofs.Ytfbelaalmdcaaaa

/-
  Package wal's contracts in the form that the statements' walks lean on.
-/
namespace Go.Proofs.Ytfbelaalmdcaaaa
open Go.RowKit
set_option linter.unusedVariables false

theorem opens9 (B : Nat) : ClOpens B (LAc B) := fun gt gb x t base h ok hgt hgb hb => open9_any B gt gb x t base h ok hgt hgb hb
theorem append9 (B : Nat) : ClAppend B (LAc B) := by
  rintro gt gl x F g r va vb f h ⟨gc, gb, a, cap, ms, wa, wc, hL, rfl⟩ ok hft hin hf _
  exact app9_any x r va vb f h hL ok rfl hft hin hf
theorem see9 (B : Nat) : ClSee B (LAc B) := by
  rintro gt gl x F g n ⟨gc, gb, a, cap, ms, wa, wc, hL, rfl⟩ ok hn
  exact (see9_any x n hL hn).mono fun e x' hh => ⟨hh.1, _, ⟨gc, gb, a, cap, ms, wa, wc, hh.2.1, rfl⟩, hh.2.2.weak (fun k hk => .inr (.inl hk)), fun k hk => .inl hk⟩
theorem write9 (B : Nat) : ClWrite B (LAc B) := by
  rintro gt gl x F g ⟨gc, gb, a, cap, ms, wa, wc, hL, rfl⟩ ok
  refine (write9_any x hL ok rfl).mono ?_
  rintro e x' ⟨rfl, gb', h1, h2, h3⟩
  have e : framesB (g.write.l.drop g.write.on) = [] := by
    show framesB (g.l.drop g.l.length) = []
    rw [List.drop_length]
    rfl
  refine ⟨rfl, _, ⟨gc, gb', a, cap, ms, none, 0, by rw [e]; exact h1, rfl⟩, h2, fun k hk => ?_⟩
  rcases hk with hk | hk | hk | hk | hk | hk
  · exact .inl (.inl hk)
  · exact .inl (.inr (.inl hk))
  · exact .inl (.inr (.inr (.inl hk)))
  · rcases h3 with h3 | h3
    · exact .inl (.inr (.inr (.inr (.inl (by rw [hk, h3])))))
    · exact .inr (by rw [hk]; exact h3)
  · exact .inl (.inr (.inr (.inr (.inr (.inl hk)))))
  · obtain ⟨_, e⟩ := hk
    cases e
theorem sync9 (B : Nat) : ClSync B (LAc B) := by
  rintro gt gl x F g ⟨gc, gb, a, cap, ms, wa, wc, hL, rfl⟩ ok
  have hfew := few_recs g ok
  exact (sync9_any x hL ok.on (by omega)).mono fun e x' hh => ⟨hh.1, _, ⟨gc, gb, a, cap, ms, wa, wc, hh.2.1, rfl⟩, hh.2.2, fun k hk => .inl hk⟩
theorem trim9 (B : Nat) : ClTrim B (LAc B) := by
  rintro gt gl x F g n ⟨gc, gb, a, cap, ms, wa, wc, hL, rfl⟩ ok _
  have hk := (g.trim_k ok n).1
  have hfa := ok.fa
  have e : framesB ((g.trim n).l.drop (g.trim n).on) = framesB (g.l.drop g.on) := by
    show framesB ((g.l.drop (trimK g.l g.fa n)).drop (g.on - trimK g.l g.fa n)) = _
    rw [List.drop_drop, show trimK g.l g.fa n + (g.on - trimK g.l g.fa n) = g.on by omega]
  exact (trim9_any x n hL ok).mono fun e' x' hh => ⟨hh.1, _, ⟨gc, gb, a, cap, _, wa, wc, by rw [e]; exact hh.2.1, rfl⟩, hh.2.2, fun k hk => .inl hk⟩
theorem records9 (B : Nat) : ClRecords B (LAc B) := by
  rintro gt gl x F g ⟨gc, gb, a, cap, ms, wa, wc, hL, rfl⟩ ok
  refine (recs9_any x hL ok).mono ?_
  rintro e x' ⟨ga, ns, rfl, h⟩
  obtain ⟨h1, h2⟩ := h.rs
  exact ⟨_, g.l.length, ns, by rw [h.len], h1, h2, by rw [h.len]; exact Nat.le_refl _, h.bel⟩
theorem get9 (B : Nat) : ClGet B (LAc B) := by
  rintro gt gl x F g n ⟨gc, gb, a, cap, ms, wa, wc, hL, rfl⟩ ok _
  refine (get9_any x n hL ok).mono ?_
  rintro e x' ⟨m, rfl, h1, h2, h3, h4⟩
  exact ⟨m, rfl, h1, h2, h3.rc, h4⟩
theorem last9 (B : Nat) : ClLast B (LAc B) := by
  rintro gt gl x F g ⟨gc, gb, a, cap, ms, wa, wc, hL, rfl⟩ ok
  exact last9_any x hL
theorem durable9 (B : Nat) : ClDurable B (LAc B) := by
  rintro gt gl x F g ⟨gc, gb, a, cap, ms, wa, wc, hL, rfl⟩ ok
  exact dur9_any x hL
theorem held9 (B : Nat) : ClHeld B (LAc B) := by
  rintro gt gl x F g ⟨gc, gb, a, cap, ms, wa, wc, hL, rfl⟩ ok
  exact held9_any x hL
theorem left9 (B : Nat) : ClLeft B (LAc B) := by
  rintro gt gl x F g ⟨gc, gb, a, cap, ms, wa, wc, hL, rfl⟩ ok
  have hroom := ok.room
  have hm := ok.tok.room
  have hu : g.used = g.t.b.size + (framesB (g.l.drop g.on)).length := rfl
  rw [hu]
  rw [hu] at hroom
  exact left9_any x hL (by omega) hm (by omega)
end Go.Proofs.Ytfbelaalmdcaaaa

/-
  The contract of the code's Crash.
-/
namespace Go.Proofs.Ytfbelaalmdcaaaa
open Go.RowKit
set_option linter.unusedVariables false

set_option maxRecDepth 4000 in
set_option maxHeartbeats 1600000 in
theorem crash8_all (gt gb cap : Nat) (a : Option Addr) (t : Tp) (r : Nat) (k : Int) (hr : t.b.size = t.f + r) (h1 : (r : Int) < k) (h0 : 0 < r) (w : World) (h : TpV w gt gb cap a t) (ok : t.ok) (hcap : t.b.size ≤ cap) :
    Calls Try.prog 12 #[.pointer (some ⟨gt, 0, none⟩), .int .i64 k] w fun e w' => e = .returned (.tuple #[]) ∧ TpV w' gt gb cap a ⟨t.b.extract 0 (t.f + r), t.f + r, t.m, t.s⟩ ∧ Turn gt gb w w' := by
  have H := hide h
  have hz := ok.few
  have hy := ok.room
  have hx := ok.fast
  have hlm : t.f + r ≤ t.b.size := by omega
  have HLM := hide hlm
  have ew : IntKind.i64.wrap ((t.b.size : Int) - (t.f : Int)) = (r : Int) := by rw [IntKind.wrap_i64]; omega
  have h2 : (0 : Int) < (r : Int) := by omega
  have h3 : (0 : Int) < k := by omega
  have e1 : IntKind.i64.wrap ((t.f : Int) + (r : Int)) = (t.f : Int) + (r : Int) := by rw [IntKind.wrap_i64]; omega
  have e2 : (0 : Int) ≤ (t.f : Int) + (r : Int) := by omega
  have e3 : (t.f : Int) + (r : Int) ≤ (cap : Int) := by omega
  clear h ok
  have HR := hide hr
  clear hr
  go_enter Try.func12, Try.ntmps12
  go_wp2_with fail
  refine wp_region_in (fun x => TpV x gt gb cap a t ∧ Turn gt gb w x) (by kernel_rfl) (by kernel_rfl) ⟨H.out.drew, (Turn.refl gt gb w).drew⟩ ?_
  repeat (first
    | go_big_quiet_skip
    | (refine wpQuiet_load rfl 3 _ rfl _ (.int .i64 (t.f : Int)) rfl (fun y hy => load8_n y _ (hy.1.1.cell 1 _ rfl)) ?_; simp only [Act.put, Array.setIfInBounds, List.size_toArray, List.length_cons, List.length_nil, Nat.reduceAdd, Nat.reduceLT, ↓reduceDIte, List.set_toArray, List.set_cons_succ, List.set_cons_zero])
    | (refine wpQuiet_load rfl 60 _ rfl _ (.slice a t.b.size cap) rfl (fun y hy => load8_sl y _ _ _ (hy.1.1.cell 0 _ rfl)) ?_; simp only [Act.put, Array.setIfInBounds, List.size_toArray, List.length_cons, List.length_nil, Nat.reduceAdd, Nat.reduceLT, ↓reduceDIte, List.set_toArray, List.set_cons_succ, List.set_cons_zero])
    | (refine wpQuiet_plain rfl (fun K hK => ?_); go_simp; (try simp only [ew]); refine hK _ ?_; clear hK K))
  refine wpQuiet_nil ?_
  intro x hx
  have HX := hide hx
  have c0 := hx.1.1.cell 0 (.slice a t.b.size cap) rfl
  have c1 := hx.1.1.cell 1 (.int .i64 (t.f : Int)) rfl
  have f0 := hx.1.1.free 0
  have f1 := hx.1.1.free 1
  clear hx
  go_wp2_with fail
  go_region
  go_wp2
  go_end0
  exact ⟨rfl, (HX.out.1.drew.first (t.f + r) HLM.out).setf _ _ (by omega), (HX.out.2.drew.set 0 _).set 1 _⟩

set_option maxRecDepth 4000 in
set_option maxHeartbeats 1600000 in
theorem crash8_some (gt gb cap : Nat) (a : Option Addr) (t : Tp) (r : Nat) (n : Nat) (k : Int) (hk : k = (n : Int)) (hr : t.b.size = t.f + r) (h1 : n ≤ r) (h0 : 0 < n) (w : World) (h : TpV w gt gb cap a t) (ok : t.ok) (hcap : t.b.size ≤ cap) :
    Calls Try.prog 12 #[.pointer (some ⟨gt, 0, none⟩), .int .i64 k] w fun e w' => e = .returned (.tuple #[]) ∧ TpV w' gt gb cap a ⟨t.b.extract 0 (t.f + n), t.f + n, t.m, t.s⟩ ∧ Turn gt gb w w' := by
  have H := hide h
  have hz := ok.few
  have hy := ok.room
  have hx := ok.fast
  subst hk
  have hlm : t.f + n ≤ t.b.size := by omega
  have HLM := hide hlm
  have ew : IntKind.i64.wrap ((t.b.size : Int) - (t.f : Int)) = (r : Int) := by rw [IntKind.wrap_i64]; omega
  have h2 : (0 : Int) < (n : Int) := by omega
  have h3 : ¬ (r : Int) < (n : Int) := by omega
  have e1 : IntKind.i64.wrap ((t.f : Int) + (n : Int)) = (t.f : Int) + (n : Int) := by rw [IntKind.wrap_i64]; omega
  have e2 : (0 : Int) ≤ (t.f : Int) + (n : Int) := by omega
  have e3 : (t.f : Int) + (n : Int) ≤ (cap : Int) := by omega
  clear h ok
  have HR := hide hr
  clear hr
  go_enter Try.func12, Try.ntmps12
  go_wp2_with fail
  refine wp_region_in (fun x => TpV x gt gb cap a t ∧ Turn gt gb w x) (by kernel_rfl) (by kernel_rfl) ⟨H.out.drew, (Turn.refl gt gb w).drew⟩ ?_
  repeat (first
    | go_big_quiet_skip
    | (refine wpQuiet_load rfl 3 _ rfl _ (.int .i64 (t.f : Int)) rfl (fun y hy => load8_n y _ (hy.1.1.cell 1 _ rfl)) ?_; simp only [Act.put, Array.setIfInBounds, List.size_toArray, List.length_cons, List.length_nil, Nat.reduceAdd, Nat.reduceLT, ↓reduceDIte, List.set_toArray, List.set_cons_succ, List.set_cons_zero])
    | (refine wpQuiet_load rfl 60 _ rfl _ (.slice a t.b.size cap) rfl (fun y hy => load8_sl y _ _ _ (hy.1.1.cell 0 _ rfl)) ?_; simp only [Act.put, Array.setIfInBounds, List.size_toArray, List.length_cons, List.length_nil, Nat.reduceAdd, Nat.reduceLT, ↓reduceDIte, List.set_toArray, List.set_cons_succ, List.set_cons_zero])
    | (refine wpQuiet_plain rfl (fun K hK => ?_); go_simp; (try simp only [ew]); refine hK _ ?_; clear hK K))
  refine wpQuiet_nil ?_
  intro x hx
  have HX := hide hx
  have c0 := hx.1.1.cell 0 (.slice a t.b.size cap) rfl
  have c1 := hx.1.1.cell 1 (.int .i64 (t.f : Int)) rfl
  have f0 := hx.1.1.free 0
  have f1 := hx.1.1.free 1
  clear hx
  go_wp2_with fail
  go_region
  go_wp2
  go_end0
  exact ⟨rfl, (HX.out.1.drew.first (t.f + n) HLM.out).setf _ _ (by omega), (HX.out.2.drew.set 0 _).set 1 _⟩

set_option maxRecDepth 4000 in
set_option maxHeartbeats 1600000 in
theorem crash8_none (gt gb cap : Nat) (a : Option Addr) (t : Tp) (r : Nat) (k : Int) (hr : t.b.size = t.f + r) (h1 : k ≤ 0) (w : World) (h : TpV w gt gb cap a t) (ok : t.ok) (hcap : t.b.size ≤ cap) :
    Calls Try.prog 12 #[.pointer (some ⟨gt, 0, none⟩), .int .i64 k] w fun e w' => e = .returned (.tuple #[]) ∧ TpV w' gt gb cap a ⟨t.b.extract 0 (t.f), t.f, t.m, t.s⟩ ∧ Turn gt gb w w' := by
  have H := hide h
  have hz := ok.few
  have hy := ok.room
  have hx := ok.fast
  have hlm : t.f ≤ t.b.size := by omega
  have HLM := hide hlm
  have ew : IntKind.i64.wrap ((t.b.size : Int) - (t.f : Int)) = (r : Int) := by rw [IntKind.wrap_i64]; omega
  have h2 : ¬ (0 : Int) < k := by omega
  have ek : (if k < 0 then (0 : Int) else k) = 0 := by
    by_cases g : k < 0
    · rw [if_pos g]
    · rw [if_neg g]
      omega
  have em : (if (r : Int) < 0 then (r : Int) else 0) = 0 := if_neg (by omega)
  have e1 : IntKind.i64.wrap (t.f : Int) = (t.f : Int) := by rw [IntKind.wrap_i64]; omega
  have e2 : (0 : Int) ≤ (t.f : Int) := by omega
  have e3 : (t.f : Int) ≤ (cap : Int) := by omega
  clear h ok
  have HR := hide hr
  clear hr
  go_enter Try.func12, Try.ntmps12
  go_wp2_with fail
  refine wp_region_in (fun x => TpV x gt gb cap a t ∧ Turn gt gb w x) (by kernel_rfl) (by kernel_rfl) ⟨H.out.drew, (Turn.refl gt gb w).drew⟩ ?_
  repeat (first
    | go_big_quiet_skip
    | (refine wpQuiet_load rfl 3 _ rfl _ (.int .i64 (t.f : Int)) rfl (fun y hy => load8_n y _ (hy.1.1.cell 1 _ rfl)) ?_; simp only [Act.put, Array.setIfInBounds, List.size_toArray, List.length_cons, List.length_nil, Nat.reduceAdd, Nat.reduceLT, ↓reduceDIte, List.set_toArray, List.set_cons_succ, List.set_cons_zero])
    | (refine wpQuiet_load rfl 60 _ rfl _ (.slice a t.b.size cap) rfl (fun y hy => load8_sl y _ _ _ (hy.1.1.cell 0 _ rfl)) ?_; simp only [Act.put, Array.setIfInBounds, List.size_toArray, List.length_cons, List.length_nil, Nat.reduceAdd, Nat.reduceLT, ↓reduceDIte, List.set_toArray, List.set_cons_succ, List.set_cons_zero])
    | (refine wpQuiet_plain rfl (fun K hK => ?_); go_simp; (try simp only [ew, ek, em]); refine hK _ ?_; clear hK K))
  refine wpQuiet_nil ?_
  intro x hx
  have HX := hide hx
  have c0 := hx.1.1.cell 0 (.slice a t.b.size cap) rfl
  have c1 := hx.1.1.cell 1 (.int .i64 (t.f : Int)) rfl
  have f0 := hx.1.1.free 0
  have f1 := hx.1.1.free 1
  clear hx
  go_wp2_with fail
  go_region
  go_wp2
  go_end0
  exact ⟨rfl, (HX.out.1.drew.first (t.f) HLM.out).setf _ _ (by omega), (HX.out.2.drew.set 0 _).set 1 _⟩

set_option maxRecDepth 4000 in
set_option maxHeartbeats 1600000 in
theorem crash8_same (gt gb cap : Nat) (a : Option Addr) (t : Tp) (k : Int) (hr : t.b.size = t.f) (h1 : (0 : Int) < k) (w : World) (h : TpV w gt gb cap a t) (ok : t.ok) (hcap : t.b.size ≤ cap) :
    Calls Try.prog 12 #[.pointer (some ⟨gt, 0, none⟩), .int .i64 k] w fun e w' => e = .returned (.tuple #[]) ∧ TpV w' gt gb cap a ⟨t.b.extract 0 (t.f), t.f, t.m, t.s⟩ ∧ Turn gt gb w w' := by
  have H := hide h
  have hz := ok.few
  have hy := ok.room
  have hx := ok.fast
  have hlm : t.f ≤ t.b.size := by omega
  have HLM := hide hlm
  have ew : IntKind.i64.wrap ((t.b.size : Int) - (t.f : Int)) = 0 := by rw [IntKind.wrap_i64]; omega
  have e1 : IntKind.i64.wrap (t.f : Int) = (t.f : Int) := by rw [IntKind.wrap_i64]; omega
  have e2 : (0 : Int) ≤ (t.f : Int) := by omega
  have e3 : (t.f : Int) ≤ (cap : Int) := by omega
  clear h ok
  have HR := hide hr
  clear hr
  go_enter Try.func12, Try.ntmps12
  go_wp2_with fail
  refine wp_region_in (fun x => TpV x gt gb cap a t ∧ Turn gt gb w x) (by kernel_rfl) (by kernel_rfl) ⟨H.out.drew, (Turn.refl gt gb w).drew⟩ ?_
  repeat (first
    | go_big_quiet_skip
    | (refine wpQuiet_load rfl 3 _ rfl _ (.int .i64 (t.f : Int)) rfl (fun y hy => load8_n y _ (hy.1.1.cell 1 _ rfl)) ?_; simp only [Act.put, Array.setIfInBounds, List.size_toArray, List.length_cons, List.length_nil, Nat.reduceAdd, Nat.reduceLT, ↓reduceDIte, List.set_toArray, List.set_cons_succ, List.set_cons_zero])
    | (refine wpQuiet_load rfl 60 _ rfl _ (.slice a t.b.size cap) rfl (fun y hy => load8_sl y _ _ _ (hy.1.1.cell 0 _ rfl)) ?_; simp only [Act.put, Array.setIfInBounds, List.size_toArray, List.length_cons, List.length_nil, Nat.reduceAdd, Nat.reduceLT, ↓reduceDIte, List.set_toArray, List.set_cons_succ, List.set_cons_zero])
    | (refine wpQuiet_plain rfl (fun K hK => ?_); go_simp; (try simp only [ew]); refine hK _ ?_; clear hK K))
  refine wpQuiet_nil ?_
  intro x hx
  have HX := hide hx
  have c0 := hx.1.1.cell 0 (.slice a t.b.size cap) rfl
  have c1 := hx.1.1.cell 1 (.int .i64 (t.f : Int)) rfl
  have f0 := hx.1.1.free 0
  have f1 := hx.1.1.free 1
  clear hx
  go_wp2_with fail
  go_region
  go_wp2
  go_end0
  exact ⟨rfl, (HX.out.1.drew.first (t.f) HLM.out).setf _ _ (by omega), (HX.out.2.drew.set 0 _).set 1 _⟩

theorem crash8_any (gt gb : Nat) (t : Tp) (k : Int) (w : World) (h : TpAt w gt gb t) (ok : t.ok) :
    Calls Try.prog 12 #[.pointer (some ⟨gt, 0, none⟩), .int .i64 k] w fun e w' => e = .returned (.tuple #[]) ∧ TpAt w' gt gb (t.crash k) ∧ Turn gt gb w w' := by
  obtain ⟨cap, a, h⟩ := h
  have hx := ok.fast
  have hcap : t.b.size ≤ cap := by
    rcases h.own with ⟨_, _, h2, _⟩ | ⟨_, _, _, h2, _⟩ <;> omega
  obtain ⟨r, hr⟩ : ∃ r, t.b.size = t.f + r := ⟨t.b.size - t.f, by omega⟩
  unfold Tp.crash
  by_cases h0 : k ≤ 0
  · have e : t.left k = t.f := by unfold Tp.left; omega
    rw [e]
    exact (crash8_none gt gb cap a t r k hr h0 w h ok hcap).mono fun e w' he => ⟨he.1, ⟨cap, a, he.2.1⟩, he.2.2⟩
  by_cases h1 : (r : Int) < k
  · by_cases h2 : 0 < r
    · have e : t.left k = t.f + r := by unfold Tp.left; omega
      rw [e]
      exact (crash8_all gt gb cap a t r k hr h1 h2 w h ok hcap).mono fun e w' he => ⟨he.1, ⟨cap, a, he.2.1⟩, he.2.2⟩
    · have e : t.left k = t.f := by unfold Tp.left; omega
      rw [e]
      exact (crash8_same gt gb cap a t k (by omega) (by omega) w h ok hcap).mono fun e w' he => ⟨he.1, ⟨cap, a, he.2.1⟩, he.2.2⟩
  · obtain ⟨n, rfl⟩ := Int.eq_ofNat_of_zero_le (show 0 ≤ k by omega)
    have e : t.left (n : Int) = t.f + n := by unfold Tp.left; omega
    rw [e]
    exact (crash8_some gt gb cap a t r n _ rfl hr (by omega) (by omega) w h ok hcap).mono fun e w' he => ⟨he.1, ⟨cap, a, he.2.1⟩, he.2.2⟩
end Go.Proofs.Ytfbelaalmdcaaaa

/-
  A tape of the code's that a walk keeps, call by call: all that was there when the walk began stays.
-/
namespace Go.Proofs.Ytfbelaalmdcaaaa
open Go.RowKit
set_option linter.unusedVariables false

structure K8 (w0 w : World) (gt : Nat) (t : Tp) : Prop where
  low : w0.heap.size ≤ gt
  ok : t.ok
  tp : ∃ gb, w0.heap.size ≤ gb ∧ TpAt w gt gb t
  bel : Below w0.heap.size w0 w
theorem K8.later {w0 w x : World} {gt : Nat} {t : Tp} (h : K8 w0 w gt t) (p : Below w.heap.size w x) : K8 w0 x gt t := by
  obtain ⟨gb, hb, h1⟩ := h.tp
  exact ⟨h.low, h.ok, ⟨gb, hb, h1.later p⟩, h.bel.trans (p.mono h.bel.size)⟩
theorem K8.alloc {w0 w : World} {gt : Nat} {t : Tp} (h : K8 w0 w gt t) (o : Obj) : K8 w0 (w.alloc o) gt t := h.later ((Below.refl _ _).alloc (Nat.le_refl _) _)
theorem K8.drew {w0 w : World} {gt : Nat} {t : Tp} (h : K8 w0 w gt t) : K8 w0 w.drew gt t := h.later ⟨rfl, rfl, rfl, Nat.le_refl _, fun _ _ => rfl⟩
theorem K8.turn {w0 w x : World} {gt gb gb' : Nat} {t u : Tp} (h : K8 w0 w gt t) (hb : w0.heap.size ≤ gb) (hu : u.ok) (h1 : TpAt x gt gb' u) (p : Turn gt gb w x) (h2 : gb' = gb ∨ w.heap.size ≤ gb') : K8 w0 x gt u :=
  ⟨h.low, hu, ⟨gb', by have := h.bel.size; omega, h1⟩, h.bel.trans (p.below h.low hb h.bel.size)⟩
theorem knew8 (r : Int) (w0 w : World) (h : Below w0.heap.size w0 w) :
    Calls Try.prog 20 #[.int .i64 r] w fun e w' => e = .returned (.pointer (some ⟨w.heap.size, 0, none⟩)) ∧ K8 w0 w' w.heap.size (Tp.new r) ∧ Below w.heap.size w w' :=
  (new8_any r w).mono fun e w' he => ⟨he.1, ⟨h.size, Tp.new_ok r, ⟨w.heap.size, h.size, he.2.1⟩, h.trans (he.2.2.mono h.size)⟩, he.2.2⟩
theorem kapp8 (w0 w : World) (gt : Nat) (t : Tp) (h : K8 w0 w gt t) (ad : Option Addr) (n c : Nat) (bs : List UInt8) (hB : IsB w ad n bs) (hnil : ad = none → c = 0) (hs : n ≤ 70000) :
    Calls Try.prog 45 #[.pointer (some ⟨gt, 0, none⟩), .slice ad n c] w fun e w' => e = .returned (.int .i64 (t.app ⟨bs.toArray⟩).2) ∧ K8 w0 w' gt (t.app ⟨bs.toArray⟩).1 := by
  obtain ⟨gb, hb, h1⟩ := h.tp
  refine (app8_any gt gb t ad n c bs w h1 h.ok hB hnil hs).mono ?_
  rintro e w' ⟨rfl, gb', q1, q2, q3⟩
  exact ⟨rfl, h.turn hb (t.app_ok h.ok _) q1 q2 q3⟩
theorem ksync8 (w0 w : World) (gt : Nat) (t : Tp) (h : K8 w0 w gt t) :
    Calls Try.prog 46 #[.pointer (some ⟨gt, 0, none⟩)] w fun e w' => e = .returned (.int .i64 0) ∧ K8 w0 w' gt t.sync := by
  obtain ⟨gb, hb, h1⟩ := h.tp
  exact (sync8_any gt gb t w h1).mono fun e w' he => ⟨he.1, h.turn hb (t.sync_ok h.ok) he.2.1 he.2.2 (.inl rfl)⟩
theorem kcut8 (w0 w : World) (gt : Nat) (t : Tp) (h : K8 w0 w gt t) (n : Int) :
    Calls Try.prog 43 #[.pointer (some ⟨gt, 0, none⟩), .int .i64 n] w fun e w' => e = .returned (.int .i64 (t.cut n).2) ∧ K8 w0 w' gt (t.cut n).1 := by
  obtain ⟨gb, hb, h1⟩ := h.tp
  exact (cut8_any gt gb t n w h1 h.ok).mono fun e w' he => ⟨he.1, h.turn hb (t.cut_ok h.ok n) he.2.1 he.2.2 (.inl rfl)⟩
theorem kchop8 (w0 w : World) (gt : Nat) (t : Tp) (h : K8 w0 w gt t) (n : Int) :
    Calls Try.prog 31 #[.pointer (some ⟨gt, 0, none⟩), .int .i64 n] w fun e w' => e = .returned (.int .i64 (t.chop n).2) ∧ K8 w0 w' gt (t.chop n).1 := by
  obtain ⟨gb, hb, h1⟩ := h.tp
  exact (chop8_any gt gb t n w h1 h.ok).mono fun e w' he => ⟨he.1, h.turn hb (t.chop_ok h.ok n) he.2.1 he.2.2 (.inl rfl)⟩
theorem kcrash8 (w0 w : World) (gt : Nat) (t : Tp) (h : K8 w0 w gt t) (n : Int) :
    Calls Try.prog 12 #[.pointer (some ⟨gt, 0, none⟩), .int .i64 n] w fun e w' => e = .returned (.tuple #[]) ∧ K8 w0 w' gt (t.crash n) := by
  obtain ⟨gb, hb, h1⟩ := h.tp
  exact (crash8_any gt gb t n w h1 h.ok).mono fun e w' he => ⟨he.1, h.turn hb (t.crash_ok h.ok n) he.2.1 he.2.2 (.inl rfl)⟩
theorem klen8 (w0 w : World) (gt : Nat) (t : Tp) (h : K8 w0 w gt t) :
    Calls Try.prog 54 #[.pointer (some ⟨gt, 0, none⟩)] w fun e w' => e = .returned (.int .i64 (t.b.size : Int)) ∧ w = w' := by
  obtain ⟨gb, hb, h1⟩ := h.tp
  exact len8_any gt gb t w h1
theorem kroom8 (w0 w : World) (gt : Nat) (t : Tp) (h : K8 w0 w gt t) :
    Calls Try.prog 38 #[.pointer (some ⟨gt, 0, none⟩)] w fun e w' => e = .returned (.int .i64 (t.m : Int)) ∧ w = w' := by
  obtain ⟨gb, hb, h1⟩ := h.tp
  exact room8_any gt gb t w h1
theorem kbytes8 (w0 w : World) (gt : Nat) (t : Tp) (h : K8 w0 w gt t) :
    Calls Try.prog 27 #[.pointer (some ⟨gt, 0, none⟩)] w fun e w' => ∃ v, e = .returned v ∧ w'.ownsRow w.heap.size 5 1 v t.b.size (toV t.b.data.toList) ∧ K8 w0 w' gt t ∧ Below w.heap.size w w' := by
  obtain ⟨gb, hb, h1⟩ := h.tp
  exact (bytes8_any gt gb t w h1 h.ok).mono fun e w' ⟨v, h2, h3, h4⟩ => ⟨v, h2, h3, h.later h4, h4⟩
end Go.Proofs.Ytfbelaalmdcaaaa

/-
  A log of the code's that a walk keeps, call by call: all that was there when the walk began stays, and so do some blocks beside it.
-/
namespace Go.Proofs.Ytfbelaalmdcaaaa
open Go.RowKit
set_option linter.unusedVariables false

/-- The blocks of P are as they were at wp. -/
structure K9 (P : Nat → Prop) (wp w0 w : World) (gt gl : Nat) (g : Lg) : Prop where
  ok : g.ok
  la : ∃ F, LAc w0.heap.size gt gl w F g ∧ ∀ k, F k → ¬ P k
  stay : ∀ k, P k → k < w.heap.size ∧ w.heap[k]? = wp.heap[k]?
  bel : Below w0.heap.size w0 w
def NoP (_ : Nat) : Prop := False
section
variable {P : Nat → Prop} {wp w0 w x : World} {gt gl : Nat} {g g' : Lg}
theorem K9.later (h : K9 P wp w0 w gt gl g) (p : Below w.heap.size w x) : K9 P wp w0 x gt gl g := by
  obtain ⟨F, h1, h2⟩ := h.la
  exact ⟨h.ok, ⟨F, (base9 _).keep _ _ _ _ _ _ _ h1 (loose_none _ w) (Tn.of_below p) (fun _ _ h => h), h2⟩, fun k hk => ⟨Nat.lt_of_lt_of_le (h.stay k hk).1 p.size, (p.block k (h.stay k hk).1).trans (h.stay k hk).2⟩, h.bel.trans (p.mono h.bel.size)⟩
theorem K9.drew (h : K9 P wp w0 w gt gl g) : K9 P wp w0 w.drew gt gl g := h.later ⟨rfl, rfl, rfl, Nat.le_refl _, fun _ _ => rfl⟩
/-- A call of the log. -/
theorem K9.call (h : K9 P wp w0 w gt gl g) (hok : g'.ok) {Pe : Ending → Prop} {f : FuncId} {args : Array Value} (hc : ∀ F, LAc w0.heap.size gt gl w F g → Calls Try.prog f args w fun e x' => Pe e ∧ Aft (LAc w0.heap.size) gt gl w F g' x') : Calls Try.prog f args w fun e x' => Pe e ∧ K9 P wp w0 x' gt gl g' := by
  obtain ⟨F, h1, h2⟩ := h.la
  have hl := (base9 _).loose _ _ _ _ _ h1
  refine (hc F h1).mono ?_
  rintro e x' ⟨hp, F', q1, q2, q3⟩
  refine ⟨hp, hok, ⟨F', q1, fun k hk hP => ?_⟩, fun k hk => ?_, h.bel.trans (q2.below (fun k hk => (hl k hk).1) h.bel.size)⟩
  · rcases q3 k hk with h6 | h6
    · exact h2 k h6 hP
    · have := (h.stay k hP).1
      omega
  · exact ⟨Nat.lt_of_lt_of_le (h.stay k hk).1 q2.size, (q2.block k (h.stay k hk).1 (fun hf => h2 k hf hk)).trans (h.stay k hk).2⟩
/-- A call that only looks. -/
theorem K9.look (h : K9 P wp w0 w gt gl g) {Pe : Ending → World → Prop} {f : FuncId} {args : Array Value} (hc : ∀ F, LAc w0.heap.size gt gl w F g → Calls Try.prog f args w fun e x' => Pe e x' ∧ Below w.heap.size w x') : Calls Try.prog f args w fun e x' => Pe e x' ∧ K9 P wp w0 x' gt gl g := by
  obtain ⟨F, h1, h2⟩ := h.la
  exact (hc F h1).mono fun e x' hh => ⟨hh.1, h.later hh.2⟩
/-- Other blocks are looked after from now on. -/
theorem K9.mark {Q : Nat → Prop} (h : K9 P wp w0 w gt gl g) (hQ : ∀ k, Q k → k < w.heap.size) (hs : ∀ F, LAc w0.heap.size gt gl w F g → ∀ k, F k → ¬ Q k) : K9 Q w w0 w gt gl g := by
  obtain ⟨F, h1, h2⟩ := h.la
  exact ⟨h.ok, ⟨F, h1, hs F h1⟩, fun k hk => ⟨hQ k hk, rfl⟩, h.bel⟩
/-- What was made since some time on. -/
theorem K9.since {y : World} (h : K9 P wp w0 y gt gl g) (p : Below y.heap.size y w) : K9 (fun k => y.heap.size ≤ k ∧ k < w.heap.size) w w0 w gt gl g := by
  obtain ⟨F, h1, h2⟩ := h.la
  have hl := (base9 _).loose _ _ _ _ _ h1
  have hk := h.later p
  exact ⟨h.ok, ⟨F, (base9 _).keep _ _ _ _ _ _ _ h1 (loose_none _ y) (Tn.of_below p) (fun _ _ h => h), fun k hf hq => by have := (hl k hf).2.1; omega⟩, fun k hk => ⟨hk.2, rfl⟩, hk.bel⟩
/-- Its tape. -/
theorem K9.tape (h : K9 P wp w0 w gt gl g) : ∃ gb, TpAt w gt gb g.t ∧ w0.heap.size ≤ gt ∧ w0.heap.size ≤ gb ∧ ¬ P gt ∧ ¬ P gb := by
  obtain ⟨F, h1, h2⟩ := h.la
  have hl := (base9 _).loose _ _ _ _ _ h1
  obtain ⟨gb, h3, h4, h5⟩ := (base9 _).tape _ _ _ _ _ h1
  exact ⟨gb, h3, (hl gt h4).1, (hl gb h5).1, h2 gt h4, h2 gb h5⟩

/-- A struct of another kind beside it. -/
theorem K9.side (h : K9 P wp w0 w gt gl g) {go : Nat} {t : TypeId} {cs : Array Value} (hr : RowAt w go t cs) (ht : t ≠ 66 ∧ t ≠ 94 ∧ t ≠ 69 ∧ t ≠ 5 ∧ t ≠ 43) : K9 (Is go) w w0 w gt gl g := by
  refine h.mark (fun k hk => by rw [show k = go from hk]; exact hr.lt) (fun F hF k hk e => ?_)
  obtain ⟨gc, gb, a, cap, ms, wa, wc, hL, rfl⟩ := hF
  obtain ⟨_, u, ds, h2, h3⟩ := hL.kinds k hk
  rw [show k = go from e] at h2
  have := row_kind hr h2
  rw [this] at ht
  rcases h3 with h3 | h3 | h3 | h3 | h3
  · exact ht.1 h3
  · exact ht.2.1 h3
  · exact ht.2.2.1 h3
  · exact ht.2.2.2.1 h3
  · exact ht.2.2.2.2 h3
theorem K9.row {go : Nat} {t : TypeId} {cs : Array Value} (h : K9 (Is go) wp w0 w gt gl g) (hr : RowAt wp go t cs) : RowAt w go t cs := (h.stay go rfl).2.trans hr
theorem K9.free (h : K9 P wp w0 w gt gl g) : K9 NoP w0 w0 w gt gl g := by
  obtain ⟨F, h1, h2⟩ := h.la
  exact ⟨h.ok, ⟨F, h1, fun k _ h => h⟩, fun k hk => hk.elim, h.bel⟩

/-! ### The calls -/
theorem kapp9 (h : K9 P wp w0 w gt gl g) (r : Rec) (va vb : Value) (f : Nat) (hd : Int) (hft : r.fits) (hin : RcK w0.heap.size w r va vb) (hf : f < 18446744073709551616) (hh : (Lit.int .i64 hd).wf = true) :
    Calls Try.prog 16 #[.pointer (some ⟨gl, 0, none⟩), .agg (rcA r va vb), .int .u64 (f : Int), .int .i64 hd] w fun e w' => e = .returned (.tuple #[.int .u64 (g.appN r f hd : Int), .int .i64 (g.appE r f hd)]) ∧ K9 P wp w0 w' gt gl (g.app r f hd) :=
  h.call (g.app_ok h.ok r f hd) (fun F hF => append9 _ gt gl w F g r va vb f hd hF h.ok hft hin hf hh)
theorem ksee9 (h : K9 P wp w0 w gt gl g) (n : Nat) (hn : n < 18446744073709551616) :
    Calls Try.prog 21 #[.pointer (some ⟨gl, 0, none⟩), .int .u64 (n : Int)] w fun e w' => e = .returned (.tuple #[]) ∧ K9 P wp w0 w' gt gl (g.see n) :=
  h.call (g.see_ok h.ok n) (fun F hF => see9 _ gt gl w F g n hF h.ok hn)
theorem kwrite9 (h : K9 P wp w0 w gt gl g) :
    Calls Try.prog 25 #[.pointer (some ⟨gl, 0, none⟩)] w fun e w' => e = .returned (.int .i64 0) ∧ K9 P wp w0 w' gt gl g.write :=
  h.call (g.write_ok h.ok) (fun F hF => write9 _ gt gl w F g hF h.ok)
theorem ksync9 (h : K9 P wp w0 w gt gl g) :
    Calls Try.prog 26 #[.pointer (some ⟨gl, 0, none⟩)] w fun e w' => e = .returned (.int .i64 0) ∧ K9 P wp w0 w' gt gl g.sync :=
  h.call (g.sync_ok h.ok) (fun F hF => sync9 _ gt gl w F g hF h.ok)
theorem ktrim9 (h : K9 P wp w0 w gt gl g) (n : Nat) (hn : n < 18446744073709551616) :
    Calls Try.prog 24 #[.pointer (some ⟨gl, 0, none⟩), .int .u64 (n : Int)] w fun e w' => e = .returned (.tuple #[.int .i64 (trimK g.l g.fa n : Int), .int .i64 0]) ∧ K9 P wp w0 w' gt gl (g.trim n) :=
  h.call (g.trim_ok h.ok n) (fun F hF => trim9 _ gt gl w F g n hF h.ok hn)
theorem klast9 (h : K9 P wp w0 w gt gl g) :
    Calls Try.prog 18 #[.pointer (some ⟨gl, 0, none⟩)] w fun e w' => e = .returned (.int .u64 (g.c : Int)) ∧ K9 P wp w0 w' gt gl g :=
  h.look (Pe := fun e _ => e = .returned (.int .u64 (g.c : Int))) (fun F hF => last9 _ gt gl w F g hF h.ok)
theorem kdur9 (h : K9 P wp w0 w gt gl g) :
    Calls Try.prog 11 #[.pointer (some ⟨gl, 0, none⟩)] w fun e w' => e = .returned (.int .u64 (g.du : Int)) ∧ K9 P wp w0 w' gt gl g :=
  h.look (Pe := fun e _ => e = .returned (.int .u64 (g.du : Int))) (fun F hF => durable9 _ gt gl w F g hF h.ok)
theorem kheld9 (h : K9 P wp w0 w gt gl g) :
    Calls Try.prog 15 #[.pointer (some ⟨gl, 0, none⟩)] w fun e w' => e = .returned (.int .i64 (g.hd : Int)) ∧ K9 P wp w0 w' gt gl g :=
  h.look (Pe := fun e _ => e = .returned (.int .i64 (g.hd : Int))) (fun F hF => held9 _ gt gl w F g hF h.ok)
theorem kleft9 (h : K9 P wp w0 w gt gl g) :
    Calls Try.prog 19 #[.pointer (some ⟨gl, 0, none⟩)] w fun e w' => e = .returned (.int .i64 ((g.t.m : Int) - (g.used : Int) - (g.hd : Int))) ∧ K9 P wp w0 w' gt gl g :=
  h.look (Pe := fun e _ => e = .returned (.int .i64 ((g.t.m : Int) - (g.used : Int) - (g.hd : Int)))) (fun F hF => left9 _ gt gl w F g hF h.ok)
theorem kget9 (h : K9 P wp w0 w gt gl g) (n : Nat) :
    Calls Try.prog 22 #[.pointer (some ⟨gl, 0, none⟩), .int .u64 (n : Int)] w fun e w' => GetAns g n w e w' ∧ K9 P wp w0 w' gt gl g := by
  obtain ⟨F, h1, h2⟩ := h.la
  obtain ⟨gc, gb, a, cap, ms, wa, wc, hL, rfl⟩ := h1
  exact (get9_any w n hL h.ok).mono fun e w' hh => ⟨hh, h.later (by obtain ⟨_, _, _, _, _, hb⟩ := hh; exact hb)⟩
theorem krecs9 (h : K9 P wp w0 w gt gl g) :
    Calls Try.prog 10 #[.pointer (some ⟨gl, 0, none⟩)] w fun e w' => ∃ ga ns, e = .returned (.slice (some ⟨ga, 0, none⟩) g.l.length g.l.length) ∧ RI w w' ga g.l.length g g.l.length ns ∧ K9 P wp w0 w' gt gl g := by
  obtain ⟨F, h1, h2⟩ := h.la
  obtain ⟨gc, gb, a, cap, ms, wa, wc, hL, rfl⟩ := h1
  refine (recs9_any w hL h.ok).mono ?_
  rintro e w' ⟨ga, ns, rfl, hr⟩
  exact ⟨ga, ns, rfl, hr, h.later hr.bel⟩
end
/-- A block that is no log's is written. -/
theorem K9.other {P : Nat → Prop} {wp w0 w x : World} {gt gl gR : Nat} {g : Lg} {t : TypeId} {cs : Array Value} (h : K9 P wp w0 w gt gl g) (hr : RowAt w gR t cs) (ht : t ≠ 81 ∧ t ≠ 83) (hlow : w0.heap.size ≤ gR) (hn : ∀ F, LAc w0.heap.size gt gl w F g → ¬ F gR) (hP : ¬ P gR) (hT : Tn (Is gR) w x) : K9 P wp w0 x gt gl g := by
  obtain ⟨F, h1, h2⟩ := h.la
  have hlo : Loose w0.heap.size w (Is gR) := fun k hk => by
    rw [show k = gR from hk]
    exact ⟨hlow, hr.lt, fun u ds hrow => by rw [row_kind hrow hr]; exact ht⟩
  exact ⟨h.ok, ⟨F, (base9 _).keep _ _ _ _ _ _ _ h1 hlo hT (fun k hk e => hn F h1 (by rw [← show k = gR from e]; exact hk)), h2⟩, fun k hk => ⟨Nat.lt_of_lt_of_le (h.stay k hk).1 hT.size, (hT.block k (h.stay k hk).1 (fun e => hP (by rw [← show k = gR from e]; exact hk))).trans (h.stay k hk).2⟩, h.bel.trans (hT.below (fun k hk => by rw [show k = gR from hk]; exact hlow) h.bel.size)⟩
/-- A record's block, newer than a time at which the log was kept. -/
theorem K9.turn {wp w0 w7 w x : World} {gt gl : Nat} {g : Lg} {cs : Array Value} (h7 : K9 NoP wp w0 w7 gt gl g) (p : Below w7.heap.size w7 w) (hr : RowAt w w7.heap.size 43 cs) (hT : Tn (Is w7.heap.size) w x) : K9 NoP wp w0 x gt gl g := by
  obtain ⟨F, h1, h2⟩ := h7.la
  have hl := (base9 _).loose _ _ _ _ _ h1
  have hk := (base9 _).keep _ _ _ _ _ _ _ h1 (loose_none _ w7) (Tn.of_below p) (fun _ _ h => h)
  have hlo : Loose w0.heap.size w (Is w7.heap.size) := fun k hk => by
    rw [show k = w7.heap.size from hk]
    exact ⟨h7.bel.size, hr.lt, fun u ds hrow => by rw [row_kind hrow hr]; decide⟩
  have hb := h7.bel.trans (p.mono h7.bel.size)
  exact ⟨h7.ok, ⟨F, (base9 _).keep _ _ _ _ _ _ _ hk hlo hT (fun k hk e => by have h4 := (hl k hk).2.1; have h5 : k = w7.heap.size := e; omega), h2⟩, fun k hk => hk.elim, hb.trans (hT.below (fun k hk => by rw [show k = w7.heap.size from hk]; exact h7.bel.size) hb.size)⟩
/-- A record's lists beside a record's block that is written. -/
theorem rc_aside {w x : World} {r : Rec} {va vb : Value} {gR : Nat} {cs : Array Value} {base : Nat} (h : GotIn base w r va vb) (hr : RowAt w gR 43 cs) (hT : Tn (Is gR) w x) : GotIn base x r va vb :=
  h.kept (fun k t ds ht hk => hT.row hk (fun e => by
    rw [show k = gR from e] at hk
    have := row_kind hk hr
    rw [this] at ht
    rcases ht with ht | ht <;> exact absurd ht (by decide)))
/-- A tape of its own, opened. -/
theorem kopen9 (P : Nat → Prop) (wp w0 w : World) (gt gb : Nat) (t : Tp) (base : Nat) (ht : TpAt w gt gb t) (ok : t.ok) (hgt : w0.heap.size ≤ gt) (hgb : w0.heap.size ≤ gb) (hP : ¬ P gt ∧ ¬ P gb) (hs : ∀ k, P k → k < w.heap.size ∧ w.heap[k]? = wp.heap[k]?) (hb : Below w0.heap.size w0 w) (hbase : base < 18446744073709551616) :
    Calls Try.prog 13 #[.pointer (some ⟨gt, 0, none⟩), .int .u64 (base : Int)] w fun e x' => ∃ gl, e = .returned (.tuple #[.pointer (some ⟨gl, 0, none⟩), .int .i64 0]) ∧ K9 P wp w0 x' gt gl (Lg.open t base) := by
  refine (open9_any w0.heap.size gt gb w t base ht ok hgt hgb hbase).mono ?_
  rintro e x' ⟨gl, F', rfl, h1, h2, h3, h4⟩
  refine ⟨gl, rfl, Lg.open_ok t ok base, ⟨F', h1, fun k hk hp => ?_⟩, fun k hk => ?_, hb.trans (h2.below (fun k hk => by rcases hk with hk | hk <;> omega) hb.size)⟩
  · rcases h3 k hk with h5 | h5 | h5
    · exact hP.1 (by rw [← h5]; exact hp)
    · exact hP.2 (by rw [← h5]; exact hp)
    · have := (hs k hp).1
      omega
  · exact ⟨Nat.lt_of_lt_of_le (hs k hk).1 h2.size, (h2.block k (hs k hk).1 (fun e => by
      rcases e with e | e
      · exact hP.1 (by rw [← e]; exact hk)
      · exact hP.2 (by rw [← e]; exact hk))).trans (hs k hk).2⟩
/-- A new tape's log. -/
theorem kfirst9 (w0 w : World) (gt : Nat) (t : Tp) (base : Nat) (h : K8 w0 w gt t) (hbase : base < 18446744073709551616) :
    Calls Try.prog 13 #[.pointer (some ⟨gt, 0, none⟩), .int .u64 (base : Int)] w fun e x' => ∃ gl, e = .returned (.tuple #[.pointer (some ⟨gl, 0, none⟩), .int .i64 0]) ∧ K9 NoP w0 w0 x' gt gl (Lg.open t base) := by
  obtain ⟨gb, hb, ht⟩ := h.tp
  exact kopen9 NoP w0 w0 w gt gb t base ht h.ok h.low hb ⟨fun h => h, fun h => h⟩ (fun k hk => hk.elim) h.bel hbase
/-- A record that was there at the beginning. -/
theorem rck9 {w0 w : World} {r : Rec} {va vb : Value} (h : RcIn w0 r va vb) (p : Below w0.heap.size w0 w) : RcK w0.heap.size w r va vb := RcK.first h p
/-- A record without lists. -/
theorem rckn {B : Nat} {w : World} {r : Rec} (h1 : r.ts = []) (h2 : r.ds = []) : RcK B w r (.slice none 0 0) (.slice none 0 0) := by
  refine ⟨⟨?_, ?_⟩, (fun b off n c e hn => (nomatch e)), (fun b off n c e hn => (nomatch e))⟩
  · exact ⟨none, 0, by rw [h1]; rfl, fun hp => absurd hp (by rw [h1]; simp)⟩
  · exact ⟨none, 0, by rw [h2]; rfl, fun hp => absurd hp (by rw [h2]; simp)⟩
/-- Copies that were made stay while their blocks do. -/
theorem RI.stay {w1 w2 x : World} {ga : Nat} {g : Lg} {ns : List Rm} (h : RI w1 w2 ga g.l.length g g.l.length ns) (hs : ∀ k, w1.heap.size ≤ k ∧ k < w2.heap.size → k < x.heap.size ∧ x.heap[k]? = w2.heap[k]?) : RsIn x (.slice (some ⟨ga, 0, none⟩) ns.length g.l.length) ns := by
  obtain ⟨cs, h1, h2⟩ := h.row
  have hg := hs ga ⟨h.low, h1.lt⟩
  refine ⟨⟨_, _, rfl, fun hp => ⟨ga, 0, rfl, hg.1, fun i hi => ?_⟩⟩, fun m hm => ⟨(h.got m hm).1, ?_⟩⟩
  · rw [Nat.zero_add]
    exact fun k u hu => (World.cell?_of_block (a := ⟨ga, i * 14 + k, none⟩) hg.2).trans (h.cell i (by rw [← h.len]; exact hi) k u hu)
  · have hm2 := (h.got m hm).2
    have keep : ∀ {e : TypeId} {sz n : Nat} {v : Value} {xs : List Value}, w2.ownsRow w1.heap.size e sz v n xs → x.ownsRow w1.heap.size e sz v n xs := fun ho => by
      refine ⟨ho.1, ?_⟩
      rcases ho.2 with h4 | ⟨q, c, cur, e, hb, hq, hc⟩
      · exact .inl h4
      · refine .inr ⟨q, c, cur, e, hb, ?_, hc⟩
        rw [(hs q ⟨hb, (Array.getElem?_eq_some_iff.1 hq).1⟩).2]
        exact hq
    exact GotIn.rc (base := w1.heap.size) ⟨keep hm2.1, keep hm2.2⟩
end Go.Proofs.Ytfbelaalmdcaaaa

/-
  The contracts of quaysidelaw09.commit and awake.
-/
namespace Go.Proofs.Ytfbelaalmdcaaaa
open Go.RowKit
set_option linter.unusedVariables false

/-- The smallest record there is. -/
def cmR : Rec := ⟨3, 0, 1, 0, Ch.zero, 0, 0, 0, [], []⟩
theorem cmR_fits : cmR.fits := ⟨zero_fits, Nat.zero_le _, Nat.zero_le _, fun x hx => (nomatch hx), fun x hx => (nomatch hx)⟩
theorem cmR_right (n : Nat) (h1 : 1 ≤ n) (h2 : n ≤ maxP) : (cmR.put n).right := by
  have ek : (cmR.put n).k = 3 := rfl
  have et : (cmR.put n).t = 1 := rfl
  refine ⟨by rw [ek]; decide, by rw [ek]; decide, h1, h2, fun _ => ⟨by rw [et]; decide, by rw [et]; decide, h1⟩, fun h => ?_, fun h => ?_, fun _ => rfl, fun h => ?_, fun _ => rfl, fun h => ?_, fun _ => rfl, fun h => ?_, fun _ => ⟨rfl, rfl, rfl⟩⟩
  all_goals
    rw [ek] at h
    exact absurd h (by decide)
theorem cmR_len (n : Nat) : (frameB (cmR.put n)).length = 27 := by
  rw [frameB_length]
  simp [recB, cmR, Rec.put, beB_length, mayB]
theorem cmA : rcA cmR (.slice none 0 0) (.slice none 0 0) = #[.int .i64 3, .int .u64 0, .int .i64 1, .int .u64 0, .int .i64 0, .int .i64 0, .int .i64 0, .string ⟨#[]⟩, .string ⟨#[]⟩, .int .u64 0, .int .i64 0, .int .u64 0, .slice none 0 0, .slice none 0 0] := rfl
set_option maxRecDepth 4000 in
set_option maxHeartbeats 800000 in
theorem commit9_any (w : World) : Calls Try.prog 17 #[] w fun e w' => e = .returned (.agg (rcA cmR (.slice none 0 0) (.slice none 0 0))) ∧ Below w.heap.size w w' := by
  have HZ := hide (And.intro (RowAt.new w 43 zeroA) ((Below.refl w.heap.size w).alloc (Nat.le_refl _) (.cells zeroA 43)))
  go_enter Try.func17, Try.ntmps17
  go_wp2_with (refine wpList_store_at rfl 43 (.tmp 0) (.tmp 1) rfl w.heap.size zeroA (rcA cmR (.slice none 0 0) (.slice none 0 0)) rfl rfl HZ.out.1 infoRc rfl (by simp [rcA, Value.oneCell']) ?_)
  intro w3 hr3 hk3 hrow3
  have hb3 := hk3 _ _ HZ.out.2 (Nat.le_refl _)
  have HR := hide (And.intro hr3 hb3)
  clear hr3 hk3 hrow3 hb3 HZ
  go_wp2
  exact bodyPost_ret (res_one rfl _ _ w.heap.size (rcA cmR (.slice none 0 0) (.slice none 0 0)) _ rfl HR.out.1 Try.underlying43 rfl infoRc) rfl ⟨rfl, HR.out.2⟩
theorem scan_nil9 : scanL [] = ([], 0) := scan_whole [] trivial
/-- The log of awake. -/
def aw9 : Lg := ⟨⟨⟨#[]⟩, 0, 100, 0⟩, 0, [], 0, 0, 0, 0⟩
theorem aw9_open : Lg.open (Tp.new 100) 0 = aw9 := by
  unfold Lg.open
  have e : (Tp.new 100).b.data.toList = [] := rfl
  rw [e, scan_nil9]
  rfl
theorem aw9_used : aw9.used = 0 := rfl
theorem aw9_app : aw9.appE cmR 0 60 = 0 := by
  unfold Lg.appE
  rw [if_neg (by decide), if_neg (by decide), if_neg (fun h => h (cmR_right 1 (by decide) (by decide))), if_neg]
  have e : aw9.num 0 = 1 := rfl
  rw [e, cmR_len]
  decide
def aw9b : Lg := ⟨⟨⟨#[]⟩, 0, 100, 0⟩, 1, [cmR.put 1], 0, 0, 60, 0⟩
theorem aw9_two : aw9.app cmR 0 60 = aw9b ∧ aw9.appN cmR 0 60 = 1 := by
  obtain ⟨h1, h2⟩ := aw9.app_yes cmR 0 60 aw9_app
  rw [h1, h2]
  exact ⟨rfl, rfl⟩
theorem aw9b_used : aw9b.used = 27 := by
  have e : aw9b.used = 0 + (framesB [cmR.put 1]).length := rfl
  rw [e, frames_one, cmR_len]
theorem aw9b_app : aw9b.appE cmR 0 0 = 7 := by
  unfold Lg.appE
  rw [if_neg (by decide), if_neg (by decide), if_neg (fun h => h (cmR_right 2 (by decide) (by decide))), if_pos]
  have e : aw9b.num 0 = 2 := rfl
  rw [e, cmR_len, aw9b_used]
  decide

set_option maxRecDepth 8000 in
set_option maxHeartbeats 1600000 in
theorem awake9_any (w : World) : Calls Try.prog 7 #[] w fun e w' => e = .returned (.bool true) ∧ Below w.heap.size w w' := by
  go_enter Try.func7, Try.ntmps7
  go_wp2_with fail
  refine (knew8 100 w w (Below.refl _ _)).mono ?_
  rintro e w1 ⟨rfl, h1, -⟩
  have H1 := hide h1
  clear h1
  go_wp2_with fail
  have T := kfirst9 w w1 w.heap.size (Tp.new 100) 0 H1.out (by decide)
  rw [aw9_open] at T
  refine T.mono ?_
  rintro e w2 ⟨gl, rfl, h2⟩
  have H2 := hide h2
  clear h2 T H1
  go_wp2_with fail
  refine (commit9_any w2).mono ?_
  rintro e w3 ⟨rfl, hb3⟩
  have H3 := hide (H2.out.later hb3)
  clear hb3 H2
  go_wp2_with fail
  have T := kapp9 H3.out cmR _ _ 0 60 cmR_fits (rckn (w := w3) rfl rfl) (by decide) (by decide)
  rw [aw9_two.1, aw9_two.2, aw9_app] at T
  refine T.mono ?_
  rintro e w4 ⟨rfl, h4⟩
  have H4 := hide h4
  clear h4 T H3
  go_wp2_with fail
  refine (commit9_any w4).mono ?_
  rintro e w5 ⟨rfl, hb5⟩
  have H5 := hide (H4.out.later hb5)
  clear hb5 H4
  go_wp2_with fail
  have T := kapp9 H5.out cmR _ _ 0 0 cmR_fits (rckn (w := w5) rfl rfl) (by decide) (by decide)
  have hno := aw9b.app_no cmR 0 0 (by rw [aw9b_app]; decide)
  rw [hno.1, hno.2, aw9b_app] at T
  refine T.mono ?_
  rintro e w6 ⟨rfl, h6⟩
  have H6 := hide h6
  clear h6 T H5 hno
  go_wp2_with fail
  have T := kleft9 H6.out
  have e1 : (aw9b.t.m : Int) - (aw9b.used : Int) - (aw9b.hd : Int) = 13 := by rw [aw9b_used]; rfl
  rw [e1] at T
  refine T.mono ?_
  rintro e w7 ⟨rfl, h7⟩
  have H7 := hide h7
  clear h7 T H6 e1
  go_wp2_with fail
  refine (krecs9 H7.out).mono ?_
  rintro e w8 ⟨ga, ns, rfl, -, h8⟩
  have e2 : aw9b.l.length = 1 := rfl
  rw [e2]
  have H8 := hide h8
  clear h8 H7 e2
  go_wp2
  go_ret
  exact ⟨rfl, H8.out.bel⟩
end Go.Proofs.Ytfbelaalmdcaaaa

/-
  The calls of a script of a log, in lists that come in, opened.
-/
namespace Go.Proofs.Ytfbelaalmdcaaaa
open Go.ChangeShapes Go.WideShapes Go.ChangeAt Go.RowKit Go.Deep Go.Joins
set_option linter.unusedVariables false

set_option maxRecDepth 40000 in
/-- A call of a script. -/
structure Wc where
  k : Int
  m : Rec × Value × Value
  n : Nat
  h : Int
set_option maxRecDepth 40000 in
def wcA (c : Wc) : Array Value := #[.int .i64 c.k, .int .i64 c.m.1.k, .int .u64 (c.m.1.l : Int), .int .i64 c.m.1.t, .int .u64 (c.m.1.p : Int), .int .i64 c.m.1.c.k, .int .i64 c.m.1.c.pg, .int .i64 c.m.1.c.sl, .string c.m.1.c.o, .string c.m.1.c.n, .int .u64 (c.m.1.n : Int), .int .i64 c.m.1.s, .int .u64 (c.m.1.b : Int), c.m.2.1, c.m.2.2, .int .u64 (c.n : Int), .int .i64 c.h]
set_option maxRecDepth 40000 in
def Wc.zero : Wc := ⟨0, rcZ, 0, 0⟩
set_option maxRecDepth 40000 in
def Wc.fits (c : Wc) : Prop := (Lit.int .i64 c.k).wf = true ∧ (Lit.int .u64 (c.n : Int)).wf = true ∧ (Lit.int .i64 c.h).wf = true ∧ c.m.1.fits
section
variable {H : Type} {enc : TypeId × Value → H} {W : World}

set_option maxRecDepth 40000 in
theorem trod_st4 {P : Program} {t : TypeId} {f0 f1 f2 f3 : Field} {fuel : Nat} {cs : List Value} {x : DataW H × List MemPlace} (ht : P.underlying t = some (.struct #[f0, f1, f2, f3])) (h : DataW.trod enc P W 0 (fun _ => true) true fuel t cs = some x) :
    ∃ y0 y1 y2 y3 n, cs.length = P.cellsOf t ∧ DataW.trod enc P W 0 (fun _ => true) true n f0.type ((cs.drop f0.offset).take (P.cellsOf f0.type)) = some y0 ∧ DataW.trod enc P W 0 (fun _ => true) true n f1.type ((cs.drop f1.offset).take (P.cellsOf f1.type)) = some y1 ∧ DataW.trod enc P W 0 (fun _ => true) true n f2.type ((cs.drop f2.offset).take (P.cellsOf f2.type)) = some y2 ∧ DataW.trod enc P W 0 (fun _ => true) true n f3.type ((cs.drop f3.offset).take (P.cellsOf f3.type)) = some y3 := by
  obtain ⟨xs, n, _, rfl, hl, hlen, hf⟩ := DataW.trod_struct ht h
  match xs, hlen with
  | [y0, y1, y2, y3], _ => exact ⟨y0, y1, y2, y3, n, hl, by simpa using hf 0 f0 rfl, by simpa using hf 1 f1 rfl, by simpa using hf 2 f2 rfl, by simpa using hf 3 f3 rfl⟩
set_option maxRecDepth 40000 in
theorem elem_wc (n : Nat) (cs : List Value) (y : DataW H × List MemPlace) (h : DataW.trod enc Try.prog W 0 (fun _ => true) true n 52 cs = some y) : ∃ c : Wc, cs = (wcA c).toList ∧ (c.fits ∧ RcIn W c.m.1 c.m.2.1 c.m.2.2) := by
  obtain ⟨y0, y1, y2, y3, m, hl, h0, h1, h2, h3⟩ := trod_st4 Try.underlying52 h
  have hC : Try.prog.cellsOf 52 = 17 := by kernel_rfl
  rw [hC] at hl
  match cs, hl with
  | [c0, c1, c2, c3, c4, c5, c6, c7, c8, c9, c10, c11, c12, c13, c14, c15, c16], _ =>
    have e0 : Try.prog.cellsOf 3 = 1 := by kernel_rfl
    have e1 : Try.prog.cellsOf 31 = 1 := by kernel_rfl
    have e2 : Try.prog.cellsOf 43 = 14 := by kernel_rfl
    simp only [e0, e1, e2, List.drop_zero, List.drop_succ_cons, List.take_succ_cons, List.take_zero] at h0 h1 h2 h3
    obtain ⟨i0, g0, _, w0⟩ := DataW.trod_int Try.underlying3 h0
    obtain ⟨r, g1, w1, u1⟩ := elem_rec _ _ _ h1
    obtain ⟨i2, g2, _, w2⟩ := DataW.trod_int Try.underlying31 h2
    obtain ⟨i3, g3, _, w3⟩ := DataW.trod_int Try.underlying3 h3
    simp only [rcF, rcA, List.cons.injEq, and_true] at g0 g1 g2 g3
    obtain ⟨a1, a2, a3, a4, a5, a6, a7, a8, a9, a10, a11, a12, a13, a14⟩ := g1
    subst g0 a1 a2 a3 a4 a5 a6 a7 a8 a9 a10 a11 a12 a13 a14 g2 g3
    obtain ⟨j2, rfl⟩ := u64_nat w2
    exact ⟨⟨i0, r, j2, i3⟩, rfl, ⟨w0, w2, w3, w1⟩, u1⟩
set_option maxRecDepth 40000 in
/-- A script. -/
theorem op_wcs {v : Value} {d : DataW H} {p : List MemPlace} {r : Reach} {b0 : Nat} (hv : Value.okWide Try.prog W r b0 22 v) (h : DataW.Trod enc Try.prog W 0 (fun _ => true) true 22 v d p) :
    ∃ cs : List Wc, RowsIn wcA Wc.zero 17 W v cs ∧ cs.length ≤ maxLen ∧ (∀ c ∈ cs, c.fits ∧ RcIn W c.m.1 c.m.2.1 c.m.2.2) ∧ ∀ a len cap, v = .slice a len cap → len ≤ cap := by
  obtain ⟨fuel, hf⟩ := h
  obtain ⟨a, len, cap, rfl⟩ := okWide_slice Try.underlying22 hv
  have hf2 : DataW.trod enc Try.prog W 0 (fun _ => true) true fuel 22 [.slice a len cap] = some (d, p) := hf
  obtain ⟨cs, h1, h2, h3⟩ := op_rows (sz := 17) wcA Wc.zero (fun c => c.fits ∧ RcIn W c.m.1 c.m.2.1 c.m.2.2) elem_wc Try.underlying22 (by kernel_rfl) (fun _ => rfl) (by decide) hf2
  exact ⟨cs, h1, h2, h3, fun a' l' c' e => (op_cap Try.underlying22 hf2 e).1⟩
set_option maxRecDepth 40000 in
/-- One call by value. -/
theorem op_wc {v : Value} {d : DataW H} {p : List MemPlace} {r : Reach} {b0 : Nat} (hv : Value.okWide Try.prog W r b0 52 v) (h : DataW.Trod enc Try.prog W 0 (fun _ => true) true 52 v d p) :
    ∃ c : Wc, v = .agg (wcA c) ∧ c.fits ∧ RcIn W c.m.1 c.m.2.1 c.m.2.2 := by
  obtain ⟨cs, rfl, hsz⟩ := okWide_struct Try.underlying52 hv
  obtain ⟨fuel, hf⟩ := h
  obtain ⟨l⟩ := cs
  obtain ⟨c, hc, hft⟩ := elem_wc _ _ _ hf
  have hc2 : l = (wcA c).toList := hc
  subst hc2
  exact ⟨c, rfl, hft⟩
end
end Go.Proofs.Ytfbelaalmdcaaaa

/-
  The contract of quaysidelaw09.few.
-/
namespace Go.Proofs.Ytfbelaalmdcaaaa
open Go.RowKit
set_option linter.unusedVariables false

/-- A call of a script that lies there. -/
theorem wcs_cell {w : World} {a : Option Addr} {cap : Nat} {cs : List Wc} (h : RowsIn wcA Wc.zero 17 w (.slice a cs.length cap) cs) (hp : 0 < cs.length) :
    ∃ b off, a = some ⟨b, off, none⟩ ∧ b < w.heap.size ∧ ∀ i, i < cs.length → w.rangeAt b (off + i * 17) (wcA (cs.getD i Wc.zero)).toList := by
  obtain ⟨a', cap', e, h2⟩ := h
  injection e with e1 e2 e3
  subst e1
  exact h2 hp
/-- A record's lists are slices of their lengths. -/
theorem rc_slices {w : World} {r : Rec} {va vb : Value} (h : RcIn w r va vb) : ∃ a c b d, va = .slice a r.ts.length c ∧ vb = .slice b r.ds.length d := by
  obtain ⟨⟨a, c, e1, _⟩, ⟨b, d, e2, _⟩⟩ := h
  exact ⟨a, c, b, d, e1, e2⟩

set_option maxRecDepth 4000 in
set_option maxHeartbeats 400000 in
theorem few9_long (a : Option Addr) (len cap : Nat) (w : World) (h : 100 < len) :
    Calls Try.prog 8 #[.slice a len cap] w fun e w' => e = .returned (.bool false) ∧ w = w' := by
  have h1 : (100 : Int) < (len : Int) := by omega
  go_enter Try.func8, Try.ntmps8
  go_wp2
  go_ret
  exact ⟨rfl, rfl⟩

/-- What few tells. -/
def Few9 (cs : List Wc) (w : World) (e : Ending) (w' : World) : Prop := ∃ q, e = .returned (.bool q) ∧ ((q = true → cs.length ≤ 100 ∧ ∀ i, i < cs.length → (cs.getD i Wc.zero).m.1.ts.length ≤ 100 ∧ (cs.getD i Wc.zero).m.1.ds.length ≤ 100) ∧ ((cs.length ≤ 100 ∧ ∀ i, i < cs.length → (cs.getD i Wc.zero).m.1.ts.length ≤ 100 ∧ (cs.getD i Wc.zero).m.1.ds.length ≤ 100) → q = true)) ∧ w = w'
set_option maxRecDepth 4000 in
set_option maxHeartbeats 800000 in
theorem few9_any (v : Value) (cs : List Wc) (w : World) (h : RowsIn wcA Wc.zero 17 w v cs) (hr : ∀ c ∈ cs, RcIn w c.m.1 c.m.2.1 c.m.2.2) (hc : ∀ a len cap, v = .slice a len cap → len ≤ cap) :
    Calls Try.prog 8 #[v] w (Few9 cs w) := by
  have h' := h
  obtain ⟨a, cap, rfl, -⟩ := h'
  have hcap := hc _ _ _ rfl
  by_cases hl : 100 < cs.length
  · exact (few9_long a cs.length cap w hl).mono fun e w' he => ⟨false, he.1, ⟨fun h => (nomatch h), fun hq => absurd hq.1 (by omega)⟩, he.2⟩
  have h1 : ¬ (100 : Int) < (cs.length : Int) := by omega
  have HC := hide (wcs_cell h)
  have HRR := hide (fun i (hi : i < cs.length) => rc_slices (hr (cs.getD i Wc.zero) (by
    rw [List.getD_eq_getElem?_getD, List.getElem?_eq_getElem hi]
    exact List.getElem_mem hi)))
  obtain ⟨ln, hln⟩ : ∃ ln, cs.length = ln := ⟨_, rfl⟩
  rw [hln] at HC HRR h1 hl hcap ⊢
  have HLN := hide hln
  clear h hc hln hr
  go_enter Try.func8, Try.ntmps8
  go_wp2
  go_loopw [9] (fun i wr => ∃ j : Nat, j ≤ ln ∧ i = .int .i64 j ∧ w = wr ∧ ∀ i, i < j → (cs.getD i Wc.zero).m.1.ts.length ≤ 100 ∧ (cs.getD i Wc.zero).m.1.ds.length ≤ 100) (fun i _ => ln - (intOf i).toNat)
  case atStart => exact ⟨0, Nat.zero_le _, rfl, rfl, fun i hi => absurd hi (Nat.not_lt_zero _)⟩
  case round =>
    obtain ⟨j, hj, rfl, rfl, hall⟩ := hrel
    by_cases hlt : j < ln
    · obtain ⟨b, off, rfl, -, hcell⟩ := HC.out (by omega)
      obtain ⟨a1, c1, a2, c2, ht, hd⟩ := HRR.out j hlt
      have d1 := hcell j hlt 13 _ rfl
      have d2 := hcell j hlt 14 _ rfl
      rw [ht] at d1
      rw [hd] at d2
      have hjc : (j : Int) < (ln : Int) := by omega
      have HA := hide hall
      clear hcell HC hall HRR ht hd
      obtain ⟨T, hT⟩ : ∃ T, T = (cs.getD j Wc.zero).m.1.ts.length := ⟨_, rfl⟩
      obtain ⟨D, hD⟩ : ∃ D, D = (cs.getD j Wc.zero).m.1.ds.length := ⟨_, rfl⟩
      rw [← hT] at d1
      rw [← hD] at d2
      have HT := hide (And.intro hT hD)
      clear hT hD
      by_cases hs : T ≤ 100 ∧ D ≤ 100
      · have hs1 : ¬ (100 : Int) < (T : Int) := by omega
        have hs2 : ¬ (100 : Int) < (D : Int) := by omega
        clear hs
        go_wp2
        go_roundw
        case rel =>
          refine ⟨j + 1, by omega, by go_num, by first | rfl | trivial, fun i hi => ?_⟩
          by_cases e : i = j
          · rw [e, ← HT.out.1, ← HT.out.2]
            omega
          · exact HA.out i (by omega)
        case measure => simp [intOf]; omega
      · by_cases hs1 : (100 : Int) < (T : Int)
        · clear hs
          go_wp2
          go_ret
          exact ⟨false, rfl, ⟨fun h => (nomatch h), fun hq => absurd (hq.2 j (by have := HLN.out; omega)) (by rw [← HT.out.1, ← HT.out.2]; omega)⟩, rfl⟩
        · have hs2 : (100 : Int) < (D : Int) := by omega
          clear hs
          go_wp2
          go_ret
          exact ⟨false, rfl, ⟨fun h => (nomatch h), fun hq => absurd (hq.2 j (by have := HLN.out; omega)) (by rw [← HT.out.1, ← HT.out.2]; omega)⟩, rfl⟩
    · obtain rfl : j = ln := by omega
      go_wp2
      go_ret
      exact ⟨true, rfl, ⟨fun _ => ⟨by have := HLN.out; omega, fun i hi => hall i (by have := HLN.out; omega)⟩, fun _ => rfl⟩, rfl⟩
theorem few9_yes (v : Value) (cs : List Wc) (w : World) (h : RowsIn wcA Wc.zero 17 w v cs) (hr : ∀ c ∈ cs, RcIn w c.m.1 c.m.2.1 c.m.2.2) (hc : ∀ a len cap, v = .slice a len cap → len ≤ cap) (hq : cs.length ≤ 100 ∧ ∀ i, i < cs.length → (cs.getD i Wc.zero).m.1.ts.length ≤ 100 ∧ (cs.getD i Wc.zero).m.1.ds.length ≤ 100) :
    Calls Try.prog 8 #[v] w fun e w' => e = .returned (.bool true) ∧ w = w' := (few9_any v cs w h hr hc).mono fun e w' ⟨q, h1, h2, h3⟩ => by
  rw [h2.2 hq] at h1
  exact ⟨h1, h3⟩
end Go.Proofs.Ytfbelaalmdcaaaa

/-
  The contract of quaysidelaw09.played.
-/
namespace Go.Proofs.Ytfbelaalmdcaaaa
open Go.RowKit
set_option linter.unusedVariables false

theorem infoWc : (Try.prog.info? 52).map (·.size) = some 17 := by kernel_rfl
def wcZ : Array Value := #[.int .i64 0, .int .i64 0, .int .u64 0, .int .i64 0, .int .u64 0, .int .i64 0, .int .i64 0, .int .i64 0, .string ⟨#[]⟩, .string ⟨#[]⟩, .int .u64 0, .int .i64 0, .int .u64 0, .slice none 0 0, .slice none 0 0, .int .u64 0, .int .i64 0]
/-- A script's call, loaded. -/
theorem load_wc (y : World) (b k : Nat) (c : Wc) (h : y.rangeAt b k (wcA c).toList) : (Instr.loadAt 52 (.pointer (some ⟨b, k, none⟩))).run Try.prog y = .ok (.agg (wcA c)) y := by
  have h1 := run_loadAt_mid (P := Try.prog) y b k 52 (wcA c).toList _ h Try.underlying52 rfl (by rw [infoWc]; rfl)
  rwa [Array.toArray_toList] at h1
/-- Its record. -/
theorem load_wr (y : World) (b : Nat) (c : Wc) (h : RowAt y b 52 (wcA c)) : (Instr.loadAt 43 (.pointer (some ⟨b, 1, none⟩))).run Try.prog y = .ok (.agg (rcA c.m.1 c.m.2.1 c.m.2.2)) y := by
  refine load_mid y b 1 c.m (fun j u hu => ?_)
  have hj : j < 14 := (List.getElem?_eq_some_iff.1 hu).1
  have e : (wcA c)[1 + j]? = some u := by
    rw [← hu]
    have h3 : j = 0 ∨ j = 1 ∨ j = 2 ∨ j = 3 ∨ j = 4 ∨ j = 5 ∨ j = 6 ∨ j = 7 ∨ j = 8 ∨ j = 9 ∨ j = 10 ∨ j = 11 ∨ j = 12 ∨ j = 13 := by omega
    rcases h3 with rfl | rfl | rfl | rfl | rfl | rfl | rfl | rfl | rfl | rfl | rfl | rfl | rfl | rfl <;> rfl
  exact h.cell (1 + j) u e
theorem wcA_all (c : Wc) (h1 : ∃ a n d, c.m.2.1 = .slice a n d) (h2 : ∃ a n d, c.m.2.2 = .slice a n d) : (wcA c).all (·.oneCell') = true := by
  obtain ⟨a, n, d, h1⟩ := h1
  obtain ⟨b, m, e, h2⟩ := h2
  simp [wcA, h1, h2, Value.oneCell']
/-- A script that came in. -/
structure Scr (w0 : World) (v : Value) (cs : List Wc) : Prop where
  rows : RowsIn wcA Wc.zero 17 w0 v cs
  fits : ∀ c ∈ cs, c.fits ∧ RcIn w0 c.m.1 c.m.2.1 c.m.2.2
  cap : ∀ a len cap, v = .slice a len cap → len ≤ cap
theorem Scr.at {w0 x : World} {a : Option Addr} {len cap : Nat} {cs : List Wc} (h : Scr w0 (.slice a len cap) cs) (p : Below w0.heap.size w0 x) {j : Nat} (hj : j < cs.length) : ∃ b off, a = some ⟨b, off, none⟩ ∧ (Instr.loadAt 52 (.pointer (some ⟨b, off + j * 17, none⟩))).run Try.prog x = .ok (.agg (wcA (cs.getD j Wc.zero))) x ∧ (cs.getD j Wc.zero).fits ∧ RcIn w0 (cs.getD j Wc.zero).m.1 (cs.getD j Wc.zero).m.2.1 (cs.getD j Wc.zero).m.2.2 := by
  obtain ⟨a', cap', e, h2⟩ := h.rows
  injection e with e1 e2 e3
  subst e1
  obtain ⟨b, off, h3, h4, h5⟩ := h2 (by omega)
  have hm : cs.getD j Wc.zero ∈ cs := by
    rw [List.getD_eq_getElem?_getD, List.getElem?_eq_getElem hj]
    exact List.getElem_mem hj
  exact ⟨b, off, h3, load_wc x b _ _ (rangeAt_below (h5 j hj) p h4), h.fits _ hm⟩
theorem Scr.len {w0 : World} {a : Option Addr} {len cap : Nat} {cs : List Wc} (h : Scr w0 (.slice a len cap) cs) : len = cs.length := by
  obtain ⟨a', cap', e, h2⟩ := h.rows
  injection e
theorem wf_u64 {n : Nat} (h : (Lit.int .u64 (n : Int)).wf = true) : n < 18446744073709551616 := by
  have := (bounds_u64 h).2
  omega
set_option maxRecDepth 8000 in
set_option maxHeartbeats 3200000 in
theorem played9_at (room : Int) (v : Value) (cs : List Wc) (w0 w : World) (hs : Scr w0 v cs) (hl : cs.length ≤ 100) (hbw : Below w0.heap.size w0 w) :
    Calls Try.prog 9 #[.int .i64 room, v] w fun e w' => ∃ gt gl g, e = .returned (.tuple #[.pointer (some ⟨gt, 0, none⟩), .pointer (some ⟨gl, 0, none⟩)]) ∧ K9 NoP w0 w0 w' gt gl g := by
  have hs' := hs
  obtain ⟨⟨a, cap, rfl, -⟩, -, hcap⟩ := hs'
  have hcap := hcap _ _ _ rfl
  have HS := hide hs
  have HBW := hide hbw
  clear hs hbw
  obtain ⟨ln, hln⟩ : ∃ ln, ln = cs.length := ⟨_, rfl⟩
  rw [← hln] at HS hl hcap ⊢
  have HLN := hide hln
  clear hln
  go_enter Try.func9, Try.ntmps9
  go_wp2_with fail
  refine (knew8 room w0 w HBW.out).mono ?_
  rintro e w1 ⟨rfl, h1, -⟩
  have H1 := hide h1
  clear h1
  obtain ⟨gt, hgt⟩ : ∃ gt, gt = w.heap.size := ⟨_, rfl⟩
  rw [← hgt] at H1 ⊢
  clear hgt
  go_wp2_with fail
  refine (kfirst9 w0 w1 gt (Tp.new room) 0 H1.out (by decide)).mono ?_
  rintro e w2 ⟨gl, rfl, h2⟩
  have H2 := hide h2
  clear h2 H1
  go_wp2
  go_loopw [26] (fun i wr => ∃ j : Nat, j ≤ ln ∧ i = .int .i64 (j : Int) ∧ ∃ g, Hid (K9 NoP w0 w0 wr gt gl g)) (fun i _ => ln - (intOf i).toNat)
  case atStart => exact ⟨0, Nat.zero_le _, rfl, _, H2⟩
  case round =>
    obtain ⟨j, hj, rfl, g, HK⟩ := hrel
    clear H2
    by_cases hlt : j < ln
    · have ij : (j : Int) < (ln : Int) := by omega
      obtain ⟨b, off, rfl, hld, hft, hin⟩ := HS.out.at HK.out.bel (j := j) (by have := HLN.out; omega)
      obtain ⟨c, hc⟩ : ∃ c, c = cs.getD j Wc.zero := ⟨_, rfl⟩
      rw [← hc] at hld hft hin
      clear hc
      have HLD := hide hld
      have hb1 : Below wr.heap.size wr (wr.alloc (.cells wcZ 52)) := (Below.refl _ _).alloc (Nat.le_refl _) _
      have HZ := hide (And.intro (RowAt.new wr 52 wcZ) hb1)
      obtain ⟨⟨a1, c1, h1⟩, a2, c2, h2⟩ := rcF_slices hin
      have HFT := hide (And.intro hft hin)
      have HAL := hide (wcA_all c ⟨a1, _, c1, h1⟩ ⟨a2, _, c2, h2⟩)
      clear hld hb1 hft hin h1 h2
      go_wp2_with (first | (refine wpList_load_val rfl 52 (.tmp 31) rfl _ _ rfl HLD.out ?_) | (refine wpList_store_at rfl 52 (.tmp 10) (.tmp 32) rfl wr.heap.size wcZ (wcA c) rfl rfl HZ.out.1 infoWc rfl HAL.out ?_; intro w3 hr3 hk3 hrow3; refine stop9 ?_))
      have hb3 := hk3 _ _ HZ.out.2 (Nat.le_refl _)
      have H3 := hide (And.intro hr3 (HK.out.later hb3))
      obtain ⟨go, hgo⟩ : ∃ go, go = wr.heap.size := ⟨_, rfl⟩
      rw [← hgo] at H3 ⊢
      clear hr3 hk3 hrow3 hb3 HZ HLD HAL HK hgo
      have HWR := hide (load_wr w3 go c H3.out.1)
      have z0 := H3.out.1.cell 0 (.int .i64 c.k) rfl
      have z15 := H3.out.1.cell 15 (.int .u64 (c.n : Int)) rfl
      have z16 := H3.out.1.cell 16 (.int .i64 c.h) rfl
      have HN := hide (wf_u64 HFT.out.1.2.1)
      have b1 : (c.k == 1) = decide (c.k = 1) := by rw [Bool.eq_iff_iff]; simp
      have b2 : (c.k == 2) = decide (c.k = 2) := by rw [Bool.eq_iff_iff]; simp
      have b3 : (c.k == 3) = decide (c.k = 3) := by rw [Bool.eq_iff_iff]; simp
      have b4 : (c.k == 4) = decide (c.k = 4) := by rw [Bool.eq_iff_iff]; simp
      have b5 : (c.k == 5) = decide (c.k = 5) := by rw [Bool.eq_iff_iff]; simp
      obtain ⟨k, hk⟩ : ∃ k, k = c.k := ⟨_, rfl⟩
      rw [← hk] at b1 b2 b3 b4 b5 z0
      clear hk
      refine unstop9 ?_
      by_cases k1 : k = 1
      · subst k1
        clear b1 b2 b3 b4 b5
        go_wp2_with (refine wpList_load_val rfl 43 (.tmp 38) rfl _ _ rfl HWR.out ?_)
        refine (kapp9 H3.out.2 c.m.1 c.m.2.1 c.m.2.2 c.n c.h HFT.out.1.2.2.2 (rck9 HFT.out.2 H3.out.2.bel) HN.out HFT.out.1.2.2.1).mono ?_
        rintro e w4 ⟨rfl, h4⟩
        have H4 := hide h4
        clear h4 H3 HWR z0 z15 z16
        go_wp2
        go_roundw
        case rel => exact ⟨j + 1, by omega, by go_num, _, H4⟩
        case measure => simp [intOf]; omega
      all_goals by_cases k2 : k = 2
      · subst k2
        clear b1 b2 b3 b4 b5 k1
        go_wp2_with fail
        refine (kwrite9 H3.out.2).mono ?_
        rintro e w4 ⟨rfl, h4⟩
        have H4 := hide h4
        clear h4 H3 HWR z0 z15 z16
        go_wp2
        go_roundw
        case rel => exact ⟨j + 1, by omega, by go_num, _, H4⟩
        case measure => simp [intOf]; omega
      all_goals by_cases k3 : k = 3
      · subst k3
        clear b1 b2 b3 b4 b5 k1 k2
        go_wp2_with fail
        refine (ksync9 H3.out.2).mono ?_
        rintro e w4 ⟨rfl, h4⟩
        have H4 := hide h4
        clear h4 H3 HWR z0 z15 z16
        go_wp2
        go_roundw
        case rel => exact ⟨j + 1, by omega, by go_num, _, H4⟩
        case measure => simp [intOf]; omega
      all_goals by_cases k4 : k = 4
      · subst k4
        clear b1 b2 b3 b4 b5 k1 k2 k3
        go_wp2_with fail
        refine (ktrim9 H3.out.2 c.n HN.out).mono ?_
        rintro e w4 ⟨rfl, h4⟩
        have H4 := hide h4
        clear h4 H3 HWR z0 z15 z16
        go_wp2
        go_roundw
        case rel => exact ⟨j + 1, by omega, by go_num, _, H4⟩
        case measure => simp [intOf]; omega
      all_goals by_cases k5 : k = 5
      · subst k5
        clear b1 b2 b3 b4 b5 k1 k2 k3 k4
        go_wp2_with fail
        refine (ksee9 H3.out.2 c.n HN.out).mono ?_
        rintro e w4 ⟨rfl, h4⟩
        have H4 := hide h4
        clear h4 H3 HWR z0 z15 z16
        go_wp2
        go_roundw
        case rel => exact ⟨j + 1, by omega, by go_num, _, H4⟩
        case measure => simp [intOf]; omega
      · simp only [k1, k2, k3, k4, k5, decide_false] at b1 b2 b3 b4 b5
        have HK2 := hide H3.out.2
        go_wp2
        go_roundw
        case rel => exact ⟨j + 1, by omega, by go_num, _, HK2⟩
        case measure => simp [intOf]; omega
    · go_wp2
      go_ret2
      exact ⟨gt, gl, g, rfl, HK.out⟩
/-- .. behind what was made since the beginning. -/
theorem Scr.later {w0 x : World} {v : Value} {cs : List Wc} (h : Scr w0 v cs) (p : Below w0.heap.size w0 x) : Scr x v cs :=
  ⟨h.rows.below p, fun c hc => ⟨(h.fits c hc).1, (h.fits c hc).2.below p⟩, h.cap⟩
theorem K9.from {P : Nat → Prop} {wp w0 w1 w : World} {gt gl : Nat} {g : Lg} (h : K9 P wp w1 w gt gl g) (p : Below w0.heap.size w0 w1) : Below w0.heap.size w0 w := p.trans (h.bel.mono p.size)
/-- few answers yes or no, in every world behind the beginning. -/
theorem few9_two (v : Value) (cs : List Wc) (w : World) (hs : Scr w v cs) :
    (cs.length ≤ 100 ∧ ∀ x, Below w.heap.size w x → Calls Try.prog 8 #[v] x (fun e w' => e = .returned (.bool true) ∧ x = w')) ∨ (∀ x, Below w.heap.size w x → Calls Try.prog 8 #[v] x (fun e w' => e = .returned (.bool false) ∧ x = w')) := by
  by_cases hq : cs.length ≤ 100 ∧ ∀ i, i < cs.length → (cs.getD i Wc.zero).m.1.ts.length ≤ 100 ∧ (cs.getD i Wc.zero).m.1.ds.length ≤ 100
  · exact .inl ⟨hq.1, fun x p => few9_yes v cs x (hs.later p).rows (fun c hc => ((hs.later p).fits c hc).2) hs.cap hq⟩
  · exact .inr fun x p => (few9_any v cs x (hs.later p).rows (fun c hc => ((hs.later p).fits c hc).2) hs.cap).mono fun e w' ⟨q, h1, h2, h3⟩ => by
      cases q with
      | false => exact ⟨h1, h3⟩
      | true => exact absurd (h2.1 rfl) hq
end Go.Proofs.Ytfbelaalmdcaaaa

/-
  The document's clock inside a log: See, at a cell.
-/
namespace Go.Proofs.Ytfbelaalmdcaaaa
open Go.RowKit
set_option linter.unusedVariables false

end Go.Proofs.Ytfbelaalmdcaaaa

/-
  The contracts of quaysideref08's functions: the document's tape.
-/
namespace Go.Proofs.Ytfbelaalmdcaaaa
open Go.RowKit
set_option linter.unusedVariables false

theorem load8_s {b j : Nat} (x : World) (v : ByteArray) (h : x.cell? ⟨b, j, none⟩ = some (.string v)) : (Instr.loadAt 9 (.pointer (some ⟨b, j, none⟩))).run Try.prog x = .ok (.string v) x := by
  go_simp
theorem load8_i {b j : Nat} (x : World) (v : Int) (h : x.cell? ⟨b, j, none⟩ = some (.int .i64 v)) : (Instr.loadAt 3 (.pointer (some ⟨b, j, none⟩))).run Try.prog x = .ok (.int .i64 v) x := by
  go_simp

/-! ### The contracts -/
end Go.Proofs.Ytfbelaalmdcaaaa

/-
  The document's log in memory.
-/
namespace Go.Proofs.Ytfbelaalmdcaaaa
open Go.RowKit
set_option linter.unusedVariables false

def rlA (gr : Nat) (a : Option Addr) (cap : Nat) (g : Lg) : Array Value := #[.pointer (some ⟨gr, 0, none⟩), .int .u64 (g.c : Int), .slice a g.l.length cap, .int .i64 (g.on : Int), .int .i64 (g.fa : Int), .int .i64 (g.hd : Int), .int .u64 (g.du : Int)]
/-- Its blocks. -/
def FL (gw gr : Nat) (a : Option Addr) (k : Nat) : Prop := k = gw ∨ k = gr ∨ blk a k
/-- A record's LSN. -/
theorem RB.lsn {B : Nat} {w : World} {a : Option Addr} {cap : Nat} {ms : List Rm} (h : RB B w a cap ms) {i : Nat} (hi : i < ms.length) : ∃ b off, a = some ⟨b, off, none⟩ ∧ w.cell? ⟨b, off + i * 14 + 1, none⟩ = some (.int .u64 ((ms.getD i rcZ).1.l : Int)) := by
  rcases h.1 with ⟨_, rfl, _⟩ | ⟨b, off, cs, rfl, _, _, _, _, h5⟩
  · exact absurd hi (by simp)
  · exact ⟨b, off, rfl, h5 i hi 1 _ rfl⟩

/-! ### stands, Pending, Sync -/
end Go.Proofs.Ytfbelaalmdcaaaa

/-
  The contracts of quaysideref02's run, Of and Seal.
-/
namespace Go.Proofs.Ytfbelaalmdcaaaa
open Go.RowKit
set_option linter.unusedVariables false

theorem bit_form (s : ByteArray) (j : Nat) (h : j / 8 < s.size) : (IntKind.u64.wrap (s[j / 8].toNat : Int) / 2 ^ (j % 8)).tmod 2 = ((bitAt s.data.toList j).toNat : Int) := by
  have hb : s[j / 8].toNat < 256 := s[j / 8].toNat_lt
  have e : IntKind.u64.wrap (s[j / 8].toNat : Int) = (s[j / 8].toNat : Int) := by rw [IntKind.wrap_u64]; omega
  rw [e, bitAt, getD_str s (j / 8) h, bit_mod]
  have e2 : (s[j / 8].toNat : Int) / 2 ^ (j % 8) = ((s[j / 8].toNat / 2 ^ (j % 8) : Nat) : Int) := by simp
  rw [e2]
  generalize s[j / 8].toNat / 2 ^ (j % 8) = q
  rw [Int.tmod_eq_emod_of_nonneg (by omega)]
  omega

theorem rr_yes (s : ByteArray) (q j : Nat) (hq : q < 2 ^ 32) (h : j / 8 < s.size) (ht : ((q : Int) % 2 != (IntKind.u64.wrap (s[j / 8].toNat : Int) / 2 ^ (j % 8)).tmod 2) = true) :
    bits .xor .u64 ((q : Int) / 2) 3988292384 = ((bst q (bitAt s.data.toList j) : Nat) : Int) := by
  rw [bit_form s j h, bne_iff_ne] at ht
  have e : ((q : Int) / 2) = ((q / 2 : Nat) : Int) := by omega
  have e2 : (3988292384 : Int) = ((3988292384 : Nat) : Int) := rfl
  rw [e, e2, u64_xor_nat (q / 2) 3988292384 (by omega) (by omega), bst_if, if_neg (by omega)]
  rfl

theorem rr_no (s : ByteArray) (q j : Nat) (h : j / 8 < s.size) (ht : ((q : Int) % 2 != (IntKind.u64.wrap (s[j / 8].toNat : Int) / 2 ^ (j % 8)).tmod 2) = false) :
    (q : Int) / 2 = ((bst q (bitAt s.data.toList j) : Nat) : Int) := by
  rw [bit_form s j h, bne_eq_false_iff_eq] at ht
  rw [bst_if, if_pos (by omega)]
  omega

set_option maxRecDepth 4000 in
set_option maxHeartbeats 400000 in
theorem rrun_any (s : ByteArray) (r : Nat) (w : World) (hs : s.size ≤ 140737488355328) (hr : r < 2 ^ 32) :
    Calls Try.prog 85 #[.int .u64 r, .string s] w fun e w' => e = .returned (.int .u64 (crun r s.data.toList : Nat)) ∧ w = w' := by
  go_enter Try.func85, Try.ntmps85
  go_wp2
  go_loop [0, 5] (fun q i => ∃ j : Nat, j ≤ 8 * s.size ∧ i = .int .i64 j ∧ q = .int .u64 (bruns r (bitAt s.data.toList) j : Nat)) (fun _ i => 8 * s.size - (intOf i).toNat)
  case atStart => exact ⟨0, Nat.zero_le _, rfl, rfl⟩
  case round =>
    obtain ⟨j, hj, rfl, rfl⟩ := hrel
    by_cases hlt : j < 8 * s.size
    · have hq := bruns_lt r (bitAt s.data.toList) hr j
      have hjs : j / 8 < s.size := by omega
      go_wp2
      · go_round
        case rel => exact ⟨j + 1, by omega, by go_num, congrArg (Value.int .u64) (rr_yes s _ j hq hjs (by assumption))⟩
        case measure => simp [intOf]; omega
      · go_round
        case rel => exact ⟨j + 1, by omega, by go_num, congrArg (Value.int .u64) (rr_no s _ j hjs (by assumption))⟩
        case measure => simp [intOf]; omega
    · go_wp2
      go_ret
      obtain rfl : j = 8 * s.size := by omega
      have e := crun_bruns r s.data.toList
      rw [data_length] at e
      rw [e]
      exact ⟨rfl, rfl⟩

set_option maxRecDepth 4000 in
set_option maxHeartbeats 400000 in
theorem rof_any (s : ByteArray) (w : World) (hs : s.size ≤ 140737488355328) :
    Calls Try.prog 75 #[.string s] w fun e w' => e = .returned (.int .u32 (crc s.data.toList : Nat)) ∧ w = w' := by
  have hc := crun_lt s.data.toList 4294967295 (by decide)
  have R := rrun_any s 4294967295 w hs (by decide)
  have HR := hide R
  clear R
  go_enter Try.func75, Try.ntmps75
  go_wp2_with fail
  refine HR.out.mono ?_
  rintro e w1 ⟨rfl, rfl⟩
  go_wp2
  go_ret
  exact ⟨congrArg (fun x => Ending.returned (Value.int .u32 x)) (ones_subI _ hc), rfl⟩

set_option maxRecDepth 4000 in
set_option maxHeartbeats 400000 in
theorem rseal_any (s : ByteArray) (w : World) (hs : s.size ≤ 140737488355328) :
    Calls Try.prog 58 #[.string s] w fun e w' => e = .returned (.string ⟨(s.data.toList ++ leB (crc s.data.toList)).toArray⟩) ∧ Below w.heap.size w w' := by
  have hx := crc_lt s.data.toList
  have R := rof_any s w hs
  obtain ⟨x, ex⟩ : ∃ x, x = crc s.data.toList := ⟨_, rfl⟩
  rw [← ex] at R hx
  rw [← ex]
  have HR := hide R
  clear R ex
  go_enter Try.func58, Try.ntmps58
  go_wp2_with fail
  refine HR.out.mono ?_
  rintro e w1 ⟨rfl, rfl⟩
  go_wp2
  go_loopw [3, 4, 5] (fun v o i wr => ∃ j : Nat, j ≤ 4 ∧ i = .int .i64 j ∧ v = .int .u32 (sh x j : Nat) ∧ o = .string ⟨(s.data.toList ++ (leB x).take j).toArray⟩ ∧ Below w.heap.size w wr) (fun _ _ i _ => 4 - (intOf i).toNat)
  case atStart => exact ⟨0, Nat.zero_le _, rfl, by rw [sh_zero], by rw [List.take_zero, List.append_nil, mk_self], Below.refl _ _⟩
  case round =>
    obtain ⟨j, hj, rfl, rfl, rfl, hbr⟩ := hrel
    have hsh : sh x j < 4294967296 := Nat.lt_of_le_of_lt (sh_le x j) hx
    by_cases hlt : j < 4
    · have hcv := run_oneByte (P := Try.prog) wr 60 9 5 Try.underlying60 Try.underlying5 Try.underlying9 (((sh x j : Nat) : Int) % 256) (UInt8.ofNat (sh x j)) (by rw [toNat_ofNat]; omega)
      have hln : ByteArray.size ⟨(s.data.toList ++ (leB x).take j).toArray⟩ + 1 ≤ 9223372036854775807 := by
        have e := size_mk (s.data.toList ++ (leB x).take j)
        rw [List.length_append, data_length, List.length_take] at e
        omega
      have hl1 : ByteArray.size ⟨#[UInt8.ofNat (sh x j)]⟩ = 1 := rfl
      go_wp2
      go_roundw
      case rel => exact ⟨j + 1, by omega, by go_num, by rw [← sh_succ x j]; go_num, by rw [leB_take x j hlt, ← List.append_assoc]; exact congrArg Value.string (mk_append _ [UInt8.ofNat (sh x j)]), hbr.alloc hbr.size _⟩
      case measure => simp [intOf]; omega
    · go_wp2
      go_ret
      obtain rfl : j = 4 := by omega
      exact ⟨rfl, hbr⟩
end Go.Proofs.Ytfbelaalmdcaaaa

/-
  The contracts of quaysideref02's functions: the document's answer, by definition.
-/
namespace Go.Proofs.Ytfbelaalmdcaaaa
open Go.RowKit
set_option linter.unusedVariables false

theorem mk_list (s : ByteArray) (l : List UInt8) (h : l = s.data.toList) : (⟨l.toArray⟩ : ByteArray) = s := by
  subst h
  exact mk_self s

theorem ne_list (s : ByteArray) (l : List UInt8) (h : l ≠ s.data.toList) : ((⟨l.toArray⟩ : ByteArray).toList == s.toList) = false := by
  rw [beq_eq_false_iff_ne]
  intro e
  apply h
  have e1 : ∀ b : ByteArray, b.toList = b.data.toList := fun b => ByteArray.toList_eq b
  rw [e1, e1] at e
  exact e

end Go.Proofs.Ytfbelaalmdcaaaa

/-
  The contracts of quaysideref07.Frame and Put.
-/
namespace Go.Proofs.Ytfbelaalmdcaaaa
open Go.RowKit
set_option linter.unusedVariables false

set_option maxRecDepth 4000 in
set_option maxHeartbeats 1600000 in
theorem rframe_any (r : Rec) (va vb : Value) (w : World) (hr : r.right) (hin : RcIn w r va vb) :
    Calls Try.prog 47 #[.agg (rcA r va vb)] w fun e w' => e = .returned (.string (mkS (frameB r))) ∧ Below w.heap.size w w' := by
  have HIN := hide hin
  have HBY := hide (fun w h => bytes_any r va vb w hr h)
  have HFB : Hid (frameB r = sealB (beB 2 (recB r).length ++ recB r)) := rfl
  have hfew := rec_few r hr
  have HK0 := hide (Keeps.one w 43 (rcA r va vb))
  clear hin hr
  generalize frameB r = FB at *
  generalize recB r = L at *
  obtain ⟨A, hA⟩ : ∃ A, A = rcA r va vb := ⟨_, rfl⟩
  rw [← hA] at HK0 HBY ⊢
  have HIA : Hid ((Try.prog.info? 43).map (·.size) = some A.size) := by
    rw [hA]
    exact infoRc
  clear hA
  have hz := mkS_size L
  generalize hS : mkS L = S at *
  have HSS := hide hS
  clear hS
  obtain ⟨ln, hln⟩ : ∃ ln, ln = L.length := ⟨_, rfl⟩
  rw [← hln] at hfew HFB hz
  have HLN := hide hln
  clear hln
  have ewl : IntKind.u64.wrap (ln : Int) = (ln : Int) := by rw [IntKind.wrap_u64]; omega
  have HZ2 := hide (mkS_size (beB 2 ln))
  have HAD := hide (fun x => run_add_s (mkS (beB 2 ln)) S (by rw [HZ2.out, beB_length, hz]; omega) x)
  go_enter Try.func47, Try.ntmps47
  go_wp2_with (refine wpList_load_at rfl 43 (.tmp 1) rfl w.heap.size rfl A HK0.out.1.1 _ Try.underlying43 rfl HIA.out ?_)
  refine (HBY.out _ (HIN.out.below HK0.out.2)).mono ?_
  rintro e w1 ⟨rfl, hb1⟩
  have HD1 := hide (HK0.out.later hb1).2
  clear HK0 HBY hb1
  go_wp2_with fail
  refine (number_any 2 ln w1 (by omega) (by omega)).mono ?_
  rintro e w2 ⟨rfl, hb2⟩
  have HD2 := hide (HD1.out.trans (hb2.mono HD1.out.size))
  clear HD1 hb2
  have hadd := HAD.out w2
  have he9 : (⟨(beB 2 ln).toArray⟩ : ByteArray) = mkS (beB 2 ln) := rfl
  rw [he9]
  generalize hN : mkS (beB 2 ln) = N at *
  have HNN := hide hN
  clear hN he9
  go_wp2_with (refine wpList_binop rfl .add 9 _ _ _ rfl _ _ _ rfl rfl rfl hadd ?_)
  have e1 : (N ++ S).data.toList = beB 2 ln ++ L := by
    rw [← HNN.out, ← HSS.out]
    simp [mkS]
  have e2 : (⟨((N ++ S).data.toList ++ leB (crc (N ++ S).data.toList)).toArray⟩ : ByteArray) = mkS FB := by
    rw [HFB.out, e1]
    rfl
  have HSE := hide (rseal_any (N ++ S) w2 (by rw [ByteArray.size_append, HZ2.out, beB_length, hz]; omega))
  rw [e2] at HSE
  generalize hFS : mkS FB = FS at HSE
  have HFS := hide hFS
  clear e1 e2 hFS
  refine HSE.out.mono ?_
  rintro e w3 ⟨rfl, hb3⟩
  have d3 := HD2.out.trans (hb3.mono HD2.out.size)
  clear HD2 hb3
  go_wp2
  go_ret
  exact ⟨by rw [HFS.out]; rfl, d3⟩

end Go.Proofs.Ytfbelaalmdcaaaa

/-
  The contracts of quaysideref09.room, Used; quaysideref07.All.
-/
namespace Go.Proofs.Ytfbelaalmdcaaaa
open Go.RowKit
set_option linter.unusedVariables false

theorem frames_few' (rs : List Rec) (h : ∀ r ∈ rs, r.right) : (framesB rs).length ≤ rs.length * 1006 := by
  induction rs with
  | nil => exact Nat.le_refl _
  | cons r rs ih =>
    have h1 := ih (fun q hq => h q (List.mem_cons_of_mem _ hq))
    have h2 := rec_few r (h r (List.mem_cons_self ..))
    rw [framesB_cons, List.length_append, frameB_length, List.length_cons]
    omega
theorem msR_take' (ms : List Rm) (i : Nat) : msR (ms.take i) = (msR ms).take i := by simp [msR, List.map_take]
theorem taken_more (ms : List Rm) (j : Nat) (h : j < ms.length) : framesB (msR (ms.take (j + 1))) = framesB (msR (ms.take j)) ++ frameB (ms.getD j rcZ).1 := by
  have e : ms.take (j + 1) = ms.take j ++ [ms.getD j rcZ] := by
    rw [List.take_add_one, List.getD_eq_getElem?_getD, List.getElem?_eq_getElem h]
    rfl
  rw [e, msR_snoc, framesB_append]
  simp [framesB]
end Go.Proofs.Ytfbelaalmdcaaaa

/-
  The contract of quaysideref07.All.
-/
namespace Go.Proofs.Ytfbelaalmdcaaaa
open Go.RowKit
set_option linter.unusedVariables false

set_option maxRecDepth 8000 in
set_option maxHeartbeats 800000 in
theorem rall7_any (a : Option Addr) (cap : Nat) (ms : List Rm) (w : World) (h : RsIn w (.slice a ms.length cap) ms) (hr : ∀ r ∈ msR ms, r.right) (hl : ms.length ≤ 20000) (hc : ms.length ≤ cap) (hz : (framesB (msR ms)).length ≤ 70000) :
    Calls Try.prog 28 #[.slice a ms.length cap] w fun e w' => e = .returned (.string (mkS (framesB (msR ms)))) ∧ Below w.heap.size w w' := by
  have HI := hide h
  have HR := hide hr
  have HZ := hide hz
  obtain ⟨ln, hln⟩ : ∃ ln, ln = ms.length := ⟨_, rfl⟩
  rw [← hln] at HI hl hc ⊢
  have HLN := hide hln
  clear h hr hln hz
  go_enter Try.func28, Try.ntmps28
  go_wp2
  go_loopw [7, 3] (fun i v wr => ∃ j : Nat, j ≤ ln ∧ i = .int .i64 j ∧ v = .string (mkS (framesB (msR (ms.take j)))) ∧ Below w.heap.size w wr) (fun i _ _ => ln - (intOf i).toNat)
  case atStart => exact ⟨0, Nat.zero_le _, rfl, rfl, Below.refl _ _⟩
  case round =>
    obtain ⟨j, hj, rfl, rfl, hbr⟩ := hrel
    have HB := hide hbr
    clear hbr
    by_cases hlt : j < ln
    · have hlm : j < ms.length := by have := HLN.out; omega
      obtain ⟨b, off, rfl, hbl, hrg, hft, hin⟩ := HI.out.at (i := j) hlm
      have hrt : (ms.getD j rcZ).1.right := by
        rw [← msR_get]
        refine HR.out _ ?_
        rw [List.getD_eq_getElem?_getD, List.getElem?_eq_getElem (by simpa [msR] using hlm)]
        exact List.getElem_mem _
      have hmore := taken_more ms j hlm
      have hmo : (framesB (msR (ms.take (j + 1)))).length ≤ 70000 := by
        have h1 := frames_mono (msR ms) (j + 1) ms.length (by omega)
        rw [msR_take']
        have h2 : (msR ms).take ms.length = msR ms := List.take_of_length_le (by simp [msR])
        rw [h2] at h1
        exact Nat.le_trans h1 HZ.out
      obtain ⟨m, hm⟩ : ∃ m, m = ms.getD j rcZ := ⟨_, rfl⟩
      rw [← hm] at hrg hft hin hrt hmore
      rw [hmore, List.length_append] at hmo
      clear hm
      have HLD := hide (load_mid wr b (off + j * 14) m (rangeAt_below hrg HB.out hbl))
      have HFR : Hid (∀ y, Below w.heap.size w y → Calls Try.prog 47 #[.agg (rcF m)] y fun e w' => e = .returned (.string (mkS (frameB m.1))) ∧ Below y.heap.size y w') := hide (fun y hy => rframe_any m.1 m.2.1 m.2.2 y hrt (hin.below hy))
      have hjI : (j : Int) < (ln : Int) := by omega
      have HN : Hid (mkS (framesB (msR (ms.take (j + 1)))) = mkS (framesB (msR (ms.take j))) ++ mkS (frameB m.1)) := by
        rw [hmore, mkS_append]
        exact rfl
      have z1 := mkS_size (frameB m.1)
      have z2 := mkS_size (framesB (msR (ms.take j)))
      have hadd := run_add_s (mkS (framesB (msR (ms.take j)))) (mkS (frameB m.1)) (by omega)
      clear hrg hft hin hrt hmore
      generalize mkS (frameB m.1) = S at *
      generalize mkS (framesB (msR (ms.take j))) = T at *
      go_wp2_with (refine wpList_load_val rfl 43 (.tmp 13) rfl _ _ rfl HLD.out ?_)
      refine (HFR.out wr HB.out).mono ?_
      rintro e w1 ⟨rfl, hb1⟩
      have HB1 := hide (HB.out.trans (hb1.mono HB.out.size))
      clear hb1 HB HFR HLD
      go_wp2
      go_roundw
      case rel => exact ⟨j + 1, by omega, by go_num, by rw [HN.out], HB1.out⟩
      case measure => simp [intOf]; omega
    · obtain rfl : j = ln := by omega
      have e : ms.take j = ms := by rw [HLN.out, List.take_length]
      rw [e]
      go_wp2
      go_ret
      exact ⟨rfl, HB.out⟩
end Go.Proofs.Ytfbelaalmdcaaaa
