/-
  Texts that lean on one another, one behind the other: each opens with its own remark.
-/
import Derived.Test.YtdbpbgpcjmomdaaGreatProg
import Derived.RegionTactic
import Derived.BigRegion
import Derived.WalkSpells
import Derived.Test.YtdbpbgpcjmomdaaGreatK15
import Derived.Test.YtdbpbgpcjmomdaaGreatK07
import Derived.Test.YtdbpbgpcjmomdaaGreatK00
import Derived.Test.YtdbpbgpcjmomdaaGreatK04
import Derived.Test.YtdbpbgpcjmomdaaGreatK05

namespace Go.Proofs.YtdbpbgpcjmomdaaGreat
open Go.RowKit
set_option linter.unusedVariables false
set_option maxRecDepth 8000
set_option maxHeartbeats 25600000
section
theorem there_row {w : World} {b o n : Nat} {t : TypeId} {cs : Array Value} (h : Qd w b t cs) (hs : o + n <= cs.size) : w.there b o n := fun j hj => ⟨by rw [cell_of_row _ _ _ _ _ _ h, Array.getElem?_eq_getElem (by omega)]; rfl, h.free _⟩
theorem run_mk9 (n : Nat) (h : n <= 100000) (w : World) : ∃ cs : Array Value, cs.size = n * 14 /\
    (Instr.makeSlice 38 (.int .i64 (n : Int)) (.int .i64 (n : Int))).run Tryz.prog w = .ok (.slice (some ⟨w.heap.size, 0, none⟩) n n) (w.alloc (.cells cs 34)) := by
  obtain ⟨i, hi0, hi1⟩ := Option.map_eq_some_iff.1 Qwj; simp only [Prod.mk.injEq] at hi1; have hr := run_make (P := Tryz.prog) w 38 34 i (.agg Qr) Tryz.underlying38 hi0 hi1.1 .i64 .i64 n n (by omega) (Int.le_refl _) (by rw [hi1.2.2]; omega) (by omega); simp only [Int.toNat_natCast, hi1.2.1] at hr; exact ⟨_, by simp [madeCells], hr⟩
structure RI (w wr : World) (ga ln : Nat) (g : Lg) (j : Nat) (ns : List Rm) : Prop where
  low : w.heap.size <= ga
  row : ∃ cs, Qd wr ga 34 cs /\ cs.size = ln * 14
  len : ns.length = j
  same : msR ns = g.l.take j
  cell : ∀ i, i < j -> wr.rangeAt ga (i * 14) (rcF (ns.getD i rcZ)).toList
  got : ∀ m ∈ ns, m.1.fits /\ Qza w.heap.size wr m.1 m.2.1 m.2.2
  bel : Below w.heap.size w wr
theorem Qza.kept {base : Nat} {x y : World} {r : Rec} {va vb : Value} (h : Qza base x r va vb) (hk : ∀ k t cs, (t = 109 ∨ t = 111) -> Qd x k t cs -> Qd y k t cs) : Qza base y r va vb :=
  ⟨Qwa h.1 (fun k cs hr => hk k _ cs (.inl rfl) hr), Qwa h.2 (fun k cs hr => hk k _ cs (.inr rfl) hr)⟩
theorem RI.later {w wr x : World} {ga ln j : Nat} {g : Lg} {ns : List Rm} (h : RI w wr ga ln g j ns) (p : Below wr.heap.size wr x) : RI w x ga ln g j ns := by
  obtain ⟨cs, h1, h2⟩ := h.row; exact ⟨h.low, ⟨cs, h1.later p, h2⟩, h.len, h.same, fun i hi k u hu => (World.cell?_of_block (a := ⟨ga, i * 14 + k, none⟩) (p.block ga h1.lt)).trans (h.cell i hi k u hu), fun m hm => ⟨(h.got m hm).1, (h.got m hm).2.below p⟩, h.bel.trans (p.mono h.bel.size)⟩
theorem RI.put {w wr : World} {ga ln j : Nat} {g : Lg} {ns : List Rm} {m : Rm} (h : RI w wr ga ln g j ns) (hj : j < ln) (hl : j < g.l.length) (hm : m.1 = g.l.getD j Rec.zero) (hf : m.1.fits) (hg : Qza w.heap.size wr m.1 m.2.1 m.2.2) : RI w (wr.setCells ga (j * 14) (rcF m).toList) ga ln g (j + 1) (ns ++ [m]) := by
  obtain ⟨cs, h1, h2⟩ := h.row; obtain ⟨ds, d1, d2⟩ := Qrc (rcF m).toList (j * 14) wr ga _ cs h1; have hT := Qzc (rcF m).toList (j * 14) wr ga (Is ga) rfl
  have hk : ∀ k t cs, (t = 109 ∨ t = 111) -> Qd wr k t cs -> Qd (wr.setCells ga (j * 14) (rcF m).toList) k t cs := fun k t ds ht hr => hT.row hr (fun e => by
    rw [show k = ga from e] at hr; have := Qca hr h1; rw [this] at ht
    rcases ht with ht | ht <;> exact absurd ht (by decide))
  refine ⟨h.low, ⟨ds, d1, by rw [d2, h2]⟩, by simp [h.len], ?_, fun i hi q u hu => ?_, fun x hx => ?_, h.bel.trans (hT.below (fun k hk => by rw [show k = ga from hk]; exact h.low) h.bel.size)⟩
  · rw [Qxc, h.same, hm, List.take_add_one, List.getD_eq_getElem?_getD, List.getElem?_eq_getElem hl]; rfl
  · have hq : q < 14 := (List.getElem?_eq_some_iff.1 hu).1; rw [Qij, h.len] at hu
    by_cases e : i < j
    · rw [if_pos e] at hu; rw [World.cell?_setCells_out ga _ _ wr _ (fun _ _ => .inl (by show i * 14 + q < j * 14; omega))]; exact h.cell i e q u hu
    · obtain rfl : i = j := by omega
      rw [if_neg e, if_pos rfl] at hu
      have h9 := World.cell?_setCells_in ga (rcF m).toList (i * 14) wr (fun k hk => by
        have hk14 : k < 14 := hk; rw [cell_of_row _ _ _ _ _ _ h1, Array.getElem?_eq_getElem (by omega)]
        rfl) q hq
      rw [h9]; rw [List.getElem?_eq_getElem hq] at hu; exact hu
  · rcases List.mem_append.1 hx with hx | hx
    · exact ⟨(h.got x hx).1, (h.got x hx).2.kept hk⟩
    · rw [List.mem_singleton.1 hx]; exact ⟨hf, hg.kept hk⟩
def Qyl (g : Lg) (w : World) (e : Ending) (w' : World) : Prop := ∃ ga ns, e = .returned (.slice (some ⟨ga, 0, none⟩) g.l.length g.l.length) /\ RI w w' ga g.l.length g g.l.length ns
theorem RI.rs {w x : World} {ga : Nat} {g : Lg} {ns : List Rm} (h : RI w x ga g.l.length g g.l.length ns) : Qlf x (.slice (some ⟨ga, 0, none⟩) ns.length g.l.length) ns /\ msR ns = g.l := by
  obtain ⟨cs, h1, h2⟩ := h.row
  refine ⟨⟨⟨_, _, rfl, fun hp => ⟨ga, 0, rfl, h1.lt, fun i hi => ?_⟩⟩, fun m hm => ⟨(h.got m hm).1, (h.got m hm).2.rc⟩⟩, ?_⟩
  · rw [Nat.zero_add]; exact h.cell i (by rw [<- h.len]; exact hi)
  · rw [h.same, List.take_length]
section
variable {B : Nat} {gl gc gt gb : Nat} {a : Option Addr} {cap : Nat} {ms : List Rm} {wa : Option Addr} {wc : Nat} {bs : List UInt8} {g : Lg}
theorem Qlo (w : World) (h : LV B w gl gc gt gb a cap ms wa wc bs g) (ok : g.ok) :
    Calls Tryz.prog 11 #[.pointer (some ⟨gl, 0, none⟩)] w (Qyl g w) := by
  have hlen := h.len; have hcap := h.recs.cap; have hfew := Qfb g ok; have c2 := h.c2; obtain ⟨cs, hcs, hmk⟩ := run_mk9 g.l.length (by omega) w; have hb0 : Below w.heap.size w (w.alloc (.cells cs 34)) := (Below.refl _ _).alloc (Nat.le_refl _) _; have k2 := (h.later hb0).c2; obtain ⟨ln, hln⟩ : ∃ ln, ln = g.l.length := ⟨_, rfl⟩; have H0 := Qa (show LV B (w.alloc (.cells cs 34)) gl gc gt gb a cap ms wa wc bs g /\ RI w (w.alloc (.cells cs 34)) w.heap.size ln g 0 [] from ⟨h.later hb0, ⟨Nat.le_refl _, ⟨cs, Qd.new w _ cs, by rw [hcs, hln]⟩, rfl, by simp [msR], fun i hi => absurd hi (Nat.not_lt_zero _), fun m hm => (nomatch hm), hb0⟩⟩); have HLT := Qa (fun k (hk : FC gl gc gt gb a wa k) => (h.loose k hk).2.1); have HBW := Qa h.here; have HOK := Qa ok
  have HRA : Hid (Qyl g w = fun e w' => ∃ ga ns, e = .returned (.slice (some ⟨ga, 0, none⟩) ln ln) /\ RI w w' ga ln g ln ns) := by
    show Qyl g w = _; unfold Qyl; rw [hln]
  rw [<- hln] at hlen hfew c2 hmk k2; have HLN := Qa hln; have HML := Qa hlen; clear h ok hb0 hcs hln hlen; obtain ⟨ga, hga⟩ : ∃ ga, ga = w.heap.size := ⟨_, rfl⟩; rw [<- hga] at hmk H0; have HGA := Qa hga; clear hga; obtain ⟨y, hy⟩ : ∃ y, y = w.alloc (.cells cs 34) := ⟨_, rfl⟩; rw [<- hy] at hmk H0 k2; clear hy; go_enter Tryz.func11, Tryz.ntmps11; go_wp2; go_loopw [19] (fun i wr => ∃ j : Nat, j <= ln /\ i = .int .i64 j /\ ∃ ns, Hid (LV B wr gl gc gt gb a cap ms wa wc bs g /\ RI w wr ga ln g j ns)) (fun i _ => ln - (intOf i).toNat)
  case atStart => exact ⟨0, Nat.zero_le _, rfl, [], H0.out⟩
  case round =>
    obtain ⟨j, hj, rfl, ns, HI⟩ := hrel; clear k2 c2 hmk H0
    by_cases hlt : j < ln
    · have ij : (j : Int) < (ln : Int) := by omega
      have hjm : j < ms.length := by have := HML.out; omega
      obtain ⟨b, off, rfl, hbl, hrg, hft, hin⟩ := HI.out.1.recs.rs.at hjm; obtain ⟨hrt, hgi⟩ := HI.out.1.recAt HOK.out hjm; obtain ⟨m, hm⟩ : ∃ m, m = ms.getD j rcZ := ⟨_, rfl⟩; rw [<- hm] at hrg hft hin hrt hgi; have HM := Qa (And.intro hgi hft); have HLD := Qa (Qgd wr b (off + j * 14) m hrg); have hb1 : Below wr.heap.size wr (wr.alloc (.cells Qr 34)) := (Below.refl _ _).alloc (Nat.le_refl _) _; have HZ := Qa (And.intro (Qd.new wr 34 Qr) hb1); have HCP := Qa (fun y (hy : Qjb y m.1 m.2.1 m.2.2) => Qqg m.1 m.2.1 m.2.2 y hy (Qse hrt).1 (Qse hrt).2); have HIN := Qa hin; obtain ⟨⟨a1, c1, h1⟩, a2, c2', h2⟩ := Qdb hin; clear hrg hin hft hb1 hm hgi hrt; go_wp2_with (first | (refine Qq rfl 34 (.tmp 22) rfl _ _ rfl HLD.out ?_) | (refine Qc rfl 34 (.tmp 5) (.tmp 23) rfl wr.heap.size Qr (rcF m) rfl rfl HZ.out.1 Qj rfl (Qrg m ⟨a1, c1, h1⟩ ⟨a2, c2', h2⟩) ?_; intro w2 hr2 hk2 hrow2; refine stop9 ?_)); have hb2 := hk2 _ _ HZ.out.2 (Nat.le_refl _); have H2 := Qa (And.intro hr2 hb2); clear hr2 hk2 hrow2 hb2 HLD HZ h1 h2; refine Qep ?_; go_wp2_with (refine Qg rfl 34 (.tmp 5) rfl wr.heap.size rfl (rcF m) H2.out.1 _ Tryz.underlying34 rfl Qj ?_); refine (HCP.out w2 (HIN.out.below H2.out.2)).mono ?_; rintro e w3 ⟨ua, ub, rfl, hgot, hb3⟩; have hb23 := H2.out.2.trans (hb3.mono H2.out.2.size); have H3 := Qa (show LV B w3 gl gc gt gb (some ⟨b, off, none⟩) cap ms wa wc bs g /\ RI w w3 ga ln g j ns /\ Qza w.heap.size w3 m.1 ua ub from ⟨HI.out.1.later hb23, HI.out.2.later hb23, Qye hgot.1 (Nat.le_trans HI.out.2.bel.size H2.out.2.size), Qye hgot.2 (Nat.le_trans HI.out.2.bel.size H2.out.2.size)⟩); obtain ⟨⟨a1, c1, rfl⟩, a2, c2', rfl⟩ := Qdb hgot.rc
      have hth : w3.there ga (j * 14) 14 := by
        obtain ⟨ds, d1, d2⟩ := H3.out.2.1.row; exact there_row d1 (by rw [d2]; omega)
      have hPut := H3.out.2.1.put (m := (m.1, .slice a1 m.1.ts.length c1, .slice a2 m.1.ds.length c2')) hlt (by rw [<- HLN.out]; exact hlt) HM.out.1 HM.out.2 H3.out.2.2; have hT : Tn (Is ga) w3 (w3.setCells ga (j * 14) (rcA m.1 (.slice a1 m.1.ts.length c1) (.slice a2 m.1.ds.length c2')).toList) := Qzc _ _ w3 ga (Is ga) rfl
      have hLV : LV B (w3.setCells ga (j * 14) (rcA m.1 (.slice a1 m.1.ts.length c1) (.slice a2 m.1.ds.length c2')).toList) gl gc gt gb (some ⟨b, off, none⟩) cap ms wa wc bs g := by
        obtain ⟨ds, d1, d2⟩ := H3.out.2.1.row; have hlow := H3.out.2.1.low
        refine H3.out.1.keep (F := Is ga) (fun k hk => ?_) hT (fun k hk e => ?_)
        · rw [show k = ga from hk]; exact ⟨Nat.le_trans HBW.out hlow, d1.lt, fun ty es hrow => by rw [Qca hrow d1]; decide⟩
        · have h5 := HLT.out k hk; have h6 : k = ga := e; omega
      have H4 := Qa (And.intro hLV hPut); have HTH := Qa hth; clear hgot hb3 hb23 hth hPut hT hLV H2 HCP HIN; go_wp2_with (refine wpList_store_mid ?hg 34 (.tmp 28) (.tmp 27) ?ho ga (j * 14) (rcA m.1 (.slice a1 m.1.ts.length c1) (.slice a2 m.1.ds.length c2')) ?h1 ?h2 ?ht ?hi ?h3 ?_; (case ho => with_reducible rfl); (case hg => rfl); (case h1 => simp [Act.eval]; done); (case h2 => rfl); (case ht => exact HTH.out); (case hi => exact Qj); (case h3 => simp [rcA, Value.oneCell'])); go_roundw
      case rel => exact ⟨j + 1, by omega, by go_num, _, H4.out⟩
      case measure => simp [intOf]; omega
    · obtain rfl : j = ln := by omega
      go_wp2; go_ret; rw [HRA.out]; exact ⟨ga, ns, rfl, HI.out.2⟩
end
end
theorem append9 (B : Nat) : ClAppend B (LAc B) := by
  rintro gt gl x F g r va vb f h ⟨gc, gb, a, cap, ms, wa, wc, hL, rfl⟩ ok hft hin hf _; exact app9_any x r va vb f h hL ok rfl hft hin hf
theorem see9 (B : Nat) : ClSee B (LAc B) := by
  rintro gt gl x F g n ⟨gc, gb, a, cap, ms, wa, wc, hL, rfl⟩ ok hn; exact (see9_any x n hL hn).mono fun e x' hh => ⟨hh.1, _, ⟨gc, gb, a, cap, ms, wa, wc, hh.2.1, rfl⟩, hh.2.2.weak (fun k hk => .inr (.inl hk)), fun k hk => .inl hk⟩
theorem write9 (B : Nat) : ClWrite B (LAc B) := by
  rintro gt gl x F g ⟨gc, gb, a, cap, ms, wa, wc, hL, rfl⟩ ok; refine (Qmt x hL ok rfl).mono ?_; rintro e x' ⟨rfl, gb', h1, h2, h3⟩
  have e : Qe (g.write.l.drop g.write.on) = [] := by
    show Qe (g.l.drop g.l.length) = []; rw [List.drop_length]; rfl
  refine ⟨rfl, _, ⟨gc, gb', a, cap, ms, none, 0, by rw [e]; exact h1, rfl⟩, h2, fun k hk => ?_⟩
  rcases hk with hk | hk | hk | hk | hk | hk
  · exact .inl (.inl hk)
  · exact .inl (.inr (.inl hk))
  · exact .inl (.inr (.inr (.inl hk)))
  · rcases h3 with h3 | h3
    · exact .inl (.inr (.inr (.inr (.inl (by rw [hk, h3])))))
    · exact .inr (by rw [hk]; exact h3)
  · exact .inl (.inr (.inr (.inr (.inr (.inl hk)))))
  · obtain ⟨_, e⟩ := hk; cases e
theorem sync9 (B : Nat) : ClSync B (LAc B) := by
  rintro gt gl x F g ⟨gc, gb, a, cap, ms, wa, wc, hL, rfl⟩ ok; have hfew := Qfb g ok; exact (Qwn x hL ok.on (by omega)).mono fun e x' hh => ⟨hh.1, _, ⟨gc, gb, a, cap, ms, wa, wc, hh.2.1, rfl⟩, hh.2.2, fun k hk => .inl hk⟩
theorem trim9 (B : Nat) : ClTrim B (LAc B) := by
  rintro gt gl x F g n ⟨gc, gb, a, cap, ms, wa, wc, hL, rfl⟩ ok _; have hk := (g.trim_k ok n).1; have hfa := ok.fa
  have e : Qe ((g.trim n).l.drop (g.trim n).on) = Qe (g.l.drop g.on) := by
    show Qe ((g.l.drop (Qda g.l g.fa n)).drop (g.on - Qda g.l g.fa n)) = _; rw [List.drop_drop, show Qda g.l g.fa n + (g.on - Qda g.l g.fa n) = g.on by omega]
  exact (trim9_any x n hL ok).mono fun e' x' hh => ⟨hh.1, _, ⟨gc, gb, a, cap, _, wa, wc, by rw [e]; exact hh.2.1, rfl⟩, hh.2.2, fun k hk => .inl hk⟩
theorem records9 (B : Nat) : ClRecords B (LAc B) := by
  rintro gt gl x F g ⟨gc, gb, a, cap, ms, wa, wc, hL, rfl⟩ ok; refine (Qlo x hL ok).mono ?_; rintro e x' ⟨ga, ns, rfl, h⟩; obtain ⟨h1, h2⟩ := h.rs; exact ⟨_, g.l.length, ns, by rw [h.len], h1, h2, by rw [h.len]; exact Nat.le_refl _, h.bel⟩
theorem last9 (B : Nat) : ClLast B (LAc B) := by
  rintro gt gl x F g ⟨gc, gb, a, cap, ms, wa, wc, hL, rfl⟩ ok; exact last9_any x hL
theorem durable9 (B : Nat) : ClDurable B (LAc B) := by
  rintro gt gl x F g ⟨gc, gb, a, cap, ms, wa, wc, hL, rfl⟩ ok; exact dur9_any x hL
theorem pending9 (B : Nat) : ClPending B (LAc B) := by
  rintro gt gl x F g ⟨gc, gb, a, cap, ms, wa, wc, hL, rfl⟩ ok; have hfew := Qfb g ok; exact pend9_any x hL (Nat.le_trans ok.fa ok.on) (by omega)
theorem held9 (B : Nat) : ClHeld B (LAc B) := by
  rintro gt gl x F g ⟨gc, gb, a, cap, ms, wa, wc, hL, rfl⟩ ok; exact held9_any x hL
theorem left9 (B : Nat) : ClLeft B (LAc B) := by
  rintro gt gl x F g ⟨gc, gb, a, cap, ms, wa, wc, hL, rfl⟩ ok; have hroom := ok.room; have hm := ok.tok.room; have hu : g.used = g.t.b.size + (Qe (g.l.drop g.on)).length := rfl; rw [hu]; rw [hu] at hroom; exact left9_any x hL (by omega) hm (by omega)
theorem Qnu (gt gb cap : Nat) (a : Option Addr) (t : Tp) (r : Nat) (k : Int) (hr : t.b.size = t.f + r) (h1 : (r : Int) < k) (h0 : 0 < r) (w : World) (h : TpV w gt gb cap a t) (ok : t.ok) (hcap : t.b.size <= cap) :
    Calls Tryz.prog 33 #[.pointer (some ⟨gt, 0, none⟩), .int .i64 k] w fun e w' => e = .returned (.tuple #[]) /\ TpV w' gt gb cap a ⟨t.b.extract 0 (t.f + r), t.f + r, t.m, t.s⟩ /\ Turn gt gb w w' := by
  have H := Qa h; have hz := ok.few; have hy := ok.room; have hx := ok.fast; have hlm : t.f + r <= t.b.size := by omega
  have HLM := Qa hlm; have ew : IntKind.i64.wrap ((t.b.size : Int) - (t.f : Int)) = (r : Int) := by rw [IntKind.wrap_i64]; omega
  have h2 : (0 : Int) < (r : Int) := by omega
  have h3 : (0 : Int) < k := by omega
  have e1 : IntKind.i64.wrap ((t.f : Int) + (r : Int)) = (t.f : Int) + (r : Int) := by rw [IntKind.wrap_i64]; omega
  have e2 : (0 : Int) <= (t.f : Int) + (r : Int) := by omega
  have e3 : (t.f : Int) + (r : Int) <= (cap : Int) := by omega
  clear h ok; have HR := Qa hr; clear hr; go_enter Tryz.func33, Tryz.ntmps33; go_wp2_with fail; refine Qn (fun x => TpV x gt gb cap a t /\ Turn gt gb w x) (by kernel_rfl) (by kernel_rfl) ⟨H.out.drew, (Turn.refl gt gb w).drew⟩ ?_
  repeat (first
    | go_big_quiet_skip
    | (refine Qb rfl 3 _ rfl _ (.int .i64 (t.f : Int)) rfl (fun y hy => Qxh y _ (hy.1.1.cell 1 _ rfl)) ?_; simp only [Act.put, List.setIfInBounds_toArray, List.set])
    | (refine Qb rfl 62 _ rfl _ (.slice a t.b.size cap) rfl (fun y hy => Qbg y _ _ _ (hy.1.1.cell 0 _ rfl)) ?_; simp only [Act.put, List.setIfInBounds_toArray, List.set])
    | (refine Ql rfl (fun K hK => ?_); go_simp; (try simp only [ew]); refine hK _ ?_; clear hK K))
  refine wpQuiet_nil ?_; intro x hx; have HX := Qa hx; have c0 := hx.1.1.cell 0 (.slice a t.b.size cap) rfl; have c1 := hx.1.1.cell 1 (.int .i64 (t.f : Int)) rfl; have f0 := hx.1.1.free 0; have f1 := hx.1.1.free 1; clear hx; go_wp2_with fail; go_region; go_wp2; go_end0; exact ⟨rfl, (HX.out.1.drew.first (t.f + r) HLM.out).setf _ _ (by omega), (HX.out.2.drew.set 0 _).set 1 _⟩
theorem Qaq (gt gb cap : Nat) (a : Option Addr) (t : Tp) (r : Nat) (n : Nat) (k : Int) (hk : k = (n : Int)) (hr : t.b.size = t.f + r) (h1 : n <= r) (h0 : 0 < n) (w : World) (h : TpV w gt gb cap a t) (ok : t.ok) (hcap : t.b.size <= cap) :
    Calls Tryz.prog 33 #[.pointer (some ⟨gt, 0, none⟩), .int .i64 k] w fun e w' => e = .returned (.tuple #[]) /\ TpV w' gt gb cap a ⟨t.b.extract 0 (t.f + n), t.f + n, t.m, t.s⟩ /\ Turn gt gb w w' := by
  have H := Qa h; have hz := ok.few; have hy := ok.room; have hx := ok.fast; subst hk; have hlm : t.f + n <= t.b.size := by omega
  have HLM := Qa hlm; have ew : IntKind.i64.wrap ((t.b.size : Int) - (t.f : Int)) = (r : Int) := by rw [IntKind.wrap_i64]; omega
  have h2 : (0 : Int) < (n : Int) := by omega
  have h3 : ¬ (r : Int) < (n : Int) := by omega
  have e1 : IntKind.i64.wrap ((t.f : Int) + (n : Int)) = (t.f : Int) + (n : Int) := by rw [IntKind.wrap_i64]; omega
  have e2 : (0 : Int) <= (t.f : Int) + (n : Int) := by omega
  have e3 : (t.f : Int) + (n : Int) <= (cap : Int) := by omega
  clear h ok; have HR := Qa hr; clear hr; go_enter Tryz.func33, Tryz.ntmps33; go_wp2_with fail; refine Qn (fun x => TpV x gt gb cap a t /\ Turn gt gb w x) (by kernel_rfl) (by kernel_rfl) ⟨H.out.drew, (Turn.refl gt gb w).drew⟩ ?_
  repeat (first
    | go_big_quiet_skip
    | (refine Qb rfl 3 _ rfl _ (.int .i64 (t.f : Int)) rfl (fun y hy => Qxh y _ (hy.1.1.cell 1 _ rfl)) ?_; simp only [Act.put, List.setIfInBounds_toArray, List.set])
    | (refine Qb rfl 62 _ rfl _ (.slice a t.b.size cap) rfl (fun y hy => Qbg y _ _ _ (hy.1.1.cell 0 _ rfl)) ?_; simp only [Act.put, List.setIfInBounds_toArray, List.set])
    | (refine Ql rfl (fun K hK => ?_); go_simp; (try simp only [ew]); refine hK _ ?_; clear hK K))
  refine wpQuiet_nil ?_; intro x hx; have HX := Qa hx; have c0 := hx.1.1.cell 0 (.slice a t.b.size cap) rfl; have c1 := hx.1.1.cell 1 (.int .i64 (t.f : Int)) rfl; have f0 := hx.1.1.free 0; have f1 := hx.1.1.free 1; clear hx; go_wp2_with fail; go_region; go_wp2; go_end0; exact ⟨rfl, (HX.out.1.drew.first (t.f + n) HLM.out).setf _ _ (by omega), (HX.out.2.drew.set 0 _).set 1 _⟩
theorem Qkq (gt gb cap : Nat) (a : Option Addr) (t : Tp) (r : Nat) (k : Int) (hr : t.b.size = t.f + r) (h1 : k <= 0) (w : World) (h : TpV w gt gb cap a t) (ok : t.ok) (hcap : t.b.size <= cap) :
    Calls Tryz.prog 33 #[.pointer (some ⟨gt, 0, none⟩), .int .i64 k] w fun e w' => e = .returned (.tuple #[]) /\ TpV w' gt gb cap a ⟨t.b.extract 0 (t.f), t.f, t.m, t.s⟩ /\ Turn gt gb w w' := by
  have H := Qa h; have hz := ok.few; have hy := ok.room; have hx := ok.fast; have hlm : t.f <= t.b.size := by omega
  have HLM := Qa hlm; have ew : IntKind.i64.wrap ((t.b.size : Int) - (t.f : Int)) = (r : Int) := by rw [IntKind.wrap_i64]; omega
  have h2 : ¬ (0 : Int) < k := by omega
  have ek : (if k < 0 then (0 : Int) else k) = 0 := by
    by_cases g : k < 0
    · rw [if_pos g]
    · rw [if_neg g]; omega
  have em : (if (r : Int) < 0 then (r : Int) else 0) = 0 := if_neg (by omega); have e1 : IntKind.i64.wrap (t.f : Int) = (t.f : Int) := by rw [IntKind.wrap_i64]; omega
  have e2 : (0 : Int) <= (t.f : Int) := by omega
  have e3 : (t.f : Int) <= (cap : Int) := by omega
  clear h ok; have HR := Qa hr; clear hr; go_enter Tryz.func33, Tryz.ntmps33; go_wp2_with fail; refine Qn (fun x => TpV x gt gb cap a t /\ Turn gt gb w x) (by kernel_rfl) (by kernel_rfl) ⟨H.out.drew, (Turn.refl gt gb w).drew⟩ ?_
  repeat (first
    | go_big_quiet_skip
    | (refine Qb rfl 3 _ rfl _ (.int .i64 (t.f : Int)) rfl (fun y hy => Qxh y _ (hy.1.1.cell 1 _ rfl)) ?_; simp only [Act.put, List.setIfInBounds_toArray, List.set])
    | (refine Qb rfl 62 _ rfl _ (.slice a t.b.size cap) rfl (fun y hy => Qbg y _ _ _ (hy.1.1.cell 0 _ rfl)) ?_; simp only [Act.put, List.setIfInBounds_toArray, List.set])
    | (refine Ql rfl (fun K hK => ?_); go_simp; (try simp only [ew, ek, em]); refine hK _ ?_; clear hK K))
  refine wpQuiet_nil ?_; intro x hx; have HX := Qa hx; have c0 := hx.1.1.cell 0 (.slice a t.b.size cap) rfl; have c1 := hx.1.1.cell 1 (.int .i64 (t.f : Int)) rfl; have f0 := hx.1.1.free 0; have f1 := hx.1.1.free 1; clear hx; go_wp2_with fail; go_region; go_wp2; go_end0; exact ⟨rfl, (HX.out.1.drew.first (t.f) HLM.out).setf _ _ (by omega), (HX.out.2.drew.set 0 _).set 1 _⟩
theorem Qnq (gt gb cap : Nat) (a : Option Addr) (t : Tp) (k : Int) (hr : t.b.size = t.f) (h1 : (0 : Int) < k) (w : World) (h : TpV w gt gb cap a t) (ok : t.ok) (hcap : t.b.size <= cap) :
    Calls Tryz.prog 33 #[.pointer (some ⟨gt, 0, none⟩), .int .i64 k] w fun e w' => e = .returned (.tuple #[]) /\ TpV w' gt gb cap a ⟨t.b.extract 0 (t.f), t.f, t.m, t.s⟩ /\ Turn gt gb w w' := by
  have H := Qa h; have hz := ok.few; have hy := ok.room; have hx := ok.fast; have hlm : t.f <= t.b.size := by omega
  have HLM := Qa hlm; have ew : IntKind.i64.wrap ((t.b.size : Int) - (t.f : Int)) = 0 := by rw [IntKind.wrap_i64]; omega
  have e1 : IntKind.i64.wrap (t.f : Int) = (t.f : Int) := by rw [IntKind.wrap_i64]; omega
  have e2 : (0 : Int) <= (t.f : Int) := by omega
  have e3 : (t.f : Int) <= (cap : Int) := by omega
  clear h ok; have HR := Qa hr; clear hr; go_enter Tryz.func33, Tryz.ntmps33; go_wp2_with fail; refine Qn (fun x => TpV x gt gb cap a t /\ Turn gt gb w x) (by kernel_rfl) (by kernel_rfl) ⟨H.out.drew, (Turn.refl gt gb w).drew⟩ ?_
  repeat (first
    | go_big_quiet_skip
    | (refine Qb rfl 3 _ rfl _ (.int .i64 (t.f : Int)) rfl (fun y hy => Qxh y _ (hy.1.1.cell 1 _ rfl)) ?_; simp only [Act.put, List.setIfInBounds_toArray, List.set])
    | (refine Qb rfl 62 _ rfl _ (.slice a t.b.size cap) rfl (fun y hy => Qbg y _ _ _ (hy.1.1.cell 0 _ rfl)) ?_; simp only [Act.put, List.setIfInBounds_toArray, List.set])
    | (refine Ql rfl (fun K hK => ?_); go_simp; (try simp only [ew]); refine hK _ ?_; clear hK K))
  refine wpQuiet_nil ?_; intro x hx; have HX := Qa hx; have c0 := hx.1.1.cell 0 (.slice a t.b.size cap) rfl; have c1 := hx.1.1.cell 1 (.int .i64 (t.f : Int)) rfl; have f0 := hx.1.1.free 0; have f1 := hx.1.1.free 1; clear hx; go_wp2_with fail; go_region; go_wp2; go_end0; exact ⟨rfl, (HX.out.1.drew.first (t.f) HLM.out).setf _ _ (by omega), (HX.out.2.drew.set 0 _).set 1 _⟩
theorem Qbu (gt gb : Nat) (t : Tp) (k : Int) (w : World) (h : Qid w gt gb t) (ok : t.ok) :
    Calls Tryz.prog 33 #[.pointer (some ⟨gt, 0, none⟩), .int .i64 k] w fun e w' => e = .returned (.tuple #[]) /\ Qid w' gt gb (t.crash k) /\ Turn gt gb w w' := by
  obtain ⟨cap, a, h⟩ := h; have hx := ok.fast
  have hcap : t.b.size <= cap := by
    rcases h.own with ⟨_, _, h2, _⟩ | ⟨_, _, _, h2, _⟩ <;> omega
  obtain ⟨r, hr⟩ : ∃ r, t.b.size = t.f + r := ⟨t.b.size - t.f, by omega⟩; unfold Tp.crash
  by_cases h0 : k <= 0
  · have e : t.left k = t.f := by unfold Tp.left; omega
    rw [e]; exact (Qkq gt gb cap a t r k hr h0 w h ok hcap).mono fun e w' he => ⟨he.1, ⟨cap, a, he.2.1⟩, he.2.2⟩
  by_cases h1 : (r : Int) < k
  · by_cases h2 : 0 < r
    · have e : t.left k = t.f + r := by unfold Tp.left; omega
      rw [e]; exact (Qnu gt gb cap a t r k hr h1 h2 w h ok hcap).mono fun e w' he => ⟨he.1, ⟨cap, a, he.2.1⟩, he.2.2⟩
    · have e : t.left k = t.f := by unfold Tp.left; omega
      rw [e]; exact (Qnq gt gb cap a t k (by omega) (by omega) w h ok hcap).mono fun e w' he => ⟨he.1, ⟨cap, a, he.2.1⟩, he.2.2⟩
  · obtain ⟨n, rfl⟩ := Int.eq_ofNat_of_zero_le (show 0 <= k by omega); have e : t.left (n : Int) = t.f + n := by unfold Tp.left; omega
    rw [e]; exact (Qaq gt gb cap a t r n _ rfl hr (by omega) (by omega) w h ok hcap).mono fun e w' he => ⟨he.1, ⟨cap, a, he.2.1⟩, he.2.2⟩
structure K8 (w0 w : World) (gt : Nat) (t : Tp) : Prop where
  low : w0.heap.size <= gt
  ok : t.ok
  tp : ∃ gb, w0.heap.size <= gb /\ Qid w gt gb t
  bel : Below w0.heap.size w0 w
theorem knew8 (r : Int) (w0 w : World) (h : Below w0.heap.size w0 w) :
    Calls Tryz.prog 12 #[.int .i64 r] w fun e w' => e = .returned (.pointer (some ⟨w.heap.size, 0, none⟩)) /\ K8 w0 w' w.heap.size (Tp.new r) /\ Below w.heap.size w w' :=
  (Qms r w).mono fun e w' he => ⟨he.1, ⟨h.size, Tp.new_ok r, ⟨w.heap.size, h.size, he.2.1⟩, h.trans (he.2.2.mono h.size)⟩, he.2.2⟩
section
structure K9 (P : Nat -> Prop) (wp w0 w : World) (gt gl : Nat) (g : Lg) : Prop where
  ok : g.ok
  la : ∃ F, LAc w0.heap.size gt gl w F g /\ ∀ k, F k -> ¬ P k
  stay : ∀ k, P k -> k < w.heap.size /\ w.heap[k]? = wp.heap[k]?
  bel : Below w0.heap.size w0 w
def NoP (_ : Nat) : Prop := False
section
variable {P : Nat -> Prop} {wp w0 w x : World} {gt gl : Nat} {g g' : Lg}
theorem K9.later (h : K9 P wp w0 w gt gl g) (p : Below w.heap.size w x) : K9 P wp w0 x gt gl g := by
  obtain ⟨F, h1, h2⟩ := h.la; exact ⟨h.ok, ⟨F, (Qtg _).keep _ _ _ _ _ _ _ h1 (Qwd _ w) (Tn.of_below p) (fun _ _ h => h), h2⟩, fun k hk => ⟨Nat.lt_of_lt_of_le (h.stay k hk).1 p.size, (p.block k (h.stay k hk).1).trans (h.stay k hk).2⟩, h.bel.trans (p.mono h.bel.size)⟩
theorem K9.call (h : K9 P wp w0 w gt gl g) (hok : g'.ok) {Pe : Ending -> Prop} {f : FuncId} {args : Array Value} (hc : ∀ F, LAc w0.heap.size gt gl w F g -> Calls Tryz.prog f args w fun e x' => Pe e /\ Aft (LAc w0.heap.size) gt gl w F g' x') : Calls Tryz.prog f args w fun e x' => Pe e /\ K9 P wp w0 x' gt gl g' := by
  obtain ⟨F, h1, h2⟩ := h.la; have hl := (Qtg _).loose _ _ _ _ _ h1; refine (hc F h1).mono ?_; rintro e x' ⟨hp, F', q1, q2, q3⟩
  refine ⟨hp, hok, ⟨F', q1, fun k hk hP => ?_⟩, fun k hk => ?_, h.bel.trans (q2.below (fun k hk => (hl k hk).1) h.bel.size)⟩
  · rcases q3 k hk with h6 | h6
    · exact h2 k h6 hP
    · have := (h.stay k hP).1; omega
  · exact ⟨Nat.lt_of_lt_of_le (h.stay k hk).1 q2.size, (q2.block k (h.stay k hk).1 (fun hf => h2 k hf hk)).trans (h.stay k hk).2⟩
theorem K9.look (h : K9 P wp w0 w gt gl g) {Pe : Ending -> World -> Prop} {f : FuncId} {args : Array Value} (hc : ∀ F, LAc w0.heap.size gt gl w F g -> Calls Tryz.prog f args w fun e x' => Pe e x' /\ Below w.heap.size w x') : Calls Tryz.prog f args w fun e x' => Pe e x' /\ K9 P wp w0 x' gt gl g := by
  obtain ⟨F, h1, h2⟩ := h.la; exact (hc F h1).mono fun e x' hh => ⟨hh.1, h.later hh.2⟩
theorem kapp9 (h : K9 P wp w0 w gt gl g) (r : Rec) (va vb : Value) (f : Nat) (hd : Int) (hft : r.fits) (hin : RcK w0.heap.size w r va vb) (hf : f < 18446744073709551616) (hh : (Lit.int .i64 hd).wf = true) :
    Calls Tryz.prog 14 #[.pointer (some ⟨gl, 0, none⟩), .agg (rcA r va vb), .int .u64 (f : Int), .int .i64 hd] w fun e w' => e = .returned (.tuple #[.int .u64 (g.appN r f hd : Int), .int .i64 (g.appE r f hd)]) /\ K9 P wp w0 w' gt gl (g.app r f hd) :=
  h.call (g.app_ok h.ok r f hd) (fun F hF => append9 _ gt gl w F g r va vb f hd hF h.ok hft hin hf hh)
theorem kleft9 (h : K9 P wp w0 w gt gl g) :
    Calls Tryz.prog 16 #[.pointer (some ⟨gl, 0, none⟩)] w fun e w' => e = .returned (.int .i64 ((g.t.m : Int) - (g.used : Int) - (g.hd : Int))) /\ K9 P wp w0 w' gt gl g :=
  h.look (Pe := fun e _ => e = .returned (.int .i64 ((g.t.m : Int) - (g.used : Int) - (g.hd : Int)))) (fun F hF => left9 _ gt gl w F g hF h.ok)
theorem krecs9 (h : K9 P wp w0 w gt gl g) :
    Calls Tryz.prog 11 #[.pointer (some ⟨gl, 0, none⟩)] w fun e w' => ∃ ga ns, e = .returned (.slice (some ⟨ga, 0, none⟩) g.l.length g.l.length) /\ RI w w' ga g.l.length g g.l.length ns /\ K9 P wp w0 w' gt gl g := by
  obtain ⟨F, h1, h2⟩ := h.la; obtain ⟨gc, gb, a, cap, ms, wa, wc, hL, rfl⟩ := h1; refine (Qlo w hL h.ok).mono ?_; rintro e w' ⟨ga, ns, rfl, hr⟩; exact ⟨ga, ns, rfl, hr, h.later hr.bel⟩
end
theorem kopen9 (P : Nat -> Prop) (wp w0 w : World) (gt gb : Nat) (t : Tp) (base : Nat) (ht : Qid w gt gb t) (ok : t.ok) (hgt : w0.heap.size <= gt) (hgb : w0.heap.size <= gb) (hP : ¬ P gt /\ ¬ P gb) (hs : ∀ k, P k -> k < w.heap.size /\ w.heap[k]? = wp.heap[k]?) (hb : Below w0.heap.size w0 w) (hbase : base < 18446744073709551616) :
    Calls Tryz.prog 13 #[.pointer (some ⟨gt, 0, none⟩), .int .u64 (base : Int)] w fun e x' => ∃ gl, e = .returned (.tuple #[.pointer (some ⟨gl, 0, none⟩), .int .i64 0]) /\ K9 P wp w0 x' gt gl (Lg.open t base) := by
  refine (Qzn w0.heap.size gt gb w t base ht ok hgt hgb hbase).mono ?_; rintro e x' ⟨gl, F', rfl, h1, h2, h3, h4⟩
  refine ⟨gl, rfl, Lg.open_ok t ok base, ⟨F', h1, fun k hk hp => ?_⟩, fun k hk => ?_, hb.trans (h2.below (fun k hk => by rcases hk with hk | hk <;> omega) hb.size)⟩
  · rcases h3 k hk with h5 | h5 | h5
    · exact hP.1 (by rw [<- h5]; exact hp)
    · exact hP.2 (by rw [<- h5]; exact hp)
    · have := (hs k hp).1; omega
  · exact ⟨Nat.lt_of_lt_of_le (hs k hk).1 h2.size, (h2.block k (hs k hk).1 (fun e => by
      rcases e with e | e
      · exact hP.1 (by rw [<- e]; exact hk)
      · exact hP.2 (by rw [<- e]; exact hk))).trans (hs k hk).2⟩
theorem kfirst9 (w0 w : World) (gt : Nat) (t : Tp) (base : Nat) (h : K8 w0 w gt t) (hbase : base < 18446744073709551616) :
    Calls Tryz.prog 13 #[.pointer (some ⟨gt, 0, none⟩), .int .u64 (base : Int)] w fun e x' => ∃ gl, e = .returned (.tuple #[.pointer (some ⟨gl, 0, none⟩), .int .i64 0]) /\ K9 NoP w0 w0 x' gt gl (Lg.open t base) := by
  obtain ⟨gb, hb, ht⟩ := h.tp; exact kopen9 NoP w0 w0 w gt gb t base ht h.ok h.low hb ⟨fun h => h, fun h => h⟩ (fun k hk => hk.elim) h.bel hbase
theorem rck9 {w0 w : World} {r : Rec} {va vb : Value} (h : Qjb w0 r va vb) (p : Below w0.heap.size w0 w) : RcK w0.heap.size w r va vb := RcK.first h p
theorem rckn {B : Nat} {w : World} {r : Rec} (h1 : r.ts = []) (h2 : r.ds = []) : RcK B w r (.slice none 0 0) (.slice none 0 0) := by
  refine ⟨⟨?_, ?_⟩, (fun b off n c e hn => (nomatch e)), (fun b off n c e hn => (nomatch e))⟩
  · exact ⟨none, 0, by rw [h1]; rfl, fun hp => absurd hp (by rw [h1]; simp)⟩
  · exact ⟨none, 0, by rw [h2]; rfl, fun hp => absurd hp (by rw [h2]; simp)⟩
end
theorem Qjj (b j n l : Nat) (w : World) (hc : w.cell? ⟨b, j, none⟩ = some (.int .u64 (n : Int))) (hf : w.frozen? ⟨b, j, none⟩ = false) :
    Calls Tryz.prog 29 #[.pointer (some ⟨b, j, none⟩), .int .u64 l] w fun e w' => e = .returned (.tuple #[]) /\ (w' = w.setCell ⟨b, j, none⟩ (.int .u64 ((max n (min l maxL) : Nat) : Int)) ∨ (w' = w /\ max n (min l maxL) = n)) := by
  have L := Qpl l 4611686018427387904 w; have em : min l 4611686018427387904 = min l maxL := rfl; rw [em] at L; obtain ⟨m, hm⟩ : ∃ m, m = min l maxL := ⟨_, rfl⟩; rw [<- hm] at L; rw [<- hm]; have HL := Qef L; clear L em hm
  by_cases h1 : n < m
  · have h2 : (n : Int) < (m : Int) := by omega
    have e : max n m = m := by omega
    rw [e]; clear e; go_enter Tryz.func29, Tryz.ntmps29; go_wp2_with fail; refine HL.out.mono ?_; rintro e w1 ⟨rfl, rfl⟩; go_wp2; go_end0; exact ⟨rfl, .inl rfl⟩
  · have h2 : ¬ (n : Int) < (m : Int) := by omega
    have e : max n m = n := by omega
    rw [e]; clear e; go_enter Tryz.func29, Tryz.ntmps29; go_wp2_with fail; refine HL.out.mono ?_; rintro e w1 ⟨rfl, rfl⟩; go_wp2; go_end0; exact ⟨rfl, .inr ⟨rfl, trivial⟩⟩
def Qed (w : World) (g : Nat) (t : Tp) : Prop := Qd w g 78 #[.string t.b, .int .i64 (t.f : Int), .int .i64 (t.m : Int), .int .u64 (t.s : Int)]
theorem Qed.drew {w : World} {g : Nat} {t : Tp} (h : Qed w g t) : Qed w.drew g t := h
theorem Qxn {w : World} {g : Nat} {t : Tp} (h : Qed w g t) (b : ByteArray) (f : Int) (n : Nat) (hf : f = (n : Int)) : Qed ((w.setCell ⟨g, 0, none⟩ (.string b)).setCell ⟨g, 1, none⟩ (.int .i64 f)) g ⟨b, n, t.m, t.s⟩ := by
  subst hf; exact (Qd.set h 0 _).set 1 _
theorem rt_three {w : World} {g : Nat} {t : Tp} (h : Qed w g t) (b : ByteArray) (f s : Int) (n k : Nat) (hf : f = (n : Int)) (hs : s = (k : Int)) :
    Qed (((w.setCell ⟨g, 0, none⟩ (.string b)).setCell ⟨g, 1, none⟩ (.int .i64 f)).setCell ⟨g, 3, none⟩ (.int .u64 s)) g ⟨b, n, t.m, k⟩ := by
  subst hf hs; exact ((Qd.set h 0 _).set 1 _).set 3 _
theorem rt_new (r x : Int) (w : World) (hx : x = max 0 (min r 65536)) : Qed (w.alloc (.cells #[.string ⟨#[]⟩, .int .i64 0, .int .i64 x, .int .u64 0] 78)) w.heap.size (Tp.new r) := by
  have hm : x = ((Tp.new r).m : Int) := by
    rw [hx]; unfold Tp.new; simp only; omega
  rw [hm]; exact Qd.new w 78 _
theorem rnew8_any (r : Int) (w : World) :
    Calls Tryz.prog 17 #[.int .i64 r] w fun e w' => e = .returned (.pointer (some ⟨w.heap.size, 0, none⟩)) /\ Qed w' w.heap.size (Tp.new r) /\ Below w.heap.size w w' := by
  go_enter Tryz.func17, Tryz.ntmps17; go_wp2
  all_goals
    go_ret; exact ⟨rfl, rt_new r _ w (by omega), (Below.refl w.heap.size w).alloc (Nat.le_refl _) _⟩
theorem Qll (g : Nat) (t : Tp) (w : World) (h : Qed w g t) (ok : t.ok) :
    Calls Tryz.prog 58 #[.pointer (some ⟨g, 0, none⟩)] w fun e w' => e = .returned (.tuple #[]) /\ Qed w' g t.sync /\ But g w w' := by
  have H := Qa h; have c0 := h.cell 0 _ rfl; have f1 := h.free 1; have c1 := h.cell 1 _ rfl; have hz := ok.few; have hy := ok.room; clear h ok; go_enter Tryz.func58, Tryz.ntmps58; go_wp2; go_end0; exact ⟨rfl, H.out.set 1 _, (But.refl g w).set 1 _⟩
theorem rcut8_no (g : Nat) (t : Tp) (n : Int) (w : World) (h : Qed w g t) (hn : n < 0 ∨ (t.f : Int) < n) :
    Calls Tryz.prog 64 #[.pointer (some ⟨g, 0, none⟩), .int .i64 n] w fun e w' => e = .returned (.int .i64 1) /\ Qed w' g t /\ But g w w' := by
  have H := Qa h; have c1 := h.cell 1 _ rfl; clear h
  by_cases h1 : n < 0
  · clear hn; go_enter Tryz.func64, Tryz.ntmps64; go_wp2; go_ret; exact ⟨rfl, H.out, But.refl g w⟩
  · have h2 : (t.f : Int) < n := by omega
    clear hn; go_enter Tryz.func64, Tryz.ntmps64; go_wp2; go_ret; exact ⟨rfl, H.out, But.refl g w⟩
theorem rcut8_yes (g : Nat) (t : Tp) (n : Nat) (w : World) (h : Qed w g t) (ok : t.ok) (hn : n <= t.f) :
    Calls Tryz.prog 64 #[.pointer (some ⟨g, 0, none⟩), .int .i64 (n : Int)] w fun e w' => e = .returned (.int .i64 0) /\ Qed w' g ⟨t.b.extract n t.b.size, t.f - n, t.m, (t.s + n) % 18446744073709551616⟩ /\ But g w w' := by
  have H := Qa h; have c0 := h.cell 0 _ rfl; have c1 := h.cell 1 _ rfl; have c3 := h.cell 3 _ rfl; have f0 := h.free 0; have f1 := h.free 1; have f3 := h.free 3; have hz := ok.few; have hy := ok.room; have hx := ok.fast; have hs := ok.went; have h1 : ¬ (n : Int) < 0 := by omega
  have h2 : ¬ (t.f : Int) < (n : Int) := by omega
  clear h ok; go_enter Tryz.func64, Tryz.ntmps64; go_wp2; go_ret; exact ⟨rfl, rt_three H.out _ _ _ _ _ (by omega) (by rw [IntKind.wrap_u64]; omega), (((But.refl g w).set 0 _).set 1 _).set 3 _⟩
theorem rchop8_no (g : Nat) (t : Tp) (n : Int) (w : World) (h : Qed w g t) (hn : n < 0 ∨ (t.b.size : Int) < n) :
    Calls Tryz.prog 78 #[.pointer (some ⟨g, 0, none⟩), .int .i64 n] w fun e w' => e = .returned (.int .i64 1) /\ Qed w' g t /\ But g w w' := by
  have H := Qa h; have c0 := h.cell 0 _ rfl; clear h
  by_cases h1 : n < 0
  · clear hn; go_enter Tryz.func78, Tryz.ntmps78; go_wp2; go_ret; exact ⟨rfl, H.out, But.refl g w⟩
  · have h2 : (t.b.size : Int) < n := by omega
    clear hn; go_enter Tryz.func78, Tryz.ntmps78; go_wp2; go_ret; exact ⟨rfl, H.out, But.refl g w⟩
theorem Quu (g : Nat) (t : Tp) (n : Nat) (w : World) (h : Qed w g t) (ok : t.ok) (hn : n <= t.b.size) :
    Calls Tryz.prog 78 #[.pointer (some ⟨g, 0, none⟩), .int .i64 (n : Int)] w fun e w' => e = .returned (.int .i64 0) /\ Qed w' g ⟨t.b.extract 0 n, min t.f n, t.m, t.s⟩ /\ But g w w' := by
  have H := Qa h; have c0 := h.cell 0 _ rfl; have c1 := h.cell 1 _ rfl; have f0 := h.free 0; have f1 := h.free 1; have hz := ok.few; have hy := ok.room; have hx := ok.fast; have h1 : ¬ (n : Int) < 0 := by omega
  have h2 : ¬ (t.b.size : Int) < (n : Int) := by omega
  clear h ok; go_enter Tryz.func78, Tryz.ntmps78; go_wp2
  all_goals
    go_ret; exact ⟨rfl, Qxn H.out _ _ _ (by omega), ((But.refl g w).set 0 _).set 1 _⟩
theorem Qai {b j : Nat} (x : World) (v : ByteArray) (h : x.cell? ⟨b, j, none⟩ = some (.string v)) : (Instr.loadAt 9 (.pointer (some ⟨b, j, none⟩))).run Tryz.prog x = .ok (.string v) x := by
  go_simp
theorem Qhi {b j : Nat} (x : World) (v : Int) (h : x.cell? ⟨b, j, none⟩ = some (.int .i64 v)) : (Instr.loadAt 3 (.pointer (some ⟨b, j, none⟩))).run Tryz.prog x = .ok (.int .i64 v) x := by
  go_simp
theorem rapp8_no (g : Nat) (t : Tp) (s : ByteArray) (w : World) (h : Qed w g t) (ok : t.ok) (hn : t.m < t.b.size + s.size) (hs : s.size <= 70000) :
    Calls Tryz.prog 19 #[.pointer (some ⟨g, 0, none⟩), .string s] w fun e w' => e = .returned (.int .i64 7) /\ Qed w' g t /\ But g w w' := by
  have H := Qa h; have hz := ok.few; have hy := ok.room; have h1 : (t.m : Int) - (t.b.size : Int) < (s.size : Int) := by omega
  have ew : IntKind.i64.wrap ((t.m : Int) - (t.b.size : Int)) = (t.m : Int) - (t.b.size : Int) := by rw [IntKind.wrap_i64]; omega
  clear h ok; go_enter Tryz.func19, Tryz.ntmps19; go_wp2_with fail; refine Qn (fun x => Qed x g t /\ But g w x) (by kernel_rfl) (by kernel_rfl) ⟨H.out.drew, (But.refl g w).drew⟩ ?_
  repeat (first
    | go_big_quiet_skip
    | (refine Qb rfl 3 (.tmp 9) rfl _ (.int .i64 (t.m : Int)) rfl (fun y hy => Qhi y _ (hy.1.cell 2 _ rfl)) ?_; simp only [Act.put, List.setIfInBounds_toArray, List.set])
    | (refine Qb rfl 9 (.tmp 13) rfl _ (.string t.b) rfl (fun y hy => Qai y _ (hy.1.cell 0 _ rfl)) ?_; simp only [Act.put, List.setIfInBounds_toArray, List.set])
    | (refine Ql rfl (fun K hK => ?_); go_simp; (try simp only [ew]); refine hK _ ?_; clear hK K))
  refine wpQuiet_nil ?_; intro x hx; have HX := Qa hx; clear hx; go_wp2; go_ret; exact ⟨rfl, HX.out⟩
theorem rapp8_yes (g : Nat) (t : Tp) (s : ByteArray) (w : World) (h : Qed w g t) (ok : t.ok) (hn : ¬ t.m < t.b.size + s.size) :
    Calls Tryz.prog 19 #[.pointer (some ⟨g, 0, none⟩), .string s] w fun e w' => e = .returned (.int .i64 0) /\ Qed w' g { t with b := t.b ++ s } /\ But g w w' := by
  have H := Qa h; have hz := ok.few; have hy := ok.room; have h1 : ¬ (t.m : Int) - (t.b.size : Int) < (s.size : Int) := by omega
  have ew : IntKind.i64.wrap ((t.m : Int) - (t.b.size : Int)) = (t.m : Int) - (t.b.size : Int) := by rw [IntKind.wrap_i64]; omega
  clear h ok; go_enter Tryz.func19, Tryz.ntmps19; go_wp2_with fail; refine Qn (fun x => Qed x g t /\ But g w x) (by kernel_rfl) (by kernel_rfl) ⟨H.out.drew, (But.refl g w).drew⟩ ?_
  repeat (first
    | go_big_quiet_skip
    | (refine Qb rfl 3 (.tmp 9) rfl _ (.int .i64 (t.m : Int)) rfl (fun y hy => Qhi y _ (hy.1.cell 2 _ rfl)) ?_; simp only [Act.put, List.setIfInBounds_toArray, List.set])
    | (refine Qb rfl 9 (.tmp 13) rfl _ (.string t.b) rfl (fun y hy => Qai y _ (hy.1.cell 0 _ rfl)) ?_; simp only [Act.put, List.setIfInBounds_toArray, List.set])
    | (refine Ql rfl (fun K hK => ?_); go_simp; (try simp only [ew]); refine hK _ ?_; clear hK K))
  refine wpQuiet_nil ?_; intro x hx; have HX := Qa hx; have c0 := hx.1.cell 0 (.string t.b) rfl; have f0 := hx.1.free 0; clear hx; go_wp2; go_ret; exact ⟨rfl, Qd.set HX.out.1 0 _, HX.out.2.set 0 _⟩
theorem Qbr (g : Nat) (t : Tp) (r : Nat) (k : Int) (w : World) (h : Qed w g t) (ok : t.ok) (hr : t.b.size = t.f + r) (h1 : (r : Int) < k) (h0 : 0 < r) :
    Calls Tryz.prog 34 #[.pointer (some ⟨g, 0, none⟩), .int .i64 k] w fun e w' => e = .returned (.tuple #[]) /\ Qed w' g ⟨t.b.extract 0 (t.f + r), t.f + r, t.m, t.s⟩ /\ But g w w' := by
  have H := Qa h; have hz := ok.few; have hy := ok.room; have hx := ok.fast; have hlm : t.f + r <= t.b.size := by omega
  have ew : IntKind.i64.wrap ((t.b.size : Int) - (t.f : Int)) = (r : Int) := by rw [IntKind.wrap_i64]; omega
  have h2 : (0 : Int) < (r : Int) := by omega
  have e1 : IntKind.i64.wrap ((t.f : Int) + (r : Int)) = (t.f : Int) + (r : Int) := by rw [IntKind.wrap_i64]; omega
  have e2 : (0 : Int) <= (t.f : Int) + (r : Int) := by omega
  have e3 : (t.f : Int) + (r : Int) <= (t.b.size : Int) := by omega
  clear h ok; have HR := Qa hr; clear hr; go_enter Tryz.func34, Tryz.ntmps34; go_wp2_with fail; refine Qn (fun x => Qed x g t /\ But g w x) (by kernel_rfl) (by kernel_rfl) ⟨H.out.drew, (But.refl g w).drew⟩ ?_
  repeat (first
    | go_big_quiet_skip
    | (refine Qb rfl 3 (.tmp 12) rfl _ (.int .i64 (t.f : Int)) rfl (fun y hy => Qhi y _ (hy.1.cell 1 _ rfl)) ?_; simp only [Act.put, List.setIfInBounds_toArray, List.set])
    | (refine Qb rfl 9 (.tmp 7) rfl _ (.string t.b) rfl (fun y hy => Qai y _ (hy.1.cell 0 _ rfl)) ?_; simp only [Act.put, List.setIfInBounds_toArray, List.set])
    | (refine Ql rfl (fun K hK => ?_); go_simp; (try simp only [ew]); refine hK _ ?_; clear hK K))
  refine wpQuiet_nil ?_; intro x hx; have HX := Qa hx; have c0 := hx.1.cell 0 (.string t.b) rfl; have c1 := hx.1.cell 1 (.int .i64 (t.f : Int)) rfl; have f0 := hx.1.free 0; have f1 := hx.1.free 1; clear hx; go_wp2_with fail; go_region; go_wp2; go_end0; exact ⟨rfl, Qxn HX.out.1.drew _ _ _ (by omega), (HX.out.2.drew.set 0 _).set 1 _⟩
theorem Qsm (g : Nat) (t : Tp) (r n : Nat) (w : World) (h : Qed w g t) (ok : t.ok) (hr : t.b.size = t.f + r) (hn : n <= r) (h0 : 0 < n) :
    Calls Tryz.prog 34 #[.pointer (some ⟨g, 0, none⟩), .int .i64 (n : Int)] w fun e w' => e = .returned (.tuple #[]) /\ Qed w' g ⟨t.b.extract 0 (t.f + n), t.f + n, t.m, t.s⟩ /\ But g w w' := by
  have H := Qa h; have hz := ok.few; have hy := ok.room; have hx := ok.fast; have hlm : t.f + n <= t.b.size := by omega
  have ew : IntKind.i64.wrap ((t.b.size : Int) - (t.f : Int)) = (r : Int) := by rw [IntKind.wrap_i64]; omega
  have h1 : ¬ (r : Int) < (n : Int) := by omega
  have h2 : (0 : Int) < (n : Int) := by omega
  have e1 : IntKind.i64.wrap ((t.f : Int) + (n : Int)) = (t.f : Int) + (n : Int) := by rw [IntKind.wrap_i64]; omega
  have e2 : (0 : Int) <= (t.f : Int) + (n : Int) := by omega
  have e3 : (t.f : Int) + (n : Int) <= (t.b.size : Int) := by omega
  clear h ok; have HR := Qa hr; clear hr; go_enter Tryz.func34, Tryz.ntmps34; go_wp2_with fail; refine Qn (fun x => Qed x g t /\ But g w x) (by kernel_rfl) (by kernel_rfl) ⟨H.out.drew, (But.refl g w).drew⟩ ?_
  repeat (first
    | go_big_quiet_skip
    | (refine Qb rfl 3 (.tmp 12) rfl _ (.int .i64 (t.f : Int)) rfl (fun y hy => Qhi y _ (hy.1.cell 1 _ rfl)) ?_; simp only [Act.put, List.setIfInBounds_toArray, List.set])
    | (refine Qb rfl 9 (.tmp 7) rfl _ (.string t.b) rfl (fun y hy => Qai y _ (hy.1.cell 0 _ rfl)) ?_; simp only [Act.put, List.setIfInBounds_toArray, List.set])
    | (refine Ql rfl (fun K hK => ?_); go_simp; (try simp only [ew]); refine hK _ ?_; clear hK K))
  refine wpQuiet_nil ?_; intro x hx; have HX := Qa hx; have c0 := hx.1.cell 0 (.string t.b) rfl; have c1 := hx.1.cell 1 (.int .i64 (t.f : Int)) rfl; have f0 := hx.1.free 0; have f1 := hx.1.free 1; clear hx; go_wp2_with fail; go_region; go_wp2; go_end0; exact ⟨rfl, Qxn HX.out.1.drew _ _ _ (by omega), (HX.out.2.drew.set 0 _).set 1 _⟩
theorem Qoo (g : Nat) (t : Tp) (r : Nat) (k : Int) (w : World) (h : Qed w g t) (ok : t.ok) (hr : t.b.size = t.f + r) (hk : k <= 0) :
    Calls Tryz.prog 34 #[.pointer (some ⟨g, 0, none⟩), .int .i64 k] w fun e w' => e = .returned (.tuple #[]) /\ Qed w' g ⟨t.b.extract 0 (t.f), t.f, t.m, t.s⟩ /\ But g w w' := by
  have H := Qa h; have hz := ok.few; have hy := ok.room; have hx := ok.fast; have hlm : t.f <= t.b.size := by omega
  have ew : IntKind.i64.wrap ((t.b.size : Int) - (t.f : Int)) = (r : Int) := by rw [IntKind.wrap_i64]; omega
  have h1 : ¬ (r : Int) < k := by omega
  have h2 : ¬ (0 : Int) < k := by omega
  have e1 : IntKind.i64.wrap (t.f : Int) = (t.f : Int) := by rw [IntKind.wrap_i64]; omega
  have e2 : (0 : Int) <= (t.f : Int) := by omega
  have e3 : (t.f : Int) <= (t.b.size : Int) := by omega
  clear h ok; have HR := Qa hr; clear hr; go_enter Tryz.func34, Tryz.ntmps34; go_wp2_with fail; refine Qn (fun x => Qed x g t /\ But g w x) (by kernel_rfl) (by kernel_rfl) ⟨H.out.drew, (But.refl g w).drew⟩ ?_
  repeat (first
    | go_big_quiet_skip
    | (refine Qb rfl 3 (.tmp 12) rfl _ (.int .i64 (t.f : Int)) rfl (fun y hy => Qhi y _ (hy.1.cell 1 _ rfl)) ?_; simp only [Act.put, List.setIfInBounds_toArray, List.set])
    | (refine Qb rfl 9 (.tmp 7) rfl _ (.string t.b) rfl (fun y hy => Qai y _ (hy.1.cell 0 _ rfl)) ?_; simp only [Act.put, List.setIfInBounds_toArray, List.set])
    | (refine Ql rfl (fun K hK => ?_); go_simp; (try simp only [ew]); refine hK _ ?_; clear hK K))
  refine wpQuiet_nil ?_; intro x hx; have HX := Qa hx; have c0 := hx.1.cell 0 (.string t.b) rfl; have c1 := hx.1.cell 1 (.int .i64 (t.f : Int)) rfl; have f0 := hx.1.free 0; have f1 := hx.1.free 1; clear hx; go_wp2_with fail; go_region; go_wp2; go_end0; exact ⟨rfl, Qxn HX.out.1.drew _ _ _ (by omega), (HX.out.2.drew.set 0 _).set 1 _⟩
theorem Qrn (g : Nat) (t : Tp) (k : Int) (w : World) (h : Qed w g t) (ok : t.ok) (hr : t.b.size = t.f) (h1 : (0 : Int) < k) :
    Calls Tryz.prog 34 #[.pointer (some ⟨g, 0, none⟩), .int .i64 k] w fun e w' => e = .returned (.tuple #[]) /\ Qed w' g ⟨t.b.extract 0 (t.f), t.f, t.m, t.s⟩ /\ But g w w' := by
  have H := Qa h; have hz := ok.few; have hy := ok.room; have hx := ok.fast; have hlm : t.f <= t.b.size := by omega
  have ew : IntKind.i64.wrap ((t.b.size : Int) - (t.f : Int)) = 0 := by rw [IntKind.wrap_i64]; omega
  have e1 : IntKind.i64.wrap (t.f : Int) = (t.f : Int) := by rw [IntKind.wrap_i64]; omega
  have e2 : (0 : Int) <= (t.f : Int) := by omega
  have e3 : (t.f : Int) <= (t.b.size : Int) := by omega
  clear h ok; have HR := Qa hr; clear hr; go_enter Tryz.func34, Tryz.ntmps34; go_wp2_with fail; refine Qn (fun x => Qed x g t /\ But g w x) (by kernel_rfl) (by kernel_rfl) ⟨H.out.drew, (But.refl g w).drew⟩ ?_
  repeat (first
    | go_big_quiet_skip
    | (refine Qb rfl 3 (.tmp 12) rfl _ (.int .i64 (t.f : Int)) rfl (fun y hy => Qhi y _ (hy.1.cell 1 _ rfl)) ?_; simp only [Act.put, List.setIfInBounds_toArray, List.set])
    | (refine Qb rfl 9 (.tmp 7) rfl _ (.string t.b) rfl (fun y hy => Qai y _ (hy.1.cell 0 _ rfl)) ?_; simp only [Act.put, List.setIfInBounds_toArray, List.set])
    | (refine Ql rfl (fun K hK => ?_); go_simp; (try simp only [ew]); refine hK _ ?_; clear hK K))
  refine wpQuiet_nil ?_; intro x hx; have HX := Qa hx; have c0 := hx.1.cell 0 (.string t.b) rfl; have c1 := hx.1.cell 1 (.int .i64 (t.f : Int)) rfl; have f0 := hx.1.free 0; have f1 := hx.1.free 1; clear hx; go_wp2_with fail; go_region; go_wp2; go_end0; exact ⟨rfl, Qxn HX.out.1.drew _ _ _ (by omega), (HX.out.2.drew.set 0 _).set 1 _⟩
theorem Qvh (g : Nat) (t : Tp) (s : ByteArray) (w : World) (h : Qed w g t) (ok : t.ok) (hs : s.size <= 70000) :
    Calls Tryz.prog 19 #[.pointer (some ⟨g, 0, none⟩), .string s] w fun e w' => e = .returned (.int .i64 (t.app s).2) /\ Qed w' g (t.app s).1 /\ But g w w' := by
  unfold Tp.app
  by_cases hn : t.m < t.b.size + s.size
  · rw [if_pos hn]; exact rapp8_no g t s w h ok hn hs
  · rw [if_neg hn]; exact rapp8_yes g t s w h ok hn
theorem Qeh (g : Nat) (t : Tp) (n : Int) (w : World) (h : Qed w g t) (ok : t.ok) :
    Calls Tryz.prog 64 #[.pointer (some ⟨g, 0, none⟩), .int .i64 n] w fun e w' => e = .returned (.int .i64 (t.cut n).2) /\ Qed w' g (t.cut n).1 /\ But g w w' := by
  unfold Tp.cut
  by_cases hn : n < 0 ∨ (t.f : Int) < n
  · rw [if_pos hn]; exact rcut8_no g t n w h hn
  · rw [if_neg hn]; obtain ⟨m, rfl⟩ := Int.eq_ofNat_of_zero_le (show 0 <= n by omega); exact rcut8_yes g t m w h ok (by omega)
theorem Qev (g : Nat) (t : Tp) (n : Int) (w : World) (h : Qed w g t) (ok : t.ok) :
    Calls Tryz.prog 78 #[.pointer (some ⟨g, 0, none⟩), .int .i64 n] w fun e w' => e = .returned (.int .i64 (t.chop n).2) /\ Qed w' g (t.chop n).1 /\ But g w w' := by
  unfold Tp.chop
  by_cases hn : n < 0 ∨ (t.b.size : Int) < n
  · rw [if_pos hn]; exact rchop8_no g t n w h hn
  · rw [if_neg hn]; obtain ⟨m, rfl⟩ := Int.eq_ofNat_of_zero_le (show 0 <= n by omega); exact Quu g t m w h ok (by omega)
theorem Qjq (g : Nat) (t : Tp) (k : Int) (w : World) (h : Qed w g t) (ok : t.ok) :
    Calls Tryz.prog 34 #[.pointer (some ⟨g, 0, none⟩), .int .i64 k] w fun e w' => e = .returned (.tuple #[]) /\ Qed w' g (t.crash k) /\ But g w w' := by
  have hx := ok.fast; obtain ⟨r, hr⟩ : ∃ r, t.b.size = t.f + r := ⟨t.b.size - t.f, by omega⟩; unfold Tp.crash
  by_cases h0 : k <= 0
  · have e : t.left k = t.f := by unfold Tp.left; omega
    rw [e]; exact Qoo g t r k w h ok hr h0
  by_cases h1 : (r : Int) < k
  · by_cases h2 : 0 < r
    · have e : t.left k = t.f + r := by unfold Tp.left; omega
      rw [e]; exact Qbr g t r k w h ok hr h1 h2
    · have e : t.left k = t.f := by unfold Tp.left; omega
      rw [e]; exact Qrn g t k w h ok (by omega) (by omega)
  · obtain ⟨n, rfl⟩ := Int.eq_ofNat_of_zero_le (show 0 <= k by omega); have e : t.left (n : Int) = t.f + n := by unfold Tp.left; omega
    rw [e]; exact Qsm g t r n w h ok hr (by omega) (by omega)
def rlA (gr : Nat) (a : Option Addr) (cap : Nat) (g : Lg) : Array Value := #[.pointer (some ⟨gr, 0, none⟩), .int .u64 (g.c : Int), .slice a g.l.length cap, .int .i64 (g.on : Int), .int .i64 (g.fa : Int), .int .i64 (g.hd : Int), .int .u64 (g.du : Int)]
structure RL (B : Nat) (w : World) (gw gr : Nat) (a : Option Addr) (cap : Nat) (ms : List Rm) (g : Lg) : Prop where
  low1 : B <= gw
  low2 : B <= gr
  log : Qd w gw 49 (rlA gr a cap g)
  tape : Qed w gr g.t
  recs : RB B w a cap ms
  same : msR ms = g.l
def FL (gw gr : Nat) (a : Option Addr) (k : Nat) : Prop := k = gw ∨ k = gr ∨ blk a k
theorem RL.len {B : Nat} {w : World} {gw gr cap : Nat} {a : Option Addr} {ms : List Rm} {g : Lg} (h : RL B w gw gr a cap ms g) : ms.length = g.l.length := by rw [<- h.same]; simp [msR]
theorem RL.loose {B : Nat} {w : World} {gw gr cap : Nat} {a : Option Addr} {ms : List Rm} {g : Lg} (h : RL B w gw gr a cap ms g) : Qrd B w (FL gw gr a) := by
  intro k hk
  rcases hk with rfl | rfl | hk
  · exact ⟨h.low1, h.log.lt, fun t cs hr => by rw [Qca hr h.log]; decide⟩
  · exact ⟨h.low2, h.tape.lt, fun t cs hr => by rw [Qca hr h.tape]; decide⟩
  · exact h.recs.loose k hk
theorem RL.apart {B : Nat} {w : World} {gw gr cap : Nat} {a : Option Addr} {ms : List Rm} {g : Lg} (h : RL B w gw gr a cap ms g) : gw ≠ gr /\ ¬ blk a gw /\ ¬ blk a gr := by
  have hb : ∀ k, blk a k -> ∃ cs, Qd w k 34 cs := by
    intro k ⟨off, e⟩
    rcases h.recs.1 with ⟨h1, _⟩ | ⟨b, off', cs, h1, _, h3, _⟩
    · rw [h1] at e; cases e
    · rw [h1] at e; injection e with e; injection e with e; subst e; exact ⟨cs, h3⟩
  refine ⟨fun e => ?_, fun hk => ?_, fun hk => ?_⟩
  · subst e; exact absurd (Qca h.log h.tape) (by decide)
  · obtain ⟨cs, h2⟩ := hb _ hk; exact absurd (Qca h.log h2) (by decide)
  · obtain ⟨cs, h2⟩ := hb _ hk; exact absurd (Qca h.tape h2) (by decide)
theorem RL.keep {B : Nat} {w x : World} {F : Nat -> Prop} {gw gr cap : Nat} {a : Option Addr} {ms : List Rm} {g : Lg} (h : RL B w gw gr a cap ms g) (hl : Qrd B w F) (p : Tn F w x) (hn : ∀ k, FL gw gr a k -> ¬ F k) : RL B x gw gr a cap ms g :=
  ⟨h.low1, h.low2, p.row h.log (hn _ (.inl rfl)), p.row h.tape (hn _ (.inr (.inl rfl))), h.recs.keep hl p (fun k hk => hn k (.inr (.inr hk))), h.same⟩
theorem RL.later {B : Nat} {w x : World} {gw gr cap : Nat} {a : Option Addr} {ms : List Rm} {g : Lg} (h : RL B w gw gr a cap ms g) (p : Below w.heap.size w x) : RL B x gw gr a cap ms g := h.keep (Qwd B w) (Tn.of_below p) (fun _ _ h => h)
theorem RL.drew {B : Nat} {w : World} {gw gr cap : Nat} {a : Option Addr} {ms : List Rm} {g : Lg} (h : RL B w gw gr a cap ms g) : RL B w.drew gw gr a cap ms g := h.later ⟨rfl, rfl, rfl, Nat.le_refl _, fun _ _ => rfl⟩
theorem RL.set {B : Nat} {w x : World} {gw gr cap cap' : Nat} {a a' : Option Addr} {ms ms' : List Rm} {g g' : Lg} (h : RL B w gw gr a cap ms g) (p : Tn (Is gw) w x) (hl : Qd x gw 49 (rlA gr a' cap' g')) (ht : g'.t = g.t) (hr : RB B w a' cap' ms') (hb : ¬ blk a' gw) (hs : msR ms' = g'.l) : RL B x gw gr a' cap' ms' g' :=
  ⟨h.low1, h.low2, hl, by rw [ht]; exact p.row h.tape (fun e => h.apart.1 e.symm), hr.keep (fun k hk => h.loose k (.inl hk)) p (fun k hk e => hb (by rw [<- e]; exact hk)), hs⟩
theorem RL.turn {B : Nat} {w x : World} {gw gr cap : Nat} {a : Option Addr} {ms : List Rm} {g : Lg} {t : Tp} (h : RL B w gw gr a cap ms g) (p : But gr w x) (ht : Qed x gr t) : RL B x gw gr a cap ms { g with t := t } :=
  ⟨h.low1, h.low2, (Tn.of_but (F := Is gr) p rfl).row h.log h.apart.1, ht, h.recs.keep (fun k hk => h.loose k (.inr (.inl hk))) (Tn.of_but (F := Is gr) p rfl) (fun k hk e => h.apart.2.2 (by rw [<- e]; exact hk)), h.same⟩
theorem RB.lsn {B : Nat} {w : World} {a : Option Addr} {cap : Nat} {ms : List Rm} (h : RB B w a cap ms) {i : Nat} (hi : i < ms.length) : ∃ b off, a = some ⟨b, off, none⟩ /\ w.cell? ⟨b, off + i * 14 + 1, none⟩ = some (.int .u64 ((ms.getD i rcZ).1.l : Int)) := by
  rcases h.1 with ⟨_, rfl, _⟩ | ⟨b, off, cs, rfl, _, _, _, _, h5⟩
  · exact absurd hi (by simp)
  · exact ⟨b, off, rfl, h5 i hi 1 _ rfl⟩
theorem Qki (B : Nat) (w : World) (gw gr cap : Nat) (a : Option Addr) (ms : List Rm) (g : Lg) (h : RL B w gw gr a cap ms g) (hon : g.on <= g.l.length) (hsz : g.l.length <= 100000) :
    Calls Tryz.prog 59 #[.pointer (some ⟨gw, 0, none⟩)] w fun e w' => e = .returned (.tuple #[]) /\ RL B w' gw gr a cap ms { g with fa := g.on, du := if 0 < g.on then (g.l.getD (g.on - 1) Rec.zero).l else g.du } /\ Tn (Is gw) w w' := by
  have H := Qa h; have hap := h.apart; have hlen := h.len; have c2 := h.log.cell 2 (.slice a g.l.length cap) rfl; have c3 := h.log.cell 3 (.int .i64 (g.on : Int)) rfl; have c4 := h.log.cell 4 (.int .i64 (g.fa : Int)) rfl; have c6 := h.log.cell 6 (.int .u64 (g.du : Int)) rfl; have f4 := h.log.free 4; have f6 := h.log.free 6
  by_cases h0 : 0 < g.on
  · rw [if_pos h0]; obtain ⟨b, off, rfl, hcell⟩ := h.recs.lsn (i := g.on - 1) (by omega); have hgd : (g.l.getD (g.on - 1) Rec.zero).l = (ms.getD (g.on - 1) rcZ).1.l := by rw [<- h.same, Qae]
    rw [hgd]; have hbw : b ≠ gw := fun e => hap.2.1 ⟨off, by rw [e]⟩
    have h0' : (0 : Int) < (g.on : Int) := by omega
    obtain ⟨j, hj⟩ : ∃ j, g.on = j + 1 := ⟨g.on - 1, by omega⟩; rw [show g.on - 1 = j by omega] at hcell |-; generalize (ms.getD j rcZ).1.l = L at *; have hcap := h.recs.cap; have HJ := Qa hj; have e1 : (g.on : Int) - 1 = (j : Int) := by omega
    have e2 : (j : Int) < (g.l.length : Int) := by omega
    clear h hgd hap; go_enter Tryz.func59, Tryz.ntmps59; go_wp2_with fail; go_region; go_wp2; go_end0; rw [show (j : Int) + 1 = (g.on : Int) by have := HJ.out; omega]; refine ⟨rfl, H.out.set (((Tn.refl (Is gw) w).set gw 4 _ rfl).set gw 6 _ rfl).drew ?_ rfl H.out.recs (fun hk => H.out.apart.2.1 hk) H.out.same, (((Tn.refl (Is gw) w).set gw 4 _ rfl).set gw 6 _ rfl).drew⟩; exact (H.out.log.set 4 _).set 6 _
  · rw [if_neg h0]; have h0' : ¬ (0 : Int) < (g.on : Int) := by omega
    clear h hap; go_enter Tryz.func59, Tryz.ntmps59; go_wp2; go_end0; refine ⟨rfl, H.out.set ((Tn.refl (Is gw) w).set gw 4 _ rfl) ?_ rfl H.out.recs (fun hk => H.out.apart.2.1 hk) H.out.same, (Tn.refl (Is gw) w).set gw 4 _ rfl⟩; exact H.out.log.set 4 _
theorem Qat (B : Nat) (w : World) (gw gr cap : Nat) (a : Option Addr) (ms : List Rm) (g : Lg) (h : RL B w gw gr a cap ms g) (hfa : g.fa <= g.l.length) (hsz : g.l.length <= 100000) :
    Calls Tryz.prog 40 #[.pointer (some ⟨gw, 0, none⟩)] w fun e w' => e = .returned (.int .u64 (g.pend : Int)) /\ Below w.heap.size w w' := by
  have hlen := h.len; have c2 := h.log.cell 2 (.slice a g.l.length cap) rfl; have c4 := h.log.cell 4 (.int .i64 (g.fa : Int)) rfl; unfold Lg.pend
  by_cases h0 : g.fa = g.l.length
  · rw [if_pos h0]; have h1 : ((g.fa : Int) == (g.l.length : Int)) = true := by simp [h0]
    clear h; go_enter Tryz.func40, Tryz.ntmps40; go_wp2_with fail; go_region; go_wp2; go_ret; exact ⟨rfl, Qra (Below.refl _ _) 1⟩
  · rw [if_neg h0]
    have h1 : ((g.fa : Int) == (g.l.length : Int)) = false := by
      rw [beq_eq_false_iff_ne]; omega
    obtain ⟨b, off, rfl, hcell⟩ := h.recs.lsn (i := g.fa) (by omega); have hgd : (g.l.getD g.fa Rec.zero).l = (ms.getD g.fa rcZ).1.l := by rw [<- h.same, Qae]
    rw [hgd]; have hcap := h.recs.cap; generalize (ms.getD g.fa rcZ).1.l = L at *; have e2 : (g.fa : Int) < (g.l.length : Int) := by omega
    clear h hgd; go_enter Tryz.func40, Tryz.ntmps40; go_wp2_with fail; go_region; go_wp2_with fail; go_region; go_wp2; go_ret; exact ⟨rfl, Qra (Qra (Below.refl _ _) 1) 1⟩
section
structure W9 (LA : Qig) (B : Nat) (w0 w : World) (gp gt gl gr gw : Nat) (g1 g2 : Lg) : Prop where
  logs : ∃ F a cap ms, LA gt gl w F g1 /\ RL B w gw gr a cap ms g2 /\ (∀ k, F k -> ¬ FL gw gr a k) /\ ¬ F gp /\ ¬ FL gw gr a gp
  pair : Qd w gp 44 #[.pointer (some ⟨gt, 0, none⟩), .pointer (some ⟨gl, 0, none⟩), .pointer (some ⟨gr, 0, none⟩), .pointer (some ⟨gw, 0, none⟩)]
  low : B <= gp
  here : B <= w0.heap.size
  bel : Below B w0 w
section
variable {LA : Qig} {B : Nat} {w0 w x : World} {gp gt gl gr gw : Nat} {g1 g2 g' : Lg}
theorem W9.later (CB : ClBase B LA) (h : W9 LA B w0 w gp gt gl gr gw g1 g2) (p : Below w.heap.size w x) : W9 LA B w0 x gp gt gl gr gw g1 g2 := by
  obtain ⟨F, a, cap, ms, h1, h2, h3⟩ := h.logs; exact ⟨⟨F, a, cap, ms, CB.keep _ _ _ _ _ _ _ h1 (Qwd B w) (Tn.of_below p) (fun _ _ h => h), h2.later p, h3⟩, h.pair.later p, h.low, h.here, h.bel.trans (p.mono (Nat.le_trans h.here h.bel.size))⟩
theorem W9.doc (h : W9 LA B w0 w gp gt gl gr gw g1 g2) : ∃ a cap, Qd w gw 49 (rlA gr a cap g2) /\ Qed w gr g2.t := by
  obtain ⟨F, a, cap, ms, h1, h2, _⟩ := h.logs; exact ⟨a, cap, h2.log, h2.tape⟩
end
end
section
open Go.ChangeShapes Go.WideShapes Go.ChangeAt Go.RowKit Go.Deep Go.Joins
set_option maxRecDepth 40000 in
structure Wc where
  k : Int
  m : Rec × Value × Value
  n : Nat
  h : Int
set_option maxRecDepth 40000 in
def wcA (c : Wc) : Array Value := #[.int .i64 c.k, .int .i64 c.m.1.k, .int .u64 (c.m.1.l : Int), .int .i64 c.m.1.t, .int .u64 (c.m.1.p : Int), .int .i64 c.m.1.c.k, .int .i64 c.m.1.c.pg, .int .i64 c.m.1.c.sl, .string c.m.1.c.o, .string c.m.1.c.n, .int .u64 (c.m.1.n : Int), .int .i64 c.m.1.s, .int .u64 (c.m.1.b : Int), c.m.2.1, c.m.2.2, .int .u64 (c.n : Int), .int .i64 c.h]
set_option maxRecDepth 40000 in
def Wc.zero : Wc := ⟨0, rcZ, 0, 0⟩
set_option maxRecDepth 40000 in
def Wc.fits (c : Wc) : Prop := (Lit.int .i64 c.k).wf = true /\ (Lit.int .u64 (c.n : Int)).wf = true /\ (Lit.int .i64 c.h).wf = true /\ c.m.1.fits
section
variable {H : Type} {enc : TypeId × Value -> H} {W : World}
set_option maxRecDepth 40000 in
theorem trod_st4 {P : Program} {t : TypeId} {f0 f1 f2 f3 : Field} {fuel : Nat} {cs : List Value} {x : DataW H × List MemPlace} (ht : P.underlying t = some (.struct #[f0, f1, f2, f3])) (h : DataW.trod enc P W 0 (fun _ => true) true fuel t cs = some x) :
    ∃ y0 y1 y2 y3 n, cs.length = P.cellsOf t /\ DataW.trod enc P W 0 (fun _ => true) true n f0.type ((cs.drop f0.offset).take (P.cellsOf f0.type)) = some y0 /\ DataW.trod enc P W 0 (fun _ => true) true n f1.type ((cs.drop f1.offset).take (P.cellsOf f1.type)) = some y1 /\ DataW.trod enc P W 0 (fun _ => true) true n f2.type ((cs.drop f2.offset).take (P.cellsOf f2.type)) = some y2 /\ DataW.trod enc P W 0 (fun _ => true) true n f3.type ((cs.drop f3.offset).take (P.cellsOf f3.type)) = some y3 := by
  obtain ⟨xs, n, _, rfl, hl, hlen, hf⟩ := DataW.trod_struct ht h
  match xs, hlen with
  | [y0, y1, y2, y3], _ => exact ⟨y0, y1, y2, y3, n, hl, by simpa using hf 0 f0 rfl, by simpa using hf 1 f1 rfl, by simpa using hf 2 f2 rfl, by simpa using hf 3 f3 rfl⟩
set_option maxRecDepth 40000 in
theorem elem_wc (n : Nat) (cs : List Value) (y : DataW H × List MemPlace) (h : DataW.trod enc Tryz.prog W 0 (fun _ => true) true n 36 cs = some y) : ∃ c : Wc, cs = (wcA c).toList /\ (c.fits /\ Qjb W c.m.1 c.m.2.1 c.m.2.2) := by
  obtain ⟨y0, y1, y2, y3, m, hl, h0, h1, h2, h3⟩ := trod_st4 Tryz.underlying36 h; have hC : Tryz.prog.cellsOf 36 = 17 := by kernel_rfl
  rw [hC] at hl
  match cs, hl with
  | [c0, c1, c2, c3, c4, c5, c6, c7, c8, c9, c10, c11, c12, c13, c14, c15, c16], _ =>
    have e0 : Tryz.prog.cellsOf 3 = 1 := by kernel_rfl
    have e1 : Tryz.prog.cellsOf 22 = 1 := by kernel_rfl
    have e2 : Tryz.prog.cellsOf 34 = 14 := by kernel_rfl
    simp only [e0, e1, e2, List.drop_zero, List.drop_succ_cons, List.take_succ_cons, List.take_zero] at h0 h1 h2 h3; obtain ⟨i0, g0, _, w0⟩ := DataW.trod_int Tryz.underlying3 h0; obtain ⟨r, g1, w1, u1⟩ := elem_rec _ _ _ h1; obtain ⟨i2, g2, _, w2⟩ := DataW.trod_int Tryz.underlying22 h2; obtain ⟨i3, g3, _, w3⟩ := DataW.trod_int Tryz.underlying3 h3; simp only [rcF, rcA, List.cons.injEq, and_true] at g0 g1 g2 g3; obtain ⟨a1, a2, a3, a4, a5, a6, a7, a8, a9, a10, a11, a12, a13, a14⟩ := g1; subst g0 a1 a2 a3 a4 a5 a6 a7 a8 a9 a10 a11 a12 a13 a14 g2 g3; obtain ⟨j2, rfl⟩ := Qze w2; exact ⟨⟨i0, r, j2, i3⟩, rfl, ⟨w0, w2, w3, w1⟩, u1⟩
set_option maxRecDepth 40000 in
theorem op_wcs {v : Value} {d : DataW H} {p : List MemPlace} {r : Reach} {b0 : Nat} (hv : Value.okWide Tryz.prog W r b0 23 v) (h : DataW.Trod enc Tryz.prog W 0 (fun _ => true) true 23 v d p) :
    ∃ cs : List Wc, Qsc wcA Wc.zero 17 W v cs /\ cs.length <= maxLen /\ (∀ c ∈ cs, c.fits /\ Qjb W c.m.1 c.m.2.1 c.m.2.2) /\ ∀ a len cap, v = .slice a len cap -> len <= cap := by
  obtain ⟨fuel, hf⟩ := h; obtain ⟨a, len, cap, rfl⟩ := okWide_slice Tryz.underlying23 hv; have hf2 : DataW.trod enc Tryz.prog W 0 (fun _ => true) true fuel 23 [.slice a len cap] = some (d, p) := hf; obtain ⟨cs, h1, h2, h3⟩ := Qrq (sz := 17) wcA Wc.zero (fun c => c.fits /\ Qjb W c.m.1 c.m.2.1 c.m.2.2) elem_wc Tryz.underlying23 (by kernel_rfl) (fun _ => rfl) (by decide) hf2; exact ⟨cs, h1, h2, h3, fun a' l' c' e => (op_cap Tryz.underlying23 hf2 e).1⟩
end
end
theorem Qfs (s : ByteArray) (j : Nat) (h : j / 8 < s.size) : (IntKind.u64.wrap (s[j / 8].toNat : Int) / 2 ^ (j % 8)).tmod 2 = ((Qvk s.data.toList j).toNat : Int) := by
  have hb : s[j / 8].toNat < 256 := s[j / 8].toNat_lt; have e : IntKind.u64.wrap (s[j / 8].toNat : Int) = (s[j / 8].toNat : Int) := by rw [IntKind.wrap_u64]; omega
  rw [e, Qvk, Qql s (j / 8) h, bit_mod]; have e2 : (s[j / 8].toNat : Int) / 2 ^ (j % 8) = ((s[j / 8].toNat / 2 ^ (j % 8) : Nat) : Int) := by simp
  rw [e2]; generalize s[j / 8].toNat / 2 ^ (j % 8) = q; rw [Int.tmod_eq_emod_of_nonneg (by omega)]; omega
theorem rr_yes (s : ByteArray) (q j : Nat) (hq : q < 2 ^ 32) (h : j / 8 < s.size) (ht : ((q : Int) % 2 != (IntKind.u64.wrap (s[j / 8].toNat : Int) / 2 ^ (j % 8)).tmod 2) = true) :
    bits .xor .u64 ((q : Int) / 2) 3988292384 = ((bst q (Qvk s.data.toList j) : Nat) : Int) := by
  rw [Qfs s j h, bne_iff_ne] at ht; have e : ((q : Int) / 2) = ((q / 2 : Nat) : Int) := by omega
  have e2 : (3988292384 : Int) = ((3988292384 : Nat) : Int) := rfl; rw [e, e2, u64_xor_nat (q / 2) 3988292384 (by omega) (by omega), bst_if, if_neg (by omega)]; rfl
theorem rr_no (s : ByteArray) (q j : Nat) (h : j / 8 < s.size) (ht : ((q : Int) % 2 != (IntKind.u64.wrap (s[j / 8].toNat : Int) / 2 ^ (j % 8)).tmod 2) = false) :
    (q : Int) / 2 = ((bst q (Qvk s.data.toList j) : Nat) : Int) := by
  rw [Qfs s j h, bne_eq_false_iff_eq] at ht; rw [bst_if, if_pos (by omega)]; omega
theorem rrun_any (s : ByteArray) (r : Nat) (w : World) (hs : s.size <= 140737488355328) (hr : r < 2 ^ 32) :
    Calls Tryz.prog 116 #[.int .u64 r, .string s] w fun e w' => e = .returned (.int .u64 (Qxo r s.data.toList : Nat)) /\ w = w' := by
  go_enter Tryz.func116, Tryz.ntmps116; go_wp2; go_loop [0, 5] (fun q i => ∃ j : Nat, j <= 8 * s.size /\ i = .int .i64 j /\ q = .int .u64 (Qpf r (Qvk s.data.toList) j : Nat)) (fun _ i => 8 * s.size - (intOf i).toNat)
  case atStart => exact ⟨0, Nat.zero_le _, rfl, rfl⟩
  case round =>
    obtain ⟨j, hj, rfl, rfl⟩ := hrel
    by_cases hlt : j < 8 * s.size
    · have hq := Qlr r (Qvk s.data.toList) hr j; have hjs : j / 8 < s.size := by omega
      go_wp2
      · go_round
        case rel => exact ⟨j + 1, by omega, by go_num, congrArg (Value.int .u64) (rr_yes s _ j hq hjs (by assumption))⟩
        case measure => simp [intOf]; omega
      · go_round
        case rel => exact ⟨j + 1, by omega, by go_num, congrArg (Value.int .u64) (rr_no s _ j hjs (by assumption))⟩
        case measure => simp [intOf]; omega
    · go_wp2; go_ret; obtain rfl : j = 8 * s.size := by omega
      have e := Qav r s.data.toList; rw [Qs] at e; rw [e]; exact ⟨rfl, rfl⟩
theorem rof_any (s : ByteArray) (w : World) (hs : s.size <= 140737488355328) :
    Calls Tryz.prog 101 #[.string s] w fun e w' => e = .returned (.int .u32 (crc s.data.toList : Nat)) /\ w = w' := by
  have hc := Qzj s.data.toList 4294967295 (by decide); have R := rrun_any s 4294967295 w hs (by decide); have HR := Qa R; clear R; go_enter Tryz.func101, Tryz.ntmps101; go_wp2_with fail; refine HR.out.mono ?_; rintro e w1 ⟨rfl, rfl⟩; go_wp2; go_ret; exact ⟨congrArg (fun x => Ending.returned (Value.int .u32 x)) (ones_subI _ hc), rfl⟩
theorem Qbo (s : ByteArray) (w : World) (hs : s.size <= 140737488355328) :
    Calls Tryz.prog 83 #[.string s] w fun e w' => e = .returned (.string ⟨(s.data.toList ++ leB (crc s.data.toList)).toArray⟩) /\ Below w.heap.size w w' := by
  have hx := Qyr s.data.toList; have R := rof_any s w hs; obtain ⟨x, ex⟩ : ∃ x, x = crc s.data.toList := ⟨_, rfl⟩; rw [<- ex] at R hx; rw [<- ex]; have HR := Qa R; clear R ex; go_enter Tryz.func83, Tryz.ntmps83; go_wp2_with fail; refine HR.out.mono ?_; rintro e w1 ⟨rfl, rfl⟩; go_wp2; go_loopw [3, 4, 5] (fun v o i wr => ∃ j : Nat, j <= 4 /\ i = .int .i64 j /\ v = .int .u32 (sh x j : Nat) /\ o = .string ⟨(s.data.toList ++ (leB x).take j).toArray⟩ /\ Below w.heap.size w wr) (fun _ _ i _ => 4 - (intOf i).toNat)
  case atStart => exact ⟨0, Nat.zero_le _, rfl, by rw [sh_zero], by rw [List.take_zero, List.append_nil, Qwl], Below.refl _ _⟩
  case round =>
    obtain ⟨j, hj, rfl, rfl, rfl, hbr⟩ := hrel; have hsh : sh x j < 4294967296 := Nat.lt_of_le_of_lt (sh_le x j) hx
    by_cases hlt : j < 4
    · have hcv := Qlk (P := Tryz.prog) wr 62 9 5 Tryz.underlying62 Tryz.underlying5 Tryz.underlying9 (((sh x j : Nat) : Int) % 256) (UInt8.ofNat (sh x j)) (by rw [Qpc]; omega)
      have hln : ByteArray.size ⟨(s.data.toList ++ (leB x).take j).toArray⟩ + 1 <= 9223372036854775807 := by
        have e := Qxd (s.data.toList ++ (leB x).take j); rw [List.length_append, Qs, List.length_take] at e; omega
      have hl1 : ByteArray.size ⟨#[UInt8.ofNat (sh x j)]⟩ = 1 := rfl; go_wp2; go_roundw
      case rel => exact ⟨j + 1, by omega, by go_num, by rw [<- sh_succ x j]; go_num, by rw [Qqs x j hlt, <- List.append_assoc]; exact congrArg Value.string (Qih _ [UInt8.ofNat (sh x j)]), hbr.alloc hbr.size _⟩
      case measure => simp [intOf]; omega
    · go_wp2; go_ret; obtain rfl : j = 4 := by omega
      exact ⟨rfl, hbr⟩
theorem Qvo (s : ByteArray) (w : World) (h : (s.size : Int) < 4) :
    Calls Tryz.prog 114 #[.string s] w fun e w' => e = .returned (.tuple #[.string ⟨#[]⟩, .int .i64 4]) /\ Below w.heap.size w w' := by
  go_enter Tryz.func114, Tryz.ntmps114; go_wp2; go_ret2; exact ⟨rfl, Below.refl _ _⟩
theorem ropen_yes (s : ByteArray) (L : List UInt8) (w : World) (hs : s.size <= 140737488355328) (h : ¬ (s.size : Int) < 4) (e : s.extract 0 (s.size - 4) = ⟨L.toArray⟩)
    (HR : Hid (Calls Tryz.prog 83 #[.string ⟨L.toArray⟩] w fun e w' => e = .returned (.string s) /\ Below w.heap.size w w')) :
    Calls Tryz.prog 114 #[.string s] w fun e w' => e = .returned (.tuple #[.string ⟨L.toArray⟩, .int .i64 0]) /\ Below w.heap.size w w' := by
  go_enter Tryz.func114, Tryz.ntmps114; go_wp2_with fail; refine HR.out.mono ?_; rintro e w1 ⟨rfl, hb⟩; go_wp2; go_ret2; exact ⟨rfl, hb⟩
theorem ropen_no (s x : ByteArray) (L : List UInt8) (w : World) (hs : s.size <= 140737488355328) (h : ¬ (s.size : Int) < 4) (e : s.extract 0 (s.size - 4) = ⟨L.toArray⟩) (hne : (x.toList == s.toList) = false)
    (HR : Hid (Calls Tryz.prog 83 #[.string ⟨L.toArray⟩] w fun e w' => e = .returned (.string x) /\ Below w.heap.size w w')) :
    Calls Tryz.prog 114 #[.string s] w fun e w' => e = .returned (.tuple #[.string ⟨#[]⟩, .int .i64 3]) /\ Below w.heap.size w w' := by
  go_enter Tryz.func114, Tryz.ntmps114; go_wp2_with fail; refine HR.out.mono ?_; rintro e w1 ⟨rfl, hb⟩; go_wp2; go_ret2; exact ⟨rfl, hb⟩
theorem mk_list (s : ByteArray) (l : List UInt8) (h : l = s.data.toList) : (⟨l.toArray⟩ : ByteArray) = s := by
  subst h; exact Qwl s
theorem ne_list (s : ByteArray) (l : List UInt8) (h : l ≠ s.data.toList) : ((⟨l.toArray⟩ : ByteArray).toList == s.toList) = false := by
  rw [beq_eq_false_iff_ne]; intro e; apply h; have e1 : ∀ b : ByteArray, b.toList = b.data.toList := fun b => ByteArray.toList_eq b
  rw [e1, e1] at e; exact e
theorem ropen_any (s : ByteArray) (w : World) (hs : s.size <= 140737488355328) :
    Calls Tryz.prog 114 #[.string s] w fun e w' => e = .returned (.tuple #[.string ⟨(Qpb s.data.toList).1.toArray⟩, .int .i64 (Qpb s.data.toList).2]) /\ Below w.heap.size w w' := by
  have hd := Qs s
  by_cases h : s.size < 4
  · rw [Qte _ (by omega)]; exact Qvo s w (by omega)
  · have e := Qtc s 0 (s.size - 4) (by omega); rw [Nat.zero_add, List.drop_zero] at e; have hz := Qxd (s.data.toList.take (s.size - 4)); rw [List.length_take] at hz; have R := Qbo ⟨(s.data.toList.take (s.size - 4)).toArray⟩ w (by omega)
    by_cases h2 : leN (s.data.toList.drop (s.data.toList.length - 4)) = crc (s.data.toList.take (s.data.toList.length - 4))
    · have h3 := (Qsg s.data.toList (by omega)).2 h2; rw [Qsh _ (by omega) h2]; rw [hd] at h3 |-; rw [mk_list s _ h3] at R; exact ropen_yes s _ w hs (by omega) e R
    · have h3 : ¬ _ := fun x => h2 ((Qsg s.data.toList (by omega)).1 x)
      rw [Qxi _ (by omega) h2]; rw [hd] at h3; exact ropen_no s _ _ w hs (by omega) e (ne_list s _ h3) R
theorem Qci (r : Rec) (va vb : Value) (w : World) (hr : r.right) (hin : Qjb w r va vb) :
    Calls Tryz.prog 56 #[.agg (rcA r va vb)] w fun e w' => e = .returned (.string (mkS (Qea r))) /\ Below w.heap.size w w' := by
  have HIN := Qa hin; have HBY := Qa (fun w h => bytes_any r va vb w hr h); have HFB : Hid (Qea r = Qji (beB 2 (Qyb r).length ++ Qyb r)) := rfl; have hfew := Qnf r hr; have HK0 := Qa (Qp.one w 34 (rcA r va vb)); clear hin hr; generalize Qea r = FB at *; generalize Qyb r = L at *; obtain ⟨A, hA⟩ : ∃ A, A = rcA r va vb := ⟨_, rfl⟩; rw [<- hA] at HK0 HBY |-
  have HIA : Hid ((Tryz.prog.info? 34).map (·.size) = some A.size) := by
    rw [hA]; exact Qj
  clear hA; have hz := Qu L; generalize hS : mkS L = S at *; have HSS := Qa hS; clear hS; obtain ⟨ln, hln⟩ : ∃ ln, ln = L.length := ⟨_, rfl⟩; rw [<- hln] at hfew HFB hz; have HLN := Qa hln; clear hln; have ewl : IntKind.u64.wrap (ln : Int) = (ln : Int) := by rw [IntKind.wrap_u64]; omega
  have HZ2 := Qa (Qu (beB 2 ln)); have HAD := Qa (fun x => Qvb (mkS (beB 2 ln)) S (by rw [HZ2.out, Qf, hz]; omega) x); go_enter Tryz.func56, Tryz.ntmps56; go_wp2_with (refine Qg rfl 34 (.tmp 1) rfl w.heap.size rfl A HK0.out.1.1 _ Tryz.underlying34 rfl HIA.out ?_); refine (HBY.out _ (HIN.out.below HK0.out.2)).mono ?_; rintro e w1 ⟨rfl, hb1⟩; have HD1 := Qa (HK0.out.later hb1).2; clear HK0 HBY hb1; go_wp2_with fail; refine (Qnl 2 ln w1 (by omega) (by omega)).mono ?_; rintro e w2 ⟨rfl, hb2⟩; have HD2 := Qa (HD1.out.trans (hb2.mono HD1.out.size)); clear HD1 hb2; have hadd := HAD.out w2; have he9 : (⟨(beB 2 ln).toArray⟩ : ByteArray) = mkS (beB 2 ln) := rfl; rw [he9]; generalize hN : mkS (beB 2 ln) = N at *; have HNN := Qa hN; clear hN he9; go_wp2_with (refine Qtn rfl .add 9 _ _ _ rfl _ _ _ rfl rfl rfl hadd ?_)
  have e1 : (N ++ S).data.toList = beB 2 ln ++ L := by
    rw [<- HNN.out, <- HSS.out]; simp [mkS]
  have e2 : (⟨((N ++ S).data.toList ++ leB (crc (N ++ S).data.toList)).toArray⟩ : ByteArray) = mkS FB := by
    rw [HFB.out, e1]; rfl
  have HSE := Qa (Qbo (N ++ S) w2 (by rw [ByteArray.size_append, HZ2.out, Qf, hz]; omega)); rw [e2] at HSE; generalize hFS : mkS FB = FS at HSE; have HFS := Qa hFS; clear e1 e2 hFS; refine HSE.out.mono ?_; rintro e w3 ⟨rfl, hb3⟩; have d3 := HD2.out.trans (hb3.mono HD2.out.size); clear HD2 hb3; go_wp2; go_ret; exact ⟨by rw [HFS.out]; rfl, d3⟩
theorem Qgq (rs : List Rec) (h : ∀ r ∈ rs, r.right) : (Qe rs).length <= rs.length * 1006 := by
  induction rs with
  | nil => exact Nat.le_refl _
  | cons r rs ih =>
    have h1 := ih (fun q hq => h q (List.mem_cons_of_mem _ hq)); have h2 := Qnf r (h r (List.mem_cons_self ..)); rw [Qln, List.length_append, Qva, List.length_cons]; omega
theorem Qyn (ms : List Rm) (i : Nat) : msR (ms.take i) = (msR ms).take i := by simp [msR, List.map_take]
theorem Qkl (ms : List Rm) (j : Nat) (h : j < ms.length) : Qe (msR (ms.take (j + 1))) = Qe (msR (ms.take j)) ++ Qea (ms.getD j rcZ).1 := by
  have e : ms.take (j + 1) = ms.take j ++ [ms.getD j rcZ] := by
    rw [List.take_add_one, List.getD_eq_getElem?_getD, List.getElem?_eq_getElem h]; rfl
  rw [e, Qxc, Qlc]; simp [Qe]
theorem Qtd (a : Option Addr) (cap : Nat) (ms : List Rm) (w : World) (h : Qlf w (.slice a ms.length cap) ms) (hr : ∀ r ∈ msR ms, r.right) (hl : ms.length <= 20000) (hc : ms.length <= cap) :
    Calls Tryz.prog 65 #[.slice a ms.length cap] w fun e w' => e = .returned (.int .i64 ((Qe (msR ms)).length : Int)) /\ Below w.heap.size w w' := by
  have HI := Qa h; have HR := Qa hr; obtain ⟨ln, hln⟩ : ∃ ln, ln = ms.length := ⟨_, rfl⟩; rw [<- hln] at HI hl hc |-; have HLN := Qa hln; clear h hr hln; go_enter Tryz.func65, Tryz.ntmps65; go_wp2; go_loopw [7, 3] (fun i v wr => ∃ j : Nat, j <= ln /\ i = .int .i64 j /\ v = .int .i64 ((Qe (msR (ms.take j))).length : Int) /\ Below w.heap.size w wr) (fun i _ _ => ln - (intOf i).toNat)
  case atStart => exact ⟨0, Nat.zero_le _, rfl, rfl, Below.refl _ _⟩
  case round =>
    obtain ⟨j, hj, rfl, rfl, hbr⟩ := hrel; have HB := Qa hbr; clear hbr; have hf := Qgq (msR (ms.take j)) (fun r hr => HR.out r (by rw [Qyn] at hr; exact List.mem_of_mem_take hr)); have hz : (msR (ms.take j)).length <= j := by simp [msR]; omega
    by_cases hlt : j < ln
    · have hlm : j < ms.length := by have := HLN.out; omega
      obtain ⟨b, off, rfl, hbl, hrg, hft, hin⟩ := HI.out.at (i := j) hlm
      have hrt : (ms.getD j rcZ).1.right := by
        rw [<- Qae]; refine HR.out _ ?_; rw [List.getD_eq_getElem?_getD, List.getElem?_eq_getElem (by simpa [msR] using hlm)]; exact List.getElem_mem _
      have hmore := Qkl ms j hlm; have hfr := Qnf (ms.getD j rcZ).1 hrt; have hfl := Qva (ms.getD j rcZ).1; obtain ⟨m, hm⟩ : ∃ m, m = ms.getD j rcZ := ⟨_, rfl⟩; rw [<- hm] at hrg hft hin hrt hmore hfr hfl; clear hm; have HLD := Qa (Qgd wr b (off + j * 14) m (Qma hrg HB.out hbl)); have HFR : Hid (∀ y, Below w.heap.size w y -> Calls Tryz.prog 56 #[.agg (rcF m)] y fun e w' => e = .returned (.string (mkS (Qea m.1))) /\ Below y.heap.size y w') := Qa (fun y hy => Qci m.1 m.2.1 m.2.2 y hrt (hin.below hy)); have hjI : (j : Int) < (ln : Int) := by omega
      have hlen2 := congrArg List.length hmore; rw [List.length_append] at hlen2; have HN := Qa hlen2; clear hrg hft hin hrt hmore hlen2; have hmk := Qu (Qea m.1); generalize mkS (Qea m.1) = S at *; generalize (Qe (msR (ms.take j))).length = N at *; generalize (Qea m.1).length = M at *; go_wp2_with (refine Qq rfl 34 (.tmp 13) rfl _ _ rfl HLD.out ?_); refine (HFR.out wr HB.out).mono ?_; rintro e w1 ⟨rfl, hb1⟩; have HB1 := Qa (HB.out.trans (hb1.mono HB.out.size)); clear hb1 HB HFR HLD; go_wp2; go_roundw
      case rel => exact ⟨j + 1, by omega, by go_num, by rw [HN.out]; congr 1; omega, HB1.out⟩
      case measure => simp [intOf]; omega
    · obtain rfl : j = ln := by omega
      have e : ms.take j = ms := by rw [HLN.out, List.take_length]
      rw [e]; go_wp2; go_ret; exact ⟨rfl, HB.out⟩
theorem Qmq {b j : Nat} (x : World) (v : ByteArray) (h : x.cell? ⟨b, j, none⟩ = some (.string v)) : (Instr.loadAt 9 (.pointer (some ⟨b, j, none⟩))).run Tryz.prog x = .ok (.string v) x := by
  go_simp
theorem Qbk {b j : Nat} (x : World) (v : Int) (h : x.cell? ⟨b, j, none⟩ = some (.int .i64 v)) : (Instr.loadAt 3 (.pointer (some ⟨b, j, none⟩))).run Tryz.prog x = .ok (.int .i64 v) x := by
  go_simp
theorem Qok {b j : Nat} (x : World) (v : Value) (p : Addr) (hv : v = .pointer (some p)) (h : x.cell? ⟨b, j, none⟩ = some v) : (Instr.loadAt 41 (.pointer (some ⟨b, j, none⟩))).run Tryz.prog x = .ok v x := by
  subst hv; go_simp
theorem Qxq {b j : Nat} (x : World) (a : Option Addr) (n c : Nat) (h : x.cell? ⟨b, j, none⟩ = some (.slice a n c)) : (Instr.loadAt 38 (.pointer (some ⟨b, j, none⟩))).run Tryz.prog x = .ok (.slice a n c) x := by
  go_simp
theorem rused9_go (B : Nat) (w : World) (gw gr : Nat) (b off cap : Nat)  (ms : List Rm) (g : Lg) (hc : ¬ cap = g.on) (h : RL B w gw gr (some ⟨b, off, none⟩) (cap) ms g) (ok : g.ok) :
    Calls Tryz.prog 38 #[.pointer (some ⟨gw, 0, none⟩)] w fun e w' => e = .returned (.int .i64 (g.used : Int)) /\ Below w.heap.size w w' := by
  have hlen := h.len; have hon := ok.on; have hfew := Qfb g ok; have hcap := h.recs.cap; have e1 : (g.on : Int) <= (g.l.length : Int) := by omega
  have e2 : (0 : Int) <= (g.on : Int) := by omega
  have hsm : (msR (ms.drop g.on)) = g.l.drop g.on := by rw [<- h.same]; simp [msR, List.map_drop]
  have hrr : ∀ r ∈ msR (ms.drop g.on), r.right := fun r hr => Qbc _ 0 ok.rise r (by rw [hsm] at hr; exact List.mem_of_mem_drop hr)
  have hdl : (ms.drop g.on).length = g.l.length - g.on := by rw [List.length_drop]; omega
  have HRM : Hid (∀ y, RL B y gw gr (some ⟨b, off, none⟩) (cap) ms g -> Calls Tryz.prog 65 #[.slice (some ⟨b, off + g.on * 14, none⟩) (g.l.length - g.on) (cap - g.on)] y fun e w' => e = .returned (.int .i64 ((Qe (g.l.drop g.on)).length : Int)) /\ Below y.heap.size y w') := Qa (fun y hy => by
    have hrs : Qlf y (.slice (some ⟨b, off + g.on * 14, none⟩) (ms.drop g.on).length (cap - g.on)) (ms.drop g.on) := by
      have hx := hy.recs.rs.rest (i := g.on) (by omega) (ms.drop g.on).length (cap - g.on) (by rw [List.length_drop]); exact hx
    have T := Qtd (some ⟨b, off + g.on * 14, none⟩) (cap - g.on) (ms.drop g.on) y hrs hrr (by rw [hdl]; omega) (by rw [hdl]; omega); rw [hsm, hdl] at T
    exact T)
  have hu : g.used = g.t.b.size + (Qe (g.l.drop g.on)).length := rfl; have hroom := ok.room; have hmm := ok.tok.room; have H := Qa h; clear h ok hrr hsm hdl; rw [hu] at hroom |-; have ew : IntKind.i64.wrap ((g.t.b.size : Int) + ((Qe (g.l.drop g.on)).length : Int)) = (g.t.b.size : Int) + ((Qe (g.l.drop g.on)).length : Int) := by rw [IntKind.wrap_i64]; omega
  have ec : ((g.t.b.size + (Qe (g.l.drop g.on)).length : Nat) : Int) = (g.t.b.size : Int) + ((Qe (g.l.drop g.on)).length : Int) := by omega
  rw [ec]; generalize (Qe (g.l.drop g.on)).length = R at *; clear ec; go_enter Tryz.func38, Tryz.ntmps38; go_wp2_with fail; refine Qn (fun x => RL B x gw gr (some ⟨b, off, none⟩) (cap) ms g /\ Below w.heap.size w x) (by kernel_rfl) (by kernel_rfl) ⟨H.out.drew, Qra (Below.refl _ _) 1⟩ ?_
  repeat (first
    | go_big_quiet_skip
    | (refine Qb rfl 41 _ rfl _ (.pointer (some ⟨gr, 0, none⟩)) rfl (fun y hy => Qok y _ _ rfl (hy.1.log.cell 0 _ rfl)) ?_; simp only [Act.put, List.setIfInBounds_toArray, List.set])
    | (refine Qb rfl 9 _ rfl _ (.string g.t.b) rfl (fun y hy => Qmq y _ (hy.1.tape.cell 0 _ rfl)) ?_; simp only [Act.put, List.setIfInBounds_toArray, List.set])
    | (refine Qb rfl 38 _ rfl _ (.slice (some ⟨b, off, none⟩) (g.l.length) (cap)) rfl (fun y hy => Qxq y _ _ _ (hy.1.log.cell 2 _ rfl)) ?_; simp only [Act.put, List.setIfInBounds_toArray, List.set])
    | (refine Qb rfl 3 _ rfl _ (.int .i64 (g.on : Int)) rfl (fun y hy => Qbk y _ (hy.1.log.cell 3 _ rfl)) ?_; simp only [Act.put, List.setIfInBounds_toArray, List.set])
    | (refine Qi rfl 65 #[.slice (some ⟨b, off + g.on * 14, none⟩) (g.l.length - g.on) (cap - g.on)] (.int .i64 (R : Int)) ?_ (fun x hC => (HRM.out x hC.1).mono fun e x' hh => ⟨hh.1, hC.1.later hh.2, hC.2.trans (hh.2.mono hC.2.size)⟩) ?_; (intro x; go_simp); simp only [Act.put, List.setIfInBounds_toArray, List.set])
    | (refine Ql rfl (fun K hK => ?_); go_simp; (try simp only [ew]); refine hK _ ?_; clear hK K))
  refine wpQuiet_nil ?_; intro x hx; have HX := Qa hx; clear hx; go_wp2; go_ret; exact ⟨rfl, HX.out.2⟩
theorem Qvp (B : Nat) (w : World) (gw gr : Nat) (b off : Nat) (ms : List Rm) (g : Lg) (h : RL B w gw gr (some ⟨b, off, none⟩) (g.on) ms g) (ok : g.ok) :
    Calls Tryz.prog 38 #[.pointer (some ⟨gw, 0, none⟩)] w fun e w' => e = .returned (.int .i64 (g.used : Int)) /\ Below w.heap.size w w' := by
  have hlen := h.len; have hon := ok.on; have hfew := Qfb g ok; have hcap := h.recs.cap; have e1 : (g.on : Int) <= (g.l.length : Int) := by omega
  have e2 : (0 : Int) <= (g.on : Int) := by omega
  have hd0 : g.l.length - g.on = 0 := by omega
  have hsm : (msR (ms.drop g.on)) = g.l.drop g.on := by rw [<- h.same]; simp [msR, List.map_drop]
  have hrr : ∀ r ∈ msR (ms.drop g.on), r.right := fun r hr => Qbc _ 0 ok.rise r (by rw [hsm] at hr; exact List.mem_of_mem_drop hr)
  have hdl : (ms.drop g.on).length = 0 := by rw [List.length_drop]; omega
  have HRM : Hid (∀ y, RL B y gw gr (some ⟨b, off, none⟩) (g.on) ms g -> Calls Tryz.prog 65 #[.slice (some ⟨b, off, none⟩) (0) (0)] y fun e w' => e = .returned (.int .i64 ((Qe (g.l.drop g.on)).length : Int)) /\ Below y.heap.size y w') := Qa (fun y hy => by
    have hrs : Qlf y (.slice (some ⟨b, off, none⟩) (ms.drop g.on).length (0)) (ms.drop g.on) := by
      have e0 : ms.drop g.on = [] := List.eq_nil_of_length_eq_zero (by rw [List.length_drop]; omega); rw [e0]; exact Qlf.empty _ _ _
    have T := Qtd (some ⟨b, off, none⟩) (0) (ms.drop g.on) y hrs hrr (by rw [hdl]; omega) (by rw [hdl]; omega); rw [hsm, hdl] at T
    exact T)
  have hu : g.used = g.t.b.size + (Qe (g.l.drop g.on)).length := rfl; have hroom := ok.room; have hmm := ok.tok.room; have H := Qa h; clear h ok hrr hsm hdl; rw [hu] at hroom |-; have ew : IntKind.i64.wrap ((g.t.b.size : Int) + ((Qe (g.l.drop g.on)).length : Int)) = (g.t.b.size : Int) + ((Qe (g.l.drop g.on)).length : Int) := by rw [IntKind.wrap_i64]; omega
  have ec : ((g.t.b.size + (Qe (g.l.drop g.on)).length : Nat) : Int) = (g.t.b.size : Int) + ((Qe (g.l.drop g.on)).length : Int) := by omega
  rw [ec]; generalize (Qe (g.l.drop g.on)).length = R at *; clear ec; go_enter Tryz.func38, Tryz.ntmps38; go_wp2_with fail; refine Qn (fun x => RL B x gw gr (some ⟨b, off, none⟩) (g.on) ms g /\ Below w.heap.size w x) (by kernel_rfl) (by kernel_rfl) ⟨H.out.drew, Qra (Below.refl _ _) 1⟩ ?_
  repeat (first
    | go_big_quiet_skip
    | (refine Qb rfl 41 _ rfl _ (.pointer (some ⟨gr, 0, none⟩)) rfl (fun y hy => Qok y _ _ rfl (hy.1.log.cell 0 _ rfl)) ?_; simp only [Act.put, List.setIfInBounds_toArray, List.set])
    | (refine Qb rfl 9 _ rfl _ (.string g.t.b) rfl (fun y hy => Qmq y _ (hy.1.tape.cell 0 _ rfl)) ?_; simp only [Act.put, List.setIfInBounds_toArray, List.set])
    | (refine Qb rfl 38 _ rfl _ (.slice (some ⟨b, off, none⟩) (g.l.length) (g.on)) rfl (fun y hy => Qxq y _ _ _ (hy.1.log.cell 2 _ rfl)) ?_; simp only [Act.put, List.setIfInBounds_toArray, List.set])
    | (refine Qb rfl 3 _ rfl _ (.int .i64 (g.on : Int)) rfl (fun y hy => Qbk y _ (hy.1.log.cell 3 _ rfl)) ?_; simp only [Act.put, List.setIfInBounds_toArray, List.set])
    | (refine Qi rfl 65 #[.slice (some ⟨b, off, none⟩) (0) (0)] (.int .i64 (R : Int)) ?_ (fun x hC => (HRM.out x hC.1).mono fun e x' hh => ⟨hh.1, hC.1.later hh.2, hC.2.trans (hh.2.mono hC.2.size)⟩) ?_; (intro x; go_simp); simp only [Act.put, List.setIfInBounds_toArray, List.set])
    | (refine Ql rfl (fun K hK => ?_); go_simp; (try simp only [ew]); refine hK _ ?_; clear hK K))
  refine wpQuiet_nil ?_; intro x hx; have HX := Qa hx; clear hx; go_wp2; go_ret; exact ⟨rfl, HX.out.2⟩
theorem Quq (B : Nat) (w : World) (gw gr : Nat)  (ms : List Rm) (g : Lg) (h : RL B w gw gr (none) (0) ms g) (ok : g.ok) :
    Calls Tryz.prog 38 #[.pointer (some ⟨gw, 0, none⟩)] w fun e w' => e = .returned (.int .i64 (g.used : Int)) /\ Below w.heap.size w w' := by
  have hlen := h.len; have hon := ok.on; have hfew := Qfb g ok; have hcap := h.recs.cap; have hl0 : g.l.length = 0 := by omega
  have hon0 : g.on = 0 := by omega
  have HZ := Qa (And.intro hl0 hon0); have hsm : (msR (ms.drop g.on)) = g.l.drop g.on := by rw [<- h.same]; simp [msR, List.map_drop]
  have hrr : ∀ r ∈ msR (ms.drop g.on), r.right := fun r hr => Qbc _ 0 ok.rise r (by rw [hsm] at hr; exact List.mem_of_mem_drop hr)
  have hdl : (ms.drop g.on).length = 0 := by rw [List.length_drop]; omega
  have HRM : Hid (∀ y, RL B y gw gr (none) (0) ms g -> Calls Tryz.prog 65 #[.slice (none) (0) (0)] y fun e w' => e = .returned (.int .i64 ((Qe (g.l.drop g.on)).length : Int)) /\ Below y.heap.size y w') := Qa (fun y hy => by
    have hrs : Qlf y (.slice (none) (ms.drop g.on).length (0)) (ms.drop g.on) := by
      have e0 : ms.drop g.on = [] := List.eq_nil_of_length_eq_zero (by rw [List.length_drop]; omega); rw [e0]; exact Qlf.empty _ _ _
    have T := Qtd (none) (0) (ms.drop g.on) y hrs hrr (by rw [hdl]; omega) (by rw [hdl]; omega); rw [hsm, hdl] at T
    exact T)
  have hu : g.used = g.t.b.size + (Qe (g.l.drop g.on)).length := rfl; have hroom := ok.room; have hmm := ok.tok.room; have H := Qa h; clear h ok hrr hsm hdl hl0 hon0; rw [hu] at hroom |-; have ew : IntKind.i64.wrap ((g.t.b.size : Int) + ((Qe (g.l.drop g.on)).length : Int)) = (g.t.b.size : Int) + ((Qe (g.l.drop g.on)).length : Int) := by rw [IntKind.wrap_i64]; omega
  have ec : ((g.t.b.size + (Qe (g.l.drop g.on)).length : Nat) : Int) = (g.t.b.size : Int) + ((Qe (g.l.drop g.on)).length : Int) := by omega
  rw [ec]; generalize (Qe (g.l.drop g.on)).length = R at *; clear ec; go_enter Tryz.func38, Tryz.ntmps38; go_wp2_with fail; refine Qn (fun x => RL B x gw gr (none) (0) ms g /\ Below w.heap.size w x) (by kernel_rfl) (by kernel_rfl) ⟨H.out.drew, Qra (Below.refl _ _) 1⟩ ?_
  repeat (first
    | go_big_quiet_skip
    | (refine Qb rfl 41 _ rfl _ (.pointer (some ⟨gr, 0, none⟩)) rfl (fun y hy => Qok y _ _ rfl (hy.1.log.cell 0 _ rfl)) ?_; simp only [Act.put, List.setIfInBounds_toArray, List.set])
    | (refine Qb rfl 9 _ rfl _ (.string g.t.b) rfl (fun y hy => Qmq y _ (hy.1.tape.cell 0 _ rfl)) ?_; simp only [Act.put, List.setIfInBounds_toArray, List.set])
    | (refine Qb rfl 38 _ rfl _ (.slice (none) (0) (0)) rfl (fun y hy => Qxq y none 0 0 (by have e := hy.1.log.cell 2 (.slice none g.l.length 0) rfl; rwa [HZ.out.1] at e)) ?_; simp only [Act.put, List.setIfInBounds_toArray, List.set])
    | (refine Qb rfl 3 _ rfl _ (.int .i64 0) rfl (fun y hy => Qbk y 0 (by have e := hy.1.log.cell 3 (.int .i64 (g.on : Int)) rfl; rwa [HZ.out.2] at e)) ?_; simp only [Act.put, List.setIfInBounds_toArray, List.set])
    | (refine Qi rfl 65 #[.slice (none) (0) (0)] (.int .i64 (R : Int)) ?_ (fun x hC => (HRM.out x hC.1).mono fun e x' hh => ⟨hh.1, hC.1.later hh.2, hC.2.trans (hh.2.mono hC.2.size)⟩) ?_; (intro x; go_simp); simp only [Act.put, List.setIfInBounds_toArray, List.set])
    | (refine Ql rfl (fun K hK => ?_); go_simp; (try simp only [ew]); refine hK _ ?_; clear hK K))
  refine wpQuiet_nil ?_; intro x hx; have HX := Qa hx; clear hx; go_wp2; go_ret; exact ⟨rfl, HX.out.2⟩
theorem Qml (B : Nat) (w : World) (gw gr cap : Nat) (a : Option Addr) (ms : List Rm) (g : Lg) (h : RL B w gw gr a cap ms g) (ok : g.ok) :
    Calls Tryz.prog 38 #[.pointer (some ⟨gw, 0, none⟩)] w fun e w' => e = .returned (.int .i64 (g.used : Int)) /\ Below w.heap.size w w' := by
  rcases h.recs.1 with ⟨rfl, _, rfl⟩ | ⟨b, off, cs, rfl, _⟩
  · exact Quq B w gw gr ms g h ok
  · by_cases hc : cap = g.on
    · subst hc; exact Qvp B w gw gr b off ms g h ok
    · exact rused9_go B w gw gr b off cap ms g hc h ok
end Go.Proofs.YtdbpbgpcjmomdaaGreat
