/-
  Texts that lean on one another, one behind the other: each opens with its own remark.
-/
import Derived.RegionTactic
import Derived.ChangeAlike
import Derived.BigRegion
import Derived.Deep.QuietTactic
import Derived.BigQuiet
import Derived.Test.YtohdmmfmjadipaaK06
import Derived.Test.YtohdmmfmjadipaaK00

/-
  A history in memory while it is being made.
-/
namespace Go.Proofs.Ytohdmmfmjadipaa
open Go.RowKit
set_option linter.unusedVariables false

/-- One page's past, as a slice of its own block. -/
def q1C (b : Nat) : Value := .slice (some ⟨b, 0, none⟩) 1 1
def z3R : Array Value := #[.slice none 0 0, .slice none 0 0, .slice none 0 0]
def z4P : Array Value := pgA Pg.zero ++ pgA Pg.zero ++ pgA Pg.zero ++ pgA Pg.zero
def z174 (gl gp : Nat) : Array Value := ((List.range 174).map (hcell Hs.zero (.slice (some ⟨gl, 0, none⟩) 3 3) (.slice (some ⟨gp, 0, none⟩) 4 4) (.slice none 0 0))).toArray
theorem z174_cells (gl gp : Nat) : HC (z174 gl gp) Hs.zero (.slice (some ⟨gl, 0, none⟩) 3 3) (.slice (some ⟨gp, 0, none⟩) 4 4) (.slice none 0 0) := by
  unfold z174
  refine ⟨by simp, fun j hj => ?_⟩
  simp [hj]
structure NewAt (z : World) (B g gl gp a : Nat) (v : Value) (bq : Nat → Nat) (cs : Array Value) : Prop where
  low : B ≤ g ∧ B ≤ gl ∧ B ≤ gp
  blk : RowAt z g 69 cs
  cells : HC cs Hs.zero (.slice (some ⟨gl, 0, none⟩) 3 3) (.slice (some ⟨gp, 0, none⟩) 4 4) v
  lrow : RowAt z gl 22 z3R
  prow : RowAt z gp 77 z4P
  own : z.ownsRow B 54 1 v a ((List.range a).map fun p => q1C (bq p))
  pag : ∀ p, p < a → B ≤ bq p ∧ RowAt z (bq p) 77 (pgA Pg.zero) ∧ bq p ≠ gp
  apart : ∀ p q, p < a → q < a → p ≠ q → bq p ≠ bq q
theorem NewAt.later {z y : World} {B g gl gp a : Nat} {v : Value} {bq : Nat → Nat} {cs : Array Value} (H : NewAt z B g gl gp a v bq cs) (hb : Below z.heap.size z y) : NewAt y B g gl gp a v bq cs where
  low := H.low
  blk := H.blk.later hb
  cells := H.cells
  lrow := H.lrow.later hb
  prow := H.prow.later hb
  own := ow_later H.own hb
  pag := fun p hp => ⟨(H.pag p hp).1, (H.pag p hp).2.1.later hb, (H.pag p hp).2.2⟩
  apart := H.apart
/-- One more page's past. -/
theorem NewAt.step {z z2 z3 : World} {B g gl gp a b : Nat} {v v' : Value} {bq : Nat → Nat} {cs : Array Value} (H : NewAt z B g gl gp a v bq cs) (h1 : Below z.heap.size z z2) (hb : RowAt z2 b 77 (pgA Pg.zero)) (hbz : z.heap.size ≤ b) (hB : B ≤ z.heap.size) (hg : z2.grownBy z3 v.ownBlock) (ho : z3.ownsRow B 54 1 v' (a + 1) ((List.range a).map (fun p => q1C (bq p)) ++ [q1C b])) :
    NewAt (z3.setCell ⟨g, 2, none⟩ v') B g gl gp (a + 1) v' (upd bq a b) (cs.setIfInBounds 2 v') ∧ Below B z (z3.setCell ⟨g, 2, none⟩ v') ∧ RowAt z3 g 69 cs := by
  have H2 := H.later h1
  have nown : ∀ {k : Nat} {t : TypeId} {cs : Array Value}, RowAt z2 k t cs → t ≠ 54 → v.ownBlock ≠ some k := fun hr2 ht e => by
    obtain ⟨_, cs, h2⟩ := own_in15 H2.own e
    exact ht (row_kind hr2 h2)
  have keep : ∀ {k : Nat} {t : TypeId} {cs : Array Value}, RowAt z2 k t cs → t ≠ 54 → RowAt z3 k t cs := fun hr2 ht => (hg.block _ hr2.lt (fun e => nown hr2 ht e.symm)).trans hr2
  have hblk := keep H2.blk (by decide)
  have other : ∀ {k : Nat} {t : TypeId} {cs : Array Value}, RowAt z3 k t cs → t ≠ 69 → RowAt (z3.setCell ⟨g, 2, none⟩ v') k t cs := fun hr2 ht => hr2.other _ _ (fun e => by
    rw [show g = _ from e.symm] at hblk
    exact ht (row_kind hr2 hblk))
  have hlt : ∀ p, p < a → bq p < z.heap.size := fun p hp => (H.pag p hp).2.1.lt
  have hgpz : gp < z.heap.size := H.prow.lt
  refine ⟨⟨H.low, hblk.set 2 v', H.cells.slices v', other (keep H2.lrow (by decide)) (by decide), other (keep H2.prow (by decide)) (by decide), ?_, fun p hp => ?_, fun p q hp hq hpq => ?_⟩, ?_, hblk⟩
  · have e : (List.range (a + 1)).map (fun p => q1C (upd bq a b p)) = (List.range a).map (fun p => q1C (bq p)) ++ [q1C b] := by
      rw [List.range_succ, List.map_append, List.map_singleton, upd_same]
      congr 1
      refine List.map_congr_left (fun p hp => ?_)
      rw [upd_other _ _ _ _ (by have := List.mem_range.1 hp; omega)]
    rw [e]
    exact own_same15 ho (fun k cs _ hk => other hk (by decide))
  · by_cases e : p = a
    · subst e
      rw [upd_same]
      exact ⟨by omega, other (keep hb (by decide)) (by decide), by omega⟩
    · rw [upd_other _ _ _ _ e]
      have k := H2.pag p (by omega)
      exact ⟨k.1, other (keep k.2.1 (by decide)) (by decide), k.2.2⟩
  · by_cases e : p = a
    · subst e
      rw [upd_same, upd_other _ _ _ _ (fun e => hpq e.symm)]
      have := hlt q (by omega)
      omega
    · rw [upd_other _ _ _ _ e]
      by_cases e2 : q = a
      · subst e2
        rw [upd_same]
        have := hlt p (by omega)
        omega
      · rw [upd_other _ _ _ _ e2]
        exact H.apart p q (by omega) (by omega) hpq
  · have t : Tn (fun k => B ≤ k) z (z3.setCell ⟨g, 2, none⟩ v') := ((Tn.of_below (F := fun k => B ≤ k) h1).then (Tn.of_grown hg (fun k hk => (own_in15 H2.own hk).1))).set g 2 v' H.low.1
    exact t.below (fun k hk => hk) hB
theorem lies_z4P (p : Nat) (hp : p < 4) : Lies z4P (p * 17) (pgA Pg.zero).toList := by
  intro j hj
  have hj' : j < 17 := hj
  have hjs : j = 0 ∨ j = 1 ∨ j = 2 ∨ j = 3 ∨ j = 4 ∨ j = 5 ∨ j = 6 ∨ j = 7 ∨ j = 8 ∨ j = 9 ∨ j = 10 ∨ j = 11 ∨ j = 12 ∨ j = 13 ∨ j = 14 ∨ j = 15 ∨ j = 16 := by omega
  rcases (show p = 0 ∨ p = 1 ∨ p = 2 ∨ p = 3 by omega) with rfl | rfl | rfl | rfl <;> rcases hjs with rfl | rfl | rfl | rfl | rfl | rfl | rfl | rfl | rfl | rfl | rfl | rfl | rfl | rfl | rfl | rfl | rfl <;> rfl
/-- It is made. -/
theorem NewAt.done {z : World} {B g gl gp : Nat} {v : Value} {bq : Nat → Nat} {cs : Array Value} (H : NewAt z B g gl gp 4 v bq cs) : ∃ F, HB z B g F Hs.zero := by
  have own := H.own
  obtain ⟨hx, h0 | ⟨gq, cq, cr, hv, hB, hr, h1, h2, h3, h4⟩⟩ := own
  · exact absurd h0.2 (by decide)
  have hcells := H.cells
  rw [hv] at hcells
  have h4' : cr.toList.take 4 = [q1C (bq 0), q1C (bq 1), q1C (bq 2), q1C (bq 3)] := h4
  have hat : ∀ p, p < 4 → cr[p]? = some (q1C (bq p)) := fun p hp => by
    have e : cr[p]? = (cr.toList.take 4)[p]? := by
      rw [List.getElem?_take, if_pos hp, Array.getElem?_toList]
    rw [e, h4']
    rcases (show p = 0 ∨ p = 1 ∨ p = 2 ∨ p = 3 by omega) with rfl | rfl | rfl | rfl <;> rfl
  refine ⟨_, { gl := gl, gp := gp, gq := gq, cq := cq, vl := fun _ => .slice none 0 0, vq := fun p => q1C (bq p), cs := cs, cl := z3R, cp := z4P, cr := cr }, ?_, rfl⟩
  refine ⟨⟨H.low.1, H.low.2.1, H.low.2.2, hB⟩, H.blk, hcells, H.lrow, rfl, fun n hn => ?_, H.prow, rfl, fun p hp => ?_, hr, by show 4 ≤ cr.size; omega, hat, fun n hn => OwnL.nil _ _, fun p hp => ?_, fun n m k _ _ _ e => ?_, fun n m k hn hm hnm e => ?_, fun p hp => ?_⟩
  · rcases (show n = 0 ∨ n = 1 ∨ n = 2 by omega) with rfl | rfl | rfl <;> rfl
  · exact lies_z4P p hp
  · have k := H.pag p hp
    exact ⟨rfl, .inr ⟨bq p, 1, pgA Pg.zero, rfl, k.1, k.2.1, Nat.le_refl 1, by decide, rfl, rfl⟩⟩
  · exact absurd e (by show ¬ (none : Option Nat) = some k; simp)
  · have e' : some (bq n) = some k := e
    intro e2
    have e2' : some (bq m) = some k := e2
    exact H.apart n m hn hm hnm (by rw [← e2'] at e'; injection e')
  · intro e
    have e' : some (bq p) = some gp := e
    injection e' with e'
    exact (H.pag p hp).2.2 e'
end Go.Proofs.Ytohdmmfmjadipaa

/-
  The contract of quaysideref15's log.
-/
namespace Go.Proofs.Ytohdmmfmjadipaa
open Go.RowKit
set_option linter.unusedVariables false

theorem load_lit15 (y : World) (g : Nat) (cs : Array Value) (hz : cs.size = 14) (h : RowAt y g 30 cs) : (Instr.loadAt 30 (.pointer (some ⟨g, 0, none⟩))).run Try.prog y = .ok (.agg cs) y := by
  have h1 := run_loadAt_mid (P := Try.prog) y g 0 30 cs.toList _ (fun j u hu => by rw [Nat.zero_add]; exact h.cell j u (by simpa using hu)) Try.underlying30 rfl (by rw [infoRc, Array.length_toList, hz])
  rwa [Array.toArray_toList] at h1
set_option maxRecDepth 8000 in
set_option maxHeartbeats 3200000 in
theorem hlog15 (w : World) (B g n i o floor : Nat) (F : Nat → Prop) (h : Hs) (r : Rec) (H : HB w B g F h) (hn : n < 3) (hi : i < 9) (ho : o = 9 + i * 4) (hr : r.bare) (h1 : h.ck n ≤ 100000) (h2 : floor ≤ 100000) (h3 : (h.lg n).length ≤ 900) :
    Calls Try.prog 53 #[.pointer (some ⟨g, 0, none⟩), .int .i64 (n : Int), .pointer (some ⟨g, o, none⟩), .agg (rcF (bareM r)), .int .u64 (floor : Int)] w fun e w' => ∃ F', e = .returned (.int .u64 (h.lsn n floor : Int)) ∧ HB w' B g F' (h.log n i r floor) ∧ Aft15 F F' w w' := by
  have HH := hide H
  have c1 : ∀ cs, (w.alloc (.cells cs 30)).cell? ⟨g, 3 + n, none⟩ = some (.int .u64 (h.ck n : Int)) := fun cs => (H.later ((Below.refl _ _).alloc (Nat.le_refl _) _)).ck hn
  have t0 : ∀ cs, (w.alloc (.cells cs 30)).cell? ⟨g, o, none⟩ = some (.int .i64 (h.tx i).nr) := fun cs => ((H.later ((Below.refl _ _).alloc (Nat.le_refl _) _)).tu hi ho).1
  have t2 : ∀ cs, (w.alloc (.cells cs 30)).cell? ⟨g, o + 2, none⟩ = some (.int .u64 ((h.tx i).last : Int)) := fun cs => ((H.later ((Below.refl _ _).alloc (Nat.le_refl _) _)).tu hi ho).2.2.1
  have HO := hide ho
  clear ho
  have hrc : rcF (bareM r) = #[.int .i64 r.k, .int .u64 (r.l : Int), .int .i64 r.t, .int .u64 (r.p : Int), .int .i64 r.c.k, .int .i64 r.c.pg, .int .i64 r.c.sl, .string r.c.o, .string r.c.n, .int .u64 (r.n : Int), .int .i64 r.s, .int .u64 (r.b : Int), .slice none 0 0, .slice none 0 0] := rfl
  rw [hrc]
  have i1 : (n : Int) < 3 := by omega
  clear H hrc
  obtain ⟨c, hc⟩ : ∃ c, c = h.ck n := ⟨_, rfl⟩
  obtain ⟨nr, hnr⟩ : ∃ c, c = (h.tx i).nr := ⟨_, rfl⟩
  obtain ⟨lst, hlst⟩ : ∃ c, c = (h.tx i).last := ⟨_, rfl⟩
  rw [← hc] at c1 h1
  rw [← hnr] at t0
  rw [← hlst] at t2
  obtain ⟨L, hL⟩ : ∃ L, L = max c floor + 1 := ⟨_, rfl⟩
  have e1 : h.lsn n floor = L := by rw [hL, hc]; rfl
  have hmx : (if c < floor then (floor : Int) else (c : Int)) = (L : Int) - 1 := by
    rw [hL]
    by_cases hcf : c < floor
    · rw [if_pos hcf]
      omega
    · rw [if_neg hcf]
      omega
  have ew : IntKind.u64.wrap ((L : Int) - 1 + 1) = (L : Int) := by rw [IntKind.wrap_u64]; omega
  rw [e1]
  have HL := hide (And.intro e1 (And.intro hnr hlst))
  have eE : h.entry n i r floor = ⟨r.k, L, nr, lst, r.c, r.n, r.s, r.b, r.ts, r.ds⟩ := by
    unfold Hs.entry
    rw [e1, hnr, hlst]
  have HE : Hid (h.entry n i r floor = ⟨r.k, L, nr, lst, r.c, r.n, r.s, r.b, [], []⟩) := by
    show h.entry n i r floor = _
    rw [eE, hr.1, hr.2.1]
  clear e1 hc hnr hlst hL eE
  go_enter Try.func53, Try.ntmps53
  go_wp2_with fail
  -- the record is laid; the clock
  have hb0 : Below w.heap.size w (w.alloc (.cells #[.int .i64 r.k, .int .u64 (L : Int), .int .i64 nr, .int .u64 (lst : Int), .int .i64 r.c.k, .int .i64 r.c.pg, .int .i64 r.c.sl, .string r.c.o, .string r.c.n, .int .u64 (r.n : Int), .int .i64 r.s, .int .u64 (r.b : Int), .slice none 0 0, .slice none 0 0] 30)) := (Below.refl _ _).alloc (Nat.le_refl _) _
  obtain ⟨g8, hg8⟩ : ∃ k, k = w.heap.size := ⟨_, rfl⟩
  have H0 : Hid (HB (w.alloc (.cells #[.int .i64 r.k, .int .u64 (L : Int), .int .i64 nr, .int .u64 (lst : Int), .int .i64 r.c.k, .int .i64 r.c.pg, .int .i64 r.c.sl, .string r.c.o, .string r.c.n, .int .u64 (r.n : Int), .int .i64 r.s, .int .u64 (r.b : Int), .slice none 0 0, .slice none 0 0] 30)) B g F h ∧ RowAt (w.alloc (.cells #[.int .i64 r.k, .int .u64 (L : Int), .int .i64 nr, .int .u64 (lst : Int), .int .i64 r.c.k, .int .i64 r.c.pg, .int .i64 r.c.sl, .string r.c.o, .string r.c.n, .int .u64 (r.n : Int), .int .i64 r.s, .int .u64 (r.b : Int), .slice none 0 0, .slice none 0 0] 30)) g8 30 #[.int .i64 r.k, .int .u64 (L : Int), .int .i64 nr, .int .u64 (lst : Int), .int .i64 r.c.k, .int .i64 r.c.pg, .int .i64 r.c.sl, .string r.c.o, .string r.c.n, .int .u64 (r.n : Int), .int .i64 r.s, .int .u64 (r.b : Int), .slice none 0 0, .slice none 0 0] ∧ Aft15 F F w (w.alloc (.cells #[.int .i64 r.k, .int .u64 (L : Int), .int .i64 nr, .int .u64 (lst : Int), .int .i64 r.c.k, .int .i64 r.c.pg, .int .i64 r.c.sl, .string r.c.o, .string r.c.n, .int .u64 (r.n : Int), .int .i64 r.s, .int .u64 (r.b : Int), .slice none 0 0, .slice none 0 0] 30)) ∧ ¬ F g8) := by
    rw [hg8]
    exact ⟨HH.out.later hb0, RowAt.new w _ _, Aft15.first hb0 (Aft15.refl _ _), fun hk => by have := (HH.out.here hk).2; omega⟩
  rw [← hg8]
  clear hb0 hg8 c1 t0 t2
  refine gen_wp (fun y => HB y B g F h ∧ RowAt y g8 30 #[.int .i64 r.k, .int .u64 (L : Int), .int .i64 nr, .int .u64 (lst : Int), .int .i64 r.c.k, .int .i64 r.c.pg, .int .i64 r.c.sl, .string r.c.o, .string r.c.n, .int .u64 (r.n : Int), .int .i64 r.s, .int .u64 (r.b : Int), .slice none 0 0, .slice none 0 0] ∧ Aft15 F F w y ∧ ¬ F g8) H0.out ?_
  intro y HY0
  have HY := hide HY0
  clear HY0 H0
  have k1 := HY.out.1.ck hn
  have k8 := HY.out.2.1.cell 1 (.int .u64 (L : Int)) rfl
  have f1 := HY.out.1.free (3 + n)
  have hne : ¬ g8 = g := fun e => HY.out.2.2.2 (by rw [e]; exact HY.out.1.mine)
  have hne2 : ¬ g = g8 := fun e => hne e.symm
  go_region_held3 (fun z => z.cell? ⟨g8, 1, none⟩ = some (.int .u64 (L : Int))) (go_keep) (fail)
  have q1 := HY.out.1.cell (3 + n) (.int .u64 (L : Int)) (fun cs a b c H => H.setCk hn L) rfl rfl rfl
  refine gen_w (fun z => HB z B g F (h.setCk n L) ∧ RowAt z g8 30 #[.int .i64 r.k, .int .u64 (L : Int), .int .i64 nr, .int .u64 (lst : Int), .int .i64 r.c.k, .int .i64 r.c.pg, .int .i64 r.c.sl, .string r.c.o, .string r.c.n, .int .u64 (r.n : Int), .int .i64 r.s, .int .u64 (r.b : Int), .slice none 0 0, .slice none 0 0] ∧ Aft15 F F w z ∧ ¬ F g8) (show _ from ⟨q1.1.drew, HY.out.2.1.other ⟨g, 3 + n, none⟩ (.int .u64 (L : Int)) hne, (HY.out.2.2.1.trans q1.2).later (below_drew (Below.refl _ _)), HY.out.2.2.2⟩) ?_
  intro z HZ0
  have HZ := hide HZ0
  clear HZ0 HY k1 k8 f1 q1
  have k2 := (HZ.out.1.tu hi HO.out).2.2.1
  have k8 := HZ.out.2.1.cell 1 (.int .u64 (L : Int)) rfl
  have f2 := HZ.out.1.free (o + 2)
  go_wp2_with fail
  -- the record is appended
  have q2 := HZ.out.1.cell (h' := (h.setCk n L).setTx i ((h.tx i).setLast L)) (o + 2) (.int .u64 (L : Int)) (fun cs a b c H => by rw [HO.out]; exact H.setTx hi _ 2 (by omega) _ rfl (fun k hk he => by
    rcases (show k = 0 ∨ k = 1 ∨ k = 2 ∨ k = 3 by omega) with rfl | rfl | rfl | rfl
    · rfl
    · rfl
    · exact absurd rfl he
    · rfl)) rfl rfl rfl
  have HQ : Hid (HB (z.setCell ⟨g, o + 2, none⟩ (.int .u64 (L : Int))) B g F ((h.setCk n L).setTx i ((h.tx i).setLast L)) ∧ RowAt (z.setCell ⟨g, o + 2, none⟩ (.int .u64 (L : Int))) g8 30 #[.int .i64 r.k, .int .u64 (L : Int), .int .i64 nr, .int .u64 (lst : Int), .int .i64 r.c.k, .int .i64 r.c.pg, .int .i64 r.c.sl, .string r.c.o, .string r.c.n, .int .u64 (r.n : Int), .int .i64 r.s, .int .u64 (r.b : Int), .slice none 0 0, .slice none 0 0] ∧ Aft15 F F w (z.setCell ⟨g, o + 2, none⟩ (.int .u64 (L : Int))) ∧ ¬ F g8) := ⟨q2.1, HZ.out.2.1.other _ _ hne, HZ.out.2.2.1.trans q2.2, HZ.out.2.2.2⟩
  clear HZ q2 k2 k8 f2
  refine gen_wp (fun y => HB y B g F ((h.setCk n L).setTx i ((h.tx i).setLast L)) ∧ RowAt y g8 30 #[.int .i64 r.k, .int .u64 (L : Int), .int .i64 nr, .int .u64 (lst : Int), .int .i64 r.c.k, .int .i64 r.c.pg, .int .i64 r.c.sl, .string r.c.o, .string r.c.n, .int .u64 (r.n : Int), .int .i64 r.s, .int .u64 (r.b : Int), .slice none 0 0, .slice none 0 0] ∧ Aft15 F F w y ∧ ¬ F g8) HQ.out ?_
  intro y HY0
  obtain ⟨⟨x, HX0, rfl⟩, HR8, HAF, HNF⟩ := HY0
  have HD : Hid (HAt y.drew B g x ((h.setCk n L).setTx i ((h.tx i).setLast L)) ∧ RowAt y.drew g8 30 #[.int .i64 r.k, .int .u64 (L : Int), .int .i64 nr, .int .u64 (lst : Int), .int .i64 r.c.k, .int .i64 r.c.pg, .int .i64 r.c.sl, .string r.c.o, .string r.c.n, .int .u64 (r.n : Int), .int .i64 r.s, .int .u64 (r.b : Int), .slice none 0 0, .slice none 0 0] ∧ Aft15 (FH g x) (FH g x) w y.drew ∧ ¬ FH g x g8) := ⟨HX0.drew, HR8, HAF.later (below_drew (Below.refl _ _)), HNF⟩
  have HLW := hide (Nat.le_trans (Nat.le_of_lt (Nat.lt_of_le_of_lt HX0.low.1 HX0.blk.lt)) (Nat.le_refl y.heap.size))
  obtain ⟨av, cv, hv⟩ := own_slot15 (HX0.lown n hn).1
  have HV := hide hv
  obtain ⟨ll, hll⟩ : ∃ ll, ll = (h.lg n).length := ⟨_, rfl⟩
  have hv2 : x.vl n = .slice av ll cv := by rw [hll]; exact hv
  have HLL := hide hll
  clear HX0 HR8 HAF HNF HQ hv hll
  apply share15 (F := fun gn a9 c9 z => Hid (∃ F', HB z B g F' (((h.setCk n L).setTx i ((h.tx i).setLast L)).push n ⟨r.k, L, nr, lst, r.c, r.n, r.s, r.b, [], []⟩) ∧ RowAt z g8 30 #[.int .i64 r.k, .int .u64 (L : Int), .int .i64 nr, .int .u64 (lst : Int), .int .i64 r.c.k, .int .i64 r.c.pg, .int .i64 r.c.sl, .string r.c.o, .string r.c.n, .int .u64 (r.n : Int), .int .i64 r.s, .int .u64 (r.b : Int), .slice none 0 0, .slice none 0 0] ∧ Aft15 (FH g x) F' w z))
  (case h =>
    intro REST
    obtain ⟨gn, hgn⟩ : ∃ k, k = y.drew.heap.size := ⟨_, rfl⟩
    refine wp_region_noPanic ?_
    refine wp_region_held_drew (S := fun z => RowAt z g 69 x.cs ∧ RowAt z g8 30 #[.int .i64 r.k, .int .u64 (L : Int), .int .i64 nr, .int .u64 (lst : Int), .int .i64 r.c.k, .int .i64 r.c.pg, .int .i64 r.c.sl, .string r.c.o, .string r.c.n, .int .u64 (r.n : Int), .int .i64 r.s, .int .u64 (r.b : Int), .slice none 0 0, .slice none 0 0]) (by kernel_rfl) (⟨HD.out.1.blk, HD.out.2.1⟩) (fun hHeld => ?_)
    refine hand_take 0 (some 43) (.pointer (some ⟨g, 0, none⟩)) rfl rfl (by kernel_rfl) (by kernel_rfl) (by kernel_rfl) (fun _ _ _ h => h) (Or.inl ⟨by kernel_rfl, fun x' hSx => by go_simp⟩) hHeld ?_
    try simp only [Act.put, List.setIfInBounds_toArray, List.set_cons_zero, List.set_cons_succ]
    refine hand_take 1 (some 44) (.pointer (some ⟨g, 0, none⟩)) rfl rfl (by kernel_rfl) (by kernel_rfl) (by kernel_rfl) (fun _ _ _ h => h) (Or.inl ⟨by kernel_rfl, fun x' hSx => by go_simp⟩) hHeld ?_
    try simp only [Act.put, List.setIfInBounds_toArray, List.set_cons_zero, List.set_cons_succ]
    refine hand_take 2 (some 45) (.pointer (some ⟨g, 0, none⟩)) rfl rfl (by kernel_rfl) (by kernel_rfl) (by kernel_rfl) (fun _ _ _ h => h) (Or.inl ⟨by kernel_rfl, fun x' hSx => by go_simp⟩) hHeld ?_
    try simp only [Act.put, List.setIfInBounds_toArray, List.set_cons_zero, List.set_cons_succ]
    refine hand_take 3 (some 46) (.slice (some ⟨x.gl, 0, none⟩) 3 3) rfl rfl (by kernel_rfl) (by kernel_rfl) (by kernel_rfl) (fun _ _ _ h => h) (Or.inl ⟨by kernel_rfl, fun x' hSx => by have h : World.cell? x' ⟨g, 0, none⟩ = some (.slice (some ⟨x.gl, 0, none⟩) 3 3) := hSx.1.cell _ _ HD.out.1.cells.c0; go_simp⟩) hHeld ?_
    try simp only [Act.put, List.setIfInBounds_toArray, List.set_cons_zero, List.set_cons_succ]
    refine hand_take 4 (some 47) (.int .i64 (n : Int)) rfl rfl (by kernel_rfl) (by kernel_rfl) (by kernel_rfl) (fun _ _ _ h => h) (Or.inl ⟨by kernel_rfl, fun x' hSx => by go_simp⟩) hHeld ?_
    try simp only [Act.put, List.setIfInBounds_toArray, List.set_cons_zero, List.set_cons_succ]
    refine hand_take 5 (some 48) (.pointer (some ⟨g, 0, none⟩)) rfl rfl (by kernel_rfl) (by kernel_rfl) (by kernel_rfl) (fun _ _ _ h => h) (Or.inl ⟨by kernel_rfl, fun x' hSx => by go_simp⟩) hHeld ?_
    try simp only [Act.put, List.setIfInBounds_toArray, List.set_cons_zero, List.set_cons_succ]
    refine hand_take 6 (some 49) (.pointer (some ⟨g, 0, none⟩)) rfl rfl (by kernel_rfl) (by kernel_rfl) (by kernel_rfl) (fun _ _ _ h => h) (Or.inl ⟨by kernel_rfl, fun x' hSx => by go_simp⟩) hHeld ?_
    try simp only [Act.put, List.setIfInBounds_toArray, List.set_cons_zero, List.set_cons_succ]
    refine hand_take 7 (some 50) (.pointer (some ⟨g, 0, none⟩)) rfl rfl (by kernel_rfl) (by kernel_rfl) (by kernel_rfl) (fun _ _ _ h => h) (Or.inl ⟨by kernel_rfl, fun x' hSx => by go_simp⟩) hHeld ?_
    try simp only [Act.put, List.setIfInBounds_toArray, List.set_cons_zero, List.set_cons_succ]
    refine hand_take 8 (some 51) (.slice (some ⟨x.gl, 0, none⟩) 3 3) rfl rfl (by kernel_rfl) (by kernel_rfl) (by kernel_rfl) (fun _ _ _ h => h) (Or.inl ⟨by kernel_rfl, fun x' hSx => by have h : World.cell? x' ⟨g, 0, none⟩ = some (.slice (some ⟨x.gl, 0, none⟩) 3 3) := hSx.1.cell _ _ HD.out.1.cells.c0; go_simp⟩) hHeld ?_
    try simp only [Act.put, List.setIfInBounds_toArray, List.set_cons_zero, List.set_cons_succ]
    refine hand_take 9 (some 52) (.int .i64 (n : Int)) rfl rfl (by kernel_rfl) (by kernel_rfl) (by kernel_rfl) (fun _ _ _ h => h) (Or.inl ⟨by kernel_rfl, fun x' hSx => by go_simp⟩) hHeld ?_
    try simp only [Act.put, List.setIfInBounds_toArray, List.set_cons_zero, List.set_cons_succ]
    refine hand_take 10 (some 53) (.pointer (some ⟨x.gl, n, none⟩)) rfl rfl (by kernel_rfl) (by kernel_rfl) (by kernel_rfl) (fun _ _ _ h => h) (Or.inl ⟨by kernel_rfl, fun x' hSx => by go_simp⟩) hHeld ?_
    try simp only [Act.put, List.setIfInBounds_toArray, List.set_cons_zero, List.set_cons_succ]
    refine hand_take 12 (some 55) (.agg #[.int .i64 r.k, .int .u64 (L : Int), .int .i64 nr, .int .u64 (lst : Int), .int .i64 r.c.k, .int .i64 r.c.pg, .int .i64 r.c.sl, .string r.c.o, .string r.c.n, .int .u64 (r.n : Int), .int .i64 r.s, .int .u64 (r.b : Int), .slice none 0 0, .slice none 0 0]) rfl rfl (by kernel_rfl) (by kernel_rfl) (by kernel_rfl) (fun _ _ _ h => h) (yieldsIf_load_run (by kernel_rfl) 30 _ rfl (.pointer (some ⟨g8, 0, none⟩)) rfl _ (fun x' hSx => load_lit15 x' g8 _ rfl hSx.2)) hHeld ?_
    try simp only [Act.put, List.setIfInBounds_toArray, List.set_cons_zero, List.set_cons_succ]
    refine hand_two 11 13 (by kernel_rfl) ?_ ?_
    · skip
      refine hand_run (some 54) rfl rfl rfl (.slice av ll cv) y.drew (exec_load 22 _ rfl (.pointer (some ⟨x.gl, n, none⟩)) rfl _ (load_rs15 _ _ _ _ (by rw [← hv2]; exact HD.out.1.lrow.cell _ _ (HD.out.1.lat n hn)))) ?_
      refine ⟨⟨HD.out.1.blk, HD.out.2.1⟩, ?_⟩
      try simp only [Act.put, List.setIfInBounds_toArray, List.set_cons_zero, List.set_cons_succ]
      refine hand_one 13 (by kernel_rfl) ?_
      have hb1 : Below y.drew.heap.size y.drew (y.drew.alloc (.cells #[.int .i64 r.k, .int .u64 (L : Int), .int .i64 nr, .int .u64 (lst : Int), .int .i64 r.c.k, .int .i64 r.c.pg, .int .i64 r.c.sl, .string r.c.o, .string r.c.n, .int .u64 (r.n : Int), .int .i64 r.s, .int .u64 (r.b : Int), .slice none 0 0, .slice none 0 0] 30)) := (Below.refl _ _).alloc (Nat.le_refl _) _
      refine hand_run (some 56) rfl rfl rfl (.slice (some ⟨gn, 0, none⟩) 1 1) (y.drew.alloc (.cells #[.int .i64 r.k, .int .u64 (L : Int), .int .i64 nr, .int .u64 (lst : Int), .int .i64 r.c.k, .int .i64 r.c.pg, .int .i64 r.c.sl, .string r.c.o, .string r.c.n, .int .u64 (r.n : Int), .int .i64 r.s, .int .u64 (r.b : Int), .slice none 0 0, .slice none 0 0] 30)) ?hz ?_
      (case hz => rw [hgn]; go_simp)
      have A1 := HD.out.1.later hb1
      have R1 := HD.out.2.1.later hb1
      refine ⟨⟨A1.blk, R1⟩, ?_⟩
      try simp only [Act.put, List.setIfInBounds_toArray, List.set_cons_zero, List.set_cons_succ]
      obtain ⟨v', w2, hrun, hown, hgr, hat⟩ := run_app_one (y.drew.alloc (.cells #[.int .i64 r.k, .int .u64 (L : Int), .int .i64 nr, .int .u64 (lst : Int), .int .i64 r.c.k, .int .i64 r.c.pg, .int .i64 r.c.sl, .string r.c.o, .string r.c.n, .int .u64 (r.n : Int), .int .i64 r.s, .int .u64 (r.b : Int), .slice none 0 0, .slice none 0 0] 30)) 22 30 22 14 160 (.agg zeroA) Try.underlying22 infoRc3 rfl (by decide) (by decide) B (x.vl n) (h.lg n).length (flatR (bareMs (h.lg n))) (A1.lown n hn).1 y.drew.heap.size #[.int .i64 r.k, .int .u64 (L : Int), .int .i64 nr, .int .u64 (lst : Int), .int .i64 r.c.k, .int .i64 r.c.pg, .int .i64 r.c.sl, .string r.c.o, .string r.c.n, .int .u64 (r.n : Int), .int .i64 r.s, .int .u64 (r.b : Int), .slice none 0 0, .slice none 0 0] (RowAt.new y.drew _ _) rfl (by simp [Value.oneCell']) (by omega) (Nat.le_trans HLW.out hb1.size)
      obtain ⟨av2, cv2, rfl⟩ := own_slot15 hown
      have hpush := A1.pushed (r := ⟨r.k, L, nr, lst, r.c, r.n, r.s, r.b, [], []⟩) hn ⟨rfl, rfl, ⟨hr.2.2.c, Nat.zero_le _, Nat.zero_le _, fun q hq => (nomatch hq), fun q hq => (nomatch hq)⟩⟩ hgr hown hat
      have hlr : RowAt w2 x.gl 22 x.cl := (hgr.block x.gl A1.lrow.lt (fun e => by
        obtain ⟨_, cs, h9⟩ := own_in15 (A1.lown n hn).1 e.symm
        exact absurd (row_kind A1.lrow h9) (by decide))).trans A1.lrow
      have hgg : RowAt w2 g 69 x.cs := (hgr.block g A1.blk.lt (fun e => by
        obtain ⟨_, cs, h9⟩ := own_in15 (A1.lown n hn).1 e.symm
        exact absurd (row_kind A1.blk h9) (by decide))).trans A1.blk
      have hg8r : RowAt w2 g8 30 #[.int .i64 r.k, .int .u64 (L : Int), .int .i64 nr, .int .u64 (lst : Int), .int .i64 r.c.k, .int .i64 r.c.pg, .int .i64 r.c.sl, .string r.c.o, .string r.c.n, .int .u64 (r.n : Int), .int .i64 r.s, .int .u64 (r.b : Int), .slice none 0 0, .slice none 0 0] := (hgr.block g8 R1.lt (fun e => HD.out.2.2.2 (.inr (.inr (.inr (.inr (.inl ⟨n, hn, e.symm⟩))))))).trans R1
      have hg8s : RowAt (w2.setCell ⟨x.gl, n, none⟩ (.slice av2 ((h.lg n).length + 1) cv2)) g8 30 #[.int .i64 r.k, .int .u64 (L : Int), .int .i64 nr, .int .u64 (lst : Int), .int .i64 r.c.k, .int .i64 r.c.pg, .int .i64 r.c.sl, .string r.c.o, .string r.c.n, .int .u64 (r.n : Int), .int .i64 r.s, .int .u64 (r.b : Int), .slice none 0 0, .slice none 0 0] := hpush.2.row R1 HD.out.2.2.2
      rw [hv2, ← hgn] at hrun
      obtain ⟨w3, hw3⟩ : ∃ w3, w3 = w2.setCell ⟨x.gl, n, none⟩ (.slice av2 ((h.lg n).length + 1) cv2) := ⟨_, rfl⟩
      rw [← hw3] at hpush hg8s
      refine hand_one 14 (by kernel_rfl) ?_
      refine hand_run (some 57) rfl rfl rfl (.slice av2 ((h.lg n).length + 1) cv2) w2 (exec_append15 _ _ _ _ rfl _ _ rfl rfl hrun) ?_
      refine ⟨⟨hgg, hg8r⟩, ?_⟩
      try simp only [Act.put, List.setIfInBounds_toArray, List.set_cons_zero, List.set_cons_succ]
      have hHeld := And.intro hgg hg8r
      refine hand_take 15 (some 58) (.pointer (some ⟨x.gl, n, none⟩)) rfl rfl (by kernel_rfl) (by kernel_rfl) (by kernel_rfl) (fun _ _ _ h => h) (Or.inl ⟨by kernel_rfl, fun x' hSx => by go_simp⟩) hHeld ?_
      try simp only [Act.put, List.setIfInBounds_toArray, List.set_cons_zero, List.set_cons_succ]
      refine hand_one 16 (by kernel_rfl) ?_
      refine hand_skip15 rfl rfl rfl w3 ?hs ?_
      (case hs => have h := hlr.cell _ _ (A1.lat n hn); have h2 := hlr.free n; rw [hv2] at h; rw [hw3]; go_simp)
      refine ⟨⟨hpush.1.blk, hg8s⟩, ?_⟩
      try simp only [Act.put, List.setIfInBounds_toArray, List.set_cons_zero, List.set_cons_succ]
      refine wpAnyH_done (by kernel_rfl) ?_ _
      refine NoPanic.normal ?_
      exact REST gn av2 cv2 w3 ⟨_, ⟨_, hpush.1, rfl⟩, hg8s, (HD.out.2.2.1.later hb1).trans hpush.2⟩
    · skip
      have hb1 : Below y.drew.heap.size y.drew (y.drew.alloc (.cells #[.int .i64 r.k, .int .u64 (L : Int), .int .i64 nr, .int .u64 (lst : Int), .int .i64 r.c.k, .int .i64 r.c.pg, .int .i64 r.c.sl, .string r.c.o, .string r.c.n, .int .u64 (r.n : Int), .int .i64 r.s, .int .u64 (r.b : Int), .slice none 0 0, .slice none 0 0] 30)) := (Below.refl _ _).alloc (Nat.le_refl _) _
      refine hand_run (some 56) rfl rfl rfl (.slice (some ⟨gn, 0, none⟩) 1 1) (y.drew.alloc (.cells #[.int .i64 r.k, .int .u64 (L : Int), .int .i64 nr, .int .u64 (lst : Int), .int .i64 r.c.k, .int .i64 r.c.pg, .int .i64 r.c.sl, .string r.c.o, .string r.c.n, .int .u64 (r.n : Int), .int .i64 r.s, .int .u64 (r.b : Int), .slice none 0 0, .slice none 0 0] 30)) ?hz ?_
      (case hz => rw [hgn]; go_simp)
      have A1 := HD.out.1.later hb1
      have R1 := HD.out.2.1.later hb1
      refine ⟨⟨A1.blk, R1⟩, ?_⟩
      try simp only [Act.put, List.setIfInBounds_toArray, List.set_cons_zero, List.set_cons_succ]
      refine hand_one 11 (by kernel_rfl) ?_
      refine hand_run (some 54) rfl rfl rfl (.slice av ll cv) _ (exec_load 22 _ rfl (.pointer (some ⟨x.gl, n, none⟩)) rfl _ (load_rs15 _ _ _ _ (by rw [← hv2]; exact A1.lrow.cell _ _ (A1.lat n hn)))) ?_
      refine ⟨⟨A1.blk, R1⟩, ?_⟩
      try simp only [Act.put, List.setIfInBounds_toArray, List.set_cons_zero, List.set_cons_succ]
      obtain ⟨v', w2, hrun, hown, hgr, hat⟩ := run_app_one (y.drew.alloc (.cells #[.int .i64 r.k, .int .u64 (L : Int), .int .i64 nr, .int .u64 (lst : Int), .int .i64 r.c.k, .int .i64 r.c.pg, .int .i64 r.c.sl, .string r.c.o, .string r.c.n, .int .u64 (r.n : Int), .int .i64 r.s, .int .u64 (r.b : Int), .slice none 0 0, .slice none 0 0] 30)) 22 30 22 14 160 (.agg zeroA) Try.underlying22 infoRc3 rfl (by decide) (by decide) B (x.vl n) (h.lg n).length (flatR (bareMs (h.lg n))) (A1.lown n hn).1 y.drew.heap.size #[.int .i64 r.k, .int .u64 (L : Int), .int .i64 nr, .int .u64 (lst : Int), .int .i64 r.c.k, .int .i64 r.c.pg, .int .i64 r.c.sl, .string r.c.o, .string r.c.n, .int .u64 (r.n : Int), .int .i64 r.s, .int .u64 (r.b : Int), .slice none 0 0, .slice none 0 0] (RowAt.new y.drew _ _) rfl (by simp [Value.oneCell']) (by omega) (Nat.le_trans HLW.out hb1.size)
      obtain ⟨av2, cv2, rfl⟩ := own_slot15 hown
      have hpush := A1.pushed (r := ⟨r.k, L, nr, lst, r.c, r.n, r.s, r.b, [], []⟩) hn ⟨rfl, rfl, ⟨hr.2.2.c, Nat.zero_le _, Nat.zero_le _, fun q hq => (nomatch hq), fun q hq => (nomatch hq)⟩⟩ hgr hown hat
      have hlr : RowAt w2 x.gl 22 x.cl := (hgr.block x.gl A1.lrow.lt (fun e => by
        obtain ⟨_, cs, h9⟩ := own_in15 (A1.lown n hn).1 e.symm
        exact absurd (row_kind A1.lrow h9) (by decide))).trans A1.lrow
      have hgg : RowAt w2 g 69 x.cs := (hgr.block g A1.blk.lt (fun e => by
        obtain ⟨_, cs, h9⟩ := own_in15 (A1.lown n hn).1 e.symm
        exact absurd (row_kind A1.blk h9) (by decide))).trans A1.blk
      have hg8r : RowAt w2 g8 30 #[.int .i64 r.k, .int .u64 (L : Int), .int .i64 nr, .int .u64 (lst : Int), .int .i64 r.c.k, .int .i64 r.c.pg, .int .i64 r.c.sl, .string r.c.o, .string r.c.n, .int .u64 (r.n : Int), .int .i64 r.s, .int .u64 (r.b : Int), .slice none 0 0, .slice none 0 0] := (hgr.block g8 R1.lt (fun e => HD.out.2.2.2 (.inr (.inr (.inr (.inr (.inl ⟨n, hn, e.symm⟩))))))).trans R1
      have hg8s : RowAt (w2.setCell ⟨x.gl, n, none⟩ (.slice av2 ((h.lg n).length + 1) cv2)) g8 30 #[.int .i64 r.k, .int .u64 (L : Int), .int .i64 nr, .int .u64 (lst : Int), .int .i64 r.c.k, .int .i64 r.c.pg, .int .i64 r.c.sl, .string r.c.o, .string r.c.n, .int .u64 (r.n : Int), .int .i64 r.s, .int .u64 (r.b : Int), .slice none 0 0, .slice none 0 0] := hpush.2.row R1 HD.out.2.2.2
      rw [hv2, ← hgn] at hrun
      obtain ⟨w3, hw3⟩ : ∃ w3, w3 = w2.setCell ⟨x.gl, n, none⟩ (.slice av2 ((h.lg n).length + 1) cv2) := ⟨_, rfl⟩
      rw [← hw3] at hpush hg8s
      refine hand_one 14 (by kernel_rfl) ?_
      refine hand_run (some 57) rfl rfl rfl (.slice av2 ((h.lg n).length + 1) cv2) w2 (exec_append15 _ _ _ _ rfl _ _ rfl rfl hrun) ?_
      refine ⟨⟨hgg, hg8r⟩, ?_⟩
      try simp only [Act.put, List.setIfInBounds_toArray, List.set_cons_zero, List.set_cons_succ]
      have hHeld := And.intro hgg hg8r
      refine hand_take 15 (some 58) (.pointer (some ⟨x.gl, n, none⟩)) rfl rfl (by kernel_rfl) (by kernel_rfl) (by kernel_rfl) (fun _ _ _ h => h) (Or.inl ⟨by kernel_rfl, fun x' hSx => by go_simp⟩) hHeld ?_
      try simp only [Act.put, List.setIfInBounds_toArray, List.set_cons_zero, List.set_cons_succ]
      refine hand_one 16 (by kernel_rfl) ?_
      refine hand_skip15 rfl rfl rfl w3 ?hs ?_
      (case hs => have h := hlr.cell _ _ (A1.lat n hn); have h2 := hlr.free n; rw [hv2] at h; rw [hw3]; go_simp)
      refine ⟨⟨hpush.1.blk, hg8s⟩, ?_⟩
      try simp only [Act.put, List.setIfInBounds_toArray, List.set_cons_zero, List.set_cons_succ]
      refine wpAnyH_done (by kernel_rfl) ?_ _
      refine NoPanic.normal ?_
      exact REST gn av2 cv2 w3 ⟨_, ⟨_, hpush.1, rfl⟩, hg8s, (HD.out.2.2.1.later hb1).trans hpush.2⟩)
  intro gn a9 c9 z HZ
  clear HD HV HLW hv2
  obtain ⟨F', h4, h5, h6⟩ := HZ.out
  have k8 := h5.cell 1 (.int .u64 (L : Int)) rfl
  have HF := hide (And.intro h4 h6)
  clear h4 h5 h6 HZ
  go_wp2
  go_ret
  refine ⟨F', rfl, ?_, HF.out.2⟩
  have h7 := HF.out.1
  have e2 : h.log n i r floor = ((h.setCk n L).setTx i ((h.tx i).setLast L)).push n ⟨r.k, L, nr, lst, r.c, r.n, r.s, r.b, [], []⟩ := by
    unfold Hs.log
    rw [HL.out.1, HE.out]
  rw [e2]
  exact h7
end Go.Proofs.Ytohdmmfmjadipaa

/-
  What Clr answers, and loads of changes.
-/
namespace Go.Proofs.Ytohdmmfmjadipaa
open Go.RowKit
set_option linter.unusedVariables false

/-- A record's change, loaded out of a row. -/
theorem load_chg (y : World) (b k : Nat) (m : Rec × Value × Value) (h : y.rangeAt b k (rcF m).toList) : (Instr.loadAt 26 (.pointer (some ⟨b, k + 4, none⟩))).run Try.prog y = .ok (.agg (chA m.1.c)) y := by
  have h2 : y.rangeAt b (k + 4) (chA m.1.c).toList := fun j u hu => by
    have hj : j < 5 := (List.getElem?_eq_some_iff.1 hu).1
    have := h (4 + j) u (by
      have e : (rcF m).toList[4 + j]? = (chA m.1.c).toList[j]? := by
        rcases (show j = 0 ∨ j = 1 ∨ j = 2 ∨ j = 3 ∨ j = 4 by omega) with rfl | rfl | rfl | rfl | rfl <;> rfl
      rw [e]
      exact hu)
    rw [← Nat.add_assoc] at this
    exact this
  have h1 := run_loadAt_mid (P := Try.prog) y b (k + 4) 26 (chA m.1.c).toList _ h2 Try.underlying26 rfl (by rw [infoCh]; rfl)
  rwa [Array.toArray_toList] at h1
theorem load_ch15 (y : World) (g : Nat) (c : Ch) (h : RowAt y g 26 (chA c)) : (Instr.loadAt 26 (.pointer (some ⟨g, 0, none⟩))).run Try.prog y = .ok (.agg #[.int .i64 c.k, .int .i64 c.pg, .int .i64 c.sl, .string c.o, .string c.n]) y := by
  have h1 := run_loadAt_mid (P := Try.prog) y g 0 26 (chA c).toList _ (fun j u hu => by rw [Nat.zero_add]; exact h.cell j u (by simpa using hu)) Try.underlying26 rfl (by rw [infoCh]; rfl)
  rwa [Array.toArray_toList] at h1
/-- The record that takes a change back, with its (empty) lists. -/
def clrM (l : List Rec) (r : Rec) : Rec × Value × Value := (clrOf l r, .slice none 0 0, .slice none 0 0)
theorem clrM_in (l : List Rec) (r : Rec) (w : World) : RcIn w (clrM l r).1 (clrM l r).2.1 (clrM l r).2.2 := ⟨⟨none, 0, rfl, fun h => absurd h (by simp [clrM, clrOf])⟩, ⟨none, 0, rfl, fun h => absurd h (by simp [clrM, clrOf])⟩⟩
/-- What Clr answers of a log. -/
def clrA (l : List Rec) (n : Nat) : (Rec × Value × Value) × Int := match getT l n with
  | some r => if r.k = 1 then (clrM l r, 0) else (rcZ, 5)
  | none => (rcZ, 5)
theorem clrA_yes {l : List Rec} (hl : Rise 0 l) {r : Rec} (hr : r ∈ l) (hk : r.k = 1) : clrA l r.l = (clrM l r, 0) := by
  unfold clrA
  rw [getT_mem hl hr]
  simp only
  rw [if_pos hk]
theorem clrA_no {l : List Rec} (hl : Rise 0 l) {r : Rec} (hr : r ∈ l) (hk : ¬ r.k = 1) : clrA l r.l = (rcZ, 5) := by
  unfold clrA
  rw [getT_mem hl hr]
  simp only
  rw [if_neg hk]
theorem clrA_none {l : List Rec} {n : Nat} (h : ∀ r ∈ l, r.l ≠ n) : clrA l n = (rcZ, 5) := by
  unfold clrA
  rw [getT_none h]
end Go.Proofs.Ytohdmmfmjadipaa

/-
  The contract of quaysideref04.Right.
-/
namespace Go.Proofs.Ytohdmmfmjadipaa
open Go.RowKit
set_option linter.unusedVariables false

theorem right_no (p : Pg) (j : Nat) (hj : j < 8) (h : ¬ cellOk (p.u j) (p.s j)) : decide p.right = false := by
  rw [decide_eq_false_iff_not]
  intro hp
  exact h (hp.2 j hj)
theorem ok_more {p : Pg} {j : Nat} (h : ∀ k, k < j → cellOk (p.u k) (p.s k)) (hj : cellOk (p.u j) (p.s j)) : ∀ k, k < j + 1 → cellOk (p.u k) (p.s k) := by
  intro k hk
  by_cases hkj : k = j
  · subst hkj
    exact hj
  · exact h k (by omega)

end Go.Proofs.Ytohdmmfmjadipaa

/-
  The contracts of quaysideref05's Inverse and Cells.
-/
namespace Go.Proofs.Ytohdmmfmjadipaa
open Go.RowKit
set_option linter.unusedVariables false

set_option maxRecDepth 4000 in
set_option maxHeartbeats 400000 in
theorem rinv_any (c : Ch) (w : World) :
    Calls Try.prog 33 #[.agg (chA c)] w fun e w' => e = .returned (.tuple #[.agg (chA (invC c)), .int .i64 (invE c)]) ∧ Below w.heap.size w w' := by
  have hb0 : Below w.heap.size w (w.alloc (.cells (chA c) 26)) := (Below.refl _ _).alloc (Nat.le_refl _) _
  have H0 : Hid (RowAt ((w.alloc (.cells (chA c) 26)).alloc (.cells (chA Ch.zero) 26)) w.heap.size 26 (chA c) ∧ RowAt ((w.alloc (.cells (chA c) 26)).alloc (.cells (chA Ch.zero) 26)) (w.heap.size + 1) 26 (chA Ch.zero) ∧ Below w.heap.size w ((w.alloc (.cells (chA c) 26)).alloc (.cells (chA Ch.zero) 26))) := by
    have e : (w.alloc (.cells (chA c) 26)).heap.size = w.heap.size + 1 := by simp
    refine ⟨(RowAt.new w _ _).below ((Below.refl _ _).alloc (Nat.le_refl _) _) (by simp), ?_, hb0.alloc (by simp) _⟩
    have h := RowAt.new (w.alloc (.cells (chA c) 26)) 26 (chA Ch.zero)
    rw [e] at h
    exact h
  have R := fun w => rcright_any c w
  go_enter Try.func33, Try.ntmps33
  obtain ⟨g2, hg2⟩ : ∃ g, g = w.heap.size + 1 := ⟨_, rfl⟩
  rw [← hg2] at H0
  have hlt : w.heap.size < g2 := by omega
  by_cases h : c.right
  · have e1 : invE c = 0 := by unfold invE; rw [if_pos h]
    have e2 : invC c = ⟨4 - c.k, c.pg, c.sl, c.n, c.o⟩ := by unfold invC; rw [if_pos h]
    have hk : 1 ≤ c.k ∧ c.k ≤ 3 := by rcases h.2 with h | h | h <;> omega
    rw [decide_eq_true h] at R
    rw [e1, e2]
    have HR := hide R
    clear R e1 e2 hb0 h
    go_wp2_with (refine wpList_load_at rfl 26 _ rfl w.heap.size rfl (chA c) H0.out.1 _ Try.underlying26 rfl infoCh ?_)
    rw [← hg2]
    refine gen_calls (fun x => Hid (RowAt x w.heap.size 26 (chA c) ∧ RowAt x g2 26 (chA Ch.zero) ∧ Below w.heap.size w x)) H0 ?_
    clear H0 hg2
    intro w1 H1
    refine (HR.out _).mono ?_
    rintro e w2 ⟨rfl, hb2⟩
    have H2 : Hid (RowAt w2 g2 26 (chA Ch.zero) ∧ Below w.heap.size w w2) := ⟨H1.out.2.1.later hb2, H1.out.2.2.trans (hb2.mono H1.out.2.2.size)⟩
    obtain ⟨a0, a1, a2, a3, a4⟩ := ChAt.all (show ChAt w2 w.heap.size c from H1.out.1.later hb2)
    clear H1 hb2 HR
    go_wp2_with (refine wpList_store_at rfl 26 _ _ rfl g2 (chA Ch.zero) (chA ⟨4 - c.k, c.pg, c.sl, c.n, c.o⟩) rfl rfl H2.out.1 infoCh rfl (chA_one _) ?_)
    intro w3 hR3 hk _
    have d3 := hk _ _ H2.out.2 (Nat.le_of_lt hlt)
    clear hk H2 a0 a1 a2 a3 a4
    have HR3 := hide hR3
    clear hR3
    go_wp2
    exact bodyPost_ret (res_at rfl _ _ g2 _ _ rfl HR3.out Try.underlying26 rfl infoCh) rfl ⟨rfl, d3⟩
  · have e1 : invE c = 1 := by unfold invE; rw [if_neg h]
    have e2 : invC c = Ch.zero := by unfold invC; rw [if_neg h]
    rw [decide_eq_false h] at R
    rw [e1, e2]
    have HR := hide R
    clear R e1 e2 hb0 h
    go_wp2_with (refine wpList_load_at rfl 26 _ rfl w.heap.size rfl (chA c) H0.out.1 _ Try.underlying26 rfl infoCh ?_)
    rw [← hg2]
    refine gen_calls (fun x => Hid (RowAt x w.heap.size 26 (chA c) ∧ RowAt x g2 26 (chA Ch.zero) ∧ Below w.heap.size w x)) H0 ?_
    clear H0 hg2
    intro w1 H1
    refine (HR.out _).mono ?_
    rintro e w2 ⟨rfl, hb2⟩
    have H2 : Hid (RowAt w2 g2 26 (chA Ch.zero) ∧ Below w.heap.size w w2) := ⟨H1.out.2.1.later hb2, H1.out.2.2.trans (hb2.mono H1.out.2.2.size)⟩
    clear H1 hb2 HR
    go_wp2_with (refine wpList_store_at rfl 26 _ _ rfl g2 (chA Ch.zero) (chA Ch.zero) rfl rfl H2.out.1 infoCh rfl (chA_one _) ?_)
    intro w3 hR3 hk _
    have d3 := hk _ _ H2.out.2 (Nat.le_of_lt hlt)
    clear hk H2
    have HR3 := hide hR3
    clear hR3
    go_wp2
    exact bodyPost_ret (res_at rfl _ _ g2 _ _ rfl HR3.out Try.underlying26 rfl infoCh) rfl ⟨rfl, d3⟩


end Go.Proofs.Ytohdmmfmjadipaa

/-
  The contract of quaysideref05.Cells.
-/
namespace Go.Proofs.Ytohdmmfmjadipaa
open Go.RowKit
set_option linter.unusedVariables false

/-- What stands at the entry: the change, and two results. -/
def CellsIn (w : World) (g1 g2 : Nat) (c : Ch) (x : World) : Prop :=
  ChAt x w.heap.size c ∧ RowAt x g1 63 (ceA false ⟨#[]⟩) ∧ RowAt x g2 63 (ceA false ⟨#[]⟩) ∧ Below w.heap.size w x ∧ w.heap.size < g1 ∧ g1 < g2

theorem cells_in (w : World) (c : Ch) : CellsIn w (w.heap.size + 1) (w.heap.size + 1 + 1) c (((w.alloc (.cells (chA c) 26)).alloc (.cells (ceA false ⟨#[]⟩) 63)).alloc (.cells (ceA false ⟨#[]⟩) 63)) := by
  have e1 : (w.alloc (.cells (chA c) 26)).heap.size = w.heap.size + 1 := by simp
  have e2 : ((w.alloc (.cells (chA c) 26)).alloc (.cells (ceA false ⟨#[]⟩) 63)).heap.size = w.heap.size + 1 + 1 := by simp
  have b1 := (Below.refl w.heap.size w).alloc (Nat.le_refl _) (.cells (chA c) 26)
  have b2 := (Below.refl _ (w.alloc (.cells (chA c) 26))).alloc (Nat.le_refl _) (.cells (ceA false ⟨#[]⟩) 63)
  have b3 := (Below.refl _ ((w.alloc (.cells (chA c) 26)).alloc (.cells (ceA false ⟨#[]⟩) 63))).alloc (Nat.le_refl _) (.cells (ceA false ⟨#[]⟩) 63)
  have r0 : RowAt (w.alloc (.cells (chA c) 26)) w.heap.size 26 (chA c) := RowAt.new _ _ _
  have r1 : RowAt ((w.alloc (.cells (chA c) 26)).alloc (.cells (ceA false ⟨#[]⟩) 63)) (w.heap.size + 1) 63 (ceA false ⟨#[]⟩) := by
    have h := RowAt.new (w.alloc (.cells (chA c) 26)) 63 (ceA false ⟨#[]⟩)
    rw [e1] at h
    exact h
  have r2 : RowAt (((w.alloc (.cells (chA c) 26)).alloc (.cells (ceA false ⟨#[]⟩) 63)).alloc (.cells (ceA false ⟨#[]⟩) 63)) (w.heap.size + 1 + 1) 63 (ceA false ⟨#[]⟩) := by
    have h := RowAt.new ((w.alloc (.cells (chA c) 26)).alloc (.cells (ceA false ⟨#[]⟩) 63)) 63 (ceA false ⟨#[]⟩)
    rw [e2] at h
    exact h
  exact ⟨(r0.later b2).later b3, r1.later b3, r2, b1.trans ((b2.mono b1.size).trans (b3.mono (by omega))), by omega, by omega⟩

/-- What stands behind the two cells are laid. -/
def CellsMid (w : World) (g1 g2 f t : Nat) (c : Ch) (F T : Array Value) (x : World) : Prop :=
  ChAt x w.heap.size c ∧ RowAt x g1 63 (ceA false ⟨#[]⟩) ∧ RowAt x g2 63 (ceA false ⟨#[]⟩) ∧ RowAt x f 63 F ∧ RowAt x t 63 T ∧ Below w.heap.size w x ∧
    (w.heap.size < g1 ∧ w.heap.size < g2 ∧ w.heap.size < f ∧ w.heap.size < t ∧ g1 ≠ g2 ∧ g1 ≠ f ∧ g1 ≠ t ∧ g2 ≠ f ∧ g2 ≠ t ∧ f ≠ t)
theorem cells_mid {w : World} {g1 g2 : Nat} {c : Ch} {x : World} (h : CellsIn w g1 g2 c x) (A B : Array Value) :
    CellsMid w g1 g2 x.heap.size (x.heap.size + 1) c A B ((x.alloc (.cells A 63)).alloc (.cells B 63)).drew ∧ CellsMid w g1 g2 (x.heap.size + 1) x.heap.size c B A ((x.alloc (.cells A 63)).alloc (.cells B 63)).drew := by
  have e1 : (x.alloc (.cells A 63)).heap.size = x.heap.size + 1 := by simp
  have b1 := (Below.refl x.heap.size x).alloc (Nat.le_refl _) (.cells A 63)
  have b2 := (Below.refl _ (x.alloc (.cells A 63))).alloc (Nat.le_refl _) (.cells B 63)
  have b3 : Below x.heap.size x ((x.alloc (.cells A 63)).alloc (.cells B 63)) := b1.trans (b2.mono (by omega))
  have r1 : RowAt ((x.alloc (.cells A 63)).alloc (.cells B 63)) x.heap.size 63 A := (RowAt.new x _ _).later b2
  have r2 : RowAt ((x.alloc (.cells A 63)).alloc (.cells B 63)) (x.heap.size + 1) 63 B := by
    have h := RowAt.new (x.alloc (.cells A 63)) 63 B
    rw [e1] at h
    exact h
  have l0 := h.1.lt
  have l1 := h.2.1.lt
  have l2 := h.2.2.1.lt
  have q := h.2.2.2.2
  have k0 : ChAt ((x.alloc (.cells A 63)).alloc (.cells B 63)) w.heap.size c := h.1.below b3 l0
  have k1 := h.2.1.later b3
  have k2 := h.2.2.1.later b3
  have k3 : Below w.heap.size w ((x.alloc (.cells A 63)).alloc (.cells B 63)).drew := below_dn (h.2.2.2.1.trans (b3.mono (by omega))) 1
  exact ⟨⟨k0, k1, k2, r1, r2, k3, by omega⟩, ⟨k0, k1, k2, r2, r1, k3, by omega⟩⟩
/-- One of the two cells made empty. -/
theorem CellsMid.first {w x y : World} {g1 g2 f t : Nat} {c : Ch} {F T F' : Array Value} (h : CellsMid w g1 g2 f t c F T x) (hF : RowAt y f 63 F') (hk : ∀ B w0, Below B w0 x → B ≤ f → Below B w0 y) (ho : ∀ k t' c', k ≠ f → RowAt x k t' c' → RowAt y k t' c') : CellsMid w g1 g2 f t c F' T y := by
  obtain ⟨h1, h2, h3, h4, h5, h6, h7⟩ := h
  exact ⟨ho _ _ _ (by omega) h1, ho _ _ _ (by omega) h2, ho _ _ _ (by omega) h3, hF, ho _ _ _ (by omega) h5, hk _ _ h6 (by omega), h7⟩
theorem CellsMid.second {w x y : World} {g1 g2 f t : Nat} {c : Ch} {F T T' : Array Value} (h : CellsMid w g1 g2 f t c F T x) (hT : RowAt y t 63 T') (hk : ∀ B w0, Below B w0 x → B ≤ t → Below B w0 y) (ho : ∀ k t' c', k ≠ t → RowAt x k t' c' → RowAt y k t' c') : CellsMid w g1 g2 f t c F T' y := by
  obtain ⟨h1, h2, h3, h4, h5, h6, h7⟩ := h
  exact ⟨ho _ _ _ (by omega) h1, ho _ _ _ (by omega) h2, ho _ _ _ (by omega) h3, ho _ _ _ (by omega) h4, hT, hk _ _ h6 (by omega), h7⟩
/-- The results behind the last stores. -/
theorem CellsMid.done {w x : World} {g1 g2 f t : Nat} {c : Ch} {u v : Bool} {r s : ByteArray} (h : CellsMid w g1 g2 f t c (ceA u r) (ceA v s) x) :
    RowAt ((((x.setCell ⟨g1, 0, none⟩ (.bool u)).setCell ⟨g1, 1, none⟩ (.string r)).setCell ⟨g2, 0, none⟩ (.bool v)).setCell ⟨g2, 1, none⟩ (.string s)) g1 63 (ceA u r) ∧
    RowAt ((((x.setCell ⟨g1, 0, none⟩ (.bool u)).setCell ⟨g1, 1, none⟩ (.string r)).setCell ⟨g2, 0, none⟩ (.bool v)).setCell ⟨g2, 1, none⟩ (.string s)) g2 63 (ceA v s) ∧
    Below w.heap.size w ((((x.setCell ⟨g1, 0, none⟩ (.bool u)).setCell ⟨g1, 1, none⟩ (.string r)).setCell ⟨g2, 0, none⟩ (.bool v)).setCell ⟨g2, 1, none⟩ (.string s)) := by
  obtain ⟨h1, h2, h3, h4, h5, h6, h7⟩ := h
  have a1 := (h2.set 0 (.bool u)).set 1 (.string r)
  have a2 := ((h3.other ⟨g1, 0, none⟩ (.bool u) (by simp; omega)).other ⟨g1, 1, none⟩ (.string r) (by simp; omega))
  refine ⟨(a1.other ⟨g2, 0, none⟩ (.bool v) (by simp; omega)).other ⟨g2, 1, none⟩ (.string s) (by simp; omega), (a2.set 0 (.bool v)).set 1 (.string s), ?_⟩
  exact (((h6.setCell (by show _ ≤ g1; omega) _).setCell (by show _ ≤ g1; omega) _).setCell (by show _ ≤ g2; omega) _).setCell (by show _ ≤ g2; omega) _

set_option maxRecDepth 4000 in
set_option maxHeartbeats 3200000 in
theorem rcells_1 (c : Ch) (w : World) (k1 : c.k = 1) :
    Calls Try.prog 72 #[.agg (chA c)] w fun e w' => e = .returned (.tuple #[.agg (ceA false ⟨#[]⟩), .agg (ceA true c.n)]) ∧ Below w.heap.size w w' := by
  have H0 := hide (cells_in w c)
  go_enter Try.func72, Try.ntmps72
  go_wp2_with fail
  obtain ⟨g1, h1⟩ : ∃ g, g = w.heap.size + 1 := ⟨_, rfl⟩
  obtain ⟨g2, h2⟩ : ∃ g, g = w.heap.size + 1 + 1 := ⟨_, rfl⟩
  rw [← h2, ← h1] at H0
  rw [← h2, ← h1]
  refine gen_wp (fun x => Hid (CellsIn w g1 g2 c x)) H0 ?_
  clear H0 h1 h2
  intro w0 H0
  obtain ⟨a0, a1, a2, a3, a4⟩ := ChAt.all H0.out.1
  clear a1 a2
  have hlt := H0.out.1.lt
  have B1 := (Below.refl w0.heap.size w0).alloc (Nat.le_refl _) (.cells #[.bool false, .string ⟨#[]⟩] 63)
  have B2 := B1.alloc (by simp) (.cells #[.bool false, .string ⟨#[]⟩] 63)
  have b3 := (B1.cell (p := ⟨w.heap.size, 3, none⟩) hlt).trans a3
  have b4 := (B1.cell (p := ⟨w.heap.size, 4, none⟩) hlt).trans a4
  have c3 := (B2.cell (p := ⟨w.heap.size, 3, none⟩) hlt).trans a3
  have c4 := (B2.cell (p := ⟨w.heap.size, 4, none⟩) hlt).trans a4
  have n1 : ¬ w.heap.size = w0.heap.size := by omega
  have n2 : ¬ w.heap.size = w0.heap.size + 1 := by omega
  clear B1 B2
  go_region
  · obtain ⟨f, hf⟩ : ∃ f, f = w0.heap.size := ⟨_, rfl⟩
    obtain ⟨t, ht⟩ : ∃ t, t = w0.heap.size + 1 := ⟨_, rfl⟩
    have X := hide (cells_mid H0.out (ceA true c.o) (ceA true c.n)).1
    rw [← ht, ← hf] at X ⊢
    refine gen_w (fun x => Hid (CellsMid w g1 g2 f t c (ceA true c.o) (ceA true c.n) x)) X ?_
    clear X hf ht b3 b4 c3 c4 n1 n2 hlt a0 a3 a4 H0
    intro w1 H
    obtain ⟨a0, _, _, _, _⟩ := ChAt.all H.out.1
    rw [k1] at a0
    go_wp2_with (refine wpList_store_at rfl 63 _ _ rfl f _ (ceA false ⟨#[]⟩) rfl rfl H.out.2.2.2.1 infoCe rfl (ceA_one _ _) ?_)
    intro w2 hR hk ho
    have H2 := hide (H.out.first hR hk ho)
    clear hR hk ho H a0
    obtain ⟨a0, _, _, _, _⟩ := ChAt.all H2.out.1
    rw [k1] at a0
    have H : Hid (CellsMid w g1 g2 f t c (ceA false ⟨#[]⟩) (ceA true c.n) w2) := H2
    clear H2
    have q1 := H.out.2.2.2.1.cell 0 (.bool false) rfl
    have q2 := H.out.2.2.2.1.cell 1 (.string ⟨#[]⟩) rfl
    have q3 := H.out.2.2.2.2.1.cell 0 (.bool true) rfl
    have q4 := H.out.2.2.2.2.1.cell 1 (.string c.n) rfl
    have q5 := H.out.2.1.cell 0 (.bool false) rfl
    have q6 := H.out.2.1.cell 1 (.string ⟨#[]⟩) rfl
    have q7 := H.out.2.2.1.cell 0 (.bool false) rfl
    have q8 := H.out.2.2.1.cell 1 (.string ⟨#[]⟩) rfl
    have f5 := H.out.2.1.free 0
    have f6 := H.out.2.1.free 1
    have f7 := H.out.2.2.1.free 0
    have f8 := H.out.2.2.1.free 1
    obtain ⟨_, _, _, _, n1, n2, n3, n4, n5, n6⟩ := H.out.2.2.2.2.2.2
    have HD := hide H.out.done
    clear H
    go_wp2_with fail
    go_region
    all_goals (go_wp2; exact bodyPost_ret (res_two rfl _ _ g1 g2 _ _ _ rfl rfl HD.out.1 HD.out.2.1 Try.underlying63 rfl infoCe infoCe) rfl ⟨rfl, below_dn HD.out.2.2 1⟩)
  · obtain ⟨f, hf⟩ : ∃ f, f = w0.heap.size + 1 := ⟨_, rfl⟩
    obtain ⟨t, ht⟩ : ∃ t, t = w0.heap.size := ⟨_, rfl⟩
    have X := hide (cells_mid H0.out (ceA true c.n) (ceA true c.o)).2
    rw [← hf, ← ht] at X ⊢
    refine gen_w (fun x => Hid (CellsMid w g1 g2 f t c (ceA true c.o) (ceA true c.n) x)) X ?_
    clear X hf ht b3 b4 c3 c4 n1 n2 hlt a0 a3 a4 H0
    intro w1 H
    obtain ⟨a0, _, _, _, _⟩ := ChAt.all H.out.1
    rw [k1] at a0
    go_wp2_with (refine wpList_store_at rfl 63 _ _ rfl f _ (ceA false ⟨#[]⟩) rfl rfl H.out.2.2.2.1 infoCe rfl (ceA_one _ _) ?_)
    intro w2 hR hk ho
    have H2 := hide (H.out.first hR hk ho)
    clear hR hk ho H a0
    obtain ⟨a0, _, _, _, _⟩ := ChAt.all H2.out.1
    rw [k1] at a0
    have H : Hid (CellsMid w g1 g2 f t c (ceA false ⟨#[]⟩) (ceA true c.n) w2) := H2
    clear H2
    have q1 := H.out.2.2.2.1.cell 0 (.bool false) rfl
    have q2 := H.out.2.2.2.1.cell 1 (.string ⟨#[]⟩) rfl
    have q3 := H.out.2.2.2.2.1.cell 0 (.bool true) rfl
    have q4 := H.out.2.2.2.2.1.cell 1 (.string c.n) rfl
    have q5 := H.out.2.1.cell 0 (.bool false) rfl
    have q6 := H.out.2.1.cell 1 (.string ⟨#[]⟩) rfl
    have q7 := H.out.2.2.1.cell 0 (.bool false) rfl
    have q8 := H.out.2.2.1.cell 1 (.string ⟨#[]⟩) rfl
    have f5 := H.out.2.1.free 0
    have f6 := H.out.2.1.free 1
    have f7 := H.out.2.2.1.free 0
    have f8 := H.out.2.2.1.free 1
    obtain ⟨_, _, _, _, n1, n2, n3, n4, n5, n6⟩ := H.out.2.2.2.2.2.2
    have HD := hide H.out.done
    clear H
    go_wp2_with fail
    go_region
    all_goals (go_wp2; exact bodyPost_ret (res_two rfl _ _ g1 g2 _ _ _ rfl rfl HD.out.1 HD.out.2.1 Try.underlying63 rfl infoCe infoCe) rfl ⟨rfl, below_dn HD.out.2.2 1⟩)

set_option maxRecDepth 4000 in
set_option maxHeartbeats 3200000 in
theorem rcells_3 (c : Ch) (w : World) (k3 : c.k = 3) :
    Calls Try.prog 72 #[.agg (chA c)] w fun e w' => e = .returned (.tuple #[.agg (ceA true c.o), .agg (ceA false ⟨#[]⟩)]) ∧ Below w.heap.size w w' := by
  have H0 := hide (cells_in w c)
  go_enter Try.func72, Try.ntmps72
  go_wp2_with fail
  obtain ⟨g1, h1⟩ : ∃ g, g = w.heap.size + 1 := ⟨_, rfl⟩
  obtain ⟨g2, h2⟩ : ∃ g, g = w.heap.size + 1 + 1 := ⟨_, rfl⟩
  rw [← h2, ← h1] at H0
  rw [← h2, ← h1]
  refine gen_wp (fun x => Hid (CellsIn w g1 g2 c x)) H0 ?_
  clear H0 h1 h2
  intro w0 H0
  obtain ⟨a0, a1, a2, a3, a4⟩ := ChAt.all H0.out.1
  clear a1 a2
  have hlt := H0.out.1.lt
  have B1 := (Below.refl w0.heap.size w0).alloc (Nat.le_refl _) (.cells #[.bool false, .string ⟨#[]⟩] 63)
  have B2 := B1.alloc (by simp) (.cells #[.bool false, .string ⟨#[]⟩] 63)
  have b3 := (B1.cell (p := ⟨w.heap.size, 3, none⟩) hlt).trans a3
  have b4 := (B1.cell (p := ⟨w.heap.size, 4, none⟩) hlt).trans a4
  have c3 := (B2.cell (p := ⟨w.heap.size, 3, none⟩) hlt).trans a3
  have c4 := (B2.cell (p := ⟨w.heap.size, 4, none⟩) hlt).trans a4
  have n1 : ¬ w.heap.size = w0.heap.size := by omega
  have n2 : ¬ w.heap.size = w0.heap.size + 1 := by omega
  clear B1 B2
  go_region
  · obtain ⟨f, hf⟩ : ∃ f, f = w0.heap.size := ⟨_, rfl⟩
    obtain ⟨t, ht⟩ : ∃ t, t = w0.heap.size + 1 := ⟨_, rfl⟩
    have X := hide (cells_mid H0.out (ceA true c.o) (ceA true c.n)).1
    rw [← ht, ← hf] at X ⊢
    refine gen_w (fun x => Hid (CellsMid w g1 g2 f t c (ceA true c.o) (ceA true c.n) x)) X ?_
    clear X hf ht b3 b4 c3 c4 n1 n2 hlt a0 a3 a4 H0
    intro w1 H
    obtain ⟨a0, _, _, _, _⟩ := ChAt.all H.out.1
    rw [k3] at a0
    go_wp2_with (refine wpList_store_at rfl 63 _ _ rfl t _ (ceA false ⟨#[]⟩) rfl rfl H.out.2.2.2.2.1 infoCe rfl (ceA_one _ _) ?_)
    intro w2 hR hk ho
    have H2 := hide (H.out.second hR hk ho)
    clear hR hk ho H a0
    have H : Hid (CellsMid w g1 g2 f t c (ceA true c.o) (ceA false ⟨#[]⟩) w2) := H2
    clear H2
    have q1 := H.out.2.2.2.1.cell 0 (.bool true) rfl
    have q2 := H.out.2.2.2.1.cell 1 (.string c.o) rfl
    have q3 := H.out.2.2.2.2.1.cell 0 (.bool false) rfl
    have q4 := H.out.2.2.2.2.1.cell 1 (.string ⟨#[]⟩) rfl
    have q5 := H.out.2.1.cell 0 (.bool false) rfl
    have q6 := H.out.2.1.cell 1 (.string ⟨#[]⟩) rfl
    have q7 := H.out.2.2.1.cell 0 (.bool false) rfl
    have q8 := H.out.2.2.1.cell 1 (.string ⟨#[]⟩) rfl
    have f5 := H.out.2.1.free 0
    have f6 := H.out.2.1.free 1
    have f7 := H.out.2.2.1.free 0
    have f8 := H.out.2.2.1.free 1
    obtain ⟨_, _, _, _, n1, n2, n3, n4, n5, n6⟩ := H.out.2.2.2.2.2.2
    have HD := hide H.out.done
    clear H
    go_wp2_with fail
    go_region
    all_goals (go_wp2; exact bodyPost_ret (res_two rfl _ _ g1 g2 _ _ _ rfl rfl HD.out.1 HD.out.2.1 Try.underlying63 rfl infoCe infoCe) rfl ⟨rfl, below_dn HD.out.2.2 1⟩)
  · obtain ⟨f, hf⟩ : ∃ f, f = w0.heap.size + 1 := ⟨_, rfl⟩
    obtain ⟨t, ht⟩ : ∃ t, t = w0.heap.size := ⟨_, rfl⟩
    have X := hide (cells_mid H0.out (ceA true c.n) (ceA true c.o)).2
    rw [← hf, ← ht] at X ⊢
    refine gen_w (fun x => Hid (CellsMid w g1 g2 f t c (ceA true c.o) (ceA true c.n) x)) X ?_
    clear X hf ht b3 b4 c3 c4 n1 n2 hlt a0 a3 a4 H0
    intro w1 H
    obtain ⟨a0, _, _, _, _⟩ := ChAt.all H.out.1
    rw [k3] at a0
    go_wp2_with (refine wpList_store_at rfl 63 _ _ rfl t _ (ceA false ⟨#[]⟩) rfl rfl H.out.2.2.2.2.1 infoCe rfl (ceA_one _ _) ?_)
    intro w2 hR hk ho
    have H2 := hide (H.out.second hR hk ho)
    clear hR hk ho H a0
    have H : Hid (CellsMid w g1 g2 f t c (ceA true c.o) (ceA false ⟨#[]⟩) w2) := H2
    clear H2
    have q1 := H.out.2.2.2.1.cell 0 (.bool true) rfl
    have q2 := H.out.2.2.2.1.cell 1 (.string c.o) rfl
    have q3 := H.out.2.2.2.2.1.cell 0 (.bool false) rfl
    have q4 := H.out.2.2.2.2.1.cell 1 (.string ⟨#[]⟩) rfl
    have q5 := H.out.2.1.cell 0 (.bool false) rfl
    have q6 := H.out.2.1.cell 1 (.string ⟨#[]⟩) rfl
    have q7 := H.out.2.2.1.cell 0 (.bool false) rfl
    have q8 := H.out.2.2.1.cell 1 (.string ⟨#[]⟩) rfl
    have f5 := H.out.2.1.free 0
    have f6 := H.out.2.1.free 1
    have f7 := H.out.2.2.1.free 0
    have f8 := H.out.2.2.1.free 1
    obtain ⟨_, _, _, _, n1, n2, n3, n4, n5, n6⟩ := H.out.2.2.2.2.2.2
    have HD := hide H.out.done
    clear H
    go_wp2_with fail
    go_region
    all_goals (go_wp2; exact bodyPost_ret (res_two rfl _ _ g1 g2 _ _ _ rfl rfl HD.out.1 HD.out.2.1 Try.underlying63 rfl infoCe infoCe) rfl ⟨rfl, below_dn HD.out.2.2 1⟩)

set_option maxRecDepth 4000 in
set_option maxHeartbeats 3200000 in
theorem rcells_0 (c : Ch) (w : World) (k1 : (c.k == 1) = false) (k3 : (c.k == 3) = false) :
    Calls Try.prog 72 #[.agg (chA c)] w fun e w' => e = .returned (.tuple #[.agg (ceA true c.o), .agg (ceA true c.n)]) ∧ Below w.heap.size w w' := by
  have H0 := hide (cells_in w c)
  go_enter Try.func72, Try.ntmps72
  go_wp2_with fail
  obtain ⟨g1, h1⟩ : ∃ g, g = w.heap.size + 1 := ⟨_, rfl⟩
  obtain ⟨g2, h2⟩ : ∃ g, g = w.heap.size + 1 + 1 := ⟨_, rfl⟩
  rw [← h2, ← h1] at H0
  rw [← h2, ← h1]
  refine gen_wp (fun x => Hid (CellsIn w g1 g2 c x)) H0 ?_
  clear H0 h1 h2
  intro w0 H0
  obtain ⟨a0, a1, a2, a3, a4⟩ := ChAt.all H0.out.1
  clear a1 a2
  have hlt := H0.out.1.lt
  have B1 := (Below.refl w0.heap.size w0).alloc (Nat.le_refl _) (.cells #[.bool false, .string ⟨#[]⟩] 63)
  have B2 := B1.alloc (by simp) (.cells #[.bool false, .string ⟨#[]⟩] 63)
  have b3 := (B1.cell (p := ⟨w.heap.size, 3, none⟩) hlt).trans a3
  have b4 := (B1.cell (p := ⟨w.heap.size, 4, none⟩) hlt).trans a4
  have c3 := (B2.cell (p := ⟨w.heap.size, 3, none⟩) hlt).trans a3
  have c4 := (B2.cell (p := ⟨w.heap.size, 4, none⟩) hlt).trans a4
  have n1 : ¬ w.heap.size = w0.heap.size := by omega
  have n2 : ¬ w.heap.size = w0.heap.size + 1 := by omega
  clear B1 B2
  go_region
  · obtain ⟨f, hf⟩ : ∃ f, f = w0.heap.size := ⟨_, rfl⟩
    obtain ⟨t, ht⟩ : ∃ t, t = w0.heap.size + 1 := ⟨_, rfl⟩
    have X := hide (cells_mid H0.out (ceA true c.o) (ceA true c.n)).1
    rw [← ht, ← hf] at X ⊢
    refine gen_w (fun x => Hid (CellsMid w g1 g2 f t c (ceA true c.o) (ceA true c.n) x)) X ?_
    clear X hf ht b3 b4 c3 c4 n1 n2 hlt a0 a3 a4 H0
    intro w1 H
    obtain ⟨a0, _, _, _, _⟩ := ChAt.all H.out.1
    skip
    have q1 := H.out.2.2.2.1.cell 0 (.bool true) rfl
    have q2 := H.out.2.2.2.1.cell 1 (.string c.o) rfl
    have q3 := H.out.2.2.2.2.1.cell 0 (.bool true) rfl
    have q4 := H.out.2.2.2.2.1.cell 1 (.string c.n) rfl
    have q5 := H.out.2.1.cell 0 (.bool false) rfl
    have q6 := H.out.2.1.cell 1 (.string ⟨#[]⟩) rfl
    have q7 := H.out.2.2.1.cell 0 (.bool false) rfl
    have q8 := H.out.2.2.1.cell 1 (.string ⟨#[]⟩) rfl
    have f5 := H.out.2.1.free 0
    have f6 := H.out.2.1.free 1
    have f7 := H.out.2.2.1.free 0
    have f8 := H.out.2.2.1.free 1
    obtain ⟨_, _, _, _, n1, n2, n3, n4, n5, n6⟩ := H.out.2.2.2.2.2.2
    have HD := hide H.out.done
    clear H
    go_wp2_with fail
    go_region
    all_goals (go_wp2; exact bodyPost_ret (res_two rfl _ _ g1 g2 _ _ _ rfl rfl HD.out.1 HD.out.2.1 Try.underlying63 rfl infoCe infoCe) rfl ⟨rfl, below_dn HD.out.2.2 1⟩)
  · obtain ⟨f, hf⟩ : ∃ f, f = w0.heap.size + 1 := ⟨_, rfl⟩
    obtain ⟨t, ht⟩ : ∃ t, t = w0.heap.size := ⟨_, rfl⟩
    have X := hide (cells_mid H0.out (ceA true c.n) (ceA true c.o)).2
    rw [← hf, ← ht] at X ⊢
    refine gen_w (fun x => Hid (CellsMid w g1 g2 f t c (ceA true c.o) (ceA true c.n) x)) X ?_
    clear X hf ht b3 b4 c3 c4 n1 n2 hlt a0 a3 a4 H0
    intro w1 H
    obtain ⟨a0, _, _, _, _⟩ := ChAt.all H.out.1
    skip
    have q1 := H.out.2.2.2.1.cell 0 (.bool true) rfl
    have q2 := H.out.2.2.2.1.cell 1 (.string c.o) rfl
    have q3 := H.out.2.2.2.2.1.cell 0 (.bool true) rfl
    have q4 := H.out.2.2.2.2.1.cell 1 (.string c.n) rfl
    have q5 := H.out.2.1.cell 0 (.bool false) rfl
    have q6 := H.out.2.1.cell 1 (.string ⟨#[]⟩) rfl
    have q7 := H.out.2.2.1.cell 0 (.bool false) rfl
    have q8 := H.out.2.2.1.cell 1 (.string ⟨#[]⟩) rfl
    have f5 := H.out.2.1.free 0
    have f6 := H.out.2.1.free 1
    have f7 := H.out.2.2.1.free 0
    have f8 := H.out.2.2.1.free 1
    obtain ⟨_, _, _, _, n1, n2, n3, n4, n5, n6⟩ := H.out.2.2.2.2.2.2
    have HD := hide H.out.done
    clear H
    go_wp2_with fail
    go_region
    all_goals (go_wp2; exact bodyPost_ret (res_two rfl _ _ g1 g2 _ _ _ rfl rfl HD.out.1 HD.out.2.1 Try.underlying63 rfl infoCe infoCe) rfl ⟨rfl, below_dn HD.out.2.2 1⟩)

/-- THE CONTRACT. -/
theorem rcells_any (c : Ch) (w : World) :
    Calls Try.prog 72 #[.agg (chA c)] w fun e w' => e = .returned (.tuple #[.agg (ceA c.wantU c.wantV), .agg (ceA c.makeU c.makeV)]) ∧ Below w.heap.size w w' := by
  unfold Ch.wantU Ch.wantV Ch.makeU Ch.makeV
  by_cases k1 : c.k = 1
  · rw [decide_eq_false (fun h => h k1), if_pos k1, decide_eq_true (show c.k ≠ 3 by omega), if_neg (show ¬ c.k = 3 by omega)]
    exact rcells_1 c w k1
  by_cases k3 : c.k = 3
  · rw [decide_eq_true k1, if_neg k1, decide_eq_false (fun h => h k3), if_pos k3]
    exact rcells_3 c w k3
  rw [decide_eq_true k1, if_neg k1, decide_eq_true k3, if_neg k3]
  exact rcells_0 c w (by simpa using k1) (by simpa using k3)
end Go.Proofs.Ytohdmmfmjadipaa

/-
  The contract of quaysideref15's turn.
-/
namespace Go.Proofs.Ytohdmmfmjadipaa
open Go.RowKit
set_option linter.unusedVariables false

theorem infoPg15 : (Try.prog.info? 77).map (·.size) = some 17 := by kernel_rfl
theorem infoPgs15 : (Try.prog.info? 77).map (fun i => (i.zero, i.size, i.bytes)) = some (some (.agg (pgA Pg.zero)), 17, 200) := by kernel_rfl
theorem infoCe15 : (Try.prog.info? 63).map (·.size) = some 2 := by kernel_rfl
/-- A page out of a row of pages. -/
theorem load_pg15 (z : World) (gp p : Nat) (cp : Array Value) (Q : Pg) (h : RowAt z gp 77 cp) (hz : cp.size = 68) (hp : p < 4) (hl : Lies cp (p * 17) (pgA Q).toList) : (Instr.loadAt 77 (.pointer (some ⟨gp, p * 17, none⟩))).run Try.prog z = .ok (.agg (pgA Q)) z := by
  have h1 := load_part (P := Try.prog) z 77 77 gp (p * 17) 17 cp h _ Try.underlying77 rfl infoPg15 (by omega)
  rw [hl.ext 17 rfl (by omega)] at h1
  exact h1
theorem load_pl15 (z : World) (g : Nat) (Q : Pg) (h : RowAt z g 77 (pgA Q)) : (Instr.loadAt 77 (.pointer (some ⟨g, 0, none⟩))).run Try.prog z = .ok (.agg #[.int .u64 (Q.l : Int), .bool (Q.u 0), .string (Q.s 0), .bool (Q.u 1), .string (Q.s 1), .bool (Q.u 2), .string (Q.s 2), .bool (Q.u 3), .string (Q.s 3), .bool (Q.u 4), .string (Q.s 4), .bool (Q.u 5), .string (Q.s 5), .bool (Q.u 6), .string (Q.s 6), .bool (Q.u 7), .string (Q.s 7)]) z := by
  have h1 := run_loadAt_mid (P := Try.prog) z g 0 77 (pgA Q).toList _ (fun j u hu => by rw [Nat.zero_add]; exact h.cell j u (by simpa using hu)) Try.underlying77 rfl (by rw [infoPg15]; rfl)
  rwa [Array.toArray_toList] at h1
theorem part_cell15 (Q : Pg) (s : Nat) (hs : s < 8) (u : Bool) (v : ByteArray) : partA (pgA Q) (1 + s * 2) (ceA u v).toList = pgA (Q.put Q.l s u v) := by
  rcases lt8 hs with rfl | rfl | rfl | rfl | rfl | rfl | rfl | rfl <;> simp [partA, pgA, Pg.put, ceA]
theorem put_lsn15 (Q : Pg) (s L l : Nat) (u : Bool) (v : ByteArray) : (pgA (Q.put l s u v)).setIfInBounds 0 (.int .u64 (L : Int)) = pgA (Q.put L s u v) := rfl
theorem load_chz15 (y : World) (g : Nat) (m : Rec × Value × Value) (h : RowAt y g 30 (rcF m)) : (Instr.loadAt 26 (.pointer (some ⟨g, 4, none⟩))).run Try.prog y = .ok (.agg (chA m.1.c)) y := by
  have h1 := load_chg y g 0 m (fun j u hu => by rw [Nat.zero_add]; exact h.cell j u (by simpa using hu))
  rwa [Nat.zero_add] at h1
set_option maxRecDepth 8000 in
set_option maxHeartbeats 2000000 in
theorem hturn15 (w : World) (B g n i o : Nat) (F : Nat → Prop) (h : Hs) (r : Rec) (H : HB w B g F h) (hn : n < 3) (hi : i < 9) (ho : o = 9 + i * 4) (hr : r.bare) (hc : r.c.right) (hpg : r.c.pg < 4) (h1 : h.ck n ≤ 100000) (h2 : (h.pg r.page).l ≤ 100000) (h3 : (h.lg n).length ≤ 900) (h4 : (h.past r.page).length ≤ 900) :
    Calls Try.prog 68 #[.pointer (some ⟨g, 0, none⟩), .int .i64 (n : Int), .pointer (some ⟨g, o, none⟩), .agg (rcF (bareM r))] w fun e w' => ∃ F', e = .returned (.tuple #[]) ∧ HB w' B g F' (h.turn n i r) ∧ Aft15 F F' w w' := by
  have hb0 : Below w.heap.size w (w.alloc (.cells (rcF (bareM r)) 30)) := (Below.refl _ _).alloc (Nat.le_refl _) _
  obtain ⟨g7, hg7⟩ : ∃ k, k = w.heap.size := ⟨_, rfl⟩
  have HG7 := hide hg7
  have H0 : Hid (HB (w.alloc (.cells (rcF (bareM r)) 30)) B g F h ∧ RowAt (w.alloc (.cells (rcF (bareM r)) 30)) g7 30 (rcF (bareM r)) ∧ Aft15 F F w (w.alloc (.cells (rcF (bareM r)) 30)) ∧ ¬ F g7) := by
    rw [hg7]
    exact ⟨H.later hb0, RowAt.new w _ _, Aft15.first hb0 (Aft15.refl _ _), fun hk => by have := (H.here hk).2; omega⟩
  have HLOG := hide (fun y F' fl (hy : HB y B g F' h) (hf : fl ≤ 100000) => hlog15 y B g n i o fl F' h r hy hn hi ho hr h1 hf h3)
  have HCE := hide (fun w => rcells_any r.c w)
  obtain ⟨p, hp⟩ : ∃ p : Nat, p = r.c.pg.toNat := ⟨_, rfl⟩
  obtain ⟨s, hs⟩ : ∃ s : Nat, s = r.c.sl.toNat := ⟨_, rfl⟩
  have hp0 : r.c.pg = (p : Int) := by have := hc.1; omega
  have hs0 : r.c.sl = (s : Int) := by have := hc.1; omega
  have hp4 : p < 4 := by omega
  have hs8 : s < 8 := by have := hc.1; omega
  have ip4 : (p : Int) < 4 := by omega
  have jp4 : ¬ (4 : Int) ≤ (p : Int) := by omega
  have epg : r.page = p := hp.symm
  have eat : r.c.at = s := hs.symm
  have eT : h.turn n i r = (h.log n i r (h.pg p).l).setPg p ((h.pg p).put (h.lsn n (h.pg p).l) s r.c.makeU r.c.makeV) := by
    unfold Hs.turn
    rw [epg, eat]
  have HT := hide eT
  rw [epg] at h2 h4
  clear hb0 hg7 H hp hs epg eat eT ho
  have HP0 : Hid ((rcF (bareM r))[5]? = some (.int .i64 (p : Int)) ∧ (rcF (bareM r))[6]? = some (.int .i64 (s : Int))) := by
    rw [← hp0, ← hs0]
    exact ⟨rfl, rfl⟩
  have HHR := hide hr
  have hones : (rcF (bareM r)).all (·.oneCell') = true := by simp [rcF, rcA, bareM, Value.oneCell']
  have HCZ := hide (fun y gg (hh : RowAt y gg 30 (rcF (bareM r))) => load_chz15 y gg (bareM r) hh)
  obtain ⟨rc, hrc⟩ : ∃ rc, rc = rcF (bareM r) := ⟨_, rfl⟩
  have hz14 : rc.size = 14 := by rw [hrc]; rfl
  rw [← hrc] at H0 HLOG HP0 hones HCZ ⊢
  have hinf : (Try.prog.info? 30).map (·.size) = some rc.size := by rw [hz14]; exact infoRc
  clear hrc hp0 hs0 hr hpg
  go_enter Try.func68, Try.ntmps68
  go_wp2_with fail
  -- the page as it is
  rw [← HG7.out]
  refine gen_wp (fun y => HB y B g F h ∧ RowAt y g7 30 rc ∧ Aft15 F F w y ∧ ¬ F g7) H0.out ?_
  intro y HY0
  obtain ⟨⟨x, HX0, rfl⟩, HR7, HAF, HNF⟩ := HY0
  have HD : Hid (HAt y.drew B g x h ∧ RowAt y.drew g7 30 rc ∧ Aft15 (FH g x) (FH g x) w y.drew ∧ ¬ FH g x g7) := ⟨HX0.drew, HR7, HAF.later (below_drew (Below.refl _ _)), HNF⟩
  obtain ⟨Q0, hQ0⟩ : ∃ Q, Q = h.pg p := ⟨_, rfl⟩
  have HPAT : Hid (Lies x.cp (p * 17) (pgA Q0).toList) := by rw [hQ0]; exact HX0.pat p hp4
  have HQ0 := hide hQ0
  rw [← hQ0] at h2
  obtain ⟨g8, hg8⟩ : ∃ k, k = y.drew.heap.size := ⟨_, rfl⟩
  have HN8 : Hid (¬ FH g x g8 ∧ g8 ≠ g7) := ⟨fun hk => by have := (HX0.drew.here hk).2; omega, fun e => by have h9 := HR7.lt; have e9 : y.drew.heap.size = y.heap.size := rfl; omega⟩
  clear HX0 HR7 HAF HNF H0 hQ0
  refine wp_region_noPanic ?_
  refine wp_region_held_drew (S := fun z => RowAt z g 69 x.cs ∧ RowAt z g7 30 rc ∧ RowAt z x.gp 77 x.cp) (by kernel_rfl) (⟨HD.out.1.blk, HD.out.2.1, HD.out.1.prow⟩) (fun hHeld => ?_)
  refine hand_take 0 (some 12) (.pointer (some ⟨g, 0, none⟩)) rfl rfl (by kernel_rfl) (by kernel_rfl) (by kernel_rfl) (fun _ _ _ h => h) (Or.inl ⟨by kernel_rfl, fun x' hSx => by go_simp⟩) hHeld ?_
  try simp only [Act.put, List.setIfInBounds_toArray, List.set_cons_zero, List.set_cons_succ]
  refine hand_take 1 (some 13) (.pointer (some ⟨g, 0, none⟩)) rfl rfl (by kernel_rfl) (by kernel_rfl) (by kernel_rfl) (fun _ _ _ h => h) (Or.inl ⟨by kernel_rfl, fun x' hSx => by go_simp⟩) hHeld ?_
  try simp only [Act.put, List.setIfInBounds_toArray, List.set_cons_zero, List.set_cons_succ]
  refine hand_take 2 (some 14) (.pointer (some ⟨g, 1, none⟩)) rfl rfl (by kernel_rfl) (by kernel_rfl) (by kernel_rfl) (fun _ _ _ h => h) (Or.inl ⟨by kernel_rfl, fun x' hSx => by go_simp⟩) hHeld ?_
  try simp only [Act.put, List.setIfInBounds_toArray, List.set_cons_zero, List.set_cons_succ]
  refine hand_take 3 (some 15) (.slice (some ⟨x.gp, 0, none⟩) 4 4) rfl rfl (by kernel_rfl) (by kernel_rfl) (by kernel_rfl) (fun _ _ _ h => h) (Or.inl ⟨by kernel_rfl, fun x' hSx => by have h : World.cell? x' ⟨g, 1, none⟩ = some (.slice (some ⟨x.gp, 0, none⟩) 4 4) := hSx.1.cell _ _ HD.out.1.cells.c1; go_simp⟩) hHeld ?_
  try simp only [Act.put, List.setIfInBounds_toArray, List.set_cons_zero, List.set_cons_succ]
  refine hand_take 4 (some 16) (.pointer (some ⟨g7, 4, none⟩)) rfl rfl (by kernel_rfl) (by kernel_rfl) (by kernel_rfl) (fun _ _ _ h => h) (Or.inl ⟨by kernel_rfl, fun x' hSx => by go_simp⟩) hHeld ?_
  try simp only [Act.put, List.setIfInBounds_toArray, List.set_cons_zero, List.set_cons_succ]
  refine hand_take 5 (some 17) (.pointer (some ⟨g7, 5, none⟩)) rfl rfl (by kernel_rfl) (by kernel_rfl) (by kernel_rfl) (fun _ _ _ h => h) (Or.inl ⟨by kernel_rfl, fun x' hSx => by go_simp⟩) hHeld ?_
  try simp only [Act.put, List.setIfInBounds_toArray, List.set_cons_zero, List.set_cons_succ]
  refine hand_take 6 (some 18) (.int .i64 (p : Int)) rfl rfl (by kernel_rfl) (by kernel_rfl) (by kernel_rfl) (fun _ _ _ h => h) (Or.inl ⟨by kernel_rfl, fun x' hSx => by have h : World.cell? x' ⟨g7, 5, none⟩ = some (.int .i64 (p : Int)) := hSx.2.1.cell _ _ HP0.out.1; go_simp⟩) hHeld ?_
  try simp only [Act.put, List.setIfInBounds_toArray, List.set_cons_zero, List.set_cons_succ]
  refine hand_take 7 (some 19) (.pointer (some ⟨x.gp, p * 17, none⟩)) rfl rfl (by kernel_rfl) (by kernel_rfl) (by kernel_rfl) (fun _ _ _ h => h) (Or.inl ⟨by kernel_rfl, fun x' hSx => by go_simp⟩) hHeld ?_
  try simp only [Act.put, List.setIfInBounds_toArray, List.set_cons_zero, List.set_cons_succ]
  refine hand_take 8 (some 20) (.agg (pgA Q0)) rfl rfl (by kernel_rfl) (by kernel_rfl) (by kernel_rfl) (fun _ _ _ h => h) (yieldsIf_load_run (by kernel_rfl) 77 _ rfl (.pointer (some ⟨x.gp, p * 17, none⟩)) rfl _ (fun x' hSx => load_pg15 x' x.gp p x.cp Q0 hSx.2.2 HD.out.1.psz hp4 HPAT.out)) hHeld ?_
  try simp only [Act.put, List.setIfInBounds_toArray, List.set_cons_zero, List.set_cons_succ]
  refine hand_one 9 (by kernel_rfl) ?_
  have hb1 : Below y.drew.heap.size y.drew (y.drew.alloc (.cells #[.int .u64 0, .bool false, .string ⟨#[]⟩, .bool false, .string ⟨#[]⟩, .bool false, .string ⟨#[]⟩, .bool false, .string ⟨#[]⟩, .bool false, .string ⟨#[]⟩, .bool false, .string ⟨#[]⟩, .bool false, .string ⟨#[]⟩, .bool false, .string ⟨#[]⟩] 77)) := (Below.refl _ _).alloc (Nat.le_refl _) _
  refine hand_run (some 8) rfl rfl rfl (.pointer (some ⟨g8, 0, none⟩)) (y.drew.alloc (.cells #[.int .u64 0, .bool false, .string ⟨#[]⟩, .bool false, .string ⟨#[]⟩, .bool false, .string ⟨#[]⟩, .bool false, .string ⟨#[]⟩, .bool false, .string ⟨#[]⟩, .bool false, .string ⟨#[]⟩, .bool false, .string ⟨#[]⟩, .bool false, .string ⟨#[]⟩] 77)) ?hz ?_
  (case hz => rw [hg8]; go_simp)
  have A1 := HD.out.1.later hb1
  have R1 := HD.out.2.1.later hb1
  have N1 : RowAt (y.drew.alloc (.cells #[.int .u64 0, .bool false, .string ⟨#[]⟩, .bool false, .string ⟨#[]⟩, .bool false, .string ⟨#[]⟩, .bool false, .string ⟨#[]⟩, .bool false, .string ⟨#[]⟩, .bool false, .string ⟨#[]⟩, .bool false, .string ⟨#[]⟩, .bool false, .string ⟨#[]⟩] 77)) g8 77 #[.int .u64 0, .bool false, .string ⟨#[]⟩, .bool false, .string ⟨#[]⟩, .bool false, .string ⟨#[]⟩, .bool false, .string ⟨#[]⟩, .bool false, .string ⟨#[]⟩, .bool false, .string ⟨#[]⟩, .bool false, .string ⟨#[]⟩, .bool false, .string ⟨#[]⟩] := by rw [hg8]; exact RowAt.new y.drew _ _
  refine ⟨⟨A1.blk, R1, A1.prow⟩, ?_⟩
  try simp only [Act.put, List.setIfInBounds_toArray, List.set_cons_zero, List.set_cons_succ]
  refine hand_one 10 (by kernel_rfl) ?_
  refine hand_store rfl rfl rfl 77 (.tmp 8) (.tmp 20) rfl g8 0 77 #[.int .u64 0, .bool false, .string ⟨#[]⟩, .bool false, .string ⟨#[]⟩, .bool false, .string ⟨#[]⟩, .bool false, .string ⟨#[]⟩, .bool false, .string ⟨#[]⟩, .bool false, .string ⟨#[]⟩, .bool false, .string ⟨#[]⟩, .bool false, .string ⟨#[]⟩] (pgA Q0) rfl rfl N1 infoPg15 (by show 0 + 17 ≤ 17; omega) (by simp [pgA, Value.oneCell']) ?_
  intro w2 hr2 ho2
  have hpa := partA_all #[.int .u64 0, .bool false, .string ⟨#[]⟩, .bool false, .string ⟨#[]⟩, .bool false, .string ⟨#[]⟩, .bool false, .string ⟨#[]⟩, .bool false, .string ⟨#[]⟩, .bool false, .string ⟨#[]⟩, .bool false, .string ⟨#[]⟩, .bool false, .string ⟨#[]⟩] (pgA Q0) rfl
  rw [hpa] at hr2
  have HB2 : Hid (HB w2 B g (FH g x) h ∧ RowAt w2 g7 30 rc ∧ RowAt w2 g8 77 (pgA Q0) ∧ Aft15 (FH g x) (FH g x) w w2 ∧ ¬ FH g x g7 ∧ ¬ FH g x g8 ∧ g8 ≠ g7) := by
    have hbw : Below y.drew.heap.size y.drew w2 := ho2.below hb1 (by rw [hg8]; exact Nat.le_refl _)
    exact ⟨⟨x, HD.out.1.later hbw, rfl⟩, HD.out.2.1.later hbw, hr2, HD.out.2.2.1.later hbw, HD.out.2.2.2, HN8.out⟩
  refine ⟨⟨ho2.row A1.blk (fun e => HN8.out.1 (.inl e.symm)), ho2.row R1 (fun e => HN8.out.2 e.symm), ho2.row A1.prow (fun e => HN8.out.1 (.inr (.inr (.inl e.symm))))⟩, ?_⟩
  clear hb1 A1 R1 N1 hr2 ho2 hpa hHeld
  try simp only [Act.put, List.setIfInBounds_toArray, List.set_cons_zero, List.set_cons_succ]
  refine wpAnyH_done (by kernel_rfl) ?_ _
  refine NoPanic.normal ?_
  obtain ⟨F0, hF0⟩ : ∃ F0, F0 = FH g x := ⟨_, rfl⟩
  have HG8 : Hid (w.heap.size ≤ g8 ∧ w.heap.size ≤ g7) := by
    have := HD.out.2.2.1.1.size
    rw [hg8, HG7.out]
    exact ⟨this, Nat.le_refl _⟩
  rw [← hF0] at HB2
  have HF0 := hide hF0
  clear HD HPAT HN8 hg8 hF0
  -- the log
  have c5 := HB2.out.2.1.cell 5 _ HP0.out.1
  have c80 := HB2.out.2.2.1.cell 0 (.int .u64 (Q0.l : Int)) rfl
  go_wp2_with (with_reducible refine stop_at 24 rfl ?_)
  refine unstop10 ?_
  refine wpList_load_at rfl 30 (.tmp 7) rfl g7 rfl rc HB2.out.2.1 _ Try.underlying30 rfl hinf ?_
  go_wp2_with fail
  refine (HLOG.out w2 F0 Q0.l HB2.out.1 h2).mono ?_
  rintro e w3 ⟨F3, rfl, hb3, ha3⟩
  have H3 : Hid (HB w3 B g F3 (h.log n i r Q0.l) ∧ RowAt w3 g7 30 rc ∧ RowAt w3 g8 77 (pgA Q0) ∧ Aft15 F0 F3 w w3 ∧ ¬ F3 g7 ∧ ¬ F3 g8 ∧ g8 ≠ g7) := ⟨hb3, ha3.row HB2.out.2.1 HB2.out.2.2.2.2.1, ha3.row HB2.out.2.2.1 HB2.out.2.2.2.2.2.1, HB2.out.2.2.2.1.trans ha3, ha3.not HB2.out.2.2.2.2.1 HB2.out.2.1.lt, ha3.not HB2.out.2.2.2.2.2.1 HB2.out.2.2.1.lt, HB2.out.2.2.2.2.2.2⟩
  obtain ⟨L, hL⟩ : ∃ L, L = h.lsn n Q0.l := ⟨_, rfl⟩
  rw [← hL]
  have HLE := hide hL
  clear hb3 ha3 HB2 HLOG c5 c80 hL
  -- the cells
  go_wp2_with (refine wpList_load_val rfl 26 (.tmp 29) rfl _ (.agg (chA r.c)) rfl (HCZ.out w3 g7 H3.out.2.1) ?_)
  refine (HCE.out w3).mono ?_
  rintro e w4 ⟨rfl, hb4⟩
  have H4 : Hid (HB w4 B g F3 (h.log n i r Q0.l) ∧ RowAt w4 g7 30 rc ∧ RowAt w4 g8 77 (pgA Q0) ∧ Aft15 F0 F3 w w4) := ⟨H3.out.1.later hb4, H3.out.2.1.later hb4, H3.out.2.2.1.later hb4, H3.out.2.2.2.1.later hb4⟩
  have HNN := hide H3.out.2.2.2.2
  clear hb4 H3 HCE
  generalize r.c.makeU = mu at *
  generalize r.c.makeV = mv at *
  obtain ⟨n1, n2, n3⟩ := two_new w4 (ceA false ⟨#[]⟩) (ceA false ⟨#[]⟩) 63 63
  obtain ⟨ga, hga⟩ : ∃ k, k = w4.heap.size := ⟨_, rfl⟩
  obtain ⟨gb, hgb⟩ : ∃ k, k = w4.heap.size + 1 := ⟨_, rfl⟩
  have H5 : Hid (RowAt ((w4.alloc (.cells (ceA false ⟨#[]⟩) 63)).alloc (.cells (ceA false ⟨#[]⟩) 63)) ga 63 (ceA false ⟨#[]⟩) ∧ RowAt ((w4.alloc (.cells (ceA false ⟨#[]⟩) 63)).alloc (.cells (ceA false ⟨#[]⟩) 63)) gb 63 (ceA false ⟨#[]⟩) ∧ Below w4.heap.size w4 ((w4.alloc (.cells (ceA false ⟨#[]⟩) 63)).alloc (.cells (ceA false ⟨#[]⟩) 63))) := by
    rw [hga, hgb]
    exact ⟨n1, n2, n3⟩
  have HGA : Hid (ga = w4.heap.size ∧ gb = w4.heap.size + 1) := ⟨hga, hgb⟩
  clear n1 n2 n3 hga hgb
  go_wp2_with (refine wpList_store_at rfl 63 (.tmp 10) (.tmp 32) rfl ga (ceA false ⟨#[]⟩) (ceA r.c.wantU r.c.wantV) ?h1 rfl H5.out.1 infoCe15 rfl (by simp [ceA, Value.oneCell']) ?_; (case h1 => rw [HGA.out.1]; rfl); intro w5 hr5 hk5 hrow5; refine stop10 ?_)
  have H6 : Hid (RowAt w5 gb 63 (ceA false ⟨#[]⟩) ∧ Below w4.heap.size w4 w5) := ⟨hrow5 gb _ _ (by have := HGA.out; omega) H5.out.2.1, hk5 _ _ H5.out.2.2 (by rw [HGA.out.1]; exact Nat.le_refl _)⟩
  clear hr5 hk5 hrow5 H5
  refine unstop10 ?_
  go_wp2_with (refine wpList_store_at rfl 63 (.tmp 11) (.tmp 33) rfl gb (ceA false ⟨#[]⟩) (ceA mu mv) ?h1 rfl H6.out.1 infoCe15 rfl (by simp [ceA, Value.oneCell']) ?_; (case h1 => rw [HGA.out.2]; rfl); intro w6 hr6 hk6 hrow6; refine stop10 ?_)
  have hb6 := hk6 _ _ H6.out.2 (by rw [HGA.out.2]; omega)
  have H7 : Hid (HB w6 B g F3 (h.log n i r Q0.l) ∧ RowAt w6 g7 30 rc ∧ RowAt w6 g8 77 (pgA Q0) ∧ RowAt w6 gb 63 (ceA mu mv) ∧ Aft15 F0 F3 w w6 ∧ g8 ≠ g7 ∧ g8 ≠ gb) := ⟨H4.out.1.later hb6, H4.out.2.1.later hb6, H4.out.2.2.1.later hb6, hr6, H4.out.2.2.2.later hb6, HNN.out.2.2, fun e => by have := H4.out.2.2.1.lt; have := HGA.out.2; omega⟩
  clear hr6 hk6 hrow6 hb6 H6 H4
  refine unstop10 ?_
  -- the slot
  have c6 := H7.out.2.1.cell 6 _ HP0.out.2
  have is8 : (s : Int) < 8 := by omega
  have hsz8 : 1 + s * 2 + (ceA mu mv).size ≤ (pgA Q0).size := by show 1 + s * 2 + 2 ≤ 17; omega
  go_wp2_with (first | (refine wpList_load_at rfl 63 (.tmp 11) ?h0 gb ?h1 #[.bool mu, .string mv] H7.out.2.2.2.1 _ Try.underlying63 rfl infoCe15 ?_; (case h0 => rfl); (case h1 => rw [HGA.out.2]; rfl)) | (refine wpList_store_part rfl 63 (.tmp 39) (.tmp 37) rfl g8 (1 + s * 2) 77 (pgA Q0) (ceA mu mv) rfl rfl H7.out.2.2.1 infoCe15 hsz8 (by simp [ceA, Value.oneCell']) ?_; intro w7 hr7 ho7; refine stop10 ?_))
  rw [part_cell15 Q0 s hs8] at hr7
  have H8 : Hid (HB w7 B g F3 (h.log n i r Q0.l) ∧ RowAt w7 g7 30 rc ∧ RowAt w7 g8 77 (pgA (Q0.put Q0.l s mu mv)) ∧ Aft15 F0 F3 w w7) := ⟨H7.out.1.only ho7 HNN.out.2.1, ho7.row H7.out.2.1 (fun e => H7.out.2.2.2.2.2.1 e.symm), hr7, H7.out.2.2.2.2.1.only ho7 HG8.out.1⟩
  have HN78 := hide H7.out.2.2.2.2.2.1
  clear hr7 ho7 H7 c6 hsz8
  refine unstop10 ?_
  -- its number
  have c80 := H8.out.2.2.1.cell 0 (.int .u64 (Q0.l : Int)) rfl
  have f80 := H8.out.2.2.1.free 0
  go_wp2_with fail
  have H9 : Hid (HB (w7.setCell ⟨g8, 0, none⟩ (.int .u64 (L : Int))) B g F3 (h.log n i r Q0.l) ∧ RowAt (w7.setCell ⟨g8, 0, none⟩ (.int .u64 (L : Int))) g7 30 rc ∧ RowAt (w7.setCell ⟨g8, 0, none⟩ (.int .u64 (L : Int))) g8 77 (pgA (Q0.put L s mu mv)) ∧ Aft15 F0 F3 w (w7.setCell ⟨g8, 0, none⟩ (.int .u64 (L : Int)))) := by
    have ho := only_setCell w7 g8 0 (.int .u64 (L : Int))
    exact ⟨H8.out.1.only ho HNN.out.2.1, ho.row H8.out.2.1 (fun e => HN78.out e.symm), H8.out.2.2.1.set 0 _, H8.out.2.2.2.only ho HG8.out.1⟩
  clear H8 c80 f80
  have HTE : Hid (h.turn n i r = (h.log n i r Q0.l).setPg p (Q0.put L s mu mv)) := by
    show h.turn n i r = _
    rw [HT.out, HLE.out, HQ0.out]
  refine gen_wp (fun y => HB y B g F3 (h.log n i r Q0.l) ∧ RowAt y g7 30 rc ∧ RowAt y g8 77 (pgA (Q0.put L s mu mv)) ∧ Aft15 F0 F3 w y) H9.out ?_
  intro z HZ0
  obtain ⟨Q, hQ⟩ : ∃ Q, Q = Q0.put L s mu mv := ⟨_, rfl⟩
  rw [← hQ] at HZ0 HTE
  obtain ⟨⟨x3, HX3, hF3⟩, HR7, HR8, HAF⟩ := HZ0
  have HD : Hid (HAt z.drew B g x3 (h.log n i r Q0.l) ∧ RowAt z.drew g7 30 rc ∧ RowAt z.drew g8 77 (pgA Q) ∧ Aft15 F0 (FH g x3) w z.drew ∧ ¬ FH g x3 g7 ∧ ¬ FH g x3 g8) := by
    have h9 := HNN.out
    rw [hF3] at HAF h9
    exact ⟨HX3.drew, HR7, HR8, HAF.later (below_drew (Below.refl _ _)), h9.1, h9.2.1⟩
  clear HX3 hF3 HR7 HR8 HAF H9 hQ HT
  refine wp_region_noPanic ?_
  refine wp_region_held_drew (S := fun z => RowAt z g 69 x3.cs ∧ RowAt z g7 30 rc ∧ RowAt z g8 77 (pgA Q)) (by kernel_rfl) (⟨HD.out.1.blk, HD.out.2.1, HD.out.2.2.1⟩) (fun hHeld => ?_)
  refine hand_take 0 (some 42) (.pointer (some ⟨g, 0, none⟩)) rfl rfl (by kernel_rfl) (by kernel_rfl) (by kernel_rfl) (fun _ _ _ h => h) (Or.inl ⟨by kernel_rfl, fun x' hSx => by go_simp⟩) hHeld ?_
  try simp only [Act.put, List.setIfInBounds_toArray, List.set_cons_zero, List.set_cons_succ]
  refine hand_take 1 (some 43) (.pointer (some ⟨g, 0, none⟩)) rfl rfl (by kernel_rfl) (by kernel_rfl) (by kernel_rfl) (fun _ _ _ h => h) (Or.inl ⟨by kernel_rfl, fun x' hSx => by go_simp⟩) hHeld ?_
  try simp only [Act.put, List.setIfInBounds_toArray, List.set_cons_zero, List.set_cons_succ]
  refine hand_take 2 (some 44) (.pointer (some ⟨g, 1, none⟩)) rfl rfl (by kernel_rfl) (by kernel_rfl) (by kernel_rfl) (fun _ _ _ h => h) (Or.inl ⟨by kernel_rfl, fun x' hSx => by go_simp⟩) hHeld ?_
  try simp only [Act.put, List.setIfInBounds_toArray, List.set_cons_zero, List.set_cons_succ]
  refine hand_take 3 (some 45) (.slice (some ⟨x3.gp, 0, none⟩) 4 4) rfl rfl (by kernel_rfl) (by kernel_rfl) (by kernel_rfl) (fun _ _ _ h => h) (Or.inl ⟨by kernel_rfl, fun x' hSx => by have h : World.cell? x' ⟨g, 1, none⟩ = some (.slice (some ⟨x3.gp, 0, none⟩) 4 4) := hSx.1.cell _ _ HD.out.1.cells.c1; go_simp⟩) hHeld ?_
  try simp only [Act.put, List.setIfInBounds_toArray, List.set_cons_zero, List.set_cons_succ]
  refine hand_take 4 (some 46) (.pointer (some ⟨g7, 4, none⟩)) rfl rfl (by kernel_rfl) (by kernel_rfl) (by kernel_rfl) (fun _ _ _ h => h) (Or.inl ⟨by kernel_rfl, fun x' hSx => by go_simp⟩) hHeld ?_
  try simp only [Act.put, List.setIfInBounds_toArray, List.set_cons_zero, List.set_cons_succ]
  refine hand_take 5 (some 47) (.pointer (some ⟨g7, 5, none⟩)) rfl rfl (by kernel_rfl) (by kernel_rfl) (by kernel_rfl) (fun _ _ _ h => h) (Or.inl ⟨by kernel_rfl, fun x' hSx => by go_simp⟩) hHeld ?_
  try simp only [Act.put, List.setIfInBounds_toArray, List.set_cons_zero, List.set_cons_succ]
  refine hand_take 6 (some 48) (.int .i64 (p : Int)) rfl rfl (by kernel_rfl) (by kernel_rfl) (by kernel_rfl) (fun _ _ _ h => h) (Or.inl ⟨by kernel_rfl, fun x' hSx => by have h : World.cell? x' ⟨g7, 5, none⟩ = some (.int .i64 (p : Int)) := hSx.2.1.cell _ _ HP0.out.1; go_simp⟩) hHeld ?_
  try simp only [Act.put, List.setIfInBounds_toArray, List.set_cons_zero, List.set_cons_succ]
  refine hand_take 7 (some 49) (.agg #[.int .u64 (Q.l : Int), .bool (Q.u 0), .string (Q.s 0), .bool (Q.u 1), .string (Q.s 1), .bool (Q.u 2), .string (Q.s 2), .bool (Q.u 3), .string (Q.s 3), .bool (Q.u 4), .string (Q.s 4), .bool (Q.u 5), .string (Q.s 5), .bool (Q.u 6), .string (Q.s 6), .bool (Q.u 7), .string (Q.s 7)]) rfl rfl (by kernel_rfl) (by kernel_rfl) (by kernel_rfl) (fun _ _ _ h => h) (yieldsIf_load_run (by kernel_rfl) 77 _ rfl (.pointer (some ⟨g8, 0, none⟩)) rfl _ (fun x' hSx => load_pl15 x' g8 Q hSx.2.2)) hHeld ?_
  try simp only [Act.put, List.setIfInBounds_toArray, List.set_cons_zero, List.set_cons_succ]
  refine hand_take 8 (some 50) (.pointer (some ⟨x3.gp, p * 17, none⟩)) rfl rfl (by kernel_rfl) (by kernel_rfl) (by kernel_rfl) (fun _ _ _ h => h) (Or.inl ⟨by kernel_rfl, fun x' hSx => by go_simp⟩) hHeld ?_
  try simp only [Act.put, List.setIfInBounds_toArray, List.set_cons_zero, List.set_cons_succ]
  refine hand_one 9 (by kernel_rfl) ?_
  refine hand_store rfl rfl rfl 77 (.tmp 50) (.tmp 49) rfl x3.gp (p * 17) 77 x3.cp (pgA Q) rfl rfl HD.out.1.prow infoPg15 (by rw [HD.out.1.psz]; show p * 17 + 17 ≤ 68; omega) (by simp [pgA, Value.oneCell']) ?_
  intro w8 hr8 ho8
  have hpd := HD.out.1.paged hp4 hr8 ho8
  have r7 := hpd.2.row HD.out.2.1 HD.out.2.2.2.2.1
  have r8 := hpd.2.row HD.out.2.2.1 HD.out.2.2.2.2.2
  refine ⟨⟨hpd.1.blk, r7, r8⟩, ?_⟩
  have HB8 : Hid (∃ F4, HB w8 B g F4 { h.log n i r Q0.l with pg := upd (h.log n i r Q0.l).pg p Q } ∧ RowAt w8 g7 30 rc ∧ RowAt w8 g8 77 (pgA Q) ∧ Aft15 F0 F4 w w8 ∧ ¬ F4 g7 ∧ ¬ F4 g8) := ⟨_, ⟨_, hpd.1, rfl⟩, r7, r8, HD.out.2.2.2.1.trans hpd.2, hpd.2.not HD.out.2.2.2.2.1 HD.out.2.1.lt, hpd.2.not HD.out.2.2.2.2.2 HD.out.2.2.1.lt⟩
  clear hpd r7 r8 hr8 ho8 hHeld
  try simp only [Act.put, List.setIfInBounds_toArray, List.set_cons_zero, List.set_cons_succ]
  refine wpAnyH_done (by kernel_rfl) ?_ _
  refine NoPanic.normal ?_
  clear HD
  go_wp2_with fail
  -- the page behind those that were
  obtain ⟨F4, hb4, hr47, hr48, haf4, hn47, hn48⟩ := HB8.out
  obtain ⟨h8, hh8⟩ : ∃ h8 : Hs, h8 = { h.log n i r Q0.l with pg := upd (h.log n i r Q0.l).pg p Q } := ⟨_, rfl⟩
  rw [← hh8] at hb4
  have H48 : Hid (h8.past p = h.past p ∧ ({ h8 with past := upd h8.past p (h8.past p ++ [Q]) } : Hs) = h.turn n i r) := by
    show h8.past p = h.past p ∧ _ = h.turn n i r
    rw [HTE.out, hh8]
    exact ⟨rfl, rfl⟩
  clear HB8 HTE hh8
  obtain ⟨x4, HX4, hF4⟩ := hb4
  have HD : Hid (HAt w8.drew B g x4 h8 ∧ RowAt w8.drew g7 30 rc ∧ RowAt w8.drew g8 77 (pgA Q) ∧ Aft15 F0 (FH g x4) w w8.drew ∧ ¬ FH g x4 g7 ∧ ¬ FH g x4 g8) := by
    rw [hF4] at haf4 hn47 hn48
    exact ⟨HX4.drew, hr47, hr48, haf4.later (below_drew (Below.refl _ _)), hn47, hn48⟩
  have HLW := hide (Nat.le_trans (Nat.le_of_lt (Nat.lt_of_le_of_lt HX4.low.1 HX4.blk.lt)) (Nat.le_refl w8.heap.size))
  obtain ⟨av, cv, hv⟩ := own_slot15 (HX4.qown p hp4)
  obtain ⟨ll, hll⟩ : ∃ ll, ll = (h8.past p).length := ⟨_, rfl⟩
  rw [← hll] at hv
  have hll9 : ll ≤ 900 := by rw [hll, H48.out.1]; exact h4
  have HLL := hide hll
  clear hr47 hr48 haf4 hn47 hn48 HX4 hF4 hll
  apply share15 (F := fun gn a9 c9 z => Hid (∃ F', HB z B g F' (h.turn n i r) ∧ Aft15 F0 F' w z))
  (case h =>
    intro REST
    obtain ⟨gn, hgn⟩ : ∃ k, k = w8.drew.heap.size := ⟨_, rfl⟩
    refine wp_region_noPanic ?_
    refine wp_region_held_drew (S := fun z => RowAt z g 69 x4.cs ∧ RowAt z g7 30 rc ∧ RowAt z g8 77 (pgA Q)) (by kernel_rfl) (⟨HD.out.1.blk, HD.out.2.1, HD.out.2.2.1⟩) (fun hHeld => ?_)
    refine hand_take 0 (some 51) (.pointer (some ⟨g, 0, none⟩)) rfl rfl (by kernel_rfl) (by kernel_rfl) (by kernel_rfl) (fun _ _ _ h => h) (Or.inl ⟨by kernel_rfl, fun x' hSx => by go_simp⟩) hHeld ?_
    try simp only [Act.put, List.setIfInBounds_toArray, List.set_cons_zero, List.set_cons_succ]
    refine hand_take 1 (some 52) (.pointer (some ⟨g, 0, none⟩)) rfl rfl (by kernel_rfl) (by kernel_rfl) (by kernel_rfl) (fun _ _ _ h => h) (Or.inl ⟨by kernel_rfl, fun x' hSx => by go_simp⟩) hHeld ?_
    try simp only [Act.put, List.setIfInBounds_toArray, List.set_cons_zero, List.set_cons_succ]
    refine hand_take 2 (some 53) (.pointer (some ⟨g, 2, none⟩)) rfl rfl (by kernel_rfl) (by kernel_rfl) (by kernel_rfl) (fun _ _ _ h => h) (Or.inl ⟨by kernel_rfl, fun x' hSx => by go_simp⟩) hHeld ?_
    try simp only [Act.put, List.setIfInBounds_toArray, List.set_cons_zero, List.set_cons_succ]
    refine hand_take 3 (some 54) (.slice (some ⟨x4.gq, 0, none⟩) 4 x4.cq) rfl rfl (by kernel_rfl) (by kernel_rfl) (by kernel_rfl) (fun _ _ _ h => h) (Or.inl ⟨by kernel_rfl, fun x' hSx => by have h : World.cell? x' ⟨g, 2, none⟩ = some (.slice (some ⟨x4.gq, 0, none⟩) 4 x4.cq) := hSx.1.cell _ _ HD.out.1.cells.c2; go_simp⟩) hHeld ?_
    try simp only [Act.put, List.setIfInBounds_toArray, List.set_cons_zero, List.set_cons_succ]
    refine hand_take 4 (some 55) (.pointer (some ⟨g7, 4, none⟩)) rfl rfl (by kernel_rfl) (by kernel_rfl) (by kernel_rfl) (fun _ _ _ h => h) (Or.inl ⟨by kernel_rfl, fun x' hSx => by go_simp⟩) hHeld ?_
    try simp only [Act.put, List.setIfInBounds_toArray, List.set_cons_zero, List.set_cons_succ]
    refine hand_take 5 (some 56) (.pointer (some ⟨g7, 5, none⟩)) rfl rfl (by kernel_rfl) (by kernel_rfl) (by kernel_rfl) (fun _ _ _ h => h) (Or.inl ⟨by kernel_rfl, fun x' hSx => by go_simp⟩) hHeld ?_
    try simp only [Act.put, List.setIfInBounds_toArray, List.set_cons_zero, List.set_cons_succ]
    refine hand_take 6 (some 57) (.int .i64 (p : Int)) rfl rfl (by kernel_rfl) (by kernel_rfl) (by kernel_rfl) (fun _ _ _ h => h) (Or.inl ⟨by kernel_rfl, fun x' hSx => by have h : World.cell? x' ⟨g7, 5, none⟩ = some (.int .i64 (p : Int)) := hSx.2.1.cell _ _ HP0.out.1; go_simp⟩) hHeld ?_
    try simp only [Act.put, List.setIfInBounds_toArray, List.set_cons_zero, List.set_cons_succ]
    refine hand_take 7 (some 58) (.pointer (some ⟨g, 0, none⟩)) rfl rfl (by kernel_rfl) (by kernel_rfl) (by kernel_rfl) (fun _ _ _ h => h) (Or.inl ⟨by kernel_rfl, fun x' hSx => by go_simp⟩) hHeld ?_
    try simp only [Act.put, List.setIfInBounds_toArray, List.set_cons_zero, List.set_cons_succ]
    refine hand_take 8 (some 59) (.pointer (some ⟨g, 0, none⟩)) rfl rfl (by kernel_rfl) (by kernel_rfl) (by kernel_rfl) (fun _ _ _ h => h) (Or.inl ⟨by kernel_rfl, fun x' hSx => by go_simp⟩) hHeld ?_
    try simp only [Act.put, List.setIfInBounds_toArray, List.set_cons_zero, List.set_cons_succ]
    refine hand_take 9 (some 60) (.pointer (some ⟨g, 2, none⟩)) rfl rfl (by kernel_rfl) (by kernel_rfl) (by kernel_rfl) (fun _ _ _ h => h) (Or.inl ⟨by kernel_rfl, fun x' hSx => by go_simp⟩) hHeld ?_
    try simp only [Act.put, List.setIfInBounds_toArray, List.set_cons_zero, List.set_cons_succ]
    refine hand_take 10 (some 61) (.slice (some ⟨x4.gq, 0, none⟩) 4 x4.cq) rfl rfl (by kernel_rfl) (by kernel_rfl) (by kernel_rfl) (fun _ _ _ h => h) (Or.inl ⟨by kernel_rfl, fun x' hSx => by have h : World.cell? x' ⟨g, 2, none⟩ = some (.slice (some ⟨x4.gq, 0, none⟩) 4 x4.cq) := hSx.1.cell _ _ HD.out.1.cells.c2; go_simp⟩) hHeld ?_
    try simp only [Act.put, List.setIfInBounds_toArray, List.set_cons_zero, List.set_cons_succ]
    refine hand_take 11 (some 62) (.pointer (some ⟨g7, 4, none⟩)) rfl rfl (by kernel_rfl) (by kernel_rfl) (by kernel_rfl) (fun _ _ _ h => h) (Or.inl ⟨by kernel_rfl, fun x' hSx => by go_simp⟩) hHeld ?_
    try simp only [Act.put, List.setIfInBounds_toArray, List.set_cons_zero, List.set_cons_succ]
    refine hand_take 12 (some 63) (.pointer (some ⟨g7, 5, none⟩)) rfl rfl (by kernel_rfl) (by kernel_rfl) (by kernel_rfl) (fun _ _ _ h => h) (Or.inl ⟨by kernel_rfl, fun x' hSx => by go_simp⟩) hHeld ?_
    try simp only [Act.put, List.setIfInBounds_toArray, List.set_cons_zero, List.set_cons_succ]
    refine hand_take 13 (some 64) (.int .i64 (p : Int)) rfl rfl (by kernel_rfl) (by kernel_rfl) (by kernel_rfl) (fun _ _ _ h => h) (Or.inl ⟨by kernel_rfl, fun x' hSx => by have h : World.cell? x' ⟨g7, 5, none⟩ = some (.int .i64 (p : Int)) := hSx.2.1.cell _ _ HP0.out.1; go_simp⟩) hHeld ?_
    try simp only [Act.put, List.setIfInBounds_toArray, List.set_cons_zero, List.set_cons_succ]
    refine hand_take 14 (some 65) (.pointer (some ⟨x4.gq, p, none⟩)) rfl rfl (by kernel_rfl) (by kernel_rfl) (by kernel_rfl) (fun _ _ _ h => h) (Or.inl ⟨by kernel_rfl, fun x' hSx => by go_simp⟩) hHeld ?_
    try simp only [Act.put, List.setIfInBounds_toArray, List.set_cons_zero, List.set_cons_succ]
    refine hand_take 16 (some 67) (.agg #[.int .u64 (Q.l : Int), .bool (Q.u 0), .string (Q.s 0), .bool (Q.u 1), .string (Q.s 1), .bool (Q.u 2), .string (Q.s 2), .bool (Q.u 3), .string (Q.s 3), .bool (Q.u 4), .string (Q.s 4), .bool (Q.u 5), .string (Q.s 5), .bool (Q.u 6), .string (Q.s 6), .bool (Q.u 7), .string (Q.s 7)]) rfl rfl (by kernel_rfl) (by kernel_rfl) (by kernel_rfl) (fun _ _ _ h => h) (yieldsIf_load_run (by kernel_rfl) 77 _ rfl (.pointer (some ⟨g8, 0, none⟩)) rfl _ (fun x' hSx => load_pl15 x' g8 Q hSx.2.2)) hHeld ?_
    try simp only [Act.put, List.setIfInBounds_toArray, List.set_cons_zero, List.set_cons_succ]
    refine hand_two 15 17 (by kernel_rfl) ?_ ?_
    · skip
      refine hand_run (some 66) rfl rfl rfl (.slice av ll cv) w8.drew (exec_load 54 _ rfl (.pointer (some ⟨x4.gq, p, none⟩)) rfl _ (load_ps15 _ _ _ _ (by rw [← hv]; exact HD.out.1.qrow.cell _ _ (HD.out.1.qat p hp4)))) ?_
      refine ⟨⟨HD.out.1.blk, HD.out.2.1, HD.out.2.2.1⟩, ?_⟩
      try simp only [Act.put, List.setIfInBounds_toArray, List.set_cons_zero, List.set_cons_succ]
      refine hand_one 17 (by kernel_rfl) ?_
      have hb1 : Below w8.drew.heap.size w8.drew (w8.drew.alloc (.cells #[.int .u64 (Q.l : Int), .bool (Q.u 0), .string (Q.s 0), .bool (Q.u 1), .string (Q.s 1), .bool (Q.u 2), .string (Q.s 2), .bool (Q.u 3), .string (Q.s 3), .bool (Q.u 4), .string (Q.s 4), .bool (Q.u 5), .string (Q.s 5), .bool (Q.u 6), .string (Q.s 6), .bool (Q.u 7), .string (Q.s 7)] 77)) := (Below.refl _ _).alloc (Nat.le_refl _) _
      refine hand_run (some 68) rfl rfl rfl (.slice (some ⟨gn, 0, none⟩) 1 1) (w8.drew.alloc (.cells #[.int .u64 (Q.l : Int), .bool (Q.u 0), .string (Q.s 0), .bool (Q.u 1), .string (Q.s 1), .bool (Q.u 2), .string (Q.s 2), .bool (Q.u 3), .string (Q.s 3), .bool (Q.u 4), .string (Q.s 4), .bool (Q.u 5), .string (Q.s 5), .bool (Q.u 6), .string (Q.s 6), .bool (Q.u 7), .string (Q.s 7)] 77)) ?hz ?_
      (case hz => rw [hgn]; go_simp)
      have A1 := HD.out.1.later hb1
      have R1 := HD.out.2.1.later hb1
      have R2 := HD.out.2.2.1.later hb1
      refine ⟨⟨A1.blk, R1, R2⟩, ?_⟩
      try simp only [Act.put, List.setIfInBounds_toArray, List.set_cons_zero, List.set_cons_succ]
      obtain ⟨v', w2, hrun, hown, hgr, hat⟩ := run_app_one (w8.drew.alloc (.cells #[.int .u64 (Q.l : Int), .bool (Q.u 0), .string (Q.s 0), .bool (Q.u 1), .string (Q.s 1), .bool (Q.u 2), .string (Q.s 2), .bool (Q.u 3), .string (Q.s 3), .bool (Q.u 4), .string (Q.s 4), .bool (Q.u 5), .string (Q.s 5), .bool (Q.u 6), .string (Q.s 6), .bool (Q.u 7), .string (Q.s 7)] 77)) 54 77 54 17 200 (.agg (pgA Pg.zero)) Try.underlying54 infoPgs15 rfl (by decide) (by decide) B (x4.vq p) (h8.past p).length (flatP (h8.past p)) (A1.qown p hp4) w8.drew.heap.size #[.int .u64 (Q.l : Int), .bool (Q.u 0), .string (Q.s 0), .bool (Q.u 1), .string (Q.s 1), .bool (Q.u 2), .string (Q.s 2), .bool (Q.u 3), .string (Q.s 3), .bool (Q.u 4), .string (Q.s 4), .bool (Q.u 5), .string (Q.s 5), .bool (Q.u 6), .string (Q.s 6), .bool (Q.u 7), .string (Q.s 7)] (RowAt.new w8.drew _ _) rfl (by simp [Value.oneCell']) (by rw [← HLL.out]; omega) (Nat.le_trans HLW.out hb1.size)
      obtain ⟨av2, cv2, rfl⟩ := own_slot15 hown
      have hpush := A1.pasted (q := Q) hp4 hgr hown hat
      have nq : ∀ {k : Nat} {t : TypeId} {cs : Array Value}, RowAt (w8.drew.alloc (.cells #[.int .u64 (Q.l : Int), .bool (Q.u 0), .string (Q.s 0), .bool (Q.u 1), .string (Q.s 1), .bool (Q.u 2), .string (Q.s 2), .bool (Q.u 3), .string (Q.s 3), .bool (Q.u 4), .string (Q.s 4), .bool (Q.u 5), .string (Q.s 5), .bool (Q.u 6), .string (Q.s 6), .bool (Q.u 7), .string (Q.s 7)] 77)) k t cs → t ≠ 77 → RowAt w2 k t cs := fun {k t cs} hk ht => (hgr.block k hk.lt (fun e => by
        obtain ⟨_, ds, h9⟩ := own_in15 (A1.qown p hp4) e.symm
        exact ht (row_kind hk h9))).trans hk
      have hqr := nq A1.qrow (by decide)
      have hgg := nq A1.blk (by decide)
      have hg7r := nq R1 (by decide)
      have hg8r : RowAt w2 g8 77 (pgA Q) := (hgr.block g8 R2.lt (fun e => HD.out.2.2.2.2.2 (.inr (.inr (.inr (.inr (.inr ⟨p, hp4, e.symm⟩))))))).trans R2
      rw [hv, ← hgn, ← HLL.out] at hrun
      rw [← HLL.out] at hpush
      obtain ⟨w3, hw3⟩ : ∃ w3, w3 = w2.setCell ⟨x4.gq, p, none⟩ (.slice av2 (ll + 1) cv2) := ⟨_, rfl⟩
      rw [← hw3] at hpush
      refine hand_one 18 (by kernel_rfl) ?_
      refine hand_run (some 69) rfl rfl rfl (.slice av2 (ll + 1) cv2) w2 (exec_append15 _ _ _ _ rfl _ _ rfl rfl hrun) ?_
      refine ⟨⟨hgg, hg7r, hg8r⟩, ?_⟩
      try simp only [Act.put, List.setIfInBounds_toArray, List.set_cons_zero, List.set_cons_succ]
      have hHeld := And.intro hgg (And.intro hg7r hg8r)
      refine hand_take 19 (some 70) (.pointer (some ⟨x4.gq, p, none⟩)) rfl rfl (by kernel_rfl) (by kernel_rfl) (by kernel_rfl) (fun _ _ _ h => h) (Or.inl ⟨by kernel_rfl, fun x' hSx => by go_simp⟩) hHeld ?_
      try simp only [Act.put, List.setIfInBounds_toArray, List.set_cons_zero, List.set_cons_succ]
      refine hand_one 20 (by kernel_rfl) ?_
      refine hand_skip15 rfl rfl rfl w3 ?hs ?_
      (case hs => have h := hqr.cell _ _ (A1.qat p hp4); have h2 := hqr.free p; rw [hv] at h; rw [hw3]; go_simp)
      refine ⟨⟨hpush.1.blk, hpush.2.row R1 HD.out.2.2.2.2.1, hpush.2.row R2 HD.out.2.2.2.2.2⟩, ?_⟩
      try simp only [Act.put, List.setIfInBounds_toArray, List.set_cons_zero, List.set_cons_succ]
      refine wpAnyH_done (by kernel_rfl) ?_ _
      refine NoPanic.normal ?_
      exact REST gn av2 cv2 w3 ⟨_, ⟨_, by rw [← H48.out.2]; exact hpush.1, rfl⟩, (HD.out.2.2.2.1.later hb1).trans hpush.2⟩
    · skip
      have hb1 : Below w8.drew.heap.size w8.drew (w8.drew.alloc (.cells #[.int .u64 (Q.l : Int), .bool (Q.u 0), .string (Q.s 0), .bool (Q.u 1), .string (Q.s 1), .bool (Q.u 2), .string (Q.s 2), .bool (Q.u 3), .string (Q.s 3), .bool (Q.u 4), .string (Q.s 4), .bool (Q.u 5), .string (Q.s 5), .bool (Q.u 6), .string (Q.s 6), .bool (Q.u 7), .string (Q.s 7)] 77)) := (Below.refl _ _).alloc (Nat.le_refl _) _
      refine hand_run (some 68) rfl rfl rfl (.slice (some ⟨gn, 0, none⟩) 1 1) (w8.drew.alloc (.cells #[.int .u64 (Q.l : Int), .bool (Q.u 0), .string (Q.s 0), .bool (Q.u 1), .string (Q.s 1), .bool (Q.u 2), .string (Q.s 2), .bool (Q.u 3), .string (Q.s 3), .bool (Q.u 4), .string (Q.s 4), .bool (Q.u 5), .string (Q.s 5), .bool (Q.u 6), .string (Q.s 6), .bool (Q.u 7), .string (Q.s 7)] 77)) ?hz ?_
      (case hz => rw [hgn]; go_simp)
      have A1 := HD.out.1.later hb1
      have R1 := HD.out.2.1.later hb1
      have R2 := HD.out.2.2.1.later hb1
      refine ⟨⟨A1.blk, R1, R2⟩, ?_⟩
      try simp only [Act.put, List.setIfInBounds_toArray, List.set_cons_zero, List.set_cons_succ]
      refine hand_one 15 (by kernel_rfl) ?_
      refine hand_run (some 66) rfl rfl rfl (.slice av ll cv) _ (exec_load 54 _ rfl (.pointer (some ⟨x4.gq, p, none⟩)) rfl _ (load_ps15 _ _ _ _ (by rw [← hv]; exact A1.qrow.cell _ _ (A1.qat p hp4)))) ?_
      refine ⟨⟨A1.blk, R1, R2⟩, ?_⟩
      try simp only [Act.put, List.setIfInBounds_toArray, List.set_cons_zero, List.set_cons_succ]
      obtain ⟨v', w2, hrun, hown, hgr, hat⟩ := run_app_one (w8.drew.alloc (.cells #[.int .u64 (Q.l : Int), .bool (Q.u 0), .string (Q.s 0), .bool (Q.u 1), .string (Q.s 1), .bool (Q.u 2), .string (Q.s 2), .bool (Q.u 3), .string (Q.s 3), .bool (Q.u 4), .string (Q.s 4), .bool (Q.u 5), .string (Q.s 5), .bool (Q.u 6), .string (Q.s 6), .bool (Q.u 7), .string (Q.s 7)] 77)) 54 77 54 17 200 (.agg (pgA Pg.zero)) Try.underlying54 infoPgs15 rfl (by decide) (by decide) B (x4.vq p) (h8.past p).length (flatP (h8.past p)) (A1.qown p hp4) w8.drew.heap.size #[.int .u64 (Q.l : Int), .bool (Q.u 0), .string (Q.s 0), .bool (Q.u 1), .string (Q.s 1), .bool (Q.u 2), .string (Q.s 2), .bool (Q.u 3), .string (Q.s 3), .bool (Q.u 4), .string (Q.s 4), .bool (Q.u 5), .string (Q.s 5), .bool (Q.u 6), .string (Q.s 6), .bool (Q.u 7), .string (Q.s 7)] (RowAt.new w8.drew _ _) rfl (by simp [Value.oneCell']) (by rw [← HLL.out]; omega) (Nat.le_trans HLW.out hb1.size)
      obtain ⟨av2, cv2, rfl⟩ := own_slot15 hown
      have hpush := A1.pasted (q := Q) hp4 hgr hown hat
      have nq : ∀ {k : Nat} {t : TypeId} {cs : Array Value}, RowAt (w8.drew.alloc (.cells #[.int .u64 (Q.l : Int), .bool (Q.u 0), .string (Q.s 0), .bool (Q.u 1), .string (Q.s 1), .bool (Q.u 2), .string (Q.s 2), .bool (Q.u 3), .string (Q.s 3), .bool (Q.u 4), .string (Q.s 4), .bool (Q.u 5), .string (Q.s 5), .bool (Q.u 6), .string (Q.s 6), .bool (Q.u 7), .string (Q.s 7)] 77)) k t cs → t ≠ 77 → RowAt w2 k t cs := fun {k t cs} hk ht => (hgr.block k hk.lt (fun e => by
        obtain ⟨_, ds, h9⟩ := own_in15 (A1.qown p hp4) e.symm
        exact ht (row_kind hk h9))).trans hk
      have hqr := nq A1.qrow (by decide)
      have hgg := nq A1.blk (by decide)
      have hg7r := nq R1 (by decide)
      have hg8r : RowAt w2 g8 77 (pgA Q) := (hgr.block g8 R2.lt (fun e => HD.out.2.2.2.2.2 (.inr (.inr (.inr (.inr (.inr ⟨p, hp4, e.symm⟩))))))).trans R2
      rw [hv, ← hgn, ← HLL.out] at hrun
      rw [← HLL.out] at hpush
      obtain ⟨w3, hw3⟩ : ∃ w3, w3 = w2.setCell ⟨x4.gq, p, none⟩ (.slice av2 (ll + 1) cv2) := ⟨_, rfl⟩
      rw [← hw3] at hpush
      refine hand_one 18 (by kernel_rfl) ?_
      refine hand_run (some 69) rfl rfl rfl (.slice av2 (ll + 1) cv2) w2 (exec_append15 _ _ _ _ rfl _ _ rfl rfl hrun) ?_
      refine ⟨⟨hgg, hg7r, hg8r⟩, ?_⟩
      try simp only [Act.put, List.setIfInBounds_toArray, List.set_cons_zero, List.set_cons_succ]
      have hHeld := And.intro hgg (And.intro hg7r hg8r)
      refine hand_take 19 (some 70) (.pointer (some ⟨x4.gq, p, none⟩)) rfl rfl (by kernel_rfl) (by kernel_rfl) (by kernel_rfl) (fun _ _ _ h => h) (Or.inl ⟨by kernel_rfl, fun x' hSx => by go_simp⟩) hHeld ?_
      try simp only [Act.put, List.setIfInBounds_toArray, List.set_cons_zero, List.set_cons_succ]
      refine hand_one 20 (by kernel_rfl) ?_
      refine hand_skip15 rfl rfl rfl w3 ?hs ?_
      (case hs => have h := hqr.cell _ _ (A1.qat p hp4); have h2 := hqr.free p; rw [hv] at h; rw [hw3]; go_simp)
      refine ⟨⟨hpush.1.blk, hpush.2.row R1 HD.out.2.2.2.2.1, hpush.2.row R2 HD.out.2.2.2.2.2⟩, ?_⟩
      try simp only [Act.put, List.setIfInBounds_toArray, List.set_cons_zero, List.set_cons_succ]
      refine wpAnyH_done (by kernel_rfl) ?_ _
      refine NoPanic.normal ?_
      exact REST gn av2 cv2 w3 ⟨_, ⟨_, by rw [← H48.out.2]; exact hpush.1, rfl⟩, (HD.out.2.2.2.1.later hb1).trans hpush.2⟩)
  intro gn a9 c9 z HZ
  clear HD HLW
  obtain ⟨F', h4, h6⟩ := HZ.out
  go_wp2
  refine bodyPost_end (results_none rfl _ _ _) rfl ?_
  refine ⟨F', rfl, h4, ?_⟩
  rw [← HF0.out]
  exact h6
end Go.Proofs.Ytohdmmfmjadipaa

/-
  The contract of quaysideref15's free.
-/
namespace Go.Proofs.Ytohdmmfmjadipaa
open Go.RowKit
set_option linter.unusedVariables false

/-- Its locks below a place are anybody's. -/
def Hs.freeTo (h : Hs) (n i m : Nat) : Hs := { h with lk := fun x => if x < m ∧ h.mine n i x = true then Lo.zero else h.lk x }
theorem freeTo_zero (h : Hs) (n i : Nat) : h.freeTo n i 0 = h := by
  unfold Hs.freeTo
  have e : (fun x => if x < 0 ∧ h.mine n i x = true then Lo.zero else h.lk x) = h.lk := by
    funext x
    rw [if_neg (fun q => by omega)]
  rw [e]
theorem freeTo_no (h : Hs) (n i m : Nat) (hm : h.mine n i m = false) : h.freeTo n i (m + 1) = h.freeTo n i m := by
  unfold Hs.freeTo
  have e : (fun x => if x < m + 1 ∧ h.mine n i x = true then Lo.zero else h.lk x) = (fun x => if x < m ∧ h.mine n i x = true then Lo.zero else h.lk x) := by
    funext x
    by_cases hx : x = m
    · subst hx
      rw [if_neg (fun q => by rw [hm] at q; cases q.2), if_neg (fun q => by omega)]
    · by_cases h1 : x < m
      · by_cases h2 : h.mine n i x = true
        · rw [if_pos ⟨by omega, h2⟩, if_pos ⟨h1, h2⟩]
        · rw [if_neg (fun q => h2 q.2), if_neg (fun q => h2 q.2)]
      · rw [if_neg (fun q => by omega), if_neg (fun q => h1 q.1)]
  rw [e]
theorem freeTo_yes (h : Hs) (n i m : Nat) (hm : h.mine n i m = true) : h.freeTo n i (m + 1) = (h.freeTo n i m).setLk m Lo.zero := by
  unfold Hs.freeTo Hs.setLk
  have e : (fun x => if x < m + 1 ∧ h.mine n i x = true then Lo.zero else h.lk x) = upd (fun x => if x < m ∧ h.mine n i x = true then Lo.zero else h.lk x) m Lo.zero := by
    funext x
    unfold upd
    by_cases hx : x = m
    · subst hx
      rw [if_pos ⟨by omega, hm⟩, if_pos rfl]
    · rw [if_neg hx]
      show (if x < m + 1 ∧ h.mine n i x = true then Lo.zero else h.lk x) = (if x < m ∧ h.mine n i x = true then Lo.zero else h.lk x)
      by_cases h1 : x < m
      · by_cases h2 : h.mine n i x = true
        · rw [if_pos ⟨by omega, h2⟩, if_pos ⟨h1, h2⟩]
        · rw [if_neg (fun q => h2 q.2), if_neg (fun q => h2 q.2)]
      · rw [if_neg (fun q => by omega), if_neg (fun q => h1 q.1)]
  rw [e]
theorem freeTo_at (h : Hs) (n i m : Nat) : (h.freeTo n i m).lk m = h.lk m ∧ (h.freeTo n i m).tx = h.tx := by
  refine ⟨?_, rfl⟩
  show (if m < m ∧ h.mine n i m = true then Lo.zero else h.lk m) = h.lk m
  rw [if_neg (fun q => by omega)]
/-- A part of its own block, its parts left open. -/
theorem HB.part {w y : World} {B g : Nat} {F : Nat → Prop} {h h' : Hs} (H : HB w B g F h) (k : ∀ x, HAt w B g x h → ∃ cs, RowAt y g 69 cs ∧ Only g w y ∧ HC cs h' (.slice (some ⟨x.gl, 0, none⟩) 3 3) (.slice (some ⟨x.gp, 0, none⟩) 4 4) (.slice (some ⟨x.gq, 0, none⟩) 4 x.cq)) (h1 : h'.lg = h.lg) (h2 : h'.pg = h.pg) (h3 : h'.past = h.past) : HB y B g F h' ∧ Aft15 F F w y := by
  obtain ⟨x, H, rfl⟩ := H
  obtain ⟨cs, hr, ho, hc⟩ := k x H
  exact ⟨⟨_, H.own ho hr hc h1 h2 h3, rfl⟩, aft_own ho cs⟩
theorem infoLo15 : (Try.prog.info? 65).map (·.size) = some 4 := by kernel_rfl
theorem loA_one (l : Lo) : (loA l).toArray.all (·.oneCell') = true := by simp [loA, Value.oneCell']
theorem loA_info (l : Lo) : (Try.prog.info? 65).map (·.size) = some (loA l).toArray.size := infoLo15
theorem tnA_one (t : Tu) : (tnA t).toArray.all (·.oneCell') = true := by simp [tnA, Value.oneCell']
theorem infoTu15 : (Try.prog.info? 59).map (·.size) = some 4 := by kernel_rfl
set_option maxRecDepth 8000 in
set_option maxHeartbeats 1600000 in
theorem hfree15 (w : World) (B g n i o : Nat) (F : Nat → Prop) (h : Hs) (H : HB w B g F h) (hn : n < 3) (hi : i < 9) (ho : o = 9 + i * 4) :
    Calls Try.prog 54 #[.pointer (some ⟨g, 0, none⟩), .int .i64 (n : Int), .pointer (some ⟨g, o, none⟩)] w fun e w' => e = .returned (.tuple #[]) ∧ HB w' B g F (h.free n i) ∧ Aft15 F F w w' := by
  have HH := hide H
  have HO := hide ho
  clear H ho
  go_enter Try.func54, Try.ntmps54
  go_wp2
  go_loopw [6] (fun v wr => ∃ a : Nat, a ≤ 4 ∧ v = .int .i64 (a : Int) ∧ Hid (HB wr B g F (h.freeTo n i (a * 8)) ∧ Aft15 F F w wr)) (fun v _ => 4 - (intOf v).toNat)
  case atStart => exact ⟨0, by omega, rfl, by show HB w B g F (h.freeTo n i (0 * 8)) ∧ _; rw [show 0 * 8 = 0 by omega, freeTo_zero]; exact ⟨HH.out, Aft15.refl _ _⟩⟩
  case round =>
    obtain ⟨a, ha, rfl, HA⟩ := hrel
    by_cases hlt : a < 4
    · have i4 : (a : Int) < 4 := by omega
      go_wp2
      go_loopw [7] (fun v wr => ∃ b : Nat, b ≤ 8 ∧ v = .int .i64 (b : Int) ∧ Hid (HB wr B g F (h.freeTo n i (a * 8 + b)) ∧ Aft15 F F w wr)) (fun v _ => 8 - (intOf v).toNat)
      case atStart => exact ⟨0, by omega, rfl, HA.out⟩
      case round =>
        obtain ⟨b, hb, rfl, HAB⟩ := hrel
        clear HA
        by_cases hlt2 : b < 8
        · have i8 : (b : Int) < 8 := by omega
          have hx : a * 8 + b < 32 := by omega
          obtain ⟨l0, l1, -, -⟩ := HAB.out.1.lo hx
          obtain ⟨t0, -⟩ := HAB.out.1.tu hi HO.out
          have hfa := freeTo_at h n i (a * 8 + b)
          rw [hfa.1, show 45 + (a * 8 + b) * 4 = 45 + a * 32 + b * 4 by omega] at l0 l1
          rw [hfa.2] at t0
          by_cases e1 : (h.lk (a * 8 + b)).nd = (n : Int)
          · by_cases e2 : (h.lk (a * 8 + b)).nr = (h.tx i).nr
            · have hmine : h.mine n i (a * 8 + b) = true := by unfold Hs.mine; rw [decide_eq_true e1, decide_eq_true e2]; rfl
              have HM := hide (freeTo_yes h n i _ hmine)
              clear hmine hfa
              rw [e1] at l0
              rw [e2] at l1
              generalize (h.tx i).nr = nr at *
              obtain ⟨x, HX0, rfl⟩ := HAB.out.1
              have HX := hide HX0
              have hsz : 45 + a * 32 + b * 4 + (loA Lo.zero).toArray.size ≤ x.cs.size := by rw [HX0.cells.1]; show 45 + a * 32 + b * 4 + 4 ≤ 174; omega
              have HAF := hide HAB.out.2
              have hone := loA_one Lo.zero
              have hli := loA_info Lo.zero
              clear HX0 HAB hb
              go_wp2_with fail
              go_quiet (fail)
              clear l0 l1 t0
              go_wp2_with (refine wpList_store_part rfl 65 (.tmp 50) (.tmp 46) rfl g (45 + a * 32 + b * 4) 69 x.cs (loA Lo.zero).toArray rfl rfl HX.out.blk hli hsz hone ?_; intro w2 hr2 ho2; refine stop10 ?_)
              have H2 : Hid (HB w2 B g (FH g x) (h.freeTo n i (a * 8 + b + 1)) ∧ Aft15 (FH g x) (FH g x) w w2) := by
                have ho3 : Only g wr w2 := ⟨ho2.os, ho2.tape, ho2.output, ho2.size, ho2.block⟩
                have hc := HX.out.cells.allLk hx Lo.zero
                rw [show 45 + (a * 8 + b) * 4 = 45 + a * 32 + b * 4 by omega] at hc
                rw [HM.out]
                exact ⟨⟨_, HX.out.part _ _ hr2 ho3 hc rfl rfl rfl, rfl⟩, HAF.out.trans (aft_own ho3 _)⟩
              clear hr2 ho2 HX HAF hsz HM
              refine unstop10 ?_
              go_wp2
              go_roundw
              case rel => exact ⟨b + 1, by omega, by go_num, H2.out⟩
              case measure => simp [intOf] <;> omega
            · skip
              have hmine : h.mine n i (a * 8 + b) = false := by unfold Hs.mine; rw [decide_eq_true e1, decide_eq_false e2]; rfl
              have HM := hide (freeTo_no h n i _ hmine)
              clear hmine hfa
              rw [e1] at l0
              have e3 : ((h.lk (a * 8 + b)).nr == (h.tx i).nr) = false := by simpa using e2
              have HY : Hid (HB wr B g F (h.freeTo n i (a * 8 + b)) ∧ Aft15 F F w wr) := HAB
              generalize (h.tx i).nr = nr at *
              generalize (h.lk (a * 8 + b)).nr = lr at *
              generalize (h.lk (a * 8 + b)).nd = ld at *
              go_wp2_with fail
              go_quiet (fail)
              go_wp2
              go_roundw
              case rel => exact ⟨b + 1, by omega, by go_num, by show HB _ B g F (h.freeTo n i (a * 8 + b + 1)) ∧ _; rw [HM.out]; exact ⟨HY.out.1.later (below_dn (Below.refl _ _) _), HY.out.2.later (below_dn (Below.refl _ _) _)⟩⟩
              case measure => simp [intOf] <;> omega
          · skip
            have hmine : h.mine n i (a * 8 + b) = false := by unfold Hs.mine; rw [decide_eq_false e1]; rfl
            have HM := hide (freeTo_no h n i _ hmine)
            clear hmine hfa
            have e3 : ((h.lk (a * 8 + b)).nd == (n : Int)) = false := by simpa using e1
            have HY : Hid (HB wr B g F (h.freeTo n i (a * 8 + b)) ∧ Aft15 F F w wr) := HAB
            generalize (h.tx i).nr = nr at *
            generalize (h.lk (a * 8 + b)).nr = lr at *
            generalize (h.lk (a * 8 + b)).nd = ld at *
            go_wp2_with fail
            go_quiet (fail)
            go_wp2
            go_roundw
            case rel => exact ⟨b + 1, by omega, by go_num, by show HB _ B g F (h.freeTo n i (a * 8 + b + 1)) ∧ _; rw [HM.out]; exact ⟨HY.out.1.later (below_dn (Below.refl _ _) _), HY.out.2.later (below_dn (Below.refl _ _) _)⟩⟩
            case measure => simp [intOf] <;> omega
        · obtain rfl : b = 8 := by omega
          go_wp2
          go_roundw
          case rel => exact ⟨a + 1, by omega, by go_num, by show HB _ B g F (h.freeTo n i ((a + 1) * 8)) ∧ _; rw [show (a + 1) * 8 = a * 8 + 8 by omega]; exact HAB.out⟩
          case measure => simp [intOf] <;> omega
    · obtain rfl : a = 4 := by omega
      go_wp2
      refine bodyPost_end (results_none rfl _ _ _) rfl ?_
      exact ⟨rfl, HA.out⟩
end Go.Proofs.Ytohdmmfmjadipaa

/-
  The contract of quaysideref15.pick.
-/
namespace Go.Proofs.Ytohdmmfmjadipaa
open Go.RowKit
set_option linter.unusedVariables false

theorem i64_lo {n : Int} (h : (Lit.int .i64 n).wf = true) : -9223372036854775808 ≤ n ∧ n ≤ 9223372036854775807 := by
  have m1 : IntKind.i64.min = -9223372036854775808 := by decide
  have m2 : IntKind.i64.max = 9223372036854775807 := by decide
  simp only [Lit.wf, m1, m2, Bool.and_eq_true, decide_eq_true_eq] at h
  omega
set_option maxRecDepth 4000 in
set_option maxHeartbeats 800000 in
theorem hpick15 (n : Int) (m : Nat) (w : World) (hn : (Lit.int .i64 n).wf = true) (hm : 0 < m) (hm2 : m < 100) :
    Calls Try.prog 51 #[.int .i64 n, .int .i64 (m : Int)] w fun e w' => e = .returned (.int .i64 (pick15 n m : Int)) ∧ w = w' := by
  have hb := i64_lo hn
  have hz : ¬ (m : Int) = 0 := by omega
  by_cases h0 : n < 0
  · have e1 : IntKind.i64.wrap (n + 1) = n + 1 := by rw [IntKind.wrap_i64]; omega
    have e2 : IntKind.i64.wrap (-(n + 1)) = -(n + 1) := by rw [IntKind.wrap_i64]; omega
    have e3 : (-(n + 1)).tmod (m : Int) = (pick15 n m : Int) := by
      unfold pick15
      rw [if_pos h0, Int.tmod_eq_emod_of_nonneg (by omega)]
      have := Int.emod_nonneg (-(n + 1)) hz
      omega
    go_enter Try.func51, Try.ntmps51
    go_wp2
    go_ret
    exact ⟨rfl, rfl⟩
  · have e3 : n.tmod (m : Int) = (pick15 n m : Int) := by
      unfold pick15
      rw [if_neg h0, Int.tmod_eq_emod_of_nonneg (by omega)]
      have := Int.emod_nonneg n hz
      omega
    go_enter Try.func51, Try.ntmps51
    go_wp2
    go_ret
    exact ⟨rfl, rfl⟩
end Go.Proofs.Ytohdmmfmjadipaa

/-
  The contract of quaysideref05.Of.
-/
namespace Go.Proofs.Ytohdmmfmjadipaa
open Go.RowKit
set_option linter.unusedVariables false

/-- What stands at the entry: both cells, and the result. -/
def OfIn (w : World) (gt gr : Nat) (fu : Bool) (fv : ByteArray) (tu : Bool) (tv : ByteArray) (x : World) : Prop :=
  RowAt x w.heap.size 63 (ceA fu fv) ∧ RowAt x gt 63 (ceA tu tv) ∧ RowAt x gr 26 (chA Ch.zero) ∧ Below w.heap.size w x ∧ w.heap.size < gt ∧ gt < gr
theorem OfIn.later {w x y : World} {gt gr : Nat} {fu tu : Bool} {fv tv : ByteArray} (h : OfIn w gt gr fu fv tu tv x) (hb : Below x.heap.size x y) : OfIn w gt gr fu fv tu tv y :=
  ⟨h.1.later hb, h.2.1.later hb, h.2.2.1.later hb, h.2.2.2.1.trans (hb.mono (Nat.le_of_lt h.1.lt)), h.2.2.2.2⟩
theorem of_in (w : World) (fu : Bool) (fv : ByteArray) (tu : Bool) (tv : ByteArray) : OfIn w (w.heap.size + 1) (w.heap.size + 1 + 1) fu fv tu tv (((w.alloc (.cells (ceA fu fv) 63)).alloc (.cells (ceA tu tv) 63)).alloc (.cells (chA Ch.zero) 26)) := by
  have e1 : (w.alloc (.cells (ceA fu fv) 63)).heap.size = w.heap.size + 1 := by simp
  have e2 : ((w.alloc (.cells (ceA fu fv) 63)).alloc (.cells (ceA tu tv) 63)).heap.size = w.heap.size + 1 + 1 := by simp
  have b1 := (Below.refl w.heap.size w).alloc (Nat.le_refl _) (.cells (ceA fu fv) 63)
  have b2 := (Below.refl _ (w.alloc (.cells (ceA fu fv) 63))).alloc (Nat.le_refl _) (.cells (ceA tu tv) 63)
  have b3 := (Below.refl _ ((w.alloc (.cells (ceA fu fv) 63)).alloc (.cells (ceA tu tv) 63))).alloc (Nat.le_refl _) (.cells (chA Ch.zero) 26)
  have r0 : RowAt (w.alloc (.cells (ceA fu fv) 63)) w.heap.size 63 (ceA fu fv) := RowAt.new _ _ _
  have r1 : RowAt ((w.alloc (.cells (ceA fu fv) 63)).alloc (.cells (ceA tu tv) 63)) (w.heap.size + 1) 63 (ceA tu tv) := by
    have h := RowAt.new (w.alloc (.cells (ceA fu fv) 63)) 63 (ceA tu tv)
    rw [e1] at h
    exact h
  have r2 : RowAt (((w.alloc (.cells (ceA fu fv) 63)).alloc (.cells (ceA tu tv) 63)).alloc (.cells (chA Ch.zero) 26)) (w.heap.size + 1 + 1) 26 (chA Ch.zero) := by
    have h := RowAt.new ((w.alloc (.cells (ceA fu fv) 63)).alloc (.cells (ceA tu tv) 63)) 26 (chA Ch.zero)
    rw [e2] at h
    exact h
  exact ⟨(r0.later b2).later b3, r1.later b3, r2, b1.trans ((b2.mono b1.size).trans (b3.mono (by omega))), by omega, by omega⟩

theorem of_mid {w x : World} {gt gr : Nat} {fu tu : Bool} {fv tv : ByteArray} (h : OfIn w gt gr fu fv tu tv x) (d : Ch) : OfIn w gt gr fu fv tu tv (x.alloc (.cells (chA d) 26)) ∧ RowAt (x.alloc (.cells (chA d) 26)) x.heap.size 26 (chA d) ∧ gr < x.heap.size :=
  ⟨h.later ((Below.refl _ _).alloc (Nat.le_refl _) _), RowAt.new _ _ _, h.2.2.1.lt⟩

set_option maxRecDepth 4000 in
set_option maxHeartbeats 1600000 in
theorem rof_tty (pg sl : Int) (fv tv : ByteArray) (w : World) (hr : (Ch.mk 2 pg sl fv tv).right) :
    Calls Try.prog 67 #[.int .i64 pg, .int .i64 sl, .agg (ceA true fv), .agg (ceA true tv)] w fun e w' => e = .returned (.tuple #[.agg (chA ⟨2, pg, sl, fv, tv⟩), .int .i64 0]) ∧ Below w.heap.size w w' := by
  have H0 := hide (of_in w true fv true tv)
  have R := fun w => rcright_any ⟨2, pg, sl, fv, tv⟩ w
  rw [decide_eq_true hr] at R
  have HR := hide R
  clear R hr
  go_enter Try.func67, Try.ntmps67
  obtain ⟨gt, h1⟩ : ∃ g, g = w.heap.size + 1 := ⟨_, rfl⟩
  obtain ⟨gr, h2⟩ : ∃ g, g = w.heap.size + 1 + 1 := ⟨_, rfl⟩
  obtain ⟨gd, h3⟩ : ∃ g, g = w.heap.size + 1 + 1 + 1 := ⟨_, rfl⟩
  rw [← h2, ← h1] at H0
  have a1 := H0.out.1.cell 0 (.bool true) rfl
  have a2 := H0.out.1.cell 1 (.string fv) rfl
  have a3 := H0.out.2.1.cell 0 (.bool true) rfl
  have a4 := H0.out.2.1.cell 1 (.string tv) rfl
  rw [h1] at a3 a4
  have ez : chA Ch.zero = #[.int .i64 0, .int .i64 0, .int .i64 0, .string ⟨#[]⟩, .string ⟨#[]⟩] := rfl
  rw [ez] at a1 a2 a3 a4
  have HX := hide (of_mid H0.out ⟨2, pg, sl, fv, tv⟩)
  have es : (((w.alloc (.cells (ceA true fv) 63)).alloc (.cells (ceA true tv) 63)).alloc (.cells (chA Ch.zero) 26)).heap.size = gd := by simp [h3]
  rw [es] at HX
  clear ez es
  go_wp2_with fail
  rw [← h3, ← h2, ← h1]
  refine gen_calls (fun x => Hid (OfIn w gt gr true fv true tv x ∧ RowAt x gd 26 (chA ⟨2, pg, sl, fv, tv⟩) ∧ gr < gd)) HX ?_
  clear HX H0 h1 h2 h3 a1 a2 a3 a4
  intro w1 H1
  refine (HR.out _).mono ?_
  rintro e w2 ⟨rfl, hb2⟩
  have H2 : Hid (OfIn w gt gr true fv true tv w2 ∧ RowAt w2 gd 26 (chA ⟨2, pg, sl, fv, tv⟩) ∧ gr < gd) := ⟨H1.out.1.later hb2, H1.out.2.1.later hb2, H1.out.2.2⟩
  have a1 := H2.out.1.1.cell 0 (.bool true) rfl
  have a3 := H2.out.1.2.1.cell 0 (.bool true) rfl
  clear H1 hb2 HR
  go_wp2_with (first | (refine wpList_load_at rfl 26 _ rfl gd rfl (chA ⟨2, pg, sl, fv, tv⟩) H2.out.2.1 _ Try.underlying26 rfl infoCh ?_) | (refine wpList_store_at rfl 26 _ _ rfl gr (chA Ch.zero) (chA ⟨2, pg, sl, fv, tv⟩) rfl rfl H2.out.1.2.2.1 infoCh rfl (chA_one _) ?_))
  intro w7 hR hk _
  have HR7 := hide hR
  have d7 := hk _ _ H2.out.1.2.2.2.1 (by have := H2.out.1.2.2.2.2; omega)
  clear hR hk H2
  go_wp2
  exact bodyPost_ret (res_at rfl _ _ gr _ _ rfl HR7.out Try.underlying26 rfl infoCh) rfl ⟨rfl, d7⟩

set_option maxRecDepth 4000 in
set_option maxHeartbeats 1600000 in
theorem rof_ttn (pg sl : Int) (fv tv : ByteArray) (w : World) (hr : ¬ (Ch.mk 2 pg sl fv tv).right) :
    Calls Try.prog 67 #[.int .i64 pg, .int .i64 sl, .agg (ceA true fv), .agg (ceA true tv)] w fun e w' => e = .returned (.tuple #[.agg (chA Ch.zero), .int .i64 1]) ∧ Below w.heap.size w w' := by
  have H0 := hide (of_in w true fv true tv)
  have R := fun w => rcright_any ⟨2, pg, sl, fv, tv⟩ w
  rw [decide_eq_false hr] at R
  have HR := hide R
  clear R hr
  go_enter Try.func67, Try.ntmps67
  obtain ⟨gt, h1⟩ : ∃ g, g = w.heap.size + 1 := ⟨_, rfl⟩
  obtain ⟨gr, h2⟩ : ∃ g, g = w.heap.size + 1 + 1 := ⟨_, rfl⟩
  obtain ⟨gd, h3⟩ : ∃ g, g = w.heap.size + 1 + 1 + 1 := ⟨_, rfl⟩
  rw [← h2, ← h1] at H0
  have a1 := H0.out.1.cell 0 (.bool true) rfl
  have a2 := H0.out.1.cell 1 (.string fv) rfl
  have a3 := H0.out.2.1.cell 0 (.bool true) rfl
  have a4 := H0.out.2.1.cell 1 (.string tv) rfl
  rw [h1] at a3 a4
  have ez : chA Ch.zero = #[.int .i64 0, .int .i64 0, .int .i64 0, .string ⟨#[]⟩, .string ⟨#[]⟩] := rfl
  rw [ez] at a1 a2 a3 a4
  have HX := hide (of_mid H0.out ⟨2, pg, sl, fv, tv⟩)
  have es : (((w.alloc (.cells (ceA true fv) 63)).alloc (.cells (ceA true tv) 63)).alloc (.cells (chA Ch.zero) 26)).heap.size = gd := by simp [h3]
  rw [es] at HX
  clear ez es
  go_wp2_with fail
  rw [← h3, ← h2, ← h1]
  refine gen_calls (fun x => Hid (OfIn w gt gr true fv true tv x ∧ RowAt x gd 26 (chA ⟨2, pg, sl, fv, tv⟩) ∧ gr < gd)) HX ?_
  clear HX H0 h1 h2 h3 a1 a2 a3 a4
  intro w1 H1
  refine (HR.out _).mono ?_
  rintro e w2 ⟨rfl, hb2⟩
  have H2 : Hid (OfIn w gt gr true fv true tv w2 ∧ RowAt w2 gd 26 (chA ⟨2, pg, sl, fv, tv⟩) ∧ gr < gd) := ⟨H1.out.1.later hb2, H1.out.2.1.later hb2, H1.out.2.2⟩
  have a1 := H2.out.1.1.cell 0 (.bool true) rfl
  have a3 := H2.out.1.2.1.cell 0 (.bool true) rfl
  clear H1 hb2 HR
  go_wp2_with (refine wpList_store_at rfl 26 _ _ rfl gr (chA Ch.zero) (chA Ch.zero) rfl rfl H2.out.1.2.2.1 infoCh rfl (chA_one _) ?_)
  intro w7 hR hk _
  have HR7 := hide hR
  have d7 := hk _ _ H2.out.1.2.2.2.1 (by have := H2.out.1.2.2.2.2; omega)
  clear hR hk H2
  go_wp2
  exact bodyPost_ret (res_at rfl _ _ gr _ _ rfl HR7.out Try.underlying26 rfl infoCh) rfl ⟨rfl, d7⟩

set_option maxRecDepth 4000 in
set_option maxHeartbeats 1600000 in
theorem rof_tfy (pg sl : Int) (fv tv : ByteArray) (w : World) (e2 : tv.toList.isEmpty = true) (hr : (Ch.mk 3 pg sl fv tv).right) :
    Calls Try.prog 67 #[.int .i64 pg, .int .i64 sl, .agg (ceA true fv), .agg (ceA false tv)] w fun e w' => e = .returned (.tuple #[.agg (chA ⟨3, pg, sl, fv, tv⟩), .int .i64 0]) ∧ Below w.heap.size w w' := by
  have H0 := hide (of_in w true fv false tv)
  have R := fun w => rcright_any ⟨3, pg, sl, fv, tv⟩ w
  rw [decide_eq_true hr] at R
  have HR := hide R
  clear R hr
  go_enter Try.func67, Try.ntmps67
  obtain ⟨gt, h1⟩ : ∃ g, g = w.heap.size + 1 := ⟨_, rfl⟩
  obtain ⟨gr, h2⟩ : ∃ g, g = w.heap.size + 1 + 1 := ⟨_, rfl⟩
  obtain ⟨gd, h3⟩ : ∃ g, g = w.heap.size + 1 + 1 + 1 := ⟨_, rfl⟩
  rw [← h2, ← h1] at H0
  have a1 := H0.out.1.cell 0 (.bool true) rfl
  have a2 := H0.out.1.cell 1 (.string fv) rfl
  have a3 := H0.out.2.1.cell 0 (.bool false) rfl
  have a4 := H0.out.2.1.cell 1 (.string tv) rfl
  rw [h1] at a3 a4
  have ez : chA Ch.zero = #[.int .i64 0, .int .i64 0, .int .i64 0, .string ⟨#[]⟩, .string ⟨#[]⟩] := rfl
  rw [ez] at a1 a2 a3 a4
  have HX := hide (of_mid H0.out ⟨3, pg, sl, fv, tv⟩)
  have es : (((w.alloc (.cells (ceA true fv) 63)).alloc (.cells (ceA false tv) 63)).alloc (.cells (chA Ch.zero) 26)).heap.size = gd := by simp [h3]
  rw [es] at HX
  clear ez es
  go_wp2_with fail
  rw [← h3, ← h2, ← h1]
  refine gen_calls (fun x => Hid (OfIn w gt gr true fv false tv x ∧ RowAt x gd 26 (chA ⟨3, pg, sl, fv, tv⟩) ∧ gr < gd)) HX ?_
  clear HX H0 h1 h2 h3 a1 a2 a3 a4
  intro w1 H1
  refine (HR.out _).mono ?_
  rintro e w2 ⟨rfl, hb2⟩
  have H2 : Hid (OfIn w gt gr true fv false tv w2 ∧ RowAt w2 gd 26 (chA ⟨3, pg, sl, fv, tv⟩) ∧ gr < gd) := ⟨H1.out.1.later hb2, H1.out.2.1.later hb2, H1.out.2.2⟩
  have a1 := H2.out.1.1.cell 0 (.bool true) rfl
  have a3 := H2.out.1.2.1.cell 0 (.bool false) rfl
  clear H1 hb2 HR
  go_wp2_with (first | (refine wpList_load_at rfl 26 _ rfl gd rfl (chA ⟨3, pg, sl, fv, tv⟩) H2.out.2.1 _ Try.underlying26 rfl infoCh ?_) | (refine wpList_store_at rfl 26 _ _ rfl gr (chA Ch.zero) (chA ⟨3, pg, sl, fv, tv⟩) rfl rfl H2.out.1.2.2.1 infoCh rfl (chA_one _) ?_))
  intro w7 hR hk _
  have HR7 := hide hR
  have d7 := hk _ _ H2.out.1.2.2.2.1 (by have := H2.out.1.2.2.2.2; omega)
  clear hR hk H2
  go_wp2
  exact bodyPost_ret (res_at rfl _ _ gr _ _ rfl HR7.out Try.underlying26 rfl infoCh) rfl ⟨rfl, d7⟩

set_option maxRecDepth 4000 in
set_option maxHeartbeats 1600000 in
theorem rof_tfn (pg sl : Int) (fv tv : ByteArray) (w : World) (e2 : tv.toList.isEmpty = true) (hr : ¬ (Ch.mk 3 pg sl fv tv).right) :
    Calls Try.prog 67 #[.int .i64 pg, .int .i64 sl, .agg (ceA true fv), .agg (ceA false tv)] w fun e w' => e = .returned (.tuple #[.agg (chA Ch.zero), .int .i64 1]) ∧ Below w.heap.size w w' := by
  have H0 := hide (of_in w true fv false tv)
  have R := fun w => rcright_any ⟨3, pg, sl, fv, tv⟩ w
  rw [decide_eq_false hr] at R
  have HR := hide R
  clear R hr
  go_enter Try.func67, Try.ntmps67
  obtain ⟨gt, h1⟩ : ∃ g, g = w.heap.size + 1 := ⟨_, rfl⟩
  obtain ⟨gr, h2⟩ : ∃ g, g = w.heap.size + 1 + 1 := ⟨_, rfl⟩
  obtain ⟨gd, h3⟩ : ∃ g, g = w.heap.size + 1 + 1 + 1 := ⟨_, rfl⟩
  rw [← h2, ← h1] at H0
  have a1 := H0.out.1.cell 0 (.bool true) rfl
  have a2 := H0.out.1.cell 1 (.string fv) rfl
  have a3 := H0.out.2.1.cell 0 (.bool false) rfl
  have a4 := H0.out.2.1.cell 1 (.string tv) rfl
  rw [h1] at a3 a4
  have ez : chA Ch.zero = #[.int .i64 0, .int .i64 0, .int .i64 0, .string ⟨#[]⟩, .string ⟨#[]⟩] := rfl
  rw [ez] at a1 a2 a3 a4
  have HX := hide (of_mid H0.out ⟨3, pg, sl, fv, tv⟩)
  have es : (((w.alloc (.cells (ceA true fv) 63)).alloc (.cells (ceA false tv) 63)).alloc (.cells (chA Ch.zero) 26)).heap.size = gd := by simp [h3]
  rw [es] at HX
  clear ez es
  go_wp2_with fail
  rw [← h3, ← h2, ← h1]
  refine gen_calls (fun x => Hid (OfIn w gt gr true fv false tv x ∧ RowAt x gd 26 (chA ⟨3, pg, sl, fv, tv⟩) ∧ gr < gd)) HX ?_
  clear HX H0 h1 h2 h3 a1 a2 a3 a4
  intro w1 H1
  refine (HR.out _).mono ?_
  rintro e w2 ⟨rfl, hb2⟩
  have H2 : Hid (OfIn w gt gr true fv false tv w2 ∧ RowAt w2 gd 26 (chA ⟨3, pg, sl, fv, tv⟩) ∧ gr < gd) := ⟨H1.out.1.later hb2, H1.out.2.1.later hb2, H1.out.2.2⟩
  have a1 := H2.out.1.1.cell 0 (.bool true) rfl
  have a3 := H2.out.1.2.1.cell 0 (.bool false) rfl
  clear H1 hb2 HR
  go_wp2_with (refine wpList_store_at rfl 26 _ _ rfl gr (chA Ch.zero) (chA Ch.zero) rfl rfl H2.out.1.2.2.1 infoCh rfl (chA_one _) ?_)
  intro w7 hR hk _
  have HR7 := hide hR
  have d7 := hk _ _ H2.out.1.2.2.2.1 (by have := H2.out.1.2.2.2.2; omega)
  clear hR hk H2
  go_wp2
  exact bodyPost_ret (res_at rfl _ _ gr _ _ rfl HR7.out Try.underlying26 rfl infoCh) rfl ⟨rfl, d7⟩

set_option maxRecDepth 4000 in
set_option maxHeartbeats 1600000 in
theorem rof_fty (pg sl : Int) (fv tv : ByteArray) (w : World) (e1 : fv.toList.isEmpty = true) (hr : (Ch.mk 1 pg sl fv tv).right) :
    Calls Try.prog 67 #[.int .i64 pg, .int .i64 sl, .agg (ceA false fv), .agg (ceA true tv)] w fun e w' => e = .returned (.tuple #[.agg (chA ⟨1, pg, sl, fv, tv⟩), .int .i64 0]) ∧ Below w.heap.size w w' := by
  have H0 := hide (of_in w false fv true tv)
  have R := fun w => rcright_any ⟨1, pg, sl, fv, tv⟩ w
  rw [decide_eq_true hr] at R
  have HR := hide R
  clear R hr
  go_enter Try.func67, Try.ntmps67
  obtain ⟨gt, h1⟩ : ∃ g, g = w.heap.size + 1 := ⟨_, rfl⟩
  obtain ⟨gr, h2⟩ : ∃ g, g = w.heap.size + 1 + 1 := ⟨_, rfl⟩
  obtain ⟨gd, h3⟩ : ∃ g, g = w.heap.size + 1 + 1 + 1 := ⟨_, rfl⟩
  rw [← h2, ← h1] at H0
  have a1 := H0.out.1.cell 0 (.bool false) rfl
  have a2 := H0.out.1.cell 1 (.string fv) rfl
  have a3 := H0.out.2.1.cell 0 (.bool true) rfl
  have a4 := H0.out.2.1.cell 1 (.string tv) rfl
  rw [h1] at a3 a4
  have ez : chA Ch.zero = #[.int .i64 0, .int .i64 0, .int .i64 0, .string ⟨#[]⟩, .string ⟨#[]⟩] := rfl
  rw [ez] at a1 a2 a3 a4
  have HX := hide (of_mid H0.out ⟨1, pg, sl, fv, tv⟩)
  have es : (((w.alloc (.cells (ceA false fv) 63)).alloc (.cells (ceA true tv) 63)).alloc (.cells (chA Ch.zero) 26)).heap.size = gd := by simp [h3]
  rw [es] at HX
  clear ez es
  go_wp2_with fail
  rw [← h3, ← h2, ← h1]
  refine gen_calls (fun x => Hid (OfIn w gt gr false fv true tv x ∧ RowAt x gd 26 (chA ⟨1, pg, sl, fv, tv⟩) ∧ gr < gd)) HX ?_
  clear HX H0 h1 h2 h3 a1 a2 a3 a4
  intro w1 H1
  refine (HR.out _).mono ?_
  rintro e w2 ⟨rfl, hb2⟩
  have H2 : Hid (OfIn w gt gr false fv true tv w2 ∧ RowAt w2 gd 26 (chA ⟨1, pg, sl, fv, tv⟩) ∧ gr < gd) := ⟨H1.out.1.later hb2, H1.out.2.1.later hb2, H1.out.2.2⟩
  have a1 := H2.out.1.1.cell 0 (.bool false) rfl
  have a3 := H2.out.1.2.1.cell 0 (.bool true) rfl
  clear H1 hb2 HR
  go_wp2_with (first | (refine wpList_load_at rfl 26 _ rfl gd rfl (chA ⟨1, pg, sl, fv, tv⟩) H2.out.2.1 _ Try.underlying26 rfl infoCh ?_) | (refine wpList_store_at rfl 26 _ _ rfl gr (chA Ch.zero) (chA ⟨1, pg, sl, fv, tv⟩) rfl rfl H2.out.1.2.2.1 infoCh rfl (chA_one _) ?_))
  intro w7 hR hk _
  have HR7 := hide hR
  have d7 := hk _ _ H2.out.1.2.2.2.1 (by have := H2.out.1.2.2.2.2; omega)
  clear hR hk H2
  go_wp2
  exact bodyPost_ret (res_at rfl _ _ gr _ _ rfl HR7.out Try.underlying26 rfl infoCh) rfl ⟨rfl, d7⟩

set_option maxRecDepth 4000 in
set_option maxHeartbeats 1600000 in
theorem rof_ftn (pg sl : Int) (fv tv : ByteArray) (w : World) (e1 : fv.toList.isEmpty = true) (hr : ¬ (Ch.mk 1 pg sl fv tv).right) :
    Calls Try.prog 67 #[.int .i64 pg, .int .i64 sl, .agg (ceA false fv), .agg (ceA true tv)] w fun e w' => e = .returned (.tuple #[.agg (chA Ch.zero), .int .i64 1]) ∧ Below w.heap.size w w' := by
  have H0 := hide (of_in w false fv true tv)
  have R := fun w => rcright_any ⟨1, pg, sl, fv, tv⟩ w
  rw [decide_eq_false hr] at R
  have HR := hide R
  clear R hr
  go_enter Try.func67, Try.ntmps67
  obtain ⟨gt, h1⟩ : ∃ g, g = w.heap.size + 1 := ⟨_, rfl⟩
  obtain ⟨gr, h2⟩ : ∃ g, g = w.heap.size + 1 + 1 := ⟨_, rfl⟩
  obtain ⟨gd, h3⟩ : ∃ g, g = w.heap.size + 1 + 1 + 1 := ⟨_, rfl⟩
  rw [← h2, ← h1] at H0
  have a1 := H0.out.1.cell 0 (.bool false) rfl
  have a2 := H0.out.1.cell 1 (.string fv) rfl
  have a3 := H0.out.2.1.cell 0 (.bool true) rfl
  have a4 := H0.out.2.1.cell 1 (.string tv) rfl
  rw [h1] at a3 a4
  have ez : chA Ch.zero = #[.int .i64 0, .int .i64 0, .int .i64 0, .string ⟨#[]⟩, .string ⟨#[]⟩] := rfl
  rw [ez] at a1 a2 a3 a4
  have HX := hide (of_mid H0.out ⟨1, pg, sl, fv, tv⟩)
  have es : (((w.alloc (.cells (ceA false fv) 63)).alloc (.cells (ceA true tv) 63)).alloc (.cells (chA Ch.zero) 26)).heap.size = gd := by simp [h3]
  rw [es] at HX
  clear ez es
  go_wp2_with fail
  rw [← h3, ← h2, ← h1]
  refine gen_calls (fun x => Hid (OfIn w gt gr false fv true tv x ∧ RowAt x gd 26 (chA ⟨1, pg, sl, fv, tv⟩) ∧ gr < gd)) HX ?_
  clear HX H0 h1 h2 h3 a1 a2 a3 a4
  intro w1 H1
  refine (HR.out _).mono ?_
  rintro e w2 ⟨rfl, hb2⟩
  have H2 : Hid (OfIn w gt gr false fv true tv w2 ∧ RowAt w2 gd 26 (chA ⟨1, pg, sl, fv, tv⟩) ∧ gr < gd) := ⟨H1.out.1.later hb2, H1.out.2.1.later hb2, H1.out.2.2⟩
  have a1 := H2.out.1.1.cell 0 (.bool false) rfl
  have a3 := H2.out.1.2.1.cell 0 (.bool true) rfl
  clear H1 hb2 HR
  go_wp2_with (refine wpList_store_at rfl 26 _ _ rfl gr (chA Ch.zero) (chA Ch.zero) rfl rfl H2.out.1.2.2.1 infoCh rfl (chA_one _) ?_)
  intro w7 hR hk _
  have HR7 := hide hR
  have d7 := hk _ _ H2.out.1.2.2.2.1 (by have := H2.out.1.2.2.2.2; omega)
  clear hR hk H2
  go_wp2
  exact bodyPost_ret (res_at rfl _ _ gr _ _ rfl HR7.out Try.underlying26 rfl infoCh) rfl ⟨rfl, d7⟩

set_option maxRecDepth 4000 in
set_option maxHeartbeats 1600000 in
theorem rof_ffy (pg sl : Int) (fv tv : ByteArray) (w : World) (e1 : fv.toList.isEmpty = true) (e2 : tv.toList.isEmpty = true) (hr : (Ch.mk 3 pg sl fv tv).right) :
    Calls Try.prog 67 #[.int .i64 pg, .int .i64 sl, .agg (ceA false fv), .agg (ceA false tv)] w fun e w' => e = .returned (.tuple #[.agg (chA Ch.zero), .int .i64 5]) ∧ Below w.heap.size w w' := by
  have H0 := hide (of_in w false fv false tv)
  have R := fun w => rcright_any ⟨3, pg, sl, fv, tv⟩ w
  rw [decide_eq_true hr] at R
  have HR := hide R
  clear R hr
  go_enter Try.func67, Try.ntmps67
  obtain ⟨gt, h1⟩ : ∃ g, g = w.heap.size + 1 := ⟨_, rfl⟩
  obtain ⟨gr, h2⟩ : ∃ g, g = w.heap.size + 1 + 1 := ⟨_, rfl⟩
  obtain ⟨gd, h3⟩ : ∃ g, g = w.heap.size + 1 + 1 + 1 := ⟨_, rfl⟩
  rw [← h2, ← h1] at H0
  have a1 := H0.out.1.cell 0 (.bool false) rfl
  have a2 := H0.out.1.cell 1 (.string fv) rfl
  have a3 := H0.out.2.1.cell 0 (.bool false) rfl
  have a4 := H0.out.2.1.cell 1 (.string tv) rfl
  rw [h1] at a3 a4
  have ez : chA Ch.zero = #[.int .i64 0, .int .i64 0, .int .i64 0, .string ⟨#[]⟩, .string ⟨#[]⟩] := rfl
  rw [ez] at a1 a2 a3 a4
  have HX := hide (of_mid H0.out ⟨3, pg, sl, fv, tv⟩)
  have es : (((w.alloc (.cells (ceA false fv) 63)).alloc (.cells (ceA false tv) 63)).alloc (.cells (chA Ch.zero) 26)).heap.size = gd := by simp [h3]
  rw [es] at HX
  clear ez es
  go_wp2_with fail
  rw [← h3, ← h2, ← h1]
  refine gen_calls (fun x => Hid (OfIn w gt gr false fv false tv x ∧ RowAt x gd 26 (chA ⟨3, pg, sl, fv, tv⟩) ∧ gr < gd)) HX ?_
  clear HX H0 h1 h2 h3 a1 a2 a3 a4
  intro w1 H1
  refine (HR.out _).mono ?_
  rintro e w2 ⟨rfl, hb2⟩
  have H2 : Hid (OfIn w gt gr false fv false tv w2 ∧ RowAt w2 gd 26 (chA ⟨3, pg, sl, fv, tv⟩) ∧ gr < gd) := ⟨H1.out.1.later hb2, H1.out.2.1.later hb2, H1.out.2.2⟩
  have a1 := H2.out.1.1.cell 0 (.bool false) rfl
  have a3 := H2.out.1.2.1.cell 0 (.bool false) rfl
  clear H1 hb2 HR
  go_wp2_with (refine wpList_store_at rfl 26 _ _ rfl gr (chA Ch.zero) (chA Ch.zero) rfl rfl H2.out.1.2.2.1 infoCh rfl (chA_one _) ?_)
  intro w7 hR hk _
  have HR7 := hide hR
  have d7 := hk _ _ H2.out.1.2.2.2.1 (by have := H2.out.1.2.2.2.2; omega)
  clear hR hk H2
  go_wp2
  exact bodyPost_ret (res_at rfl _ _ gr _ _ rfl HR7.out Try.underlying26 rfl infoCh) rfl ⟨rfl, d7⟩

set_option maxRecDepth 4000 in
set_option maxHeartbeats 1600000 in
theorem rof_ffn (pg sl : Int) (fv tv : ByteArray) (w : World) (e1 : fv.toList.isEmpty = true) (e2 : tv.toList.isEmpty = true) (hr : ¬ (Ch.mk 3 pg sl fv tv).right) :
    Calls Try.prog 67 #[.int .i64 pg, .int .i64 sl, .agg (ceA false fv), .agg (ceA false tv)] w fun e w' => e = .returned (.tuple #[.agg (chA Ch.zero), .int .i64 1]) ∧ Below w.heap.size w w' := by
  have H0 := hide (of_in w false fv false tv)
  have R := fun w => rcright_any ⟨3, pg, sl, fv, tv⟩ w
  rw [decide_eq_false hr] at R
  have HR := hide R
  clear R hr
  go_enter Try.func67, Try.ntmps67
  obtain ⟨gt, h1⟩ : ∃ g, g = w.heap.size + 1 := ⟨_, rfl⟩
  obtain ⟨gr, h2⟩ : ∃ g, g = w.heap.size + 1 + 1 := ⟨_, rfl⟩
  obtain ⟨gd, h3⟩ : ∃ g, g = w.heap.size + 1 + 1 + 1 := ⟨_, rfl⟩
  rw [← h2, ← h1] at H0
  have a1 := H0.out.1.cell 0 (.bool false) rfl
  have a2 := H0.out.1.cell 1 (.string fv) rfl
  have a3 := H0.out.2.1.cell 0 (.bool false) rfl
  have a4 := H0.out.2.1.cell 1 (.string tv) rfl
  rw [h1] at a3 a4
  have ez : chA Ch.zero = #[.int .i64 0, .int .i64 0, .int .i64 0, .string ⟨#[]⟩, .string ⟨#[]⟩] := rfl
  rw [ez] at a1 a2 a3 a4
  have HX := hide (of_mid H0.out ⟨3, pg, sl, fv, tv⟩)
  have es : (((w.alloc (.cells (ceA false fv) 63)).alloc (.cells (ceA false tv) 63)).alloc (.cells (chA Ch.zero) 26)).heap.size = gd := by simp [h3]
  rw [es] at HX
  clear ez es
  go_wp2_with fail
  rw [← h3, ← h2, ← h1]
  refine gen_calls (fun x => Hid (OfIn w gt gr false fv false tv x ∧ RowAt x gd 26 (chA ⟨3, pg, sl, fv, tv⟩) ∧ gr < gd)) HX ?_
  clear HX H0 h1 h2 h3 a1 a2 a3 a4
  intro w1 H1
  refine (HR.out _).mono ?_
  rintro e w2 ⟨rfl, hb2⟩
  have H2 : Hid (OfIn w gt gr false fv false tv w2 ∧ RowAt w2 gd 26 (chA ⟨3, pg, sl, fv, tv⟩) ∧ gr < gd) := ⟨H1.out.1.later hb2, H1.out.2.1.later hb2, H1.out.2.2⟩
  have a1 := H2.out.1.1.cell 0 (.bool false) rfl
  have a3 := H2.out.1.2.1.cell 0 (.bool false) rfl
  clear H1 hb2 HR
  go_wp2_with (refine wpList_store_at rfl 26 _ _ rfl gr (chA Ch.zero) (chA Ch.zero) rfl rfl H2.out.1.2.2.1 infoCh rfl (chA_one _) ?_)
  intro w7 hR hk _
  have HR7 := hide hR
  have d7 := hk _ _ H2.out.1.2.2.2.1 (by have := H2.out.1.2.2.2.2; omega)
  clear hR hk H2
  go_wp2
  exact bodyPost_ret (res_at rfl _ _ gr _ _ rfl HR7.out Try.underlying26 rfl infoCh) rfl ⟨rfl, d7⟩

end Go.Proofs.Ytohdmmfmjadipaa

/-
  The contract of quaysideref05.Of, whole.
-/
namespace Go.Proofs.Ytohdmmfmjadipaa
open Go.RowKit
set_option linter.unusedVariables false

set_option maxRecDepth 4000 in
set_option maxHeartbeats 1600000 in
theorem rof_bad1 (pg sl : Int) (fv tv : ByteArray) (w : World) (tu : Bool) (e1 : fv.toList.isEmpty = false) :
    Calls Try.prog 67 #[.int .i64 pg, .int .i64 sl, .agg (ceA false fv), .agg (ceA tu tv)] w fun e w' => e = .returned (.tuple #[.agg (chA Ch.zero), .int .i64 1]) ∧ Below w.heap.size w w' := by
  have H0 := hide (of_in w false fv tu tv)
  go_enter Try.func67, Try.ntmps67
  obtain ⟨gt, h1⟩ : ∃ g, g = w.heap.size + 1 := ⟨_, rfl⟩
  obtain ⟨gr, h2⟩ : ∃ g, g = w.heap.size + 1 + 1 := ⟨_, rfl⟩
  obtain ⟨gd, h3⟩ : ∃ g, g = w.heap.size + 1 + 1 + 1 := ⟨_, rfl⟩
  rw [← h2, ← h1] at H0
  have a1 := H0.out.1.cell 0 (.bool false) rfl
  have a2 := H0.out.1.cell 1 (.string fv) rfl
  have a3 := H0.out.2.1.cell 0 (.bool tu) rfl
  have a4 := H0.out.2.1.cell 1 (.string tv) rfl
  rw [h1] at a3 a4
  have ez : chA Ch.zero = #[.int .i64 0, .int .i64 0, .int .i64 0, .string ⟨#[]⟩, .string ⟨#[]⟩] := rfl
  rw [ez] at a1 a2 a3 a4
  have HX := hide (of_mid H0.out ⟨2, pg, sl, fv, tv⟩)
  have es : (((w.alloc (.cells (ceA false fv) 63)).alloc (.cells (ceA tu tv) 63)).alloc (.cells (chA Ch.zero) 26)).heap.size = gd := by simp [h3]
  rw [es] at HX
  clear ez es
  have K := HX.out.1.2.2.1
  rw [h2] at K
  have HK := hide (And.intro K HX.out.1.2.2.2.1)
  clear K HX H0 h1 h2 h3
  go_wp2
  exact bodyPost_ret (res_at rfl _ _ (w.heap.size + 1 + 1) (chA Ch.zero) _ rfl HK.out.1 Try.underlying26 rfl infoCh) rfl ⟨rfl, HK.out.2⟩

set_option maxRecDepth 4000 in
set_option maxHeartbeats 1600000 in
theorem rof_bad2 (pg sl : Int) (fv tv : ByteArray) (w : World) (e2 : tv.toList.isEmpty = false) :
    Calls Try.prog 67 #[.int .i64 pg, .int .i64 sl, .agg (ceA true fv), .agg (ceA false tv)] w fun e w' => e = .returned (.tuple #[.agg (chA Ch.zero), .int .i64 1]) ∧ Below w.heap.size w w' := by
  have H0 := hide (of_in w true fv false tv)
  go_enter Try.func67, Try.ntmps67
  obtain ⟨gt, h1⟩ : ∃ g, g = w.heap.size + 1 := ⟨_, rfl⟩
  obtain ⟨gr, h2⟩ : ∃ g, g = w.heap.size + 1 + 1 := ⟨_, rfl⟩
  obtain ⟨gd, h3⟩ : ∃ g, g = w.heap.size + 1 + 1 + 1 := ⟨_, rfl⟩
  rw [← h2, ← h1] at H0
  have a1 := H0.out.1.cell 0 (.bool true) rfl
  have a2 := H0.out.1.cell 1 (.string fv) rfl
  have a3 := H0.out.2.1.cell 0 (.bool false) rfl
  have a4 := H0.out.2.1.cell 1 (.string tv) rfl
  rw [h1] at a3 a4
  have ez : chA Ch.zero = #[.int .i64 0, .int .i64 0, .int .i64 0, .string ⟨#[]⟩, .string ⟨#[]⟩] := rfl
  rw [ez] at a1 a2 a3 a4
  have HX := hide (of_mid H0.out ⟨2, pg, sl, fv, tv⟩)
  have es : (((w.alloc (.cells (ceA true fv) 63)).alloc (.cells (ceA false tv) 63)).alloc (.cells (chA Ch.zero) 26)).heap.size = gd := by simp [h3]
  rw [es] at HX
  clear ez es
  have K := HX.out.1.2.2.1
  rw [h2] at K
  have HK := hide (And.intro K HX.out.1.2.2.2.1)
  clear K HX H0 h1 h2 h3
  go_wp2
  exact bodyPost_ret (res_at rfl _ _ (w.heap.size + 1 + 1) (chA Ch.zero) _ rfl HK.out.1 Try.underlying26 rfl infoCh) rfl ⟨rfl, HK.out.2⟩

set_option maxRecDepth 4000 in
set_option maxHeartbeats 1600000 in
theorem rof_bad3 (pg sl : Int) (fv tv : ByteArray) (w : World) (e1 : fv.toList.isEmpty = true) (e2 : tv.toList.isEmpty = false) :
    Calls Try.prog 67 #[.int .i64 pg, .int .i64 sl, .agg (ceA false fv), .agg (ceA false tv)] w fun e w' => e = .returned (.tuple #[.agg (chA Ch.zero), .int .i64 1]) ∧ Below w.heap.size w w' := by
  have H0 := hide (of_in w false fv false tv)
  go_enter Try.func67, Try.ntmps67
  obtain ⟨gt, h1⟩ : ∃ g, g = w.heap.size + 1 := ⟨_, rfl⟩
  obtain ⟨gr, h2⟩ : ∃ g, g = w.heap.size + 1 + 1 := ⟨_, rfl⟩
  obtain ⟨gd, h3⟩ : ∃ g, g = w.heap.size + 1 + 1 + 1 := ⟨_, rfl⟩
  rw [← h2, ← h1] at H0
  have a1 := H0.out.1.cell 0 (.bool false) rfl
  have a2 := H0.out.1.cell 1 (.string fv) rfl
  have a3 := H0.out.2.1.cell 0 (.bool false) rfl
  have a4 := H0.out.2.1.cell 1 (.string tv) rfl
  rw [h1] at a3 a4
  have ez : chA Ch.zero = #[.int .i64 0, .int .i64 0, .int .i64 0, .string ⟨#[]⟩, .string ⟨#[]⟩] := rfl
  rw [ez] at a1 a2 a3 a4
  have HX := hide (of_mid H0.out ⟨2, pg, sl, fv, tv⟩)
  have es : (((w.alloc (.cells (ceA false fv) 63)).alloc (.cells (ceA false tv) 63)).alloc (.cells (chA Ch.zero) 26)).heap.size = gd := by simp [h3]
  rw [es] at HX
  clear ez es
  have K := HX.out.1.2.2.1
  rw [h2] at K
  have HK := hide (And.intro K HX.out.1.2.2.2.1)
  clear K HX H0 h1 h2 h3
  go_wp2
  exact bodyPost_ret (res_at rfl _ _ (w.heap.size + 1 + 1) (chA Ch.zero) _ rfl HK.out.1 Try.underlying26 rfl infoCh) rfl ⟨rfl, HK.out.2⟩

/-- THE CONTRACT. -/
theorem rof_any (pg sl : Int) (fu : Bool) (fv : ByteArray) (tu : Bool) (tv : ByteArray) (w : World) :
    Calls Try.prog 67 #[.int .i64 pg, .int .i64 sl, .agg (ceA fu fv), .agg (ceA tu tv)] w fun e w' => e = .returned (.tuple #[.agg (chA (ofC pg sl fu fv tu tv)), .int .i64 (ofE pg sl fu fv tu tv)]) ∧ Below w.heap.size w w' := by
  have hno : ofE pg sl fu fv tu tv ≠ 0 → ofC pg sl fu fv tu tv = Ch.zero := fun h => by unfold ofC; rw [if_neg h]
  have hem : ∀ b : ByteArray, b.toList.isEmpty = false ↔ b.size ≠ 0 := fun b => by
    rw [← Bool.not_eq_true, empty_iff]
  by_cases h1 : fu = false ∧ fv.size ≠ 0
  · have e : ofE pg sl fu fv tu tv = 1 := by unfold ofE; rw [if_pos (.inl h1)]
    rw [hno (by rw [e]; decide), e]
    obtain ⟨rfl, hz⟩ := h1
    exact rof_bad1 pg sl fv tv w tu ((hem _).2 hz)
  by_cases h2 : tu = false ∧ tv.size ≠ 0
  · have e : ofE pg sl fu fv tu tv = 1 := by unfold ofE; rw [if_pos (.inr h2)]
    rw [hno (by rw [e]; decide), e]
    obtain ⟨rfl, hz⟩ := h2
    cases fu
    · exact rof_bad3 pg sl fv tv w ((empty_iff _).2 (Decidable.of_not_not fun h => h1 ⟨rfl, h⟩)) ((hem _).2 hz)
    · exact rof_bad2 pg sl fv tv w ((hem _).2 hz)
  have h12 : ¬ ((fu = false ∧ fv.size ≠ 0) ∨ (tu = false ∧ tv.size ≠ 0)) := fun h => h.elim h1 h2
  by_cases hr : (rawC pg sl fu fv tu tv).right
  · by_cases hb : fu = false ∧ tu = false
    · have e : ofE pg sl fu fv tu tv = 5 := by unfold ofE; rw [if_neg h12, if_neg (fun h => h hr), if_pos hb]
      rw [hno (by rw [e]; decide), e]
      obtain ⟨rfl, rfl⟩ := hb
      exact rof_ffy pg sl fv tv w ((empty_iff _).2 (Decidable.of_not_not fun h => h1 ⟨rfl, h⟩)) ((empty_iff _).2 (Decidable.of_not_not fun h => h2 ⟨rfl, h⟩)) hr
    · have e : ofE pg sl fu fv tu tv = 0 := by unfold ofE; rw [if_neg h12, if_neg (fun h => h hr), if_neg hb]
      have e2 : ofC pg sl fu fv tu tv = rawC pg sl fu fv tu tv := by unfold ofC; rw [if_pos e]
      rw [e, e2]
      cases fu <;> cases tu
      · exact absurd ⟨rfl, rfl⟩ hb
      · exact rof_fty pg sl fv tv w ((empty_iff _).2 (Decidable.of_not_not fun h => h1 ⟨rfl, h⟩)) hr
      · exact rof_tfy pg sl fv tv w ((empty_iff _).2 (Decidable.of_not_not fun h => h2 ⟨rfl, h⟩)) hr
      · exact rof_tty pg sl fv tv w hr
  · have e : ofE pg sl fu fv tu tv = 1 := by unfold ofE; rw [if_neg h12, if_pos hr]
    rw [hno (by rw [e]; decide), e]
    cases fu <;> cases tu
    · exact rof_ffn pg sl fv tv w ((empty_iff _).2 (Decidable.of_not_not fun h => h1 ⟨rfl, h⟩)) ((empty_iff _).2 (Decidable.of_not_not fun h => h2 ⟨rfl, h⟩)) hr
    · exact rof_ftn pg sl fv tv w ((empty_iff _).2 (Decidable.of_not_not fun h => h1 ⟨rfl, h⟩)) hr
    · exact rof_tfn pg sl fv tv w ((empty_iff _).2 (Decidable.of_not_not fun h => h2 ⟨rfl, h⟩)) hr
    · exact rof_ttn pg sl fv tv w hr
end Go.Proofs.Ytohdmmfmjadipaa
