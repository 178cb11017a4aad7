/-
  Texts that lean on one another, one behind the other: each opens with its own remark.
-/
import Derived.WalkMore
import Derived.Maps.AppendAt
import Derived.DeepKeys
import Derived.Laws.StructEq
import Derived.Test.YtohdmmfmjadipaaRows
import Derived.Test.YtohdmmfmjadipaaK09
import Derived.Test.YtohdmmfmjadipaaK00
import Derived.Test.YtohdmmfmjadipaaK06
import Derived.Test.YtohdmmfmjadipaaK08
import Derived.Test.YtohdmmfmjadipaaK04
import Derived.Test.YtohdmmfmjadipaaK07
import Derived.Test.YtohdmmfmjadipaaK03

namespace Go.Proofs.Ytohdmmfmjadipaa
open Go.RowKit
set_option linter.unusedVariables false
set_option maxRecDepth 8000
set_option maxHeartbeats 25600000
section
def WB (B : Nat) (w : World) (wa : Option Addr) (wc : Nat) (bs : List UInt8) : Prop := w.ownsRow B 5 1 (.slice wa bs.length wc) bs.length (toV bs)
theorem WB.kind {B : Nat} {w : World} {wa : Option Addr} {wc : Nat} {bs : List UInt8} (h : WB B w wa wc bs) : ∀ k, blk wa k -> B <= k /\ ∃ cs, Qb w k 5 cs := by
  rintro k ⟨off, rfl⟩
  rcases h.2 with ⟨e, _⟩ | ⟨g, c, cur, e, hb, hg, _⟩
  · cases e
  · injection e with e1; injection e1 with e1; injection e1 with e1; subst e1; exact ⟨hb, cur, hg⟩
theorem WB.keep {B : Nat} {w x : World} {wa : Option Addr} {wc : Nat} {bs : List UInt8} (h : WB B w wa wc bs) (hk : ∀ k, blk wa k -> x.heap[k]? = w.heap[k]?) : WB B x wa wc bs := by
  refine ⟨h.1, ?_⟩
  rcases h.2 with h4 | ⟨g, c, cur, e, hb, hg, hc⟩
  · exact .inl h4
  · refine .inr ⟨g, c, cur, e, hb, ?_, hc⟩; injection e with e1; rw [hk g ⟨0, e1⟩]; exact hg
theorem WB.nil (B : Nat) (w : World) : WB B w none 0 [] := World.ownsRow_nil _ _ _ _
def lvA (gc gt : Nat) (a : Option Addr) (cap : Nat) (wa : Option Addr) (wn wc : Nat) (g : Lg) : Array Value :=
  #[.pointer (some ⟨gc, 0, none⟩), .pointer (some ⟨gt, 0, none⟩), .slice a g.l.length cap, .int .i64 (g.fa : Int), .int .i64 (g.on : Int), .slice wa wn wc, .int .u64 (g.du : Int), .int .i64 (g.hd : Int)]
def FC (gl gc gt gb : Nat) (a wa : Option Addr) (k : Nat) : Prop := k = gl ∨ k = gc ∨ k = gt ∨ k = gb ∨ blk a k ∨ blk wa k
section
variable {B : Nat} {w x : World} {gl gc gt gb : Nat} {a : Option Addr} {cap : Nat} {ms : List Rm} {wa : Option Addr} {wc : Nat} {bs : List UInt8} {g : Lg}
theorem RB.kind {ms : List Rm} (h : RB B w a cap ms) : ∀ k, blk a k -> B <= k /\ ∃ cs, Qb w k 30 cs := by
  intro k ⟨off, e⟩
  rcases h.1 with ⟨h1, _⟩ | ⟨b, off', cs, h1, h2, h3, _⟩
  · rw [h1] at e; cases e
  · rw [h1] at e; injection e with e; injection e with e; subst e; exact ⟨h2, cs, h3⟩
structure LVapart (gl gc gt gb : Nat) (a wa : Option Addr) : Prop where
  lc : gl ≠ gc
  lt : gl ≠ gt
  lb : gl ≠ gb
  la : ¬ blk a gl
  lw : ¬ blk wa gl
  ct : gc ≠ gt
  cb : gc ≠ gb
  ca : ¬ blk a gc
  cw : ¬ blk wa gc
  ta : ¬ blk a gt
  tw : ¬ blk wa gt
  ba : ¬ blk a gb
  aw : ∀ k, blk a k -> ¬ blk wa k
theorem Turn.tn {gt gb : Nat} {w x : World} (p : Turn gt gb w x) : Tn (fun k => k = gt ∨ k = gb) w x := ⟨p.os, p.tape, p.output, p.size, fun k hk hn => p.block k hk (fun e => hn (.inl e)) (fun e => hn (.inr e))⟩
end
theorem RB.lsnAt {B : Nat} {w : World} {a : Option Addr} {cap : Nat} {ms : List Rm} (h : RB B w a cap ms) {i : Nat} (hi : i < ms.length) : ∃ b off, a = some ⟨b, off, none⟩ /\ w.cell? ⟨b, off + i * 14 + 1, none⟩ = some (.int .u64 ((ms.getD i rcZ).1.l : Int)) := by
  rcases h.1 with ⟨_, rfl, _⟩ | ⟨b, off, cs, rfl, _, _, _, _, h5⟩
  · exact absurd hi (by simp)
  · exact ⟨b, off, rfl, h5 i hi 1 _ rfl⟩
end
def Qco (bs : List UInt8) (j : Nat) : Pg := ⟨beAt bs 0 8, fun i => decide (i < j) && Qsb (Qba bs) i, fun i => if i < j then Qje (Qba bs) i else ⟨#[]⟩⟩
theorem pref_full (bs : List UInt8) : (Qco bs 8).same (Qrm bs) := by
  refine ⟨rfl, fun i hi => ⟨?_, ?_⟩⟩
  · show (decide (i < 8) && Qsb (Qba bs) i) = Qsb (Qba bs) i; simp [hi]
  · show (if i < 8 then Qje (Qba bs) i else ⟨#[]⟩) = Qje (Qba bs) i; rw [if_pos hi]
theorem pref_zero (bs : List UInt8) : pgA (Qco bs 0) = pgA ⟨beAt bs 0 8, Pg.zero.u, Pg.zero.s⟩ := by
  refine Qnj ⟨rfl, fun i hi => ⟨?_, ?_⟩⟩
  · show (decide (i < 0) && Qsb (Qba bs) i) = false; simp
  · show (if i < 0 then Qje (Qba bs) i else ⟨#[]⟩) = _; rw [if_neg (by omega)]; rfl
theorem Qft (t : List UInt8) (j : Nat) (h : Qsb t j = false) : Qje t j = ⟨#[]⟩ := by
  unfold Qje Qpg; rw [h]; simp
theorem pref_skip (bs : List UInt8) (j : Nat) (h : Qsb (Qba bs) j = false) : pgA (Qco bs (j + 1)) = pgA (Qco bs j) := by
  refine Qnj ⟨rfl, fun i hi => ⟨?_, ?_⟩⟩
  · show (decide (i < j + 1) && Qsb (Qba bs) i) = (decide (i < j) && Qsb (Qba bs) i)
    by_cases hij : i = j
    · subst hij; simp [h]
    · have e : decide (i < j + 1) = decide (i < j) := decide_eq_decide.2 (by omega); rw [e]
  · show (if i < j + 1 then Qje (Qba bs) i else ⟨#[]⟩) = if i < j then Qje (Qba bs) i else ⟨#[]⟩
    by_cases hij : i = j
    · subst hij; rw [if_pos (by omega), if_neg (by omega), Qft _ _ h]
    · by_cases h2 : i < j
      · rw [if_pos (by omega), if_pos h2]
      · rw [if_neg (by omega), if_neg h2]
theorem pgA_set (p : Pg) (j : Nat) (hj : j < 8) (b : Bool) (s : ByteArray) :
    ((pgA p).setIfInBounds (1 + j * 2) (.bool b)).setIfInBounds (1 + j * 2 + 1) (.string s) = pgA ⟨p.l, fun i => if i = j then b else p.u i, fun i => if i = j then s else p.s i⟩ := by
  rcases lt8 hj with rfl | rfl | rfl | rfl | rfl | rfl | rfl | rfl <;> simp [pgA]
theorem pref_more (bs : List UInt8) (j : Nat) (h : Qsb (Qba bs) j = true) :
    pgA ⟨(Qco bs j).l, fun i => if i = j then true else (Qco bs j).u i, fun i => if i = j then Qje (Qba bs) j else (Qco bs j).s i⟩ = pgA (Qco bs (j + 1)) := by
  refine Qnj ⟨rfl, fun i hi => ⟨?_, ?_⟩⟩
  · show (if i = j then true else (decide (i < j) && Qsb (Qba bs) i)) = (decide (i < j + 1) && Qsb (Qba bs) i)
    by_cases hij : i = j
    · subst hij; simp [h]
    · have e : decide (i < j + 1) = decide (i < j) := decide_eq_decide.2 (by omega); rw [e, if_neg hij]
  · show (if i = j then Qje (Qba bs) j else if i < j then Qje (Qba bs) i else ⟨#[]⟩) = if i < j + 1 then Qje (Qba bs) i else ⟨#[]⟩
    by_cases hij : i = j
    · subst hij; rw [if_pos rfl, if_pos (by omega)]
    · rw [if_neg hij]
      by_cases h2 : i < j
      · rw [if_pos h2, if_pos (by omega)]
      · rw [if_neg h2, if_neg (by omega)]
theorem pos_le (t : List UInt8) (j : Nat) (h : ∀ k, k < j -> Qpg t k <= 20) : Qgl t j <= 10 + 20 * j := by
  induction j with
  | zero => exact Nat.le_refl _
  | succ j ih =>
    have h1 := ih (fun k hk => h k (by omega)); have h2 := h j (by omega); rw [Qgl]; omega
theorem cut_size (t : List UInt8) (j : Nat) (ht : t.length = 240) : (Qje t j).size = min (Qpg t j) (240 - Qgl t j) := by
  unfold Qje; rw [size_mk, List.length_take, List.length_drop, ht]
theorem scan_wrong (bs : List UInt8) (j : Nat) (hb : bs.length = 256) (hj : j < 8) (h : ∀ k, k < j -> Qpg (Qba bs) k <= 20) (hl : 20 < Qpg (Qba bs) j) : ¬ (Qrm bs).right := by
  intro hr; have h1 := (hr.2 j hj).1; have h2 := cut_size (Qba bs) j (Qmn bs hb); have h3 := pos_le (Qba bs) j h; have h4 : (Qrm bs).s j = Qje (Qba bs) j := rfl; rw [h4, h2] at h1; omega
theorem nAt_str (s : ByteArray) (T : ByteArray) (hT : T = ⟨(Qba s.data.toList).toArray⟩) (j : Nat) (h : 2 + j < T.size) : T[2 + j].toNat = nAt (Qba s.data.toList) j := by
  unfold nAt; rw [<- Qzs T (2 + j) h, hT]
theorem cut_str (s : ByteArray) (T : ByteArray) (hT : T = ⟨(Qba s.data.toList).toArray⟩) (j : Nat) (h : Qgl (Qba s.data.toList) j + Qpg (Qba s.data.toList) j <= T.size) :
    T.extract (Qgl (Qba s.data.toList) j) (Qgl (Qba s.data.toList) j + Qpg (Qba s.data.toList) j) = Qje (Qba s.data.toList) j := by
  rw [Qbi T _ _ h, hT]; rfl
theorem len_used (t : List UInt8) (j m : Nat) (hm : nAt t j = m) (h : m ≠ 255) : Qpg t j = m /\ Qsb t j = true := by
  have hu : Qsb t j = true := by unfold Qsb; rw [hm]; simp [h]
  exact ⟨by unfold Qpg; rw [hu, if_pos rfl, hm], hu⟩
theorem len_unused (t : List UInt8) (j : Nat) (hm : nAt t j = 255) : Qpg t j = 0 /\ Qsb t j = false := by
  have hu : Qsb t j = false := by unfold Qsb; rw [hm]; simp
  exact ⟨by unfold Qpg; rw [hu]; simp, hu⟩
theorem dec_last (id : Int) (bs : List UInt8) (h0 : 0 <= id /\ id <= 31) (hb : bs.length = 256) (ht : tornB bs = false) (hs : leN ((Qba bs).drop 236) = crc ((Qba bs).take 236)) :
    decE id bs = if (Qrm bs).right /\ Qhb id.toNat (Qrm bs) = bs then 0 else 2 := by
  unfold decE; rw [if_neg (by simpa using h0), if_neg (by omega), if_neg (by omega), if_neg (by simp [ht]), if_neg (by simp [hs])]
def Qrh (w : World) (gc gr : Nat) (p : Pg) (c : Ch) (x : World) : Prop :=
  Qoe x w.heap.size p /\ Qoc x gc c /\ Qoe x gr Pg.zero /\ Below w.heap.size w x /\ w.heap.size < gc /\ gc < gr
theorem Qrh.later {w x y : World} {gc gr : Nat} {p : Pg} {c : Ch} (h : Qrh w gc gr p c x) (hb : Below x.heap.size x y) : Qrh w gc gr p c y := by
  have l0 : w.heap.size < x.heap.size := (Array.getElem?_eq_some_iff.1 h.1).1; have l1 := h.2.1.lt; have l2 : gr < x.heap.size := (Array.getElem?_eq_some_iff.1 h.2.2.1).1; exact ⟨h.1.below hb l0, h.2.1.below hb l1, h.2.2.1.below hb l2, h.2.2.2.1.trans (hb.mono (Nat.le_of_lt l0)), h.2.2.2.2⟩
theorem Qlo (w : World) (p : Pg) (c : Ch) : Qrh w (w.heap.size + 1) (w.heap.size + 1 + 1) p c (((w.alloc (.cells (pgA p) 77)).alloc (.cells (chA c) 26)).alloc (.cells (pgA Pg.zero) 77)) := by
  have e1 : (w.alloc (.cells (pgA p) 77)).heap.size = w.heap.size + 1 := by simp
  have e2 : ((w.alloc (.cells (pgA p) 77)).alloc (.cells (chA c) 26)).heap.size = w.heap.size + 1 + 1 := by simp
  have b1 := (Below.refl w.heap.size w).alloc (Nat.le_refl _) (.cells (pgA p) 77); have b2 := (Below.refl _ (w.alloc (.cells (pgA p) 77))).alloc (Nat.le_refl _) (.cells (chA c) 26); have b3 := (Below.refl _ ((w.alloc (.cells (pgA p) 77)).alloc (.cells (chA c) 26))).alloc (Nat.le_refl _) (.cells (pgA Pg.zero) 77); have r0 : Qb (w.alloc (.cells (pgA p) 77)) w.heap.size 77 (pgA p) := Qb.new _ _ _
  have r1 : Qb ((w.alloc (.cells (pgA p) 77)).alloc (.cells (chA c) 26)) (w.heap.size + 1) 26 (chA c) := by
    have h := Qb.new (w.alloc (.cells (pgA p) 77)) 26 (chA c); rw [e1] at h; exact h
  have r2 : Qb (((w.alloc (.cells (pgA p) 77)).alloc (.cells (chA c) 26)).alloc (.cells (pgA Pg.zero) 77)) (w.heap.size + 1 + 1) 77 (pgA Pg.zero) := by
    have h := Qb.new ((w.alloc (.cells (pgA p) 77)).alloc (.cells (chA c) 26)) 77 (pgA Pg.zero); rw [e2] at h; exact h
  exact ⟨(r0.later b2).later b3, r1.later b3, r2, b1.trans ((b2.mono b1.size).trans (b3.mono (by omega))), by omega, by omega⟩
theorem put_mem {w x : World} {gc gr i : Nat} {p : Pg} {c : Ch} (h : Qrh w gc gr p c x) (hi : i < 8) (l : Nat) (u : Bool) (s : ByteArray) :
    Qoe (((x.setCell ⟨w.heap.size, 1 + i * 2, none⟩ (.bool u)).setCell ⟨w.heap.size, 1 + i * 2 + 1, none⟩ (.string s)).setCell ⟨w.heap.size, 0, none⟩ (.int .u64 (l : Int))) w.heap.size (p.put l i u s) /\
    Qoe (((x.setCell ⟨w.heap.size, 1 + i * 2, none⟩ (.bool u)).setCell ⟨w.heap.size, 1 + i * 2 + 1, none⟩ (.string s)).setCell ⟨w.heap.size, 0, none⟩ (.int .u64 (l : Int))) gr Pg.zero /\
    Below w.heap.size w (((x.setCell ⟨w.heap.size, 1 + i * 2, none⟩ (.bool u)).setCell ⟨w.heap.size, 1 + i * 2 + 1, none⟩ (.string s)).setCell ⟨w.heap.size, 0, none⟩ (.int .u64 (l : Int))) /\ w.heap.size < gr := by
  have hg : w.heap.size < gr := by have := h.2.2.2.2; omega
  have h1 := heap_setCell_same x w.heap.size (1 + i * 2) _ _ (.bool u) h.1; have h2 := heap_setCell_same _ w.heap.size (1 + i * 2 + 1) _ _ (.string s) h1; rw [pgA_set _ i hi] at h2; have h3 := heap_setCell_same _ w.heap.size 0 _ _ (.int .u64 (l : Int)) h2; refine ⟨h3, ((h.2.2.1.other _ _ (by simp; omega)).other _ _ (by simp; omega)).other _ _ (by simp; omega), ?_, hg⟩; exact ((h.2.2.2.1.setCell (by show w.heap.size <= w.heap.size; omega) _).setCell (by show w.heap.size <= w.heap.size; omega) _).setCell (by show w.heap.size <= w.heap.size; omega) _
theorem app_at (p : Pg) (c : Ch) (l : Nat) (hp : p.right) (hc : c.right) (hl : l <= Qce) (hl2 : p.l < l) (i : Nat) (hi : c.at = i) :
    (p.u i = true /\ c.wantU = false -> appE p c l = 6 /\ Qsp p c l = Pg.zero) /\ (p.u i = false /\ c.wantU = true -> appE p c l = 5 /\ Qsp p c l = Pg.zero) /\
    (p.u i = c.wantU -> p.s i ≠ c.wantV -> appE p c l = 2 /\ Qsp p c l = Pg.zero) /\ (p.u i = c.wantU -> p.s i = c.wantV -> appE p c l = 0 /\ Qsp p c l = p.put l i c.makeU c.makeV) := by
  subst hi
  have hbase : appE p c l = if p.u c.at = true /\ c.wantU = false then 6 else if p.u c.at = false /\ c.wantU = true then 5 else if p.s c.at ≠ c.wantV then 2 else 0 := by
    unfold appE; rw [if_neg (fun h => h ⟨hp, hc, hl⟩), if_neg (by omega)]
  refine ⟨fun h => ?_, fun h => ?_, fun h1 h2 => ?_, fun h1 h2 => ?_⟩
  · have e : appE p c l = 6 := by rw [hbase, if_pos h]
    exact ⟨e, app_no _ _ _ (by rw [e]; decide)⟩
  · have e : appE p c l = 5 := by rw [hbase, if_neg (by rw [h.1]; simp), if_pos h]
    exact ⟨e, app_no _ _ _ (by rw [e]; decide)⟩
  · have e : appE p c l = 2 := by rw [hbase, if_neg (by rw [h1]; intro h; rw [h.1] at h; cases h.2), if_neg (by rw [h1]; intro h; rw [h.1] at h; cases h.2), if_pos h2]
    exact ⟨e, app_no _ _ _ (by rw [e]; decide)⟩
  · have e : appE p c l = 0 := (app_yes p c l).2 ⟨hp, hc, hl, hl2, h1, h2⟩; exact ⟨e, by unfold Qsp; rw [if_pos e]⟩
theorem Qsv {P : Program} {b : Nat} {t : TypeId} {cs : Array Value} {d : TypeDesc} (x : World) (h : Qb x b t cs) (hu : P.underlying t = some d) (hd : (match d with | .struct _ | .array _ _ => true | _ => false) = true) (hi : (P.info? t).map (·.size) = some cs.size) :
    (Instr.loadAt t (.pointer (some ⟨b, 0, none⟩))).run P x = .ok (.agg cs) x := by
  have h1 := run_loadVar_row (P := P) x b t t cs (0, 0) d h hu hd hi; simp only [Instr.loadAt, Instr.sureAddr, Sem.run_bind, Sem.run_pure, Result.andThen_ok, h1]
theorem put_cell {x : World} {g i : Nat} {p : Pg} (h : Qoe x g p) (hi : i < 8) (u : Bool) (s : ByteArray) : Qoe ((x.setCell ⟨g, 1 + i * 2, none⟩ (.bool u)).setCell ⟨g, 1 + i * 2 + 1, none⟩ (.string s)) g (p.put p.l i u s) := by
  have h1 := heap_setCell_same x g (1 + i * 2) _ _ (.bool u) h; have h2 := heap_setCell_same _ g (1 + i * 2 + 1) _ _ (.string s) h1; rw [pgA_set _ i hi] at h2; exact h2
theorem wpList_store_ce {ops : Array Oper} {rest : List Oper} {o : Oper} {a : Act} {w : World} {Q : Exit -> Act -> World -> Prop} (hgd : o.guard = none) (x y : Operand) (ho : o.op = .store 63 x y)
    (g i : Nat) (hi : i < 8) (p : Pg) (u : Bool) (s : ByteArray) (hx : a.eval x = .pointer (some ⟨g, 1 + i * 2, none⟩)) (hy : a.eval y = .agg (ceA u s)) (hg : Qoe w g p)
    (h : ∀ w2, Qoe w2 g (p.put p.l i u s) -> (∀ B w0, Below B w0 w -> B <= g -> Below B w0 w2) -> (∀ k t' c', k ≠ g -> Qb w k t' c' -> Qb w2 k t' c') -> wpList Try.prog ops Q rest (a.put o.dst undef) w2) : wpList Try.prog ops Q (o :: rest) a w := by
  have q1 := hg.used i hi; have q2 := hg.val i hi; have s1 := hg.free (1 + i * 2); have s2 := hg.free (1 + i * 2 + 1); have h2 := h _ (put_cell hg hi u s) (fun B w0 hb hB => ((hb.setCell (by exact hB) _).setCell (by exact hB) _)) (fun k t' c' hk hr => (hr.other _ _ hk).other _ _ hk); refine wpList_step fun K hK => ?_
  have hw : Region.wanted o (yielded ops a.tmps) = true := by unfold Region.wanted; rw [hgd]
  simp only [hw, if_true]; have hK2 := hK _ _ h2; clear h h2 hK hg; unfold Oper.wp execOp; simp only [ho, hx, hy, ceA]; go_simp; exact hK2
theorem nan9 (x : Nat) (w : World) : Calls Try.prog 65 #[.int .u64 (x : Int)] w fun e w' => e = .returned (.bool false) /\ w = w' := by
  go_enter Try.func65, Try.ntmps65; go_wp2; go_ret; simp
def Qvq (x y : Nat) : Int := if x < y then -1 else if y < x then 1 else 0
theorem cmp9 (x y : Nat) (w : World) : Calls Try.prog 49 #[.int .u64 (x : Int), .int .u64 (y : Int)] w fun e w' => e = .returned (.int .i64 (Qvq x y)) /\ w = w' := by
  have HN := Qd (fun z w => nan9 z w); unfold Qvq
  by_cases h1 : x < y
  · rw [if_pos h1]; have i1 : (x : Int) < (y : Int) := by omega
    go_enter Try.func49, Try.ntmps49; go_wp2_with fail; refine (HN.out x w).mono ?_; rintro e w1 ⟨rfl, rfl⟩; go_wp2_with fail; refine (HN.out y w).mono ?_; rintro e w1 ⟨rfl, rfl⟩; go_wp2; go_ret; exact ⟨rfl, rfl⟩
  · rw [if_neg h1]
    by_cases h2 : y < x
    · rw [if_pos h2]; have i1 : ¬ (x : Int) < (y : Int) := by omega
      have i2 : (y : Int) < (x : Int) := by omega
      go_enter Try.func49, Try.ntmps49; go_wp2_with fail; refine (HN.out x w).mono ?_; rintro e w1 ⟨rfl, rfl⟩; go_wp2_with fail; refine (HN.out y w).mono ?_; rintro e w1 ⟨rfl, rfl⟩; go_wp2; go_ret; exact ⟨rfl, rfl⟩
    · rw [if_neg h2]; have i1 : ¬ (x : Int) < (y : Int) := by omega
      have i2 : ¬ (y : Int) < (x : Int) := by omega
      go_enter Try.func49, Try.ntmps49; go_wp2_with fail; refine (HN.out x w).mono ?_; rintro e w1 ⟨rfl, rfl⟩; go_wp2_with fail; refine (HN.out y w).mono ?_; rintro e w1 ⟨rfl, rfl⟩; go_wp2; go_ret; exact ⟨rfl, rfl⟩
theorem Qan (x y : Nat) : (Qvq x y < 0 ↔ x < y) /\ (Qvq x y = 0 ↔ x = y) := by
  unfold Qvq
  split
  · constructor <;> omega
  · split
    · constructor <;> omega
    · constructor <;> omega
def Found9 (ms : List Rm) (n : Nat) (w : World) (e : Ending) (w' : World) : Prop := ∃ i : Nat, ∃ q : Bool, e = .returned (.tuple #[.int .i64 (i : Int), .bool q]) /\ (q = true -> i < ms.length /\ (ms.getD i rcZ).1.l = n) /\ (q = false -> ∀ j, j < ms.length -> (ms.getD j rcZ).1.l ≠ n) /\ Below w.heap.size w w'
theorem Qvl : ∀ (l : List Rec) (a : Nat), Qob a l -> ∀ p q, p < q -> q < l.length -> (l.getD p Rec.zero).l < (l.getD q Rec.zero).l
  | [], _, _, _, _, _, h => absurd h (by simp)
  | r :: rs, a, h, 0, q + 1, _, hq => by
    have hm : rs.getD q Rec.zero ∈ rs := Qze _ _ _ (by simpa using hq); have := (Qod rs r.l h.2.2 _ hm).1; simpa [List.getD] using this
  | r :: rs, a, h, p + 1, q + 1, hpq, hq => by
    have := Qvl rs r.l h.2.2 p q (by omega) (by simpa using hq); simpa [List.getD] using this
  | r :: rs, a, h, p, 0, hpq, _ => absurd hpq (by omega)
theorem Qbq (r : Rec) (va vb : Value) (n : Nat) (w : World) : Calls Try.prog 48 #[.agg (rcA r va vb), .int .u64 (n : Int)] w fun e w' => e = .returned (.int .i64 (Qvq r.l n)) /\ Below w.heap.size w w' := by
  have c1 := (Qb.new w 30 (rcA r va vb)).cell 1 (.int .u64 (r.l : Int)) rfl; have HB := Qd ((Below.refl w.heap.size w).alloc (Nat.le_refl _) (.cells (rcA r va vb) 30)); have HC := Qd (fun w => cmp9 r.l n w); generalize Qvq r.l n = c at *; generalize rcA r va vb = A at *; go_enter Try.func48, Try.ntmps48; go_wp2_with fail; refine (HC.out _).mono ?_; rintro e w1 ⟨rfl, rfl⟩; go_wp2; go_ret; exact ⟨rfl, HB.out⟩
def Found15 (ms : List (Rec × Value × Value)) (n : Nat) (w : World) (e : Ending) (w' : World) : Prop := ∃ i : Nat, ∃ q : Bool, e = .returned (.tuple #[.int .i64 (i : Int), .bool q]) /\ (q = true -> i < ms.length /\ (ms.getD i rcZ).1.l = n) /\ (q = false -> ∀ j, j < ms.length -> (ms.getD j rcZ).1.l ≠ n) /\ Below w.heap.size w w'
theorem search15 (a : Option Addr) (cap : Nat) (ms : List (Rec × Value × Value)) (n : Nat) (w : World) (h : Qil w (.slice a ms.length cap) ms) (hm : ∀ p q, p < q -> q < ms.length -> (ms.getD p rcZ).1.l < (ms.getD q rcZ).1.l) (hl : ms.length <= 100000) (hcap : ms.length <= cap) :
    Calls Try.prog 47 #[.slice a ms.length cap, .int .u64 (n : Int), .func (.func 48) #[] #[]] w (Found15 ms n w) := by
  have H := Qd h; have HM := Qd hm; obtain ⟨ln, hln⟩ : ∃ ln, ln = ms.length := ⟨_, rfl⟩; rw [<- hln] at H HM hl hcap |-; have HLN := Qd hln; clear hln h hm; go_enter Try.func47, Try.ntmps47; go_wp2; go_loopw [9, 10, 11] (fun i j _ wr => ∃ p q : Nat, p <= q /\ q <= ln /\ i = .int .i64 (p : Int) /\ j = .int .i64 (q : Int) /\ Hid ((∀ k, k < p -> (ms.getD k rcZ).1.l < n) /\ (∀ k, q <= k -> k < ln -> n <= (ms.getD k rcZ).1.l)) /\ Hid (Below w.heap.size w wr)) (fun i j _ _ => (intOf j).toNat - (intOf i).toNat)
  case atStart => exact ⟨0, ln, Nat.zero_le _, Nat.le_refl _, rfl, rfl, ⟨fun k hk => absurd hk (Nat.not_lt_zero _), fun k h1 h2 => absurd h1 (by omega)⟩, Below.refl _ _⟩
  case round =>
    obtain ⟨p, q, hpq, hq, rfl, rfl, HPQ, HB⟩ := hrel
    by_cases hlt : p < q
    · have ipq : (p : Int) < (q : Int) := by omega
      obtain ⟨hh, hhd⟩ : ∃ hh, hh = (p + q) / 2 := ⟨_, rfl⟩; have eh : ((p : Int) + (q : Int)) / 2 = (hh : Int) := by omega
      have h1 : p <= hh := by omega
      have h2 : hh < q := by omega
      have hhl : (hh : Int) < (ln : Int) := by omega
      obtain ⟨b, off, rfl, hbl, hrg, hft, hin⟩ := H.out.at (i := hh) (by have := HLN.out; omega); obtain ⟨m, hm⟩ : ∃ m, m = ms.getD hh rcZ := ⟨_, rfl⟩; rw [<- hm] at hrg; have HMM := Qd hm; clear hm hft hin hhd; have HLD := Qd (Qmj wr b (off + hh * 14) m (Qlc hrg HB.out hbl)); clear hrg
      by_cases hlo : m.1.l < n
      · have ilo : Qvq m.1.l n < 0 := (Qan _ _).1.2 hlo; have HO := Qd (fun w => Qbq m.1 m.2.1 m.2.2 n w); generalize Qvq m.1.l n = c at *; go_wp2_with (refine Qr rfl 30 (.tmp 27) rfl _ _ rfl HLD.out ?_); refine (HO.out wr).mono ?_; rintro e w1 ⟨rfl, hb1⟩; have HB1 := Qd (HB.out.trans (hb1.mono HB.out.size)); clear hb1 HB HLD HO; go_wp2; go_roundw
        case rel =>
          refine ⟨hh + 1, q, by omega, hq, by go_num, rfl, ⟨fun k hk => ?_, HPQ.out.2⟩, HB1.out⟩
          rcases Nat.lt_or_ge k hh with hk2 | hk2
          · have := HM.out k hh hk2 (by omega); rw [<- HMM.out] at this; omega
          · obtain rfl : k = hh := by omega
            rw [<- HMM.out]; exact hlo
        case measure => simp [intOf]; omega
      · have ilo : ¬ Qvq m.1.l n < 0 := fun h => hlo ((Qan _ _).1.1 h)
        have HO := Qd (fun w => Qbq m.1 m.2.1 m.2.2 n w); generalize Qvq m.1.l n = c at *; go_wp2_with (refine Qr rfl 30 (.tmp 27) rfl _ _ rfl HLD.out ?_); refine (HO.out wr).mono ?_; rintro e w1 ⟨rfl, hb1⟩; have HB1 := Qd (HB.out.trans (hb1.mono HB.out.size)); clear hb1 HB HLD HO; go_wp2; go_roundw
        case rel =>
          refine ⟨p, hh, h1, by omega, rfl, rfl, ⟨HPQ.out.1, fun k hk hk2 => ?_⟩, HB1.out⟩
          rcases Nat.lt_or_ge hh k with hk3 | hk3
          · have := HM.out hh k hk3 hk2; rw [<- HMM.out] at this; omega
          · obtain rfl : k = hh := by omega
            rw [<- HMM.out]; omega
        case measure => simp [intOf]; omega
    · obtain rfl : p = q := by omega
      by_cases hpl : p < ln
      · have ipl : (p : Int) < (ln : Int) := by omega
        obtain ⟨b, off, rfl, hbl, hrg, hft, hin⟩ := H.out.at (i := p) (by have := HLN.out; omega); obtain ⟨m, hm⟩ : ∃ m, m = ms.getD p rcZ := ⟨_, rfl⟩; rw [<- hm] at hrg; have HMM := Qd hm; clear hm hft hin; have HLD := Qd (Qmj wr b (off + p * 14) m (Qlc hrg HB.out hbl)); clear hrg; have HO := Qd (fun w => Qbq m.1 m.2.1 m.2.2 n w)
        by_cases heq : m.1.l = n
        · have ieq : (Qvq m.1.l n == 0) = true := by rw [beq_iff_eq]; exact (Qan _ _).2.2 heq
          generalize Qvq m.1.l n = c at *; go_wp2_with (refine Qr rfl 30 (.tmp 43) rfl _ _ rfl HLD.out ?_); refine (HO.out wr).mono ?_; rintro e w1 ⟨rfl, hb1⟩; have HB1 := Qd (HB.out.trans (hb1.mono HB.out.size)); clear hb1 HB HLD HO; go_wp2; go_ret2; exact ⟨p, true, rfl, fun _ => ⟨by have := HLN.out; omega, by rw [<- HMM.out]; exact heq⟩, fun h => (nomatch h), HB1.out⟩
        · have ieq : (Qvq m.1.l n == 0) = false := by rw [beq_eq_false_iff_ne]; exact fun h => heq ((Qan _ _).2.1 h)
          generalize Qvq m.1.l n = c at *; go_wp2_with (refine Qr rfl 30 (.tmp 43) rfl _ _ rfl HLD.out ?_); refine (HO.out wr).mono ?_; rintro e w1 ⟨rfl, hb1⟩; have HB1 := Qd (HB.out.trans (hb1.mono HB.out.size)); clear hb1 HB HLD HO; go_wp2; go_ret2; refine ⟨p, false, rfl, fun h => (nomatch h), fun _ j hj => ?_, HB1.out⟩
          rcases Nat.lt_trichotomy j p with h3 | h3 | h3
          · have := HPQ.out.1 j h3; omega
          · rw [h3, <- HMM.out]; exact heq
          · have h4 := HM.out p j h3 (by have := HLN.out; omega); have h5 := HPQ.out.2 p (Nat.le_refl _) hpl; omega
      · have ipl : ¬ (p : Int) < (ln : Int) := by omega
        go_wp2; go_ret2; refine ⟨p, false, rfl, fun h => (nomatch h), fun _ j hj => ?_, HB.out⟩; have := HPQ.out.1 j (by have := HLN.out; omega); omega
def At15 (ms : List (Rec × Value × Value)) (n : Nat) (w : World) (e : Ending) (w' : World) : Prop := ∃ i : Nat, ∃ q : Bool, e = .returned (.tuple #[.int .i64 (i : Int), .bool q]) /\ ((q = true /\ i < ms.length /\ (ms.getD i rcZ).1.l = n) ∨ (q = false /\ ∀ r ∈ msR ms, r.l ≠ n)) /\ Below w.heap.size w w'
theorem mem_get15 {ms : List (Rec × Value × Value)} {r : Rec} (h : r ∈ msR ms) : ∃ j, j < ms.length /\ (ms.getD j rcZ).1 = r := by
  obtain ⟨j, hj, rfl⟩ := List.mem_iff_getElem.1 h; rw [Qhe] at hj; refine ⟨j, hj, ?_⟩; rw [<- Qvh, List.getD_eq_getElem?_getD, List.getElem?_eq_getElem (by rw [Qhe]; exact hj)]; rfl
theorem find15 (v : Value) (ms : List (Rec × Value × Value)) (n : Nat) (w : World) (h : LogIn w v ms) (hr : Qob 0 (msR ms)) :
    Calls Try.prog 31 #[v, .int .u64 (n : Int)] w (At15 ms n w) := by
  obtain ⟨a, c, rfl, hlc⟩ := h.slice
  have HF := Qd (search15 a c ms n w h.rs (fun p q hpq hq => by
    rw [<- Qvh, <- Qvh]
    exact Qvl _ 0 hr p q hpq (by rw [Qhe]; exact hq)) (by have := h.few; omega) hlc)
  clear h hr hlc; generalize hln : ms.length = ln at *; have HN := Qd hln; clear hln; go_enter Try.func31, Try.ntmps31; go_wp2_with fail; refine HF.out.mono ?_; rintro e w1 ⟨i, q, rfl, h1, h2, hb⟩; have H := Qd (And.intro h1 (And.intro h2 hb)); clear h1 h2 hb HF; go_wp2; go_ret2; refine ⟨i, q, rfl, ?_, H.out.2.2⟩
  cases q with
  | true => exact .inl ⟨rfl, H.out.1 rfl⟩
  | false =>
    refine .inr ⟨rfl, fun r hr => ?_⟩; obtain ⟨j, h3, h4⟩ := mem_get15 hr; rw [<- h4]; exact H.out.2.1 rfl j h3
theorem Qhl {x : World} {b o : Nat} {m : Rec × Value × Value} (h : x.rangeAt b o (rcF m).toList) : x.cell? ⟨b, o, none⟩ = some (.int .i64 m.1.k) /\ x.cell? ⟨b, o + 2, none⟩ = some (.int .i64 m.1.t) /\ x.cell? ⟨b, o + 3, none⟩ = some (.int .u64 (m.1.p : Int)) /\ x.cell? ⟨b, o + 9, none⟩ = some (.int .u64 (m.1.n : Int)) := ⟨h 0 _ rfl, h 2 _ rfl, h 3 _ rfl, h 9 _ rfl⟩
theorem next15 (v : Value) (ms : List (Rec × Value × Value)) (n : Nat) (w : World) (h : LogIn w v ms) (hr : Qob 0 (msR ms)) :
    Calls Try.prog 30 #[v, .int .u64 (n : Int)] w fun e w' => e = .returned (.int .u64 (Qca (msR ms) n : Int)) /\ Below w.heap.size w w' := by
  have HA := Qd h; have HR := Qd hr; obtain ⟨aa, ca, rfl, hlc⟩ := h.slice; have hl := h.few; have HF := Qd (fun k x (hx : Below w.heap.size w x) => find15 _ ms k x (h.below hx) hr); clear h hr; obtain ⟨ln, hln⟩ : ∃ ln, ln = ms.length := ⟨_, rfl⟩; rw [<- hln] at HA HF hl hlc |-; have HN := Qd hln; clear hln; obtain ⟨q, hq⟩ : ∃ q, q = Qca (msR ms) n := ⟨_, rfl⟩; have HQ := Qd hq; rw [<- hq]; clear hq; go_enter Try.func30, Try.ntmps30; go_wp2; go_step3; go_wp2; go_step3; go_wp2; go_loopw [1] (fun i wr => ∃ (j : Nat), i = .int .u64 (j : Int) /\ Hid (q = Qca (msR ms) j) /\ Hid (Below w.heap.size w wr)) (fun i _ => (intOf i).toNat)
  case atStart => exact ⟨n, rfl, HQ.out, Below.refl _ _⟩
  case round =>
    obtain ⟨j, rfl, HQJ, HBR⟩ := hrel; have HC := Qd (HF.out j wr HBR.out); go_wp2_with fail; refine HC.out.mono ?_; rintro e w1 ⟨i, f, rfl, hcase, hb1⟩; have HB1 := Qd (HBR.out.trans (hb1.mono HBR.out.size)); clear hb1 HBR HC
    rcases hcase with ⟨rfl, hi, he⟩ | ⟨rfl, hno⟩
    · obtain ⟨b, off, rfl, hf, hm0, hx⟩ := HA.out.mid hi; have hmem := Qnv hi; obtain ⟨m, hm⟩ : ∃ m, m = ms.getD i rcZ := ⟨_, rfl⟩; rw [<- hm] at hf hx hm0 hmem he; have hmR := Qga _ 0 HR.out _ hmem; have HST := Qd (show Qca (msR ms) m.1.l = Qui (msR ms) m.1 from Quf HR.out hmem); have HJ := Qd he; have hlp := Qic hmR; have hln2 := Qpd hmR; obtain ⟨c0, c2, c3, c9⟩ := Qhl (hx w1 HB1.out).1; rw [he] at HST hlp hln2; have ij : (i : Int) < (ln : Int) := by have := HN.out; omega
      clear hf hx hm0 hm hmem hmR he hi
      by_cases k1 : m.1.k = 1
      · go_wp2; (try rw [Exit.noGoto_ret]); go_ret; refine ⟨?_, HB1.out⟩; rw [HQJ.out, HST.out, Qui, if_pos k1, HJ.out]; rfl
      · by_cases k2 : m.1.k = 2
        · go_wp2; go_roundw
          case rel =>
            refine ⟨m.1.n, rfl, ?_, HB1⟩; rw [HQJ.out, HST.out, Qui, if_neg k1, if_pos k2]; exact rfl
          case measure => simp [intOf] <;> omega
        · go_wp2; go_roundw
          case rel =>
            refine ⟨m.1.p, rfl, ?_, HB1⟩; rw [HQJ.out, HST.out, Qui, if_neg k1, if_neg k2]; exact rfl
          case measure => simp [intOf] <;> omega
    · go_wp2; (try rw [Exit.noGoto_ret]); go_ret; refine ⟨?_, HB1.out⟩; rw [HQJ.out, Quh hno]; rfl
theorem Qjm (u : Bool) (s : ByteArray) (w : World) :
    Calls Try.prog 69 #[.agg (ceA u s)] w fun e w' => e = .returned (.bool (decide (Qqc u s))) /\ Below w.heap.size w w' := by
  have hb0 : Below w.heap.size w (w.alloc (.cells (ceA u s) 63)) := (Below.refl _ _).alloc (Nat.le_refl _) _; have hr := Qb.new w 63 (ceA u s); have c0 := hr.cell 0 (.bool u) rfl; have c1 := hr.cell 1 (.string s) rfl; clear hr
  cases u with
  | true =>
    have e : decide (Qqc true s) = decide ((s.size : Int) <= 20) := decide_eq_decide.2 ⟨fun h => by have := h.1; omega, fun h => ⟨by omega, by simp⟩⟩; have HE := Qd e; clear e; go_enter Try.func69, Try.ntmps69; go_wp2; go_ret; rw [HE.out]; exact ⟨rfl, hb0⟩
  | false =>
    have e : decide (Qqc false s) = s.toList.isEmpty := by
      rw [Bool.eq_iff_iff, Qka, decide_eq_true_eq]; exact ⟨fun h => h.2 rfl, fun h => ⟨by omega, fun _ => h⟩⟩
    have HE := Qd e; clear e; go_enter Try.func69, Try.ntmps69; go_wp2; go_ret; rw [HE.out]; exact ⟨rfl, hb0⟩
abbrev Pg.cellsOk (p : Pg) : Prop := ∀ i, i < 8 -> Qqc (p.u i) (p.s i)
theorem cells_no (p : Pg) (j : Nat) (hj : j < 8) (h : ¬ Qqc (p.u j) (p.s j)) : decide p.cellsOk = false := by
  rw [decide_eq_false_iff_not]; intro hp; exact h (hp j hj)
theorem Qyt {p : Pg} {j : Nat} (h : ∀ k, k < j -> Qqc (p.u k) (p.s k)) (hj : Qqc (p.u j) (p.s j)) : ∀ k, k < j + 1 -> Qqc (p.u k) (p.s k) := by
  intro k hk
  by_cases hkj : k = j
  · subst hkj; exact hj
  · exact h k (by omega)
theorem Qnl (p : Pg) (w : World) :
    Calls Try.prog 56 #[.agg (csA p)] w fun e w' => e = .returned (.bool (decide p.cellsOk)) /\ Below w.heap.size w w' := by
  have hb0 : Below w.heap.size w (w.alloc (.cells (csA p) 75)) := (Below.refl _ _).alloc (Nat.le_refl _) _; have hr := Qd (Qb.new w 75 (csA p)); go_enter Try.func56, Try.ntmps56; go_wp2_with (refine Qe rfl 75 (.tmp 1) rfl w.heap.size rfl (csA p) hr.out _ Try.underlying75 rfl infoCs ?_); go_loopw [6] (fun i wr => ∃ j : Nat, j <= 8 /\ i = .int .i64 j /\ Below w.heap.size w wr /\ ∀ k, k < j -> Qqc (p.u k) (p.s k)) (fun i _ => 8 - (intOf i).toNat)
  case atStart => exact ⟨0, Nat.zero_le _, rfl, hb0, fun k hk => absurd hk (by omega)⟩
  case round =>
    obtain ⟨j, hj, rfl, hbr, hok⟩ := hrel; clear hb0 hr
    by_cases hlt : j < 8
    · have R := Qjm (p.u j) (p.s j); have HK := Qd hok; clear hok
      by_cases hc : Qqc (p.u j) (p.s j)
      · have HR := Qd (fun w => (show Calls Try.prog 69 #[.agg (ceA (p.u j) (p.s j))] w fun e w' => e = .returned (.bool true) /\ Below w.heap.size w w' by have := R w; rwa [decide_eq_true hc] at this)); have HY := Qd (Qyt HK.out hc); clear R hc HK; go_wp2_with (first | (refine Qjf rfl (.tmp 5) (.tmp 6) rfl p j hlt rfl rfl ?_) | (refine Qc rfl 63 (.tmp 4) (.tmp 8) rfl wr.heap.size (ceA false ⟨#[]⟩) (ceA (p.u j) (p.s j)) rfl rfl (Qb.new wr 63 _) Qmb rfl (Qdb _ _) ?_)); intro w2 hr2 hk2 _; have d2 := hk2 _ _ (hbr.alloc hbr.size _) hbr.size; have HR2 := Qd hr2; clear hr2 hk2 hbr; go_wp2_with (refine Qe rfl 63 (.tmp 4) rfl wr.heap.size rfl (ceA (p.u j) (p.s j)) HR2.out _ Try.underlying63 rfl Qmb ?_); refine (HR.out _).mono ?_; rintro e w3 ⟨rfl, hb3⟩; have d3 := d2.trans (hb3.mono d2.size); clear d2 hb3 HR HR2; go_wp2; go_roundw
        case rel => exact ⟨j + 1, by omega, by go_num, d3, HY.out⟩
        case measure => simp [intOf]; omega
      · have HR := Qd (fun w => (show Calls Try.prog 69 #[.agg (ceA (p.u j) (p.s j))] w fun e w' => e = .returned (.bool false) /\ Below w.heap.size w w' by have := R w; rwa [decide_eq_false hc] at this)); have HN := Qd (cells_no p j hlt hc); clear R hc HK; go_wp2_with (first | (refine Qjf rfl (.tmp 5) (.tmp 6) rfl p j hlt rfl rfl ?_) | (refine Qc rfl 63 (.tmp 4) (.tmp 8) rfl wr.heap.size (ceA false ⟨#[]⟩) (ceA (p.u j) (p.s j)) rfl rfl (Qb.new wr 63 _) Qmb rfl (Qdb _ _) ?_)); intro w2 hr2 hk2 _; have d2 := hk2 _ _ (hbr.alloc hbr.size _) hbr.size; have HR2 := Qd hr2; clear hr2 hk2 hbr; go_wp2_with (refine Qe rfl 63 (.tmp 4) rfl wr.heap.size rfl (ceA (p.u j) (p.s j)) HR2.out _ Try.underlying63 rfl Qmb ?_); refine (HR.out _).mono ?_; rintro e w3 ⟨rfl, hb3⟩; have d3 := d2.trans (hb3.mono d2.size); clear d2 hb3 HR HR2; go_wp2; go_ret; rw [HN.out]; exact ⟨rfl, d3⟩
    · obtain rfl : j = 8 := by omega
      have HE := Qd (decide_eq_true (show p.cellsOk from hok)); clear hok; go_wp2; go_ret; rw [HE.out]; exact ⟨rfl, hbr⟩
theorem Qnf (p : Pg) (w : World) :
    Calls Try.prog 35 #[.agg (pgA p)] w fun e w' => e = .returned (.bool (decide p.right)) /\ Below w.heap.size w w' := by
  have hP : Qoe (w.alloc (.cells (pgA p) 77)) w.heap.size p := heap_alloc_new w _; have hb0 : Below w.heap.size w (w.alloc (.cells (pgA p) 77)) := (Below.refl _ _).alloc (Nat.le_refl _) _; have c0 := hP.lsn; have HP := Qd hP; clear hP; have e2 : Qce = 4611686018427387904 := rfl
  by_cases h : (p.l : Int) <= 4611686018427387904
  · have e : decide p.right = decide p.cellsOk := decide_eq_decide.2 ⟨fun h => h.2, fun g => ⟨by omega, g⟩⟩; have HR := Qd (Qnl p); rw [e]; clear e e2; generalize decide p.cellsOk = r at *; go_enter Try.func35, Try.ntmps35; go_wp2_with (refine Qll rfl (.tmp 7) rfl w.heap.size rfl p HP.out ?_); refine (HR.out _).mono ?_; rintro e w1 ⟨rfl, hb1⟩; have d1 := hb0.trans (hb1.mono hb0.size); clear hb0 hb1 HR HP c0; go_wp2; go_ret; exact ⟨rfl, d1⟩
  · have e : decide p.right = false := by
      rw [decide_eq_false_iff_not]; intro h1; have := h1.1; omega
    rw [e]; clear e e2; have h1 : ((p.l : Int) <= 4611686018427387904) = False := by simpa using h
    clear h; go_enter Try.func35, Try.ntmps35; go_wp2; go_ret; exact ⟨rfl, hb0⟩
theorem load_ch {b : Nat} {c : Ch} (x : World) (h : Qoc x b c) : (Instr.loadAt 26 (.pointer (some ⟨b, 0, none⟩))).run Try.prog x = .ok (.agg (chA c)) x := by
  have h1 := run_loadVar_row (P := Try.prog) x b 26 26 (chA c) (0, 0) _ h Try.underlying26 rfl Qq; simp only [Instr.loadAt, Instr.sureAddr, Sem.run_bind, Sem.run_pure, Result.andThen_ok, h1]
theorem pg_ext (p : Pg) (i : Nat) (hi : i < 8) : ((pgA p).extract (1 + i * 2) (1 + i * 2 + 2)).toList = (ceA (p.u i) (p.s i)).toList := by
  rcases lt8 hi with rfl | rfl | rfl | rfl | rfl | rfl | rfl | rfl <;> simp [pgA, ceA]
theorem load_ce {b : Nat} {p : Pg} (x : World) (i : Nat) (hi : i < 8) (h : Qoe x b p) : (Instr.loadAt 63 (.pointer (some ⟨b, 1 + i * 2, none⟩))).run Try.prog x = .ok (.agg (ceA (p.u i) (p.s i))) x := by
  have hr := World.rangeAt_of_block h (1 + i * 2) 2; rw [pg_ext p i hi] at hr; have h1 := run_loadAt_mid (P := Try.prog) x b (1 + i * 2) 63 _ _ hr Try.underlying63 rfl Qmb; rwa [Array.toArray_toList] at h1
theorem Qdo {b : Nat} {c : Ch} (x : World) (i : Nat) (hi : c.sl = (i : Int)) (h : Qoc x b c) : (Instr.loadAt 3 (.pointer (some ⟨b, 2, none⟩))).run Try.prog x = .ok (.int .i64 (i : Int)) x := by
  have h1 := h.all.2.2.1; rw [hi] at h1; go_simp
theorem app_ref (p : Pg) (c : Ch) (l : Nat) (hp : p.right) (hc : c.right) (hl : l <= Qce) (hl2 : p.l < l) : appE p c l = refE (p.u c.at) (p.s c.at) c := by
  have hv : c.k = 1 -> c.o = ⟨#[]⟩ := fun h => by
    rcases hc.2 with h1 | h1 | h1
    · exact size0 _ h1.2
    · omega
    · omega
  unfold appE refE Ch.wantU Ch.wantV; rw [if_neg (fun h => h ⟨hp, hc, hl⟩), if_neg (by omega)]
  by_cases k : c.k = 1
  · rw [if_pos k, if_pos k, hv k]; cases p.u c.at <;> simp [k]
  · rw [if_neg k, if_neg k]; cases p.u c.at <;> simp [k]
theorem Qrh.drew {w x : World} {gc gr : Nat} {p : Pg} {c : Ch} (h : Qrh w gc gr p c x) : Qrh w gc gr p c x.drew := ⟨h.1, h.2.1, h.2.2.1, Qo h.2.2.2.1 1, h.2.2.2.2⟩
theorem app_go (p : Pg) (c : Ch) (l : Nat) (w : World) (hp : p.right) (hc : c.right) (hl : l <= Qce) (hl2 : p.l < l) :
    Calls Try.prog 26 #[.agg (pgA p), .agg (chA c), .int .u64 l] w fun e w' => e = .returned (.tuple #[.agg (pgA (Qsp p c l)), .int .i64 (appE p c l)]) /\ Below w.heap.size w w' := by
  have H0 := Qd (Qlo w p c); have HR1 := Qd (fun w => Qnf p w); have HR2 := Qd (fun w => Qae c w true (Qd (decide_eq_true hc))); rw [decide_eq_true hp] at HR1; have i1 : ((4611686018427387904 : Int) < (l : Int)) = False := eq_false (by unfold Qce at hl; omega); have i2 : ¬ (l : Int) <= (p.l : Int) := by omega
  obtain ⟨i, hi⟩ := Int.eq_ofNat_of_zero_le hc.1.2.2.1; have hi8 : i < 8 := by have := hc.1.2.2.2.1; omega
  have hat : c.at = i := by unfold Ch.at; rw [hi]; rfl
  have HF := Qd (fun w => Qfo (p.u i) (p.s i) c w (appE p c l) (Qd (by rw [app_ref p c l hp hc hl hl2, hat]))); have HE0 := Qd (fun h : appE p c l = 0 => show Qsp p c l = p.put l i c.makeU c.makeV by unfold Qsp; rw [if_pos h, hat]); have HE1 := Qd (app_no p c l); clear hp hc hl hl2 hat; generalize appE p c l = er at *; generalize Qsp p c l = rp at *; go_enter Try.func26, Try.ntmps26; obtain ⟨gc, h1⟩ : ∃ g, g = w.heap.size + 1 := ⟨_, rfl⟩; obtain ⟨gr, h2⟩ : ∃ g, g = w.heap.size + 1 + 1 := ⟨_, rfl⟩; rw [<- h2, <- h1] at H0; go_wp2_with (refine Qta rfl _ rfl w.heap.size rfl p H0.out.1 ?_); rw [<- h2, <- h1]; refine Qda (fun x => Hid (Qrh w gc gr p c x)) H0 ?_; clear H0 h1 h2; intro w0 H0; refine (HR1.out _).mono ?_; rintro e w1 ⟨rfl, hb1⟩; have H1 := Qd (H0.out.later hb1); clear H0 hb1 HR1; go_wp2_with (refine Qe rfl 26 _ rfl gc rfl (chA c) H1.out.2.1 _ Try.underlying26 rfl Qq ?_); refine (HR2.out _).mono ?_; rintro e w2 ⟨rfl, hb2⟩; have H2 := Qd (H1.out.later hb2); clear H1 hb2 HR2; have a0 := H2.out.1.lsn; go_wp2_with fail; clear a0 i1 i2; refine Qub (fun x => Qrh w gc gr p c x) (by kernel_rfl) (by kernel_rfl) H2.out.drew ?_; clear H2; have j1 : (i : Int) < 8 := by omega
  repeat (first
    | go_big_quiet_skip
    | (refine Qx rfl 3 (.tmp 27) rfl _ (.int .i64 (i : Int)) rfl (fun y hy => Qdo y i hi hy.2.1) ?_; simp only [Act.put, List.setIfInBounds_toArray, List.set])
    | (refine Qx rfl 63 (.tmp 30) rfl _ (.agg (ceA (p.u i) (p.s i))) rfl (fun y hy => load_ce y i hi8 hy.1) ?_; simp only [Act.put, List.setIfInBounds_toArray, List.set])
    | (refine Qx rfl 26 (.tmp 4) rfl _ (.agg (chA c)) rfl (fun y hy => load_ch y hy.2.1) ?_; simp only [Act.put, List.setIfInBounds_toArray, List.set])
    | (refine Qcd rfl 37 #[.agg (ceA (p.u i) (p.s i)), .agg (chA c)] (.int .i64 er) ?_ (fun x hC => (HF.out x).mono fun e x' h => ⟨h.1, hC.later h.2⟩) ?_; (intro x; go_simp); simp only [Act.put, List.setIfInBounds_toArray, List.set])
    | (refine Qjb rfl (fun K hK => ?_); go_simp; refine hK _ ?_; clear hK K))
  refine wpQuiet_nil ?_; intro w3 h3; have H3 := Qd h3; clear h3 HF
  by_cases h0 : er = 0
  · obtain rfl := HE0.out h0; subst h0; clear HE0 HE1; go_wp2_with fail; refine wp_region_noPanic ?_; refine wp_region_held_drew (S := fun x => Qoc x gc c) (by kernel_rfl) H3.out.drew.2.1 (fun hHeld => ?_); refine wpAnyH_take (i := 0) (v := .pointer (some ⟨gc, 2, none⟩)) rfl (by kernel_rfl) (by kernel_rfl) (by kernel_rfl) (fun _ _ _ h => h) (Or.inl ⟨by kernel_rfl, fun w hSw => by go_simp⟩) hHeld ?_; (try simp only [Act.put]); refine wpAnyH_take (i := 1) (v := .int .i64 (i : Int)) rfl (by kernel_rfl) (by kernel_rfl) (by kernel_rfl) (fun _ _ _ h => h) (Qyj (by kernel_rfl) 3 (.tmp 38) rfl _ _ rfl (fun y hy => Qdo y i hi hy)) hHeld ?_; (try simp only [Act.put]); refine wpAnyH_take (i := 2) (v := .agg (chA c)) rfl (by kernel_rfl) (by kernel_rfl) (by kernel_rfl) (fun _ _ _ h => h) (Qyj (by kernel_rfl) 26 (.tmp 4) rfl _ _ rfl (fun y hy => load_ch y hy)) hHeld ?_; (try simp only [Act.put]); refine wpAnyH_take (i := 4) (v := .pointer (some ⟨w.heap.size, 1, none⟩)) rfl (by kernel_rfl) (by kernel_rfl) (by kernel_rfl) (fun _ _ _ h => h) (Or.inl ⟨by kernel_rfl, fun w hSw => by go_simp⟩) hHeld ?_; (try simp only [Act.put]); refine wpAnyH_ready (rs := [3]) (by kernel_rfl) (by simp) ?_; refine AllReadyH.cons rfl (fun K hK => ?_) AllReadyH.nil; go_simp; refine (made_any c _).mono ?_; rintro e w5 ⟨rfl, hb5⟩; have H5 := Qd (H3.out.drew.later hb5); clear hb5 H3; go_wp2_with fail; refine hK.out _ _ H5.out.2.1 (fun hHeld5 => ?_); clear hK K; (try simp only [Act.put]); refine wpAnyH_take (i := 5) (v := .pointer (some ⟨w.heap.size, 1 + i * 2, none⟩)) rfl (by kernel_rfl) (by kernel_rfl) (by kernel_rfl) (fun _ _ _ h => h) (Or.inl ⟨by kernel_rfl, fun w hSw => by go_simp⟩) hHeld5 ?_; (try simp only [Act.put]); have q1 := H5.out.1.used i hi8; have q2 := H5.out.1.val i hi8; have s1 := H5.out.1.free (1 + i * 2); have s2 := H5.out.1.free (1 + i * 2 + 1); have HN := Qd (put_mem H5.out hi8 l c.makeU c.makeV); have hHeld6 := Qd (show Qoc ((w5.setCell ⟨w.heap.size, 1 + i * 2, none⟩ (.bool c.makeU)).setCell ⟨w.heap.size, 1 + i * 2 + 1, none⟩ (.string c.makeV)) gc c from (Qb.other (Qb.other (show Qb _ gc 26 (chA c) from H5.out.2.1) _ _ (by have := H5.out.2.2.2.2; simp; omega)) _ _ (by have := H5.out.2.2.2.2; simp; omega))); simp only [ceA]; refine wpAnyH_ready (rs := [6]) (by kernel_rfl) (by simp) ?_; refine AllReadyH.cons rfl (fun K hK => ?_) AllReadyH.nil; go_simp; refine hK.out _ _ hHeld6.out (fun _ => ?_); clear hK K; (try simp only [Act.put]); refine wpAnyH_done (by kernel_rfl) ?_ _
    refine NoPanic.normal ?_; have t3 := H5.out.1.free 0; have t4 := H5.out.1.lsn; clear hHeld hHeld5 hHeld6 H5; go_wp2_with (first | (refine Qta ?hw (.tmp 3) ?ho w.heap.size ?hx (p.put l i c.makeU c.makeV) ?hg ?_; (case ho => rfl); (case hw => rfl); (case hx => rfl); (case hg => exact HN.out.1)) | (refine Qab ?hw (.tmp 6) (.tmp 46) ?ho gr Pg.zero (p.put l i c.makeU c.makeV) ?hx ?hy ?hg ?_; (case ho => rfl); (case hw => rfl); (case hx => rfl); (case hy => rfl); (case hg => exact HN.out.2.1))); intro w7 hP7 hk; have HP7 := Qd hP7; have d7 := hk _ _ HN.out.2.2.1 (by have := HN.out.2.2.2; omega); clear hP7 hk HN q1 q2 s1 s2 t3 t4; go_wp2; exact bodyPost_ret (Qag rfl _ _ gr _ rfl HP7.out) rfl ⟨rfl, d7⟩
  · have hz := HE1.out h0; subst hz; have k0 : (er == 0) = false := by simpa using h0
    clear HE0 HE1 h0; go_wp2_with (refine Qab rfl _ _ rfl gr Pg.zero Pg.zero rfl rfl H3.out.2.2.1 ?_); intro w7 hP7 hk; have HP7 := Qd hP7; have d7 := hk _ _ H3.out.2.2.2.1 (by have := H3.out.2.2.2.2; omega); clear hP7 hk H3; go_wp2; exact bodyPost_ret (Qag rfl _ _ gr Pg.zero rfl HP7.out) rfl ⟨rfl, d7⟩
theorem Qkq (k : Int) (w : World) (hk : k = 1 ∨ k = 2 ∨ k = 3) :
    Calls Try.prog 66 #[.int .i64 k] w fun e w' => e = .returned (.int .i64 (4 - k)) /\ w = w' := by
  rcases hk with rfl | rfl | rfl
  all_goals
    go_enter Try.func66, Try.ntmps66; go_wp2; go_ret; exact ⟨rfl, rfl⟩
theorem load_int {b : Nat} (x : World) (j : Nat) (v : Int) (h : x.cell? ⟨b, j, none⟩ = some (.int .i64 v)) : (Instr.loadAt 3 (.pointer (some ⟨b, j, none⟩))).run Try.prog x = .ok (.int .i64 v) x := by go_simp
theorem load_str {b : Nat} (x : World) (j : Nat) (s : ByteArray) (h : x.cell? ⟨b, j, none⟩ = some (.string s)) : (Instr.loadAt 9 (.pointer (some ⟨b, j, none⟩))).run Try.prog x = .ok (.string s) x := by go_simp
def Qnm (w : World) (gr : Nat) (c : Ch) (x : World) : Prop := Qb x w.heap.size 26 (chA c) /\ Qb x gr 26 (chA Ch.zero) /\ Below w.heap.size w x /\ w.heap.size < gr
theorem Qnm.later {w x y : World} {gr : Nat} {c : Ch} (h : Qnm w gr c x) (hb : Below x.heap.size x y) : Qnm w gr c y :=
  ⟨h.1.later hb, h.2.1.later hb, h.2.2.1.trans (hb.mono (Nat.le_of_lt h.1.lt)), h.2.2.2⟩
theorem Qnm.drew {w x : World} {gr : Nat} {c : Ch} (h : Qnm w gr c x) : Qnm w gr c x.drew := ⟨h.1, h.2.1, Qo h.2.2.1 1, h.2.2.2⟩
theorem Qzq (c : Ch) (w : World) :
    Calls Try.prog 50 #[.agg (chA c)] w fun e w' => e = .returned (.tuple #[.agg (chA (Qfe c)), .int .i64 (invE c)]) /\ Below w.heap.size w w' := by
  have HP : Hid (Qnm w (w.heap.size + 1) c ((w.alloc (.cells (chA c) 26)).alloc (.cells #[.int .i64 0, .int .i64 0, .int .i64 0, .string ⟨#[]⟩, .string ⟨#[]⟩] 26))) := by
    obtain ⟨h1, h2, h3⟩ := Qsn w (chA c) #[.int .i64 0, .int .i64 0, .int .i64 0, .string ⟨#[]⟩, .string ⟨#[]⟩] 26 26; exact ⟨h1, h2, h3, by omega⟩
  go_enter Try.func50, Try.ntmps50; obtain ⟨gr, hg⟩ : ∃ g, g = w.heap.size + 1 := ⟨_, rfl⟩; rw [<- hg] at HP
  by_cases h : c.right
  · have HR := Qd (fun w => Qae c w true (Qd (decide_eq_true h))); have e1 : invE c = 0 := by unfold invE; rw [if_pos h]
    have e2 : Qfe c = ⟨4 - c.k, c.pg, c.sl, c.n, c.o⟩ := by unfold Qfe; rw [if_pos h]
    have HK := Qd (fun w => Qkq c.k w (by rcases h.2 with h | h | h <;> omega)); rw [e1, e2]; clear e1 e2 h; go_wp2_with (refine Qe rfl 26 (.tmp 1) rfl w.heap.size rfl (chA c) HP.out.1 _ Try.underlying26 rfl Qq ?_); rw [<- hg]; refine Qda (fun x => Hid (Qnm w gr c x)) HP ?_; clear HP hg; intro w0 H0; refine (HR.out _).mono ?_; rintro e w1 ⟨rfl, hb1⟩; have H1 := Qd (H0.out.later hb1); clear H0 hb1 HR; go_wp2_with fail; obtain ⟨a0, a1, a2, a3, a4⟩ := Qoc.all (show Qoc w1 w.heap.size c from H1.out.1); have lw : w.heap.size < w1.heap.size := H1.out.1.lt; have n1 : ¬ w1.heap.size = w.heap.size := by omega
    have n2 : ¬ w.heap.size = w1.heap.size := by omega
    generalize ek : c.k = k at *; generalize epg : c.pg = pg at *; generalize esl : c.sl = sl at *; generalize eo : c.o = o at *; generalize en : c.n = n at *
    go_region_held3 (fun x => x.cell? ⟨w.heap.size, 0, none⟩ = some (.int .i64 k) /\ x.cell? ⟨w.heap.size, 1, none⟩ = some (.int .i64 pg) /\ x.cell? ⟨w.heap.size, 2, none⟩ = some (.int .i64 sl) /\ x.cell? ⟨w.heap.size, 3, none⟩ = some (.string o) /\ x.cell? ⟨w.heap.size, 4, none⟩ = some (.string n)) (go_keep)
      (first | (go_at_call 66; refine (HK.out _).mono ?_; rintro e w5 ⟨rfl, rfl⟩))
    all_goals
      have HN : Hid (Qb (w1.alloc (.cells #[.int .i64 (4 - k), .int .i64 pg, .int .i64 sl, .string n, .string o] 26)).drew w1.heap.size 26 (chA ⟨4 - k, pg, sl, n, o⟩) /\ Qb (w1.alloc (.cells #[.int .i64 (4 - k), .int .i64 pg, .int .i64 sl, .string n, .string o] 26)).drew gr 26 (chA Ch.zero) /\ Below w.heap.size w (w1.alloc (.cells #[.int .i64 (4 - k), .int .i64 pg, .int .i64 sl, .string n, .string o] 26)).drew /\ w.heap.size < gr) := ⟨Qb.new w1 26 (chA ⟨4 - k, pg, sl, n, o⟩), (H1.out.later ((Below.refl w1.heap.size w1).alloc (Nat.le_refl _) _)).drew.2⟩; clear H1 a0 a1 a2 a3 a4 n1 n2 HK; go_wp2_with (first | (refine Qe rfl 26 (.tmp 4) rfl w1.heap.size rfl (chA ⟨4 - k, pg, sl, n, o⟩) HN.out.1 _ Try.underlying26 rfl Qq ?_) | (refine Qc rfl 26 (.tmp 2) (.tmp 21) rfl gr (chA Ch.zero) (chA ⟨4 - k, pg, sl, n, o⟩) rfl rfl HN.out.2.1 Qq rfl (Qpa _) ?_)); intro w2 hr2 hk2 _; have d2 := hk2 _ _ HN.out.2.2.1 (by have := HN.out.2.2.2; omega); have HR2 := Qd hr2; clear hr2 hk2 HN; go_wp2; refine bodyPost_ret (Qfc rfl _ _ gr (chA ⟨4 - k, pg, sl, n, o⟩) _ rfl HR2.out Try.underlying26 rfl Qq) rfl ⟨?_, d2⟩; rw [ek, epg, esl, eo, en]; rfl
  · have HR := Qd (fun w => Qae c w false (Qd (decide_eq_false h))); have e1 : invE c = 1 := by unfold invE; rw [if_neg h]
    have e2 : Qfe c = Ch.zero := by unfold Qfe; rw [if_neg h]
    rw [e1, e2]; clear e1 e2 h; go_wp2_with (refine Qe rfl 26 (.tmp 1) rfl w.heap.size rfl (chA c) HP.out.1 _ Try.underlying26 rfl Qq ?_); rw [<- hg]; refine Qda (fun x => Hid (Qnm w gr c x)) HP ?_; clear HP hg; intro w0 H0; refine (HR.out _).mono ?_; rintro e w1 ⟨rfl, hb1⟩; have H1 := Qd (H0.out.later hb1); clear H0 hb1 HR; go_wp2_with (refine Qc rfl 26 (.tmp 2) (.tmp 8) rfl gr (chA Ch.zero) (chA Ch.zero) rfl rfl H1.out.2.1 Qq rfl (Qpa _) ?_); intro w2 hr2 hk2 _; have d2 := hk2 _ _ H1.out.2.2.1 (by have := H1.out.2.2.2; omega); have HR2 := Qd hr2; clear hr2 hk2 H1; go_wp2; exact bodyPost_ret (Qfc rfl _ _ gr (chA Ch.zero) _ rfl HR2.out Try.underlying26 rfl Qq) rfl ⟨rfl, d2⟩
theorem clr15 (v : Value) (ms : List (Rec × Value × Value)) (i : Nat) (w : World) (h : LogIn w v ms) (hr : Qob 0 (msR ms)) (hi : i < ms.length) :
    Calls Try.prog 32 #[v, .int .i64 (i : Int)] w fun e w' => e = .returned (.agg (rcF (Qqu (msR ms) (ms.getD i rcZ).1))) /\ Below w.heap.size w w' := by
  have hb0 : Below w.heap.size w (w.alloc (.cells Qaa 30)) := (Below.refl _ _).alloc (Nat.le_refl _) _; obtain ⟨gR, hgR⟩ : ∃ g, g = w.heap.size := ⟨_, rfl⟩
  have H0 : Hid (Qb (w.alloc (.cells Qaa 30)) gR 30 Qaa /\ Below w.heap.size w (w.alloc (.cells Qaa 30))) := by
    rw [hgR]; exact ⟨Qb.new w _ _, hb0⟩
  clear hb0; have HA := Qd h; obtain ⟨aa, ca, rfl, hlc⟩ := h.slice; have hl := h.few; obtain ⟨b, off, rfl, hf, _, hx⟩ := h.mid hi; obtain ⟨ln, hln⟩ : ∃ ln, ln = ms.length := ⟨_, rfl⟩; have HNX := Qd (fun x k (hb : Below w.heap.size w x) => next15 _ ms k x (h.below hb) hr); clear h hr; rw [<- hln] at HA HNX hl hlc hi |-; have HN := Qd hln; clear hln; obtain ⟨m, hm⟩ : ∃ m, m = ms.getD i rcZ := ⟨_, rfl⟩; rw [<- hm] at hx |-; clear hm hf; have ij : (i : Int) < (ln : Int) := by omega
  have i0 : ¬ (i : Int) < 0 := by omega
  have HX := Qd hx; clear hx; have HGR := Qd hgR; have HI := Qd (fun w => Qzq m.1.c w); go_enter Try.func32, Try.ntmps32; go_wp2_with (refine Qr rfl 26 (.tmp 11) rfl _ (.agg (chA m.1.c)) rfl (Qhj _ b (off + i * 14) m (HX.out _ H0.out.2).1) ?_); rw [<- hgR]; refine Qda (fun x => Qb x gR 30 Qaa /\ Below w.heap.size w x) H0.out ?_; intro y HY; have HYY := Qd HY; clear HY H0 hgR; refine (HI.out y).mono ?_; rintro e w1 ⟨rfl, hb1⟩; have H1 := Qd (And.intro (HYY.out.1.later hb1) (HYY.out.2.trans (hb1.mono HYY.out.2.size))); clear hb1 HYY HI; obtain ⟨c, hc⟩ : ∃ c, c = Qfe m.1.c := ⟨_, rfl⟩; rw [<- hc]; have HC := Qd hc; clear hc; have hb2 : Below w1.heap.size w1 (w1.alloc (.cells (chA Ch.zero) 26)) := (Below.refl _ _).alloc (Nat.le_refl _) _; obtain ⟨gC, hgC⟩ : ∃ g, g = w1.heap.size := ⟨_, rfl⟩
  have HZ : Hid (Qb (w1.alloc (.cells (chA Ch.zero) 26)) gC 26 (chA Ch.zero) /\ Qb (w1.alloc (.cells (chA Ch.zero) 26)) gR 30 Qaa /\ Below w.heap.size w (w1.alloc (.cells (chA Ch.zero) 26)) /\ w.heap.size <= gC) := by
    rw [hgC]; exact ⟨Qb.new w1 _ _, H1.out.1.later hb2, H1.out.2.trans (hb2.mono H1.out.2.size), H1.out.2.size⟩
  have HGC := Qd hgC; clear hb2 hgC; go_wp2_with (refine Qc rfl 26 (.tmp 5) (.tmp 14) rfl gC (chA Ch.zero) (chA c) ?h1 rfl HZ.out.1 Qq rfl (Qpa _) ?_; (case h1 => rw [HGC.out]; rfl); intro w2 hr2 hk2 hrow2; refine Qha ?_); have hb2 := hk2 _ _ HZ.out.2.2.1 HZ.out.2.2.2
  have H2 : Hid (Qb w2 gC 26 (chA c) /\ Qb w2 gR 30 Qaa /\ Below w.heap.size w w2 /\ gR ≠ gC) := by
    have hne : gR ≠ gC := fun e => by
      have h1 := HZ.out.1; rw [<- e] at h1; exact absurd (Qma h1 HZ.out.2.1) (by decide)
    exact ⟨hr2, hrow2 gR _ _ hne HZ.out.2.1, hb2, hne⟩
  clear hr2 hk2 hrow2 hb2 HZ H1; refine Qj ?_; go_wp2_with fail; rw [<- HGC.out]; have HD : Hid (Qb w2.drew gC 26 (chA c) /\ Qb w2.drew gR 30 Qaa /\ Below w.heap.size w w2.drew) := Qd ⟨H2.out.1, H2.out.2.1, Qo H2.out.2.2.1 1⟩; have HGO := Qd H2.out.2.2.2; clear H2; refine wp_region_noPanic ?_; refine wp_region_held_drew (S := fun z => Qb z gC 26 (chA c) /\ z.rangeAt b (off + i * 14) (rcF m).toList) (by kernel_rfl) (⟨HD.out.1, (HX.out _ HD.out.2.2).1⟩) (fun hHeld => ?_); refine tkq 0 (some 16) (.slice (some ⟨b, off, none⟩) ln ca) hHeld ?_; (try simp only [Act.put, List.setIfInBounds_toArray, List.set]); refine tkq 1 (some 17) (.int .i64 (i : Int)) hHeld ?_; (try simp only [Act.put, List.setIfInBounds_toArray, List.set]); refine tkq 2 (some 18) (.pointer (some ⟨b, off + i * 14, none⟩)) hHeld ?_; (try simp only [Act.put, List.setIfInBounds_toArray, List.set]); refine tkq 3 (some 19) (.pointer (some ⟨b, off + i * 14 + 2, none⟩)) hHeld ?_; (try simp only [Act.put, List.setIfInBounds_toArray, List.set]); refine tkk 4 (some 20) (.int .i64 m.1.t) rfl rfl (by kernel_rfl) (by kernel_rfl) (fun x hSx => by have h := (Qhl hSx.2).2.1; go_simp) hHeld ?_; (try simp only [Act.put, List.setIfInBounds_toArray, List.set]); refine Qa 5 (some 21) (.agg #[.int .i64 c.k, .int .i64 c.pg, .int .i64 c.sl, .string c.o, .string c.n]) rfl rfl (by kernel_rfl) (by kernel_rfl) (by kernel_rfl) (fun _ _ _ h => h) (Qp (by kernel_rfl) 26 _ rfl (.pointer (some ⟨gC, 0, none⟩)) rfl _ (fun x hSx => Qdk x gC c hSx.1)) hHeld ?_; (try simp only [Act.put, List.setIfInBounds_toArray, List.set]); refine tkq 6 (some 22) (.slice (some ⟨b, off, none⟩) ln ca) hHeld ?_; (try simp only [Act.put, List.setIfInBounds_toArray, List.set]); refine tkq 7 (some 23) (.slice (some ⟨b, off, none⟩) ln ca) hHeld ?_; (try simp only [Act.put, List.setIfInBounds_toArray, List.set]); refine tkq 8 (some 24) (.int .i64 (i : Int)) hHeld ?_; (try simp only [Act.put, List.setIfInBounds_toArray, List.set]); refine tkq 9 (some 25) (.pointer (some ⟨b, off + i * 14, none⟩)) hHeld ?_; (try simp only [Act.put, List.setIfInBounds_toArray, List.set]); refine tkq 10 (some 26) (.pointer (some ⟨b, off + i * 14 + 3, none⟩)) hHeld ?_; (try simp only [Act.put, List.setIfInBounds_toArray, List.set]); refine tkk 11 (some 27) (.int .u64 (m.1.p : Int)) rfl rfl (by kernel_rfl) (by kernel_rfl) (fun x hSx => by have h := (Qhl hSx.2).2.2.1; go_simp) hHeld ?_; (try simp only [Act.put, List.setIfInBounds_toArray, List.set])
  refine Qg 12 (by kernel_rfl) ?_; refine Qwa (some 28) rfl rfl rfl 30 #[.slice (some ⟨b, off, none⟩) ln ca, .int .u64 (m.1.p : Int)] ?he ((HNX.out _ m.1.p HD.out.2.2).mono ?_); (case he => go_simp); rintro e w3 ⟨rfl, hb3⟩; have H3 : Hid (Qb w3 gC 26 (chA c) /\ Qb w3 gR 30 Qaa /\ Below w.heap.size w w3) := Qd ⟨HD.out.1.later hb3, HD.out.2.1.later hb3, HD.out.2.2.trans (hb3.mono HD.out.2.2.size)⟩; obtain ⟨q, hq⟩ : ∃ q, q = Qca (msR ms) m.1.p := ⟨_, rfl⟩; rw [<- hq]; have HQ := Qd hq; clear hb3 hq; refine ⟨_, rfl, ⟨H3.out.1, (HX.out _ H3.out.2.2).1⟩, ?_⟩; (try simp only [Act.put, List.setIfInBounds_toArray, List.set]); have hHeld := (show Qb w3 gC 26 (chA c) /\ w3.rangeAt b (off + i * 14) (rcF m).toList from ⟨H3.out.1, (HX.out _ H3.out.2.2).1⟩); refine tkq 13 (some 29) (.agg #[.int .i64 2, .int .u64 0, .int .i64 m.1.t, .int .u64 0, .int .i64 c.k, .int .i64 c.pg, .int .i64 c.sl, .string c.o, .string c.n, .int .u64 (q : Int), .int .i64 0, .int .u64 0, .slice none 0 0, .slice none 0 0]) hHeld ?_; (try simp only [Act.put, List.setIfInBounds_toArray, List.set]); refine Qg 14 (by kernel_rfl) ?_; refine Qoa rfl rfl rfl 30 (.tmp 4) (.tmp 29) rfl gR 0 30 Qaa #[.int .i64 2, .int .u64 0, .int .i64 m.1.t, .int .u64 0, .int .i64 c.k, .int .i64 c.pg, .int .i64 c.sl, .string c.o, .string c.n, .int .u64 (q : Int), .int .i64 0, .int .u64 0, .slice none 0 0, .slice none 0 0] ?hp rfl H3.out.2.1 Qv (by simp [Qaa]) (by simp [Value.oneCell']) ?_; (case hp => rw [HGR.out]; rfl); intro w4 hr4 ho4; have hpa := Qpc Qaa #[.int .i64 2, .int .u64 0, .int .i64 m.1.t, .int .u64 0, .int .i64 c.k, .int .i64 c.pg, .int .i64 c.sl, .string c.o, .string c.n, .int .u64 (q : Int), .int .i64 0, .int .u64 0, .slice none 0 0, .slice none 0 0] rfl; rw [hpa] at hr4; have H4 : Hid (Qb w4 gR 30 #[.int .i64 2, .int .u64 0, .int .i64 m.1.t, .int .u64 0, .int .i64 c.k, .int .i64 c.pg, .int .i64 c.sl, .string c.o, .string c.n, .int .u64 (q : Int), .int .i64 0, .int .u64 0, .slice none 0 0, .slice none 0 0] /\ Below w.heap.size w w4) := Qd ⟨hr4, ho4.below H3.out.2.2 (by rw [HGR.out]; exact Nat.le_refl _)⟩; refine ⟨⟨ho4.row H3.out.1 (fun e => HGO.out e.symm), (HX.out _ H4.out.2).1⟩, ?_⟩; clear hr4 ho4; (try simp only [Act.put, List.setIfInBounds_toArray, List.set]); refine wpAnyH_done (by kernel_rfl) ?_ _; refine NoPanic.normal ?_; go_wp2; refine bodyPost_ret (Qxd rfl _ _ gR _ _ ?hp H4.out.1 Try.underlying30 rfl Qv) rfl ⟨?_, H4.out.2⟩; (case hp => rw [HGR.out]; rfl)
  rw [HQ.out, HC.out]; rfl
theorem Next15 (v : Value) (ms : List (Rec × Value × Value)) (n : Nat) (w : World) (h : LogIn w v ms) :
    Calls Try.prog 17 #[v, .int .u64 (n : Int)] w fun e w' => ((Qob 0 (msR ms) /\ e = .returned (.tuple #[.int .u64 (Qca (msR ms) n : Int), .int .i64 0])) ∨ (¬ Qob 0 (msR ms) /\ e = .returned (.tuple #[.int .u64 0, .int .i64 2]))) /\ Below w.heap.size w w' := by
  have HG := Qd (Qov v ms w h); have HA := Qd h
  by_cases hr : Qob 0 (msR ms)
  · rw [(Qvd _ _).2 hr] at HG; have HR := Qd hr; clear h hr; go_enter Try.func17, Try.ntmps17; go_wp2_with fail; refine HG.out.mono ?_; rintro e w1 ⟨rfl, hb1⟩; have HN := Qd (next15 v ms n w1 (HA.out.below hb1) HR.out); have HB := Qd hb1; clear hb1 HG; go_wp2_with fail; refine HN.out.mono ?_; rintro e w2 ⟨rfl, hb2⟩; have HB2 := Qd (HB.out.trans (hb2.mono HB.out.size)); clear hb2 HN HB; go_wp2; go_ret2; exact ⟨.inl ⟨HR.out, rfl⟩, HB2.out⟩
  · rw [Qnr hr] at HG; have HR := Qd hr; clear h hr; go_enter Try.func17, Try.ntmps17; go_wp2_with fail; refine HG.out.mono ?_; rintro e w1 ⟨rfl, hb1⟩; have HB := Qd hb1; clear hb1 HG; go_wp2; go_ret2; exact ⟨.inr ⟨HR.out, rfl⟩, HB.out⟩
theorem Clr15 (v : Value) (ms : List (Rec × Value × Value)) (n : Nat) (w : World) (h : LogIn w v ms) :
    Calls Try.prog 18 #[v, .int .u64 (n : Int)] w fun e w' => ((Qob 0 (msR ms) /\ e = .returned (.tuple #[.agg (rcF (Qvv (msR ms) n).1), .int .i64 (Qvv (msR ms) n).2])) ∨ (¬ Qob 0 (msR ms) /\ e = .returned (.tuple #[.agg (rcF rcZ), .int .i64 2]))) /\ Below w.heap.size w w' := by
  have hb0 : Below w.heap.size w (w.alloc (.cells Qaa 30)) := (Below.refl _ _).alloc (Nat.le_refl _) _; obtain ⟨gR, hgR⟩ : ∃ g, g = w.heap.size := ⟨_, rfl⟩
  have H0 : Hid (Qb (w.alloc (.cells Qaa 30)) gR 30 Qaa /\ Below w.heap.size w (w.alloc (.cells Qaa 30))) := by
    rw [hgR]; exact ⟨Qb.new w _ _, hb0⟩
  clear hb0; have HG := Qd (fun x (hx : Below w.heap.size w x) => Qov v ms x (h.below hx)); have HA := Qd h; obtain ⟨aa, ca, rfl, hlc⟩ := h.slice; have hl := h.few; have HGR := Qd hgR; have hall0 : Qaa.all (·.oneCell') = true := by simp [Qaa, Value.oneCell']
  clear h
  by_cases hr : Qob 0 (msR ms)
  · rw [(Qvd _ _).2 hr] at HG; have HR := Qd hr; have HF := Qd (fun x (hx : Below w.heap.size w x) => find15 _ ms n x (HA.out.below hx) hr); have HC := Qd (fun i x (hx : Below w.heap.size w x) (hi : i < ms.length) => clr15 _ ms i x (HA.out.below hx) hr hi); clear hr; obtain ⟨ln, hln⟩ : ∃ ln, ln = ms.length := ⟨_, rfl⟩; rw [<- hln] at HA HF HC HG hl hlc |-; have HN := Qd hln; clear hln; go_enter Try.func18, Try.ntmps18; go_wp2_with fail; rw [<- hgR]; refine Qda (fun x => Qb x gR 30 Qaa /\ Below w.heap.size w x) H0.out ?_; intro y HY; have HYY := Qd HY; clear HY H0 hgR; refine (HG.out y HYY.out.2).mono ?_; rintro e w1 ⟨rfl, hb1⟩; have H1 := Qd (And.intro (HYY.out.1.later hb1) (HYY.out.2.trans (hb1.mono HYY.out.2.size))); clear hb1 HYY HG; go_wp2_with fail; refine (HF.out w1 H1.out.2).mono ?_; rintro e w2 ⟨i, q, rfl, hcase, hb2⟩; have H2 := Qd (And.intro (H1.out.1.later hb2) (H1.out.2.trans (hb2.mono H1.out.2.size))); clear hb2 H1 HF
    rcases hcase with ⟨rfl, hi, he⟩ | ⟨rfl, hno⟩
    · obtain ⟨b, off, rfl, hf, _, hx⟩ := HA.out.mid hi; have hmem := Qnv hi; have ij : (i : Int) < (ln : Int) := by have := HN.out; omega
      have HCC := Qd (fun x (hx : Below w.heap.size w x) => HC.out i x hx (by have := HN.out; omega)); clear HC; obtain ⟨m, hm⟩ : ∃ m, m = ms.getD i rcZ := ⟨_, rfl⟩; rw [<- hm] at hx hmem he HCC; clear hm hf; obtain ⟨c0, -⟩ := Qhl (hx w2 H2.out.2).1; clear hx hi
      by_cases hk : m.1.k = 1
      · have HE := Qd (show Qvv (msR ms) n = (Qqu (msR ms) m.1, 0) by rw [<- he]; exact Qjs HR.out hmem hk); have hall : (rcF (Qqu (msR ms) m.1)).all (·.oneCell') = true := Qjw (clrM_in _ _ w); clear hmem he; go_wp2_with fail; refine (HCC.out w2 H2.out.2).mono ?_; rintro e w3 ⟨rfl, hb3⟩; have H3 := Qd (And.intro (H2.out.1.later hb3) (H2.out.2.trans (hb3.mono H2.out.2.size))); clear hb3 H2 HCC; go_wp2_with (refine Qc rfl 30 (.tmp 4) (.tmp 31) rfl gR Qaa (rcF (Qqu (msR ms) m.1)) rfl rfl H3.out.1 Qv rfl hall ?_; intro w4 hr4 hk4 hrow4; refine Qha ?_); have hb4 := hk4 _ _ H3.out.2 (by rw [HGR.out]; exact Nat.le_refl _); have H4 := Qd (And.intro hr4 hb4); clear hr4 hk4 hrow4 hb4 H3; refine Qj ?_; go_wp2; refine bodyPost_ret (Qfc rfl _ _ gR _ _ rfl H4.out.1 Try.underlying30 rfl Qv) rfl ⟨.inl ⟨HR.out, ?_⟩, H4.out.2⟩; rw [HE.out]; rfl
      · have HE := Qd (show Qvv (msR ms) n = (rcZ, 5) by rw [<- he]; exact clrA_no HR.out hmem hk); have hk' : (m.1.k == 1) = false := by simpa using hk
        clear hmem he; go_wp2_with (refine Qc rfl 30 (.tmp 4) (.tmp 28) rfl gR Qaa Qaa rfl rfl H2.out.1 Qv rfl hall0 ?_; intro w4 hr4 hk4 hrow4; refine Qha ?_); have hb4 := hk4 _ _ H2.out.2 (by rw [HGR.out]; exact Nat.le_refl _); have H4 := Qd (And.intro hr4 hb4); clear hr4 hk4 hrow4 hb4 H2; refine Qj ?_; go_wp2; refine bodyPost_ret (Qfc rfl _ _ gR _ _ rfl H4.out.1 Try.underlying30 rfl Qv) rfl ⟨.inl ⟨HR.out, ?_⟩, H4.out.2⟩; rw [HE.out]; rfl
    · have HE := Qd (Qlv hno); go_wp2_with (refine Qc rfl 30 (.tmp 4) (.tmp 28) rfl gR Qaa Qaa rfl rfl H2.out.1 Qv rfl hall0 ?_; intro w4 hr4 hk4 hrow4; refine Qha ?_); have hb4 := hk4 _ _ H2.out.2 (by rw [HGR.out]; exact Nat.le_refl _); have H4 := Qd (And.intro hr4 hb4); clear hr4 hk4 hrow4 hb4 H2; refine Qj ?_; go_wp2; refine bodyPost_ret (Qfc rfl _ _ gR _ _ rfl H4.out.1 Try.underlying30 rfl Qv) rfl ⟨.inl ⟨HR.out, ?_⟩, H4.out.2⟩; rw [HE.out]; rfl
  · rw [Qnr hr] at HG; have HR := Qd hr; clear hr; obtain ⟨ln, hln⟩ : ∃ ln, ln = ms.length := ⟨_, rfl⟩; rw [<- hln] at HA HG hl hlc |-; clear hln; go_enter Try.func18, Try.ntmps18; go_wp2_with fail; rw [<- hgR]; refine Qda (fun x => Qb x gR 30 Qaa /\ Below w.heap.size w x) H0.out ?_; intro y HY; have HYY := Qd HY; clear HY H0 hgR; refine (HG.out y HYY.out.2).mono ?_; rintro e w1 ⟨rfl, hb1⟩; have H1 := Qd (And.intro (HYY.out.1.later hb1) (HYY.out.2.trans (hb1.mono HYY.out.2.size))); clear hb1 HYY HG; go_wp2_with (refine Qc rfl 30 (.tmp 4) (.tmp 11) rfl gR Qaa Qaa rfl rfl H1.out.1 Qv rfl hall0 ?_; intro w4 hr4 hk4 hrow4; refine Qha ?_); have hb4 := hk4 _ _ H1.out.2 (by rw [HGR.out]; exact Nat.le_refl _); have H4 := Qd (And.intro hr4 hb4); clear hr4 hk4 hrow4 hb4 H1; refine Qj ?_; go_wp2; refine bodyPost_ret (Qfc rfl _ _ gR _ _ rfl H4.out.1 Try.underlying30 rfl Qv) rfl ⟨.inr ⟨HR.out, rfl⟩, H4.out.2⟩
theorem Qit {x : World} {b o : Nat} {m : Rec × Value × Value} (h : x.rangeAt b o (rcF m).toList) : x.cell? ⟨b, o + 1, none⟩ = some (.int .u64 (m.1.l : Int)) /\ x.cell? ⟨b, o + 2, none⟩ = some (.int .i64 m.1.t) := ⟨h 1 _ rfl, h 2 _ rfl⟩
theorem lastT_back (l : List Rec) (t : Int) : ∀ (m : List Rec), (∀ r ∈ m, r.t ≠ t) -> Qfd (l ++ m) t = Qfd l t := by
  intro m
  induction m using Qpb with
  | h0 => intro _; rw [List.append_nil]
  | h1 m s ih =>
    intro h; rw [<- List.append_assoc, Qhc, if_neg (fun x => h s (by simp) x.2)]; exact ih (fun r hr => h r (List.mem_append.2 (.inl hr)))
theorem last15 (v : Value) (ms : List (Rec × Value × Value)) (t : Int) (w : World) (h : LogIn w v ms) :
    Calls Try.prog 13 #[v, .int .i64 t] w fun e w' => e = .returned (.int .u64 (Qfd (msR ms) t : Int)) /\ Below w.heap.size w w' := by
  by_cases ht : t < 1
  · rw [Qii _ _ (fun r hr x => by omega)]; go_enter Try.func13, Try.ntmps13; go_wp2; go_ret; exact ⟨rfl, Below.refl _ _⟩
  · have HA := Qd h; obtain ⟨aa, ca, rfl, hlc⟩ := h.slice; have hl := h.few; clear h; obtain ⟨ln, hln⟩ : ∃ ln, ln = ms.length := ⟨_, rfl⟩; rw [<- hln] at HA hl hlc |-; have HN := Qd hln; clear hln; obtain ⟨q, hq⟩ : ∃ q, q = Qfd (msR ms) t := ⟨_, rfl⟩; have HQ := Qd hq; rw [<- hq]; clear hq; go_enter Try.func13, Try.ntmps13; go_wp2; go_loopw [5] (fun i wr => ∃ (j : Nat), j <= ln /\ i = .int .i64 ((j : Int) - 1) /\ Hid (q = Qfd ((msR ms).take j) t) /\ Hid (Below w.heap.size w wr)) (fun i _ => (intOf i + 1).toNat)
    case atStart => exact ⟨ln, Nat.le_refl _, rfl, by show q = _; rw [HQ.out, HN.out, <- Qhe, List.take_length], Below.refl _ _⟩
    case round =>
      obtain ⟨j, hj, rfl, HTK, HBR⟩ := hrel
      cases j with
      | zero =>
        have i0 : ¬ (0 : Int) <= ((0 : Nat) : Int) - 1 := by omega
        go_wp2; go_ret; refine ⟨?_, HBR.out⟩; have h1 := HTK.out; rw [List.take_zero] at h1; rw [h1]; rfl
      | succ j =>
        have hjm : j < ms.length := by rw [<- HN.out]; omega
        have HS := Qd (Qqh hjm); obtain ⟨b, off, rfl, hf, _, hx⟩ := HA.out.mid hjm; obtain ⟨m, hm⟩ : ∃ m, m = ms.getD j rcZ := ⟨_, rfl⟩; rw [<- hm] at hf hx HS; clear hm; obtain ⟨c1, c2⟩ := Qit (hx wr HBR.out).1; clear hf hx; have e0 : (((j + 1 : Nat) : Int) - 1) = (j : Int) := by omega
        rw [e0]; have ij : (j : Int) < (ln : Int) := by omega
        have i1 : (0 : Int) <= (j : Int) := by omega
        by_cases hm : m.1.t = t
        · go_wp2; go_ret; refine ⟨?_, HBR.out⟩; have h1 := HTK.out; rw [HS.out, Qhc, if_pos ⟨by omega, hm⟩] at h1; rw [h1]; rfl
        · go_wp2; go_roundw
          case rel =>
            refine ⟨j, by omega, rfl, ?_, HBR⟩; have h1 := HTK.out; rw [HS.out, Qhc, if_neg (fun x => hm x.2)] at h1; exact h1
          case measure => simp [intOf]
theorem rlast15 (v : Value) (ms : List (Rec × Value × Value)) (t : Int) (w : World) (h : LogIn w v ms) :
    Calls Try.prog 14 #[v, .int .i64 t] w fun e w' => e = .returned (.int .u64 (Qfd (msR ms) t : Int)) /\ Below w.heap.size w w' := by
  have HA := Qd h; obtain ⟨aa, ca, rfl, hlc⟩ := h.slice; have hl := h.few; clear h; obtain ⟨ln, hln⟩ : ∃ ln, ln = ms.length := ⟨_, rfl⟩; rw [<- hln] at HA hl hlc |-; have HN := Qd hln; clear hln; go_enter Try.func14, Try.ntmps14; go_wp2; go_loopw [5, 9] (fun v i wr => ∃ (j ll : Nat), j <= ln /\ i = .int .i64 (j : Int) /\ v = .int .u64 (ll : Int) /\ Hid (ll = Qfd ((msR ms).take j) t) /\ Hid (Below w.heap.size w wr)) (fun _ i _ => ln - (intOf i).toNat)
  case atStart => exact ⟨0, 0, Nat.zero_le _, rfl, rfl, by rw [List.take_zero]; rfl, Below.refl _ _⟩
  case round =>
    obtain ⟨j, ll, hj, rfl, rfl, HLL, HBR⟩ := hrel
    by_cases hlt : j < ln
    · have hjm : j < ms.length := by rw [<- HN.out]; exact hlt
      have HS := Qd (Qqh hjm); obtain ⟨b, off, rfl, hf, _, hx⟩ := HA.out.mid hjm; obtain ⟨m, hm⟩ : ∃ m, m = ms.getD j rcZ := ⟨_, rfl⟩; rw [<- hm] at hf hx HS; clear hm; have ij : (j : Int) < (ln : Int) := by omega
      obtain ⟨c1, c2⟩ := Qit (hx wr HBR.out).1; clear hf hx
      by_cases ht : 1 <= t
      · by_cases hm : m.1.t = t
        · go_wp2; go_roundw
          case rel =>
            refine ⟨j + 1, m.1.l, by omega, by go_num, rfl, ?_, HBR⟩; rw [HS.out, Qhc, if_pos ⟨ht, hm⟩]; exact rfl
          case measure => simp [intOf]; omega
        · go_wp2; go_roundw
          case rel =>
            refine ⟨j + 1, ll, by omega, by go_num, rfl, ?_, HBR⟩; rw [HS.out, Qhc, if_neg (fun x => hm x.2)]; exact HLL.out
          case measure => simp [intOf]; omega
      · go_wp2; go_roundw
        case rel =>
          refine ⟨j + 1, ll, by omega, by go_num, rfl, ?_, HBR⟩; rw [HS.out, Qhc, if_neg (fun x => ht x.1)]; exact HLL.out
        case measure => simp [intOf]; omega
    · obtain rfl : j = ln := by omega
      go_wp2; go_ret; refine ⟨?_, HBR.out⟩; have h1 := HLL.out; rw [HN.out, <- Qhe, List.take_length] at h1; rw [h1]; rfl
def Qzf (t : Int) (c : Ch) (q : Nat) : Array Value := #[.int .i64 2, .int .u64 0, .int .i64 t, .int .u64 0, .int .i64 c.k, .int .i64 c.pg, .int .i64 c.sl, .string c.o, .string c.n, .int .u64 (q : Int), .int .i64 0, .int .u64 0, .slice none 0 0, .slice none 0 0]
theorem clr_cells (l : List Rec) (r : Rec) : rcF (Qlb (Qra l r)) = Qzf r.t (Qfe r.c) (Qca l r.p) := rfl
structure Pl (w wr : World) (l : List Rec) (all : List Rec) (u : Nat) (v : Value) (j : Nat) (ps : List Rec) : Prop where
  all : all = ps ++ Qdd l j u
  next : Qca l j = j
  own : Qzb wr w.heap.size v ps
  bel : Below w.heap.size w wr
theorem own_lt15 {w : World} {B n sz k : Nat} {e : TypeId} {v : Value} {xs : List Value} (h : w.ownsRow B e sz v n xs) (hk : v.ownBlock = some k) : k < w.heap.size := by
  rcases h.2 with ⟨rfl, _⟩ | ⟨g, cap, cur, rfl, _, h1, _⟩
  · cases hk
  · injection hk with hk; subst hk; exact (show Qb w g e cur from h1).lt
theorem Qvm {l : List Rec} (hl : Qob 0 l) (u : Nat) : ∀ (f n : Nat), n <= f -> Qca l n = n -> (Qdd l n u).length <= l.length := by
  intro f
  induction l using Qpb generalizing f with
  | h0 => intro n _ _; rw [planL_nil]; exact Nat.zero_le _
  | h1 l s ih =>
    intro n hn h; obtain ⟨h1, h2, h3⟩ := Qwc hl; rw [Qjc, List.length_append, List.length_singleton]
    by_cases e : s.l = n
    · rw [if_pos e]
      by_cases hu : u < n /\ s.k = 1
      · rw [if_pos hu, List.length_cons]; have := ih h1 (Qca l s.p) _ (Nat.le_refl _) (Qbc h1 s.p); omega
      · rw [if_neg hu]; exact Nat.zero_le _
    · rw [if_neg e]; rw [Qeb, if_neg e] at h; have := ih h1 f n hn h; omega
theorem Plan15 (v : Value) (ms : List (Rec × Value × Value)) (t : Int) (u : Nat) (w : World) (h : LogIn w v ms) :
    Calls Try.prog 21 #[v, .int .i64 t, .int .u64 (u : Int)] w fun e w' => ((Qob 0 (msR ms) /\ ∃ vp, e = .returned (.tuple #[vp, .int .i64 0]) /\ Qzb w' w.heap.size vp (Qcf (msR ms) t u)) ∨ (¬ Qob 0 (msR ms) /\ e = .returned (.tuple #[.slice none 0 0, .int .i64 2]))) /\ Below w.heap.size w w' := by
  have HG := Qd (Qov v ms w h); have HA := Qd h; obtain ⟨aa, ca, rfl, hlc⟩ := h.slice; have hl := h.few; clear h
  by_cases hr : Qob 0 (msR ms)
  · rw [(Qvd _ _).2 hr] at HG; have HR := Qd hr; have HF := Qd (fun n x (hx : Below w.heap.size w x) => find15 _ ms n x (HA.out.below hx) hr); have HC := Qd (fun i x (hx : Below w.heap.size w x) (hi : i < ms.length) => clr15 _ ms i x (HA.out.below hx) hr hi); have HL := Qd (fun x (hx : Below w.heap.size w x) => last15 _ ms t x (HA.out.below hx)); have HX := Qd (fun n x (hx : Below w.heap.size w x) => next15 _ ms n x (HA.out.below hx) hr); clear hr; have HLL := Qd hl; obtain ⟨ln, hln⟩ : ∃ ln, ln = ms.length := ⟨_, rfl⟩; rw [<- hln] at HA HF HC HG HL HX hl hlc |-; have HN := Qd hln; clear hln; obtain ⟨all, hall⟩ : ∃ all, all = Qcf (msR ms) t u := ⟨_, rfl⟩; rw [<- hall]; have HALL := Qd hall; clear hall; go_enter Try.func21, Try.ntmps21; go_wp2_with fail; refine HG.out.mono ?_; rintro e w1 ⟨rfl, hb1⟩; have H1 := Qd hb1; clear hb1 HG; go_wp2_with fail; refine (HL.out w1 H1.out).mono ?_; rintro e w2 ⟨rfl, hb2⟩; have H2 := Qd (H1.out.trans (hb2.mono H1.out.size)); clear hb2 H1 HL; go_wp2_with fail; refine (HX.out _ w2 H2.out).mono ?_; rintro e w3 ⟨rfl, hb3⟩; have H3 := Qd (H2.out.trans (hb3.mono H2.out.size)); clear hb3 H2 HX; have H0 : Hid (Pl w w3 (msR ms) all u (.slice none 0 0) (Qca (msR ms) (Qfd (msR ms) t)) []) := ⟨by rw [HALL.out]; rfl, Qbc HR.out _, Qzb.nil _ _, H3.out⟩
    have HAL : Hid (all.length <= 1000) := by
      have h1 := Qvm HR.out u _ (Qca (msR ms) (Qfd (msR ms) t)) (Nat.le_refl _) (Qbc HR.out _); rw [Qhe] at h1; have h2 := HLL.out; show all.length <= 1000; rw [HALL.out]; unfold Qcf; omega
    generalize Qca (msR ms) (Qfd (msR ms) t) = n0 at *; clear H3 HLL; go_wp2; go_loopw [8, 9] (fun p n wr => ∃ (j : Nat) (ps : List Rec) (vp : Value), vp = p /\ n = .int .u64 (j : Int) /\ Hid (Pl w wr (msR ms) all u vp j ps)) (fun _ n _ => (intOf n).toNat)
    case atStart => exact ⟨n0, [], _, rfl, rfl, H0.out⟩
    case round =>
      obtain ⟨j, ps, vp, rfl, rfl, HP⟩ := hrel; clear H0
      by_cases hlt : u < j
      · have iu : (u : Int) < (j : Int) := by omega
        rcases Qvf HR.out j u HP.out.next with ⟨h1, _⟩ | ⟨r, hr1, hr2, hr3, _, hr4⟩
        · omega
        · have HE := Qd hr4; have HRM := Qd hr1; have HRR := Qd (Qga _ 0 HR.out r hr1); have hless := Qbj HR.out hr1; rw [hr2] at hless; have HK := Qd hr3; have HRJ := Qd hr2; clear hr4 hr1 hr2 hr3; go_wp2_with fail; refine (HF.out j wr HP.out.bel).mono ?_; rintro e w4 ⟨i, q, rfl, hcase, hb4⟩; have H4 := Qd (And.intro (HP.out.own.later hb4) (HP.out.bel.trans (hb4.mono HP.out.bel.size))); clear hb4
          rcases hcase with ⟨rfl, hi, he⟩ | ⟨rfl, hno⟩
          · have ij : (i : Int) < (ln : Int) := by have := HN.out; omega
            have hir : (ms.getD i rcZ).1 = r := by
              have h1 := Qnv hi; have h2 := Qyc HR.out h1; have h3 := Qyc HR.out HRM.out; rw [he] at h2; rw [HRJ.out] at h3; rw [h2] at h3; injection h3
            have HCC := Qd (HC.out i w4 H4.out.2 (by have := HN.out; omega)); rw [hir] at HCC; clear he hi hir; go_wp2_with fail; refine HCC.out.mono ?_; rintro e w5 ⟨rfl, hb5⟩; have hb6 : Below w5.heap.size w5 (w5.alloc (.cells Qaa 30)) := (Below.refl _ _).alloc (Nat.le_refl _) _
            have H5 : Hid (Qzb w5 w.heap.size vp ps /\ Below w.heap.size w w5 /\ Qb (w5.alloc (.cells Qaa 30)) w5.heap.size 30 Qaa /\ Below w5.heap.size w5 (w5.alloc (.cells Qaa 30))) := by
              have a1 := H4.out.2.trans (hb5.mono H4.out.2.size); exact ⟨H4.out.1.later hb5, a1, Qb.new w5 _ _, hb6⟩
            clear hb5 hb6 H4 HCC; have HB : Hid (rcF (Qqu (msR ms) r) = Qzf r.t (Qfe r.c) (Qca (msR ms) r.p) /\ (Qra (msR ms) r).n = Qca (msR ms) r.p /\ (Qra (msR ms) r).bare) := ⟨rfl, rfl, Qns HRR.out HK.out⟩; rw [HB.out.1]; have hlq : Qca (msR ms) r.p < j := by rw [<- HB.out.2.1]; exact hless
            generalize Qca (msR ms) r.p = q at *; generalize Qfe r.c = c at *; generalize r.t = tt at *
            have hps : ps.length <= 1000 := by
              have h1 := HAL.out; rw [HP.out.all, List.length_append] at h1; omega
            go_wp2_with (refine Qc rfl 30 (.tmp 12) (.tmp 32) rfl w5.heap.size Qaa (Qzf tt c q) rfl rfl H5.out.2.2.1 Qv rfl (by simp [Qzf, Value.oneCell']) ?_; intro w6 hr6 hk6 hrow6; refine Qha ?_); have hb6 := hk6 _ _ H5.out.2.2.2 (Nat.le_refl _); obtain ⟨g5, hg5⟩ : ∃ g, g = w5.heap.size := ⟨_, rfl⟩
            have H6 : Hid (Qzb w6 w.heap.size vp ps /\ Below w.heap.size w w6 /\ Qb w6 g5 30 (Qzf tt c q) /\ ∀ k, vp.ownBlock = some k -> k ≠ g5) := by
              rw [hg5]; exact ⟨H5.out.1.later hb6, H5.out.2.1.trans (hb6.mono H5.out.2.1.size), hr6, fun k hk => by have := own_lt15 H5.out.1.1 hk; omega⟩
            rw [<- hg5]; clear hr6 hk6 hrow6 hb6 H5 hg5; refine Qj ?_; go_wp2_with (first | (refine Qe rfl 30 (.tmp 12) rfl g5 rfl #[.int .i64 2, .int .u64 0, .int .i64 tt, .int .u64 0, .int .i64 c.k, .int .i64 c.pg, .int .i64 c.sl, .string c.o, .string c.n, .int .u64 (q : Int), .int .i64 0, .int .u64 0, .slice none 0 0, .slice none 0 0] H6.out.2.2.1 _ Try.underlying30 rfl Qv ?_) | (refine Qci _ 22 30 14 160 (.agg Qaa) Try.underlying22 Qzj rfl (by decide) (by decide) rfl (.tmp 33) (.tmp 35) rfl w.heap.size vp ps.length (Qxb (Qla ps)) rfl (Qbg H6.out.1.1 ((Below.refl w6.heap.size w6).alloc (Nat.le_refl _) _)) w6.heap.size #[.int .i64 2, .int .u64 0, .int .i64 tt, .int .u64 0, .int .i64 c.k, .int .i64 c.pg, .int .i64 c.sl, .string c.o, .string c.n, .int .u64 (q : Int), .int .i64 0, .int .u64 0, .slice none 0 0, .slice none 0 0] rfl (Qb.new w6 30 #[.int .i64 2, .int .u64 0, .int .i64 tt, .int .u64 0, .int .i64 c.k, .int .i64 c.pg, .int .i64 c.sl, .string c.o, .string c.n, .int .u64 (q : Int), .int .i64 0, .int .u64 0, .slice none 0 0, .slice none 0 0]) rfl (by simp [Value.oneCell']) hps (Nat.le_trans H6.out.2.1.size (by simp)) ?_; intro v' w7 ho7 hg7; refine Qha ?_)); have hba : Below w6.heap.size w6 (w6.alloc (.cells #[.int .i64 2, .int .u64 0, .int .i64 tt, .int .u64 0, .int .i64 c.k, .int .i64 c.pg, .int .i64 c.sl, .string c.o, .string c.n, .int .u64 (q : Int), .int .i64 0, .int .u64 0, .slice none 0 0, .slice none 0 0] 30)) := (Below.refl _ _).alloc (Nat.le_refl _) _
            have H7 : Hid (Qzb w7 w.heap.size v' (ps ++ [Qra (msR ms) r]) /\ Below w.heap.size w w7 /\ Qb w7 g5 30 (Qzf tt c q)) := by
              refine ⟨Qzb.push ?_ H6.out.1.2 HB.out.2.2, ?_, ?_⟩
              · show w7.ownsRow _ _ _ _ _ (_ ++ (rcF (Qqu (msR ms) r)).toList); rw [HB.out.1]; exact ho7
              · exact ow_below (Qbg H6.out.1.1 hba) (Nat.le_refl _) (H6.out.2.1.trans (hba.mono H6.out.2.1.size)) (Nat.le_trans H6.out.2.1.size hba.size) hg7
              · have h1 := H6.out.2.2.1.later hba; exact (hg7.block g5 h1.lt (fun e => H6.out.2.2.2 g5 e.symm rfl)).trans h1
            clear ho7 hg7 hba H6; refine Qj ?_; have c9 := H7.out.2.2.cell 9 (.int .u64 (q : Int)) rfl; go_wp2; go_roundw
            case rel =>
              refine ⟨q, ps ++ [Qra (msR ms) r], v', rfl, rfl, ⟨?_, ?_, H7.out.1, H7.out.2.1⟩⟩
              · rw [HP.out.all, HE.out, HB.out.2.1, List.append_assoc]; rfl
              · rw [<- HB.out.2.1]; exact Qjh HR.out r
            case measure => simp [intOf] <;> omega
          · exact absurd HRJ.out (hno r HRM.out)
      · have iu : ¬ (u : Int) < (j : Int) := by omega
        go_wp2; go_ret2; refine ⟨.inl ⟨HR.out, vp, rfl, ?_⟩, HP.out.bel⟩; have h1 := HP.out.all
        rcases Qvf HR.out j u HP.out.next with ⟨_, h2⟩ | ⟨r, _, _, _, h3, _⟩
        · rw [h2, List.append_nil] at h1; rw [h1]; exact HP.out.own
        · omega
  · rw [Qnr hr] at HG; have HR := Qd hr; clear hr; obtain ⟨ln, hln⟩ : ∃ ln, ln = ms.length := ⟨_, rfl⟩; rw [<- hln] at HA HG hl hlc |-; clear hln; go_enter Try.func21, Try.ntmps21; go_wp2_with fail; refine HG.out.mono ?_; rintro e w1 ⟨rfl, hb1⟩; have HB := Qd hb1; clear hb1 HG; go_wp2; go_ret2; exact ⟨.inr ⟨HR.out, rfl⟩, HB.out⟩
def awC15 : Ch := ⟨1, 0, 0, ⟨#[]⟩, ⟨#[97]⟩⟩
def Qkp : Rec := ⟨1, 3, 1, 0, awC15, 0, 0, 0, [], []⟩
def Qnt : Rec := ⟨6, 4, 1, 3, Ch.zero, 0, 1, 0, [], []⟩
theorem Qdl : awC15.right := ⟨by decide, .inl ⟨rfl, rfl⟩⟩
theorem Qnq : Qkp.right := by
  refine ⟨by decide, by decide, by decide, by decide, fun _ => by decide, fun h => absurd h (by decide), fun _ => Qdl, fun h => absurd h (by decide), fun h => absurd h (by decide), fun _ => rfl, fun h => absurd h (by decide), fun _ => rfl, fun h => absurd h (by decide), fun _ => ⟨rfl, rfl, rfl⟩⟩
theorem Qyp : Qnt.right := by
  refine ⟨by decide, by decide, by decide, by decide, fun _ => by decide, fun h => absurd h (by decide), fun h => absurd h (by decide), fun _ => rfl, fun h => absurd h (by decide), fun _ => rfl, fun _ => by decide, fun h => absurd rfl h, fun h => absurd h (by decide), fun _ => ⟨rfl, rfl, rfl⟩⟩
def Qln : List Rec := [Qkp, Qnt]
theorem Qwh : Qob 0 Qln := ⟨Qnq, by decide, Qyp, by decide, trivial⟩
theorem Qtl : Qca Qln 4 = 3 := by simp [Qca, Qln, Qmt, Qkp, Qnt]
theorem Qst : Qfd Qln 1 = 4 := by simp [Qfd, Qln, Qkp, Qnt]
theorem Qrt : Qcf Qln 1 0 = [Qra [] Qkp] := by
  unfold Qcf; rw [Qst, Qtl]; simp [Qdd, Qjt, Qln, Qkp, Qnt]
theorem Qxl {r : Rec} (h : r.c.fits) (h1 : r.ts = []) (h2 : r.ds = []) : r.fits := by
  refine ⟨h, by rw [h1]; exact Nat.zero_le _, by rw [h2]; exact Nat.zero_le _, fun x hx => ?_, fun x hx => ?_⟩
  · rw [h1] at hx; cases hx
  · rw [h2] at hx; cases hx
def Qxm : Array Value := #[.int .i64 1, .int .u64 3, .int .i64 1, .int .u64 0, .int .i64 1, .int .i64 0, .int .i64 0, .string ⟨#[]⟩, .string ⟨#[97]⟩, .int .u64 0, .int .i64 0, .int .u64 0, .slice none 0 0, .slice none 0 0,
  .int .i64 6, .int .u64 4, .int .i64 1, .int .u64 3, .int .i64 0, .int .i64 0, .int .i64 0, .string ⟨#[]⟩, .string ⟨#[]⟩, .int .u64 0, .int .i64 1, .int .u64 0, .slice none 0 0, .slice none 0 0]
theorem Qal (x : World) (g : Nat) (h : Qb x g 30 Qxm) : LogIn x (.slice (some ⟨g, 0, none⟩) 2 2) (Qla Qln) := by
  have b1 : Qkp.bare := ⟨rfl, rfl, Qxl (Qac Qdl) rfl rfl⟩; have b2 : Qnt.bare := ⟨rfl, rfl, Qxl ⟨by decide, by decide, by decide, by show (0 : Nat) <= maxLen; omega, by show (0 : Nat) <= maxLen; omega⟩ rfl rfl⟩
  refine ⟨⟨⟨some ⟨g, 0, none⟩, 2, rfl, fun _ => ⟨g, 0, rfl, h.lt, fun i hi => ?_⟩⟩, fun m hm => ?_⟩, by decide, fun a l c e => ?_⟩
  · have hi2 : i < 2 := hi
    rcases (show i = 0 ∨ i = 1 by omega) with rfl | rfl
    · intro j u hu; have hj : j < 14 := (List.getElem?_eq_some_iff.1 hu).1; refine (h.cell (0 + 0 * 14 + j) u ?_); rw [<- hu]; rcases (show j = 0 ∨ j = 1 ∨ j = 2 ∨ j = 3 ∨ j = 4 ∨ j = 5 ∨ j = 6 ∨ j = 7 ∨ j = 8 ∨ j = 9 ∨ j = 10 ∨ j = 11 ∨ j = 12 ∨ j = 13 by omega) with rfl | rfl | rfl | rfl | rfl | rfl | rfl | rfl | rfl | rfl | rfl | rfl | rfl | rfl <;> rfl
    · intro j u hu; have hj : j < 14 := (List.getElem?_eq_some_iff.1 hu).1; refine (h.cell (0 + 1 * 14 + j) u ?_); rw [<- hu]; rcases (show j = 0 ∨ j = 1 ∨ j = 2 ∨ j = 3 ∨ j = 4 ∨ j = 5 ∨ j = 6 ∨ j = 7 ∨ j = 8 ∨ j = 9 ∨ j = 10 ∨ j = 11 ∨ j = 12 ∨ j = 13 by omega) with rfl | rfl | rfl | rfl | rfl | rfl | rfl | rfl | rfl | rfl | rfl | rfl | rfl | rfl <;> rfl
  · simp only [Qla, Qln, List.map_cons, List.map_nil, List.mem_cons, List.not_mem_nil, or_false] at hm
    rcases hm with rfl | rfl
    · exact ⟨b1.2.2, Qcn b1 x⟩
    · exact ⟨b2.2.2, Qcn b2 x⟩
  · injection e with e1 e2 e3; omega
theorem Qcr {w : World} {base : Nat} {v : Value} {r : Rec} (h : Qzb w base v [r]) : ∃ b c, v = .slice (some ⟨b, 0, none⟩) 1 c /\ w.cell? ⟨b, 0, none⟩ = some (.int .i64 r.k) := by
  obtain ⟨a, c, hv, _, h3⟩ := Qkn h.1; obtain ⟨b, rfl, _⟩ := h3 (Nat.zero_lt_succ _); have h4 := h.rs; rw [hv] at h4; obtain ⟨b', off, h5, _, h6, _⟩ := h4.at (i := 0) (Nat.zero_lt_succ _); injection h5 with h5; injection h5 with h5 h7; subst h5 h7; exact ⟨b, c, hv, h6 0 _ rfl⟩
theorem awake15 (w : World) : Calls Try.prog 9 #[] w fun e w' => e = .returned (.bool true) /\ Below w.heap.size w w' := by
  have hb0 : Below w.heap.size w (w.alloc (.cells (chA Ch.zero) 26)) := (Below.refl _ _).alloc (Nat.le_refl _) _; have HZ := Qd (And.intro (Qb.new w 26 (chA Ch.zero)) hb0); have HNX := Qd (fun x g (h : Qb x g 30 Qxm) => Next15 _ _ 4 x (Qal x g h)); have HPL := Qd (fun x g (h : Qb x g 30 Qxm) => Plan15 _ _ 1 0 x (Qal x g h)); have HGO := Qd (fun x g (h : Qb x g 30 Qxm) => Qov _ _ x (Qal x g h)); rw [Qve, Qtl] at HNX; rw [Qve, Qrt] at HPL; rw [Qve, (Qvd _ _).2 Qwh] at HGO; clear hb0; go_enter Try.func9, Try.ntmps9; go_wp2_with (refine Qc rfl 26 (.tmp 1) (.tmp 7) rfl w.heap.size (chA Ch.zero) (chA awC15) rfl rfl HZ.out.1 Qq rfl (Qpa _) ?_; intro w2 hr2 hk2 hrow2; refine Qha ?_); have hb2 := hk2 _ _ HZ.out.2 (Nat.le_refl _); have H2 := Qd (And.intro hr2 hb2); clear hr2 hk2 hrow2 hb2 HZ; refine Qj ?_; go_wp2_with (refine Qe rfl 26 (.tmp 1) rfl w.heap.size rfl #[.int .i64 1, .int .i64 0, .int .i64 0, .string ⟨#[]⟩, .string ⟨#[97]⟩] H2.out.1 _ Try.underlying26 rfl Qq ?_); have hb3 : Below w2.heap.size w2 (w2.alloc (.cells Qxm 30)) := (Below.refl _ _).alloc (Nat.le_refl _) _; obtain ⟨g, hg⟩ : ∃ g, g = w2.heap.size := ⟨_, rfl⟩
  have H3 : Hid (Qb (w2.alloc (.cells Qxm 30)) g 30 Qxm /\ Below w.heap.size w (w2.alloc (.cells Qxm 30))) := by
    rw [hg]; exact ⟨Qb.new w2 _ _, H2.out.2.trans (hb3.mono H2.out.2.size)⟩
  rw [<- hg]; clear hb3 hg H2; refine Qda (fun x => Qb x g 30 Qxm /\ Below w.heap.size w x) H3.out ?_; intro y HY; have HYY := Qd HY; clear HY H3; refine (HNX.out y g HYY.out.1).mono ?_; rintro e w4 ⟨hcase, hb4⟩
  obtain rfl : e = .returned (.tuple #[.int .u64 3, .int .i64 0]) := by
    rcases hcase with ⟨_, h1⟩ | ⟨h1, _⟩
    · exact h1
    · exact absurd Qwh h1
  have H4 := Qd (And.intro (HYY.out.1.later hb4) (HYY.out.2.trans (hb4.mono HYY.out.2.size))); clear hcase hb4 HYY HNX; go_wp2_with fail; refine (HPL.out w4 g H4.out.1).mono ?_; rintro e w5 ⟨hcase, hb5⟩
  obtain ⟨vp, rfl, hown⟩ : ∃ vp, e = .returned (.tuple #[vp, .int .i64 0]) /\ Qzb w5 w4.heap.size vp [Qra [] Qkp] := by
    rcases hcase with ⟨_, h1⟩ | ⟨h1, _⟩
    · exact h1
    · exact absurd Qwh h1
  have H5 := Qd (And.intro (H4.out.1.later hb5) (H4.out.2.trans (hb5.mono H4.out.2.size))); obtain ⟨b, c, rfl, hc0⟩ := Qcr hown; have hc1 : w5.cell? ⟨b, 0, none⟩ = some (.int .i64 2) := hc0; clear hcase hb5 H4 HPL hown hc0; go_wp2_with fail; refine (HGO.out w5 g H5.out.1).mono ?_; rintro e w6 ⟨rfl, hb6⟩; have HB6 := Qd (H5.out.2.trans (hb6.mono H5.out.2.size)); clear hb6 H5 HGO hc1; go_wp2; go_ret; exact ⟨rfl, HB6.out⟩
def Qde (P : Nat -> Pg) (x : Nat) : Cel := ((P (x / 8)).u (x % 8), (P (x / 8)).s (x % 8))
def Qyi (P : Nat -> Pg) (c : Ch) : Nat -> Pg := upd P c.pg.toNat ((P c.pg.toNat).put ((P c.pg.toNat).l + 1) c.at c.makeU c.makeV)
def Qbe : (Nat -> Pg) -> List Ch -> Nat -> Pg
  | P, [] => P
  | P, c :: cs => Qbe (Qyi P c) cs
theorem Qxk {c : Ch} (h : c.right) : Qfa c / 8 = c.pg.toNat /\ Qfa c % 8 = c.at := by
  have := h.at_lt; unfold Qfa; omega
theorem Qem (P : Nat -> Pg) {c : Ch} (h : c.right) (x : Nat) : Qde (Qyi P c) x = doC (Qde P) c x := by
  obtain ⟨h1, h2⟩ := Qxk h
  by_cases e : x = Qfa c
  · subst e; rw [Qgs]; unfold Qde Qyi; rw [h1, Qi, h2]; obtain ⟨a, b⟩ := put_at (P c.pg.toNat) ((P c.pg.toNat).l + 1) c.at c.makeU c.makeV; rw [a, b]
  · rw [Qmg _ _ _ e]; unfold Qde Qyi
    by_cases e2 : x / 8 = c.pg.toNat
    · rw [e2, Qi]; obtain ⟨a, b⟩ := put_other (P c.pg.toNat) ((P c.pg.toNat).l + 1) c.at (x % 8) c.makeU c.makeV (fun q => e (by have := Qxk h; have h3 := h.at_lt; unfold Qfa; omega)); rw [a, b]
    · rw [Qk _ _ _ _ e2]
structure FitP (P : Nat -> Pg) (cs : List Ch) (M : Nat) : Prop where
  right : ∀ p, p < 4 -> (P p).right /\ (P p).l <= M
  ch : ∀ c ∈ cs, c.right /\ c.pg < 4
  fit : Qwi (Qde P) cs
theorem FitP.step {P : Nat -> Pg} {c : Ch} {cs : List Ch} {M : Nat} (h : FitP P (c :: cs) M) (hM : M + 1 <= 1000000) :
    c.pg.toNat < 4 /\ (c.pg.toNat : Int) = c.pg /\ appE (P c.pg.toNat) c ((P c.pg.toNat).l + 1) = 0 /\ upd P c.pg.toNat (Qsp (P c.pg.toNat) c ((P c.pg.toNat).l + 1)) = Qyi P c /\ FitP (Qyi P c) cs (M + 1) := by
  obtain ⟨hc, h4⟩ := h.ch c (by simp); have hp0 := hc.1.1; have hp : c.pg.toNat < 4 := by omega
  obtain ⟨hr, hl⟩ := h.right _ hp; have hat := h.fit.1; obtain ⟨d1, d2⟩ := Qxk hc; unfold Qde at hat; rw [d1, d2] at hat; injection hat with hu hv; have hE : appE (P c.pg.toNat) c ((P c.pg.toNat).l + 1) = 0 := (app_yes _ _ _).2 ⟨hr, hc, by unfold Qce; omega, by omega, hu, hv⟩
  refine ⟨hp, by omega, hE, ?_, ?_, fun d hd => h.ch d (List.mem_cons_of_mem _ hd), ?_⟩
  · unfold Qyi Qsp; rw [if_pos hE]
  · intro p hp4; unfold Qyi
    by_cases e : p = c.pg.toNat
    · rw [e, Qi]; refine ⟨Qyk _ _ _ hr hc (by unfold Qce; omega), ?_⟩; show (P c.pg.toNat).l + 1 <= M + 1; omega
    · rw [Qk _ _ _ _ e]; have := h.right p hp4; exact ⟨this.1, by omega⟩
  · refine Qme (M := fun _ => True) cs _ _ (fun _ _ => trivial) (fun x _ => (Qem P hc x).symm) h.fit.2
theorem Qyg : ∀ (cs : List Ch) (P : Nat -> Pg), (∀ c ∈ cs, c.right) -> ∀ x, Qde (Qbe P cs) x = Qim (Qde P) cs x
  | [], _, _, _ => rfl
  | c :: cs, P, h, x => by
    show Qde (Qbe (Qyi P c) cs) x = Qim (doC (Qde P) c) cs x; rw [Qyg cs _ (fun d hd => h d (List.mem_cons_of_mem _ hd))]; exact Qff (M := fun _ => True) cs _ _ (fun x _ => Qem P (h c (by simp)) x) x trivial
theorem run_right : ∀ (cs : List Ch) (P : Nat -> Pg) (M : Nat), FitP P cs M -> M + cs.length <= 1000000 -> ∀ p, p < 4 -> (Qbe P cs p).right /\ (Qbe P cs p).l <= M + cs.length
  | [], _, _, h, _, p, hp => h.right p hp
  | c :: cs, P, M, h, hM, p, hp => by
    rw [List.length_cons] at hM |-; have := run_right cs (Qyi P c) (M + 1) (h.step (by omega)).2.2.2.2 (by omega) p hp; rw [show M + (cs.length + 1) = M + 1 + cs.length by omega]; exact this
theorem Qkk : ∀ (cs ds : List Ch) (P : Nat -> Pg), Qbe P (cs ++ ds) = Qbe (Qbe P cs) ds
  | [], _, _ => rfl
  | c :: cs, ds, P => Qkk cs ds (Qyi P c)
theorem Qhs (P : Nat -> Pg) (cs : List Ch) (j : Nat) (hj : j < cs.length) (d : Ch) : Qbe P (cs.take (j + 1)) = Qyi (Qbe P (cs.take j)) (cs.getD j d) := by
  rw [List.take_add_one, List.getElem?_eq_getElem hj, List.getD_eq_getElem?_getD, List.getElem?_eq_getElem hj, Qkk]; rfl
theorem Qjk {α : Type} (cs : List α) (j : Nat) (hj : j < cs.length) (d : α) : cs.drop j = cs.getD j d :: cs.drop (j + 1) := by
  rw [List.drop_eq_getElem_cons hj, List.getD_eq_getElem?_getD, List.getElem?_eq_getElem hj]; rfl
theorem FitP.go {P : Nat -> Pg} {cs : List Ch} {M : Nat} (h : FitP P cs M) (hM : M + cs.length <= 1000000) : ∀ j, j <= cs.length -> FitP (Qbe P (cs.take j)) (cs.drop j) (M + j)
  | 0, _ => h
  | j + 1, hj => by
    have ih := FitP.go h hM j (by omega); rw [Qjk cs j (by omega) Ch.zero] at ih; rw [Qhs P cs j (by omega) Ch.zero]; exact (ih.step (by omega)).2.2.2.2
structure Fits1 (P : Nat -> Pg) (cs : List Ch) (M j pp : Nat) (c : Ch) : Prop where
  lt : pp < 4
  pg : c.pg = (pp : Int)
  right : c.right
  err : appE (Qbe P (cs.take j) pp) c ((Qbe P (cs.take j) pp).l + 1) = 0
  upd : upd (Qbe P (cs.take j)) pp (Qsp (Qbe P (cs.take j) pp) c ((Qbe P (cs.take j) pp).l + 1)) = Qbe P (cs.take (j + 1))
  low : (Qbe P (cs.take j) pp).l <= M + j
theorem FitP.at {P : Nat -> Pg} {cs : List Ch} {M : Nat} (h : FitP P cs M) (hM : M + cs.length <= 1000000) (j : Nat) (hj : j < cs.length) : ∃ pp, Fits1 P cs M j pp (cs.getD j Ch.zero) := by
  have ih := FitP.go h hM j (by omega); rw [Qjk cs j hj Ch.zero] at ih; obtain ⟨a, b, c, d, e⟩ := ih.step (by omega); exact ⟨_, a, b.symm, (ih.ch _ (by simp)).1, c, by rw [d, Qhs P cs j hj Ch.zero], (ih.right _ a).2⟩
theorem chs_get (p : List Rec) (j : Nat) (hj : j < p.length) : (chs p).getD j Ch.zero = (p.getD j Rec.zero).c := by
  unfold chs; rw [List.getD_eq_getElem?_getD, List.getD_eq_getElem?_getD, List.getElem?_map, List.getElem?_eq_getElem hj]; rfl
theorem Qsj (p : List Rec) : (chs p).length = p.length := by unfold chs; rw [List.length_map]
def Qif (l : List Rec) (t : Int) (x : Nat) : Bool := l.any fun q => decide (q.t = t /\ q.k = 1 /\ Qfa q.c = x)
theorem Qwv {l : List Rec} {t : Int} {x : Nat} (h : Qif l t x = false) : ∀ q ∈ l, q.t = t -> q.k = 1 -> Qfa q.c ≠ x := fun q hq h1 h2 h3 => by
  unfold Qif at h; rw [List.any_eq_false] at h; exact h q hq (by simp [h1, h2, h3])
theorem Qev {l : List Rec} {t : Int} {r : Rec} (h : ¬ (r.t = t /\ r.k = 1)) : Qif (l ++ [r]) t = Qif l t := by
  funext x; unfold Qif; rw [List.any_append]
  have e : [r].any (fun q => decide (q.t = t /\ q.k = 1 /\ Qfa q.c = x)) = false := by
    show (decide (r.t = t /\ r.k = 1 /\ Qfa r.c = x) || false) = false; rw [decide_eq_false (fun q => h ⟨q.1, q.2.1⟩)]; rfl
  rw [e, Bool.or_false]
theorem Qgt {l : List Rec} {t : Int} {r : Rec} (h : r.t = t /\ r.k = 1) : Qif (l ++ [r]) t = upd (Qif l t) (Qfa r.c) true := by
  funext x; unfold Qif upd; rw [List.any_append]
  by_cases e : x = Qfa r.c
  · rw [if_pos e]; simp [h.1, h.2, e]
  · rw [if_neg e]
    have e2 : [r].any (fun q => decide (q.t = t /\ q.k = 1 /\ Qfa q.c = x)) = false := by
      show (decide (r.t = t /\ r.k = 1 /\ Qfa r.c = x) || false) = false; rw [decide_eq_false (fun q => e q.2.2.symm)]; rfl
    rw [e2, Bool.or_false]
theorem Qjv {l : List Rec} {t : Int} {r : Rec} (h : r.t = t /\ r.k = 1) (hf : Qif l t (Qfa r.c) = true) : Qif (l ++ [r]) t = Qif l t := by
  rw [Qgt h]; funext x; unfold upd
  split
  · rename_i e; rw [e, hf]
  · rfl
def fA (f : Nat -> Bool) : Array Value := ((List.range 32).map fun x => Value.bool (f x)).toArray
theorem fA_get (f : Nat -> Bool) (x : Nat) (hx : x < 32) : (fA f)[x]? = some (.bool (f x)) := by
  unfold fA; rw [List.getElem?_toArray, List.getElem?_map, List.getElem?_range hx]; rfl
theorem Qsq (f : Nat -> Bool) : (fA f).size = 32 := by unfold fA; simp
theorem fA_set (f : Nat -> Bool) (x : Nat) (hx : x < 32) (b : Bool) : (fA f).setIfInBounds x (.bool b) = fA (upd f x b) := by
  apply Array.ext_getElem?; intro y
  by_cases hy : y < 32
  · rw [fA_get _ y hy]
    by_cases e : y = x
    · subst e; rw [Array.getElem?_setIfInBounds_self_of_lt (by rw [Qsq]; exact hy), Qi]
    · rw [Array.getElem?_setIfInBounds_ne (fun q => e q.symm), fA_get _ y hy, Qk _ _ _ _ e]
  · rw [Array.getElem?_eq_none (by rw [Array.size_setIfInBounds, Qsq]; omega), Array.getElem?_eq_none (by rw [Qsq]; omega)]
theorem Qjr (l : List Rec) (j : Nat) (hj : j < l.length) : l.take (j + 1) = l.take j ++ [l.getD j Rec.zero] := by
  rw [List.take_add_one, List.getElem?_eq_getElem hj, List.getD_eq_getElem?_getD, List.getElem?_eq_getElem hj]; rfl
def Qqi (l : List Rec) (t : Int) : Prop := ∀ r ∈ l, r.t = t -> r.k ≠ 3 /\ r.k ≠ 5
theorem Hs.ok.who {h : Hs} {N : Nat} (ok : h.ok N) {n : Nat} (hn : n < 3) {t : Int} (ho : Qqi (h.lg n) t) :
    ((∀ r ∈ h.lg n, r.t ≠ t) /\ Qcf (h.lg n) t 0 = []) ∨ ∃ i, i < 9 /\ i / 3 = n /\ (h.tx i).nr = t /\ h.live i /\ Qcf (h.lg n) t 0 = h.plan i := by
  by_cases hex : ∃ r ∈ h.lg n, r.t = t
  · obtain ⟨r, hr, hrt⟩ := hex
    rcases ok.over n hn r hr with ⟨i, h1, h2, h3⟩ | ⟨e, h1, h2, h3⟩
    · rw [hrt] at h3; have hpos := (ok.recs n hn r hr).2.1; have h0 : (h.tx i).nr ≠ 0 := by omega
      have T := ok.txn i h1
      have hst : (h.tx i).st ≠ 3 := fun q => by
        obtain ⟨e, e1, e2, e3⟩ := T.com h0 q; rw [h2] at e1; exact (ho e e1 (by rw [e2, h3])).1 e3
      refine .inr ⟨i, h1, h2, h3, ⟨h0, hst⟩, ?_⟩; unfold Qcf Hs.plan; rw [T.next h0, T.last h0, h2, h3]
    · exact absurd h3 (ho e h1 (by rw [h2, hrt])).2
  · have hno : ∀ r ∈ h.lg n, r.t ≠ t := fun r hr q => hex ⟨r, hr, q⟩
    refine .inl ⟨hno, ?_⟩; unfold Qcf; rw [Qii _ _ (fun r hr x => hno r hr x.2), Qpe (ok.rise n hn)]; exact Qre (ok.rise n hn) 0
structure Undone (h : Hs) (l p : List Rec) (t : Int) (N : Nat) : Prop where
  fit : FitP h.pg (chs p) N
  was : ∀ pre r post, l = pre ++ r :: post -> r.t = t -> r.k = 1 -> (∀ q ∈ pre, q.t = t -> q.k = 1 -> Qfa q.c ≠ Qfa r.c) -> Qde (Qbe h.pg (chs p)) (Qfa r.c) = (r.c.wantU, r.c.wantV)
theorem Hs.ok.undone {h : Hs} {N : Nat} (ok : h.ok N) {n : Nat} (hn : n < 3) {t : Int} (ho : Qqi (h.lg n) t) : Undone h (h.lg n) (Qcf (h.lg n) t 0) t N := by
  rcases ok.who hn ho with ⟨hno, e⟩ | ⟨i, hi, hin, hnr, hl, e⟩
  · rw [e]; refine ⟨⟨fun p hp => ⟨ok.pr p hp, ok.pl p hp⟩, fun c hc => (nomatch hc), trivial⟩, fun pre r post he hrt _ _ => ?_⟩; exact absurd hrt (hno r (by rw [he]; simp))
  · rw [e]; have U := ok.undo i hi hl; have D := ok.did i hi hl; have hm : ∀ c ∈ chs (h.plan i), c.right /\ c.pg < 4 := fun c hc => (U.mine c hc).2
    refine ⟨⟨fun p hp => ⟨ok.pr p hp, ok.pl p hp⟩, hm, U.fit⟩, fun pre r post he hrt hk hpre => ?_⟩; have hr : r ∈ h.lg n := by rw [he]; simp
    have hR := Qga _ 0 (ok.rise n hn) r hr; have h3 := (ok.recs n hn r hr).2.2.2 (by omega); have hx := Qsg (hR.ch (by omega)) h3; have hhas : h.has i (Qfa r.c) := D.locked r (by rw [hin]; exact hr) (by rw [hnr]; exact hrt) hk; rw [Qyg _ _ (fun c hc => (hm c hc).1)]; show Qim h.cell (chs (h.plan i)) (Qfa r.c) = _; rw [U.was _ hx hhas]; exact D.first pre r post (by rw [hin]; exact he) (by rw [hnr]; exact hrt) hk (fun q hq h1 h2 => hpre q hq (by rw [<- hnr]; exact h1) h2)
structure Both15 (h : Hs) (p q : List Rec) (N : Nat) : Prop where
  one : FitP h.pg (chs (p ++ q)) N
  two : FitP h.pg (chs (q ++ p)) N
  same : ∀ x, Qde (Qbe h.pg (chs (p ++ q))) x = Qde (Qbe h.pg (chs (q ++ p))) x
theorem Qqd (p q : List Rec) : chs (p ++ q) = chs p ++ chs q := by unfold chs; rw [List.map_append]
theorem Hs.ok.both {h : Hs} {N : Nat} (ok : h.ok N) {n m : Nat} (hn : n < 3) (hm : m < 3) {x y : Int} (hx : Qqi (h.lg n) x) (hy : Qqi (h.lg m) y) (hne : ¬ (n = m /\ x = y)) :
    Both15 h (Qcf (h.lg n) x 0) (Qcf (h.lg m) y 0) N := by
  have hpg : ∀ p, p < 4 -> (h.pg p).right /\ (h.pg p).l <= N := fun p hp => ⟨ok.pr p hp, ok.pl p hp⟩
  have A := ok.undone hn hx; have B := ok.undone hm hy
  rcases ok.who hn hx with ⟨hno, e⟩ | ⟨i, hi, hin, hnr, hl, e⟩
  · rw [e] at A |-; exact ⟨by rw [List.nil_append]; exact B.fit, by rw [List.append_nil]; exact B.fit, fun _ => by rw [List.append_nil, List.nil_append]⟩
  · rcases ok.who hm hy with ⟨hno2, e2⟩ | ⟨j, hj, hjm, hnr2, hl2, e2⟩
    · rw [e2] at B |-; exact ⟨by rw [List.append_nil]; exact A.fit, by rw [List.nil_append]; exact A.fit, fun _ => by rw [List.append_nil, List.nil_append]⟩
    · have U := ok.undo i hi hl; have V := ok.undo j hj hl2; have hij : i ≠ j := fun q => hne ⟨by rw [<- hin, <- hjm, q], by rw [<- hnr, <- hnr2, q]⟩
      rw [e, e2] at *; have hc : ∀ c ∈ chs (h.plan i), h.has i (Qfa c) := fun c hc => (U.mine c hc).1
      have hd : ∀ d ∈ chs (h.plan j), ¬ h.has i (Qfa d) := fun d hd h1 => ok.alone hi hj hij hl.1 h1 (V.mine d hd).1
      obtain ⟨f1, f2, f3⟩ := both_ways (chs (h.plan i)) (chs (h.plan j)) h.cell (fun x => h.has i x) hc hd U.fit V.fit
      have r1 : ∀ c ∈ chs (h.plan i ++ h.plan j), c.right /\ c.pg < 4 := fun c hc => by
        rw [Qqd] at hc
        rcases List.mem_append.1 hc with hc | hc
        · exact (U.mine c hc).2
        · exact (V.mine c hc).2
      have r2 : ∀ c ∈ chs (h.plan j ++ h.plan i), c.right /\ c.pg < 4 := fun c hc => by
        rw [Qqd] at hc
        rcases List.mem_append.1 hc with hc | hc
        · exact (V.mine c hc).2
        · exact (U.mine c hc).2
      refine ⟨⟨hpg, r1, by rw [Qqd]; exact f1⟩, ⟨hpg, r2, by rw [Qqd]; exact f2⟩, fun x => ?_⟩; rw [Qyg _ _ (fun c hc => (r1 c hc).1), Qyg _ _ (fun c hc => (r2 c hc).1), Qqd, Qqd]; exact f3 x
section
def P4 (x : World) (g : Nat) (W : Nat -> Pg) : Prop := ∃ cs, Qb x g 77 cs /\ 68 <= cs.size /\ ∀ p, p < 4 -> Qki cs (p * 17) (pgA (W p)).toList
theorem Qws : (Try.prog.info? 77).map (·.size) = some 17 := by kernel_rfl
theorem infoP4z : (Try.prog.info? 77).map (fun i => (i.zero, i.size, i.bytes)) = some (some (.agg (pgA Pg.zero)), 17, 200) := by kernel_rfl
theorem Qfv : (Try.prog.info? 63).map (·.size) = some 2 := by kernel_rfl
theorem Qoj (p : Pg) : (pgA p).all (·.oneCell') = true := by simp [pgA, Value.oneCell']
theorem pgA_lsn4 (p : Pg) : (pgA p).toList[0]? = some (.int .u64 (p.l : Int)) := rfl
theorem pgA_cell4 (p : Pg) (s j : Nat) (hs : s < 8) (hj : j < 2) : (pgA p).toList[1 + s * 2 + j]? = (ceA (p.u s) (p.s s)).toList[j]? := by
  have hd : s = 0 ∨ s = 1 ∨ s = 2 ∨ s = 3 ∨ s = 4 ∨ s = 5 ∨ s = 6 ∨ s = 7 := by omega
  have he : j = 0 ∨ j = 1 := by omega
  rcases hd with rfl | rfl | rfl | rfl | rfl | rfl | rfl | rfl <;> rcases he with rfl | rfl <;> rfl
section
variable {x y : World} {g : Nat} {W : Nat -> Pg}
theorem P4.lt (h : P4 x g W) : g < x.heap.size := by
  obtain ⟨cs, h1, _⟩ := h; exact h1.lt
theorem P4.later (h : P4 x g W) (hb : Below x.heap.size x y) : P4 y g W := by
  obtain ⟨cs, h1, h2⟩ := h; exact ⟨cs, h1.later hb, h2⟩
theorem P4.only {k : Nat} (h : P4 x g W) (ho : Only k x y) (hk : g ≠ k) : P4 y g W := by
  obtain ⟨cs, h1, h2⟩ := h; exact ⟨cs, ho.row h1 hk, h2⟩
theorem P4.keep (h : P4 x g W) (hk : ∀ cs, Qb x g 77 cs -> Qb y g 77 cs) : P4 y g W := by
  obtain ⟨cs, h1, h2⟩ := h; exact ⟨cs, hk cs h1, h2⟩
theorem P4.free (h : P4 x g W) (j : Nat) : x.frozen? ⟨g, j, none⟩ = false := by
  obtain ⟨cs, h1, _⟩ := h; exact h1.free j
theorem P4.page (h : P4 x g W) (i : Nat) (hi : i < 4) : (Instr.loadAt 77 (.pointer (some ⟨g, i * 17, none⟩))).run Try.prog x = .ok (.agg (pgA (W i))) x := by
  obtain ⟨cs, h1, h2, h3⟩ := h; have h4 := Qud (P := Try.prog) x 77 77 g (i * 17) 17 cs h1 _ Try.underlying77 rfl Qws (by omega); rw [(h3 i hi).ext 17 rfl (by omega), Array.toArray_toList] at h4; exact h4
theorem P4.cell (h : P4 x g W) (i s : Nat) (hi : i < 4) (hs : s < 8) : (Instr.loadAt 63 (.pointer (some ⟨g, i * 17 + 1 + s * 2, none⟩))).run Try.prog x = .ok (.agg (ceA ((W i).u s) ((W i).s s))) x := by
  obtain ⟨cs, h1, h2, h3⟩ := h; have h4 := Qud (P := Try.prog) x 77 63 g (i * 17 + 1 + s * 2) 2 cs h1 _ Try.underlying63 rfl Qfv (by omega)
  have h5 : Qki cs (i * 17 + 1 + s * 2) (ceA ((W i).u s) ((W i).s s)).toList := fun j hj => by
    have hj2 : j < 2 := hj; have h6 := h3 i hi (1 + s * 2 + j) (by show 1 + s * 2 + j < 17; omega); rw [show i * 17 + (1 + s * 2 + j) = i * 17 + 1 + s * 2 + j by omega] at h6; rw [h6]; exact pgA_cell4 (W i) s j hs hj2
  rw [h5.ext 2 rfl (by omega), Array.toArray_toList] at h4; exact h4
theorem P4.lsn (h : P4 x g W) (i : Nat) (hi : i < 4) : x.cell? ⟨g, i * 17, none⟩ = some (.int .u64 ((W i).l : Int)) := by
  obtain ⟨cs, h1, h2, h3⟩ := h; refine h1.cell (i * 17) _ ?_; have h4 := h3 i hi 0 (by show 0 < 17; omega); rw [Nat.add_zero] at h4; rw [h4]; rfl
theorem P4.put (h : P4 x g W) (i : Nat) (hi : i < 4) (p : Pg) : ∃ cs, Qb x g 77 cs /\ i * 17 + (pgA p).size <= cs.size /\ ∀ z, Qb z g 77 (Qtb cs (i * 17) (pgA p).toList) -> P4 z g (upd W i p) := by
  obtain ⟨cs, h1, h2, h3⟩ := h; have hf : i * 17 + (pgA p).toList.length <= cs.size := by show i * 17 + 17 <= _; omega
  refine ⟨cs, h1, hf, fun z hz => ⟨_, hz, by rw [Qtf _ _ _ hf]; exact h2, fun m hm => ?_⟩⟩
  by_cases e : m = i
  · subst e; rw [Qi]; exact Qki.same _ _ _ hf
  · rw [Qk _ _ _ _ e]; exact (h3 m hm).apart _ _ hf (by show m * 17 + 17 <= i * 17 ∨ i * 17 + 17 <= m * 17; omega)
end
section
variable {ops : Array Oper} {rest : List Oper} {o : Oper} {a : Act} {w : World} {Q : Exit -> Act -> World -> Prop}
theorem Qlk (hgd : o.guard = none) (x y : Operand) (ho : o.op = .store 77 x y) (g i : Nat) (W : Nat -> Pg) (p : Pg) (hx : a.eval x = .pointer (some ⟨g, i * 17, none⟩)) (hy : a.eval y = .agg (pgA p)) (H : P4 w g W) (hi : i < 4)
    (h : ∀ w2, P4 w2 g (upd W i p) -> Only g w w2 -> wpList Try.prog ops Q rest (a.put o.dst undef) w2) : wpList Try.prog ops Q (o :: rest) a w := by
  obtain ⟨cs, h1, h2, h3⟩ := H.put i hi p; exact Qza hgd 77 x y ho g (i * 17) 77 cs (pgA p) hx hy h1 Qws h2 (Qoj p) (fun w2 a b => h w2 (h3 w2 a) b)
end
def four (W : Nat -> Pg) : List Value := Qsk [W 0, W 1, W 2, W 3]
theorem Qeq (W : Nat -> Pg) : four W = (pgA (W 0)).toList ++ ((pgA (W 1)).toList ++ ((pgA (W 2)).toList ++ (pgA (W 3)).toList)) := by
  unfold four Qsk; simp only [List.flatMap_cons, List.flatMap_nil, List.append_nil]
theorem Qor (W : Nat -> Pg) : (four W).length = 4 * 17 := by
  rw [Qeq]; rfl
theorem Qfn (W : Nat -> Pg) (i k : Nat) (hi : i < 4) (hk : k < 17) : (four W)[i * 17 + k]? = (pgA (W i)).toList[k]? := by
  have z : ∀ p : Pg, (pgA p).toList.length = 17 := fun _ => rfl
  rw [Qeq]; have hc : i = 0 ∨ i = 1 ∨ i = 2 ∨ i = 3 := by omega
  rcases hc with rfl | rfl | rfl | rfl
  · rw [List.getElem?_append_left (by rw [z]; omega), Nat.zero_mul, Nat.zero_add]
  · rw [List.getElem?_append_right (by rw [z]; omega), z, List.getElem?_append_left (by rw [z]; omega), show 1 * 17 + k - 17 = k by omega]
  · rw [List.getElem?_append_right (by rw [z]; omega), z, List.getElem?_append_right (by rw [z]; omega), z, List.getElem?_append_left (by rw [z]; omega), show 2 * 17 + k - 17 - 17 = k by omega]
  · rw [List.getElem?_append_right (by rw [z]; omega), z, List.getElem?_append_right (by rw [z]; omega), z, List.getElem?_append_right (by rw [z]; omega), z, show 3 * 17 + k - 17 - 17 - 17 = k by omega]
theorem four_one (W : Nat -> Pg) : ∀ u ∈ four W, u.oneCell' = true := by
  intro u hu
  have h : ∀ p : Pg, u ∈ (pgA p).toList -> u.oneCell' = true := fun p hp => by
    have h1 := Qoj p; rw [Array.all_eq_true'] at h1; exact h1 u (by simpa using hp)
  rw [Qeq] at hu
  rcases List.mem_append.1 hu with hu | hu
  · exact h _ hu
  rcases List.mem_append.1 hu with hu | hu
  · exact h _ hu
  rcases List.mem_append.1 hu with hu | hu
  · exact h _ hu
  · exact h _ hu
theorem P4.copy {w : World} {gp : Nat} {W : Nat -> Pg} (h : P4 w gp W) (ty : TypeId) :
    ∃ g c y, (Builtin.append_ #[54, 54] ty #[.slice (some ⟨w.heap.size, 0, none⟩) 0 0, .slice (some ⟨gp, 0, none⟩) 4 4]).run Try.prog (w.alloc (.cells #[] 77)) = .ok (.slice (some ⟨g, 0, none⟩) 4 c) y /\ w.heap.size <= g /\ 4 <= c /\ P4 y g W /\ Below w.heap.size w y := by
  obtain ⟨i, hi0, hi1⟩ := Option.map_eq_some_iff.1 infoP4z; simp only [Prod.mk.injEq] at hi1; have hb : Below w.heap.size w (w.alloc (.cells #[] 77)) := (Below.refl w.heap.size w).alloc (Nat.le_refl _) _; have ho : (w.alloc (.cells #[] 77)).ownsRow w.heap.size 77 17 (.slice (some ⟨w.heap.size, 0, none⟩) 0 0) 0 [] := ⟨rfl, .inr ⟨w.heap.size, 0, #[], rfl, Nat.le_refl _, Qb.new w _ _, Nat.le_refl _, Nat.zero_le _, rfl, rfl⟩⟩; obtain ⟨cs, h1, h2, h3⟩ := h.later hb
  obtain ⟨v', y', r1, r2, r3, _⟩ := run_append_own_at (P := Try.prog) (w := w.alloc (.cells #[] 77)) w.heap.size 54 ty 77 i (.agg (pgA Pg.zero)) 17 200 Try.underlying54 hi0 hi1.1 hi1.2.1 hi1.2.2 rfl (by omega) (.slice (some ⟨w.heap.size, 0, none⟩) 0 0) 0 [] ho ⟨gp, 0, none⟩ 4 4 (four W) (Qor W) (fun j u hu => by
    rw [Addr.add_lit, Nat.zero_add]; refine h1.cell j u ?_; have hj : j < 4 * 17 := by rw [<- Qor W]; exact (List.getElem?_eq_some_iff.1 hu).1
    have h4 := h3 (j / 17) (by omega) (j % 17) (by show j % 17 < 17; omega); rw [<- Qfn W (j / 17) (j % 17) (by omega) (by omega), show j / 17 * 17 + j % 17 = j by omega] at h4; rw [h4]
    exact hu) (four_one W) (by unfold maxLen; omega) (by omega) hb.size
  rw [List.nil_append, Nat.zero_add] at r2; have hb2 : Below w.heap.size w y' := hb.trans ((Tn.of_grown (F := fun k => k = w.heap.size) r3 (fun k hk => by injection hk with hk; exact hk.symm)).below (fun k hk => by rw [hk]; exact Nat.le_refl _) hb.size)
  rcases r2.2 with ⟨_, e⟩ | ⟨g, cap, cur, rfl, a1, a2, a3, a4, a5, a6⟩
  · exact absurd e (by decide)
  · have a7 : 4 * 17 <= cap * 17 := Nat.mul_le_mul a3 (Nat.le_refl 17); refine ⟨g, cap, y', r1, a1, a3, ⟨cur, a2, by rw [a5]; exact a7, fun p hp j hj => ?_⟩, hb2⟩; have hj2 : j < 17 := hj; rw [<- Qfn W p j hp hj2, <- a6, List.getElem?_take_of_lt (by omega), Array.getElem?_toList]
theorem HB.four {w : World} {B g : Nat} {F : Nat -> Prop} {h : Hs} (H : HB w B g F h) : ∃ gp, w.cell? ⟨g, 1, none⟩ = some (.slice (some ⟨gp, 0, none⟩) 4 4) /\ P4 w gp h.pg := by
  obtain ⟨x, HX, _⟩ := H; exact ⟨x.gp, HX.blk.cell _ _ HX.cells.c1, x.cp, HX.prow, by rw [HX.psz]; omega, HX.pat⟩
end
theorem appl_p (p : Pg) (c : Ch) (l : Nat) (w : World) (hp : ¬ p.right) :
    Calls Try.prog 26 #[.agg (pgA p), .agg (chA c), .int .u64 l] w fun e w' => e = .returned (.tuple #[.agg (pgA Pg.zero), .int .i64 1]) /\ Below w.heap.size w w' := by
  have H0 := Qd (Qlo w p c); have HR1 := Qd (fun w => Qnf p w); have HR2 := Qd (fun w => Qfg c w); rw [decide_eq_false hp] at HR1; go_enter Try.func26, Try.ntmps26; obtain ⟨gc, h1⟩ : ∃ g, g = w.heap.size + 1 := ⟨_, rfl⟩; obtain ⟨gr, h2⟩ : ∃ g, g = w.heap.size + 1 + 1 := ⟨_, rfl⟩; rw [<- h2, <- h1] at H0; go_wp2_with (refine Qta rfl _ rfl w.heap.size rfl p H0.out.1 ?_); rw [<- h2, <- h1]; refine Qda (fun x => Hid (Qrh w gc gr p c x)) H0 ?_; clear H0 h1 h2; intro w0 H0; refine (HR1.out _).mono ?_; rintro e w1 ⟨rfl, hb1⟩; have H1 := Qd (H0.out.later hb1); clear H0 hb1 HR1; clear HR2; go_wp2_with (refine Qab rfl _ _ rfl gr Pg.zero Pg.zero rfl rfl H1.out.2.2.1 ?_); intro w7 hP7 hk; have HP7 := Qd hP7; have d7 := hk _ _ H1.out.2.2.2.1 (by have := H1.out.2.2.2.2; omega); clear hP7 hk H1; go_wp2; exact bodyPost_ret (Qag rfl _ _ gr Pg.zero rfl HP7.out) rfl ⟨rfl, d7⟩
theorem app_c (p : Pg) (c : Ch) (l : Nat) (w : World) (hp : p.right) (hc : ¬ c.right) :
    Calls Try.prog 26 #[.agg (pgA p), .agg (chA c), .int .u64 l] w fun e w' => e = .returned (.tuple #[.agg (pgA Pg.zero), .int .i64 1]) /\ Below w.heap.size w w' := by
  have H0 := Qd (Qlo w p c); have HR1 := Qd (fun w => Qnf p w); have HR2 := Qd (fun w => Qfg c w); rw [decide_eq_true hp] at HR1; rw [decide_eq_false hc] at HR2; go_enter Try.func26, Try.ntmps26; obtain ⟨gc, h1⟩ : ∃ g, g = w.heap.size + 1 := ⟨_, rfl⟩; obtain ⟨gr, h2⟩ : ∃ g, g = w.heap.size + 1 + 1 := ⟨_, rfl⟩; rw [<- h2, <- h1] at H0; go_wp2_with (refine Qta rfl _ rfl w.heap.size rfl p H0.out.1 ?_); rw [<- h2, <- h1]; refine Qda (fun x => Hid (Qrh w gc gr p c x)) H0 ?_; clear H0 h1 h2; intro w0 H0; refine (HR1.out _).mono ?_; rintro e w1 ⟨rfl, hb1⟩; have H1 := Qd (H0.out.later hb1); clear H0 hb1 HR1; go_wp2_with (refine Qe rfl 26 _ rfl gc rfl (chA c) H1.out.2.1 _ Try.underlying26 rfl Qq ?_); refine (HR2.out _).mono ?_; rintro e w2 ⟨rfl, hb2⟩; have H2 := Qd (H1.out.later hb2); clear H1 hb2 HR2; go_wp2_with (refine Qab rfl _ _ rfl gr Pg.zero Pg.zero rfl rfl H2.out.2.2.1 ?_); intro w7 hP7 hk; have HP7 := Qd hP7; have d7 := hk _ _ H2.out.2.2.2.1 (by have := H2.out.2.2.2.2; omega); clear hP7 hk H2; go_wp2; exact bodyPost_ret (Qag rfl _ _ gr Pg.zero rfl HP7.out) rfl ⟨rfl, d7⟩
theorem app_l (p : Pg) (c : Ch) (l : Nat) (w : World) (hp : p.right) (hc : c.right) (hl : ¬ l <= Qce) :
    Calls Try.prog 26 #[.agg (pgA p), .agg (chA c), .int .u64 l] w fun e w' => e = .returned (.tuple #[.agg (pgA Pg.zero), .int .i64 1]) /\ Below w.heap.size w w' := by
  have H0 := Qd (Qlo w p c); have HR1 := Qd (fun w => Qnf p w); have HR2 := Qd (fun w => Qfg c w); rw [decide_eq_true hp] at HR1; rw [decide_eq_true hc] at HR2; have i1 : (4611686018427387904 : Int) < (l : Int) := by unfold Qce at hl; omega
  clear hl; go_enter Try.func26, Try.ntmps26; obtain ⟨gc, h1⟩ : ∃ g, g = w.heap.size + 1 := ⟨_, rfl⟩; obtain ⟨gr, h2⟩ : ∃ g, g = w.heap.size + 1 + 1 := ⟨_, rfl⟩; rw [<- h2, <- h1] at H0; go_wp2_with (refine Qta rfl _ rfl w.heap.size rfl p H0.out.1 ?_); rw [<- h2, <- h1]; refine Qda (fun x => Hid (Qrh w gc gr p c x)) H0 ?_; clear H0 h1 h2; intro w0 H0; refine (HR1.out _).mono ?_; rintro e w1 ⟨rfl, hb1⟩; have H1 := Qd (H0.out.later hb1); clear H0 hb1 HR1; go_wp2_with (refine Qe rfl 26 _ rfl gc rfl (chA c) H1.out.2.1 _ Try.underlying26 rfl Qq ?_); refine (HR2.out _).mono ?_; rintro e w2 ⟨rfl, hb2⟩; have H2 := Qd (H1.out.later hb2); clear H1 hb2 HR2; go_wp2_with (refine Qab rfl _ _ rfl gr Pg.zero Pg.zero rfl rfl H2.out.2.2.1 ?_); intro w7 hP7 hk; have HP7 := Qd hP7; have d7 := hk _ _ H2.out.2.2.2.1 (by have := H2.out.2.2.2.2; omega); clear hP7 hk H2; go_wp2; exact bodyPost_ret (Qag rfl _ _ gr Pg.zero rfl HP7.out) rfl ⟨rfl, d7⟩
theorem app_s (p : Pg) (c : Ch) (l : Nat) (w : World) (hp : p.right) (hc : c.right) (hl : l <= Qce) (hs : l <= p.l) :
    Calls Try.prog 26 #[.agg (pgA p), .agg (chA c), .int .u64 l] w fun e w' => e = .returned (.tuple #[.agg (pgA Pg.zero), .int .i64 13]) /\ Below w.heap.size w w' := by
  have H0 := Qd (Qlo w p c); have HR1 := Qd (fun w => Qnf p w); have HR2 := Qd (fun w => Qfg c w); rw [decide_eq_true hp] at HR1; rw [decide_eq_true hc] at HR2; have i1 : ((4611686018427387904 : Int) < (l : Int)) = False := eq_false (by unfold Qce at hl; omega); have i2 : (l : Int) <= (p.l : Int) := by omega
  clear hl hs; go_enter Try.func26, Try.ntmps26; obtain ⟨gc, h1⟩ : ∃ g, g = w.heap.size + 1 := ⟨_, rfl⟩; obtain ⟨gr, h2⟩ : ∃ g, g = w.heap.size + 1 + 1 := ⟨_, rfl⟩; rw [<- h2, <- h1] at H0; go_wp2_with (refine Qta rfl _ rfl w.heap.size rfl p H0.out.1 ?_); rw [<- h2, <- h1]; refine Qda (fun x => Hid (Qrh w gc gr p c x)) H0 ?_; clear H0 h1 h2; intro w0 H0; refine (HR1.out _).mono ?_; rintro e w1 ⟨rfl, hb1⟩; have H1 := Qd (H0.out.later hb1); clear H0 hb1 HR1; go_wp2_with (refine Qe rfl 26 _ rfl gc rfl (chA c) H1.out.2.1 _ Try.underlying26 rfl Qq ?_); refine (HR2.out _).mono ?_; rintro e w2 ⟨rfl, hb2⟩; have H2 := Qd (H1.out.later hb2); clear H1 hb2 HR2; have a0 := H2.out.1.lsn; go_wp2_with (refine Qab rfl _ _ rfl gr Pg.zero Pg.zero rfl rfl H2.out.2.2.1 ?_); intro w7 hP7 hk; have HP7 := Qd hP7; have d7 := hk _ _ H2.out.2.2.2.1 (by have := H2.out.2.2.2.2; omega); clear hP7 hk H2; go_wp2; exact bodyPost_ret (Qag rfl _ _ gr Pg.zero rfl HP7.out) rfl ⟨rfl, d7⟩
theorem apply_any (p : Pg) (c : Ch) (l : Nat) (w : World) (hl : l < 18446744073709551616) :
    Calls Try.prog 26 #[.agg (pgA p), .agg (chA c), .int .u64 l] w fun e w' => e = .returned (.tuple #[.agg (pgA (Qsp p c l)), .int .i64 (appE p c l)]) /\ Below w.heap.size w w' := by
  by_cases hp : p.right
  · by_cases hc : c.right
    · by_cases hl : l <= Qce
      · by_cases hs : l <= p.l
        · have e : appE p c l = 13 := by unfold appE; rw [if_neg (fun h => h ⟨hp, hc, hl⟩), if_pos hs]
          rw [app_no p c l (by rw [e]; decide), e]; exact app_s p c l w hp hc hl hs
        · exact app_go p c l w hp hc hl (by omega)
      · have e : appE p c l = 1 := by unfold appE; rw [if_pos (fun h => hl h.2.2)]
        rw [app_no p c l (by rw [e]; decide), e]; exact app_l p c l w hp hc hl
    · have e : appE p c l = 1 := by unfold appE; rw [if_pos (fun h => hc h.2.1)]
      rw [app_no p c l (by rw [e]; decide), e]; exact app_c p c l w hp hc
  · have e : appE p c l = 1 := by unfold appE; rw [if_pos (fun h => hp h.1)]
    rw [app_no p c l (by rw [e]; decide), e]; exact appl_p p c l w hp
def Qel (p : Pg) : List Lit := [.int .u64 p.l, .bool (p.u 0), .string (p.s 0).data.toList, .bool (p.u 1), .string (p.s 1).data.toList, .bool (p.u 2), .string (p.s 2).data.toList, .bool (p.u 3), .string (p.s 3).data.toList, .bool (p.u 4), .string (p.s 4).data.toList, .bool (p.u 5), .string (p.s 5).data.toList, .bool (p.u 6), .string (p.s 6).data.toList, .bool (p.u 7), .string (p.s 7).data.toList]
theorem Qpp (p q : Pg) : Qel p = Qel q ↔ p.same q := by
  unfold Qel; simp only [List.cons.injEq, and_true, Lit.int.injEq, Lit.bool.injEq, Lit.string.injEq, Qon, true_and]
  constructor
  · rintro ⟨h, a0, b0, a1, b1, a2, b2, a3, b3, a4, b4, a5, b5, a6, b6, a7, b7⟩; refine ⟨by omega, fun i hi => ?_⟩
    rcases lt8 hi with rfl | rfl | rfl | rfl | rfl | rfl | rfl | rfl
    · exact ⟨a0, b0⟩
    · exact ⟨a1, b1⟩
    · exact ⟨a2, b2⟩
    · exact ⟨a3, b3⟩
    · exact ⟨a4, b4⟩
    · exact ⟨a5, b5⟩
    · exact ⟨a6, b6⟩
    · exact ⟨a7, b7⟩
  · rintro ⟨h, g⟩; exact ⟨by omega, (g 0 (by omega)).1, (g 0 (by omega)).2, (g 1 (by omega)).1, (g 1 (by omega)).2, (g 2 (by omega)).1, (g 2 (by omega)).2, (g 3 (by omega)).1, (g 3 (by omega)).2, (g 4 (by omega)).1, (g 4 (by omega)).2, (g 5 (by omega)).1, (g 5 (by omega)).2, (g 6 (by omega)).1, (g 6 (by omega)).2, (g 7 (by omega)).1, (g 7 (by omega)).2⟩
theorem Qbd (u : Bool) (s : ByteArray) (hs : s.size <= maxLen) : Try.prog.keyLits 2 63 [.bool u, .string s] = some [.bool u, .string s.data.toList] := by
  have e0 : Try.prog.cellsOf 4 = 1 := by kernel_rfl
  have e1 : Try.prog.cellsOf 9 = 1 := by kernel_rfl
  have e2 : Try.prog.cellsOf 63 = 2 := by kernel_rfl
  simp [Program.keyLits, Try.underlying63, Try.underlying4, Try.underlying9, e0, e1, e2, hs]
theorem Qgh (p : Pg) (h : p.fits) : Try.prog.keyLits 4 77 (pgA p).toList = some (Qel p) := by
  have e0 : Try.prog.cellsOf 23 = 1 := by kernel_rfl
  have e1 : Try.prog.cellsOf 75 = 16 := by kernel_rfl
  have e2 : Try.prog.cellsOf 63 = 2 := by kernel_rfl
  have e3 : Try.prog.cellsOf 77 = 17 := by kernel_rfl
  have hw : (Lit.int .u64 (p.l : Int)).wf = true := by
    have h1 := h.1; have m1 : IntKind.u64.min = 0 := rfl; have m2 : IntKind.u64.max = 18446744073709551615 := by decide
    simp only [Lit.wf, m1, m2, Bool.and_eq_true, decide_eq_true_eq]; omega
  have r8 : List.range 8 = [0, 1, 2, 3, 4, 5, 6, 7] := rfl; have c0 := Qbd (p.u 0) (p.s 0) (h.2 0 (by omega)); have c1 := Qbd (p.u 1) (p.s 1) (h.2 1 (by omega)); have c2 := Qbd (p.u 2) (p.s 2) (h.2 2 (by omega)); have c3 := Qbd (p.u 3) (p.s 3) (h.2 3 (by omega)); have c4 := Qbd (p.u 4) (p.s 4) (h.2 4 (by omega)); have c5 := Qbd (p.u 5) (p.s 5) (h.2 5 (by omega)); have c6 := Qbd (p.u 6) (p.s 6) (h.2 6 (by omega)); have c7 := Qbd (p.u 7) (p.s 7) (h.2 7 (by omega))
  have hu : Try.prog.keyLits 3 23 [.int .u64 (p.l : Int)] = some [.int .u64 (p.l : Int)] := by
    simp [Program.keyLits, Try.underlying23, hw]
  have ha : Try.prog.keyLits 3 75 [.bool (p.u 0), .string (p.s 0), .bool (p.u 1), .string (p.s 1), .bool (p.u 2), .string (p.s 2), .bool (p.u 3), .string (p.s 3), .bool (p.u 4), .string (p.s 4), .bool (p.u 5), .string (p.s 5), .bool (p.u 6), .string (p.s 6), .bool (p.u 7), .string (p.s 7)] = some (Qel p).tail := by
    unfold Program.keyLits; simp [Try.underlying75, e1, e2, r8, c0, c1, c2, c3, c4, c5, c6, c7, Qel]
  unfold Program.keyLits; simp [Try.underlying77, e0, e1, e3, pgA, hu, ha]; simp [Qel]
theorem run_page_eql (p q : Pg) (hp : p.fits) (hq : q.fits) (w : World) : (binOp .eql 77 (.agg (pgA p)) (.agg (pgA q))).run Try.prog w = .ok (.bool (decide (p.same q))) w := by
  obtain ⟨r, hr, hiff⟩ := run_equalIn_deep (P := Try.prog) 9996 4 77 (by kernel_rfl) w 4 4 (.agg (pgA p)) (.agg (pgA q)) (Qel p) (Qel q) (by kernel_rfl) (by kernel_rfl) (Qgh p hp) (Qgh q hq)
  have e : r = decide (p.same q) := by
    rw [Bool.eq_iff_iff, hiff, Qpp, decide_eq_true_iff]
  rw [e] at hr; have hr2 : (Op.equal 77 (.agg (pgA p)) (.agg (pgA q))).run Try.prog w = .ok (decide (p.same q)) w := hr; simp [binOp, hr2]
theorem run_page_neq (p q : Pg) (hp : p.fits) (hq : q.fits) (w : World) : (binOp .neq 77 (.agg (pgA p)) (.agg (pgA q))).run Try.prog w = .ok (.bool (!decide (p.same q))) w := by
  obtain ⟨r, hr, hiff⟩ := run_equalIn_deep (P := Try.prog) 9996 4 77 (by kernel_rfl) w 4 4 (.agg (pgA p)) (.agg (pgA q)) (Qel p) (Qel q) (by kernel_rfl) (by kernel_rfl) (Qgh p hp) (Qgh q hq)
  have e : r = decide (p.same q) := by
    rw [Bool.eq_iff_iff, hiff, Qpp, decide_eq_true_iff]
  rw [e] at hr; have hr2 : (Op.equal 77 (.agg (pgA p)) (.agg (pgA q))).run Try.prog w = .ok (decide (p.same q)) w := hr; simp [binOp, hr2]
theorem page_guard (op : BinOp) (x y : Operand) (p q : Pg) (w : World) : (eqGuard op 77 x y (.agg (pgA p)) (.agg (pgA q))).run Try.prog w = .ok () w := run_eqGuard_agg (P := Try.prog) w op 77 x y (pgA p) (pgA q) (by kernel_rfl)
def Qmv (u : Bool) (s : ByteArray) : List Lit := [.bool u, .string s.data.toList]
theorem Qkv (u v : Bool) (s t : ByteArray) : Qmv u s = Qmv v t ↔ u = v /\ s = t := by
  unfold Qmv; simp only [List.cons.injEq, and_true, Lit.bool.injEq, Lit.string.injEq, Qon]
theorem run_cell_eql (u v : Bool) (s t : ByteArray) (hs : s.size <= maxLen) (ht : t.size <= maxLen) (w : World) : (binOp .eql 63 (.agg (ceA u s)) (.agg (ceA v t))).run Try.prog w = .ok (.bool (decide (u = v /\ s = t))) w := by
  obtain ⟨r, hr, hiff⟩ := run_equalIn_deep (P := Try.prog) 9998 2 63 (by kernel_rfl) w 2 2 (.agg (ceA u s)) (.agg (ceA v t)) (Qmv u s) (Qmv v t) (by kernel_rfl) (by kernel_rfl) (Qbd u s hs) (Qbd v t ht)
  have e : r = decide (u = v /\ s = t) := by
    rw [Bool.eq_iff_iff, hiff, Qkv, decide_eq_true_iff]
  rw [e] at hr; have hr2 : (Op.equal 63 (.agg (ceA u s)) (.agg (ceA v t))).run Try.prog w = .ok (decide (u = v /\ s = t)) w := hr; simp [binOp, hr2]
theorem Qdv (u v : Bool) (s t : ByteArray) (hs : s.size <= maxLen) (ht : t.size <= maxLen) (w : World) : (binOp .neq 63 (.agg (ceA u s)) (.agg (ceA v t))).run Try.prog w = .ok (.bool (!decide (u = v /\ s = t))) w := by
  obtain ⟨r, hr, hiff⟩ := run_equalIn_deep (P := Try.prog) 9998 2 63 (by kernel_rfl) w 2 2 (.agg (ceA u s)) (.agg (ceA v t)) (Qmv u s) (Qmv v t) (by kernel_rfl) (by kernel_rfl) (Qbd u s hs) (Qbd v t ht)
  have e : r = decide (u = v /\ s = t) := by
    rw [Bool.eq_iff_iff, hiff, Qkv, decide_eq_true_iff]
  rw [e] at hr; have hr2 : (Op.equal 63 (.agg (ceA u s)) (.agg (ceA v t))).run Try.prog w = .ok (decide (u = v /\ s = t)) w := hr; simp [binOp, hr2]
theorem Qgv (op : BinOp) (x y : Operand) (u v : Bool) (s t : ByteArray) (w : World) : (eqGuard op 63 x y (.agg (ceA u s)) (.agg (ceA v t))).run Try.prog w = .ok () w := run_eqGuard_agg (P := Try.prog) w op 63 x y (ceA u s) (ceA v t) (by kernel_rfl)
section
open Go.ChangeShapes Go.WideShapes Go.ChangeAt Go.RowKit Go.Deep Go.Joins
section
variable {H : Type}
theorem bulk_pos (d : DataW H) : 1 <= Rows.uptoBulk d := by
  cases d with
  | lit l => cases l <;> simp [Rows.uptoBulk]
  | _ => simp [Rows.uptoBulk]
theorem Qtr : ∀ (l : List (DataW H)), l.length <= Rows.uptoBulkAll l
  | [] => by simp
  | d :: l => by
    have h1 := bulk_pos d; have h2 := Qtr l; simp only [Rows.uptoBulkAll, List.length_cons]; omega
theorem Qri.small {d : DataW H} {len cap : Nat} (h : Qri d len cap) : len <= Rows.uptoBulk d := by
  rcases h with ⟨_, rfl, _⟩ | ⟨es, sp, rfl, h1, h2⟩
  · omega
  · have := Qtr es; simp only [Rows.uptoBulk]; omega
end
end
section
open Go.ChangeShapes Go.WideShapes Go.ChangeAt Go.RowKit Go.Deep Go.Joins
section
variable {H : Type} {enc : TypeId × Value -> H} {W : World}
set_option maxRecDepth 40000 in
theorem Qmp {v : Value} {d : DataW H} {p : List MemPlace} {r : Reach} {b0 : Nat} (hv : Value.okWide Try.prog W r b0 22 v) (h : DataW.Trod enc Try.prog W 0 (fun _ => true) true 22 v d p) : ∃ a len cap, v = .slice a len cap /\ Qri d len cap /\ len <= cap /\ (a = none -> cap = 0) := by
  obtain ⟨a, len, cap, f, h1, h2, h3, h4, _, _⟩ := @Qlp H enc Try.prog W (Rec × Value × Value) ⟨rcZ⟩ 22 30 14 v d p r b0 (fun m k => (rcF m).toList.getD k (.bool false)) (fun _ => True) (fun n cs y hy => by
    obtain ⟨m, rfl, _⟩ := Qvr n cs y hy; refine ⟨m, trivial, fun k hk => ?_⟩; rw [List.getD_eq_getElem?_getD, List.getElem?_eq_getElem (by rw [Array.length_toList]; exact hk)]
    rfl) Try.underlying22 (by kernel_rfl) (by decide) hv h
  exact ⟨a, len, cap, h1, h2, h3, h4⟩
set_option maxRecDepth 40000 in
theorem op_recs_arg {v : Value} {d : DataW H} {p : List MemPlace} {r : Reach} {b0 : Nat} (hv : Value.okWide Try.prog W r b0 22 v) (h : DataW.Trod enc Try.prog W 0 (fun _ => true) true 22 v d p) :
    ∃ ms : List (Rec × Value × Value), Qil W v ms /\ ms.length <= maxLen /\ ∀ a len cap, v = .slice a len cap -> len <= cap := by
  obtain ⟨a, len, cap, rfl, _, hc, _⟩ := Qmp hv h; obtain ⟨fuel, hf⟩ := h; have hf2 : DataW.trod enc Try.prog W 0 (fun _ => true) true fuel 22 [.slice a len cap] = some (d, p) := hf; obtain ⟨ms, h1, h2, h3⟩ := op_recs Try.underlying22 hf2; refine ⟨ms, ⟨h1, h3⟩, h2, fun a' l' c' e => ?_⟩; injection e with e1 e2 e3; omega
set_option maxRecDepth 40000 in
theorem op_recs_few {v : Value} {d : DataW H} {p : List MemPlace} {r : Reach} {b0 N : Nat} (hv : Value.okWide Try.prog W r b0 22 v) (h : DataW.Trod enc Try.prog W 0 (fun _ => true) true 22 v d p) (hs : ∀ len cap, Qri d len cap -> len <= N) :
    ∃ ms : List (Rec × Value × Value), Qil W v ms /\ ms.length <= N /\ ∀ a len cap, v = .slice a len cap -> len <= cap /\ (a = none -> cap = 0) := by
  obtain ⟨a, len, cap, rfl, hsl, hc, hnl⟩ := Qmp hv h; obtain ⟨fuel, hf⟩ := h; have hf2 : DataW.trod enc Try.prog W 0 (fun _ => true) true fuel 22 [.slice a len cap] = some (d, p) := hf; obtain ⟨ms, h1, h2, h3⟩ := op_recs Try.underlying22 hf2
  have hl : ms.length = len := by
    obtain ⟨a', c', e, _⟩ := h1; injection e with e1 e2 e3; exact e2.symm
  refine ⟨ms, ⟨h1, h3⟩, by rw [hl]; exact hs _ _ hsl, fun a' l' c' e => ?_⟩; injection e with e1 e2 e3; subst e1 e2 e3; exact ⟨hc, hnl⟩
end
end
end Go.Proofs.Ytohdmmfmjadipaa
