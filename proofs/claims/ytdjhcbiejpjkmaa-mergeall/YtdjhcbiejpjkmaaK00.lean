/-
  Texts that lean on one another, one behind the other: each opens with its own remark.
-/
import Derived.WalkKit
import Derived.Laws.CopyOwn
import Derived.Lib.ConvBytes
import Derived.Laws.IdiomStrings
import Derived.Laws.BytesArg
import Derived.Lib.AppendStr
import Derived.WalkSpells
import Derived.Laws.OwnMore
import Derived.Laws.ResultCell
import Derived.Laws.Tables
import Derived.Deep.Draws
import Derived.Test.YtdjhcbiejpjkmaaProg
import Derived.Deep.MidRow
import Derived.Deep.QuietTactic
import Derived.BigQuiet
import Derived.OpenShut
import Derived.DeepKeys
import Derived.Laws.StructEq

namespace Go.Proofs.Ytdjhcbiejpjkmaa
open Go.RowKit
set_option linter.unusedVariables false
set_option maxRecDepth 8000
set_option maxHeartbeats 25600000
theorem Qc {p : Prop} (h : p) : Hid p := h
theorem Qhk {w w' : World} {base n size : Nat} {e : TypeId} {v : Value} {xs : List Value} (h : w.ownsRow base e size v n xs) (hb : Below w.heap.size w w') : w'.ownsRow base e size v n xs := by
  refine ⟨h.1, ?_⟩
  rcases h.2 with hn | ⟨g, cap, cur, rfl, hbg, hg, rest⟩
  · exact .inl hn
  · exact .inr ⟨g, cap, cur, rfl, hbg, by rw [hb.block g (Array.getElem?_eq_some_iff.1 hg).1]; exact hg, rest⟩
set_option linter.unusedVariables false
def Qve : Nat := 4611686018427387904
theorem mk_data (s : ByteArray) : (⟨s.data.toList.toArray⟩ : ByteArray) = s := by
  obtain ⟨⟨l⟩⟩ := s; rfl
theorem data_inj {s t : ByteArray} : s.data.toList = t.data.toList ↔ s = t :=
  ⟨fun h => by rw [<- mk_data s, h, mk_data], fun h => by rw [h]⟩
structure Ch where
  k : Int
  pg : Int
  sl : Int
  o : ByteArray
  n : ByteArray
def Ch.zero : Ch := ⟨0, 0, 0, ⟨#[]⟩, ⟨#[]⟩⟩
def chA (c : Ch) : Array Value := #[.int .i64 c.k, .int .i64 c.pg, .int .i64 c.sl, .string c.o, .string c.n]
abbrev Ch.kindOk (c : Ch) : Prop := c.k = 1 /\ c.o.size = 0 ∨ c.k = 2 ∨ c.k = 3 /\ c.n.size = 0
abbrev Ch.right (c : Ch) : Prop := (0 <= c.pg /\ c.pg <= 31 /\ 0 <= c.sl /\ c.sl <= 7 /\ c.o.size <= 20 /\ c.n.size <= 20) /\ c.kindOk
theorem size0 (s : ByteArray) (h : s.size = 0) : s = ⟨#[]⟩ := by
  obtain ⟨⟨l⟩⟩ := s; have : l = [] := List.eq_nil_of_length_eq_zero h; subst this; rfl
structure Tx where
  t : Int
  s : Int
  f : Nat
  l : Nat
  n : Nat
structure Di where
  p : Int
  r : Nat
def Tx.zero : Tx := ⟨0, 0, 0, 0, 0⟩
def Di.zero : Di := ⟨0, 0⟩
structure Rec where
  k : Int
  l : Nat
  t : Int
  p : Nat
  c : Ch
  n : Nat
  s : Int
  b : Nat
  ts : List Tx
  ds : List Di
def Rec.zero : Rec := ⟨0, 0, 0, 0, Ch.zero, 0, 0, 0, [], []⟩
def txOk (l : Nat) (x : Tx) : Prop := 1 <= x.t /\ x.t <= 1048575 /\ 1 <= x.s /\ x.s <= 3 /\ 1 <= x.f /\ x.f <= x.l /\ x.l < l /\ x.n <= x.l
def diOk (l : Nat) (d : Di) : Prop := 0 <= d.p /\ d.p <= 31 /\ 1 <= d.r /\ d.r < l
def txAt (l : Nat) (ts : List Tx) (i : Nat) : Prop := txOk l (ts.getD i Tx.zero) /\ (0 < i -> (ts.getD (i - 1) Tx.zero).t < (ts.getD i Tx.zero).t)
def Qzaa (l : Nat) (ds : List Di) (i : Nat) : Prop := diOk l (ds.getD i Di.zero) /\ (0 < i -> (ds.getD (i - 1) Di.zero).p < (ds.getD i Di.zero).p)
def Rec.rows (r : Rec) : Prop := r.ts.length <= 16 /\ r.ds.length <= 32 /\ (∀ i, i < r.ts.length -> txAt r.l r.ts i) /\ (∀ i, i < r.ds.length -> Qzaa r.l r.ds i) /\ 1 <= r.b /\ r.b < r.l
structure Rec.right (r : Rec) : Prop where
  k1 : 1 <= r.k
  k8 : r.k <= 8
  l1 : 1 <= r.l
  lm : r.l <= Qve
  own : r.k <= 6 -> 1 <= r.t /\ r.t <= 1048575 /\ r.p < r.l
  none : 6 < r.k -> r.t = 0 /\ r.p = 0
  ch : r.k <= 2 -> r.c.right
  noch : 2 < r.k -> r.c = Ch.zero
  next : r.k = 2 -> r.n < r.l
  nonext : r.k ≠ 2 -> r.n = 0
  save : r.k = 6 -> 1 <= r.s /\ r.s <= 8
  nosave : r.k ≠ 6 -> r.s = 0
  check : r.k = 8 -> r.rows
  nocheck : r.k ≠ 8 -> r.b = 0 /\ r.ts = [] /\ r.ds = []
def txOkD (l : Nat) (x : Tx) : Decidable (txOk l x) := inferInstanceAs (Decidable (1 <= x.t /\ x.t <= 1048575 /\ 1 <= x.s /\ x.s <= 3 /\ 1 <= x.f /\ x.f <= x.l /\ x.l < l /\ x.n <= x.l))
def diOkD (l : Nat) (d : Di) : Decidable (diOk l d) := inferInstanceAs (Decidable (0 <= d.p /\ d.p <= 31 /\ 1 <= d.r /\ d.r < l))
def txAtD (l : Nat) (ts : List Tx) (i : Nat) : Decidable (txAt l ts i) :=
  have := txOkD l (ts.getD i Tx.zero)
  inferInstanceAs (Decidable (txOk l (ts.getD i Tx.zero) /\ (0 < i -> (ts.getD (i - 1) Tx.zero).t < (ts.getD i Tx.zero).t)))
def diAtD (l : Nat) (ds : List Di) (i : Nat) : Decidable (Qzaa l ds i) :=
  have := diOkD l (ds.getD i Di.zero)
  inferInstanceAs (Decidable (diOk l (ds.getD i Di.zero) /\ (0 < i -> (ds.getD (i - 1) Di.zero).p < (ds.getD i Di.zero).p)))
def Rec.rowsD (r : Rec) : Decidable r.rows :=
  have : ∀ i, Decidable (txAt r.l r.ts i) := fun i => txAtD r.l r.ts i
  have : ∀ i, Decidable (Qzaa r.l r.ds i) := fun i => diAtD r.l r.ds i
  inferInstanceAs (Decidable (r.ts.length <= 16 /\ r.ds.length <= 32 /\ (∀ i, i < r.ts.length -> txAt r.l r.ts i) /\ (∀ i, i < r.ds.length -> Qzaa r.l r.ds i) /\ 1 <= r.b /\ r.b < r.l))
theorem Qtm (c : Ch) : (c.k = 0 /\ c.pg = 0 /\ c.sl = 0 /\ c.o.data.toList = [] /\ c.n.data.toList = []) ↔ c = Ch.zero := by
  constructor
  · rintro ⟨h1, h2, h3, h4, h5⟩; obtain ⟨k, pg, sl, ⟨o⟩, ⟨n⟩⟩ := c; simp only at h1 h2 h3 h4 h5; subst h1 h2 h3; have e4 : o = #[] := by simpa using h4
    have e5 : n = #[] := by simpa using h5
    subst e4 e5; rfl
  · rintro rfl; exact ⟨rfl, rfl, rfl, rfl, rfl⟩
theorem Qor (r : Rec) : ((1 <= r.k /\ r.k <= 8 /\ 1 <= r.l /\ r.l <= Qve) /\ (r.k <= 6 -> 1 <= r.t /\ r.t <= 1048575 /\ r.p < r.l) /\ (6 < r.k -> r.t = 0 /\ r.p = 0) /\ (r.k <= 2 -> r.c.right) /\ (2 < r.k -> (r.c.k = 0 /\ r.c.pg = 0 /\ r.c.sl = 0 /\ r.c.o.data.toList = [] /\ r.c.n.data.toList = [])) /\ (r.k = 2 -> r.n < r.l) /\ (r.k ≠ 2 -> r.n = 0) /\ (r.k = 6 -> 1 <= r.s /\ r.s <= 8) /\ (r.k ≠ 6 -> r.s = 0) /\ (r.k = 8 -> r.rows) /\ (r.k ≠ 8 -> r.b = 0 /\ r.ts.length = 0 /\ r.ds.length = 0)) ↔ r.right := by
  constructor
  · rintro ⟨⟨h1, h2, h3, h4⟩, h5, h6, h7, h8, h9, h10, h11, h12, h13, h14⟩; exact ⟨h1, h2, h3, h4, h5, h6, h7, fun h => (Qtm _).1 (h8 h), h9, h10, h11, h12, h13, fun h => ⟨(h14 h).1, List.eq_nil_of_length_eq_zero (h14 h).2.1, List.eq_nil_of_length_eq_zero (h14 h).2.2⟩⟩
  · intro h; exact ⟨⟨h.k1, h.k8, h.l1, h.lm⟩, h.own, h.none, h.ch, fun q => (Qtm _).2 (h.noch q), h.next, h.nonext, h.save, h.nosave, h.check, fun q => ⟨(h.nocheck q).1, by rw [(h.nocheck q).2.1]; rfl, by rw [(h.nocheck q).2.2]; rfl⟩⟩
def Rec.rightD (r : Rec) : Decidable r.right :=
  have := r.rowsD
  have : Decidable (r.k <= 6 -> 1 <= r.t /\ r.t <= 1048575 /\ r.p < r.l) := inferInstance
  have : Decidable (6 < r.k -> r.t = 0 /\ r.p = 0) := inferInstance
  have : Decidable (r.k <= 2 -> r.c.right) := inferInstance
  have : Decidable (2 < r.k -> (r.c.k = 0 /\ r.c.pg = 0 /\ r.c.sl = 0 /\ r.c.o.data.toList = [] /\ r.c.n.data.toList = [])) := inferInstance
  have : Decidable (r.k = 6 -> 1 <= r.s /\ r.s <= 8) := inferInstance
  have : Decidable (r.k = 8 -> r.rows) := inferInstance
  have : Decidable (r.k ≠ 8 -> r.b = 0 /\ r.ts.length = 0 /\ r.ds.length = 0) := inferInstance
  decidable_of_iff _ (Qor r)
def Rec.rightB (r : Rec) : Bool := @decide r.right r.rightD
theorem Qdi {r : Rec} (h : r.right) : r.rightB = true := by
  unfold Rec.rightB; exact @decide_eq_true _ r.rightD h
theorem Qck {r : Rec} (h : ¬ r.right) : r.rightB = false := by
  unfold Rec.rightB; exact @decide_eq_false _ r.rightD h
theorem Qbi {r : Rec} : r.rightB = true ↔ r.right := by
  constructor
  · intro h
    by_cases hr : r.right
    · exact hr
    · rw [Qck hr] at h; cases h
  · exact Qdi
section
def Qb (w : World) (b : Nat) (t : TypeId) (cs : Array Value) : Prop := w.heap[b]? = some (.cells cs t (0, 0))
theorem Qb.below {w w' : World} {b B : Nat} {t : TypeId} {cs : Array Value} (h : Qb w b t cs) (hb : Below B w w') (hB : b < B) : Qb w' b t cs := (hb.block b hB).trans h
theorem Qb.lt {w : World} {b : Nat} {t : TypeId} {cs : Array Value} (h : Qb w b t cs) : b < w.heap.size := (Array.getElem?_eq_some_iff.1 h).1
theorem Qb.later {w w' : World} {b : Nat} {t : TypeId} {cs : Array Value} (h : Qb w b t cs) (hb : Below w.heap.size w w') : Qb w' b t cs := h.below hb h.lt
theorem Qb.cell {w : World} {b : Nat} {t : TypeId} {cs : Array Value} (h : Qb w b t cs) (j : Nat) (v : Value) (hv : cs[j]? = some v) : w.cell? ⟨b, j, none⟩ = some v := by
  rw [cell_of_row w b j _ _ (0, 0) h]; exact hv
theorem Qb.free {w : World} {b : Nat} {t : TypeId} {cs : Array Value} (h : Qb w b t cs) (j : Nat) : w.frozen? ⟨b, j, none⟩ = false := frozen_of_row w b j _ _ h
theorem Qb.other {w : World} {b : Nat} {t : TypeId} {cs : Array Value} (h : Qb w b t cs) (a : Addr) (v : Value) (hn : b ≠ a.block) : Qb (w.setCell a v) b t cs := (heap_setCell_other w a b v hn).trans h
theorem Qb.set {w : World} {b : Nat} {t : TypeId} {cs : Array Value} (h : Qb w b t cs) (j : Nat) (v : Value) : Qb (w.setCell ⟨b, j, none⟩ v) b t (cs.setIfInBounds j v) := heap_setCell_same w b j _ _ v h
theorem Qb.new (w : World) (t : TypeId) (cs : Array Value) : Qb (w.alloc (.cells cs t)) w.heap.size t cs := heap_alloc_new w _
section
variable {P : Program} {ops : Array Oper} {rest : List Oper} {o : Oper} {a : Act} {w : World} {Q : Exit -> Act -> World -> Prop}
theorem Qd (hw : Region.wanted o (yielded ops a.tmps) = true) (t : TypeId) (x : Operand) (ho : o.op = .load t x) (g : Nat) (hx : a.eval x = .pointer (some ⟨g, 0, none⟩)) (cs : Array Value) (hg : Qb w g t cs) (d : TypeDesc)
    (hu : P.underlying t = some d) (hd : (match d with | .struct _ | .array _ _ => true | _ => false) = true) (hi : (P.info? t).map (·.size) = some cs.size) (h : wpList P ops Q rest (a.put o.dst (.agg cs)) w) : wpList P ops Q (o :: rest) a w :=
  wpList_step fun K hK => by
    simp only [hw, if_true]; exact wp_load_row t x ho g hx t cs (0, 0) d hg hu hd hi (hK _ _ h)
theorem Qe (hgd : o.guard = none) (t : TypeId) (x y : Operand) (ho : o.op = .store t x y) (g : Nat) (c0 cs : Array Value) (hx : a.eval x = .pointer (some ⟨g, 0, none⟩)) (hy : a.eval y = .agg cs) (hg : Qb w g t c0)
    (hi : (P.info? t).map (·.size) = some cs.size) (hz : c0.size = cs.size) (h1 : cs.all (·.oneCell') = true)
    (h : ∀ w2, Qb w2 g t cs -> (∀ B w0, Below B w0 w -> B <= g -> Below B w0 w2) -> (∀ k t' c', k ≠ g -> Qb w k t' c' -> Qb w2 k t' c') -> wpList P ops Q rest (a.put o.dst undef) w2) : wpList P ops Q (o :: rest) a w := by
  refine wpList_store_row hgd t x y ho g cs hx hy t c0 hg hi hz h1 (h _ ?_ (fun B w0 hb hB => ?_) (fun k t' c' hk hr => ?_))
  · exact setRow_heap w g c0 cs t (0, 0) hg
  · exact ⟨hb.1, hb.2, hb.3, by simp [World.setRow]; exact hb.4, fun k hk => (setRow_other w g k _ (by omega)).trans (hb.5 k hk)⟩
  · exact (setRow_other w g k _ hk).trans hr
end
theorem Qhd {Q : World -> Prop} (H : World -> Prop) {x : World} (h : H x) (k : ∀ y, H y -> Q y) : Q x := k x h
theorem Qfb (s : ByteArray) : s.toList.isEmpty = true ↔ s.size = 0 := by
  rw [ByteArray.toList_eq]; obtain ⟨⟨l⟩⟩ := s; cases l <;> simp [ByteArray.size]
theorem Qt {B : Nat} {w w' : World} (h : Below B w w') (k : Nat) : Below B w (w'.drewN k) := ⟨h.1, h.2, h.3, h.4, h.5⟩
theorem Qwa {P : Program} {f : FuncId} {args : Array Value} {Q : Ending -> World -> Prop} (H : World -> Prop) {x : World} (h : H x) (k : ∀ y, H y -> Calls P f args y Q) : Calls P f args x Q := k x h
theorem Qde {P : Program} {c : Code} {Q : Exit -> Act -> World -> Prop} {a : Act} (H : World -> Prop) {x : World} (h : H x) (k : ∀ y, H y -> Code.wp P c Q a y) : Code.wp P c Q a x := k x h
theorem Qai {P : Program} {ops : Array Oper} {rest : List Oper} {o : Oper} {a : Act} {w : World} {Q : Exit -> Act -> World -> Prop} (hw : Region.wanted o (yielded ops a.tmps) = true) (v : Value) (hv : (execOp a.eval o).run P w = .ok (.value v) w)
    (h : wpList P ops Q rest (a.put o.dst v) w) : wpList P ops Q (o :: rest) a w :=
  wpList_step fun K hK => by
    simp only [hw, if_true]; unfold Oper.wp; rw [hv]; exact hK _ _ h
theorem Qvt {P : Program} {ops : Array Oper} {rest : List Oper} {o : Oper} {a : Act} {w : World} {Q : Exit -> Act -> World -> Prop} (hw : Region.wanted o (yielded ops a.tmps) = true) (op : BinOp) (t r : TypeId) (x y : Operand) (ho : o.op = .binOp op t x y r) (u v z : Value) (hu : a.eval x = u) (hv : a.eval y = v) (hg : (eqGuard op t x y u v).run P w = .ok () w)
    (hz : (binOp op t u v).run P w = .ok z w) (h : wpList P ops Q rest (a.put o.dst z) w) : wpList P ops Q (o :: rest) a w :=
  Qai hw z (by unfold execOp; simp only [ho, hu, hv, Sem.run_bind, hg, hz, Result.andThen_ok, Sem.run_pure]) h
end
def Qwe (w : World) (b : Nat) (c : Ch) : Prop := w.heap[b]? = some (.cells (chA c) 41 (0, 0))
theorem Qwe.all {w : World} {b : Nat} {c : Ch} (h : Qwe w b c) : w.cell? ⟨b, 0, none⟩ = some (.int .i64 c.k) /\ w.cell? ⟨b, 1, none⟩ = some (.int .i64 c.pg) /\ w.cell? ⟨b, 2, none⟩ = some (.int .i64 c.sl) /\ w.cell? ⟨b, 3, none⟩ = some (.string c.o) /\ w.cell? ⟨b, 4, none⟩ = some (.string c.n) := by
  refine ⟨?_, ?_, ?_, ?_, ?_⟩ <;> (rw [cell_of_row w b _ _ _ (0, 0) h]; rfl)
theorem infoCh : (Try.prog.info? 41).map (·.size) = some 5 := by kernel_rfl
theorem chA_one (c : Ch) : (chA c).all (·.oneCell') = true := by simp [chA, Value.oneCell']
def Has (x : World) : List (Nat × TypeId × Array Value) -> Prop
  | [] => True
  | e :: l => Qb x e.1 e.2.1 e.2.2 /\ Has x l
theorem Has.later {x y : World} (hb : Below x.heap.size x y) : ∀ {l : List (Nat × TypeId × Array Value)}, Has x l -> Has y l
  | [], _ => trivial
  | _ :: _, h => ⟨h.1.later hb, h.2.later hb⟩
theorem Has.drew {x : World} : ∀ {l : List (Nat × TypeId × Array Value)}, Has x l -> Has x.drew l
  | [], _ => trivial
  | _ :: _, h => ⟨h.1, h.2.drew⟩
def Qx (w x : World) (l : List (Nat × TypeId × Array Value)) : Prop := Has x l /\ Below w.heap.size w x
theorem Qx.later {w x y : World} {l : List (Nat × TypeId × Array Value)} (h : Qx w x l) (hb : Below x.heap.size x y) : Qx w y l := ⟨h.1.later hb, h.2.trans (hb.mono h.2.size)⟩
theorem Qx.drew {w x : World} {l : List (Nat × TypeId × Array Value)} (h : Qx w x l) : Qx w x.drew l := ⟨h.1.drew, ⟨h.2.1, h.2.2, h.2.3, h.2.4, h.2.5⟩⟩
theorem Qx.more {w x y : World} {l : List (Nat × TypeId × Array Value)} (h : Qx w x l) (hb : Below x.heap.size x y) {b : Nat} {t : TypeId} {cs : Array Value} (hr : Qb y b t cs) : Qx w y ((b, t, cs) :: l) :=
  ⟨⟨hr, h.1.later hb⟩, (h.later hb).2⟩
theorem Qx.laid {w x y : World} {l : List (Nat × TypeId × Array Value)} (h : Qx w x l) {o : Obj} {t : TypeId} {cs : Array Value} (hr : Qb y x.heap.size t cs) (hk : ∀ B w0, Below B w0 (x.alloc o) -> B <= x.heap.size -> Below B w0 y) : Qx w y ((x.heap.size, t, cs) :: l) :=
  h.more (hk _ _ ((Below.refl x.heap.size x).alloc (Nat.le_refl _) _) (Nat.le_refl _)) hr
theorem Qx.one (w : World) (t : TypeId) (cs : Array Value) : Qx w (w.alloc (.cells cs t)) [(w.heap.size, t, cs)] :=
  ⟨⟨Qb.new w t cs, trivial⟩, (Below.refl w.heap.size w).alloc (Nat.le_refl _) _⟩
theorem Qx.two (w : World) (t t2 : TypeId) (cs ds : Array Value) : Qx w ((w.alloc (.cells cs t)).alloc (.cells ds t2)) [(w.heap.size + 1, t2, ds), (w.heap.size, t, cs)] := by
  have e1 : (w.alloc (.cells cs t)).heap.size = w.heap.size + 1 := by simp
  have h := (Qx.one w t cs).more ((Below.refl _ (w.alloc (.cells cs t))).alloc (Nat.le_refl _) (.cells ds t2)) (Qb.new (w.alloc (.cells cs t)) t2 ds); rw [e1] at h; exact h
theorem Qx.three (w : World) (t t2 t3 : TypeId) (cs ds es : Array Value) : Qx w (((w.alloc (.cells cs t)).alloc (.cells ds t2)).alloc (.cells es t3)) [(w.heap.size + 1 + 1, t3, es), (w.heap.size + 1, t2, ds), (w.heap.size, t, cs)] := by
  have e1 : ((w.alloc (.cells cs t)).alloc (.cells ds t2)).heap.size = w.heap.size + 1 + 1 := by simp
  have h := (Qx.two w t t2 cs ds).more ((Below.refl _ ((w.alloc (.cells cs t)).alloc (.cells ds t2))).alloc (Nat.le_refl _) (.cells es t3)) (Qb.new ((w.alloc (.cells cs t)).alloc (.cells ds t2)) t3 es); rw [e1] at h; exact h
def Qte {α : Type} (f : α -> Array Value) (z : α) (n : Nat) (w : World) (v : Value) (xs : List α) : Prop :=
  ∃ a cap, v = .slice a xs.length cap /\ (0 < xs.length -> ∃ b off, a = some ⟨b, off, none⟩ /\ b < w.heap.size /\ ∀ i, i < xs.length -> w.rangeAt b (off + i * n) (f (xs.getD i z)).toList)
theorem Qjc {w w' : World} {b o B : Nat} {cs : List Value} (h : w.rangeAt b o cs) (hb : Below B w w') (hB : b < B) : w'.rangeAt b o cs := fun j v hv => by
  rw [hb.cell (p := ⟨b, o + j, none⟩) hB]; exact h j v hv
theorem Qte.below {α : Type} {f : α -> Array Value} {z : α} {n : Nat} {w w' : World} {v : Value} {xs : List α} (h : Qte f z n w v xs) (hb : Below w.heap.size w w') : Qte f z n w' v xs := by
  obtain ⟨a, cap, h1, h2⟩ := h; refine ⟨a, cap, h1, fun hp => ?_⟩; obtain ⟨b, off, h3, h4, h5⟩ := h2 hp; exact ⟨b, off, h3, Nat.lt_of_lt_of_le h4 hb.size, fun i hi => Qjc (h5 i hi) hb h4⟩
def rcA (r : Rec) (va vb : Value) : Array Value := #[.int .i64 r.k, .int .u64 (r.l : Int), .int .i64 r.t, .int .u64 (r.p : Int), .int .i64 r.c.k, .int .i64 r.c.pg, .int .i64 r.c.sl, .string r.c.o, .string r.c.n, .int .u64 (r.n : Int), .int .i64 r.s, .int .u64 (r.b : Int), va, vb]
def txA (x : Tx) : Array Value := #[.int .i64 x.t, .int .i64 x.s, .int .u64 (x.f : Int), .int .u64 (x.l : Int), .int .u64 (x.n : Int)]
def diA (d : Di) : Array Value := #[.int .i64 d.p, .int .u64 (d.r : Int)]
theorem Qia : (Try.prog.info? 45).map (·.size) = some 14 := by kernel_rfl
theorem Qju : (Try.prog.info? 109).map (·.size) = some 5 := by kernel_rfl
theorem Qfu : (Try.prog.info? 111).map (·.size) = some 2 := by kernel_rfl
theorem Qkq (x : Tx) : (txA x).all (·.oneCell') = true := by simp [txA, Value.oneCell']
theorem Qbv (d : Di) : (diA d).all (·.oneCell') = true := by simp [diA, Value.oneCell']
abbrev TxIn := Qte txA Tx.zero 5
abbrev DiIn := Qte diA Di.zero 2
def Qcd (w : World) (r : Rec) (va vb : Value) : Prop := TxIn w va r.ts /\ DiIn w vb r.ds
theorem Qcd.below {w w' : World} {r : Rec} {va vb : Value} (h : Qcd w r va vb) (hb : Below w.heap.size w w') : Qcd w' r va vb := ⟨h.1.below hb, h.2.below hb⟩
section
section
variable {P : Program} {ops : Array Oper} {C : World -> Prop} {Q : Act -> Prop} {a : Act} {o : Oper} {rest : List Oper}
theorem Qqa {id : Nat} {Q : Exit -> Act -> World -> Prop} {a : Act} {w : World} {l : List Oper} (C : World -> Prop) (hm : P.follows .mixedOrders = true) (hB : Region.lexB .any l.toArray = true) (hC : C w.drew)
    (h : wpQuiet P l.toArray C (fun a' => ∀ w', C w' -> Q .normal a' w') l a) : (Code.region id l.toArray true).wp P Q a w :=
  wp_region_quiet (C := C) hm hB hC (by simpa using h)
theorem Qub (hw : Region.wanted o (yielded ops a.tmps) = true) (v : Value) (hv : ∀ x, C x -> (execOp a.eval o).run P x = .ok (.value v) x) (h : wpQuiet P ops C Q rest (a.put o.dst v)) : wpQuiet P ops C Q (o :: rest) a :=
  BigFrame.wpQuiet_want hw fun K hK => ⟨v, fun x hx => by unfold Oper.quietAt; rw [hv x hx]; exact ⟨rfl, rfl⟩, hK _ h⟩
theorem Qn (hw : Region.wanted o (yielded ops a.tmps) = true) (t : TypeId) (x : Operand) (ho : o.op = .load t x) (u v : Value) (hu : a.eval x = u) (hv : ∀ y, C y -> (Instr.loadAt t u).run P y = .ok v y)
    (h : wpQuiet P ops C Q rest (a.put o.dst v)) : wpQuiet P ops C Q (o :: rest) a :=
  Qub hw v (fun y hy => by unfold execOp; simp only [ho, hu, Sem.run_bind, hv y hy, Result.andThen_ok, Sem.run_pure]) h
theorem Qdf (hw : Region.wanted o (yielded ops a.tmps) = true) (op : BinOp) (t r : TypeId) (x y : Operand) (ho : o.op = .binOp op t x y r) (u v z : Value) (hu : a.eval x = u) (hv : a.eval y = v) (hg : ∀ w, (eqGuard op t x y u v).run P w = .ok () w)
    (hz : ∀ w, (binOp op t u v).run P w = .ok z w) (h : wpQuiet P ops C Q rest (a.put o.dst z)) : wpQuiet P ops C Q (o :: rest) a :=
  Qub hw z (fun w hw => by unfold execOp; simp only [ho, hu, hv, Sem.run_bind, hg w, hz w, Result.andThen_ok, Sem.run_pure]) h
theorem Qg (hw : Region.wanted o (yielded ops a.tmps) = true) (h : ∀ K : Act -> Prop, (∀ a, wpQuiet P ops C Q rest a -> K a) -> ∃ v, (∀ x : World, (execOp a.eval o).run P x = .ok (.value v) x) /\ K (a.put o.dst v)) : wpQuiet P ops C Q (o :: rest) a := by
  obtain ⟨v, h1, h2⟩ := h _ (fun _ h => h); exact Qub hw v (fun x _ => h1 x) h2
theorem Qyc (hw : Region.wanted o (yielded ops a.tmps) = true) (f : FuncId) (args : Array Value) (v : Value) (he : ∀ x : World, (execOp a.eval o).run P x = .ok (.enter f args) x) (hc : ∀ x, C x -> Calls P f args x fun e x' => e = .returned v /\ C x')
    (h : wpQuiet P ops C Q rest (a.put o.dst v)) : wpQuiet P ops C Q (o :: rest) a :=
  BigFrame.wpQuiet_want hw fun K hK => ⟨v, fun x hx => by unfold Oper.quietAt; rw [he x]; exact ⟨rfl, hc x hx⟩, hK _ h⟩
end
end
theorem Qec {P : Program} {ops : Array Oper} {rest : List Oper} {o : Oper} {a : Act} {w : World} {Q : Exit -> Act -> World -> Prop} (hw : Region.wanted o (yielded ops a.tmps) = true) (t : TypeId) (x : Operand) (ho : o.op = .load t x) (b k : Nat) (cs : Array Value)
    (hx : a.eval x = .pointer (some ⟨b, k, none⟩)) (hg : w.rangeAt b k cs.toList) (d : TypeDesc) (hu : P.underlying t = some d) (hd : d.isRow = true) (hi : (P.info? t).map (·.size) = some cs.size) (h : wpList P ops Q rest (a.put o.dst (.agg cs)) w) : wpList P ops Q (o :: rest) a w := by
  have h1 := run_loadAt_mid (P := P) w b k t cs.toList d hg hu hd (by rw [hi, Array.length_toList]); rw [Array.toArray_toList] at h1; exact Qai hw (.agg cs) (by unfold execOp; simp only [ho, hx, Sem.run_bind, h1, Result.andThen_ok, Sem.run_pure]) h
theorem Qyf {b j : Nat} (x : World) (v : Int) (h : x.cell? ⟨b, j, none⟩ = some (.int .i64 v)) : (Instr.loadAt 3 (.pointer (some ⟨b, j, none⟩))).run Try.prog x = .ok (.int .i64 v) x := by go_simp
theorem Qem {b j : Nat} (x : World) (a : Option Addr) (n cap : Nat) (h : x.cell? ⟨b, j, none⟩ = some (.slice a n cap)) : (Instr.loadAt 42 (.pointer (some ⟨b, j, none⟩))).run Try.prog x = .ok (.slice a n cap) x := by go_simp
theorem Qmm {b j : Nat} (x : World) (a : Option Addr) (n cap : Nat) (h : x.cell? ⟨b, j, none⟩ = some (.slice a n cap)) : (Instr.loadAt 43 (.pointer (some ⟨b, j, none⟩))).run Try.prog x = .ok (.slice a n cap) x := by go_simp
theorem Qdg {p : Nat -> Prop} {j : Nat} (h : ∀ i, i < j -> p i) (hj : p j) : ∀ i, i < j + 1 -> p i := by
  intro i hi
  by_cases hij : i = j
  · subst hij; exact hj
  · exact h i (by omega)
set_option linter.unusedVariables false
set_option linter.unusedVariables false
set_option linter.unusedVariables false
set_option linter.unusedVariables false
def Ch.fits (c : Ch) : Prop := (Lit.int .i64 c.k).wf = true /\ (Lit.int .i64 c.pg).wf = true /\ (Lit.int .i64 c.sl).wf = true /\ c.o.size <= maxLen /\ c.n.size <= maxLen
abbrev Ch.like (a b : Ch) : Prop := a.k = b.k /\ a.pg = b.pg /\ a.sl = b.sl /\ a.o = b.o /\ a.n = b.n
theorem Qjm (a b : Ch) : a.like b ↔ a = b := by
  constructor
  · rintro ⟨h1, h2, h3, h4, h5⟩; cases a; cases b; simp_all
  · rintro rfl; exact ⟨rfl, rfl, rfl, rfl, rfl⟩
def Tx.fits (x : Tx) : Prop := (Lit.int .i64 x.t).wf = true /\ (Lit.int .i64 x.s).wf = true /\ (Lit.int .u64 (x.f : Int)).wf = true /\ (Lit.int .u64 (x.l : Int)).wf = true /\ (Lit.int .u64 (x.n : Int)).wf = true
def Di.fits (d : Di) : Prop := (Lit.int .i64 d.p).wf = true /\ (Lit.int .u64 (d.r : Int)).wf = true
structure Rec.fits (r : Rec) : Prop where
  c : r.c.fits
  tl : r.ts.length <= maxLen
  dl : r.ds.length <= maxLen
  ts : ∀ x ∈ r.ts, x.fits
  ds : ∀ d ∈ r.ds, d.fits
def Qcv (x : Tx) : List Lit := [.int .i64 x.t, .int .i64 x.s, .int .u64 (x.f : Int), .int .u64 (x.l : Int), .int .u64 (x.n : Int)]
def Qfv (d : Di) : List Lit := [.int .i64 d.p, .int .u64 (d.r : Int)]
theorem litsT_iff (x y : Tx) : Qcv x = Qcv y ↔ x = y := by
  unfold Qcv; simp only [List.cons.injEq, and_true, Lit.int.injEq, true_and, Int.ofNat_inj]
  constructor
  · rintro ⟨h1, h2, h3, h4, h5⟩; cases x; cases y; simp_all
  · rintro rfl; exact ⟨rfl, rfl, rfl, rfl, rfl⟩
theorem litsD_iff (x y : Di) : Qfv x = Qfv y ↔ x = y := by
  unfold Qfv; simp only [List.cons.injEq, and_true, Lit.int.injEq, true_and, Int.ofNat_inj]
  constructor
  · rintro ⟨h1, h2⟩; cases x; cases y; simp_all
  · rintro rfl; exact ⟨rfl, rfl⟩
theorem lits_tx (x : Tx) (h : x.fits) : Try.prog.keyLits 2 109 (txA x).toList = some (Qcv x) := by
  have e0 : Try.prog.cellsOf 3 = 1 := by kernel_rfl
  have e1 : Try.prog.cellsOf 39 = 1 := by kernel_rfl
  have e2 : Try.prog.cellsOf 109 = 5 := by kernel_rfl
  obtain ⟨h1, h2, h3, h4, h5⟩ := h; simp [Program.keyLits, Try.underlying109, Try.underlying3, Try.underlying39, e0, e1, e2, txA, Qcv, h1, h2, h3, h4, h5]
theorem lits_di (x : Di) (h : x.fits) : Try.prog.keyLits 2 111 (diA x).toList = some (Qfv x) := by
  have e0 : Try.prog.cellsOf 3 = 1 := by kernel_rfl
  have e1 : Try.prog.cellsOf 39 = 1 := by kernel_rfl
  have e2 : Try.prog.cellsOf 111 = 2 := by kernel_rfl
  obtain ⟨h1, h2⟩ := h; simp [Program.keyLits, Try.underlying111, Try.underlying3, Try.underlying39, e0, e1, e2, diA, Qfv, h1, h2]
theorem Qpp (x y : Tx) (hx : x.fits) (hy : y.fits) (q : Bool) (hq : q = false ↔ x = y) (w : World) : (binOp .neq 109 (.agg (txA x)) (.agg (txA y))).run Try.prog w = .ok (.bool q) w := by
  obtain ⟨r, hr, hiff⟩ := run_equalIn_deep (P := Try.prog) 9998 2 109 (by kernel_rfl) w 2 2 (.agg (txA x)) (.agg (txA y)) (Qcv x) (Qcv y) (by kernel_rfl) (by kernel_rfl) (lits_tx x hx) (lits_tx y hy); rw [litsT_iff, <- hq] at hiff; have e : r = !q := by cases r <;> cases q <;> simp_all
  rw [e] at hr; have hr2 : (Op.equal 109 (.agg (txA x)) (.agg (txA y))).run Try.prog w = .ok (!q) w := hr; simp [binOp, hr2]
theorem Qeq (x y : Di) (hx : x.fits) (hy : y.fits) (q : Bool) (hq : q = false ↔ x = y) (w : World) : (binOp .neq 111 (.agg (diA x)) (.agg (diA y))).run Try.prog w = .ok (.bool q) w := by
  obtain ⟨r, hr, hiff⟩ := run_equalIn_deep (P := Try.prog) 9998 2 111 (by kernel_rfl) w 2 2 (.agg (diA x)) (.agg (diA y)) (Qfv x) (Qfv y) (by kernel_rfl) (by kernel_rfl) (lits_di x hx) (lits_di y hy); rw [litsD_iff, <- hq] at hiff; have e : r = !q := by cases r <;> cases q <;> simp_all
  rw [e] at hr; have hr2 : (Op.equal 111 (.agg (diA x)) (.agg (diA y))).run Try.prog w = .ok (!q) w := hr; simp [binOp, hr2]
theorem Qaz (op : BinOp) (x y : Operand) (c d : Tx) (w : World) : (eqGuard op 109 x y (.agg (txA c)) (.agg (txA d))).run Try.prog w = .ok () w := run_eqGuard_agg (P := Try.prog) w op 109 x y (txA c) (txA d) (by kernel_rfl)
theorem Qtx (op : BinOp) (x y : Operand) (c d : Di) (w : World) : (eqGuard op 111 x y (.agg (diA c)) (.agg (diA d))).run Try.prog w = .ok () w := run_eqGuard_agg (P := Try.prog) w op 111 x y (diA c) (diA d) (by kernel_rfl)
theorem Qua {α : Type} (xs : List α) (i : Nat) (z : α) (h : i < xs.length) : xs.getD i z ∈ xs := by
  rw [List.getD_eq_getElem?_getD, List.getElem?_eq_getElem h]; exact List.getElem_mem h
theorem Qoj {α : Type} {xs ys : List α} {z : α} (hl : xs.length = ys.length) (h : ∀ i, i < xs.length -> xs.getD i z = ys.getD i z) : xs = ys := by
  apply List.ext_getElem hl; intro i h1 h2; have := h i h1; rwa [List.getD_eq_getElem?_getD, List.getD_eq_getElem?_getD, List.getElem?_eq_getElem h1, List.getElem?_eq_getElem h2] at this
theorem Qnf (y : World) (b k : Nat) (x : Tx) (h : y.rangeAt b k (txA x).toList) : (Instr.loadAt 109 (.pointer (some ⟨b, k, none⟩))).run Try.prog y = .ok (.agg (txA x)) y := by
  have h1 := run_loadAt_mid (P := Try.prog) y b k 109 (txA x).toList _ h Try.underlying109 rfl (by rw [Qju]; rfl); rwa [Array.toArray_toList] at h1
theorem Qsh (y : World) (b k : Nat) (x : Di) (h : y.rangeAt b k (diA x).toList) : (Instr.loadAt 111 (.pointer (some ⟨b, k, none⟩))).run Try.prog y = .ok (.agg (diA x)) y := by
  have h1 := run_loadAt_mid (P := Try.prog) y b k 111 (diA x).toList _ h Try.underlying111 rfl (by rw [Qfu]; rfl); rwa [Array.toArray_toList] at h1
theorem eqtx_at (va vb : Value) (xs ys : List Tx) (w : World) (q : Bool) (Hq : Hid (q = true ↔ xs = ys)) (hx : TxIn w va xs) (hy : TxIn w vb ys) (fx : ∀ x ∈ xs, x.fits) (fy : ∀ x ∈ ys, x.fits) (lx : xs.length <= maxLen) :
    Calls Try.prog 74 #[va, vb] w fun e w' => e = .returned (.bool q) /\ Below w.heap.size w w' := by
  have HX := Qc hx; have HY := Qc hy; have HFX := Qc fx; have HFY := Qc fy; have hml : maxLen = 9223372036854775807 := rfl; obtain ⟨a1, cap1, rfl, -⟩ := hx; obtain ⟨a2, cap2, rfl, -⟩ := hy; clear fx fy; have hb0 := Below.refl w.heap.size w; by_cases hl : xs.length = ys.length
  case neg =>
    obtain rfl : q = false := by
      cases q
      · rfl
      · exact absurd (congrArg List.length (Hq.out.1 rfl)) hl
    have i1 : ((xs.length : Int) == (ys.length : Int)) = false := by rw [beq_eq_false_iff_ne]; omega
    have i2 : ((xs.length : Int) != (ys.length : Int)) = true := by rw [bne, i1]; rfl
    clear Hq HX HY HFX HFY lx hml; generalize xs.length = n1 at *; generalize ys.length = n2 at *; go_enter Try.func74, Try.ntmps74; go_wp2; go_ret; exact ⟨rfl, hb0⟩
  have i1 : ((xs.length : Int) != (ys.length : Int)) = false := by rw [bne, hl, beq_self_eq_true]; rfl
  have i2 : ((xs.length : Int) == (ys.length : Int)) = true := by rw [hl]; exact beq_self_eq_true _
  have HL := Qc hl; clear hl; rw [<- HL.out] at i1 i2 |-; go_enter Try.func74, Try.ntmps74; go_wp2; go_loopw [13, 5] (fun v _ wr => ∃ j : Nat, j <= xs.length /\ v = .int .i64 j /\ Below w.heap.size w wr /\ ∀ i, i < j -> xs.getD i Tx.zero = ys.getD i Tx.zero) (fun v _ _ => xs.length - (intOf v).toNat)
  case atStart => exact ⟨0, Nat.zero_le _, rfl, Below.refl _ _, fun i hi => absurd hi (by omega)⟩
  case round =>
    obtain ⟨j, hj, rfl, hb, hat⟩ := hrel; have HAT := Qc hat; have HB := Qc hb; clear hat hb hb0
    by_cases hlt : j < xs.length
    · have jlt : (j : Int) < (xs.length : Int) := by omega
      obtain ⟨u1, k1, e1, hrow1⟩ := HX.out.below HB.out; obtain ⟨u2, k2, e2, hrow2⟩ := HY.out.below HB.out; rw [<- HL.out] at e2; cases e1; cases e2; obtain ⟨b1, off1, rfl, -, hc1⟩ := hrow1 (by omega); obtain ⟨b2, off2, rfl, -, hc2⟩ := hrow2 (by rw [<- HL.out]; omega); have HR1 := Qc (hc1 j hlt); have HR2 := Qc (hc2 j (by rw [<- HL.out]; exact hlt)); clear hrow1 hrow2 hc1 hc2; have HF1 := Qc (HFX.out _ (Qua xs j Tx.zero hlt)); have HF2 := Qc (HFY.out _ (Qua ys j Tx.zero (by rw [<- HL.out]; exact hlt))); obtain ⟨x, hx⟩ : ∃ x, x = xs.getD j Tx.zero := ⟨_, rfl⟩; obtain ⟨y, hy⟩ : ∃ y, y = ys.getD j Tx.zero := ⟨_, rfl⟩; have HXY : Hid (x = xs.getD j Tx.zero /\ y = ys.getD j Tx.zero) := ⟨hx, hy⟩; rw [<- hx] at HR1 HF1; rw [<- hy] at HR2 HF2; clear hx hy; have hc := Qc (Classical.em (x = y)); obtain ⟨p, hp⟩ : ∃ p : Bool, p = false ↔ x = y := ⟨!(@decide (x = y) (Classical.propDecidable _)), by simp⟩; have HP := Qc hp; clear hp; go_wp2_with fail; refine Qqa (fun z => Below w.heap.size w z /\ z.rangeAt b1 (off1 + j * 5) (txA x).toList /\ z.rangeAt b2 (off2 + j * 5) (txA y).toList) (by kernel_rfl) (by kernel_rfl) ⟨⟨HB.out.1, HB.out.2, HB.out.3, HB.out.4, HB.out.5⟩, HR1.out, HR2.out⟩ ?_; clear HB HR1 HR2
      repeat (first
        | go_big_quiet_skip
        | (refine Qn rfl 109 (.tmp 18) rfl _ (.agg (txA x)) rfl (fun z hz => Qnf z b1 _ x hz.2.1) ?_; simp only [Act.put, List.setIfInBounds_toArray, List.set])
        | (refine Qn rfl 109 (.tmp 22) rfl _ (.agg (txA y)) rfl (fun z hz => Qnf z b2 _ y hz.2.2) ?_; simp only [Act.put, List.setIfInBounds_toArray, List.set])
        | (refine Qdf rfl .neq 109 _ (.tmp 19) (.tmp 23) rfl (.agg (txA x)) (.agg (txA y)) (.bool p) rfl rfl (fun z => Qaz .neq _ _ x y z) (fun z => Qpp x y HF1.out HF2.out p HP.out z) ?_; simp only [Act.put, List.setIfInBounds_toArray, List.set])
        | (refine Qg rfl (fun K hK => ?_); go_simp; refine hK _ ?_; clear hK K))
      refine wpQuiet_nil ?_; intro w3 h3; have H3 := Qc h3.1; clear h3
      cases p
      · have HE := Qc (HP.out.1 rfl); clear HP hc; go_wp2; go_roundw
        case rel => exact ⟨j + 1, by omega, by go_num, H3.out, Qdg HAT.out (by rw [<- HXY.out.1, <- HXY.out.2]; exact HE.out)⟩
        case measure => simp [intOf]; omega
      · obtain rfl : q = false := by
          cases q
          · rfl
          · have h1 := Hq.out.1 rfl; exact absurd (HP.out.2 (by rw [HXY.out.1, HXY.out.2, h1])) (by simp)
        have d3 := H3.out; clear Hq HP hc HXY HAT HX HY HFX HFY HF1 HF2 H3; go_wp2; go_ret; exact ⟨rfl, d3⟩
    · obtain rfl : j = xs.length := by omega
      obtain rfl : q = true := Hq.out.2 (Qoj (z := Tx.zero) HL.out HAT.out); have d3 := HB.out; clear Hq HAT HX HY HFX HFY HB; go_wp2; go_ret; exact ⟨rfl, d3⟩
theorem eqdi_at (va vb : Value) (xs ys : List Di) (w : World) (q : Bool) (Hq : Hid (q = true ↔ xs = ys)) (hx : DiIn w va xs) (hy : DiIn w vb ys) (fx : ∀ x ∈ xs, x.fits) (fy : ∀ x ∈ ys, x.fits) (lx : xs.length <= maxLen) :
    Calls Try.prog 75 #[va, vb] w fun e w' => e = .returned (.bool q) /\ Below w.heap.size w w' := by
  have HX := Qc hx; have HY := Qc hy; have HFX := Qc fx; have HFY := Qc fy; have hml : maxLen = 9223372036854775807 := rfl; obtain ⟨a1, cap1, rfl, -⟩ := hx; obtain ⟨a2, cap2, rfl, -⟩ := hy; clear fx fy; have hb0 := Below.refl w.heap.size w; by_cases hl : xs.length = ys.length
  case neg =>
    obtain rfl : q = false := by
      cases q
      · rfl
      · exact absurd (congrArg List.length (Hq.out.1 rfl)) hl
    have i1 : ((xs.length : Int) == (ys.length : Int)) = false := by rw [beq_eq_false_iff_ne]; omega
    have i2 : ((xs.length : Int) != (ys.length : Int)) = true := by rw [bne, i1]; rfl
    clear Hq HX HY HFX HFY lx hml; generalize xs.length = n1 at *; generalize ys.length = n2 at *; go_enter Try.func75, Try.ntmps75; go_wp2; go_ret; exact ⟨rfl, hb0⟩
  have i1 : ((xs.length : Int) != (ys.length : Int)) = false := by rw [bne, hl, beq_self_eq_true]; rfl
  have i2 : ((xs.length : Int) == (ys.length : Int)) = true := by rw [hl]; exact beq_self_eq_true _
  have HL := Qc hl; clear hl; rw [<- HL.out] at i1 i2 |-; go_enter Try.func75, Try.ntmps75; go_wp2; go_loopw [13, 5] (fun v _ wr => ∃ j : Nat, j <= xs.length /\ v = .int .i64 j /\ Below w.heap.size w wr /\ ∀ i, i < j -> xs.getD i Di.zero = ys.getD i Di.zero) (fun v _ _ => xs.length - (intOf v).toNat)
  case atStart => exact ⟨0, Nat.zero_le _, rfl, Below.refl _ _, fun i hi => absurd hi (by omega)⟩
  case round =>
    obtain ⟨j, hj, rfl, hb, hat⟩ := hrel; have HAT := Qc hat; have HB := Qc hb; clear hat hb hb0
    by_cases hlt : j < xs.length
    · have jlt : (j : Int) < (xs.length : Int) := by omega
      obtain ⟨u1, k1, e1, hrow1⟩ := HX.out.below HB.out; obtain ⟨u2, k2, e2, hrow2⟩ := HY.out.below HB.out; rw [<- HL.out] at e2; cases e1; cases e2; obtain ⟨b1, off1, rfl, -, hc1⟩ := hrow1 (by omega); obtain ⟨b2, off2, rfl, -, hc2⟩ := hrow2 (by rw [<- HL.out]; omega); have HR1 := Qc (hc1 j hlt); have HR2 := Qc (hc2 j (by rw [<- HL.out]; exact hlt)); clear hrow1 hrow2 hc1 hc2; have HF1 := Qc (HFX.out _ (Qua xs j Di.zero hlt)); have HF2 := Qc (HFY.out _ (Qua ys j Di.zero (by rw [<- HL.out]; exact hlt))); obtain ⟨x, hx⟩ : ∃ x, x = xs.getD j Di.zero := ⟨_, rfl⟩; obtain ⟨y, hy⟩ : ∃ y, y = ys.getD j Di.zero := ⟨_, rfl⟩; have HXY : Hid (x = xs.getD j Di.zero /\ y = ys.getD j Di.zero) := ⟨hx, hy⟩; rw [<- hx] at HR1 HF1; rw [<- hy] at HR2 HF2; clear hx hy; have hc := Qc (Classical.em (x = y)); obtain ⟨p, hp⟩ : ∃ p : Bool, p = false ↔ x = y := ⟨!(@decide (x = y) (Classical.propDecidable _)), by simp⟩; have HP := Qc hp; clear hp; go_wp2_with fail; refine Qqa (fun z => Below w.heap.size w z /\ z.rangeAt b1 (off1 + j * 2) (diA x).toList /\ z.rangeAt b2 (off2 + j * 2) (diA y).toList) (by kernel_rfl) (by kernel_rfl) ⟨⟨HB.out.1, HB.out.2, HB.out.3, HB.out.4, HB.out.5⟩, HR1.out, HR2.out⟩ ?_; clear HB HR1 HR2
      repeat (first
        | go_big_quiet_skip
        | (refine Qn rfl 111 (.tmp 18) rfl _ (.agg (diA x)) rfl (fun z hz => Qsh z b1 _ x hz.2.1) ?_; simp only [Act.put, List.setIfInBounds_toArray, List.set])
        | (refine Qn rfl 111 (.tmp 22) rfl _ (.agg (diA y)) rfl (fun z hz => Qsh z b2 _ y hz.2.2) ?_; simp only [Act.put, List.setIfInBounds_toArray, List.set])
        | (refine Qdf rfl .neq 111 _ (.tmp 19) (.tmp 23) rfl (.agg (diA x)) (.agg (diA y)) (.bool p) rfl rfl (fun z => Qtx .neq _ _ x y z) (fun z => Qeq x y HF1.out HF2.out p HP.out z) ?_; simp only [Act.put, List.setIfInBounds_toArray, List.set])
        | (refine Qg rfl (fun K hK => ?_); go_simp; refine hK _ ?_; clear hK K))
      refine wpQuiet_nil ?_; intro w3 h3; have H3 := Qc h3.1; clear h3
      cases p
      · have HE := Qc (HP.out.1 rfl); clear HP hc; go_wp2; go_roundw
        case rel => exact ⟨j + 1, by omega, by go_num, H3.out, Qdg HAT.out (by rw [<- HXY.out.1, <- HXY.out.2]; exact HE.out)⟩
        case measure => simp [intOf]; omega
      · obtain rfl : q = false := by
          cases q
          · rfl
          · have h1 := Hq.out.1 rfl; exact absurd (HP.out.2 (by rw [HXY.out.1, HXY.out.2, h1])) (by simp)
        have d3 := H3.out; clear Hq HP hc HXY HAT HX HY HFX HFY HF1 HF2 H3; go_wp2; go_ret; exact ⟨rfl, d3⟩
    · obtain rfl : j = xs.length := by omega
      obtain rfl : q = true := Hq.out.2 (Qoj (z := Di.zero) HL.out HAT.out); have d3 := HB.out; clear Hq HAT HX HY HFX HFY HB; go_wp2; go_ret; exact ⟨rfl, d3⟩
theorem Qyaa (c : Ch) (w : World) (h1 : c.pg < 0) :
    Calls Try.prog 52 #[.agg (chA c)] w fun e w' => e = .returned (.bool false) /\ Below w.heap.size w w' := by
  have hb0 : Below w.heap.size w (w.alloc (.cells (chA c) 41)) := (Below.refl _ _).alloc (Nat.le_refl _) _; obtain ⟨a0, a1, a2, a3, a4⟩ := Qwe.all (show Qwe (w.alloc (.cells (chA c) 41)) w.heap.size c from heap_alloc_new w _); go_enter Try.func52, Try.ntmps52; generalize c.k = k at *; generalize c.pg = pg at *; generalize c.sl = sl at *; generalize c.o = o at *; generalize c.n = n at *; go_wp2; go_ret; exact ⟨rfl, hb0⟩
theorem Qbaa (c : Ch) (w : World) (h1 : ¬ c.pg < 0) (h2 : 31 < c.pg) :
    Calls Try.prog 52 #[.agg (chA c)] w fun e w' => e = .returned (.bool false) /\ Below w.heap.size w w' := by
  have hb0 : Below w.heap.size w (w.alloc (.cells (chA c) 41)) := (Below.refl _ _).alloc (Nat.le_refl _) _; obtain ⟨a0, a1, a2, a3, a4⟩ := Qwe.all (show Qwe (w.alloc (.cells (chA c) 41)) w.heap.size c from heap_alloc_new w _); go_enter Try.func52, Try.ntmps52; generalize c.k = k at *; generalize c.pg = pg at *; generalize c.sl = sl at *; generalize c.o = o at *; generalize c.n = n at *; go_wp2; go_ret; exact ⟨rfl, hb0⟩
theorem Qeaa (c : Ch) (w : World) (h1 : ¬ c.pg < 0) (h2 : ¬ 31 < c.pg) (h3 : c.sl < 0) :
    Calls Try.prog 52 #[.agg (chA c)] w fun e w' => e = .returned (.bool false) /\ Below w.heap.size w w' := by
  have hb0 : Below w.heap.size w (w.alloc (.cells (chA c) 41)) := (Below.refl _ _).alloc (Nat.le_refl _) _; obtain ⟨a0, a1, a2, a3, a4⟩ := Qwe.all (show Qwe (w.alloc (.cells (chA c) 41)) w.heap.size c from heap_alloc_new w _); go_enter Try.func52, Try.ntmps52; generalize c.k = k at *; generalize c.pg = pg at *; generalize c.sl = sl at *; generalize c.o = o at *; generalize c.n = n at *; go_wp2; go_ret; exact ⟨rfl, hb0⟩
theorem Qkaa (c : Ch) (w : World) (h1 : ¬ c.pg < 0) (h2 : ¬ 31 < c.pg) (h3 : ¬ c.sl < 0) (h4 : 7 < c.sl) :
    Calls Try.prog 52 #[.agg (chA c)] w fun e w' => e = .returned (.bool false) /\ Below w.heap.size w w' := by
  have hb0 : Below w.heap.size w (w.alloc (.cells (chA c) 41)) := (Below.refl _ _).alloc (Nat.le_refl _) _; obtain ⟨a0, a1, a2, a3, a4⟩ := Qwe.all (show Qwe (w.alloc (.cells (chA c) 41)) w.heap.size c from heap_alloc_new w _); go_enter Try.func52, Try.ntmps52; generalize c.k = k at *; generalize c.pg = pg at *; generalize c.sl = sl at *; generalize c.o = o at *; generalize c.n = n at *; go_wp2; go_ret; exact ⟨rfl, hb0⟩
theorem Qmz (c : Ch) (w : World) (h1 : ¬ c.pg < 0) (h2 : ¬ 31 < c.pg) (h3 : ¬ c.sl < 0) (h4 : ¬ 7 < c.sl) (h5 : 20 < (c.o.size : Int)) :
    Calls Try.prog 52 #[.agg (chA c)] w fun e w' => e = .returned (.bool false) /\ Below w.heap.size w w' := by
  have hb0 : Below w.heap.size w (w.alloc (.cells (chA c) 41)) := (Below.refl _ _).alloc (Nat.le_refl _) _; obtain ⟨a0, a1, a2, a3, a4⟩ := Qwe.all (show Qwe (w.alloc (.cells (chA c) 41)) w.heap.size c from heap_alloc_new w _); go_enter Try.func52, Try.ntmps52; generalize c.k = k at *; generalize c.pg = pg at *; generalize c.sl = sl at *; generalize c.o = o at *; generalize c.n = n at *; go_wp2; go_ret; exact ⟨rfl, hb0⟩
theorem Quz (c : Ch) (w : World) (h1 : ¬ c.pg < 0) (h2 : ¬ 31 < c.pg) (h3 : ¬ c.sl < 0) (h4 : ¬ 7 < c.sl) (h5 : ¬ 20 < (c.o.size : Int)) (h6 : 20 < (c.n.size : Int)) :
    Calls Try.prog 52 #[.agg (chA c)] w fun e w' => e = .returned (.bool false) /\ Below w.heap.size w w' := by
  have hb0 : Below w.heap.size w (w.alloc (.cells (chA c) 41)) := (Below.refl _ _).alloc (Nat.le_refl _) _; obtain ⟨a0, a1, a2, a3, a4⟩ := Qwe.all (show Qwe (w.alloc (.cells (chA c) 41)) w.heap.size c from heap_alloc_new w _); go_enter Try.func52, Try.ntmps52; generalize c.k = k at *; generalize c.pg = pg at *; generalize c.sl = sl at *; generalize c.o = o at *; generalize c.n = n at *; go_wp2; go_ret; exact ⟨rfl, hb0⟩
theorem Qkv (c : Ch) (w : World) (h1 : ¬ c.pg < 0) (h2 : ¬ 31 < c.pg) (h3 : ¬ c.sl < 0) (h4 : ¬ 7 < c.sl) (h5 : ¬ 20 < (c.o.size : Int)) (h6 : ¬ 20 < (c.n.size : Int)) (hk : c.k = 1) (he : c.o.toList.isEmpty = true) :
    Calls Try.prog 52 #[.agg (chA c)] w fun e w' => e = .returned (.bool true) /\ Below w.heap.size w w' := by
  have hb0 : Below w.heap.size w (w.alloc (.cells (chA c) 41)) := (Below.refl _ _).alloc (Nat.le_refl _) _; obtain ⟨a0, a1, a2, a3, a4⟩ := Qwe.all (show Qwe (w.alloc (.cells (chA c) 41)) w.heap.size c from heap_alloc_new w _); rw [hk] at a0; clear hk; go_enter Try.func52, Try.ntmps52; generalize c.k = k at *; generalize c.pg = pg at *; generalize c.sl = sl at *; generalize c.o = o at *; generalize c.n = n at *; go_wp2; go_ret; exact ⟨rfl, hb0⟩
theorem Qsv (c : Ch) (w : World) (h1 : ¬ c.pg < 0) (h2 : ¬ 31 < c.pg) (h3 : ¬ c.sl < 0) (h4 : ¬ 7 < c.sl) (h5 : ¬ 20 < (c.o.size : Int)) (h6 : ¬ 20 < (c.n.size : Int)) (hk : c.k = 1) (he : c.o.toList.isEmpty = false) :
    Calls Try.prog 52 #[.agg (chA c)] w fun e w' => e = .returned (.bool false) /\ Below w.heap.size w w' := by
  have hb0 : Below w.heap.size w (w.alloc (.cells (chA c) 41)) := (Below.refl _ _).alloc (Nat.le_refl _) _; obtain ⟨a0, a1, a2, a3, a4⟩ := Qwe.all (show Qwe (w.alloc (.cells (chA c) 41)) w.heap.size c from heap_alloc_new w _); rw [hk] at a0; clear hk; go_enter Try.func52, Try.ntmps52; generalize c.k = k at *; generalize c.pg = pg at *; generalize c.sl = sl at *; generalize c.o = o at *; generalize c.n = n at *; go_wp2; go_ret; exact ⟨rfl, hb0⟩
theorem Qlaa (c : Ch) (w : World) (h1 : ¬ c.pg < 0) (h2 : ¬ 31 < c.pg) (h3 : ¬ c.sl < 0) (h4 : ¬ 7 < c.sl) (h5 : ¬ 20 < (c.o.size : Int)) (h6 : ¬ 20 < (c.n.size : Int)) (hk : c.k = 2) :
    Calls Try.prog 52 #[.agg (chA c)] w fun e w' => e = .returned (.bool true) /\ Below w.heap.size w w' := by
  have hb0 : Below w.heap.size w (w.alloc (.cells (chA c) 41)) := (Below.refl _ _).alloc (Nat.le_refl _) _; obtain ⟨a0, a1, a2, a3, a4⟩ := Qwe.all (show Qwe (w.alloc (.cells (chA c) 41)) w.heap.size c from heap_alloc_new w _); rw [hk] at a0; clear hk; go_enter Try.func52, Try.ntmps52; generalize c.k = k at *; generalize c.pg = pg at *; generalize c.sl = sl at *; generalize c.o = o at *; generalize c.n = n at *; go_wp2; go_ret; exact ⟨rfl, hb0⟩
theorem Qhv (c : Ch) (w : World) (h1 : ¬ c.pg < 0) (h2 : ¬ 31 < c.pg) (h3 : ¬ c.sl < 0) (h4 : ¬ 7 < c.sl) (h5 : ¬ 20 < (c.o.size : Int)) (h6 : ¬ 20 < (c.n.size : Int)) (hk : c.k = 3) (he : c.n.toList.isEmpty = true) :
    Calls Try.prog 52 #[.agg (chA c)] w fun e w' => e = .returned (.bool true) /\ Below w.heap.size w w' := by
  have hb0 : Below w.heap.size w (w.alloc (.cells (chA c) 41)) := (Below.refl _ _).alloc (Nat.le_refl _) _; obtain ⟨a0, a1, a2, a3, a4⟩ := Qwe.all (show Qwe (w.alloc (.cells (chA c) 41)) w.heap.size c from heap_alloc_new w _); rw [hk] at a0; clear hk; go_enter Try.func52, Try.ntmps52; generalize c.k = k at *; generalize c.pg = pg at *; generalize c.sl = sl at *; generalize c.o = o at *; generalize c.n = n at *; go_wp2; go_ret; exact ⟨rfl, hb0⟩
theorem Qxv (c : Ch) (w : World) (h1 : ¬ c.pg < 0) (h2 : ¬ 31 < c.pg) (h3 : ¬ c.sl < 0) (h4 : ¬ 7 < c.sl) (h5 : ¬ 20 < (c.o.size : Int)) (h6 : ¬ 20 < (c.n.size : Int)) (hk : c.k = 3) (he : c.n.toList.isEmpty = false) :
    Calls Try.prog 52 #[.agg (chA c)] w fun e w' => e = .returned (.bool false) /\ Below w.heap.size w w' := by
  have hb0 : Below w.heap.size w (w.alloc (.cells (chA c) 41)) := (Below.refl _ _).alloc (Nat.le_refl _) _; obtain ⟨a0, a1, a2, a3, a4⟩ := Qwe.all (show Qwe (w.alloc (.cells (chA c) 41)) w.heap.size c from heap_alloc_new w _); rw [hk] at a0; clear hk; go_enter Try.func52, Try.ntmps52; generalize c.k = k at *; generalize c.pg = pg at *; generalize c.sl = sl at *; generalize c.o = o at *; generalize c.n = n at *; go_wp2; go_ret; exact ⟨rfl, hb0⟩
theorem Qwz (c : Ch) (w : World) (h1 : ¬ c.pg < 0) (h2 : ¬ 31 < c.pg) (h3 : ¬ c.sl < 0) (h4 : ¬ 7 < c.sl) (h5 : ¬ 20 < (c.o.size : Int)) (h6 : ¬ 20 < (c.n.size : Int)) (hk1 : (c.k == 1) = false) (hk2 : (c.k == 2) = false) (hk3 : (c.k == 3) = false) :
    Calls Try.prog 52 #[.agg (chA c)] w fun e w' => e = .returned (.bool false) /\ Below w.heap.size w w' := by
  have hb0 : Below w.heap.size w (w.alloc (.cells (chA c) 41)) := (Below.refl _ _).alloc (Nat.le_refl _) _; obtain ⟨a0, a1, a2, a3, a4⟩ := Qwe.all (show Qwe (w.alloc (.cells (chA c) 41)) w.heap.size c from heap_alloc_new w _); go_enter Try.func52, Try.ntmps52; generalize c.k = k at *; generalize c.pg = pg at *; generalize c.sl = sl at *; generalize c.o = o at *; generalize c.n = n at *; go_wp2; go_ret; exact ⟨rfl, hb0⟩
theorem Qxb (c : Ch) (w : World) :
    Calls Try.prog 52 #[.agg (chA c)] w fun e w' => e = .returned (.bool (decide c.right)) /\ Below w.heap.size w w' := by
  by_cases h1 : c.pg < 0
  · rw [decide_eq_false (fun h => by have := h.1; omega)]; exact Qyaa c w h1
  by_cases h2 : 31 < c.pg
  · rw [decide_eq_false (fun h => by have := h.1; omega)]; exact Qbaa c w h1 h2
  by_cases h3 : c.sl < 0
  · rw [decide_eq_false (fun h => by have := h.1; omega)]; exact Qeaa c w h1 h2 h3
  by_cases h4 : 7 < c.sl
  · rw [decide_eq_false (fun h => by have := h.1; omega)]; exact Qkaa c w h1 h2 h3 h4
  by_cases h5 : 20 < (c.o.size : Int)
  · rw [decide_eq_false (fun h => by have := h.1; omega)]; exact Qmz c w h1 h2 h3 h4 h5
  by_cases h6 : 20 < (c.n.size : Int)
  · rw [decide_eq_false (fun h => by have := h.1; omega)]; exact Quz c w h1 h2 h3 h4 h5 h6
  have hr : c.kindOk -> c.right := fun h => ⟨⟨by omega, by omega, by omega, by omega, by omega, by omega⟩, h⟩
  by_cases k1 : c.k = 1
  · by_cases he : c.o.toList.isEmpty = true
    · rw [decide_eq_true (hr (.inl ⟨k1, (Qfb _).1 he⟩))]; exact Qkv c w h1 h2 h3 h4 h5 h6 k1 he
    · rw [decide_eq_false (fun h => by
        rcases h.2 with h | h | h
        · exact he ((Qfb _).2 h.2)
        · omega
        · omega)]
      exact Qsv c w h1 h2 h3 h4 h5 h6 k1 (by simpa using he)
  by_cases k2 : c.k = 2
  · rw [decide_eq_true (hr (.inr (.inl k2)))]; exact Qlaa c w h1 h2 h3 h4 h5 h6 k2
  by_cases k3 : c.k = 3
  · by_cases he : c.n.toList.isEmpty = true
    · rw [decide_eq_true (hr (.inr (.inr ⟨k3, (Qfb _).1 he⟩)))]; exact Qhv c w h1 h2 h3 h4 h5 h6 k3 he
    · rw [decide_eq_false (fun h => by
        rcases h.2 with h | h | h
        · omega
        · omega
        · exact he ((Qfb _).2 h.2))]
      exact Qxv c w h1 h2 h3 h4 h5 h6 k3 (by simpa using he)
  rw [decide_eq_false (fun h => by rcases h.2 with h | h | h <;> omega)]; exact Qwz c w h1 h2 h3 h4 h5 h6 (by simpa using k1) (by simpa using k2) (by simpa using k3)
theorem zero_fits : Ch.zero.fits := ⟨by decide, by decide, by decide, by show (0 : Nat) <= maxLen; omega, by show (0 : Nat) <= maxLen; omega⟩
theorem Qhi (c : Ch) (w : World) (r : Bool) (Hr : Hid (decide c.right = r)) :
    Calls Try.prog 52 #[.agg (chA c)] w fun e w' => e = .returned (.bool r) /\ Below w.heap.size w w' := by
  rw [<- Hr.out]; exact Qxb c w
theorem Qse : (⟨#[]⟩ : ByteArray).toList = [] := by
  rw [ByteArray.toList_eq]
theorem Qnt (s : ByteArray) (h : s.toList = []) : s = ⟨#[]⟩ := size0 s ((Qfb s).1 (by rw [h]; rfl))
theorem Qmr (c : Ch) (f1 : c.k = 0) (f2 : c.pg = 0) (f3 : c.sl = 0) (f4 : c.o.toList = []) (f5 : c.n.toList = []) : c = Ch.zero := by
  obtain ⟨k, pg, sl, o, n⟩ := c; simp only at f1 f2 f3 f4 f5; rw [f1, f2, f3, Qnt o f4, Qnt n f5]; rfl
theorem Qda {x : World} {g : Nat} {r : Rec} {va vb : Value} (h : Qb x g 45 (rcA r va vb)) :
    x.cell? ⟨g, 0, none⟩ = some (.int .i64 r.k) /\ x.cell? ⟨g, 1, none⟩ = some (.int .u64 (r.l : Int)) /\ x.cell? ⟨g, 2, none⟩ = some (.int .i64 r.t) /\ x.cell? ⟨g, 3, none⟩ = some (.int .u64 (r.p : Int)) /\ x.cell? ⟨g, 9, none⟩ = some (.int .u64 (r.n : Int)) /\ x.cell? ⟨g, 10, none⟩ = some (.int .i64 r.s) /\ x.cell? ⟨g, 11, none⟩ = some (.int .u64 (r.b : Int)) /\ x.cell? ⟨g, 12, none⟩ = some va /\ x.cell? ⟨g, 13, none⟩ = some vb :=
  ⟨h.cell 0 _ rfl, h.cell 1 _ rfl, h.cell 2 _ rfl, h.cell 3 _ rfl, h.cell 9 _ rfl, h.cell 10 _ rfl, h.cell 11 _ rfl, h.cell 12 _ rfl, h.cell 13 _ rfl⟩
theorem Qbg {x : World} {g : Nat} {r : Rec} {va vb : Value} (h : Qb x g 45 (rcA r va vb)) :
    x.cell? ⟨g, 4, none⟩ = some (.int .i64 r.c.k) /\ x.cell? ⟨g, 5, none⟩ = some (.int .i64 r.c.pg) /\ x.cell? ⟨g, 6, none⟩ = some (.int .i64 r.c.sl) /\ x.cell? ⟨g, 7, none⟩ = some (.string r.c.o) /\ x.cell? ⟨g, 8, none⟩ = some (.string r.c.n) :=
  ⟨h.cell 4 _ rfl, h.cell 5 _ rfl, h.cell 6 _ rfl, h.cell 7 _ rfl, h.cell 8 _ rfl⟩
theorem rc_change {x : World} {g : Nat} {r : Rec} {va vb : Value} (h : Qb x g 45 (rcA r va vb)) : x.rangeAt g 4 (chA r.c).toList := by
  intro j v hv; have hj : j < 5 := (List.getElem?_eq_some_iff.1 hv).1; refine h.cell (4 + j) v ?_; rw [<- hv, Array.getElem?_toList]
  match j, hj with
  | 0, _ => rfl
  | 1, _ => rfl
  | 2, _ => rfl
  | 3, _ => rfl
  | 4, _ => rfl
theorem Qcn (k : Int) (w : World) (q : Bool) (Hq : Hid (decide (1 <= k /\ k <= 6) = q)) :
    Calls Try.prog 51 #[.int .i64 k] w fun e w' => e = .returned (.bool q) /\ w = w' := by
  by_cases h1 : 1 <= k
  · by_cases h2 : k <= 6
    · obtain rfl : q = true := by rw [<- Hq.out]; exact decide_eq_true ⟨h1, h2⟩
      clear Hq; go_enter Try.func51, Try.ntmps51; go_wp2; go_ret; exact ⟨rfl, rfl⟩
    · obtain rfl : q = false := by rw [<- Hq.out]; exact decide_eq_false (by omega)
      clear Hq; go_enter Try.func51, Try.ntmps51; go_wp2; go_ret; exact ⟨rfl, rfl⟩
  · obtain rfl : q = false := by rw [<- Hq.out]; exact decide_eq_false (by omega)
    clear Hq; go_enter Try.func51, Try.ntmps51; go_wp2; go_ret; exact ⟨rfl, rfl⟩
end Go.Proofs.Ytdjhcbiejpjkmaa
