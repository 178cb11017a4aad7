/-
  Texts that lean on one another, one behind the other: each opens with its own remark.
-/
import Derived.WalkSpells
import Derived.Laws.OwnMore
import Derived.Laws.ResultCell
import Derived.Laws.Tables
import Derived.Deep.Draws
import Derived.WalkKit
import Derived.Laws.CopyOwn
import Derived.Lib.ConvBytes
import Derived.Laws.IdiomStrings
import Derived.Laws.BytesArg
import Derived.Lib.AppendStr
import Derived.Test.YtdbpbgpcjmomdaaGreatProg
import Derived.Deep.MidRow
import Derived.DeepKeys
import Derived.Laws.StructEq
import Derived.Deep.QuietTactic
import Derived.BigQuiet
import Derived.OpenShut

namespace Go.Proofs.YtdbpbgpcjmomdaaGreat
open Go.RowKit
set_option linter.unusedVariables false
set_option maxRecDepth 8000
set_option maxHeartbeats 25600000
section
def Qd (w : World) (b : Nat) (t : TypeId) (cs : Array Value) : Prop := w.heap[b]? = some (.cells cs t (0, 0))
theorem Qd.below {w w' : World} {b B : Nat} {t : TypeId} {cs : Array Value} (h : Qd w b t cs) (hb : Below B w w') (hB : b < B) : Qd w' b t cs := (hb.block b hB).trans h
theorem Qd.lt {w : World} {b : Nat} {t : TypeId} {cs : Array Value} (h : Qd w b t cs) : b < w.heap.size := (Array.getElem?_eq_some_iff.1 h).1
theorem Qd.later {w w' : World} {b : Nat} {t : TypeId} {cs : Array Value} (h : Qd w b t cs) (hb : Below w.heap.size w w') : Qd w' b t cs := h.below hb h.lt
theorem Qd.cell {w : World} {b : Nat} {t : TypeId} {cs : Array Value} (h : Qd w b t cs) (j : Nat) (v : Value) (hv : cs[j]? = some v) : w.cell? ⟨b, j, none⟩ = some v := by
  rw [cell_of_row w b j _ _ (0, 0) h]; exact hv
theorem Qd.free {w : World} {b : Nat} {t : TypeId} {cs : Array Value} (h : Qd w b t cs) (j : Nat) : w.frozen? ⟨b, j, none⟩ = false := frozen_of_row w b j _ _ h
theorem Qd.other {w : World} {b : Nat} {t : TypeId} {cs : Array Value} (h : Qd w b t cs) (a : Addr) (v : Value) (hn : b ≠ a.block) : Qd (w.setCell a v) b t cs := (heap_setCell_other w a b v hn).trans h
theorem Qd.set {w : World} {b : Nat} {t : TypeId} {cs : Array Value} (h : Qd w b t cs) (j : Nat) (v : Value) : Qd (w.setCell ⟨b, j, none⟩ v) b t (cs.setIfInBounds j v) := heap_setCell_same w b j _ _ v h
theorem Qd.new (w : World) (t : TypeId) (cs : Array Value) : Qd (w.alloc (.cells cs t)) w.heap.size t cs := heap_alloc_new w _
section
variable {P : Program} {ops : Array Oper} {rest : List Oper} {o : Oper} {a : Act} {w : World} {Q : Exit -> Act -> World -> Prop}
theorem Qg (hw : Region.wanted o (yielded ops a.tmps) = true) (t : TypeId) (x : Operand) (ho : o.op = .load t x) (g : Nat) (hx : a.eval x = .pointer (some ⟨g, 0, none⟩)) (cs : Array Value) (hg : Qd w g t cs) (d : TypeDesc)
    (hu : P.underlying t = some d) (hd : (match d with | .struct _ | .array _ _ => true | _ => false) = true) (hi : (P.info? t).map (·.size) = some cs.size) (h : wpList P ops Q rest (a.put o.dst (.agg cs)) w) : wpList P ops Q (o :: rest) a w :=
  wpList_step fun K hK => by
    simp only [hw, if_true]; exact wp_load_row t x ho g hx t cs (0, 0) d hg hu hd hi (hK _ _ h)
theorem Qc (hgd : o.guard = none) (t : TypeId) (x y : Operand) (ho : o.op = .store t x y) (g : Nat) (c0 cs : Array Value) (hx : a.eval x = .pointer (some ⟨g, 0, none⟩)) (hy : a.eval y = .agg cs) (hg : Qd w g t c0)
    (hi : (P.info? t).map (·.size) = some cs.size) (hz : c0.size = cs.size) (h1 : cs.all (·.oneCell') = true)
    (h : ∀ w2, Qd w2 g t cs -> (∀ B w0, Below B w0 w -> B <= g -> Below B w0 w2) -> (∀ k t' c', k ≠ g -> Qd w k t' c' -> Qd w2 k t' c') -> wpList P ops Q rest (a.put o.dst undef) w2) : wpList P ops Q (o :: rest) a w := by
  refine wpList_store_row hgd t x y ho g cs hx hy t c0 hg hi hz h1 (h _ ?_ (fun B w0 hb hB => ?_) (fun k t' c' hk hr => ?_))
  · exact setRow_heap w g c0 cs t (0, 0) hg
  · exact ⟨hb.1, hb.2, hb.3, by simp [World.setRow]; exact hb.4, fun k hk => (setRow_other w g k _ (by omega)).trans (hb.5 k hk)⟩
  · exact (setRow_other w g k _ hk).trans hr
theorem Qcb {fn : Func} {p u : Tmp} {t : TypeId} (h : fn.results = #[.cell p t, .tmp u]) (tmps : Array Value) (w : World) (g : Nat) (cs : Array Value) (d : TypeDesc) (hp : tmps.getD p undef = .pointer (some ⟨g, 0, none⟩)) (hg : Qd w g t cs)
    (hu : P.underlying t = some d) (hd : (match d with | .struct _ | .array _ _ => true | _ => false) = true) (hi : (P.info? t).map (·.size) = some cs.size) :
    (results fn tmps).run P w = .ok (.tuple #[.agg cs, tmps.getD u undef]) w := by
  have h1 := run_loadVar_row (P := P) w g t t cs (0, 0) d hg hu hd hi; rw [results_cell_tmp h, hp]; simp only [asAddr, Sem.run_pure, Result.andThen_ok, h1]
end
theorem Qya {Q : World -> Prop} (H : World -> Prop) {x : World} (h : H x) (k : ∀ y, H y -> Q y) : Q x := k x h
theorem Qzd (s : ByteArray) : s.toList.isEmpty = true ↔ s.size = 0 := by
  rw [ByteArray.toList_eq]; obtain ⟨⟨l⟩⟩ := s; cases l <;> simp [ByteArray.size]
theorem Qra {B : Nat} {w w' : World} (h : Below B w w') (k : Nat) : Below B w (w'.drewN k) := ⟨h.1, h.2, h.3, h.4, h.5⟩
theorem Qk {P : Program} {f : FuncId} {args : Array Value} {Q : Ending -> World -> Prop} (H : World -> Prop) {x : World} (h : H x) (k : ∀ y, H y -> Calls P f args y Q) : Calls P f args x Q := k x h
theorem Qde {P : Program} {c : Code} {Q : Exit -> Act -> World -> Prop} {a : Act} (H : World -> Prop) {x : World} (h : H x) (k : ∀ y, H y -> Code.wp P c Q a y) : Code.wp P c Q a x := k x h
theorem Qxf {P : Program} {ops : Array Oper} {rest : List Oper} {o : Oper} {a : Act} {w : World} {Q : Exit -> Act -> World -> Prop} (hw : Region.wanted o (yielded ops a.tmps) = true) (v : Value) (hv : (execOp a.eval o).run P w = .ok (.value v) w)
    (h : wpList P ops Q rest (a.put o.dst v) w) : wpList P ops Q (o :: rest) a w :=
  wpList_step fun K hK => by
    simp only [hw, if_true]; unfold Oper.wp; rw [hv]; exact hK _ _ h
theorem Qtn {P : Program} {ops : Array Oper} {rest : List Oper} {o : Oper} {a : Act} {w : World} {Q : Exit -> Act -> World -> Prop} (hw : Region.wanted o (yielded ops a.tmps) = true) (op : BinOp) (t r : TypeId) (x y : Operand) (ho : o.op = .binOp op t x y r) (u v z : Value) (hu : a.eval x = u) (hv : a.eval y = v) (hg : (eqGuard op t x y u v).run P w = .ok () w)
    (hz : (binOp op t u v).run P w = .ok z w) (h : wpList P ops Q rest (a.put o.dst z) w) : wpList P ops Q (o :: rest) a w :=
  Qxf hw z (by unfold execOp; simp only [ho, hu, hv, Sem.run_bind, hg, hz, Result.andThen_ok, Sem.run_pure]) h
end
structure Tp where
  b : ByteArray
  f : Nat
  m : Nat
  s : Nat
structure Tp.ok (t : Tp) : Prop where
  fast : t.f <= t.b.size
  few : t.b.size <= t.m
  room : t.m <= 65536
  went : t.s < 18446744073709551616
def Tp.new (r : Int) : Tp := ⟨⟨#[]⟩, 0, (max 0 (min r 65536)).toNat, 0⟩
def Tp.app (t : Tp) (x : ByteArray) : Tp × Int := if t.m < t.b.size + x.size then (t, 7) else ({ t with b := t.b ++ x }, 0)
def Tp.sync (t : Tp) : Tp := { t with f := t.b.size }
def Tp.cut (t : Tp) (n : Int) : Tp × Int := if n < 0 ∨ (t.f : Int) < n then (t, 1) else (⟨t.b.extract n.toNat t.b.size, t.f - n.toNat, t.m, (t.s + n.toNat) % 18446744073709551616⟩, 0)
def Tp.chop (t : Tp) (n : Int) : Tp × Int := if n < 0 ∨ (t.b.size : Int) < n then (t, 1) else ({ t with b := t.b.extract 0 n.toNat, f := min t.f n.toNat }, 0)
def Tp.left (t : Tp) (k : Int) : Nat := t.f + (max 0 (min k ((t.b.size : Int) - (t.f : Int)))).toNat
def Tp.crash (t : Tp) (k : Int) : Tp := { t with b := t.b.extract 0 (t.left k), f := t.left k }
theorem Tp.left_le (t : Tp) (h : t.ok) (k : Int) : t.f <= t.left k /\ t.left k <= t.b.size := by
  have := h.fast; unfold Tp.left; omega
theorem Qrm (b : ByteArray) (i j : Nat) (h : j <= b.size) : (b.extract i j).size = j - i := by rw [ByteArray.size_extract]; omega
theorem Tp.new_ok (r : Int) : (Tp.new r).ok := ⟨Nat.le_refl _, Nat.zero_le _, by unfold Tp.new; simp only; omega, by unfold Tp.new; simp only; omega⟩
theorem Tp.app_ok (t : Tp) (h : t.ok) (x : ByteArray) : (t.app x).1.ok := by
  unfold Tp.app
  by_cases g : t.m < t.b.size + x.size
  · rw [if_pos g]; exact h
  · rw [if_neg g]; have z : (t.b ++ x).size = t.b.size + x.size := ByteArray.size_append; exact ⟨by show t.f <= (t.b ++ x).size; have := h.fast; omega, by show (t.b ++ x).size <= t.m; omega, h.room, h.went⟩
theorem Tp.sync_ok (t : Tp) (h : t.ok) : t.sync.ok := ⟨Nat.le_refl _, h.few, h.room, h.went⟩
theorem Tp.cut_ok (t : Tp) (h : t.ok) (n : Int) : (t.cut n).1.ok := by
  unfold Tp.cut
  by_cases g : n < 0 ∨ (t.f : Int) < n
  · rw [if_pos g]; exact h
  · rw [if_neg g]; have z := Qrm t.b n.toNat t.b.size (Nat.le_refl _); have := h.fast; have := h.few; exact ⟨by show t.f - n.toNat <= (t.b.extract n.toNat t.b.size).size; omega, by show (t.b.extract n.toNat t.b.size).size <= t.m; omega, h.room, Nat.mod_lt _ (by omega)⟩
theorem Tp.chop_ok (t : Tp) (h : t.ok) (n : Int) : (t.chop n).1.ok := by
  unfold Tp.chop
  by_cases g : n < 0 ∨ (t.b.size : Int) < n
  · rw [if_pos g]; exact h
  · rw [if_neg g]; have z := Qrm t.b 0 n.toNat (by omega); have := h.few; exact ⟨by show min t.f n.toNat <= (t.b.extract 0 n.toNat).size; omega, by show (t.b.extract 0 n.toNat).size <= t.m; omega, h.room, h.went⟩
theorem Tp.crash_ok (t : Tp) (h : t.ok) (k : Int) : (t.crash k).ok := by
  have hl := t.left_le h k; have z := Qrm t.b 0 (t.left k) hl.2; have := h.few; exact ⟨by show t.left k <= (t.b.extract 0 (t.left k)).size; omega, by show (t.b.extract 0 (t.left k)).size <= t.m; omega, h.room, h.went⟩
structure But (g : Nat) (w w' : World) : Prop where
  os : w'.os = w.os
  tape : w'.tape = w.tape
  output : w'.output = w.output
  size : w.heap.size <= w'.heap.size
  block : ∀ k, k < w.heap.size -> k ≠ g -> w'.heap[k]? = w.heap[k]?
theorem But.refl (g : Nat) (w : World) : But g w w := ⟨rfl, rfl, rfl, Nat.le_refl _, fun _ _ _ => rfl⟩
theorem But.trans {g : Nat} {w x y : World} (h : But g w x) (k : But g x y) : But g w y :=
  ⟨k.os.trans h.os, k.tape.trans h.tape, k.output.trans h.output, Nat.le_trans h.size k.size, fun i hi hn => (k.block i (Nat.lt_of_lt_of_le hi h.size) hn).trans (h.block i hi hn)⟩
theorem But.set {g : Nat} {w x : World} (h : But g w x) (j : Nat) (v : Value) : But g w (x.setCell ⟨g, j, none⟩ v) :=
  ⟨h.os, h.tape, h.output, Nat.le_trans h.size ((Below.refl 0 x).setCell (Nat.zero_le _) v).size, fun i hi hn => (heap_setCell_other x ⟨g, j, none⟩ i v hn).trans (h.block i hi hn)⟩
theorem But.drew {g : Nat} {w x : World} (h : But g w x) : But g w x.drew := ⟨h.os, h.tape, h.output, h.size, h.block⟩
theorem But.row {g k : Nat} {w x : World} {t : TypeId} {cs : Array Value} (h : But g w x) (hr : Qd w k t cs) (hn : k ≠ g) : Qd x k t cs := (h.block k hr.lt hn).trans hr
def Is (g k : Nat) : Prop := k = g
structure Tn (F : Nat -> Prop) (w w' : World) : Prop where
  os : w'.os = w.os
  tape : w'.tape = w.tape
  output : w'.output = w.output
  size : w.heap.size <= w'.heap.size
  block : ∀ k, k < w.heap.size -> ¬ F k -> w'.heap[k]? = w.heap[k]?
theorem Tn.refl (F : Nat -> Prop) (w : World) : Tn F w w := ⟨rfl, rfl, rfl, Nat.le_refl _, fun _ _ _ => rfl⟩
theorem Tn.trans {F G : Nat -> Prop} {w x y : World} (p : Tn F w x) (q : Tn G x y) (h : ∀ k, G k -> F k ∨ w.heap.size <= k) : Tn F w y :=
  ⟨q.os.trans p.os, q.tape.trans p.tape, q.output.trans p.output, Nat.le_trans p.size q.size, fun k hk hn => (q.block k (Nat.lt_of_lt_of_le hk p.size) (fun hg => by
    rcases h k hg with h1 | h1
    · exact hn h1
    · omega)).trans (p.block k hk hn)⟩
theorem Tn.then {F : Nat -> Prop} {w x y : World} (p : Tn F w x) (q : Tn F x y) : Tn F w y := p.trans q (fun k h => .inl h)
theorem Tn.set {F : Nat -> Prop} {w x : World} (p : Tn F w x) (g j : Nat) (v : Value) (h : F g) : Tn F w (x.setCell ⟨g, j, none⟩ v) :=
  ⟨p.os, p.tape, p.output, Nat.le_trans p.size ((Below.refl 0 x).setCell (Nat.zero_le _) v).size, fun i hi hn => (heap_setCell_other x ⟨g, j, none⟩ i v (fun e => hn (by rw [e]; exact h))).trans (p.block i hi hn)⟩
theorem Tn.drew {F : Nat -> Prop} {w x : World} (p : Tn F w x) : Tn F w x.drew := ⟨p.os, p.tape, p.output, p.size, p.block⟩
theorem Tn.later {F : Nat -> Prop} {w x y : World} (p : Tn F w x) (q : Below x.heap.size x y) : Tn F w y :=
  ⟨q.os.trans p.os, q.tape.trans p.tape, q.output.trans p.output, Nat.le_trans p.size q.size, fun i hi hn => (q.block i (Nat.lt_of_lt_of_le hi p.size)).trans (p.block i hi hn)⟩
theorem Tn.of_below {F : Nat -> Prop} {w x : World} (q : Below w.heap.size w x) : Tn F w x := (Tn.refl F w).later q
theorem Tn.of_but {F : Nat -> Prop} {w x : World} {g : Nat} (q : But g w x) (h : F g) : Tn F w x := ⟨q.os, q.tape, q.output, q.size, fun k hk hn => q.block k hk (fun e => hn (by rw [e]; exact h))⟩
theorem Tn.of_grown {F : Nat -> Prop} {w x : World} {row : Option Nat} (q : w.grownBy x row) (h : ∀ k, row = some k -> F k) : Tn F w x := ⟨q.os, q.tape, q.output, q.size, fun k hk hn => q.block k hk (fun e => hn (h k e.symm))⟩
theorem Tn.weak {F G : Nat -> Prop} {w x : World} (p : Tn F w x) (h : ∀ k, F k -> G k) : Tn G w x := ⟨p.os, p.tape, p.output, p.size, fun k hk hn => p.block k hk (fun e => hn (h k e))⟩
theorem Tn.below {F : Nat -> Prop} {n : Nat} {w x : World} (p : Tn F w x) (h : ∀ k, F k -> n <= k) (hs : n <= w.heap.size) : Below n w x := ⟨p.os, p.tape, p.output, p.size, fun i hi => p.block i (by omega) (fun hf => by have := h i hf; omega)⟩
theorem Tn.row {F : Nat -> Prop} {w x : World} {k : Nat} {t : TypeId} {cs : Array Value} (p : Tn F w x) (hr : Qd w k t cs) (h : ¬ F k) : Qd x k t cs := (p.block k hr.lt h).trans hr
theorem Qca {w : World} {k : Nat} {t u : TypeId} {cs ds : Array Value} (h : Qd w k t cs) (h2 : Qd w k u ds) : t = u := by
  have h3 : w.heap[k]? = some (.cells cs t (0, 0)) := h; have h4 : w.heap[k]? = some (.cells ds u (0, 0)) := h2; rw [h3] at h4; injection h4 with h4; injection h4 with _ h5
theorem Qa {p : Prop} (h : p) : Hid p := h
def be (bs : List UInt8) : Nat := bs.foldl (fun n b => n * 256 + b.toNat) 0
theorem be_nil : be [] = 0 := rfl
theorem be_snoc (bs : List UInt8) (b : UInt8) : be (bs ++ [b]) = be bs * 256 + b.toNat := by
  simp [be, List.foldl_append]
theorem Qgr : ∀ (bs : List UInt8) (n k : Nat), n < 256 ^ k -> bs.foldl (fun n b => n * 256 + b.toNat) n < 256 ^ (k + bs.length)
  | [], n, k, h => by simpa using h
  | b :: bs, n, k, h => by
    have hb : b.toNat < 256 := b.toNat_lt; have h2 : n * 256 + b.toNat < 256 ^ (k + 1) := by rw [Nat.pow_succ]; omega
    have h3 := Qgr bs (n * 256 + b.toNat) (k + 1) h2; simp only [List.foldl_cons, List.length_cons]; have e : k + (bs.length + 1) = k + 1 + bs.length := by omega
    rw [e]; exact h3
theorem be_lt (bs : List UInt8) : be bs < 256 ^ bs.length := by
  have h := Qgr bs 0 0 (by simp); rw [Nat.zero_add] at h; exact h
theorem Qjo (bs : List UInt8) (k : Nat) (h : k < bs.length) : be (bs.take (k + 1)) = be (bs.take k) * 256 + (bs.getD k 0).toNat := by
  rw [List.take_succ_eq_append_getElem h, be_snoc]; simp [List.getD, List.getElem?_eq_getElem h]
theorem Qan (k : Nat) (h : k <= 8) : 256 ^ k <= 18446744073709551616 := by
  have h2 : 256 ^ k <= 256 ^ 8 := Nat.pow_le_pow_right (by omega) h; have h3 : 256 ^ 8 = 18446744073709551616 := by decide
  omega
theorem Qap (bs : List UInt8) (k : Nat) (h : k < 8) : be (bs.take k) < 72057594037927936 := by
  have h1 := be_lt (bs.take k); have h2 : 256 ^ (bs.take k).length <= 256 ^ 7 := Nat.pow_le_pow_right (by omega) (by simp; omega); have h3 : 256 ^ 7 = 72057594037927936 := by decide
  omega
def beAt (bs : List UInt8) (p k : Nat) : Nat := be ((bs.drop p).take k)
theorem Qfk (bs : List UInt8) (p : Nat) : beAt bs p 0 = 0 := by simp [beAt, be_nil]
theorem Qkk (bs : List UInt8) (p k : Nat) (h : p + k < bs.length) : beAt bs p (k + 1) = beAt bs p k * 256 + (bs.getD (p + k) 0).toNat := by
  unfold beAt; rw [Qjo _ _ (by simp; omega)]; simp [List.getD]
theorem Qsi (bs : List UInt8) (p k : Nat) (h : k < 8) : beAt bs p k < 72057594037927936 := Qap _ _ h
theorem shl_or (n b : Nat) (hn : n < 72057594037927936) (hb : b < 256) : bits .or .u64 ((n : Int) * 256) (b : Int) = ((n * 256 + b : Nat) : Int) := by
  have e : ((n : Int) * 256) = ((n * 256 : Nat) : Int) := by omega
  rw [e, u64_or_nat (n * 256) b (by omega) (by omega), nat_join 8 (n * 256) b (by omega) (by omega)]
theorem take_step (bs : List UInt8) (p j : Nat) (hj : j < 8) (h : p + j < bs.length) :
    bits .or .u64 ((beAt bs p j : Nat) * 256 : Int) (IntKind.u64.wrap ((bs[p + j]?.getD 0).toNat : Int)) = ((beAt bs p (j + 1) : Nat) : Int) := by
  have hb : (bs[p + j]?.getD 0).toNat < 256 := (bs[p + j]?.getD 0).toNat_lt; have e : IntKind.u64.wrap ((bs[p + j]?.getD 0).toNat : Int) = ((bs[p + j]?.getD 0).toNat : Int) := by rw [IntKind.wrap_u64]; omega
  rw [e, shl_or _ _ (Qsi bs p j hj) hb, Qkk bs p j h]; simp [List.getD]
theorem Qql (s : ByteArray) (i : Nat) (h : i < s.size) : s.data.toList.getD i 0 = s[i] := by
  have h2 : i < s.data.toList.length := by simpa using h
  rw [List.getD, List.getElem?_eq_getElem h2]; rfl
theorem Qhu (s : ByteArray) (p j : Nat) (hj : j < 8) (h : p + j < s.size) :
    IntKind.u64.wrap ((beAt s.data.toList p j : Nat) * 256 + IntKind.u64.wrap (s[p + j].toNat : Int)) = ((beAt s.data.toList p (j + 1) : Nat) : Int) := by
  have hb : s[p + j].toNat < 256 := s[p + j].toNat_lt; have hn := Qsi s.data.toList p j hj; rw [Qkk s.data.toList p j (by simpa using h), Qql s (p + j) h, IntKind.wrap_u64, IntKind.wrap_u64]; omega
theorem shr_zero (n k : Nat) : ((n : Int) / 2 ^ (8 * k) == 0) = decide (n < 256 ^ k) := by
  have e : (2 : Int) ^ (8 * k) = ((256 ^ k : Nat) : Int) := by
    rw [Int.pow_mul]; simp
  rw [e]; have hp : 0 < 256 ^ k := Nat.pow_pos (by omega); rw [Bool.eq_iff_iff]; simp only [beq_iff_eq, decide_eq_true_eq]
  constructor
  · intro h; have h2 : ((n / 256 ^ k : Nat) : Int) = 0 := by rw [Int.natCast_ediv]; exact h
    have h3 : n / 256 ^ k = 0 := by omega
    exact (Nat.div_eq_zero_iff_lt hp).1 h3
  · intro h; have h3 : n / 256 ^ k = 0 := (Nat.div_eq_zero_iff_lt hp).2 h; have h2 : ((n / 256 ^ k : Nat) : Int) = 0 := by omega
    rw [Int.natCast_ediv] at h2; exact h2
theorem byte_at (n m : Nat) : (n : Int) / 2 ^ (8 * m) % 256 = ((UInt8.ofNat (n / 256 ^ m)).toNat : Int) := by
  have e : (2 : Int) ^ (8 * m) = ((256 ^ m : Nat) : Int) := by
    rw [Int.pow_mul]; simp
  rw [e, <- Int.natCast_ediv]; simp
def IsB (w : World) (a : Option Addr) (len : Nat) (bs : List UInt8) : Prop :=
  bs.length = len /\ (0 < len -> ∃ b off, a = some ⟨b, off, none⟩ /\ b < w.heap.size /\ ∀ j, j < len -> w.cell? ⟨b, off + j, none⟩ = some (.int .u8 ((bs.getD j 0).toNat : Int)))
theorem IsB.below {w w' : World} {a : Option Addr} {len : Nat} {bs : List UInt8} (h : IsB w a len bs) (hb : Below w.heap.size w w') : IsB w' a len bs := by
  refine ⟨h.1, fun hp => ?_⟩; obtain ⟨b, off, ha, hlt, hc⟩ := h.2 hp; exact ⟨b, off, ha, Nat.lt_of_lt_of_le hlt hb.size, fun j hj => (hb.cell (p := ⟨b, off + j, none⟩) hlt).trans (hc j hj)⟩
theorem IsB.nil (w : World) : IsB w none 0 [] := ⟨rfl, fun h => absurd h (by omega)⟩
def toV (bs : List UInt8) : List Value := bs.map fun b => Value.int .u8 (b.toNat : Int)
theorem Qv (bs : List UInt8) : (toV bs).length = bs.length := by simp [toV]
theorem Qyh (a b : List UInt8) : toV (a ++ b) = toV a ++ toV b := by simp [toV]
theorem Qpg (bs : List UInt8) : ∀ v ∈ toV bs, v.oneCell' = true := by
  intro v hv; obtain ⟨b, _, rfl⟩ := List.mem_map.1 hv; rfl
theorem Qbm (bs : List UInt8) (j : Nat) (h : j < bs.length) : (toV bs)[j]? = some (.int .u8 ((bs.getD j 0).toNat : Int)) := by
  simp [toV, List.getD, List.getElem?_eq_getElem h]
theorem Qcm (bs : List UInt8) (j : Nat) (v : Value) (h : (toV bs)[j]? = some v) : j < bs.length /\ v = .int .u8 ((bs.getD j 0).toNat : Int) := by
  have hj : j < bs.length := by
    have := (List.getElem?_eq_some_iff.1 h).1; rwa [Qv] at this
  rw [Qbm bs j hj] at h; exact ⟨hj, (Option.some.inj h).symm⟩
theorem IsB.cells {w : World} {a : Option Addr} {len : Nat} {bs : List UInt8} (h : IsB w a len bs) (hp : 0 < bs.length) : ∃ ad, a = some ad /\ ad.block < w.heap.size /\ ∀ j v, (toV bs)[j]? = some v -> w.cell? (ad.add j) = some v := by
  obtain ⟨b, off, ha, hlt, hc⟩ := h.2 (by have := h.1; omega); refine ⟨_, ha, hlt, fun j v hv => ?_⟩; obtain ⟨hj, rfl⟩ := Qcm bs j v hv; rw [Addr.add_lit]; exact hc j (by have := h.1; omega)
def Qtk (n : Nat) : List Value := List.replicate n (.int .u8 0)
theorem Qce (n : Nat) : (Qtk n).length = n := by simp [Qtk]
theorem run_mk {P : Program} (t e : TypeId) (ht : P.underlying t = some (.slice e)) (hinfo : (P.info? e).map (fun i => (i.zero, i.size, i.bytes)) = some (some (.int .u8 0), 1, 1)) (l m : Nat) (h : l + m <= 281474976710656) (w : World) :
    (Instr.makeSlice t (.int .i64 (l : Int)) (.int .i64 ((l : Int) + (m : Int)))).run P w = .ok (.slice (some ⟨w.heap.size, 0, none⟩) l (l + m)) (w.alloc (.cells (Qtk (l + m)).toArray e)) := by
  obtain ⟨i, hi, hz, hs, hb⟩ := info_parts hinfo; have hr := run_make (P := P) w t e i (.int .u8 0) ht hi hz .i64 .i64 (l : Int) ((l : Int) + (m : Int)) (by omega) (by omega) (by rw [hb]; omega) (by omega); have e1 : ((l : Int) + (m : Int)).toNat = l + m := by omega
  have e2 : (Value.int .u8 0).cells = #[.int .u8 0] := rfl; rw [hr, e1, hs, Nat.mul_one, e2]
  have e3 : madeCells #[Value.int .u8 0] (l + m) = (Qtk (l + m)).toArray := by
    apply Array.ext'; rw [toList_madeCells_one]; rfl
  rw [e3]; rfl
theorem Qhp (L cs : List Value) : splice L 0 cs = cs ++ L.drop cs.length := by simp [splice]
theorem Qgf {w : World} {base g len m : Nat} {e : TypeId} {bs : List UInt8} (hb : bs.length = len) (hbase : base <= g) (hm : len + m <= 281474976710656)
    (h : w.heap[g]? = some (.cells (splice (Qtk (len + m)) 0 (toV bs)).toArray e (0, 0))) : w.ownsRow base e 1 (.slice (some ⟨g, 0, none⟩) len (len + m)) len (toV bs) := by
  refine ⟨by rw [Qv]; omega, .inr ⟨g, len + m, _, rfl, hbase, h, by omega, by unfold maxLen; omega, ?_, ?_⟩⟩
  · rw [List.size_toArray, length_splice _ _ _ (by rw [Qv, Qce]; omega), Qce]; omega
  · rw [Qhp, Nat.mul_one]; exact List.take_left' (by rw [Qv]; omega)
theorem IsB.hpos {w : World} {a : Option Addr} {len : Nat} {bs : List UInt8} (hB : IsB w a len bs) (o : Obj) (x : Option Addr) : 0 < (toV bs).length -> x = x /\ ∃ ad, a = some ad /\ ∀ j v, (toV bs)[j]? = some v -> (w.alloc o).cell? (ad.add j) = some v := by
  intro hp; rw [Qv] at hp; obtain ⟨ad, ha, _, hc⟩ := hB.cells hp; refine ⟨rfl, ad, ha, fun j v hv => ?_⟩; have hx := hc j v hv; exact ((((Below.refl w.heap.size w).alloc (Nat.le_refl _) _).cell (p := ad.add j) (World.block_lt_of_cell? w _ hx))).trans hx
def beB (k n : Nat) : List UInt8 := (List.range k).map fun i => UInt8.ofNat (n / 256 ^ (k - 1 - i))
theorem Qf (k n : Nat) : (beB k n).length = k := by simp [beB]
theorem beB_take (k n j : Nat) (h : j < k) : (beB k n).take (j + 1) = (beB k n).take j ++ [UInt8.ofNat (n / 256 ^ (k - 1 - j))] := by
  rw [List.take_succ_eq_append_getElem (by rw [Qf]; exact h)]; simp [beB]
theorem put_row {w : World} {base g len j cap : Nat} {e : TypeId} {bs t t' : List UInt8} {x : UInt8} (h : w.ownsRow base e 1 (.slice (some ⟨g, 0, none⟩) (len + j + 1) cap) (len + j + 1) (toV (bs ++ t) ++ [.int .u8 (x.toNat : Int)])) (ht : t' = t ++ [x]) :
    w.ownsRow base e 1 (.slice (some ⟨g, 0, none⟩) (len + (j + 1)) cap) (len + (j + 1)) (toV (bs ++ t')) := by
  subst ht; have e1 : toV (bs ++ (t ++ [x])) = toV (bs ++ t) ++ [.int .u8 (x.toNat : Int)] := by simp [toV]
  rw [e1]; exact h
theorem isB_conv (w : World) (e : TypeId) (s : ByteArray) : IsB (Lib.bytesWorld w e s) (some ⟨w.heap.size, 0, none⟩) s.size s.data.toList := by
  refine ⟨by simp, fun _ => ⟨w.heap.size, 0, rfl, by rw [Lib.bytesWorld_size]; omega, fun j hj => ?_⟩⟩; rw [Nat.zero_add, Lib.bytesWorld_cell w e s j hj]
theorem Qou (w : World) (e : TypeId) (s : ByteArray) : Below w.heap.size w (Lib.bytesWorld w e s) :=
  ⟨rfl, rfl, rfl, by rw [Lib.bytesWorld_size]; omega, fun k hk => Lib.bytesWorld_at_old w e s k hk⟩
theorem Qge {P : Program} (w : World) (src dst e : TypeId) (hs : P.underlying src = some (.slice e)) (he : P.underlying e = some (.int .u8)) (hd : P.underlying dst = some .string)
    (a : Option Addr) (len cap : Nat) (bs : List UInt8) (h : IsB w a len bs) : (convert src dst (.slice a len cap)).run P w = .ok (.string ⟨bs.toArray⟩) w := by
  obtain ⟨hl, hc⟩ := h
  cases a with
  | none =>
    have h0 : ¬ 0 < len := by
      intro hp; obtain ⟨b, off, ha, _⟩ := hc hp; simp at ha
    have h1 : bs = [] := List.eq_nil_of_length_eq_zero (by omega); subst h1; exact run_convert_bytes_nil w src e hs he len cap dst hd
  | some ad =>
    subst hl; refine run_convert_bytes_back w src dst e ad cap bs hs he hd fun j hj => ?_
    obtain ⟨b, off, ha, _, hcell⟩ := hc (by omega); obtain rfl := Option.some.inj ha; rw [Addr.add_lit, hcell j hj]; simp [List.getD, List.getElem?_eq_getElem hj]
theorem IsB.cut {w : World} {b off len : Nat} {bs : List UInt8} (hb : bs.length = len) (hlt : b < w.heap.size) (hc : ∀ j, j < len -> w.cell? ⟨b, off + j, none⟩ = some (.int .u8 ((bs.getD j 0).toNat : Int)))
    (p m : Nat) (h : p + m <= len) : IsB w (some ⟨b, off + p, none⟩) m ((bs.drop p).take m) := by
  refine ⟨by simp; omega, fun _ => ⟨b, off + p, rfl, hlt, fun j hj => ?_⟩⟩; rw [Nat.add_assoc, hc (p + j) (by omega)]; simp [List.getD, hj]
theorem IsB.none_left (w : World) (a : Option Addr) : IsB w a 0 [] := ⟨rfl, fun h => absurd h (by omega)⟩
theorem _root_.Go.World.ownsRow.isB {w : World} {base g n cap : Nat} {e : TypeId} {bs : List UInt8} (h : w.ownsRow base e 1 (.slice (some ⟨g, 0, none⟩) n cap) n (toV bs)) (hl : bs.length = n) : IsB w (some ⟨g, 0, none⟩) n bs := by
  refine ⟨hl, fun _ => ⟨g, 0, rfl, (h.lt g rfl).2, fun j hj => ?_⟩⟩; rw [Nat.zero_add, h.cellAt j (by omega), Qbm bs j (by omega)]
theorem Qlk {P : Program} (w : World) (src dst e : TypeId) (hs : P.underlying src = some (.slice e)) (he : P.underlying e = some (.int .u8)) (hd : P.underlying dst = some .string) (x : Int) (y : UInt8) (hx : x = (y.toNat : Int)) :
    (convert src dst (.slice (some ⟨w.heap.size, 0, none⟩) 1 1)).run P (w.alloc (.cells #[.int .u8 x] e)) = .ok (.string ⟨#[y]⟩) (w.alloc (.cells #[.int .u8 x] e)) := by
  subst hx; refine Qge (w.alloc (.cells #[.int .u8 (y.toNat : Int)] e)) src dst e hs he hd (some ⟨w.heap.size, 0, none⟩) 1 1 [y] ⟨rfl, fun _ => ⟨w.heap.size, 0, rfl, by simp, fun j hj => ?_⟩⟩; obtain rfl : j = 0 := by omega
  simp
def Qqi (bs : List UInt8) (p k : Int) : Int × Int :=
  if k < 1 ∨ 8 < k ∨ p < 0 then (0, 1)
  else if (bs.length : Int) - p < k then (0, 4)
  else (((beAt bs p.toNat k.toNat : Nat) : Int), 0)
theorem Qpe (bs : List UInt8) (p k : Int) (h : k < 1 ∨ 8 < k ∨ p < 0) : Qqi bs p k = (0, 1) := by simp [Qqi, h]
theorem Qyd (bs : List UInt8) (p k : Int) (h : ¬ (k < 1 ∨ 8 < k ∨ p < 0)) (h2 : (bs.length : Int) - p < k) : Qqi bs p k = (0, 4) := by
  unfold Qqi; rw [if_neg h, if_pos h2]
theorem Qzf (bs : List UInt8) (p k : Int) (h : ¬ (k < 1 ∨ 8 < k ∨ p < 0)) (h2 : ¬ (bs.length : Int) - p < k) : Qqi bs p k = (((beAt bs p.toNat k.toNat : Nat) : Int), 0) := by
  unfold Qqi; rw [if_neg h, if_neg h2]
def Qmf (bs : List UInt8) (p : Int) : List UInt8 × Int × Int :=
  if p < 0 then ([], 0, 1)
  else if (bs.length : Int) <= p then ([], 0, 4)
  else if (bs.length : Int) < p + 1 + ((bs.getD p.toNat 0).toNat : Int) then ([], 0, 4)
  else ((bs.drop (p.toNat + 1)).take (bs.getD p.toNat 0).toNat, p + 1 + ((bs.getD p.toNat 0).toNat : Int), 0)
theorem Qvn (bs : List UInt8) (p : Int) (h : p < 0) : Qmf bs p = ([], 0, 1) := by simp [Qmf, h]
theorem Qug (bs : List UInt8) (p : Int) (h : ¬ p < 0) (h2 : (bs.length : Int) <= p) : Qmf bs p = ([], 0, 4) := by
  unfold Qmf; rw [if_neg h, if_pos h2]
theorem Qlj (bs : List UInt8) (p m : Nat) (h2 : p < bs.length) (hm : (bs.getD p 0).toNat = m) (h3 : bs.length < p + 1 + m) : Qmf bs p = ([], 0, 4) := by
  unfold Qmf; rw [if_neg (by omega), if_neg (by omega), Int.toNat_natCast, hm, if_pos (by omega)]
theorem Qxl (bs : List UInt8) (p m : Nat) (h2 : p < bs.length) (hm : (bs.getD p 0).toNat = m) (h3 : p + 1 + m <= bs.length) : Qmf bs p = ((bs.drop (p + 1)).take m, (p : Int) + 1 + (m : Int), 0) := by
  unfold Qmf; rw [if_neg (by omega), if_neg (by omega), Int.toNat_natCast, hm, if_neg (by omega)]
theorem Qtc (s : ByteArray) (p m : Nat) (h : p + m <= s.size) : s.extract p (p + m) = ⟨((s.data.toList.drop p).take m).toArray⟩ := by
  apply ByteArray.ext; rw [ByteArray.data_extract]; apply Array.ext'; rw [Array.toList_extract]; simp [List.extract_eq_take_drop]
theorem Qom (k n : Nat) : beB (k + 1) n = UInt8.ofNat (n / 256 ^ k) :: beB k n := by
  apply List.ext_getElem
  · simp [beB]
  · intro i h1 h2
    cases i with
    | zero => simp [beB]
    | succ i =>
      simp only [beB, List.getElem_map, List.getElem_range, List.getElem_cons_succ]; congr 3; omega
theorem div_pow (n j : Nat) : n / 256 ^ j / 256 = n / 256 ^ (j + 1) := by rw [Nat.div_div_eq_div_mul, Nat.pow_succ]
def sh (n j : Nat) : Nat := n / 256 ^ j
theorem sh_zero (n : Nat) : sh n 0 = n := by simp [sh]
theorem sh_succ (n j : Nat) : sh n j / 256 = sh n (j + 1) := div_pow n j
theorem sh_le (n j : Nat) : sh n j <= n := Nat.div_le_self _ _
theorem Qpc (a : Nat) : (UInt8.ofNat a).toNat = a % 256 := by simp
theorem beB_low (k n : Nat) : beB k n = beB k (n % 256 ^ k) := by
  apply List.ext_getElem
  · simp [beB]
  · intro i h1 h2; have hi : i < k := by simpa [beB] using h1
    simp only [beB, List.getElem_map, List.getElem_range]; apply UInt8.toNat_inj.1; rw [Qpc, Qpc]
    have e : 256 ^ k = 256 ^ (k - 1 - i) * (256 * 256 ^ i) := by
      rw [<- Nat.pow_succ', <- Nat.pow_add]; congr 1; omega
    rw [e, Nat.mod_mul_right_div_self, Nat.mod_mul_right_mod]
theorem Qih (a b : List UInt8) : (⟨a.toArray⟩ : ByteArray) ++ ⟨b.toArray⟩ = ⟨(a ++ b).toArray⟩ := by
  rw [ByteArray.mk_append_mk]
theorem Qxd (l : List UInt8) : ByteArray.size ⟨l.toArray⟩ = l.length := by
  show l.toArray.size = l.length; rw [List.size_toArray]
theorem str_cons (j n : Nat) : (⟨#[UInt8.ofNat (sh n j)]⟩ : ByteArray) ++ ⟨(beB j n).toArray⟩ = ⟨(beB (j + 1) n).toArray⟩ := by
  rw [Qom]; exact Qih [UInt8.ofNat (sh n j)] (beB j n)
theorem Qyu (s : ByteArray) (b : List UInt8) : s ++ ⟨b.toArray⟩ = ⟨(s.data.toList ++ b).toArray⟩ := by
  have e : s = ⟨s.data.toList.toArray⟩ := by
    apply ByteArray.ext; simp
  have h := Qih s.data.toList b; rw [<- e] at h; exact h
def Qfc (s : List UInt8) : List UInt8 := UInt8.ofNat s.length :: s
theorem Qrf (s : List UInt8) : (Qfc s).length = 1 + s.length := by simp [Qfc]; omega
theorem Qqa {w w' : World} {base n size : Nat} {e : TypeId} {v : Value} {xs : List Value} (h : w.ownsRow base e size v n xs) (hb : Below w.heap.size w w') : w'.ownsRow base e size v n xs := by
  refine ⟨h.1, ?_⟩
  rcases h.2 with hn | ⟨g, cap, cur, rfl, hbg, hg, rest⟩
  · exact .inl hn
  · exact .inr ⟨g, cap, cur, rfl, hbg, by rw [hb.block g (Array.getElem?_eq_some_iff.1 hg).1]; exact hg, rest⟩
theorem Qwl (s : ByteArray) : (⟨s.data.toList.toArray⟩ : ByteArray) = s := by
  apply ByteArray.ext; simp
theorem Qs (s : ByteArray) : s.data.toList.length = s.size := by simp
theorem Qyg {w : World} {base n : Nat} {e : TypeId} {v : Value} {bs : List UInt8} (h : w.ownsRow base e 1 v n (toV bs)) : ∃ a cap, v = .slice a n cap /\ n <= cap /\ IsB w a n bs := by
  have hl : bs.length = n := by
    have := h.1; rw [Qv] at this; omega
  rcases h.2 with ⟨rfl, rfl⟩ | ⟨g, cap, cur, rfl, _, _, hn, _⟩
  · exact ⟨none, 0, rfl, Nat.le_refl _, ⟨hl, fun h => absurd h (by omega)⟩⟩
  · exact ⟨_, cap, rfl, hn, World.ownsRow.isB h hl⟩
theorem be_cons (b : UInt8) (bs : List UInt8) : be (b :: bs) = b.toNat * 256 ^ bs.length + be bs := by
  have h : ∀ (l : List UInt8) (x : Nat), l.foldl (fun n b => n * 256 + b.toNat) x = x * 256 ^ l.length + be l := by
    intro l
    induction l with
    | nil => intro x; simp [be]
    | cons c l ih =>
      intro x; have e : be (c :: l) = l.foldl (fun n b => n * 256 + b.toNat) (0 * 256 + c.toNat) := rfl; rw [List.foldl_cons, ih, e, ih, List.length_cons, Nat.pow_succ, Nat.add_mul, Nat.zero_mul, Nat.zero_add, Nat.mul_assoc, Nat.mul_comm 256]; omega
  have e : be (b :: bs) = bs.foldl (fun n b => n * 256 + b.toNat) (0 * 256 + b.toNat) := rfl; rw [e, h]; simp
theorem be_beB : ∀ (k n : Nat), n < 256 ^ k -> be (beB k n) = n
  | 0, n, h => by
    have h1 : n = 0 := by simpa using h
    subst h1; rfl
  | k + 1, n, h => by
    have hp : 0 < 256 ^ k := Nat.pow_pos (by omega); have q1 : n / 256 ^ k < 256 := Nat.div_lt_of_lt_mul (by rw [Nat.pow_succ] at h; exact h); rw [Qom, be_cons, Qf, Qpc, Nat.mod_eq_of_lt q1, beB_low k n, be_beB k _ (Nat.mod_lt _ hp), Nat.mul_comm]; exact Nat.div_add_mod n (256 ^ k)
theorem run_mkn {P : Program} (t e : TypeId) (ht : P.underlying t = some (.slice e)) (hinfo : (P.info? e).map (fun i => (i.zero, i.size, i.bytes)) = some (some (.int .u8 0), 1, 1)) (l : Nat) (h : l <= 281474976710656) (w : World) :
    (Instr.makeSlice t (.int .i64 (l : Int)) (.int .i64 (l : Int))).run P w = .ok (.slice (some ⟨w.heap.size, 0, none⟩) l l) (w.alloc (.cells (Qtk l).toArray e)) := by
  have hr := run_mk t e ht hinfo l 0 (by omega) w; simpa using hr
theorem Qpo {w : World} {base n size : Nat} {e : TypeId} {v : Value} {xs : List Value} (h : w.ownsRow base e size v n xs) (hn : 0 < n) : ∃ g cap, v = .slice (some ⟨g, 0, none⟩) n cap /\ base <= g := by
  rcases h.2 with ⟨_, h0⟩ | ⟨g, cap, cur, hv, hb, _⟩
  · omega
  · exact ⟨g, cap, hv, hb⟩
theorem xlc (x y z : Nat) : x ^^^ (y ^^^ z) = y ^^^ (x ^^^ z) := by rw [<- Nat.xor_assoc, Nat.xor_comm x y, Nat.xor_assoc]
theorem xm2 (a b : Nat) : (a ^^^ b) % 2 = (a + b) % 2 := by
  have h : (a ^^^ b) % 2 = 1 ↔ ¬ (a % 2 = 1 ↔ b % 2 = 1) := Nat.xor_mod_two_eq_one; omega
def poly : Nat := 3988292384
def Qft : Nat := 4294967295
theorem poly_lt : poly < 2 ^ 32 := by decide
theorem Qmp : Qft < 2 ^ 32 := by decide
def stp (r : Nat) : Nat := if r % 2 = 1 then r / 2 ^^^ poly else r / 2
theorem stp_lt (r : Nat) (h : r < 2 ^ 32) : stp r < 2 ^ 32 := by
  unfold stp
  split
  · exact Nat.xor_lt_two_pow (by omega) poly_lt
  · omega
theorem stp_xor (a b : Nat) : stp (a ^^^ b) = stp a ^^^ stp b := by
  unfold stp; have h1 : (a ^^^ b) / 2 = a / 2 ^^^ b / 2 := Nat.xor_div_two; have h2 : (a ^^^ b) % 2 = (a + b) % 2 := xm2 a b; rw [h1]; have c1 : ∀ x y z : Nat, x ^^^ (y ^^^ z) = y ^^^ (x ^^^ z) := xlc
  by_cases ha : a % 2 = 1
  · by_cases hb : b % 2 = 1
    · rw [if_pos ha, if_pos hb, if_neg (by omega)]; rw [Nat.xor_assoc, c1 poly, Nat.xor_self, Nat.xor_zero]
    · rw [if_pos ha, if_neg hb, if_pos (by omega)]; rw [Nat.xor_assoc, Nat.xor_assoc, Nat.xor_comm (b / 2)]
  · by_cases hb : b % 2 = 1
    · rw [if_neg ha, if_pos hb, if_pos (by omega), Nat.xor_assoc]
    · rw [if_neg ha, if_neg hb, if_neg (by omega)]
def stps : Nat -> Nat -> Nat
  | 0, r => r
  | n + 1, r => stps n (stp r)
theorem Qsp : ∀ (n r : Nat), r < 2 ^ 32 -> stps n r < 2 ^ 32
  | 0, _, h => h
  | n + 1, r, h => Qsp n (stp r) (stp_lt r h)
theorem stps_xor : ∀ (n a b : Nat), stps n (a ^^^ b) = stps n a ^^^ stps n b
  | 0, _, _ => rfl
  | n + 1, a, b => by rw [stps, stps, stps, stp_xor, stps_xor n]
theorem Qmr : ∀ (m n r : Nat), stps (m + n) r = stps n (stps m r)
  | 0, n, r => by rw [Nat.zero_add]; rfl
  | m + 1, n, r => by
    have e : m + 1 + n = (m + n) + 1 := by omega
    rw [e, stps, stps, Qmr m n]
theorem Qco (n r : Nat) : stps (n + 1) r = stp (stps n r) := by
  rw [Qmr n 1 r]; rfl
def byteS (r : Nat) (b : UInt8) : Nat := stps 8 (r ^^^ b.toNat)
def Qxo (r : Nat) (bs : List UInt8) : Nat := bs.foldl byteS r
def crc (bs : List UInt8) : Nat := Qft ^^^ Qxo Qft bs
def crcMore (s : Nat) (bs : List UInt8) : Nat := Qft ^^^ Qxo (Qft ^^^ s) bs
theorem u8_lt32 (b : UInt8) : b.toNat < 2 ^ 32 := by have := b.toNat_lt; omega
theorem byteS_lt (r : Nat) (b : UInt8) (h : r < 2 ^ 32) : byteS r b < 2 ^ 32 := Qsp 8 _ (Nat.xor_lt_two_pow h (u8_lt32 b))
theorem Qzj : ∀ (bs : List UInt8) (r : Nat), r < 2 ^ 32 -> Qxo r bs < 2 ^ 32
  | [], _, h => h
  | b :: bs, r, h => Qzj bs (byteS r b) (byteS_lt r b h)
theorem Qyr (bs : List UInt8) : crc bs < 2 ^ 32 := Nat.xor_lt_two_pow Qmp (Qzj bs Qft Qmp)
theorem Qto (r : Nat) (bs : List UInt8) (b : UInt8) : Qxo r (bs ++ [b]) = byteS (Qxo r bs) b := by simp [Qxo, List.foldl_append]
theorem xor4 (r s x y : Nat) : (r ^^^ s) ^^^ (x ^^^ y) = (r ^^^ x) ^^^ (s ^^^ y) := by
  rw [Nat.xor_assoc, xlc s, <- Nat.xor_assoc]
def Qvk (s : List UInt8) (j : Nat) : Bool := (s.getD (j / 8) 0).toNat.testBit (j % 8)
def bst (r : Nat) (b : Bool) : Nat := stp (r ^^^ b.toNat)
def Qpf (r : Nat) (f : Nat -> Bool) : Nat -> Nat
  | 0 => r
  | n + 1 => bst (Qpf r f n) (f n)
theorem stp_low (q c : Nat) : stp (q ^^^ c) = stp (q ^^^ (c % 2)) ^^^ (c / 2) := by
  have e1 : (q ^^^ c) / 2 = q / 2 ^^^ c / 2 := Nat.xor_div_two; have e2 : (q ^^^ (c % 2)) / 2 = q / 2 ^^^ (c % 2) / 2 := Nat.xor_div_two; have e3 : (c % 2) / 2 = 0 := by omega
  have p1 := xm2 q c; have p2 := xm2 q (c % 2); unfold stp; rw [e1, e2, e3, Nat.xor_zero]
  by_cases h : (q ^^^ c) % 2 = 1
  · rw [if_pos h, if_pos (by omega), Nat.xor_assoc, Nat.xor_assoc, Nat.xor_comm poly]
  · rw [if_neg h, if_neg (by omega)]
theorem bit_mod (c i : Nat) : (c.testBit i).toNat = c / 2 ^ i % 2 := by
  rw [Nat.testBit_eq_decide_div_mod_eq]; have h : c / 2 ^ i % 2 = 0 ∨ c / 2 ^ i % 2 = 1 := by omega
  rcases h with h | h <;> simp [h]
theorem bits_at (r : Nat) (f : Nat -> Bool) (n c : Nat) : ∀ (i : Nat), (∀ j, j < i -> f (n + j) = c.testBit j) -> stps i (Qpf r f n ^^^ c) = Qpf r f (n + i) ^^^ (c / 2 ^ i)
  | 0, _ => by simp [stps]
  | i + 1, h => by
    rw [Qco, bits_at r f n c i (fun j hj => h j (by omega)), stp_low]; have e : Qpf r f (n + (i + 1)) = bst (Qpf r f (n + i)) (f (n + i)) := rfl; rw [e, h i (by omega), bst, bit_mod, Nat.div_div_eq_div_mul, <- Nat.pow_succ]
theorem Qzm (r : Nat) (s : List UInt8) : ∀ (k : Nat), k <= s.length -> Qxo r (s.take k) = Qpf r (Qvk s) (8 * k)
  | 0, _ => by simp [Qxo, Qpf]
  | k + 1, h => by
    have hk : k < s.length := h; rw [List.take_succ_eq_append_getElem hk, Qto, Qzm r s k (by omega), byteS]
    have hb := bits_at r (Qvk s) (8 * k) s[k].toNat 8 (fun j hj => by
      have e1 : (8 * k + j) / 8 = k := by omega
      have e2 : (8 * k + j) % 8 = j := by omega
      simp [Qvk, e1, e2, List.getD, List.getElem?_eq_getElem hk])
    have e3 : s[k].toNat / 2 ^ 8 = 0 := by have := s[k].toNat_lt; omega
    rw [e3, Nat.xor_zero] at hb; exact hb
theorem Qav (r : Nat) (s : List UInt8) : Qxo r s = Qpf r (Qvk s) (8 * s.length) := by
  have h := Qzm r s s.length (Nat.le_refl _); rwa [List.take_length] at h
theorem bool_xor (a b : Bool) : (a ^^ b).toNat = a.toNat ^^^ b.toNat := by cases a <;> cases b <;> rfl
theorem bruns_xor (r s : Nat) (f g : Nat -> Bool) : ∀ (n : Nat), Qpf (r ^^^ s) (fun j => f j ^^ g j) n = Qpf r f n ^^^ Qpf s g n
  | 0 => rfl
  | n + 1 => by rw [Qpf, Qpf, Qpf, bruns_xor r s f g n, bst, bst, bst, bool_xor, xor4, stp_xor]
def leN : List UInt8 -> Nat
  | [] => 0
  | b :: t => b.toNat + 256 * leN t
def leB (x : Nat) : List UInt8 := [UInt8.ofNat x, UInt8.ofNat (x / 256), UInt8.ofNat (x / 65536), UInt8.ofNat (x / 16777216)]
theorem Qys (x : Nat) : (leB x).length = 4 := rfl
theorem leN_leB (x : Nat) (h : x < 2 ^ 32) : leN (leB x) = x := by
  simp only [leB, leN, UInt8.toNat_ofNat']; omega
theorem leN_lt : ∀ (t : List UInt8), leN t < 256 ^ t.length
  | [] => by simp [leN]
  | b :: t => by
    have := leN_lt t; have hb := b.toNat_lt; rw [List.length_cons, Nat.pow_succ, leN]; omega
theorem bst_if (q : Nat) (b : Bool) : bst q b = if q % 2 = b.toNat then q / 2 else q / 2 ^^^ poly := by
  have e1 : (q ^^^ b.toNat) / 2 = q / 2 ^^^ b.toNat / 2 := Nat.xor_div_two; have e2 : b.toNat / 2 = 0 := by cases b <;> rfl
  have e3 := xm2 q b.toNat; have e4 : b.toNat < 2 := Bool.toNat_lt b; unfold bst stp; rw [e1, e2, Nat.xor_zero]
  by_cases h : q % 2 = b.toNat
  · rw [if_pos h, if_neg (by omega)]
  · rw [if_neg h, if_pos (by omega)]
theorem Qlr (r : Nat) (f : Nat -> Bool) (h : r < 2 ^ 32) : ∀ (n : Nat), Qpf r f n < 2 ^ 32
  | 0 => h
  | n + 1 => by
    rw [Qpf, bst]; refine stp_lt _ (Nat.xor_lt_two_pow (Qlr r f h n) ?_); have := Bool.toNat_lt (f n); omega
theorem ones_sub (x : Nat) (h : x < 2 ^ 32) : 4294967295 - x = Qft ^^^ x := by
  have e1 : 4294967295 - x = 2 ^ 32 - (x + 1) := by omega
  have e2 : Qft = 2 ^ 32 - (0 + 1) := rfl; rw [e1, e2]; apply Nat.eq_of_testBit_eq; intro i; rw [Nat.testBit_xor, Nat.testBit_two_pow_sub_succ h, Nat.testBit_two_pow_sub_succ (by omega)]
  by_cases hi : i < 32
  · simp [hi]
  · have hb : x.testBit i = false := Nat.testBit_lt_two_pow (Nat.lt_of_lt_of_le h (Nat.pow_le_pow_right (by omega) (by omega))); simp [hi, hb]
theorem ones_subI (x : Nat) (h : x < 2 ^ 32) : (4294967295 : Int) - (x : Int) = ((Qft ^^^ x : Nat) : Int) := by
  rw [<- ones_sub x h]; omega
theorem leB_leN : ∀ (t : List UInt8), t.length = 4 -> leB (leN t) = t
  | [a, b, c, d], _ => by
    have ha := a.toNat_lt; have hb := b.toNat_lt; have hc := c.toNat_lt; have hd := d.toNat_lt
    have e : ∀ (x : UInt8) (n : Nat), n % 256 = x.toNat -> UInt8.ofNat n = x := by
      intro x n h; apply UInt8.toNat_inj.1; simp [h]
    simp only [leN, leB]; rw [e a _ (by omega), e b _ (by omega), e c _ (by omega), e d _ (by omega)]
  | [], h => by simp at h
  | [_], h => by simp at h
  | [_, _], h => by simp at h
  | [_, _, _], h => by simp at h
  | _ :: _ :: _ :: _ :: _ :: _, h => by simp at h
def Qpb (bs : List UInt8) : List UInt8 × Int :=
  if bs.length < 4 then ([], 4)
  else if leN (bs.drop (bs.length - 4)) = crc (bs.take (bs.length - 4)) then (bs.take (bs.length - 4), 0)
  else ([], 3)
theorem Qte (bs : List UInt8) (h : bs.length < 4) : Qpb bs = ([], 4) := by unfold Qpb; rw [if_pos h]
theorem Qsh (bs : List UInt8) (h : ¬ bs.length < 4) (h2 : leN (bs.drop (bs.length - 4)) = crc (bs.take (bs.length - 4))) : Qpb bs = (bs.take (bs.length - 4), 0) := by unfold Qpb; rw [if_neg h, if_pos h2]
theorem Qxi (bs : List UInt8) (h : ¬ bs.length < 4) (h2 : ¬ leN (bs.drop (bs.length - 4)) = crc (bs.take (bs.length - 4))) : Qpb bs = ([], 3) := by unfold Qpb; rw [if_neg h, if_neg h2]
theorem Qsg (bs : List UInt8) (h : ¬ bs.length < 4) : bs.take (bs.length - 4) ++ leB (crc (bs.take (bs.length - 4))) = bs ↔ leN (bs.drop (bs.length - 4)) = crc (bs.take (bs.length - 4)) := by
  have hd : (bs.drop (bs.length - 4)).length = 4 := by simp; omega
  constructor
  · intro e; have e1 := List.take_append_drop (bs.length - 4) bs; have e2 : leB (crc (bs.take (bs.length - 4))) = bs.drop (bs.length - 4) := List.append_cancel_left (e.trans e1.symm); rw [<- e2, leN_leB _ (Qyr _)]
  · intro e; rw [<- e, leB_leN _ hd, List.take_append_drop]
theorem Qqs (x j : Nat) (h : j < 4) : (leB x).take (j + 1) = (leB x).take j ++ [UInt8.ofNat (x / 256 ^ j)] := by
  match j, h with
  | 0, _ => simp [leB]
  | 1, _ => simp [leB]
  | 2, _ => simp [leB]
  | 3, _ => simp [leB]
theorem Qdl : ∀ (a b : List UInt8), leN (a ++ b) = leN a + 256 ^ a.length * leN b
  | [], b => by simp [leN]
  | x :: a, b => by
    have e : leN (x :: a ++ b) = x.toNat + 256 * leN (a ++ b) := rfl; rw [e, Qdl a b, leN, List.length_cons, Nat.pow_succ, Nat.mul_comm (256 ^ a.length) 256, Nat.mul_add, Nat.mul_assoc, Nat.add_assoc]
theorem leN_take (bs : List UInt8) (j : Nat) (h : j < bs.length) : leN (bs.take (j + 1)) = leN (bs.take j) + (bs.getD j 0).toNat * 256 ^ j := by
  rw [List.take_succ_eq_append_getElem h, Qdl, List.length_take, Nat.min_eq_left (by omega), Nat.mul_comm]; simp [List.getD, List.getElem?_eq_getElem h, leN]
def Qxe : Nat := 4611686018427387904
theorem mk_data (s : ByteArray) : (⟨s.data.toList.toArray⟩ : ByteArray) = s := by
  obtain ⟨⟨l⟩⟩ := s; rfl
theorem data_inj {s t : ByteArray} : s.data.toList = t.data.toList ↔ s = t :=
  ⟨fun h => by rw [<- mk_data s, h, mk_data], fun h => by rw [h]⟩
structure Ch where
  k : Int
  pg : Int
  sl : Int
  o : ByteArray
  n : ByteArray
def Ch.zero : Ch := ⟨0, 0, 0, ⟨#[]⟩, ⟨#[]⟩⟩
def chA (c : Ch) : Array Value := #[.int .i64 c.k, .int .i64 c.pg, .int .i64 c.sl, .string c.o, .string c.n]
abbrev Ch.kindOk (c : Ch) : Prop := c.k = 1 /\ c.o.size = 0 ∨ c.k = 2 ∨ c.k = 3 /\ c.n.size = 0
abbrev Ch.right (c : Ch) : Prop := (0 <= c.pg /\ c.pg <= 31 /\ 0 <= c.sl /\ c.sl <= 7 /\ c.o.size <= 20 /\ c.n.size <= 20) /\ c.kindOk
theorem size0 (s : ByteArray) (h : s.size = 0) : s = ⟨#[]⟩ := by
  obtain ⟨⟨l⟩⟩ := s; have : l = [] := List.eq_nil_of_length_eq_zero h; subst this; rfl
structure Tx where
  t : Int
  s : Int
  f : Nat
  l : Nat
  n : Nat
structure Di where
  p : Int
  r : Nat
def Tx.zero : Tx := ⟨0, 0, 0, 0, 0⟩
def Di.zero : Di := ⟨0, 0⟩
structure Rec where
  k : Int
  l : Nat
  t : Int
  p : Nat
  c : Ch
  n : Nat
  s : Int
  b : Nat
  ts : List Tx
  ds : List Di
def Rec.zero : Rec := ⟨0, 0, 0, 0, Ch.zero, 0, 0, 0, [], []⟩
def txOk (l : Nat) (x : Tx) : Prop := 1 <= x.t /\ x.t <= 1048575 /\ 1 <= x.s /\ x.s <= 3 /\ 1 <= x.f /\ x.f <= x.l /\ x.l < l /\ x.n <= x.l
def diOk (l : Nat) (d : Di) : Prop := 0 <= d.p /\ d.p <= 31 /\ 1 <= d.r /\ d.r < l
def txAt (l : Nat) (ts : List Tx) (i : Nat) : Prop := txOk l (ts.getD i Tx.zero) /\ (0 < i -> (ts.getD (i - 1) Tx.zero).t < (ts.getD i Tx.zero).t)
def Qfv (l : Nat) (ds : List Di) (i : Nat) : Prop := diOk l (ds.getD i Di.zero) /\ (0 < i -> (ds.getD (i - 1) Di.zero).p < (ds.getD i Di.zero).p)
def Rec.rows (r : Rec) : Prop := r.ts.length <= 16 /\ r.ds.length <= 32 /\ (∀ i, i < r.ts.length -> txAt r.l r.ts i) /\ (∀ i, i < r.ds.length -> Qfv r.l r.ds i) /\ 1 <= r.b /\ r.b < r.l
structure Rec.right (r : Rec) : Prop where
  k1 : 1 <= r.k
  k8 : r.k <= 8
  l1 : 1 <= r.l
  lm : r.l <= Qxe
  own : r.k <= 6 -> 1 <= r.t /\ r.t <= 1048575 /\ r.p < r.l
  none : 6 < r.k -> r.t = 0 /\ r.p = 0
  ch : r.k <= 2 -> r.c.right
  noch : 2 < r.k -> r.c = Ch.zero
  next : r.k = 2 -> r.n < r.l
  nonext : r.k ≠ 2 -> r.n = 0
  save : r.k = 6 -> 1 <= r.s /\ r.s <= 8
  nosave : r.k ≠ 6 -> r.s = 0
  check : r.k = 8 -> r.rows
  nocheck : r.k ≠ 8 -> r.b = 0 /\ r.ts = [] /\ r.ds = []
def txOkD (l : Nat) (x : Tx) : Decidable (txOk l x) := inferInstanceAs (Decidable (1 <= x.t /\ x.t <= 1048575 /\ 1 <= x.s /\ x.s <= 3 /\ 1 <= x.f /\ x.f <= x.l /\ x.l < l /\ x.n <= x.l))
def diOkD (l : Nat) (d : Di) : Decidable (diOk l d) := inferInstanceAs (Decidable (0 <= d.p /\ d.p <= 31 /\ 1 <= d.r /\ d.r < l))
def txAtD (l : Nat) (ts : List Tx) (i : Nat) : Decidable (txAt l ts i) :=
  have := txOkD l (ts.getD i Tx.zero)
  inferInstanceAs (Decidable (txOk l (ts.getD i Tx.zero) /\ (0 < i -> (ts.getD (i - 1) Tx.zero).t < (ts.getD i Tx.zero).t)))
def diAtD (l : Nat) (ds : List Di) (i : Nat) : Decidable (Qfv l ds i) :=
  have := diOkD l (ds.getD i Di.zero)
  inferInstanceAs (Decidable (diOk l (ds.getD i Di.zero) /\ (0 < i -> (ds.getD (i - 1) Di.zero).p < (ds.getD i Di.zero).p)))
def Rec.rowsD (r : Rec) : Decidable r.rows :=
  have : ∀ i, Decidable (txAt r.l r.ts i) := fun i => txAtD r.l r.ts i
  have : ∀ i, Decidable (Qfv r.l r.ds i) := fun i => diAtD r.l r.ds i
  inferInstanceAs (Decidable (r.ts.length <= 16 /\ r.ds.length <= 32 /\ (∀ i, i < r.ts.length -> txAt r.l r.ts i) /\ (∀ i, i < r.ds.length -> Qfv r.l r.ds i) /\ 1 <= r.b /\ r.b < r.l))
theorem Qxj (c : Ch) : (c.k = 0 /\ c.pg = 0 /\ c.sl = 0 /\ c.o.data.toList = [] /\ c.n.data.toList = []) ↔ c = Ch.zero := by
  constructor
  · rintro ⟨h1, h2, h3, h4, h5⟩; obtain ⟨k, pg, sl, ⟨o⟩, ⟨n⟩⟩ := c; simp only at h1 h2 h3 h4 h5; subst h1 h2 h3; have e4 : o = #[] := by simpa using h4
    have e5 : n = #[] := by simpa using h5
    subst e4 e5; rfl
  · rintro rfl; exact ⟨rfl, rfl, rfl, rfl, rfl⟩
theorem Qlm (r : Rec) : ((1 <= r.k /\ r.k <= 8 /\ 1 <= r.l /\ r.l <= Qxe) /\ (r.k <= 6 -> 1 <= r.t /\ r.t <= 1048575 /\ r.p < r.l) /\ (6 < r.k -> r.t = 0 /\ r.p = 0) /\ (r.k <= 2 -> r.c.right) /\ (2 < r.k -> (r.c.k = 0 /\ r.c.pg = 0 /\ r.c.sl = 0 /\ r.c.o.data.toList = [] /\ r.c.n.data.toList = [])) /\ (r.k = 2 -> r.n < r.l) /\ (r.k ≠ 2 -> r.n = 0) /\ (r.k = 6 -> 1 <= r.s /\ r.s <= 8) /\ (r.k ≠ 6 -> r.s = 0) /\ (r.k = 8 -> r.rows) /\ (r.k ≠ 8 -> r.b = 0 /\ r.ts.length = 0 /\ r.ds.length = 0)) ↔ r.right := by
  constructor
  · rintro ⟨⟨h1, h2, h3, h4⟩, h5, h6, h7, h8, h9, h10, h11, h12, h13, h14⟩; exact ⟨h1, h2, h3, h4, h5, h6, h7, fun h => (Qxj _).1 (h8 h), h9, h10, h11, h12, h13, fun h => ⟨(h14 h).1, List.eq_nil_of_length_eq_zero (h14 h).2.1, List.eq_nil_of_length_eq_zero (h14 h).2.2⟩⟩
  · intro h; exact ⟨⟨h.k1, h.k8, h.l1, h.lm⟩, h.own, h.none, h.ch, fun q => (Qxj _).2 (h.noch q), h.next, h.nonext, h.save, h.nosave, h.check, fun q => ⟨(h.nocheck q).1, by rw [(h.nocheck q).2.1]; rfl, by rw [(h.nocheck q).2.2]; rfl⟩⟩
def Rec.rightD (r : Rec) : Decidable r.right :=
  have := r.rowsD
  have : Decidable (r.k <= 6 -> 1 <= r.t /\ r.t <= 1048575 /\ r.p < r.l) := inferInstance
  have : Decidable (6 < r.k -> r.t = 0 /\ r.p = 0) := inferInstance
  have : Decidable (r.k <= 2 -> r.c.right) := inferInstance
  have : Decidable (2 < r.k -> (r.c.k = 0 /\ r.c.pg = 0 /\ r.c.sl = 0 /\ r.c.o.data.toList = [] /\ r.c.n.data.toList = [])) := inferInstance
  have : Decidable (r.k = 6 -> 1 <= r.s /\ r.s <= 8) := inferInstance
  have : Decidable (r.k = 8 -> r.rows) := inferInstance
  have : Decidable (r.k ≠ 8 -> r.b = 0 /\ r.ts.length = 0 /\ r.ds.length = 0) := inferInstance
  decidable_of_iff _ (Qlm r)
def Rec.rightB (r : Rec) : Bool := @decide r.right r.rightD
theorem Qta {r : Rec} (h : r.right) : r.rightB = true := by
  unfold Rec.rightB; exact @decide_eq_true _ r.rightD h
theorem Qwb {r : Rec} (h : ¬ r.right) : r.rightB = false := by
  unfold Rec.rightB; exact @decide_eq_false _ r.rightD h
theorem Qwh {r : Rec} : r.rightB = true ↔ r.right := by
  constructor
  · intro h
    by_cases hr : r.right
    · exact hr
    · rw [Qwb hr] at h; cases h
  · exact Qta
def chB (c : Ch) : List UInt8 := beB 1 c.k.toNat ++ (beB 2 c.pg.toNat ++ (beB 1 c.sl.toNat ++ (Qfc c.o.data.toList ++ Qfc c.n.data.toList)))
def txB (x : Tx) : List UInt8 := beB 4 x.t.toNat ++ (beB 1 x.s.toNat ++ (beB 8 x.f ++ (beB 8 x.l ++ beB 8 x.n)))
def diB (d : Di) : List UInt8 := beB 2 d.p.toNat ++ beB 8 d.r
def Qwf (ts : List Tx) : List UInt8 := ts.flatMap txB
def Qah (ds : List Di) : List UInt8 := ds.flatMap diB
def Qle (b : Nat) (ts : List Tx) (ds : List Di) : List UInt8 := beB 8 b ++ (beB 1 ts.length ++ (Qwf ts ++ (beB 1 ds.length ++ Qah ds)))
def Qme (q : Prop) [Decidable q] (b : List UInt8) : List UInt8 := if q then b else []
def Qyb (r : Rec) : List UInt8 :=
  beB 1 r.k.toNat ++ (beB 8 r.l ++ (beB 4 r.t.toNat ++ (beB 8 r.p ++ (Qme (r.k <= 2) (chB r.c) ++ (Qme (r.k = 2) (beB 8 r.n) ++ (Qme (r.k = 6) (beB 1 r.s.toNat) ++ Qme (r.k = 8) (Qle r.b r.ts r.ds)))))))
structure St where
  l : List UInt8
  e : Int
def Qxa {α β : Type} (p : St -> α × St) (q : α -> St -> β × St) (s : St) : β × St := q (p s).1 (p s).2
def Qoc {α : Type} (a : α) (s : St) : α × St := (a, s)
def Qw (w : Nat) (s : St) : Nat × St := if s.e ≠ 0 then (0, s) else if w <= s.l.length then (be (s.l.take w), ⟨s.l.drop w, 0⟩) else (0, ⟨[], 4⟩)
def Qmb (s : St) : ByteArray × St :=
  if s.e ≠ 0 then (⟨#[]⟩, s) else match s.l with
    | [] => (⟨#[]⟩, ⟨[], 4⟩)
    | b :: l => if b.toNat <= l.length then (⟨(l.take b.toNat).toArray⟩, ⟨l.drop b.toNat, 0⟩) else (⟨#[]⟩, ⟨[], 4⟩)
def pIn (lo hi : Nat) (s : St) : Nat × St := if (Qw 1 s).2.e = 0 /\ ((Qw 1 s).1 < lo ∨ hi < (Qw 1 s).1) then ((Qw 1 s).1, ⟨(Qw 1 s).2.l, 2⟩) else Qw 1 s
def pCh : St -> Ch × St := Qxa (Qw 1) fun k => Qxa (Qw 2) fun pg => Qxa (Qw 1) fun sl => Qxa Qmb fun o => Qxa Qmb fun n => Qoc ⟨k, pg, sl, o, n⟩
def pTx : St -> Tx × St := Qxa (Qw 4) fun t => Qxa (Qw 1) fun s => Qxa (Qw 8) fun f => Qxa (Qw 8) fun l => Qxa (Qw 8) fun n => Qoc ⟨t, s, f, l, n⟩
def pDi : St -> Di × St := Qxa (Qw 2) fun p => Qxa (Qw 8) fun r => Qoc ⟨p, r⟩
def Qla {α : Type} (p : St -> α × St) : Nat -> St -> List α × St
  | 0, s => ([], s)
  | n + 1, s => if s.e ≠ 0 then ([], s) else ((p s).1 :: (Qla p n (p s).2).1, (Qla p n (p s).2).2)
def Qld : St -> (Nat × List Tx × List Di) × St := Qxa (Qw 8) fun b => Qxa (pIn 0 16) fun n => Qxa (Qla pTx n) fun ts => Qxa (pIn 0 32) fun m => Qxa (Qla pDi m) fun ds => Qoc (b, ts, ds)
def Qaf {α : Type} (q : Prop) [Decidable q] (z : α) (p : St -> α × St) : St -> α × St := if q then p else Qoc z
def Qbb : St -> Rec × St :=
  Qxa (pIn 1 8) fun k => Qxa (Qw 8) fun l => Qxa (Qw 4) fun t => Qxa (Qw 8) fun p => Qxa (Qaf (k <= 2) Ch.zero pCh) fun c => Qxa (Qaf (k = 2) 0 (Qw 8)) fun n => Qxa (Qaf (k = 6) 0 (Qw 1)) fun s =>
    Qxa (Qaf (k = 8) (0, [], []) Qld) fun x => Qoc ⟨k, l, t, p, c, n, s, x.1, x.2.1, x.2.2⟩
def Qdc (b : List UInt8) : Rec × Int :=
  if (Qbb ⟨b, 0⟩).2.e ≠ 0 then (Rec.zero, (Qbb ⟨b, 0⟩).2.e) else if (Qbb ⟨b, 0⟩).2.l ≠ [] ∨ (Qbb ⟨b, 0⟩).1.rightB = false then (Rec.zero, 2) else ((Qbb ⟨b, 0⟩).1, 0)
def Qka {α : Type} (p : St -> α × St) (a : α) (bs : List UInt8) : Prop := ∀ l, p ⟨bs ++ l, 0⟩ = (a, ⟨l, 0⟩)
theorem Qka.bind {α β : Type} {p : St -> α × St} {q : α -> St -> β × St} {a : α} {c : β} {bs cs : List UInt8} (h : Qka p a bs) (g : Qka (q a) c cs) : Qka (Qxa p q) c (bs ++ cs) := fun l => by
  unfold Qxa; rw [List.append_assoc, h (cs ++ l)]; exact g l
theorem Qka.pure {α : Type} (a : α) : Qka (Qoc a) a [] := fun l => rfl
theorem Qka.last {α β : Type} {p : St -> α × St} {q : α -> St -> β × St} {a : α} {c : β} {bs : List UInt8} (h : Qka p a bs) (g : Qka (q a) c []) : Qka (Qxa p q) c bs := by
  have := h.bind g; rwa [List.append_nil] at this
theorem Qka.num (w n : Nat) (h : n < 256 ^ w) : Qka (Qw w) n (beB w n) := fun l => by
  unfold Qw; have hl := Qf w n; rw [if_neg (by simp), if_pos (by simp only [List.length_append]; omega)]; simp only; rw [List.take_left' hl, List.drop_left' hl, be_beB w n h]
theorem Qka.text (s : ByteArray) (h : s.size <= 255) : Qka Qmb s (Qfc s.data.toList) := fun l => by
  unfold Qmb Qfc
  have hz : (UInt8.ofNat s.size).toNat = s.size := by
    rw [Qpc]; omega
  rw [if_neg (by simp)]; simp only [List.cons_append, Qs, hz, List.length_append]; rw [if_pos (by omega), List.take_left' (Qs s), List.drop_left' (Qs s), Qwl]
theorem Qka.in (lo hi n : Nat) (h : n < 256) (h1 : lo <= n) (h2 : n <= hi) : Qka (pIn lo hi) n (beB 1 n) := fun l => by
  unfold pIn; rw [Qka.num 1 n (by omega) l, if_neg (by simp only; omega)]
theorem Qka.some {α : Type} {p : St -> α × St} {f : α -> List UInt8} : ∀ (xs : List α), (∀ x ∈ xs, Qka p x (f x)) -> Qka (Qla p xs.length) xs (xs.flatMap f)
  | [], _ => fun l => rfl
  | x :: xs, h => fun l => by
    have h1 := h x (by simp); have h2 := Qka.some xs (fun y hy => h y (by simp [hy])); show Qla p (xs.length + 1) ⟨(f x ++ xs.flatMap f) ++ l, 0⟩ = _; unfold Qla; rw [if_neg (by simp), List.append_assoc, h1 (xs.flatMap f ++ l), h2 l]
theorem Qka.may {α : Type} {q : Prop} [Decidable q] {z a : α} {p : St -> α × St} {bs : List UInt8} (h1 : q -> Qka p a bs) (h2 : ¬ q -> a = z) : Qka (Qaf q z p) a (Qme q bs) := by
  unfold Qaf Qme
  by_cases h : q
  · rw [if_pos h, if_pos h]; exact h1 h
  · rw [if_neg h, if_neg h, h2 h]; exact Qka.pure z
theorem Qka.same {α : Type} {a b : α} (h : b = a) : Qka (Qoc a) b [] := by
  subst h; exact Qka.pure _
theorem Qdd (k : Int) (h : 0 <= k) : ((k.toNat : Nat) : Int) = k := Int.toNat_of_nonneg h
theorem Qka.ch (c : Ch) (h : c.right) : Qka pCh c (chB c) := by
  obtain ⟨h1, h2⟩ := h; have hk : 1 <= c.k /\ c.k <= 3 := by rcases h2 with h | h | h <;> omega
  have e : c = ⟨(c.k.toNat : Nat), (c.pg.toNat : Nat), (c.sl.toNat : Nat), c.o, c.n⟩ := by
    rw [Qdd _ (by omega), Qdd _ (by omega), Qdd _ (by omega)]
  unfold pCh chB; refine (Qka.num 1 _ (by omega)).bind ((Qka.num 2 _ (by omega)).bind ((Qka.num 1 _ (by omega)).bind ((Qka.text c.o (by omega)).bind ((Qka.text c.n (by omega)).last ?_)))); exact Qka.same e
theorem Qka.tx (l : Nat) (x : Tx) (hl : l <= Qxe) (h : txOk l x) : Qka pTx x (txB x) := by
  obtain ⟨h1, h2, h3, h4, h5, h6, h7, h8⟩ := h
  have e : x = ⟨(x.t.toNat : Nat), (x.s.toNat : Nat), x.f, x.l, x.n⟩ := by
    rw [Qdd _ (by omega), Qdd _ (by omega)]
  unfold Qxe at hl; unfold pTx txB; refine (Qka.num 4 _ (by omega)).bind ((Qka.num 1 _ (by omega)).bind ((Qka.num 8 _ (by omega)).bind ((Qka.num 8 _ (by omega)).bind ((Qka.num 8 _ (by omega)).last ?_)))); exact Qka.same e
theorem Qka.di (l : Nat) (d : Di) (hl : l <= Qxe) (h : diOk l d) : Qka pDi d (diB d) := by
  obtain ⟨h1, h2, h3, h4⟩ := h; have e : d = ⟨(d.p.toNat : Nat), d.r⟩ := by rw [Qdd _ (by omega)]
  unfold Qxe at hl; unfold pDi diB; refine (Qka.num 2 _ (by omega)).bind ((Qka.num 8 _ (by omega)).last ?_); exact Qka.same e
theorem Qxr {α : Type} (xs : List α) (z x : α) (h : x ∈ xs) : ∃ i, i < xs.length /\ xs.getD i z = x := by
  obtain ⟨i, hi, he⟩ := List.mem_iff_getElem.1 h; exact ⟨i, hi, by simp [List.getD, hi, he]⟩
theorem Qka.check (r : Rec) (hl : r.l <= Qxe) (h : r.rows) : Qka Qld (r.b, r.ts, r.ds) (Qle r.b r.ts r.ds) := by
  obtain ⟨h1, h2, h3, h4, h5, h6⟩ := h
  have g1 : ∀ x ∈ r.ts, Qka pTx x (txB x) := fun x hx => by
    obtain ⟨i, hi, rfl⟩ := Qxr r.ts Tx.zero x hx; exact Qka.tx r.l _ hl (h3 i hi).1
  have g2 : ∀ x ∈ r.ds, Qka pDi x (diB x) := fun x hx => by
    obtain ⟨i, hi, rfl⟩ := Qxr r.ds Di.zero x hx; exact Qka.di r.l _ hl (h4 i hi).1
  unfold Qxe at hl; unfold Qld Qle; exact (Qka.num 8 _ (by omega)).bind ((Qka.in 0 16 _ (by omega) (by omega) h1).bind ((Qka.some r.ts g1).bind ((Qka.in 0 32 _ (by omega) (by omega) h2).bind ((Qka.some r.ds g2).last (Qka.pure _)))))
theorem Qka.rec (r : Rec) (h : r.right) : Qka Qbb r (Qyb r) := by
  have hk1 := h.k1; have hk8 := h.k8
  have ht : 0 <= r.t /\ r.t < 4294967296 := by
    by_cases hk : r.k <= 6
    · have := h.own hk; omega
    · have := h.none (by omega); omega
  have hp : r.p < 256 ^ 8 := by
    have hl := h.lm; unfold Qxe at hl
    by_cases hk : r.k <= 6
    · have := h.own hk; omega
    · have := h.none (by omega); omega
  have hll := h.lm
  have hs : 0 <= r.s /\ r.s < 256 := by
    by_cases hk : r.k = 6
    · have := h.save hk; omega
    · have := h.nosave hk; omega
  have hn : r.n < 256 ^ 8 := by
    unfold Qxe at hll
    by_cases hk : r.k = 2
    · have := h.next hk; omega
    · have := h.nonext hk; omega
  have e : r = ⟨(r.k.toNat : Nat), r.l, (r.t.toNat : Nat), r.p, r.c, r.n, (r.s.toNat : Nat), (r.b, r.ts, r.ds).1, (r.b, r.ts, r.ds).2.1, (r.b, r.ts, r.ds).2.2⟩ := by
    rw [Qdd _ (by omega), Qdd _ ht.1, Qdd _ hs.1]
  have ek := Qdd r.k (by omega)
  have m1 : Qme (r.k <= 2) (chB r.c) = Qme (r.k.toNat <= 2) (chB r.c) := by
    unfold Qme
    by_cases hk : r.k <= 2
    · rw [if_pos hk, if_pos (by omega)]
    · rw [if_neg hk, if_neg (by omega)]
  have m2 : Qme (r.k = 2) (beB 8 r.n) = Qme (r.k.toNat = 2) (beB 8 r.n) := by
    unfold Qme
    by_cases hk : r.k = 2
    · rw [if_pos hk, if_pos (by omega)]
    · rw [if_neg hk, if_neg (by omega)]
  have m3 : Qme (r.k = 6) (beB 1 r.s.toNat) = Qme (r.k.toNat = 6) (beB 1 r.s.toNat) := by
    unfold Qme
    by_cases hk : r.k = 6
    · rw [if_pos hk, if_pos (by omega)]
    · rw [if_neg hk, if_neg (by omega)]
  have m4 : Qme (r.k = 8) (Qle r.b r.ts r.ds) = Qme (r.k.toNat = 8) (Qle r.b r.ts r.ds) := by
    unfold Qme
    by_cases hk : r.k = 8
    · rw [if_pos hk, if_pos (by omega)]
    · rw [if_neg hk, if_neg (by omega)]
  unfold Qbb Qyb; rw [m1, m2, m3, m4]
  refine (Qka.in 1 8 _ (by omega) (by omega) (by omega)).bind ((Qka.num 8 r.l (by unfold Qxe at hll; omega)).bind ((Qka.num 4 _ (by omega)).bind ((Qka.num 8 r.p hp).bind ((Qka.may (a := r.c) (fun hk => Qka.ch r.c (h.ch (by omega))) (fun hk => h.noch (by omega))).bind ((Qka.may (a := r.n) (fun hk => Qka.num 8 r.n hn) (fun hk => h.nonext (by omega))).bind
    ((Qka.may (a := r.s.toNat) (fun hk => Qka.num 1 _ (by omega)) (fun hk => by have := h.nosave (by omega); omega)).bind ((Qka.may (a := (r.b, r.ts, r.ds)) (fun hk => Qka.check r hll (h.check (by omega))) (fun hk => by obtain ⟨a1, a2, a3⟩ := h.nocheck (by omega); rw [a1, a2, a3])).last ?_)))))))
  exact Qka.same e
theorem dec_enc (r : Rec) (h : r.right) : Qdc (Qyb r) = (r, 0) := by
  have h1 := Qka.rec r h []; rw [List.append_nil] at h1; unfold Qdc; rw [h1, if_neg (by simp), if_neg]; simp [Qta h]
theorem beB_be : ∀ (bs : List UInt8), beB bs.length (be bs) = bs
  | [] => rfl
  | b :: bs => by
    have h := be_lt bs; have hp : 0 < 256 ^ bs.length := Nat.pow_pos (by omega); rw [be_cons, List.length_cons, Qom, beB_low]
    have e1 : (b.toNat * 256 ^ bs.length + be bs) / 256 ^ bs.length = b.toNat := by
      rw [Nat.mul_comm, Nat.mul_add_div hp, Nat.div_eq_of_lt h, Nat.add_zero]
    have e2 : (b.toNat * 256 ^ bs.length + be bs) % 256 ^ bs.length = be bs := by
      rw [Nat.mul_comm, Nat.mul_add_mod, Nat.mod_eq_of_lt h]
    rw [e1, e2, beB_be bs]; congr 1; simp
def Qhb {α : Type} (p : St -> α × St) (f : α -> List UInt8) : Prop := ∀ s, (p s).2.e = 0 -> s.e = 0 /\ s.l = f (p s).1 ++ (p s).2.l
theorem Qhb.num (w : Nat) : ∀ s, (Qw w s).2.e = 0 -> s.e = 0 /\ s.l = beB w (Qw w s).1 ++ (Qw w s).2.l /\ (Qw w s).1 < 256 ^ w := by
  intro s; unfold Qw
  by_cases he : s.e = 0
  · rw [if_neg (by simpa using he)]
    by_cases hw : w <= s.l.length
    · rw [if_pos hw]; intro _; have hl : (s.l.take w).length = w := by rw [List.length_take]; omega
      refine ⟨he, ?_, ?_⟩
      · show s.l = beB w (be (s.l.take w)) ++ s.l.drop w; have h := beB_be (s.l.take w); rw [hl] at h; rw [h, List.take_append_drop]
      · have h := be_lt (s.l.take w); rwa [hl] at h
    · rw [if_neg hw]; intro h; cases h
  · rw [if_pos he]; intro h; exact absurd h he
theorem Qhb.text : ∀ s, (Qmb s).2.e = 0 -> s.e = 0 /\ s.l = Qfc (Qmb s).1.data.toList ++ (Qmb s).2.l := by
  intro s; unfold Qmb
  by_cases he : s.e = 0
  · rw [if_neg (by simpa using he)]; obtain ⟨l, e⟩ := s
    cases l with
    | nil => intro h; cases h
    | cons b l =>
      simp only
      by_cases hb : b.toNat <= l.length
      · rw [if_pos hb]; intro _; refine ⟨he, ?_⟩; show b :: l = Qfc (l.take b.toNat) ++ l.drop b.toNat; unfold Qfc; have hl : (l.take b.toNat).length = b.toNat := by rw [List.length_take]; omega
        rw [hl, List.cons_append, List.take_append_drop]; congr 1; simp
      · rw [if_neg hb]; intro h; cases h
  · rw [if_pos he]; intro h; exact absurd h he
theorem Qhb.in (lo hi : Nat) : ∀ s, (pIn lo hi s).2.e = 0 -> s.e = 0 /\ s.l = beB 1 (pIn lo hi s).1 ++ (pIn lo hi s).2.l /\ lo <= (pIn lo hi s).1 /\ (pIn lo hi s).1 <= hi := by
  intro s; unfold pIn
  by_cases h : (Qw 1 s).2.e = 0 /\ ((Qw 1 s).1 < lo ∨ hi < (Qw 1 s).1)
  · rw [if_pos h]; intro h2; cases h2
  · rw [if_neg h]; intro h2; obtain ⟨h3, h4, _⟩ := Qhb.num 1 s h2; exact ⟨h3, h4, by omega, by omega⟩
theorem Qhb.ch : Qhb pCh chB := by
  intro s h; have h5 := Qhb.text _ h; have h4 := Qhb.text _ h5.1; have h3 := Qhb.num 1 _ h4.1; have h2 := Qhb.num 2 _ h3.1; have h1 := Qhb.num 1 _ h2.1; refine ⟨h1.1, ?_⟩; rw [h1.2.1, h2.2.1, h3.2.1, h4.2, h5.2]; show _ = (beB 1 _ ++ (beB 2 _ ++ (beB 1 _ ++ (Qfc _ ++ Qfc _)))) ++ _; simp only [List.append_assoc]; rfl
theorem Qhb.tx : Qhb pTx txB := by
  intro s h; have h5 := Qhb.num 8 _ h; have h4 := Qhb.num 8 _ h5.1; have h3 := Qhb.num 8 _ h4.1; have h2 := Qhb.num 1 _ h3.1; have h1 := Qhb.num 4 _ h2.1; refine ⟨h1.1, ?_⟩; rw [h1.2.1, h2.2.1, h3.2.1, h4.2.1, h5.2.1]; show _ = (beB 4 _ ++ (beB 1 _ ++ (beB 8 _ ++ (beB 8 _ ++ beB 8 _)))) ++ _; simp only [List.append_assoc]; rfl
theorem Qhb.di : Qhb pDi diB := by
  intro s h; have h2 := Qhb.num 8 _ h; have h1 := Qhb.num 2 _ h2.1; refine ⟨h1.1, ?_⟩; rw [h1.2.1, h2.2.1]; show _ = (beB 2 _ ++ beB 8 _) ++ _; simp only [List.append_assoc]; rfl
theorem Qhb.some {α : Type} {p : St -> α × St} {f : α -> List UInt8} (hp : Qhb p f) : ∀ n s, (Qla p n s).2.e = 0 -> s.e = 0 /\ s.l = (Qla p n s).1.flatMap f ++ (Qla p n s).2.l /\ (Qla p n s).1.length = n
  | 0, s => fun h => ⟨h, rfl, rfl⟩
  | n + 1, s => by
    unfold Qla
    by_cases he : s.e = 0
    · rw [if_neg (by simpa using he)]; intro h; obtain ⟨h1, h2, h3⟩ := Qhb.some hp n (p s).2 h; obtain ⟨_, h4⟩ := hp s h1; refine ⟨he, ?_, by show (Qla p n (p s).2).1.length + 1 = n + 1; rw [h3]⟩; rw [h4]; conv => lhs; rw [h2]
      show _ = (f _ ++ _) ++ _; rw [List.append_assoc]; rfl
    · rw [if_pos he]; intro h; exact absurd h he
theorem Qhb.check : ∀ s, (Qld s).2.e = 0 -> s.e = 0 /\ s.l = Qle (Qld s).1.1 (Qld s).1.2.1 (Qld s).1.2.2 ++ (Qld s).2.l := by
  intro s h; have h5 := Qhb.some Qhb.di _ _ h; have h4 := Qhb.in 0 32 _ h5.1; have h3 := Qhb.some Qhb.tx _ _ h4.1; have h2 := Qhb.in 0 16 _ h3.1; have h1 := Qhb.num 8 _ h2.1; refine ⟨h1.1, ?_⟩
  have e : ∀ (b n m : Nat) (ts : List Tx) (ds : List Di), ts.length = n -> ds.length = m -> Qle b ts ds = beB 8 b ++ (beB 1 n ++ (Qwf ts ++ (beB 1 m ++ Qah ds))) := by
    rintro b n m ts ds rfl rfl; rfl
  unfold Qld Qxa Qoc; simp only; rw [e _ _ _ _ _ h3.2.2 h5.2.2]; rw [h1.2.1, h2.2.1, h3.2.1, h4.2.1, h5.2.1]; simp only [List.append_assoc]; rfl
theorem Qhb.may {α : Type} {q : Prop} [Decidable q] {z : α} {p : St -> α × St} {f : α -> List UInt8} (h : Qhb p f) : ∀ s, (Qaf q z p s).2.e = 0 -> s.e = 0 /\ s.l = Qme q (f (Qaf q z p s).1) ++ (Qaf q z p s).2.l := by
  intro s; unfold Qaf Qme
  by_cases hq : q
  · rw [if_pos hq, if_pos hq]; exact h s
  · rw [if_neg hq, if_neg hq]; intro he; exact ⟨he, rfl⟩
theorem Qbj {a b : Prop} [Decidable a] [Decidable b] (h : a ↔ b) (l : List UInt8) : Qme a l = Qme b l := by
  unfold Qme
  by_cases hb : b
  · rw [if_pos (h.2 hb), if_pos hb]
  · rw [if_neg (fun g => hb (h.1 g)), if_neg hb]
theorem Qhb.rec : ∀ s, (Qbb s).2.e = 0 -> s.e = 0 /\ s.l = Qyb (Qbb s).1 ++ (Qbb s).2.l := by
  intro s h; have h8 := Qhb.may (f := fun x : Nat × List Tx × List Di => Qle x.1 x.2.1 x.2.2) Qhb.check _ h; have h7 := Qhb.may (f := fun x : Nat => beB 1 x) (fun s hs => ⟨(Qhb.num 1 s hs).1, (Qhb.num 1 s hs).2.1⟩) _ h8.1; have h6 := Qhb.may (f := fun x : Nat => beB 8 x) (fun s hs => ⟨(Qhb.num 8 s hs).1, (Qhb.num 8 s hs).2.1⟩) _ h7.1; have h5 := Qhb.may Qhb.ch _ h6.1; have h4 := Qhb.num 8 _ h5.1; have h3 := Qhb.num 4 _ h4.1; have h2 := Qhb.num 8 _ h3.1; have h1 := Qhb.in 1 8 _ h2.1; refine ⟨h1.1, ?_⟩
  have e : ∀ (k l t p : Nat) (c : Ch) (n sv b : Nat) (ts : List Tx) (ds : List Di), Qyb ⟨k, l, t, p, c, n, sv, b, ts, ds⟩ = beB 1 k ++ (beB 8 l ++ (beB 4 t ++ (beB 8 p ++ (Qme (k <= 2) (chB c) ++ (Qme (k = 2) (beB 8 n) ++ (Qme (k = 6) (beB 1 sv) ++ Qme (k = 8) (Qle b ts ds))))))) := by
    intro k l t p c n sv b ts ds; unfold Qyb; simp only [Int.toNat_natCast]; rw [Qbj (show ((k : Int) <= 2) ↔ k <= 2 by omega), Qbj (show ((k : Int) = 2) ↔ k = 2 by omega), Qbj (show ((k : Int) = 6) ↔ k = 6 by omega), Qbj (show ((k : Int) = 8) ↔ k = 8 by omega)]
  show s.l = Qyb _ ++ _; unfold Qbb Qxa Qoc; simp only; rw [e]; rw [h1.2.1, h2.2.1, h3.2.1, h4.2.1, h5.2, h6.2, h7.2, h8.2]; simp only [List.append_assoc]
theorem dec_ok (b : List UInt8) (h : (Qdc b).2 = 0) : (Qdc b).1.right /\ Qyb (Qdc b).1 = b := by
  unfold Qdc at h |-
  by_cases h1 : (Qbb ⟨b, 0⟩).2.e ≠ 0
  · rw [if_pos h1] at h; exact absurd h h1
  · rw [if_neg h1] at h |-
    by_cases h2 : (Qbb ⟨b, 0⟩).2.l ≠ [] ∨ (Qbb ⟨b, 0⟩).1.rightB = false
    · rw [if_pos h2] at h; cases h
    · rw [if_neg h2]; have h3 : (Qbb ⟨b, 0⟩).2.l = [] := Decidable.of_not_not fun h3 => h2 (.inl h3)
      have h4 : (Qbb ⟨b, 0⟩).1.rightB = true := by
        cases hb : (Qbb ⟨b, 0⟩).1.rightB
        · exact absurd (.inr hb) h2
        · rfl
      obtain ⟨_, h5⟩ := Qhb.rec ⟨b, 0⟩ (Decidable.of_not_not h1); refine ⟨Qwh.1 h4, ?_⟩; rw [h3, List.append_nil] at h5; exact h5.symm
def Rel (t : List UInt8) (s s' : St) : Prop := s.e = 4 ∨ (s.e = 0 /\ s'.e = 0 /\ s'.l = s.l ++ t)
structure Good {α : Type} (p : St -> α × St) : Prop where
  stick : ∀ s, s.e ≠ 0 -> (p s).2 = s
  sim : ∀ t s s', Rel t s s' -> (p s').2.e = 0 -> Rel t (p s).2 (p s').2 /\ ((p s).2.e = 0 -> (p s).1 = (p s').1)
theorem Good.pure {α : Type} (a : α) : Good (Qoc a) := ⟨fun s _ => rfl, fun t s s' h _ => ⟨h, fun _ => rfl⟩⟩
theorem Good.bind {α β : Type} {p : St -> α × St} {q : α -> St -> β × St} (hp : Good p) (hq : ∀ a, Good (q a)) : Good (Qxa p q) := by
  refine ⟨fun s hs => ?_, fun t s s' h h' => ?_⟩
  · unfold Qxa; have h1 := hp.stick s hs; rw [h1]; exact (hq _).stick s hs
  · unfold Qxa at h' |-
    have e' : (p s').2.e = 0 := by
      by_cases he : (p s').2.e = 0
      · exact he
      · rw [(hq _).stick _ he] at h'; exact h'
    obtain ⟨h1, h2⟩ := hp.sim t s s' h e'
    by_cases he : (p s).2.e = 0
    · rw [h2 he]; exact (hq _).sim t _ _ h1 h'
    · have h4 : (p s).2.e = 4 := by
        rcases h1 with h1 | h1
        · exact h1
        · exact absurd h1.1 he
      rw [(hq (p s).1).stick _ he]; exact ⟨.inl h4, fun h5 => absurd h5 he⟩
theorem Good.num (w : Nat) : Good (Qw w) := by
  refine ⟨fun s hs => by unfold Qw; rw [if_pos hs], fun t s s' h h' => ?_⟩
  rcases h with h | ⟨h1, h2, h3⟩
  · have hs : s.e ≠ 0 := by omega
    have e : Qw w s = (0, s) := by unfold Qw; rw [if_pos hs]
    rw [e]; exact ⟨.inl h, fun h5 => absurd h5 hs⟩
  · by_cases hw : w <= s.l.length
    · have e : Qw w s = (be (s.l.take w), ⟨s.l.drop w, 0⟩) := by unfold Qw; rw [if_neg (by simpa using h1), if_pos hw]
      have hw' : w <= s'.l.length := by rw [h3, List.length_append]; omega
      have e' : Qw w s' = (be (s'.l.take w), ⟨s'.l.drop w, 0⟩) := by unfold Qw; rw [if_neg (by simpa using h2), if_pos hw']
      rw [e, e', h3]
      refine ⟨.inr ⟨rfl, rfl, ?_⟩, fun _ => ?_⟩
      · show (s.l ++ t).drop w = s.l.drop w ++ t; rw [List.drop_append_of_le_length hw]
      · show be (s.l.take w) = be ((s.l ++ t).take w); rw [List.take_append_of_le_length hw]
    · have e : Qw w s = (0, ⟨[], 4⟩) := by unfold Qw; rw [if_neg (by simpa using h1), if_neg hw]
      rw [e]; exact ⟨.inl rfl, fun h5 => by cases h5⟩
theorem Good.text : Good Qmb := by
  refine ⟨fun s hs => by unfold Qmb; rw [if_pos hs], fun t s s' h h' => ?_⟩
  rcases h with h | ⟨h1, h2, h3⟩
  · have hs : s.e ≠ 0 := by omega
    have e : Qmb s = (⟨#[]⟩, s) := by unfold Qmb; rw [if_pos hs]
    rw [e]; exact ⟨.inl h, fun h5 => absurd h5 hs⟩
  · obtain ⟨l, e⟩ := s; obtain ⟨l', e'⟩ := s'; simp only at h1 h2 h3; subst h1 h2 h3
    cases l with
    | nil => exact ⟨.inl rfl, fun h5 => by cases h5⟩
    | cons b l =>
      by_cases hb : b.toNat <= l.length
      · have e1 : Qmb ⟨b :: l, 0⟩ = (⟨(l.take b.toNat).toArray⟩, ⟨l.drop b.toNat, 0⟩) := by
          unfold Qmb; rw [if_neg (by simp)]; simp only; rw [if_pos hb]
        have e2 : Qmb ⟨b :: l ++ t, 0⟩ = (⟨((l ++ t).take b.toNat).toArray⟩, ⟨(l ++ t).drop b.toNat, 0⟩) := by
          unfold Qmb; rw [if_neg (by simp)]; simp only [List.cons_append]; rw [if_pos (by rw [List.length_append]; omega)]
        rw [e1, e2, List.drop_append_of_le_length hb, List.take_append_of_le_length hb]; exact ⟨.inr ⟨rfl, rfl, rfl⟩, fun _ => rfl⟩
      · have e1 : Qmb ⟨b :: l, 0⟩ = (⟨#[]⟩, ⟨[], 4⟩) := by
          unfold Qmb; rw [if_neg (by simp)]; simp only; rw [if_neg hb]
        rw [e1]; exact ⟨.inl rfl, fun h5 => by cases h5⟩
theorem Good.in (lo hi : Nat) : Good (pIn lo hi) := by
  refine ⟨fun s hs => ?_, fun t s s' h h' => ?_⟩
  · unfold pIn; have h1 := (Good.num 1).stick s hs; rw [if_neg (by rw [h1]; exact fun h => hs h.1)]; exact h1
  · have hc' : ¬ ((Qw 1 s').2.e = 0 /\ ((Qw 1 s').1 < lo ∨ hi < (Qw 1 s').1)) := by
      intro hc; unfold pIn at h'; rw [if_pos hc] at h'; cases h'
    have e' : pIn lo hi s' = Qw 1 s' := by unfold pIn; rw [if_neg hc']
    rw [e'] at h' |-; obtain ⟨h1, h2⟩ := (Good.num 1).sim t s s' h h'
    have hc : ¬ ((Qw 1 s).2.e = 0 /\ ((Qw 1 s).1 < lo ∨ hi < (Qw 1 s).1)) := by
      intro hc; rw [h2 hc.1] at hc; exact hc' ⟨h', hc.2⟩
    have e : pIn lo hi s = Qw 1 s := by unfold pIn; rw [if_neg hc]
    rw [e]; exact ⟨h1, h2⟩
theorem Good.some {α : Type} {p : St -> α × St} (hp : Good p) : ∀ n, Good (Qla p n)
  | 0 => ⟨fun s _ => rfl, fun t s s' h _ => ⟨h, fun _ => rfl⟩⟩
  | n + 1 => by
    have ih := Good.some hp n; refine ⟨fun s hs => by unfold Qla; rw [if_pos hs], fun t s s' h h' => ?_⟩
    by_cases hs : s.e = 0
    · have hs' : s'.e = 0 := by
        rcases h with h | h
        · omega
        · exact h.2.1
      have e : Qla p (n + 1) s = ((p s).1 :: (Qla p n (p s).2).1, (Qla p n (p s).2).2) := by
        conv => lhs; unfold Qla
        rw [if_neg (by simpa using hs)]
      have e' : Qla p (n + 1) s' = ((p s').1 :: (Qla p n (p s').2).1, (Qla p n (p s').2).2) := by
        conv => lhs; unfold Qla
        rw [if_neg (by simpa using hs')]
      rw [e'] at h' |-; rw [e]
      have e1 : (p s').2.e = 0 := by
        by_cases he : (p s').2.e = 0
        · exact he
        · have := ih.stick _ he; simp only at h'; rw [this] at h'; exact h'
      obtain ⟨h1, h2⟩ := hp.sim t s s' h e1; obtain ⟨h3, h4⟩ := ih.sim t _ _ h1 h'; refine ⟨h3, fun h5 => ?_⟩
      have e2 : (p s).2.e = 0 := by
        by_cases he : (p s).2.e = 0
        · exact he
        · have := ih.stick _ he; simp only at h5; rw [this] at h5; exact h5
      show _ :: _ = _ :: _; rw [h2 e2, h4 h5]
    · have e : Qla p (n + 1) s = ([], s) := by
        conv => lhs; unfold Qla
        rw [if_pos hs]
      rw [e]
      have h4 : s.e = 4 := by
        rcases h with h | h
        · exact h
        · exact absurd h.1 hs
      exact ⟨.inl h4, fun h5 => absurd h5 hs⟩
theorem Good.may {α : Type} {q : Prop} [Decidable q] {z : α} {p : St -> α × St} (hp : Good p) : Good (Qaf q z p) := by
  unfold Qaf
  split
  · exact hp
  · exact Good.pure z
theorem Good.ch : Good pCh := (Good.num 1).bind fun _ => (Good.num 2).bind fun _ => (Good.num 1).bind fun _ => Good.text.bind fun _ => Good.text.bind fun _ => Good.pure _
theorem Good.tx : Good pTx := (Good.num 4).bind fun _ => (Good.num 1).bind fun _ => (Good.num 8).bind fun _ => (Good.num 8).bind fun _ => (Good.num 8).bind fun _ => Good.pure _
theorem Good.di : Good pDi := (Good.num 2).bind fun _ => (Good.num 8).bind fun _ => Good.pure _
theorem Good.check : Good Qld := (Good.num 8).bind fun _ => (Good.in 0 16).bind fun n => (Good.some Good.tx n).bind fun _ => (Good.in 0 32).bind fun m => (Good.some Good.di m).bind fun _ => Good.pure _
theorem Qkr {q : Prop} [Decidable q] {b : List UInt8} : (Qme q b).length = if q then b.length else 0 := by
  unfold Qme; split <;> rfl
theorem chB_len (c : Ch) : (chB c).length = 6 + c.o.size + c.n.size := by
  unfold chB; simp only [List.length_append, Qf, Qrf, Qs]; omega
theorem rec_room (r : Rec) (h : r.right) (h8 : r.k ≠ 8) : 21 <= (Qyb r).length /\ (Qyb r).length <= 75 /\ ((r.k = 3 ∨ r.k = 4 ∨ r.k = 5 ∨ r.k = 7) -> (Qyb r).length = 21) := by
  have e : (Qyb r).length = 21 + ((if r.k <= 2 then (chB r.c).length else 0) + ((if r.k = 2 then 8 else 0) + (if r.k = 6 then 1 else 0))) := by
    unfold Qyb; simp only [List.length_append, Qf, Qkr]; rw [if_neg h8]; omega
  rw [e, chB_len]
  have hc : r.k <= 2 -> r.c.o.size <= 20 /\ r.c.n.size <= 20 := fun hk => by
    have := (h.ch hk).1; omega
  by_cases h2 : r.k <= 2
  · have := hc h2; rw [if_pos h2]; split <;> split <;> exact ⟨by omega, by omega, fun hk => by omega⟩
  · rw [if_neg h2]; split <;> split <;> exact ⟨by omega, by omega, fun hk => by omega⟩
theorem Qbp (x : Tx) : (txB x).length = 29 := by
  unfold txB; simp only [List.length_append, Qf]
theorem diB_len (d : Di) : (diB d).length = 10 := by
  unfold diB; simp only [List.length_append, Qf]
theorem Qdg {α : Type} (f : α -> List UInt8) (n : Nat) (hf : ∀ x, (f x).length = n) : ∀ xs : List α, (xs.flatMap f).length = xs.length * n
  | [] => by simp
  | x :: xs => by
    rw [List.flatMap_cons, List.length_append, hf, Qdg f n hf xs, List.length_cons]; rw [Nat.add_mul, Nat.one_mul, Nat.add_comm]
theorem Qht (b : Nat) (ts : List Tx) (ds : List Di) : (Qle b ts ds).length = 10 + ts.length * 29 + ds.length * 10 := by
  unfold Qle Qwf Qah; simp only [List.length_append, Qf, Qdg txB 29 Qbp, Qdg diB 10 diB_len]; omega
theorem Qnf (r : Rec) (h : r.right) : (Qyb r).length <= 1000 := by
  by_cases h8 : r.k = 8
  · have hr := h.check h8
    have e : (Qyb r).length = 21 + (Qle r.b r.ts r.ds).length := by
      unfold Qyb; simp only [List.length_append, Qf, Qkr]; rw [if_neg (by omega), if_neg (by omega), if_neg (by omega), if_pos h8]; omega
    rw [e, Qht]; have := hr.1; have := hr.2.1; omega
  · have := (rec_room r h h8).2.1; omega
def Qji (bs : List UInt8) : List UInt8 := bs ++ leB (crc bs)
def Qea (r : Rec) : List UInt8 := Qji (beB 2 (Qyb r).length ++ Qyb r)
theorem Qkd (bs : List UInt8) : (Qji bs).length = bs.length + 4 := by
  unfold Qji; rw [List.length_append, Qys]
theorem Qva (r : Rec) : (Qea r).length = (Qyb r).length + 6 := by
  unfold Qea; rw [Qkd, List.length_append, Qf]; omega
theorem open_seal (bs : List UInt8) : Qpb (Qji bs) = (bs, 0) := by
  have hl := Qkd bs; have e : (Qji bs).length - 4 = bs.length := by omega
  have t : (Qji bs).take bs.length = bs := List.take_left' rfl; have d : (Qji bs).drop bs.length = leB (crc bs) := List.drop_left' rfl; rw [Qsh _ (by omega) (by rw [e, t, d]; exact leN_leB _ (Qyr bs)), e, t]
theorem Qcj (f : List UInt8) (h : (Qpb f).2 = 0) : f = Qji (Qpb f).1 := by
  by_cases h1 : f.length < 4
  · rw [Qte f h1] at h; cases h
  · by_cases h2 : leN (f.drop (f.length - 4)) = crc (f.take (f.length - 4))
    · rw [Qsh f h1 h2]; exact ((Qsg f h1).2 h2).symm
    · rw [Qxi f h1 h2] at h; cases h
def Qga (l : List UInt8) : Rec × Nat × Int :=
  if l.length < 2 ∨ l.length < be (l.take 2) + 6 then (Rec.zero, 0, 4)
  else if (Qpb (l.take (be (l.take 2) + 6))).2 ≠ 0 then (Rec.zero, 0, 3)
  else if (Qdc ((Qpb (l.take (be (l.take 2) + 6))).1.drop 2)).2 ≠ 0 then (Rec.zero, 0, 2)
  else ((Qdc ((Qpb (l.take (be (l.take 2) + 6))).1.drop 2)).1, be (l.take 2) + 6, 0)
theorem frame_two (r : Rec) (h : r.right) (y : List UInt8) : be ((Qea r ++ y).take 2) = (Qyb r).length := by
  have hf := Qnf r h
  have e : (Qea r ++ y).take 2 = beB 2 (Qyb r).length := by
    unfold Qea Qji; rw [List.append_assoc, List.append_assoc]; exact List.take_left' (Qf 2 _)
  rw [e]; exact be_beB 2 _ (by omega)
theorem Qel (r : Rec) (h : r.right) (y : List UInt8) : Qga (Qea r ++ y) = (r, (Qea r).length, 0) := by
  have h2 := frame_two r h y; have hl := Qva r; have ht : (Qea r ++ y).take ((Qyb r).length + 6) = Qea r := List.take_left' hl; have ho : Qpb (Qea r) = (beB 2 (Qyb r).length ++ Qyb r, 0) := open_seal _; have hd : (beB 2 (Qyb r).length ++ Qyb r).drop 2 = Qyb r := List.drop_left' (Qf 2 _); unfold Qga; rw [h2, ht, ho]; simp only; rw [hd, dec_enc r h, if_neg (by rw [List.length_append]; omega), if_neg (by simp), if_neg (by simp), hl]
theorem Qup (l : List UInt8) (h : (Qga l).2.2 = 0) : (Qga l).1.right /\ l.take (Qga l).2.1 = Qea (Qga l).1 /\ (Qga l).2.1 = (Qea (Qga l).1).length /\ (Qga l).2.1 <= l.length := by
  unfold Qga at h |-
  by_cases h1 : l.length < 2 ∨ l.length < be (l.take 2) + 6
  · rw [if_pos h1] at h; cases h
  rw [if_neg h1] at h |-
  by_cases h2 : (Qpb (l.take (be (l.take 2) + 6))).2 ≠ 0
  · rw [if_pos h2] at h; cases h
  rw [if_neg h2] at h |-
  by_cases h3 : (Qdc ((Qpb (l.take (be (l.take 2) + 6))).1.drop 2)).2 ≠ 0
  · rw [if_pos h3] at h; cases h
  rw [if_neg h3] at h |-; simp only; have h2' : (Qpb (l.take (be (l.take 2) + 6))).2 = 0 := by omega
  have h3' : (Qdc ((Qpb (l.take (be (l.take 2) + 6))).1.drop 2)).2 = 0 := by omega
  obtain ⟨hr, hb⟩ := dec_ok _ h3'; have hs := Qcj _ h2'; generalize hn : be (l.take 2) = n at *; generalize hq : (Qpb (l.take (n + 6))).1 = q at *; have hlen : (l.take (n + 6)).length = n + 6 := by rw [List.length_take]; omega
  have hql : q.length = n + 2 := by
    have h5 := congrArg List.length hs; rw [hlen, Qkd] at h5; omega
  have hq2 : q.take 2 = l.take 2 := by
    have h6 : (l.take (n + 6)).take 2 = l.take 2 := by rw [List.take_take, Nat.min_eq_left (by omega)]
    have h7 : (Qji q).take 2 = q.take 2 := by
      unfold Qji; rw [List.take_append_of_le_length (by omega)]
    rw [<- h6, hs, h7]
  have hrl : (Qyb (Qdc (q.drop 2)).1).length = n := by rw [hb, List.length_drop]; omega
  have hbe : beB 2 n = l.take 2 := by
    have h8 := beB_be (l.take 2); rw [List.length_take, Nat.min_eq_left (by omega), hn] at h8; exact h8
  have hfr : Qea (Qdc (q.drop 2)).1 = l.take (n + 6) := by
    have e9 : beB 2 n ++ q.drop 2 = q := by rw [hbe, <- hq2]; exact List.take_append_drop 2 q
    unfold Qea; rw [hrl, hb, e9]; exact hs.symm
  exact ⟨hr, hfr.symm, by rw [hfr, hlen], by omega⟩
def Qe (rs : List Rec) : List UInt8 := rs.flatMap Qea
def Qli : Nat -> List Rec -> Prop
  | _, [] => True
  | a, r :: rs => r.right /\ a < r.l /\ Qli r.l rs
def Qee : Nat -> Nat -> List UInt8 -> List Rec × Nat
  | 0, _, _ => ([], 0)
  | f + 1, a, l =>
    if (Qga l).2.2 ≠ 0 ∨ (Qga l).1.l <= a then ([], 0)
    else ((Qga l).1 :: (Qee f (Qga l).1.l (l.drop (Qga l).2.1)).1, (Qga l).2.1 + (Qee f (Qga l).1.l (l.drop (Qga l).2.1)).2)
theorem Qio (f a : Nat) (l : List UInt8) (h : (Qga l).2.2 ≠ 0 ∨ (Qga l).1.l <= a) : Qee f a l = ([], 0) := by
  cases f with
  | zero => rfl
  | succ f => rw [Qee, if_pos h]
theorem scan_one (f a : Nat) (r : Rec) (h : r.right) (ha : a < r.l) (y : List UInt8) : Qee (f + 1) a (Qea r ++ y) = (r :: (Qee f r.l y).1, (Qea r).length + (Qee f r.l y).2) := by
  have hd : (Qea r ++ y).drop (Qea r).length = y := List.drop_left' rfl; rw [Qee, Qel r h y]; simp only; rw [if_neg (by omega), hd]
def Qnb : Nat -> List Rec -> Nat
  | a, [] => a
  | _, r :: rs => Qnb r.l rs
theorem Qrs : ∀ (rs : List Rec) (f a : Nat) (y : List UInt8), Qli a rs -> Qee (rs.length + f) a (Qe rs ++ y) = (rs ++ (Qee f (Qnb a rs) y).1, (Qe rs).length + (Qee f (Qnb a rs) y).2)
  | [], f, a, y, _ => by
    show Qee (0 + f) a y = _; rw [Nat.zero_add]; show _ = ((Qee f a y).1, 0 + (Qee f a y).2); rw [Nat.zero_add]
  | r :: rs, f, a, y, h => by
    obtain ⟨h1, h2, h3⟩ := h; have e1 : (r :: rs).length + f = (rs.length + f) + 1 := by rw [List.length_cons]; omega
    have e2 : Qe (r :: rs) ++ y = Qea r ++ (Qe rs ++ y) := by
      unfold Qe; rw [List.flatMap_cons, List.append_assoc]
    rw [e1, e2, scan_one _ a r h1 h2, Qrs rs f r.l y h3]; show (r :: (rs ++ (Qee f (Qnb r.l rs) y).1), (Qea r).length + ((Qe rs).length + (Qee f (Qnb r.l rs) y).2)) = _
    have e3 : (Qe (r :: rs)).length = (Qea r).length + (Qe rs).length := by
      unfold Qe; rw [List.flatMap_cons, List.length_append]
    rw [e3, Nat.add_assoc]; rfl
theorem Qal : ∀ (f a : Nat) (l : List UInt8), Qli a (Qee f a l).1 /\ l.take (Qee f a l).2 = Qe (Qee f a l).1 /\ (Qee f a l).2 <= l.length
  | 0, a, l => ⟨trivial, rfl, Nat.zero_le _⟩
  | f + 1, a, l => by
    by_cases h : (Qga l).2.2 ≠ 0 ∨ (Qga l).1.l <= a
    · rw [Qio _ a l h]; exact ⟨trivial, rfl, Nat.zero_le _⟩
    · obtain ⟨h1, h2, h3, h4⟩ := Qup l (by omega); obtain ⟨i1, i2, i3⟩ := Qal f (Qga l).1.l (l.drop (Qga l).2.1); rw [Qee, if_neg h]; simp only; rw [List.length_drop] at i3; refine ⟨⟨h1, by omega, i1⟩, ?_, by omega⟩; rw [List.take_add, h2, i2]; unfold Qe; rw [List.flatMap_cons]
def Qgb (bs : List UInt8) : List Rec × Nat := Qee (bs.length + 1) 0 bs
theorem Qob : ∀ rs : List Rec, rs.length * 6 <= (Qe rs).length
  | [] => Nat.le_refl _
  | r :: rs => by
    have h := Qob rs; have e : Qe (r :: rs) = Qea r ++ Qe rs := by simp [Qe]
    rw [e, List.length_append, Qva, List.length_cons]; omega
theorem Qjh {bs y : List UInt8} {rs : List Rec} (h : bs = Qe rs ++ y) (hr : Qli 0 rs) (hs : (Qga y).2.2 ≠ 0 ∨ (Qga y).1.l <= Qnb 0 rs) : Qgb bs = (rs, (Qe rs).length) := by
  have h1 := Qob rs; have h2 := congrArg List.length h; rw [List.length_append] at h2; have e : bs.length + 1 = rs.length + (bs.length + 1 - rs.length) := by omega
  unfold Qgb; rw [e, h, Qrs rs _ 0 y hr, Qio _ _ y hs]; simp
theorem Qdh : ∀ (rs : List Rec) (a : Nat) (r : Rec), Qli a (rs ++ [r]) ↔ Qli a rs /\ r.right /\ Qnb a rs < r.l
  | [], a, r => ⟨fun h => ⟨trivial, h.1, h.2.1⟩, fun h => ⟨h.2.1, h.2.2, trivial⟩⟩
  | q :: rs, a, r => by
    have ih := Qdh rs q.l r
    constructor
    · rintro ⟨h1, h2, h3⟩; have h4 := ih.1 h3; exact ⟨⟨h1, h2, h4.1⟩, h4.2⟩
    · rintro ⟨⟨h1, h2, h3⟩, h4⟩; exact ⟨h1, h2, ih.2 ⟨h3, h4⟩⟩
theorem Qfh : ∀ (rs : List Rec) (a : Nat) (r : Rec), Qnb a (rs ++ [r]) = r.l
  | [], _, _ => rfl
  | q :: rs, _, r => Qfh rs q.l r
theorem Qjp : ∀ (rs : List Rec) (a : Nat), Qli a rs -> a < 18446744073709551616 -> Qnb a rs < 18446744073709551616
  | [], _, _, h => h
  | q :: rs, a, h, ha => Qjp rs q.l h.2.2 (by have := h.1.lm; unfold Qxe at this; omega)
theorem Qbc : ∀ (rs : List Rec) (a : Nat), Qli a rs -> ∀ r ∈ rs, r.right
  | [], _, _, _, h => nomatch h
  | q :: rs, a, h, r, hr => by
    rcases List.mem_cons.1 hr with rfl | hr
    · exact h.1
    · exact Qbc rs q.l h.2.2 r hr
theorem eq_dec (a b : Nat) : ((a : Int) == (b : Int)) = decide (a = b) := by
  rw [Bool.eq_iff_iff]; simp; omega
theorem Qlc (a b : List Rec) : Qe (a ++ b) = Qe a ++ Qe b := by simp [Qe]
theorem Qln (r : Rec) (rs : List Rec) : Qe (r :: rs) = Qea r ++ Qe rs := by simp [Qe]
theorem Qxk : ∀ (rs : List Rec) (a i : Nat), Qli a rs -> Qli a (rs.take i)
  | _, _, 0, _ => by rw [List.take_zero]; trivial
  | [], _, _ + 1, _ => trivial
  | r :: rs, a, i + 1, h => ⟨h.1, h.2.1, Qxk rs r.l i h.2.2⟩
theorem head_nil : (Qga []).2.2 ≠ 0 := by
  unfold Qga; rw [if_pos (.inl (by decide))]; decide
def maxL : Nat := 4611686018427387904
def topL : Nat := 4611686018427322368
theorem Qef {p : Prop} (h : p) : Hid p := h
def Qmu (n f : Nat) (s : Bool) : Bool := decide (maxL <= max n f) || (!s && decide (topL <= max n f))
def Qhg (n f : Nat) (s : Bool) : Int × Int := if Qmu n f s then (0, 7) else ((max n f + 1 : Nat), 0)
def Qoi (n f : Nat) (s : Bool) : Nat := if Qmu n f s then n else max n f + 1
structure Lg where
  t : Tp
  c : Nat
  l : List Rec
  on : Nat
  fa : Nat
  hd : Nat
  du : Nat
def Rec.put (r : Rec) (n : Nat) : Rec := { r with l := n }
def Qhe (rs : List Rec) : ByteArray := ⟨(Qe rs).toArray⟩
theorem Qhk (rs : List Rec) : (Qhe rs).size = (Qe rs).length := by simp [Qhe, ByteArray.size]
theorem Qpq (rs : List Rec) : (Qhe rs).data.toList = Qe rs := by simp [Qhe]
def Lg.used (g : Lg) : Nat := g.t.b.size + (Qe (g.l.drop g.on)).length
def Lg.see (g : Lg) (n : Nat) : Lg := { g with c := max g.c (min n maxL) }
def Lg.open (t : Tp) (base : Nat) : Lg :=
  ⟨(t.chop ((Qgb t.b.data.toList).2 : Int)).1.sync, max (max 0 (min base maxL)) (min (Qnb 0 (Qgb t.b.data.toList).1) maxL), (Qgb t.b.data.toList).1, (Qgb t.b.data.toList).1.length, (Qgb t.b.data.toList).1.length, 0, Qnb 0 (Qgb t.b.data.toList).1⟩
def Lg.num (g : Lg) (floor : Nat) : Nat := max g.c floor + 1
def Lg.hold (g : Lg) (h : Int) : Nat := (max 0 ((g.hd : Int) + h)).toNat
def Lg.appE (g : Lg) (r : Rec) (floor : Nat) (h : Int) : Int :=
  if r.l ≠ 0 ∨ h < -65536 ∨ 65536 < h then 1
  else if Qmu g.c floor (decide (h < 0)) = true then 7
  else @ite Int (¬ (r.put (g.num floor)).right) (@instDecidableNot _ (r.put (g.num floor)).rightD) 1 (if g.t.m < g.used + (Qea (r.put (g.num floor))).length + g.hold h then 7 else 0)
def Lg.app (g : Lg) (r : Rec) (floor : Nat) (h : Int) : Lg := if g.appE r floor h = 0 then { g with c := g.num floor, hd := g.hold h, l := g.l ++ [r.put (g.num floor)] } else g
def Lg.appN (g : Lg) (r : Rec) (floor : Nat) (h : Int) : Nat := if g.appE r floor h = 0 then g.num floor else 0
def Lg.write (g : Lg) : Lg := { g with t := (g.t.app (Qhe (g.l.drop g.on))).1, on := g.l.length }
def Lg.sync (g : Lg) : Lg := { g with t := g.t.sync, fa := g.on, du := if 0 < g.on then (g.l.getD (g.on - 1) Rec.zero).l else g.du }
def Qda : List Rec -> Nat -> Nat -> Nat
  | [], _, _ => 0
  | _, 0, _ => 0
  | r :: rs, f + 1, n => if r.l < n then Qda rs f n + 1 else 0
def Lg.trim (g : Lg) (n : Nat) : Lg := { g with t := (g.t.cut ((Qe (g.l.take (Qda g.l g.fa n))).length : Int)).1, l := g.l.drop (Qda g.l g.fa n), on := g.on - Qda g.l g.fa n, fa := g.fa - Qda g.l g.fa n }
def Lg.pend (g : Lg) : Nat := if g.fa = g.l.length then 0 else (g.l.getD g.fa Rec.zero).l
structure Lg.ok (g : Lg) : Prop where
  tok : g.t.ok
  on : g.on <= g.l.length
  fa : g.fa <= g.on
  rise : Qli 0 g.l
  last : Qnb 0 g.l <= g.c
  top : g.c <= maxL
  bytes : g.t.b.data.toList = Qe (g.l.take g.on)
  fast : g.t.f = (Qe (g.l.take g.fa)).length
  room : g.used + g.hd <= g.t.m
  low : ∀ r ∈ g.l.take g.fa, r.l <= g.du
  high : ∀ r ∈ g.l.drop g.fa, g.du < r.l
  du : g.du <= g.c
theorem Qii (l : List Rec) (i : Nat) : Qe l = Qe (l.take i) ++ Qe (l.drop i) := by rw [<- Qlc, List.take_append_drop]
theorem Qcg (l : List Rec) (i : Nat) : (Qe l).length = (Qe (l.take i)).length + (Qe (l.drop i)).length := by
  have h := congrArg List.length (Qii l i); rwa [List.length_append] at h
theorem Qyj (l : List Rec) (i j : Nat) (h : i <= j) : (Qe (l.take i)).length <= (Qe (l.take j)).length := by
  have h1 := Qcg (l.take j) i; rw [List.take_take, Nat.min_eq_left h] at h1; omega
theorem Qsq : ∀ (l : List Rec) (a : Nat), Qli a l -> a <= Qnb a l
  | [], _, _ => Nat.le_refl _
  | r :: rs, a, h => Nat.le_trans (Nat.le_of_lt h.2.1) (Qsq rs r.l h.2.2)
theorem Qlh : ∀ (l : List Rec) (a : Nat), Qli a l -> ∀ r ∈ l, a < r.l /\ r.l <= Qnb a l
  | [], _, _, _, h => nomatch h
  | q :: rs, a, h, r, hr => by
    rcases List.mem_cons.1 hr with rfl | hr
    · exact ⟨h.2.1, Qsq rs r.l h.2.2⟩
    · have := Qlh rs q.l h.2.2 r hr; exact ⟨Nat.lt_trans h.2.1 this.1, this.2⟩
theorem rise_weak : ∀ (l : List Rec) (a b : Nat), Qli a l -> b <= a -> Qli b l
  | [], _, _, _, _ => trivial
  | r :: rs, a, b, h, hb => ⟨h.1, Nat.lt_of_le_of_lt hb h.2.1, h.2.2⟩
theorem Qkh : ∀ (l : List Rec) (a i : Nat), Qli a l -> Qli (Qnb a (l.take i)) (l.drop i)
  | l, a, 0, h => by rw [List.take_zero, List.drop_zero]; exact h
  | [], _, _ + 1, _ => trivial
  | r :: rs, a, i + 1, h => Qkh rs r.l i h.2.2
theorem Qdj : ∀ (l : List Rec) (a i : Nat), Qnb (Qnb a (l.take i)) (l.drop i) = Qnb a l
  | l, a, 0 => by rw [List.take_zero, List.drop_zero]; rfl
  | [], _, _ + 1 => rfl
  | r :: rs, a, i + 1 => Qdj rs r.l i
theorem last_mono : ∀ (l : List Rec) (a b : Nat), a <= b -> Qnb a l <= Qnb b l
  | [], _, _, h => h
  | _ :: _, _, _, _ => Nat.le_refl _
theorem Qbn (l : List Rec) (i : Nat) (h : Qli 0 l) : Qnb 0 (l.drop i) <= Qnb 0 l := by
  rw [<- Qdj l 0 i]; exact last_mono _ _ _ (Nat.zero_le _)
theorem Qif : ∀ (l : List Rec) (a i : Nat), i < l.length -> Qnb a (l.take (i + 1)) = (l.getD i Rec.zero).l
  | [], _, _, h => absurd h (by simp)
  | r :: rs, a, 0, _ => by simp [Qnb]
  | r :: rs, a, i + 1, h => by
    have := Qif rs r.l i (by simpa using h); simpa [Qnb] using this
theorem Qbh : ∀ (l : List Rec) (f n : Nat), Qda l f n <= f /\ Qda l f n <= l.length
  | [], f, n => ⟨Nat.zero_le _, Nat.zero_le _⟩
  | r :: rs, 0, n => ⟨Nat.zero_le _, Nat.zero_le _⟩
  | r :: rs, f + 1, n => by
    have := Qbh rs f n; unfold Qda
    split
    · simp only [List.length_cons]; omega
    · exact ⟨Nat.zero_le _, Nat.zero_le _⟩
theorem Qck : ∀ (l : List Rec) (f n : Nat), ∀ r ∈ l.take (Qda l f n), r.l < n
  | [], f, n, r, h => by simp at h
  | q :: rs, 0, n, r, h => by simp [Qda] at h
  | q :: rs, f + 1, n, r, h => by
    unfold Qda at h
    split at h
    · rename_i hq; rw [List.take_succ_cons] at h
      rcases List.mem_cons.1 h with rfl | h
      · exact hq
      · exact Qck rs f n r h
    · simp at h
theorem Qbi : ∀ (l : List Rec) (f n : Nat), Qda l f n < f -> Qda l f n < l.length -> n <= (l.getD (Qda l f n) Rec.zero).l
  | [], f, n, _, h => absurd h (by simp)
  | q :: rs, 0, n, h, _ => absurd h (Nat.not_lt_zero _)
  | q :: rs, f + 1, n, h1, h2 => by
    unfold Qda at h1 h2 |-
    split
    · rename_i hq; rw [if_pos hq] at h1 h2; have := Qbi rs f n (by omega) (by simpa using h2); simpa using this
    · rename_i hq; simp only [List.getD_cons_zero]; omega
theorem Lg.see_ok (g : Lg) (h : g.ok) (n : Nat) : (g.see n).ok :=
  ⟨h.tok, h.on, h.fa, h.rise, by show Qnb 0 g.l <= max g.c (min n maxL); have := h.last; omega, by show max g.c (min n maxL) <= maxL; have := h.top; omega, h.bytes, h.fast, h.room, h.low, h.high, by show g.du <= max g.c (min n maxL); have := h.du; omega⟩
theorem Qfb (g : Lg) (h : g.ok) : g.l.length * 6 <= 65536 := by
  have h1 := Qob g.l; have h2 := Qcg g.l g.on; have h3 := congrArg List.length h.bytes; rw [Array.length_toList] at h3; have h4 : g.t.b.data.size = g.t.b.size := rfl; have h5 := h.room; have h6 := h.tok.room; unfold Lg.used at h5; omega
theorem Qgi (bs : List UInt8) : Qli 0 (Qgb bs).1 /\ bs.take (Qgb bs).2 = Qe (Qgb bs).1 /\ (Qgb bs).2 <= bs.length := Qal _ 0 bs
theorem Qvl : ∀ (l : List Rec) (a : Nat), Qli a l -> a <= maxL -> Qnb a l <= maxL
  | [], _, _, h => h
  | r :: rs, a, h, _ => Qvl rs r.l h.2.2 (by have := h.1.lm; unfold Qxe at this; unfold maxL; omega)
theorem Lg.open_ok (t : Tp) (h : t.ok) (base : Nat) : (Lg.open t base).ok := by
  obtain ⟨h1, h2, h3⟩ := Qgi t.b.data.toList; have hl := Qvl _ 0 h1 (Nat.zero_le _); have hsz : t.b.data.toList.length = t.b.size := by rw [Array.length_toList]; rfl
  have hc : t.chop ((Qgb t.b.data.toList).2 : Int) = ({ t with b := t.b.extract 0 (Qgb t.b.data.toList).2, f := min t.f (Qgb t.b.data.toList).2 }, 0) := by
    unfold Tp.chop; rw [if_neg (by omega)]; simp
  have hz : (t.b.extract 0 (Qgb t.b.data.toList).2).size = (Qgb t.b.data.toList).2 := by rw [ByteArray.size_extract]; omega
  have hd : (t.b.extract 0 (Qgb t.b.data.toList).2).data.toList = Qe (Qgb t.b.data.toList).1 := by
    have e := Qtc t.b 0 (Qgb t.b.data.toList).2 (by omega); rw [Nat.zero_add] at e; rw [e, <- h2]; simp
  have hlen : (Qe (Qgb t.b.data.toList).1).length = (Qgb t.b.data.toList).2 := by
    rw [<- h2, List.length_take]; omega
  have hco := t.chop_ok h ((Qgb t.b.data.toList).2 : Int); rw [hc] at hco; unfold Lg.open; rw [hc]
  refine ⟨Tp.sync_ok _ hco, Nat.le_refl _, Nat.le_refl _, h1, ?_, ?_, ?_, ?_, ?_, ?_, ?_, ?_⟩
  · show Qnb 0 (Qgb t.b.data.toList).1 <= max (max 0 (min base maxL)) (min (Qnb 0 (Qgb t.b.data.toList).1) maxL); omega
  · show max (max 0 (min base maxL)) _ <= maxL; omega
  · show (t.b.extract 0 (Qgb t.b.data.toList).2).data.toList = Qe ((Qgb t.b.data.toList).1.take (Qgb t.b.data.toList).1.length); rw [List.take_length, hd]
  · show (t.b.extract 0 (Qgb t.b.data.toList).2).size = (Qe ((Qgb t.b.data.toList).1.take (Qgb t.b.data.toList).1.length)).length; rw [List.take_length, hz, hlen]
  · show (t.b.extract 0 (Qgb t.b.data.toList).2).size + (Qe ((Qgb t.b.data.toList).1.drop (Qgb t.b.data.toList).1.length)).length + 0 <= t.m; rw [List.drop_length, hz]; have := h.few; simp [Qe]; omega
  · intro r hr; rw [List.take_length] at hr; exact (Qlh _ 0 h1 r hr).2
  · intro r hr; rw [List.drop_length] at hr; nomatch hr
  · show Qnb 0 (Qgb t.b.data.toList).1 <= max (max 0 (min base maxL)) (min (Qnb 0 (Qgb t.b.data.toList).1) maxL); omega
theorem Lg.app_no (g : Lg) (r : Rec) (f : Nat) (h : Int) (he : g.appE r f h ≠ 0) : g.app r f h = g /\ g.appN r f h = 0 := by
  unfold Lg.app Lg.appN; rw [if_neg he, if_neg he]; exact ⟨rfl, rfl⟩
theorem Lg.app_yes (g : Lg) (r : Rec) (f : Nat) (h : Int) (he : g.appE r f h = 0) : g.app r f h = { g with c := g.num f, hd := g.hold h, l := g.l ++ [r.put (g.num f)] } /\ g.appN r f h = g.num f := by
  unfold Lg.app Lg.appN; rw [if_pos he, if_pos he]; exact ⟨rfl, rfl⟩
theorem Lg.appE_ok (g : Lg) (r : Rec) (f : Nat) (h : Int) (he : g.appE r f h = 0) : r.l = 0 /\ -65536 <= h /\ h <= 65536 /\ Qmu g.c f (decide (h < 0)) = false /\ (r.put (g.num f)).right /\ g.used + (Qea (r.put (g.num f))).length + g.hold h <= g.t.m := by
  unfold Lg.appE at he
  split at he
  · omega
  split at he
  · omega
  split at he
  · omega
  split at he
  · omega
  rename_i h1 h2 h3 h4; have h3' := Classical.not_not.1 h3; refine ⟨by omega, by omega, by omega, by simpa using h2, h3', by omega⟩
theorem Qfg (r : Rec) : Qe [r] = Qea r := by simp [Qe]
theorem Lg.app_ok (g : Lg) (hg : g.ok) (r : Rec) (f : Nat) (h : Int) : (g.app r f h).ok := by
  by_cases he : g.appE r f h = 0
  · rw [(g.app_yes r f h he).1]; obtain ⟨h1, h2, h3, h4, h5, h6⟩ := g.appE_ok r f h he; have hon := hg.on; have hfa := hg.fa; have hnl : (r.put (g.num f)).l = g.num f := rfl
    have htop : g.num f <= maxL := by
      have := h5.lm; rw [hnl] at this; unfold Qxe at this; unfold maxL; omega
    have hnum : g.c < g.num f := by unfold Lg.num; omega
    have hlast := hg.last
    refine ⟨hg.tok, ?_, hg.fa, ?_, ?_, htop, ?_, ?_, ?_, ?_, ?_, ?_⟩
    · show g.on <= (g.l ++ [_]).length; rw [List.length_append]; omega
    · show Qli 0 (g.l ++ [_]); rw [Qdh]; exact ⟨hg.rise, h5, by rw [hnl]; omega⟩
    · show Qnb 0 (g.l ++ [_]) <= g.num f; rw [Qfh, hnl]; exact Nat.le_refl _
    · show g.t.b.data.toList = Qe ((g.l ++ [_]).take g.on); rw [List.take_append_of_le_length hon]; exact hg.bytes
    · show g.t.f = (Qe ((g.l ++ [_]).take g.fa)).length; rw [List.take_append_of_le_length (by omega)]; exact hg.fast
    · show g.t.b.size + (Qe ((g.l ++ [_]).drop g.on)).length + g.hold h <= g.t.m; rw [List.drop_append_of_le_length hon, Qlc, List.length_append, Qfg]; unfold Lg.used at h6; omega
    · intro q hq; have hq' : q ∈ (g.l ++ [r.put (g.num f)]).take g.fa := hq; rw [List.take_append_of_le_length (by omega)] at hq'; exact hg.low q hq'
    · intro q hq; have hq' : q ∈ (g.l ++ [r.put (g.num f)]).drop g.fa := hq; rw [List.drop_append_of_le_length (by omega)] at hq'
      rcases List.mem_append.1 hq' with hq' | hq'
      · exact hg.high q hq'
      · rw [List.mem_singleton.1 hq', hnl]; exact Nat.lt_of_le_of_lt hg.du hnum
    · exact Nat.le_trans hg.du (Nat.le_of_lt hnum)
  · rw [(g.app_no r f h he).1]; exact hg
theorem Lg.write_app (g : Lg) (hg : g.ok) : g.t.app (Qhe (g.l.drop g.on)) = ({ g.t with b := g.t.b ++ Qhe (g.l.drop g.on) }, 0) := by
  have h1 := hg.room; unfold Lg.used at h1; unfold Tp.app; rw [Qhk, if_neg (by omega)]
theorem data_append (a b : ByteArray) : (a ++ b).data.toList = a.data.toList ++ b.data.toList := by
  rw [ByteArray.data_append, Array.toList_append]
theorem Lg.write_ok (g : Lg) (hg : g.ok) : g.write.ok := by
  have ht := g.t.app_ok hg.tok (Qhe (g.l.drop g.on)); have e := g.write_app hg; have h1 := hg.room; unfold Lg.used at h1; unfold Lg.write; rw [e] at ht |-
  refine ⟨ht, Nat.le_refl _, Nat.le_trans hg.fa hg.on, hg.rise, hg.last, hg.top, ?_, hg.fast, ?_, hg.low, hg.high, hg.du⟩
  · show (g.t.b ++ Qhe (g.l.drop g.on)).data.toList = Qe (g.l.take g.l.length); rw [data_append, Qpq, hg.bytes, List.take_length, <- Qii]
  · show (g.t.b ++ Qhe (g.l.drop g.on)).size + (Qe (g.l.drop g.l.length)).length + g.hd <= g.t.m; rw [ByteArray.size_append, Qhk, List.drop_length]; have h0 : (Qe []).length = 0 := rfl; rw [h0]; omega
theorem Lg.sync_ok (g : Lg) (hg : g.ok) : g.sync.ok := by
  have hb := congrArg List.length hg.bytes; rw [Array.length_toList] at hb
  have hdu : ∀ r ∈ g.l.take g.on, r.l <= g.sync.du := by
    intro r hr
    have h0 : 0 < g.on := by
      rcases Nat.eq_zero_or_pos g.on with h | h
      · rw [h] at hr; simp at hr
      · exact h
    have hm := (Qlh _ 0 (Qxk g.l 0 g.on hg.rise) r hr).2; have e := Qif g.l 0 (g.on - 1) (by have := hg.on; omega); rw [Nat.sub_add_cancel h0] at e; show r.l <= if 0 < g.on then (g.l.getD (g.on - 1) Rec.zero).l else g.du
    rw [if_pos h0, <- e]; exact hm
  have hlast : g.sync.du <= Qnb 0 (g.l.take g.on) ∨ g.sync.du = g.du /\ g.on = 0 := by
    show (if 0 < g.on then (g.l.getD (g.on - 1) Rec.zero).l else g.du) <= _ ∨ _
    by_cases h0 : 0 < g.on
    · have e := Qif g.l 0 (g.on - 1) (by have := hg.on; omega); rw [Nat.sub_add_cancel h0] at e; rw [if_pos h0, <- e]; exact .inl (Nat.le_refl _)
    · refine .inr ⟨?_, by omega⟩; show (if 0 < g.on then (g.l.getD (g.on - 1) Rec.zero).l else g.du) = g.du; rw [if_neg h0]
  refine ⟨g.t.sync_ok hg.tok, hg.on, Nat.le_refl _, hg.rise, hg.last, hg.top, hg.bytes, ?_, hg.room, hdu, ?_, ?_⟩
  · show g.t.b.size = (Qe (g.l.take g.on)).length; exact hb
  · intro r hr; have hr' : r ∈ g.l.drop g.on := hr
    rcases hlast with h | ⟨h, h0⟩
    · have := (Qlh _ _ (Qkh g.l 0 g.on hg.rise) r hr').1; omega
    · rw [h]; have hf := hg.fa; exact hg.high r (by rw [show g.fa = 0 by omega, List.drop_zero]; rw [h0, List.drop_zero] at hr'; exact hr')
  · show g.sync.du <= g.c
    rcases hlast with h | ⟨h, _⟩
    · have h1 := Qdj g.l 0 g.on; have h2 := Qsq _ _ (Qkh g.l 0 g.on hg.rise); have h3 := hg.last; omega
    · rw [h]; exact hg.du
theorem Lg.trim_k (g : Lg) (hg : g.ok) (n : Nat) : Qda g.l g.fa n <= g.fa /\ (Qe (g.l.take (Qda g.l g.fa n))).length <= g.t.f := by
  have h := (Qbh g.l g.fa n).1; exact ⟨h, by rw [hg.fast]; exact Qyj g.l _ _ h⟩
theorem Lg.trim_cut (g : Lg) (hg : g.ok) (n : Nat) : g.t.cut ((Qe (g.l.take (Qda g.l g.fa n))).length : Int) = (⟨g.t.b.extract (Qe (g.l.take (Qda g.l g.fa n))).length g.t.b.size, g.t.f - (Qe (g.l.take (Qda g.l g.fa n))).length, g.t.m, (g.t.s + (Qe (g.l.take (Qda g.l g.fa n))).length) % 18446744073709551616⟩, 0) := by
  have h := (g.trim_k hg n).2; unfold Tp.cut; rw [if_neg (by omega)]; simp
theorem Lg.trim_ok (g : Lg) (hg : g.ok) (n : Nat) : (g.trim n).ok := by
  have hc := g.t.cut_ok hg.tok ((Qe (g.l.take (Qda g.l g.fa n))).length : Int); have e := g.trim_cut hg n; obtain ⟨hk, hkf⟩ := g.trim_k hg n; have hon := hg.on; have hfa := hg.fa; have hff := hg.tok.fast; unfold Lg.trim; rw [e] at hc |-; generalize Qda g.l g.fa n = k at *; have hb : g.t.b.data.toList.length = g.t.b.size := by rw [Array.length_toList]; rfl
  have htk : ∀ j, k <= j -> (g.l.drop k).take (j - k) = (g.l.take j).drop k := fun j hj => by rw [List.drop_take]
  have hsplit : ∀ j, k <= j -> Qe (g.l.take j) = Qe (g.l.take k) ++ Qe ((g.l.take j).drop k) := fun j hj => by
    have := Qii (g.l.take j) k; rwa [List.take_take, Nat.min_eq_left hj] at this
  have hdat : (g.t.b.extract (Qe (g.l.take k)).length g.t.b.size).data.toList = Qe ((g.l.take g.on).drop k) := by
    have e2 := Qtc g.t.b (Qe (g.l.take k)).length (g.t.b.size - (Qe (g.l.take k)).length) (by omega); rw [show (Qe (g.l.take k)).length + (g.t.b.size - (Qe (g.l.take k)).length) = g.t.b.size by omega] at e2; rw [e2]; simp only; rw [List.take_of_length_le (by rw [List.length_drop]; omega), hg.bytes, hsplit g.on (by omega), List.drop_left' rfl]
  have hsz : (g.t.b.extract (Qe (g.l.take k)).length g.t.b.size).size = g.t.b.size - (Qe (g.l.take k)).length := by rw [ByteArray.size_extract]; omega
  refine ⟨hc, ?_, ?_, ?_, ?_, hg.top, ?_, ?_, ?_, ?_, ?_, hg.du⟩
  · show g.on - k <= (g.l.drop k).length; rw [List.length_drop]; omega
  · show g.fa - k <= g.on - k; omega
  · exact rise_weak _ _ 0 (Qkh g.l 0 k hg.rise) (Nat.zero_le _)
  · exact Nat.le_trans (Qbn g.l k hg.rise) hg.last
  · show _ = Qe ((g.l.drop k).take (g.on - k)); rw [hdat, htk g.on (by omega)]
  · show g.t.f - (Qe (g.l.take k)).length = (Qe ((g.l.drop k).take (g.fa - k))).length; rw [htk g.fa hk, hg.fast, hsplit g.fa hk, List.length_append]; omega
  · show (g.t.b.extract (Qe (g.l.take k)).length g.t.b.size).size + (Qe ((g.l.drop k).drop (g.on - k))).length + g.hd <= g.t.m; rw [hsz, List.drop_drop, show k + (g.on - k) = g.on by omega]; have := hg.room; unfold Lg.used at this; omega
  · intro r hr; have hr' : r ∈ (g.l.drop k).take (g.fa - k) := hr; rw [htk g.fa hk] at hr'; exact hg.low r (List.mem_of_mem_drop hr')
  · intro r hr; have hr' : r ∈ (g.l.drop k).drop (g.fa - k) := hr; rw [List.drop_drop, show k + (g.fa - k) = g.fa by omega] at hr'; exact hg.high r hr'
def Qnh (w : World) (b : Nat) (c : Ch) : Prop := w.heap[b]? = some (.cells (chA c) 30 (0, 0))
theorem Qnh.all {w : World} {b : Nat} {c : Ch} (h : Qnh w b c) : w.cell? ⟨b, 0, none⟩ = some (.int .i64 c.k) /\ w.cell? ⟨b, 1, none⟩ = some (.int .i64 c.pg) /\ w.cell? ⟨b, 2, none⟩ = some (.int .i64 c.sl) /\ w.cell? ⟨b, 3, none⟩ = some (.string c.o) /\ w.cell? ⟨b, 4, none⟩ = some (.string c.n) := by
  refine ⟨?_, ?_, ?_, ?_, ?_⟩ <;> (rw [cell_of_row w b _ _ _ (0, 0) h]; rfl)
theorem Qlg : (Tryz.prog.info? 30).map (·.size) = some 5 := by kernel_rfl
theorem Qcp (c : Ch) : (chA c).all (·.oneCell') = true := by simp [chA, Value.oneCell']
def Has (x : World) : List (Nat × TypeId × Array Value) -> Prop
  | [] => True
  | e :: l => Qd x e.1 e.2.1 e.2.2 /\ Has x l
theorem Has.later {x y : World} (hb : Below x.heap.size x y) : ∀ {l : List (Nat × TypeId × Array Value)}, Has x l -> Has y l
  | [], _ => trivial
  | _ :: _, h => ⟨h.1.later hb, h.2.later hb⟩
theorem Has.drew {x : World} : ∀ {l : List (Nat × TypeId × Array Value)}, Has x l -> Has x.drew l
  | [], _ => trivial
  | _ :: _, h => ⟨h.1, h.2.drew⟩
def Qp (w x : World) (l : List (Nat × TypeId × Array Value)) : Prop := Has x l /\ Below w.heap.size w x
theorem Qp.later {w x y : World} {l : List (Nat × TypeId × Array Value)} (h : Qp w x l) (hb : Below x.heap.size x y) : Qp w y l := ⟨h.1.later hb, h.2.trans (hb.mono h.2.size)⟩
theorem Qp.drew {w x : World} {l : List (Nat × TypeId × Array Value)} (h : Qp w x l) : Qp w x.drew l := ⟨h.1.drew, ⟨h.2.1, h.2.2, h.2.3, h.2.4, h.2.5⟩⟩
theorem Qp.more {w x y : World} {l : List (Nat × TypeId × Array Value)} (h : Qp w x l) (hb : Below x.heap.size x y) {b : Nat} {t : TypeId} {cs : Array Value} (hr : Qd y b t cs) : Qp w y ((b, t, cs) :: l) :=
  ⟨⟨hr, h.1.later hb⟩, (h.later hb).2⟩
theorem Qp.laid {w x y : World} {l : List (Nat × TypeId × Array Value)} (h : Qp w x l) {o : Obj} {t : TypeId} {cs : Array Value} (hr : Qd y x.heap.size t cs) (hk : ∀ B w0, Below B w0 (x.alloc o) -> B <= x.heap.size -> Below B w0 y) : Qp w y ((x.heap.size, t, cs) :: l) :=
  h.more (hk _ _ ((Below.refl x.heap.size x).alloc (Nat.le_refl _) _) (Nat.le_refl _)) hr
theorem Qp.one (w : World) (t : TypeId) (cs : Array Value) : Qp w (w.alloc (.cells cs t)) [(w.heap.size, t, cs)] :=
  ⟨⟨Qd.new w t cs, trivial⟩, (Below.refl w.heap.size w).alloc (Nat.le_refl _) _⟩
theorem Qp.two (w : World) (t t2 : TypeId) (cs ds : Array Value) : Qp w ((w.alloc (.cells cs t)).alloc (.cells ds t2)) [(w.heap.size + 1, t2, ds), (w.heap.size, t, cs)] := by
  have e1 : (w.alloc (.cells cs t)).heap.size = w.heap.size + 1 := by simp
  have h := (Qp.one w t cs).more ((Below.refl _ (w.alloc (.cells cs t))).alloc (Nat.le_refl _) (.cells ds t2)) (Qd.new (w.alloc (.cells cs t)) t2 ds); rw [e1] at h; exact h
theorem Qp.three (w : World) (t t2 t3 : TypeId) (cs ds es : Array Value) : Qp w (((w.alloc (.cells cs t)).alloc (.cells ds t2)).alloc (.cells es t3)) [(w.heap.size + 1 + 1, t3, es), (w.heap.size + 1, t2, ds), (w.heap.size, t, cs)] := by
  have e1 : ((w.alloc (.cells cs t)).alloc (.cells ds t2)).heap.size = w.heap.size + 1 + 1 := by simp
  have h := (Qp.two w t t2 cs ds).more ((Below.refl _ ((w.alloc (.cells cs t)).alloc (.cells ds t2))).alloc (Nat.le_refl _) (.cells es t3)) (Qd.new ((w.alloc (.cells cs t)).alloc (.cells ds t2)) t3 es); rw [e1] at h; exact h
def Qsc {α : Type} (f : α -> Array Value) (z : α) (n : Nat) (w : World) (v : Value) (xs : List α) : Prop :=
  ∃ a cap, v = .slice a xs.length cap /\ (0 < xs.length -> ∃ b off, a = some ⟨b, off, none⟩ /\ b < w.heap.size /\ ∀ i, i < xs.length -> w.rangeAt b (off + i * n) (f (xs.getD i z)).toList)
theorem Qma {w w' : World} {b o B : Nat} {cs : List Value} (h : w.rangeAt b o cs) (hb : Below B w w') (hB : b < B) : w'.rangeAt b o cs := fun j v hv => by
  rw [hb.cell (p := ⟨b, o + j, none⟩) hB]; exact h j v hv
theorem Qsc.below {α : Type} {f : α -> Array Value} {z : α} {n : Nat} {w w' : World} {v : Value} {xs : List α} (h : Qsc f z n w v xs) (hb : Below w.heap.size w w') : Qsc f z n w' v xs := by
  obtain ⟨a, cap, h1, h2⟩ := h; refine ⟨a, cap, h1, fun hp => ?_⟩; obtain ⟨b, off, h3, h4, h5⟩ := h2 hp; exact ⟨b, off, h3, Nat.lt_of_lt_of_le h4 hb.size, fun i hi => Qma (h5 i hi) hb h4⟩
def rcA (r : Rec) (va vb : Value) : Array Value := #[.int .i64 r.k, .int .u64 (r.l : Int), .int .i64 r.t, .int .u64 (r.p : Int), .int .i64 r.c.k, .int .i64 r.c.pg, .int .i64 r.c.sl, .string r.c.o, .string r.c.n, .int .u64 (r.n : Int), .int .i64 r.s, .int .u64 (r.b : Int), va, vb]
def txA (x : Tx) : Array Value := #[.int .i64 x.t, .int .i64 x.s, .int .u64 (x.f : Int), .int .u64 (x.l : Int), .int .u64 (x.n : Int)]
def diA (d : Di) : Array Value := #[.int .i64 d.p, .int .u64 (d.r : Int)]
theorem Qj : (Tryz.prog.info? 34).map (·.size) = some 14 := by kernel_rfl
theorem Qkf : (Tryz.prog.info? 109).map (·.size) = some 5 := by kernel_rfl
theorem Qjg : (Tryz.prog.info? 111).map (·.size) = some 2 := by kernel_rfl
theorem Qkj (x : Tx) : (txA x).all (·.oneCell') = true := by simp [txA, Value.oneCell']
theorem Qim (d : Di) : (diA d).all (·.oneCell') = true := by simp [diA, Value.oneCell']
abbrev TxIn := Qsc txA Tx.zero 5
abbrev DiIn := Qsc diA Di.zero 2
def Qjb (w : World) (r : Rec) (va vb : Value) : Prop := TxIn w va r.ts /\ DiIn w vb r.ds
theorem Qjb.below {w w' : World} {r : Rec} {va vb : Value} (h : Qjb w r va vb) (hb : Below w.heap.size w w') : Qjb w' r va vb := ⟨h.1.below hb, h.2.below hb⟩
def Ch.fits (c : Ch) : Prop := (Lit.int .i64 c.k).wf = true /\ (Lit.int .i64 c.pg).wf = true /\ (Lit.int .i64 c.sl).wf = true /\ c.o.size <= maxLen /\ c.n.size <= maxLen
abbrev Ch.like (a b : Ch) : Prop := a.k = b.k /\ a.pg = b.pg /\ a.sl = b.sl /\ a.o = b.o /\ a.n = b.n
theorem Qss (a b : Ch) : a.like b ↔ a = b := by
  constructor
  · rintro ⟨h1, h2, h3, h4, h5⟩; cases a; cases b; simp_all
  · rintro rfl; exact ⟨rfl, rfl, rfl, rfl, rfl⟩
def Tx.fits (x : Tx) : Prop := (Lit.int .i64 x.t).wf = true /\ (Lit.int .i64 x.s).wf = true /\ (Lit.int .u64 (x.f : Int)).wf = true /\ (Lit.int .u64 (x.l : Int)).wf = true /\ (Lit.int .u64 (x.n : Int)).wf = true
def Di.fits (d : Di) : Prop := (Lit.int .i64 d.p).wf = true /\ (Lit.int .u64 (d.r : Int)).wf = true
structure Rec.fits (r : Rec) : Prop where
  c : r.c.fits
  tl : r.ts.length <= maxLen
  dl : r.ds.length <= maxLen
  ts : ∀ x ∈ r.ts, x.fits
  ds : ∀ d ∈ r.ds, d.fits
def Qcq (x : Tx) : List Lit := [.int .i64 x.t, .int .i64 x.s, .int .u64 (x.f : Int), .int .u64 (x.l : Int), .int .u64 (x.n : Int)]
def Qbq (d : Di) : List Lit := [.int .i64 d.p, .int .u64 (d.r : Int)]
theorem litsT_iff (x y : Tx) : Qcq x = Qcq y ↔ x = y := by
  unfold Qcq; simp only [List.cons.injEq, and_true, Lit.int.injEq, true_and, Int.ofNat_inj]
  constructor
  · rintro ⟨h1, h2, h3, h4, h5⟩; cases x; cases y; simp_all
  · rintro rfl; exact ⟨rfl, rfl, rfl, rfl, rfl⟩
theorem litsD_iff (x y : Di) : Qbq x = Qbq y ↔ x = y := by
  unfold Qbq; simp only [List.cons.injEq, and_true, Lit.int.injEq, true_and, Int.ofNat_inj]
  constructor
  · rintro ⟨h1, h2⟩; cases x; cases y; simp_all
  · rintro rfl; exact ⟨rfl, rfl⟩
theorem lits_tx (x : Tx) (h : x.fits) : Tryz.prog.keyLits 2 109 (txA x).toList = some (Qcq x) := by
  have e0 : Tryz.prog.cellsOf 3 = 1 := by kernel_rfl
  have e1 : Tryz.prog.cellsOf 22 = 1 := by kernel_rfl
  have e2 : Tryz.prog.cellsOf 109 = 5 := by kernel_rfl
  obtain ⟨h1, h2, h3, h4, h5⟩ := h; simp [Program.keyLits, Tryz.underlying109, Tryz.underlying3, Tryz.underlying22, e0, e1, e2, txA, Qcq, h1, h2, h3, h4, h5]
theorem lits_di (x : Di) (h : x.fits) : Tryz.prog.keyLits 2 111 (diA x).toList = some (Qbq x) := by
  have e0 : Tryz.prog.cellsOf 3 = 1 := by kernel_rfl
  have e1 : Tryz.prog.cellsOf 22 = 1 := by kernel_rfl
  have e2 : Tryz.prog.cellsOf 111 = 2 := by kernel_rfl
  obtain ⟨h1, h2⟩ := h; simp [Program.keyLits, Tryz.underlying111, Tryz.underlying3, Tryz.underlying22, e0, e1, e2, diA, Qbq, h1, h2]
theorem Qcl (x y : Tx) (hx : x.fits) (hy : y.fits) (q : Bool) (hq : q = false ↔ x = y) (w : World) : (binOp .neq 109 (.agg (txA x)) (.agg (txA y))).run Tryz.prog w = .ok (.bool q) w := by
  obtain ⟨r, hr, hiff⟩ := run_equalIn_deep (P := Tryz.prog) 9998 2 109 (by kernel_rfl) w 2 2 (.agg (txA x)) (.agg (txA y)) (Qcq x) (Qcq y) (by kernel_rfl) (by kernel_rfl) (lits_tx x hx) (lits_tx y hy); rw [litsT_iff, <- hq] at hiff; have e : r = !q := by cases r <;> cases q <;> simp_all
  rw [e] at hr; have hr2 : (Op.equal 109 (.agg (txA x)) (.agg (txA y))).run Tryz.prog w = .ok (!q) w := hr; simp [binOp, hr2]
theorem Qbl (x y : Di) (hx : x.fits) (hy : y.fits) (q : Bool) (hq : q = false ↔ x = y) (w : World) : (binOp .neq 111 (.agg (diA x)) (.agg (diA y))).run Tryz.prog w = .ok (.bool q) w := by
  obtain ⟨r, hr, hiff⟩ := run_equalIn_deep (P := Tryz.prog) 9998 2 111 (by kernel_rfl) w 2 2 (.agg (diA x)) (.agg (diA y)) (Qbq x) (Qbq y) (by kernel_rfl) (by kernel_rfl) (lits_di x hx) (lits_di y hy); rw [litsD_iff, <- hq] at hiff; have e : r = !q := by cases r <;> cases q <;> simp_all
  rw [e] at hr; have hr2 : (Op.equal 111 (.agg (diA x)) (.agg (diA y))).run Tryz.prog w = .ok (!q) w := hr; simp [binOp, hr2]
theorem Qhr (op : BinOp) (x y : Operand) (c d : Tx) (w : World) : (eqGuard op 109 x y (.agg (txA c)) (.agg (txA d))).run Tryz.prog w = .ok () w := run_eqGuard_agg (P := Tryz.prog) w op 109 x y (txA c) (txA d) (by kernel_rfl)
theorem Qas (op : BinOp) (x y : Operand) (c d : Di) (w : World) : (eqGuard op 111 x y (.agg (diA c)) (.agg (diA d))).run Tryz.prog w = .ok () w := run_eqGuard_agg (P := Tryz.prog) w op 111 x y (diA c) (diA d) (by kernel_rfl)
theorem Qsd {α : Type} (xs : List α) (i : Nat) (z : α) (h : i < xs.length) : xs.getD i z ∈ xs := by
  rw [List.getD_eq_getElem?_getD, List.getElem?_eq_getElem h]; exact List.getElem_mem h
theorem Qvg {α : Type} {xs ys : List α} {z : α} (hl : xs.length = ys.length) (h : ∀ i, i < xs.length -> xs.getD i z = ys.getD i z) : xs = ys := by
  apply List.ext_getElem hl; intro i h1 h2; have := h i h1; rwa [List.getD_eq_getElem?_getD, List.getD_eq_getElem?_getD, List.getElem?_eq_getElem h1, List.getElem?_eq_getElem h2] at this
theorem Qam (y : World) (b k : Nat) (x : Tx) (h : y.rangeAt b k (txA x).toList) : (Instr.loadAt 109 (.pointer (some ⟨b, k, none⟩))).run Tryz.prog y = .ok (.agg (txA x)) y := by
  have h1 := run_loadAt_mid (P := Tryz.prog) y b k 109 (txA x).toList _ h Tryz.underlying109 rfl (by rw [Qkf]; rfl); rwa [Array.toArray_toList] at h1
theorem Qzl (y : World) (b k : Nat) (x : Di) (h : y.rangeAt b k (diA x).toList) : (Instr.loadAt 111 (.pointer (some ⟨b, k, none⟩))).run Tryz.prog y = .ok (.agg (diA x)) y := by
  have h1 := run_loadAt_mid (P := Tryz.prog) y b k 111 (diA x).toList _ h Tryz.underlying111 rfl (by rw [Qjg]; rfl); rwa [Array.toArray_toList] at h1
section
section
variable {P : Program} {ops : Array Oper} {C : World -> Prop} {Q : Act -> Prop} {a : Act} {o : Oper} {rest : List Oper}
theorem Qn {id : Nat} {Q : Exit -> Act -> World -> Prop} {a : Act} {w : World} {l : List Oper} (C : World -> Prop) (hm : P.follows .mixedOrders = true) (hB : Region.lexB .any l.toArray = true) (hC : C w.drew)
    (h : wpQuiet P l.toArray C (fun a' => ∀ w', C w' -> Q .normal a' w') l a) : (Code.region id l.toArray true).wp P Q a w :=
  wp_region_quiet (C := C) hm hB hC (by simpa using h)
theorem Qng (hw : Region.wanted o (yielded ops a.tmps) = true) (v : Value) (hv : ∀ x, C x -> (execOp a.eval o).run P x = .ok (.value v) x) (h : wpQuiet P ops C Q rest (a.put o.dst v)) : wpQuiet P ops C Q (o :: rest) a :=
  BigFrame.wpQuiet_want hw fun K hK => ⟨v, fun x hx => by unfold Oper.quietAt; rw [hv x hx]; exact ⟨rfl, rfl⟩, hK _ h⟩
theorem Qb (hw : Region.wanted o (yielded ops a.tmps) = true) (t : TypeId) (x : Operand) (ho : o.op = .load t x) (u v : Value) (hu : a.eval x = u) (hv : ∀ y, C y -> (Instr.loadAt t u).run P y = .ok v y)
    (h : wpQuiet P ops C Q rest (a.put o.dst v)) : wpQuiet P ops C Q (o :: rest) a :=
  Qng hw v (fun y hy => by unfold execOp; simp only [ho, hu, Sem.run_bind, hv y hy, Result.andThen_ok, Sem.run_pure]) h
theorem Qia (hw : Region.wanted o (yielded ops a.tmps) = true) (op : BinOp) (t r : TypeId) (x y : Operand) (ho : o.op = .binOp op t x y r) (u v z : Value) (hu : a.eval x = u) (hv : a.eval y = v) (hg : ∀ w, (eqGuard op t x y u v).run P w = .ok () w)
    (hz : ∀ w, (binOp op t u v).run P w = .ok z w) (h : wpQuiet P ops C Q rest (a.put o.dst z)) : wpQuiet P ops C Q (o :: rest) a :=
  Qng hw z (fun w hw => by unfold execOp; simp only [ho, hu, hv, Sem.run_bind, hg w, hz w, Result.andThen_ok, Sem.run_pure]) h
theorem Ql (hw : Region.wanted o (yielded ops a.tmps) = true) (h : ∀ K : Act -> Prop, (∀ a, wpQuiet P ops C Q rest a -> K a) -> ∃ v, (∀ x : World, (execOp a.eval o).run P x = .ok (.value v) x) /\ K (a.put o.dst v)) : wpQuiet P ops C Q (o :: rest) a := by
  obtain ⟨v, h1, h2⟩ := h _ (fun _ h => h); exact Qng hw v (fun x _ => h1 x) h2
theorem Qi (hw : Region.wanted o (yielded ops a.tmps) = true) (f : FuncId) (args : Array Value) (v : Value) (he : ∀ x : World, (execOp a.eval o).run P x = .ok (.enter f args) x) (hc : ∀ x, C x -> Calls P f args x fun e x' => e = .returned v /\ C x')
    (h : wpQuiet P ops C Q rest (a.put o.dst v)) : wpQuiet P ops C Q (o :: rest) a :=
  BigFrame.wpQuiet_want hw fun K hK => ⟨v, fun x hx => by unfold Oper.quietAt; rw [he x]; exact ⟨rfl, hc x hx⟩, hK _ h⟩
end
end
theorem Qpa {P : Program} {ops : Array Oper} {rest : List Oper} {o : Oper} {a : Act} {w : World} {Q : Exit -> Act -> World -> Prop} (hw : Region.wanted o (yielded ops a.tmps) = true) (t : TypeId) (x : Operand) (ho : o.op = .load t x) (b k : Nat) (cs : Array Value)
    (hx : a.eval x = .pointer (some ⟨b, k, none⟩)) (hg : w.rangeAt b k cs.toList) (d : TypeDesc) (hu : P.underlying t = some d) (hd : d.isRow = true) (hi : (P.info? t).map (·.size) = some cs.size) (h : wpList P ops Q rest (a.put o.dst (.agg cs)) w) : wpList P ops Q (o :: rest) a w := by
  have h1 := run_loadAt_mid (P := P) w b k t cs.toList d hg hu hd (by rw [hi, Array.length_toList]); rw [Array.toArray_toList] at h1; exact Qxf hw (.agg cs) (by unfold execOp; simp only [ho, hx, Sem.run_bind, h1, Result.andThen_ok, Sem.run_pure]) h
theorem Qja {b j : Nat} (x : World) (v : Int) (h : x.cell? ⟨b, j, none⟩ = some (.int .i64 v)) : (Instr.loadAt 3 (.pointer (some ⟨b, j, none⟩))).run Tryz.prog x = .ok (.int .i64 v) x := by go_simp
theorem Qch {b j : Nat} (x : World) (a : Option Addr) (n cap : Nat) (h : x.cell? ⟨b, j, none⟩ = some (.slice a n cap)) : (Instr.loadAt 31 (.pointer (some ⟨b, j, none⟩))).run Tryz.prog x = .ok (.slice a n cap) x := by go_simp
theorem Quf {b j : Nat} (x : World) (a : Option Addr) (n cap : Nat) (h : x.cell? ⟨b, j, none⟩ = some (.slice a n cap)) : (Instr.loadAt 32 (.pointer (some ⟨b, j, none⟩))).run Tryz.prog x = .ok (.slice a n cap) x := by go_simp
theorem Qoe {p : Nat -> Prop} {j : Nat} (h : ∀ i, i < j -> p i) (hj : p j) : ∀ i, i < j + 1 -> p i := by
  intro i hi
  by_cases hij : i = j
  · subst hij; exact hj
  · exact h i (by omega)
theorem eqtx_at (va vb : Value) (xs ys : List Tx) (w : World) (q : Bool) (Hq : Hid (q = true ↔ xs = ys)) (hx : TxIn w va xs) (hy : TxIn w vb ys) (fx : ∀ x ∈ xs, x.fits) (fy : ∀ x ∈ ys, x.fits) (lx : xs.length <= maxLen) :
    Calls Tryz.prog 125 #[va, vb] w fun e w' => e = .returned (.bool q) /\ Below w.heap.size w w' := by
  have HX := Qa hx; have HY := Qa hy; have HFX := Qa fx; have HFY := Qa fy; have hml : maxLen = 9223372036854775807 := rfl; obtain ⟨a1, cap1, rfl, -⟩ := hx; obtain ⟨a2, cap2, rfl, -⟩ := hy; clear fx fy; have hb0 := Below.refl w.heap.size w; by_cases hl : xs.length = ys.length
  case neg =>
    obtain rfl : q = false := by
      cases q
      · rfl
      · exact absurd (congrArg List.length (Hq.out.1 rfl)) hl
    have i1 : ((xs.length : Int) == (ys.length : Int)) = false := by rw [beq_eq_false_iff_ne]; omega
    have i2 : ((xs.length : Int) != (ys.length : Int)) = true := by rw [bne, i1]; rfl
    clear Hq HX HY HFX HFY lx hml; generalize xs.length = n1 at *; generalize ys.length = n2 at *; go_enter Tryz.func125, Tryz.ntmps125; go_wp2; go_ret; exact ⟨rfl, hb0⟩
  have i1 : ((xs.length : Int) != (ys.length : Int)) = false := by rw [bne, hl, beq_self_eq_true]; rfl
  have i2 : ((xs.length : Int) == (ys.length : Int)) = true := by rw [hl]; exact beq_self_eq_true _
  have HL := Qa hl; clear hl; rw [<- HL.out] at i1 i2 |-; go_enter Tryz.func125, Tryz.ntmps125; go_wp2; go_loopw [13, 5] (fun v _ wr => ∃ j : Nat, j <= xs.length /\ v = .int .i64 j /\ Below w.heap.size w wr /\ ∀ i, i < j -> xs.getD i Tx.zero = ys.getD i Tx.zero) (fun v _ _ => xs.length - (intOf v).toNat)
  case atStart => exact ⟨0, Nat.zero_le _, rfl, Below.refl _ _, fun i hi => absurd hi (by omega)⟩
  case round =>
    obtain ⟨j, hj, rfl, hb, hat⟩ := hrel; have HAT := Qa hat; have HB := Qa hb; clear hat hb hb0
    by_cases hlt : j < xs.length
    · have jlt : (j : Int) < (xs.length : Int) := by omega
      obtain ⟨u1, k1, e1, hrow1⟩ := HX.out.below HB.out; obtain ⟨u2, k2, e2, hrow2⟩ := HY.out.below HB.out; rw [<- HL.out] at e2; cases e1; cases e2; obtain ⟨b1, off1, rfl, -, hc1⟩ := hrow1 (by omega); obtain ⟨b2, off2, rfl, -, hc2⟩ := hrow2 (by rw [<- HL.out]; omega); have HR1 := Qa (hc1 j hlt); have HR2 := Qa (hc2 j (by rw [<- HL.out]; exact hlt)); clear hrow1 hrow2 hc1 hc2; have HF1 := Qa (HFX.out _ (Qsd xs j Tx.zero hlt)); have HF2 := Qa (HFY.out _ (Qsd ys j Tx.zero (by rw [<- HL.out]; exact hlt))); obtain ⟨x, hx⟩ : ∃ x, x = xs.getD j Tx.zero := ⟨_, rfl⟩; obtain ⟨y, hy⟩ : ∃ y, y = ys.getD j Tx.zero := ⟨_, rfl⟩; have HXY : Hid (x = xs.getD j Tx.zero /\ y = ys.getD j Tx.zero) := ⟨hx, hy⟩; rw [<- hx] at HR1 HF1; rw [<- hy] at HR2 HF2; clear hx hy; have hc := Qa (Classical.em (x = y)); obtain ⟨p, hp⟩ : ∃ p : Bool, p = false ↔ x = y := ⟨!(@decide (x = y) (Classical.propDecidable _)), by simp⟩; have HP := Qa hp; clear hp; go_wp2_with fail; refine Qn (fun z => Below w.heap.size w z /\ z.rangeAt b1 (off1 + j * 5) (txA x).toList /\ z.rangeAt b2 (off2 + j * 5) (txA y).toList) (by kernel_rfl) (by kernel_rfl) ⟨⟨HB.out.1, HB.out.2, HB.out.3, HB.out.4, HB.out.5⟩, HR1.out, HR2.out⟩ ?_; clear HB HR1 HR2
      repeat (first
        | go_big_quiet_skip
        | (refine Qb rfl 109 (.tmp 18) rfl _ (.agg (txA x)) rfl (fun z hz => Qam z b1 _ x hz.2.1) ?_; simp only [Act.put, List.setIfInBounds_toArray, List.set])
        | (refine Qb rfl 109 (.tmp 22) rfl _ (.agg (txA y)) rfl (fun z hz => Qam z b2 _ y hz.2.2) ?_; simp only [Act.put, List.setIfInBounds_toArray, List.set])
        | (refine Qia rfl .neq 109 _ (.tmp 19) (.tmp 23) rfl (.agg (txA x)) (.agg (txA y)) (.bool p) rfl rfl (fun z => Qhr .neq _ _ x y z) (fun z => Qcl x y HF1.out HF2.out p HP.out z) ?_; simp only [Act.put, List.setIfInBounds_toArray, List.set])
        | (refine Ql rfl (fun K hK => ?_); go_simp; refine hK _ ?_; clear hK K))
      refine wpQuiet_nil ?_; intro w3 h3; have H3 := Qa h3.1; clear h3
      cases p
      · have HE := Qa (HP.out.1 rfl); clear HP hc; go_wp2; go_roundw
        case rel => exact ⟨j + 1, by omega, by go_num, H3.out, Qoe HAT.out (by rw [<- HXY.out.1, <- HXY.out.2]; exact HE.out)⟩
        case measure => simp [intOf]; omega
      · obtain rfl : q = false := by
          cases q
          · rfl
          · have h1 := Hq.out.1 rfl; exact absurd (HP.out.2 (by rw [HXY.out.1, HXY.out.2, h1])) (by simp)
        have d3 := H3.out; clear Hq HP hc HXY HAT HX HY HFX HFY HF1 HF2 H3; go_wp2; go_ret; exact ⟨rfl, d3⟩
    · obtain rfl : j = xs.length := by omega
      obtain rfl : q = true := Hq.out.2 (Qvg (z := Tx.zero) HL.out HAT.out); have d3 := HB.out; clear Hq HAT HX HY HFX HFY HB; go_wp2; go_ret; exact ⟨rfl, d3⟩
theorem eqdi_at (va vb : Value) (xs ys : List Di) (w : World) (q : Bool) (Hq : Hid (q = true ↔ xs = ys)) (hx : DiIn w va xs) (hy : DiIn w vb ys) (fx : ∀ x ∈ xs, x.fits) (fy : ∀ x ∈ ys, x.fits) (lx : xs.length <= maxLen) :
    Calls Tryz.prog 126 #[va, vb] w fun e w' => e = .returned (.bool q) /\ Below w.heap.size w w' := by
  have HX := Qa hx; have HY := Qa hy; have HFX := Qa fx; have HFY := Qa fy; have hml : maxLen = 9223372036854775807 := rfl; obtain ⟨a1, cap1, rfl, -⟩ := hx; obtain ⟨a2, cap2, rfl, -⟩ := hy; clear fx fy; have hb0 := Below.refl w.heap.size w; by_cases hl : xs.length = ys.length
  case neg =>
    obtain rfl : q = false := by
      cases q
      · rfl
      · exact absurd (congrArg List.length (Hq.out.1 rfl)) hl
    have i1 : ((xs.length : Int) == (ys.length : Int)) = false := by rw [beq_eq_false_iff_ne]; omega
    have i2 : ((xs.length : Int) != (ys.length : Int)) = true := by rw [bne, i1]; rfl
    clear Hq HX HY HFX HFY lx hml; generalize xs.length = n1 at *; generalize ys.length = n2 at *; go_enter Tryz.func126, Tryz.ntmps126; go_wp2; go_ret; exact ⟨rfl, hb0⟩
  have i1 : ((xs.length : Int) != (ys.length : Int)) = false := by rw [bne, hl, beq_self_eq_true]; rfl
  have i2 : ((xs.length : Int) == (ys.length : Int)) = true := by rw [hl]; exact beq_self_eq_true _
  have HL := Qa hl; clear hl; rw [<- HL.out] at i1 i2 |-; go_enter Tryz.func126, Tryz.ntmps126; go_wp2; go_loopw [13, 5] (fun v _ wr => ∃ j : Nat, j <= xs.length /\ v = .int .i64 j /\ Below w.heap.size w wr /\ ∀ i, i < j -> xs.getD i Di.zero = ys.getD i Di.zero) (fun v _ _ => xs.length - (intOf v).toNat)
  case atStart => exact ⟨0, Nat.zero_le _, rfl, Below.refl _ _, fun i hi => absurd hi (by omega)⟩
  case round =>
    obtain ⟨j, hj, rfl, hb, hat⟩ := hrel; have HAT := Qa hat; have HB := Qa hb; clear hat hb hb0
    by_cases hlt : j < xs.length
    · have jlt : (j : Int) < (xs.length : Int) := by omega
      obtain ⟨u1, k1, e1, hrow1⟩ := HX.out.below HB.out; obtain ⟨u2, k2, e2, hrow2⟩ := HY.out.below HB.out; rw [<- HL.out] at e2; cases e1; cases e2; obtain ⟨b1, off1, rfl, -, hc1⟩ := hrow1 (by omega); obtain ⟨b2, off2, rfl, -, hc2⟩ := hrow2 (by rw [<- HL.out]; omega); have HR1 := Qa (hc1 j hlt); have HR2 := Qa (hc2 j (by rw [<- HL.out]; exact hlt)); clear hrow1 hrow2 hc1 hc2; have HF1 := Qa (HFX.out _ (Qsd xs j Di.zero hlt)); have HF2 := Qa (HFY.out _ (Qsd ys j Di.zero (by rw [<- HL.out]; exact hlt))); obtain ⟨x, hx⟩ : ∃ x, x = xs.getD j Di.zero := ⟨_, rfl⟩; obtain ⟨y, hy⟩ : ∃ y, y = ys.getD j Di.zero := ⟨_, rfl⟩; have HXY : Hid (x = xs.getD j Di.zero /\ y = ys.getD j Di.zero) := ⟨hx, hy⟩; rw [<- hx] at HR1 HF1; rw [<- hy] at HR2 HF2; clear hx hy; have hc := Qa (Classical.em (x = y)); obtain ⟨p, hp⟩ : ∃ p : Bool, p = false ↔ x = y := ⟨!(@decide (x = y) (Classical.propDecidable _)), by simp⟩; have HP := Qa hp; clear hp; go_wp2_with fail; refine Qn (fun z => Below w.heap.size w z /\ z.rangeAt b1 (off1 + j * 2) (diA x).toList /\ z.rangeAt b2 (off2 + j * 2) (diA y).toList) (by kernel_rfl) (by kernel_rfl) ⟨⟨HB.out.1, HB.out.2, HB.out.3, HB.out.4, HB.out.5⟩, HR1.out, HR2.out⟩ ?_; clear HB HR1 HR2
      repeat (first
        | go_big_quiet_skip
        | (refine Qb rfl 111 (.tmp 18) rfl _ (.agg (diA x)) rfl (fun z hz => Qzl z b1 _ x hz.2.1) ?_; simp only [Act.put, List.setIfInBounds_toArray, List.set])
        | (refine Qb rfl 111 (.tmp 22) rfl _ (.agg (diA y)) rfl (fun z hz => Qzl z b2 _ y hz.2.2) ?_; simp only [Act.put, List.setIfInBounds_toArray, List.set])
        | (refine Qia rfl .neq 111 _ (.tmp 19) (.tmp 23) rfl (.agg (diA x)) (.agg (diA y)) (.bool p) rfl rfl (fun z => Qas .neq _ _ x y z) (fun z => Qbl x y HF1.out HF2.out p HP.out z) ?_; simp only [Act.put, List.setIfInBounds_toArray, List.set])
        | (refine Ql rfl (fun K hK => ?_); go_simp; refine hK _ ?_; clear hK K))
      refine wpQuiet_nil ?_; intro w3 h3; have H3 := Qa h3.1; clear h3
      cases p
      · have HE := Qa (HP.out.1 rfl); clear HP hc; go_wp2; go_roundw
        case rel => exact ⟨j + 1, by omega, by go_num, H3.out, Qoe HAT.out (by rw [<- HXY.out.1, <- HXY.out.2]; exact HE.out)⟩
        case measure => simp [intOf]; omega
      · obtain rfl : q = false := by
          cases q
          · rfl
          · have h1 := Hq.out.1 rfl; exact absurd (HP.out.2 (by rw [HXY.out.1, HXY.out.2, h1])) (by simp)
        have d3 := H3.out; clear Hq HP hc HXY HAT HX HY HFX HFY HF1 HF2 H3; go_wp2; go_ret; exact ⟨rfl, d3⟩
    · obtain rfl : j = xs.length := by omega
      obtain rfl : q = true := Hq.out.2 (Qvg (z := Di.zero) HL.out HAT.out); have d3 := HB.out; clear Hq HAT HX HY HFX HFY HB; go_wp2; go_ret; exact ⟨rfl, d3⟩
theorem Qeu (c : Ch) (w : World) (h1 : c.pg < 0) :
    Calls Tryz.prog 80 #[.agg (chA c)] w fun e w' => e = .returned (.bool false) /\ Below w.heap.size w w' := by
  have hb0 : Below w.heap.size w (w.alloc (.cells (chA c) 30)) := (Below.refl _ _).alloc (Nat.le_refl _) _; obtain ⟨a0, a1, a2, a3, a4⟩ := Qnh.all (show Qnh (w.alloc (.cells (chA c) 30)) w.heap.size c from heap_alloc_new w _); go_enter Tryz.func80, Tryz.ntmps80; generalize c.k = k at *; generalize c.pg = pg at *; generalize c.sl = sl at *; generalize c.o = o at *; generalize c.n = n at *; go_wp2; go_ret; exact ⟨rfl, hb0⟩
theorem Qct (c : Ch) (w : World) (h1 : ¬ c.pg < 0) (h2 : 31 < c.pg) :
    Calls Tryz.prog 80 #[.agg (chA c)] w fun e w' => e = .returned (.bool false) /\ Below w.heap.size w w' := by
  have hb0 : Below w.heap.size w (w.alloc (.cells (chA c) 30)) := (Below.refl _ _).alloc (Nat.le_refl _) _; obtain ⟨a0, a1, a2, a3, a4⟩ := Qnh.all (show Qnh (w.alloc (.cells (chA c) 30)) w.heap.size c from heap_alloc_new w _); go_enter Tryz.func80, Tryz.ntmps80; generalize c.k = k at *; generalize c.pg = pg at *; generalize c.sl = sl at *; generalize c.o = o at *; generalize c.n = n at *; go_wp2; go_ret; exact ⟨rfl, hb0⟩
theorem Qiu (c : Ch) (w : World) (h1 : ¬ c.pg < 0) (h2 : ¬ 31 < c.pg) (h3 : c.sl < 0) :
    Calls Tryz.prog 80 #[.agg (chA c)] w fun e w' => e = .returned (.bool false) /\ Below w.heap.size w w' := by
  have hb0 : Below w.heap.size w (w.alloc (.cells (chA c) 30)) := (Below.refl _ _).alloc (Nat.le_refl _) _; obtain ⟨a0, a1, a2, a3, a4⟩ := Qnh.all (show Qnh (w.alloc (.cells (chA c) 30)) w.heap.size c from heap_alloc_new w _); go_enter Tryz.func80, Tryz.ntmps80; generalize c.k = k at *; generalize c.pg = pg at *; generalize c.sl = sl at *; generalize c.o = o at *; generalize c.n = n at *; go_wp2; go_ret; exact ⟨rfl, hb0⟩
theorem Qdt (c : Ch) (w : World) (h1 : ¬ c.pg < 0) (h2 : ¬ 31 < c.pg) (h3 : ¬ c.sl < 0) (h4 : 7 < c.sl) :
    Calls Tryz.prog 80 #[.agg (chA c)] w fun e w' => e = .returned (.bool false) /\ Below w.heap.size w w' := by
  have hb0 : Below w.heap.size w (w.alloc (.cells (chA c) 30)) := (Below.refl _ _).alloc (Nat.le_refl _) _; obtain ⟨a0, a1, a2, a3, a4⟩ := Qnh.all (show Qnh (w.alloc (.cells (chA c) 30)) w.heap.size c from heap_alloc_new w _); go_enter Tryz.func80, Tryz.ntmps80; generalize c.k = k at *; generalize c.pg = pg at *; generalize c.sl = sl at *; generalize c.o = o at *; generalize c.n = n at *; go_wp2; go_ret; exact ⟨rfl, hb0⟩
theorem Qtt (c : Ch) (w : World) (h1 : ¬ c.pg < 0) (h2 : ¬ 31 < c.pg) (h3 : ¬ c.sl < 0) (h4 : ¬ 7 < c.sl) (h5 : 20 < (c.o.size : Int)) :
    Calls Tryz.prog 80 #[.agg (chA c)] w fun e w' => e = .returned (.bool false) /\ Below w.heap.size w w' := by
  have hb0 : Below w.heap.size w (w.alloc (.cells (chA c) 30)) := (Below.refl _ _).alloc (Nat.le_refl _) _; obtain ⟨a0, a1, a2, a3, a4⟩ := Qnh.all (show Qnh (w.alloc (.cells (chA c) 30)) w.heap.size c from heap_alloc_new w _); go_enter Tryz.func80, Tryz.ntmps80; generalize c.k = k at *; generalize c.pg = pg at *; generalize c.sl = sl at *; generalize c.o = o at *; generalize c.n = n at *; go_wp2; go_ret; exact ⟨rfl, hb0⟩
theorem Qfu (c : Ch) (w : World) (h1 : ¬ c.pg < 0) (h2 : ¬ 31 < c.pg) (h3 : ¬ c.sl < 0) (h4 : ¬ 7 < c.sl) (h5 : ¬ 20 < (c.o.size : Int)) (h6 : 20 < (c.n.size : Int)) :
    Calls Tryz.prog 80 #[.agg (chA c)] w fun e w' => e = .returned (.bool false) /\ Below w.heap.size w w' := by
  have hb0 : Below w.heap.size w (w.alloc (.cells (chA c) 30)) := (Below.refl _ _).alloc (Nat.le_refl _) _; obtain ⟨a0, a1, a2, a3, a4⟩ := Qnh.all (show Qnh (w.alloc (.cells (chA c) 30)) w.heap.size c from heap_alloc_new w _); go_enter Tryz.func80, Tryz.ntmps80; generalize c.k = k at *; generalize c.pg = pg at *; generalize c.sl = sl at *; generalize c.o = o at *; generalize c.n = n at *; go_wp2; go_ret; exact ⟨rfl, hb0⟩
theorem Quo (c : Ch) (w : World) (h1 : ¬ c.pg < 0) (h2 : ¬ 31 < c.pg) (h3 : ¬ c.sl < 0) (h4 : ¬ 7 < c.sl) (h5 : ¬ 20 < (c.o.size : Int)) (h6 : ¬ 20 < (c.n.size : Int)) (hk : c.k = 1) (he : c.o.toList.isEmpty = true) :
    Calls Tryz.prog 80 #[.agg (chA c)] w fun e w' => e = .returned (.bool true) /\ Below w.heap.size w w' := by
  have hb0 : Below w.heap.size w (w.alloc (.cells (chA c) 30)) := (Below.refl _ _).alloc (Nat.le_refl _) _; obtain ⟨a0, a1, a2, a3, a4⟩ := Qnh.all (show Qnh (w.alloc (.cells (chA c) 30)) w.heap.size c from heap_alloc_new w _); rw [hk] at a0; clear hk; go_enter Tryz.func80, Tryz.ntmps80; generalize c.k = k at *; generalize c.pg = pg at *; generalize c.sl = sl at *; generalize c.o = o at *; generalize c.n = n at *; go_wp2; go_ret; exact ⟨rfl, hb0⟩
theorem Qlp (c : Ch) (w : World) (h1 : ¬ c.pg < 0) (h2 : ¬ 31 < c.pg) (h3 : ¬ c.sl < 0) (h4 : ¬ 7 < c.sl) (h5 : ¬ 20 < (c.o.size : Int)) (h6 : ¬ 20 < (c.n.size : Int)) (hk : c.k = 1) (he : c.o.toList.isEmpty = false) :
    Calls Tryz.prog 80 #[.agg (chA c)] w fun e w' => e = .returned (.bool false) /\ Below w.heap.size w w' := by
  have hb0 : Below w.heap.size w (w.alloc (.cells (chA c) 30)) := (Below.refl _ _).alloc (Nat.le_refl _) _; obtain ⟨a0, a1, a2, a3, a4⟩ := Qnh.all (show Qnh (w.alloc (.cells (chA c) 30)) w.heap.size c from heap_alloc_new w _); rw [hk] at a0; clear hk; go_enter Tryz.func80, Tryz.ntmps80; generalize c.k = k at *; generalize c.pg = pg at *; generalize c.sl = sl at *; generalize c.o = o at *; generalize c.n = n at *; go_wp2; go_ret; exact ⟨rfl, hb0⟩
theorem Qrt (c : Ch) (w : World) (h1 : ¬ c.pg < 0) (h2 : ¬ 31 < c.pg) (h3 : ¬ c.sl < 0) (h4 : ¬ 7 < c.sl) (h5 : ¬ 20 < (c.o.size : Int)) (h6 : ¬ 20 < (c.n.size : Int)) (hk : c.k = 2) :
    Calls Tryz.prog 80 #[.agg (chA c)] w fun e w' => e = .returned (.bool true) /\ Below w.heap.size w w' := by
  have hb0 : Below w.heap.size w (w.alloc (.cells (chA c) 30)) := (Below.refl _ _).alloc (Nat.le_refl _) _; obtain ⟨a0, a1, a2, a3, a4⟩ := Qnh.all (show Qnh (w.alloc (.cells (chA c) 30)) w.heap.size c from heap_alloc_new w _); rw [hk] at a0; clear hk; go_enter Tryz.func80, Tryz.ntmps80; generalize c.k = k at *; generalize c.pg = pg at *; generalize c.sl = sl at *; generalize c.o = o at *; generalize c.n = n at *; go_wp2; go_ret; exact ⟨rfl, hb0⟩
theorem Qqp (c : Ch) (w : World) (h1 : ¬ c.pg < 0) (h2 : ¬ 31 < c.pg) (h3 : ¬ c.sl < 0) (h4 : ¬ 7 < c.sl) (h5 : ¬ 20 < (c.o.size : Int)) (h6 : ¬ 20 < (c.n.size : Int)) (hk : c.k = 3) (he : c.n.toList.isEmpty = true) :
    Calls Tryz.prog 80 #[.agg (chA c)] w fun e w' => e = .returned (.bool true) /\ Below w.heap.size w w' := by
  have hb0 : Below w.heap.size w (w.alloc (.cells (chA c) 30)) := (Below.refl _ _).alloc (Nat.le_refl _) _; obtain ⟨a0, a1, a2, a3, a4⟩ := Qnh.all (show Qnh (w.alloc (.cells (chA c) 30)) w.heap.size c from heap_alloc_new w _); rw [hk] at a0; clear hk; go_enter Tryz.func80, Tryz.ntmps80; generalize c.k = k at *; generalize c.pg = pg at *; generalize c.sl = sl at *; generalize c.o = o at *; generalize c.n = n at *; go_wp2; go_ret; exact ⟨rfl, hb0⟩
theorem Qvq (c : Ch) (w : World) (h1 : ¬ c.pg < 0) (h2 : ¬ 31 < c.pg) (h3 : ¬ c.sl < 0) (h4 : ¬ 7 < c.sl) (h5 : ¬ 20 < (c.o.size : Int)) (h6 : ¬ 20 < (c.n.size : Int)) (hk : c.k = 3) (he : c.n.toList.isEmpty = false) :
    Calls Tryz.prog 80 #[.agg (chA c)] w fun e w' => e = .returned (.bool false) /\ Below w.heap.size w w' := by
  have hb0 : Below w.heap.size w (w.alloc (.cells (chA c) 30)) := (Below.refl _ _).alloc (Nat.le_refl _) _; obtain ⟨a0, a1, a2, a3, a4⟩ := Qnh.all (show Qnh (w.alloc (.cells (chA c) 30)) w.heap.size c from heap_alloc_new w _); rw [hk] at a0; clear hk; go_enter Tryz.func80, Tryz.ntmps80; generalize c.k = k at *; generalize c.pg = pg at *; generalize c.sl = sl at *; generalize c.o = o at *; generalize c.n = n at *; go_wp2; go_ret; exact ⟨rfl, hb0⟩
theorem Qut (c : Ch) (w : World) (h1 : ¬ c.pg < 0) (h2 : ¬ 31 < c.pg) (h3 : ¬ c.sl < 0) (h4 : ¬ 7 < c.sl) (h5 : ¬ 20 < (c.o.size : Int)) (h6 : ¬ 20 < (c.n.size : Int)) (hk1 : (c.k == 1) = false) (hk2 : (c.k == 2) = false) (hk3 : (c.k == 3) = false) :
    Calls Tryz.prog 80 #[.agg (chA c)] w fun e w' => e = .returned (.bool false) /\ Below w.heap.size w w' := by
  have hb0 : Below w.heap.size w (w.alloc (.cells (chA c) 30)) := (Below.refl _ _).alloc (Nat.le_refl _) _; obtain ⟨a0, a1, a2, a3, a4⟩ := Qnh.all (show Qnh (w.alloc (.cells (chA c) 30)) w.heap.size c from heap_alloc_new w _); go_enter Tryz.func80, Tryz.ntmps80; generalize c.k = k at *; generalize c.pg = pg at *; generalize c.sl = sl at *; generalize c.o = o at *; generalize c.n = n at *; go_wp2; go_ret; exact ⟨rfl, hb0⟩
theorem Qtp (c : Ch) (w : World) :
    Calls Tryz.prog 80 #[.agg (chA c)] w fun e w' => e = .returned (.bool (decide c.right)) /\ Below w.heap.size w w' := by
  by_cases h1 : c.pg < 0
  · rw [decide_eq_false (fun h => by have := h.1; omega)]; exact Qeu c w h1
  by_cases h2 : 31 < c.pg
  · rw [decide_eq_false (fun h => by have := h.1; omega)]; exact Qct c w h1 h2
  by_cases h3 : c.sl < 0
  · rw [decide_eq_false (fun h => by have := h.1; omega)]; exact Qiu c w h1 h2 h3
  by_cases h4 : 7 < c.sl
  · rw [decide_eq_false (fun h => by have := h.1; omega)]; exact Qdt c w h1 h2 h3 h4
  by_cases h5 : 20 < (c.o.size : Int)
  · rw [decide_eq_false (fun h => by have := h.1; omega)]; exact Qtt c w h1 h2 h3 h4 h5
  by_cases h6 : 20 < (c.n.size : Int)
  · rw [decide_eq_false (fun h => by have := h.1; omega)]; exact Qfu c w h1 h2 h3 h4 h5 h6
  have hr : c.kindOk -> c.right := fun h => ⟨⟨by omega, by omega, by omega, by omega, by omega, by omega⟩, h⟩
  by_cases k1 : c.k = 1
  · by_cases he : c.o.toList.isEmpty = true
    · rw [decide_eq_true (hr (.inl ⟨k1, (Qzd _).1 he⟩))]; exact Quo c w h1 h2 h3 h4 h5 h6 k1 he
    · rw [decide_eq_false (fun h => by
        rcases h.2 with h | h | h
        · exact he ((Qzd _).2 h.2)
        · omega
        · omega)]
      exact Qlp c w h1 h2 h3 h4 h5 h6 k1 (by simpa using he)
  by_cases k2 : c.k = 2
  · rw [decide_eq_true (hr (.inr (.inl k2)))]; exact Qrt c w h1 h2 h3 h4 h5 h6 k2
  by_cases k3 : c.k = 3
  · by_cases he : c.n.toList.isEmpty = true
    · rw [decide_eq_true (hr (.inr (.inr ⟨k3, (Qzd _).1 he⟩)))]; exact Qqp c w h1 h2 h3 h4 h5 h6 k3 he
    · rw [decide_eq_false (fun h => by
        rcases h.2 with h | h | h
        · omega
        · omega
        · exact he ((Qzd _).2 h.2))]
      exact Qvq c w h1 h2 h3 h4 h5 h6 k3 (by simpa using he)
  rw [decide_eq_false (fun h => by rcases h.2 with h | h | h <;> omega)]; exact Qut c w h1 h2 h3 h4 h5 h6 (by simpa using k1) (by simpa using k2) (by simpa using k3)
theorem Qmh : Ch.zero.fits := ⟨by decide, by decide, by decide, by show (0 : Nat) <= maxLen; omega, by show (0 : Nat) <= maxLen; omega⟩
theorem Qag (c : Ch) (w : World) (r : Bool) (Hr : Hid (decide c.right = r)) :
    Calls Tryz.prog 80 #[.agg (chA c)] w fun e w' => e = .returned (.bool r) /\ Below w.heap.size w w' := by
  rw [<- Hr.out]; exact Qtp c w
theorem Qjd : (⟨#[]⟩ : ByteArray).toList = [] := by
  rw [ByteArray.toList_eq]
theorem Qno (s : ByteArray) (h : s.toList = []) : s = ⟨#[]⟩ := size0 s ((Qzd s).1 (by rw [h]; rfl))
theorem Qsl (c : Ch) (f1 : c.k = 0) (f2 : c.pg = 0) (f3 : c.sl = 0) (f4 : c.o.toList = []) (f5 : c.n.toList = []) : c = Ch.zero := by
  obtain ⟨k, pg, sl, o, n⟩ := c; simp only at f1 f2 f3 f4 f5; rw [f1, f2, f3, Qno o f4, Qno n f5]; rfl
theorem Qz {x : World} {g : Nat} {r : Rec} {va vb : Value} (h : Qd x g 34 (rcA r va vb)) :
    x.cell? ⟨g, 0, none⟩ = some (.int .i64 r.k) /\ x.cell? ⟨g, 1, none⟩ = some (.int .u64 (r.l : Int)) /\ x.cell? ⟨g, 2, none⟩ = some (.int .i64 r.t) /\ x.cell? ⟨g, 3, none⟩ = some (.int .u64 (r.p : Int)) /\ x.cell? ⟨g, 9, none⟩ = some (.int .u64 (r.n : Int)) /\ x.cell? ⟨g, 10, none⟩ = some (.int .i64 r.s) /\ x.cell? ⟨g, 11, none⟩ = some (.int .u64 (r.b : Int)) /\ x.cell? ⟨g, 12, none⟩ = some va /\ x.cell? ⟨g, 13, none⟩ = some vb :=
  ⟨h.cell 0 _ rfl, h.cell 1 _ rfl, h.cell 2 _ rfl, h.cell 3 _ rfl, h.cell 9 _ rfl, h.cell 10 _ rfl, h.cell 11 _ rfl, h.cell 12 _ rfl, h.cell 13 _ rfl⟩
theorem Qke {x : World} {g : Nat} {r : Rec} {va vb : Value} (h : Qd x g 34 (rcA r va vb)) :
    x.cell? ⟨g, 4, none⟩ = some (.int .i64 r.c.k) /\ x.cell? ⟨g, 5, none⟩ = some (.int .i64 r.c.pg) /\ x.cell? ⟨g, 6, none⟩ = some (.int .i64 r.c.sl) /\ x.cell? ⟨g, 7, none⟩ = some (.string r.c.o) /\ x.cell? ⟨g, 8, none⟩ = some (.string r.c.n) :=
  ⟨h.cell 4 _ rfl, h.cell 5 _ rfl, h.cell 6 _ rfl, h.cell 7 _ rfl, h.cell 8 _ rfl⟩
theorem Qqf {x : World} {g : Nat} {r : Rec} {va vb : Value} (h : Qd x g 34 (rcA r va vb)) : x.rangeAt g 4 (chA r.c).toList := by
  intro j v hv; have hj : j < 5 := (List.getElem?_eq_some_iff.1 hv).1; refine h.cell (4 + j) v ?_; rw [<- hv, Array.getElem?_toList]
  match j, hj with
  | 0, _ => rfl
  | 1, _ => rfl
  | 2, _ => rfl
  | 3, _ => rfl
  | 4, _ => rfl
theorem Qfl (k : Int) (w : World) (q : Bool) (Hq : Hid (decide (1 <= k /\ k <= 6) = q)) :
    Calls Tryz.prog 79 #[.int .i64 k] w fun e w' => e = .returned (.bool q) /\ w = w' := by
  by_cases h1 : 1 <= k
  · by_cases h2 : k <= 6
    · obtain rfl : q = true := by rw [<- Hq.out]; exact decide_eq_true ⟨h1, h2⟩
      clear Hq; go_enter Tryz.func79, Tryz.ntmps79; go_wp2; go_ret; exact ⟨rfl, rfl⟩
    · obtain rfl : q = false := by rw [<- Hq.out]; exact decide_eq_false (by omega)
      clear Hq; go_enter Tryz.func79, Tryz.ntmps79; go_wp2; go_ret; exact ⟨rfl, rfl⟩
  · obtain rfl : q = false := by rw [<- Hq.out]; exact decide_eq_false (by omega)
    clear Hq; go_enter Tryz.func79, Tryz.ntmps79; go_wp2; go_ret; exact ⟨rfl, rfl⟩
end Go.Proofs.YtdbpbgpcjmomdaaGreat
