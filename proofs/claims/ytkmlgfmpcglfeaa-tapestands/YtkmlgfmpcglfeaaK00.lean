/-
  Texts that lean on one another, one behind the other: each opens with its own remark.
-/
import Derived.WalkSpells
import Derived.Laws.OwnMore
import Derived.Laws.ResultCell
import Derived.Laws.Tables
import Derived.Deep.Draws
import Derived.WalkKit
import Derived.Laws.CopyOwn
import Derived.Lib.ConvBytes
import Derived.Laws.IdiomStrings
import Derived.Laws.BytesArg
import Derived.Lib.AppendStr
import Derived.ArgAppend
import Derived.Deep.RegionLawGrows
import Derived.Laws.AppendOwn
import Derived.Laws.AppendOwnNone
import Derived.Lib.AppendZerosOnto
import Derived.Test.YtkmlgfmpcglfeaaProg
import Derived.RegionTactic
import Derived.BigRegion
import Derived.Laws.IdiomCopy
import Derived.Deep.QuietTactic
import Derived.BigQuiet
import Derived.Lib.SlBytesConst
import Derived.OpenShut
import Derived.ShutString
import Derived.SizedLaws
import Derived.ChangeOld
import Derived.Deep.Slices
import Derived.Lib.SmallJoins
import Derived.Deep.MidRow
import Derived.Test.YtkmlgfmpcglfeaaRows

/-
  Structs in memory, each a block of its own: how they are loaded and stored. Of no program.
-/
namespace Go.Proofs.Ytkmlgfmpcglfeaa
open Go.RowKit
set_option linter.unusedVariables false

/-- A block that holds a struct's cells. -/
def RowAt (w : World) (b : Nat) (t : TypeId) (cs : Array Value) : Prop := w.heap[b]? = some (.cells cs t (0, 0))
theorem RowAt.below {w w' : World} {b B : Nat} {t : TypeId} {cs : Array Value} (h : RowAt w b t cs) (hb : Below B w w') (hB : b < B) : RowAt w' b t cs := (hb.block b hB).trans h
theorem RowAt.lt {w : World} {b : Nat} {t : TypeId} {cs : Array Value} (h : RowAt w b t cs) : b < w.heap.size := (Array.getElem?_eq_some_iff.1 h).1
theorem RowAt.later {w w' : World} {b : Nat} {t : TypeId} {cs : Array Value} (h : RowAt w b t cs) (hb : Below w.heap.size w w') : RowAt w' b t cs := h.below hb h.lt
theorem RowAt.cell {w : World} {b : Nat} {t : TypeId} {cs : Array Value} (h : RowAt w b t cs) (j : Nat) (v : Value) (hv : cs[j]? = some v) : w.cell? ⟨b, j, none⟩ = some v := by
  rw [cell_of_row w b j _ _ (0, 0) h]
  exact hv
theorem RowAt.free {w : World} {b : Nat} {t : TypeId} {cs : Array Value} (h : RowAt w b t cs) (j : Nat) : w.frozen? ⟨b, j, none⟩ = false := frozen_of_row w b j _ _ h
theorem RowAt.other {w : World} {b : Nat} {t : TypeId} {cs : Array Value} (h : RowAt w b t cs) (a : Addr) (v : Value) (hn : b ≠ a.block) : RowAt (w.setCell a v) b t cs := (heap_setCell_other w a b v hn).trans h
theorem RowAt.set {w : World} {b : Nat} {t : TypeId} {cs : Array Value} (h : RowAt w b t cs) (j : Nat) (v : Value) : RowAt (w.setCell ⟨b, j, none⟩ v) b t (cs.setIfInBounds j v) := heap_setCell_same w b j _ _ v h
theorem RowAt.new (w : World) (t : TypeId) (cs : Array Value) : RowAt (w.alloc (.cells cs t)) w.heap.size t cs := heap_alloc_new w _

section
variable {P : Program} {ops : Array Oper} {rest : List Oper} {o : Oper} {a : Act} {w : World} {Q : Exit → Act → World → Prop}

theorem wpList_load_at (hw : Region.wanted o (yielded ops a.tmps) = true) (t : TypeId) (x : Operand) (ho : o.op = .load t x) (g : Nat) (hx : a.eval x = .pointer (some ⟨g, 0, none⟩)) (cs : Array Value) (hg : RowAt w g t cs) (d : TypeDesc)
    (hu : P.underlying t = some d) (hd : (match d with | .struct _ | .array _ _ => true | _ => false) = true) (hi : (P.info? t).map (·.size) = some cs.size) (h : wpList P ops Q rest (a.put o.dst (.agg cs)) w) : wpList P ops Q (o :: rest) a w :=
  wpList_step fun K hK => by
    simp only [hw, if_true]
    exact wp_load_row t x ho g hx t cs (0, 0) d hg hu hd hi (hK _ _ h)

theorem wpList_store_at (hgd : o.guard = none) (t : TypeId) (x y : Operand) (ho : o.op = .store t x y) (g : Nat) (c0 cs : Array Value) (hx : a.eval x = .pointer (some ⟨g, 0, none⟩)) (hy : a.eval y = .agg cs) (hg : RowAt w g t c0)
    (hi : (P.info? t).map (·.size) = some cs.size) (hz : c0.size = cs.size) (h1 : cs.all (·.oneCell') = true)
    (h : ∀ w2, RowAt w2 g t cs → (∀ B w0, Below B w0 w → B ≤ g → Below B w0 w2) → (∀ k t' c', k ≠ g → RowAt w k t' c' → RowAt w2 k t' c') → wpList P ops Q rest (a.put o.dst undef) w2) : wpList P ops Q (o :: rest) a w := by
  refine wpList_store_row hgd t x y ho g cs hx hy t c0 hg hi hz h1 (h _ ?_ (fun B w0 hb hB => ?_) (fun k t' c' hk hr => ?_))
  · exact setRow_heap w g c0 cs t (0, 0) hg
  · exact ⟨hb.1, hb.2, hb.3, by simp [World.setRow]; exact hb.4, fun k hk => (setRow_other w g k _ (by omega)).trans (hb.5 k hk)⟩
  · exact (setRow_other w g k _ hk).trans hr

theorem res_at {fn : Func} {p u : Tmp} {t : TypeId} (h : fn.results = #[.cell p t, .tmp u]) (tmps : Array Value) (w : World) (g : Nat) (cs : Array Value) (d : TypeDesc) (hp : tmps.getD p undef = .pointer (some ⟨g, 0, none⟩)) (hg : RowAt w g t cs)
    (hu : P.underlying t = some d) (hd : (match d with | .struct _ | .array _ _ => true | _ => false) = true) (hi : (P.info? t).map (·.size) = some cs.size) :
    (results fn tmps).run P w = .ok (.tuple #[.agg cs, tmps.getD u undef]) w := by
  have h1 := run_loadVar_row (P := P) w g t t cs (0, 0) d hg hu hd hi
  rw [results_cell_tmp h, hp]
  simp only [asAddr, Sem.run_pure, Result.andThen_ok, h1]

theorem results_cells {fn : Func} {p q : Tmp} {t : TypeId} (h : fn.results = #[.cell p t, .cell q t]) (tmps : Array Value) (P : Program) (w : World) :
    (results fn tmps).run P w =
      ((asAddr (tmps.getD p undef)).run P w).andThen fun a w₁ => ((loadVar t a).run P w₁).andThen fun v w₂ => ((asAddr (tmps.getD q undef)).run P w₂).andThen fun b w₃ => ((loadVar t b).run P w₃).andThen fun u w₄ => .ok (.tuple #[v, u]) w₄ := by
  simp only [results, h]
  simp [Sem.run_bind, Result.andThen]
theorem res_two {fn : Func} {p q : Tmp} {t : TypeId} (h : fn.results = #[.cell p t, .cell q t]) (tmps : Array Value) (w : World) (g k : Nat) (cs ds : Array Value) (d : TypeDesc) (hp : tmps.getD p undef = .pointer (some ⟨g, 0, none⟩)) (hq : tmps.getD q undef = .pointer (some ⟨k, 0, none⟩)) (hg : RowAt w g t cs) (hk : RowAt w k t ds)
    (hu : P.underlying t = some d) (hd : (match d with | .struct _ | .array _ _ => true | _ => false) = true) (hi : (P.info? t).map (·.size) = some cs.size) (hj : (P.info? t).map (·.size) = some ds.size) :
    (results fn tmps).run P w = .ok (.tuple #[.agg cs, .agg ds]) w := by
  have h1 := run_loadVar_row (P := P) w g t t cs (0, 0) d hg hu hd hi
  have h2 := run_loadVar_row (P := P) w k t t ds (0, 0) d hk hu hd hj
  rw [results_cells h, hp, hq]
  simp only [asAddr, Sem.run_pure, Result.andThen_ok, h1, h2]
end

theorem gen_w {Q : World → Prop} (H : World → Prop) {x : World} (h : H x) (k : ∀ y, H y → Q y) : Q x := k x h

theorem empty_iff (s : ByteArray) : s.toList.isEmpty = true ↔ s.size = 0 := by
  rw [ByteArray.toList_eq]
  obtain ⟨⟨l⟩⟩ := s
  cases l <;> simp [ByteArray.size]
theorem lt_alloc {w : World} {b : Nat} (hb : b < w.heap.size) (o : Obj) : b < (w.alloc o).heap.size := by
  simp
  omega
theorem below_dn {B : Nat} {w w' : World} (h : Below B w w') (k : Nat) : Below B w (w'.drewN k) := ⟨h.1, h.2, h.3, h.4, h.5⟩
theorem gen_world {Q : World → Prop} (H : World → Prop) {x : World} (h : H x) (k : ∀ y, H y → Q y) : Q x := k x h
theorem gen_calls {P : Program} {f : FuncId} {args : Array Value} {Q : Ending → World → Prop} (H : World → Prop) {x : World} (h : H x) (k : ∀ y, H y → Calls P f args y Q) : Calls P f args x Q := k x h
theorem gen_wp {P : Program} {c : Code} {Q : Exit → Act → World → Prop} {a : Act} (H : World → Prop) {x : World} (h : H x) (k : ∀ y, H y → Code.wp P c Q a y) : Code.wp P c Q a x := k x h
/-- One operation by its value. -/
theorem wpList_val {P : Program} {ops : Array Oper} {rest : List Oper} {o : Oper} {a : Act} {w : World} {Q : Exit → Act → World → Prop} (hw : Region.wanted o (yielded ops a.tmps) = true) (v : Value) (hv : (execOp a.eval o).run P w = .ok (.value v) w)
    (h : wpList P ops Q rest (a.put o.dst v) w) : wpList P ops Q (o :: rest) a w :=
  wpList_step fun K hK => by
    simp only [hw, if_true]
    unfold Oper.wp
    rw [hv]
    exact hK _ _ h
theorem wpList_binop {P : Program} {ops : Array Oper} {rest : List Oper} {o : Oper} {a : Act} {w : World} {Q : Exit → Act → World → Prop} (hw : Region.wanted o (yielded ops a.tmps) = true) (op : BinOp) (t r : TypeId) (x y : Operand) (ho : o.op = .binOp op t x y r) (u v z : Value) (hu : a.eval x = u) (hv : a.eval y = v) (hg : (eqGuard op t x y u v).run P w = .ok () w)
    (hz : (binOp op t u v).run P w = .ok z w) (h : wpList P ops Q rest (a.put o.dst z) w) : wpList P ops Q (o :: rest) a w :=
  wpList_val hw z (by unfold execOp; simp only [ho, hu, hv, Sem.run_bind, hg, hz, Result.andThen_ok, Sem.run_pure]) h
end Go.Proofs.Ytkmlgfmpcglfeaa

/-
  A tape: its bytes, how many stand fast, its room, how many went. Of no program.
-/
namespace Go.Proofs.Ytkmlgfmpcglfeaa
open Go.RowKit
set_option linter.unusedVariables false

structure Tp where
  b : ByteArray
  f : Nat
  m : Nat
  s : Nat
/-- What every tape keeps to. -/
structure Tp.ok (t : Tp) : Prop where
  fast : t.f ≤ t.b.size
  few : t.b.size ≤ t.m
  room : t.m ≤ 65536
  went : t.s < 18446744073709551616
def Tp.new (r : Int) : Tp := ⟨⟨#[]⟩, 0, (max 0 (min r 65536)).toNat, 0⟩
def Tp.app (t : Tp) (x : ByteArray) : Tp × Int := if t.m < t.b.size + x.size then (t, 7) else ({ t with b := t.b ++ x }, 0)
def Tp.sync (t : Tp) : Tp := { t with f := t.b.size }
def Tp.cut (t : Tp) (n : Int) : Tp × Int := if n < 0 ∨ (t.f : Int) < n then (t, 1) else (⟨t.b.extract n.toNat t.b.size, t.f - n.toNat, t.m, (t.s + n.toNat) % 18446744073709551616⟩, 0)
def Tp.chop (t : Tp) (n : Int) : Tp × Int := if n < 0 ∨ (t.b.size : Int) < n then (t, 1) else ({ t with b := t.b.extract 0 n.toNat, f := min t.f n.toNat }, 0)
/-- How many of them are left. -/
def Tp.left (t : Tp) (k : Int) : Nat := t.f + (max 0 (min k ((t.b.size : Int) - (t.f : Int)))).toNat
def Tp.crash (t : Tp) (k : Int) : Tp := { t with b := t.b.extract 0 (t.left k), f := t.left k }

theorem Tp.left_le (t : Tp) (h : t.ok) (k : Int) : t.f ≤ t.left k ∧ t.left k ≤ t.b.size := by
  have := h.fast
  unfold Tp.left
  omega
theorem ext_size (b : ByteArray) (i j : Nat) (h : j ≤ b.size) : (b.extract i j).size = j - i := by rw [ByteArray.size_extract]; omega
theorem Tp.new_ok (r : Int) : (Tp.new r).ok := ⟨Nat.le_refl _, Nat.zero_le _, by unfold Tp.new; simp only; omega, by unfold Tp.new; simp only; omega⟩
theorem Tp.app_ok (t : Tp) (h : t.ok) (x : ByteArray) : (t.app x).1.ok := by
  unfold Tp.app
  by_cases g : t.m < t.b.size + x.size
  · rw [if_pos g]
    exact h
  · rw [if_neg g]
    have z : (t.b ++ x).size = t.b.size + x.size := ByteArray.size_append
    exact ⟨by show t.f ≤ (t.b ++ x).size; have := h.fast; omega, by show (t.b ++ x).size ≤ t.m; omega, h.room, h.went⟩
theorem Tp.sync_ok (t : Tp) (h : t.ok) : t.sync.ok := ⟨Nat.le_refl _, h.few, h.room, h.went⟩
theorem Tp.cut_ok (t : Tp) (h : t.ok) (n : Int) : (t.cut n).1.ok := by
  unfold Tp.cut
  by_cases g : n < 0 ∨ (t.f : Int) < n
  · rw [if_pos g]
    exact h
  · rw [if_neg g]
    have z := ext_size t.b n.toNat t.b.size (Nat.le_refl _)
    have := h.fast
    have := h.few
    exact ⟨by show t.f - n.toNat ≤ (t.b.extract n.toNat t.b.size).size; omega, by show (t.b.extract n.toNat t.b.size).size ≤ t.m; omega, h.room, Nat.mod_lt _ (by omega)⟩
theorem Tp.chop_ok (t : Tp) (h : t.ok) (n : Int) : (t.chop n).1.ok := by
  unfold Tp.chop
  by_cases g : n < 0 ∨ (t.b.size : Int) < n
  · rw [if_pos g]
    exact h
  · rw [if_neg g]
    have z := ext_size t.b 0 n.toNat (by omega)
    have := h.few
    exact ⟨by show min t.f n.toNat ≤ (t.b.extract 0 n.toNat).size; omega, by show (t.b.extract 0 n.toNat).size ≤ t.m; omega, h.room, h.went⟩
theorem Tp.crash_ok (t : Tp) (h : t.ok) (k : Int) : (t.crash k).ok := by
  have hl := t.left_le h k
  have z := ext_size t.b 0 (t.left k) hl.2
  have := h.few
  exact ⟨by show t.left k ≤ (t.b.extract 0 (t.left k)).size; omega, by show (t.b.extract 0 (t.left k)).size ≤ t.m; omega, h.room, h.went⟩

/-! ### What a call may turn -/
/-- Only this block, and what is new, was turned. -/
structure But (g : Nat) (w w' : World) : Prop where
  os : w'.os = w.os
  tape : w'.tape = w.tape
  output : w'.output = w.output
  size : w.heap.size ≤ w'.heap.size
  block : ∀ k, k < w.heap.size → k ≠ g → w'.heap[k]? = w.heap[k]?
theorem But.refl (g : Nat) (w : World) : But g w w := ⟨rfl, rfl, rfl, Nat.le_refl _, fun _ _ _ => rfl⟩
theorem But.trans {g : Nat} {w x y : World} (h : But g w x) (k : But g x y) : But g w y :=
  ⟨k.os.trans h.os, k.tape.trans h.tape, k.output.trans h.output, Nat.le_trans h.size k.size, fun i hi hn => (k.block i (Nat.lt_of_lt_of_le hi h.size) hn).trans (h.block i hi hn)⟩
theorem But.set {g : Nat} {w x : World} (h : But g w x) (j : Nat) (v : Value) : But g w (x.setCell ⟨g, j, none⟩ v) :=
  ⟨h.os, h.tape, h.output, Nat.le_trans h.size ((Below.refl 0 x).setCell (Nat.zero_le _) v).size, fun i hi hn => (heap_setCell_other x ⟨g, j, none⟩ i v hn).trans (h.block i hi hn)⟩
theorem But.drew {g : Nat} {w x : World} (h : But g w x) : But g w x.drew := ⟨h.os, h.tape, h.output, h.size, h.block⟩
theorem But.below {g n : Nat} {w x : World} (h : But g w x) (hn : n ≤ g) (hs : n ≤ w.heap.size) : Below n w x :=
  ⟨h.os, h.tape, h.output, h.size, fun i hi => h.block i (by omega) (by omega)⟩
theorem But.row {g k : Nat} {w x : World} {t : TypeId} {cs : Array Value} (h : But g w x) (hr : RowAt w k t cs) (hn : k ≠ g) : RowAt x k t cs := (h.block k hr.lt hn).trans hr
end Go.Proofs.Ytkmlgfmpcglfeaa

/-
  Plain facts on bytes and numbers, of no program: the number that bytes spell, the highest first; the bytes of a number; what 'Take' answers.
-/
namespace Go.Proofs.Ytkmlgfmpcglfeaa
open Go.RowKit
set_option linter.unusedVariables false

/-- A fact kept from the walk. -/
theorem hide {p : Prop} (h : p) : Hid p := h

/-- The number whose bytes these are, the highest first. -/
def be (bs : List UInt8) : Nat := bs.foldl (fun n b => n * 256 + b.toNat) 0

theorem be_nil : be [] = 0 := rfl

theorem be_snoc (bs : List UInt8) (b : UInt8) : be (bs ++ [b]) = be bs * 256 + b.toNat := by
  simp [be, List.foldl_append]

theorem foldl_lt : ∀ (bs : List UInt8) (n k : Nat), n < 256 ^ k → bs.foldl (fun n b => n * 256 + b.toNat) n < 256 ^ (k + bs.length)
  | [], n, k, h => by simpa using h
  | b :: bs, n, k, h => by
    have hb : b.toNat < 256 := b.toNat_lt
    have h2 : n * 256 + b.toNat < 256 ^ (k + 1) := by rw [Nat.pow_succ]; omega
    have h3 := foldl_lt bs (n * 256 + b.toNat) (k + 1) h2
    simp only [List.foldl_cons, List.length_cons]
    have e : k + (bs.length + 1) = k + 1 + bs.length := by omega
    rw [e]
    exact h3

theorem be_lt (bs : List UInt8) : be bs < 256 ^ bs.length := by
  have h := foldl_lt bs 0 0 (by simp)
  rw [Nat.zero_add] at h
  exact h

theorem be_take_succ (bs : List UInt8) (k : Nat) (h : k < bs.length) : be (bs.take (k + 1)) = be (bs.take k) * 256 + (bs.getD k 0).toNat := by
  rw [List.take_succ_eq_append_getElem h, be_snoc]
  simp [List.getD, List.getElem?_eq_getElem h]

theorem pow256_le (k : Nat) (h : k ≤ 8) : 256 ^ k ≤ 18446744073709551616 := by
  have h2 : 256 ^ k ≤ 256 ^ 8 := Nat.pow_le_pow_right (by omega) h
  have h3 : 256 ^ 8 = 18446744073709551616 := by decide
  omega

theorem pow256_le7 (k : Nat) (h : k ≤ 7) : 256 ^ k ≤ 72057594037927936 := by
  have h2 : 256 ^ k ≤ 256 ^ 7 := Nat.pow_le_pow_right (by omega) h
  have h3 : 256 ^ 7 = 72057594037927936 := by decide
  omega

theorem be_take_lt7 (bs : List UInt8) (k : Nat) (h : k < 8) : be (bs.take k) < 72057594037927936 := by
  have h1 := be_lt (bs.take k)
  have h2 : 256 ^ (bs.take k).length ≤ 256 ^ 7 := Nat.pow_le_pow_right (by omega) (by simp; omega)
  have h3 : 256 ^ 7 = 72057594037927936 := by decide
  omega

theorem be_take_lt (bs : List UInt8) (k : Nat) (h : k ≤ 8) : be (bs.take k) < 18446744073709551616 := by
  have h1 := be_lt (bs.take k)
  have h2 : 256 ^ (bs.take k).length ≤ 256 ^ 8 := Nat.pow_le_pow_right (by omega) (by simp; omega)
  have h3 : 256 ^ 8 = 18446744073709551616 := by decide
  omega

/-- The number of so many bytes at a place. -/
def beAt (bs : List UInt8) (p k : Nat) : Nat := be ((bs.drop p).take k)

theorem beAt_zero (bs : List UInt8) (p : Nat) : beAt bs p 0 = 0 := by simp [beAt, be_nil]

theorem beAt_succ (bs : List UInt8) (p k : Nat) (h : p + k < bs.length) : beAt bs p (k + 1) = beAt bs p k * 256 + (bs.getD (p + k) 0).toNat := by
  unfold beAt
  rw [be_take_succ _ _ (by simp; omega)]
  simp [List.getD]

theorem beAt_lt7 (bs : List UInt8) (p k : Nat) (h : k < 8) : beAt bs p k < 72057594037927936 := be_take_lt7 _ _ h
theorem beAt_lt (bs : List UInt8) (p k : Nat) (h : k ≤ 8) : beAt bs p k < 18446744073709551616 := be_take_lt _ _ h

/-- A shift by a byte and an or with a byte: the sum. -/
theorem shl_or (n b : Nat) (hn : n < 72057594037927936) (hb : b < 256) : bits .or .u64 ((n : Int) * 256) (b : Int) = ((n * 256 + b : Nat) : Int) := by
  have e : ((n : Int) * 256) = ((n * 256 : Nat) : Int) := by omega
  rw [e, u64_or_nat (n * 256) b (by omega) (by omega), nat_join 8 (n * 256) b (by omega) (by omega)]

theorem take_step (bs : List UInt8) (p j : Nat) (hj : j < 8) (h : p + j < bs.length) :
    bits .or .u64 ((beAt bs p j : Nat) * 256 : Int) (IntKind.u64.wrap ((bs[p + j]?.getD 0).toNat : Int)) = ((beAt bs p (j + 1) : Nat) : Int) := by
  have hb : (bs[p + j]?.getD 0).toNat < 256 := (bs[p + j]?.getD 0).toNat_lt
  have e : IntKind.u64.wrap ((bs[p + j]?.getD 0).toNat : Int) = ((bs[p + j]?.getD 0).toNat : Int) := by rw [IntKind.wrap_u64]; omega
  rw [e, shl_or _ _ (beAt_lt7 bs p j hj) hb, beAt_succ bs p j h]
  simp [List.getD]

theorem getD_str (s : ByteArray) (i : Nat) (h : i < s.size) : s.data.toList.getD i 0 = s[i] := by
  have h2 : i < s.data.toList.length := by simpa using h
  rw [List.getD, List.getElem?_eq_getElem h2]
  rfl

theorem rtake_step (s : ByteArray) (p j : Nat) (hj : j < 8) (h : p + j < s.size) :
    IntKind.u64.wrap ((beAt s.data.toList p j : Nat) * 256 + IntKind.u64.wrap (s[p + j].toNat : Int)) = ((beAt s.data.toList p (j + 1) : Nat) : Int) := by
  have hb : s[p + j].toNat < 256 := s[p + j].toNat_lt
  have hn := beAt_lt7 s.data.toList p j hj
  rw [beAt_succ s.data.toList p j (by simpa using h), getD_str s (p + j) h, IntKind.wrap_u64, IntKind.wrap_u64]
  omega

/-- The test of 'Fits' in the walk's form. -/
theorem shr_zero (n k : Nat) : ((n : Int) / 2 ^ (8 * k) == 0) = decide (n < 256 ^ k) := by
  have e : (2 : Int) ^ (8 * k) = ((256 ^ k : Nat) : Int) := by
    rw [Int.pow_mul]
    simp
  rw [e]
  have hp : 0 < 256 ^ k := Nat.pow_pos (by omega)
  rw [Bool.eq_iff_iff]
  simp only [beq_iff_eq, decide_eq_true_eq]
  constructor
  · intro h
    have h2 : ((n / 256 ^ k : Nat) : Int) = 0 := by rw [Int.natCast_ediv]; exact h
    have h3 : n / 256 ^ k = 0 := by omega
    exact (Nat.div_eq_zero_iff_lt hp).1 h3
  · intro h
    have h3 : n / 256 ^ k = 0 := (Nat.div_eq_zero_iff_lt hp).2 h
    have h2 : ((n / 256 ^ k : Nat) : Int) = 0 := by omega
    rw [Int.natCast_ediv] at h2
    exact h2

theorem byte_at (n m : Nat) : (n : Int) / 2 ^ (8 * m) % 256 = ((UInt8.ofNat (n / 256 ^ m)).toNat : Int) := by
  have e : (2 : Int) ^ (8 * m) = ((256 ^ m : Nat) : Int) := by
    rw [Int.pow_mul]
    simp
  rw [e, ← Int.natCast_ediv]
  simp

/-- A slice value whose elements read as these bytes. -/
def IsB (w : World) (a : Option Addr) (len : Nat) (bs : List UInt8) : Prop :=
  bs.length = len ∧ (0 < len → ∃ b off, a = some ⟨b, off, none⟩ ∧ b < w.heap.size ∧ ∀ j, j < len → w.cell? ⟨b, off + j, none⟩ = some (.int .u8 ((bs.getD j 0).toNat : Int)))

/-- Later worlds in which nothing old has turned read the same bytes. -/
theorem IsB.below {w w' : World} {a : Option Addr} {len : Nat} {bs : List UInt8} (h : IsB w a len bs) (hb : Below w.heap.size w w') : IsB w' a len bs := by
  refine ⟨h.1, fun hp => ?_⟩
  obtain ⟨b, off, ha, hlt, hc⟩ := h.2 hp
  exact ⟨b, off, ha, Nat.lt_of_lt_of_le hlt hb.size, fun j hj => (hb.cell (p := ⟨b, off + j, none⟩) hlt).trans (hc j hj)⟩

/-- .. where just the blocks below a number are as they were. -/
theorem IsB.later {w w' : World} {a : Option Addr} {len B : Nat} {bs : List UInt8} (h : IsB w a len bs) (hb : Below B w w') (ha : ∀ b off, a = some ⟨b, off, none⟩ → b < B) : IsB w' a len bs := by
  refine ⟨h.1, fun hp => ?_⟩
  obtain ⟨b, off, hab, hlt, hc⟩ := h.2 hp
  exact ⟨b, off, hab, Nat.lt_of_lt_of_le hlt hb.size, fun j hj => (hb.cell (p := ⟨b, off + j, none⟩) (ha b off hab)).trans (hc j hj)⟩

theorem IsB.nil (w : World) : IsB w none 0 [] := ⟨rfl, fun h => absurd h (by omega)⟩

/-- Bytes as cells. -/
def toV (bs : List UInt8) : List Value := bs.map fun b => Value.int .u8 (b.toNat : Int)
theorem toV_length (bs : List UInt8) : (toV bs).length = bs.length := by simp [toV]
theorem toV_append (a b : List UInt8) : toV (a ++ b) = toV a ++ toV b := by simp [toV]
theorem toV_one (bs : List UInt8) : ∀ v ∈ toV bs, v.oneCell' = true := by
  intro v hv
  obtain ⟨b, _, rfl⟩ := List.mem_map.1 hv
  rfl
theorem toV_get (bs : List UInt8) (j : Nat) (h : j < bs.length) : (toV bs)[j]? = some (.int .u8 ((bs.getD j 0).toNat : Int)) := by
  simp [toV, List.getD, List.getElem?_eq_getElem h]
theorem toV_some (bs : List UInt8) (j : Nat) (v : Value) (h : (toV bs)[j]? = some v) : j < bs.length ∧ v = .int .u8 ((bs.getD j 0).toNat : Int) := by
  have hj : j < bs.length := by
    have := (List.getElem?_eq_some_iff.1 h).1
    rwa [toV_length] at this
  rw [toV_get bs j hj] at h
  exact ⟨hj, (Option.some.inj h).symm⟩

theorem IsB.cells {w : World} {a : Option Addr} {len : Nat} {bs : List UInt8} (h : IsB w a len bs) (hp : 0 < bs.length) : ∃ ad, a = some ad ∧ ad.block < w.heap.size ∧ ∀ j v, (toV bs)[j]? = some v → w.cell? (ad.add j) = some v := by
  obtain ⟨b, off, ha, hlt, hc⟩ := h.2 (by have := h.1; omega)
  refine ⟨_, ha, hlt, fun j v hv => ?_⟩
  obtain ⟨hj, rfl⟩ := toV_some bs j v hv
  rw [Addr.add_lit]
  exact hc j (by have := h.1; omega)

/-- A row of noughts. -/
def zrow (n : Nat) : List Value := List.replicate n (.int .u8 0)
theorem zrow_length (n : Nat) : (zrow n).length = n := by simp [zrow]

theorem run_mk {P : Program} (t e : TypeId) (ht : P.underlying t = some (.slice e)) (hinfo : (P.info? e).map (fun i => (i.zero, i.size, i.bytes)) = some (some (.int .u8 0), 1, 1)) (l m : Nat) (h : l + m ≤ 281474976710656) (w : World) :
    (Instr.makeSlice t (.int .i64 (l : Int)) (.int .i64 ((l : Int) + (m : Int)))).run P w = .ok (.slice (some ⟨w.heap.size, 0, none⟩) l (l + m)) (w.alloc (.cells (zrow (l + m)).toArray e)) := by
  obtain ⟨i, hi, hz, hs, hb⟩ := info_parts hinfo
  have hr := run_make (P := P) w t e i (.int .u8 0) ht hi hz .i64 .i64 (l : Int) ((l : Int) + (m : Int)) (by omega) (by omega) (by rw [hb]; omega) (by omega)
  have e1 : ((l : Int) + (m : Int)).toNat = l + m := by omega
  have e2 : (Value.int .u8 0).cells = #[.int .u8 0] := rfl
  rw [hr, e1, hs, Nat.mul_one, e2]
  have e3 : madeCells #[Value.int .u8 0] (l + m) = (zrow (l + m)).toArray := by
    apply Array.ext'
    rw [toList_madeCells_one]
    rfl
  rw [e3]
  rfl

theorem splice_zero (L cs : List Value) : splice L 0 cs = cs ++ L.drop cs.length := by simp [splice]

/-- A fresh row of bytes with room behind: what 'longer' hands back. -/
theorem owns_spliced {w : World} {base g len m : Nat} {e : TypeId} {bs : List UInt8} (hb : bs.length = len) (hbase : base ≤ g) (hm : len + m ≤ 281474976710656)
    (h : w.heap[g]? = some (.cells (splice (zrow (len + m)) 0 (toV bs)).toArray e (0, 0))) : w.ownsRow base e 1 (.slice (some ⟨g, 0, none⟩) len (len + m)) len (toV bs) := by
  refine ⟨by rw [toV_length]; omega, .inr ⟨g, len + m, _, rfl, hbase, h, by omega, by unfold maxLen; omega, ?_, ?_⟩⟩
  · rw [List.size_toArray, length_splice _ _ _ (by rw [toV_length, zrow_length]; omega), zrow_length]
    omega
  · rw [splice_zero, Nat.mul_one]
    exact List.take_left' (by rw [toV_length]; omega)

theorem IsB.hpos {w : World} {a : Option Addr} {len : Nat} {bs : List UInt8} (hB : IsB w a len bs) (o : Obj) (x : Option Addr) : 0 < (toV bs).length → x = x ∧ ∃ ad, a = some ad ∧ ∀ j v, (toV bs)[j]? = some v → (w.alloc o).cell? (ad.add j) = some v := by
  intro hp
  rw [toV_length] at hp
  obtain ⟨ad, ha, _, hc⟩ := hB.cells hp
  refine ⟨rfl, ad, ha, fun j v hv => ?_⟩
  have hx := hc j v hv
  exact ((((Below.refl w.heap.size w).alloc (Nat.le_refl _) _).cell (p := ad.add j) (World.block_lt_of_cell? w _ hx))).trans hx

/-- The bytes of a number in so many bytes, the highest first. -/
def beB (k n : Nat) : List UInt8 := (List.range k).map fun i => UInt8.ofNat (n / 256 ^ (k - 1 - i))
theorem beB_length (k n : Nat) : (beB k n).length = k := by simp [beB]
theorem beB_take (k n j : Nat) (h : j < k) : (beB k n).take (j + 1) = (beB k n).take j ++ [UInt8.ofNat (n / 256 ^ (k - 1 - j))] := by
  rw [List.take_succ_eq_append_getElem (by rw [beB_length]; exact h)]
  simp [beB]

theorem put_row {w : World} {base g len j cap : Nat} {e : TypeId} {bs t t' : List UInt8} {x : UInt8} (h : w.ownsRow base e 1 (.slice (some ⟨g, 0, none⟩) (len + j + 1) cap) (len + j + 1) (toV (bs ++ t) ++ [.int .u8 (x.toNat : Int)])) (ht : t' = t ++ [x]) :
    w.ownsRow base e 1 (.slice (some ⟨g, 0, none⟩) (len + (j + 1)) cap) (len + (j + 1)) (toV (bs ++ t')) := by
  subst ht
  have e1 : toV (bs ++ (t ++ [x])) = toV (bs ++ t) ++ [.int .u8 (x.toNat : Int)] := by simp [toV]
  rw [e1]
  exact h

/-- '[]byte(s)': the new row reads as the string's bytes; nothing old has turned. -/
theorem isB_conv (w : World) (e : TypeId) (s : ByteArray) : IsB (Lib.bytesWorld w e s) (some ⟨w.heap.size, 0, none⟩) s.size s.data.toList := by
  refine ⟨by simp, fun _ => ⟨w.heap.size, 0, rfl, by rw [Lib.bytesWorld_size]; omega, fun j hj => ?_⟩⟩
  rw [Nat.zero_add, Lib.bytesWorld_cell w e s j hj]

theorem below_conv (w : World) (e : TypeId) (s : ByteArray) : Below w.heap.size w (Lib.bytesWorld w e s) :=
  ⟨rfl, rfl, rfl, by rw [Lib.bytesWorld_size]; omega, fun k hk => Lib.bytesWorld_at_old w e s k hk⟩

/-- 'string(b)' of a slice that reads as these bytes. -/
theorem run_toString {P : Program} (w : World) (src dst e : TypeId) (hs : P.underlying src = some (.slice e)) (he : P.underlying e = some (.int .u8)) (hd : P.underlying dst = some .string)
    (a : Option Addr) (len cap : Nat) (bs : List UInt8) (h : IsB w a len bs) : (convert src dst (.slice a len cap)).run P w = .ok (.string ⟨bs.toArray⟩) w := by
  obtain ⟨hl, hc⟩ := h
  cases a with
  | none =>
    have h0 : ¬ 0 < len := by
      intro hp
      obtain ⟨b, off, ha, _⟩ := hc hp
      simp at ha
    have h1 : bs = [] := List.eq_nil_of_length_eq_zero (by omega)
    subst h1
    exact run_convert_bytes_nil w src e hs he len cap dst hd
  | some ad =>
    subst hl
    refine run_convert_bytes_back w src dst e ad cap bs hs he hd fun j hj => ?_
    obtain ⟨b, off, ha, _, hcell⟩ := hc (by omega)
    obtain rfl := Option.some.inj ha
    rw [Addr.add_lit, hcell j hj]
    simp [List.getD, List.getElem?_eq_getElem hj]

/-- A cut of a slice reads as the cut of its bytes. -/
theorem IsB.cut {w : World} {b off len : Nat} {bs : List UInt8} (hb : bs.length = len) (hlt : b < w.heap.size) (hc : ∀ j, j < len → w.cell? ⟨b, off + j, none⟩ = some (.int .u8 ((bs.getD j 0).toNat : Int)))
    (p m : Nat) (h : p + m ≤ len) : IsB w (some ⟨b, off + p, none⟩) m ((bs.drop p).take m) := by
  refine ⟨by simp; omega, fun _ => ⟨b, off + p, rfl, hlt, fun j hj => ?_⟩⟩
  rw [Nat.add_assoc, hc (p + j) (by omega)]
  simp [List.getD, hj]

theorem IsB.none_left (w : World) (a : Option Addr) : IsB w a 0 [] := ⟨rfl, fun h => absurd h (by omega)⟩

/-- An owned row of bytes reads as these bytes. -/
theorem _root_.Go.World.ownsRow.isB {w : World} {base g n cap : Nat} {e : TypeId} {bs : List UInt8} (h : w.ownsRow base e 1 (.slice (some ⟨g, 0, none⟩) n cap) n (toV bs)) (hl : bs.length = n) : IsB w (some ⟨g, 0, none⟩) n bs := by
  refine ⟨hl, fun _ => ⟨g, 0, rfl, (h.lt g rfl).2, fun j hj => ?_⟩⟩
  rw [Nat.zero_add, h.cellAt j (by omega), toV_get bs j (by omega)]

/-- 'string([]byte{x})'. -/
theorem run_oneByte {P : Program} (w : World) (src dst e : TypeId) (hs : P.underlying src = some (.slice e)) (he : P.underlying e = some (.int .u8)) (hd : P.underlying dst = some .string) (x : Int) (y : UInt8) (hx : x = (y.toNat : Int)) :
    (convert src dst (.slice (some ⟨w.heap.size, 0, none⟩) 1 1)).run P (w.alloc (.cells #[.int .u8 x] e)) = .ok (.string ⟨#[y]⟩) (w.alloc (.cells #[.int .u8 x] e)) := by
  subst hx
  refine run_toString (w.alloc (.cells #[.int .u8 (y.toNat : Int)] e)) src dst e hs he hd (some ⟨w.heap.size, 0, none⟩) 1 1 [y] ⟨rfl, fun _ => ⟨w.heap.size, 0, rfl, by simp, fun j hj => ?_⟩⟩
  obtain rfl : j = 0 := by omega
  simp

/-- What 'Take' answers: the number and the error's number. -/
def takeS (bs : List UInt8) (p k : Int) : Int × Int :=
  if k < 1 ∨ 8 < k ∨ p < 0 then (0, 1)
  else if (bs.length : Int) - p < k then (0, 4)
  else (((beAt bs p.toNat k.toNat : Nat) : Int), 0)

theorem takeS_arg (bs : List UInt8) (p k : Int) (h : k < 1 ∨ 8 < k ∨ p < 0) : takeS bs p k = (0, 1) := by simp [takeS, h]
theorem takeS_short (bs : List UInt8) (p k : Int) (h : ¬ (k < 1 ∨ 8 < k ∨ p < 0)) (h2 : (bs.length : Int) - p < k) : takeS bs p k = (0, 4) := by
  unfold takeS; rw [if_neg h, if_pos h2]
theorem takeS_ok (bs : List UInt8) (p k : Int) (h : ¬ (k < 1 ∨ 8 < k ∨ p < 0)) (h2 : ¬ (bs.length : Int) - p < k) : takeS bs p k = (((beAt bs p.toNat k.toNat : Nat) : Int), 0) := by
  unfold takeS; rw [if_neg h, if_neg h2]


/-- What 'TakeText' answers: the text, the place behind it, the error's number. -/
def textS (bs : List UInt8) (p : Int) : List UInt8 × Int × Int :=
  if p < 0 then ([], 0, 1)
  else if (bs.length : Int) ≤ p then ([], 0, 4)
  else if (bs.length : Int) < p + 1 + ((bs.getD p.toNat 0).toNat : Int) then ([], 0, 4)
  else ((bs.drop (p.toNat + 1)).take (bs.getD p.toNat 0).toNat, p + 1 + ((bs.getD p.toNat 0).toNat : Int), 0)

theorem textS_arg (bs : List UInt8) (p : Int) (h : p < 0) : textS bs p = ([], 0, 1) := by simp [textS, h]
theorem textS_short (bs : List UInt8) (p : Int) (h : ¬ p < 0) (h2 : (bs.length : Int) ≤ p) : textS bs p = ([], 0, 4) := by
  unfold textS; rw [if_neg h, if_pos h2]
theorem textS_few (bs : List UInt8) (p m : Nat) (h2 : p < bs.length) (hm : (bs.getD p 0).toNat = m) (h3 : bs.length < p + 1 + m) : textS bs p = ([], 0, 4) := by
  unfold textS; rw [if_neg (by omega), if_neg (by omega), Int.toNat_natCast, hm, if_pos (by omega)]
theorem textS_ok (bs : List UInt8) (p m : Nat) (h2 : p < bs.length) (hm : (bs.getD p 0).toNat = m) (h3 : p + 1 + m ≤ bs.length) : textS bs p = ((bs.drop (p + 1)).take m, (p : Int) + 1 + (m : Int), 0) := by
  unfold textS; rw [if_neg (by omega), if_neg (by omega), Int.toNat_natCast, hm, if_neg (by omega)]

theorem extract_eq (s : ByteArray) (p m : Nat) (h : p + m ≤ s.size) : s.extract p (p + m) = ⟨((s.data.toList.drop p).take m).toArray⟩ := by
  apply ByteArray.ext
  rw [ByteArray.data_extract]
  apply Array.ext'
  rw [Array.toList_extract]
  simp [List.extract_eq_take_drop]


theorem beB_cons (k n : Nat) : beB (k + 1) n = UInt8.ofNat (n / 256 ^ k) :: beB k n := by
  apply List.ext_getElem
  · simp [beB]
  · intro i h1 h2
    cases i with
    | zero => simp [beB]
    | succ i =>
      simp only [beB, List.getElem_map, List.getElem_range, List.getElem_cons_succ]
      congr 3
      omega

theorem div_pow (n j : Nat) : n / 256 ^ j / 256 = n / 256 ^ (j + 1) := by rw [Nat.div_div_eq_div_mul, Nat.pow_succ]

theorem div_zero_iff (n k : Nat) : ((n / 256 ^ k : Nat) : Int) = 0 ↔ n < 256 ^ k := by
  have hp : 0 < 256 ^ k := Nat.pow_pos (by omega)
  have e := Nat.div_eq_zero_iff_lt (x := n) hp
  omega

/-- A number without its lowest bytes. -/
def sh (n j : Nat) : Nat := n / 256 ^ j
theorem sh_zero (n : Nat) : sh n 0 = n := by simp [sh]
theorem sh_succ (n j : Nat) : sh n j / 256 = sh n (j + 1) := div_pow n j
theorem sh_le (n j : Nat) : sh n j ≤ n := Nat.div_le_self _ _
theorem sh_test (n k : Nat) : (((sh n k : Nat) : Int) == 0) = decide (n < 256 ^ k) := by
  rw [Bool.eq_iff_iff]
  simp only [beq_iff_eq, decide_eq_true_eq]
  exact div_zero_iff n k

theorem toNat_ofNat (a : Nat) : (UInt8.ofNat a).toNat = a % 256 := by simp

theorem beB_low (k n : Nat) : beB k n = beB k (n % 256 ^ k) := by
  apply List.ext_getElem
  · simp [beB]
  · intro i h1 h2
    have hi : i < k := by simpa [beB] using h1
    simp only [beB, List.getElem_map, List.getElem_range]
    apply UInt8.toNat_inj.1
    rw [toNat_ofNat, toNat_ofNat]
    have e : 256 ^ k = 256 ^ (k - 1 - i) * (256 * 256 ^ i) := by
      rw [← Nat.pow_succ', ← Nat.pow_add]
      congr 1
      omega
    rw [e, Nat.mod_mul_right_div_self, Nat.mod_mul_right_mod]

theorem order_lex (q a b c d : Nat) (h1 : c < q) (h2 : d < q) : (a < b ∨ a = b ∧ c < d) ↔ q * a + c < q * b + d := by
  rcases Nat.lt_trichotomy a b with h | h | h
  · have e : q * (a + 1) ≤ q * b := Nat.mul_le_mul_left q h
    rw [Nat.mul_add] at e
    omega
  · subst h
    omega
  · have e : q * (b + 1) ≤ q * a := Nat.mul_le_mul_left q h
    rw [Nat.mul_add] at e
    omega

/-- Numbers of one width stand in the order of their bytes. -/
theorem less_beB : ∀ (k n m : Nat), n < 256 ^ k → m < 256 ^ k → Op.bytesLess (beB k n) (beB k m) = decide (n < m)
  | 0, n, m, hn, hm => by
    have h1 : n = 0 := by simpa using hn
    have h2 : m = 0 := by simpa using hm
    subst h1
    subst h2
    rfl
  | k + 1, n, m, hn, hm => by
    have hp : 0 < 256 ^ k := Nat.pow_pos (by omega)
    rw [beB_cons, beB_cons, beB_low k n, beB_low k m]
    have ih := less_beB k (n % 256 ^ k) (m % 256 ^ k) (Nat.mod_lt _ hp) (Nat.mod_lt _ hp)
    simp only [Op.bytesLess]
    rw [ih]
    have e1 := Nat.div_add_mod n (256 ^ k)
    have e2 := Nat.div_add_mod m (256 ^ k)
    have q1 : n / 256 ^ k < 256 := Nat.div_lt_of_lt_mul (by rw [Nat.pow_succ] at hn; exact hn)
    have q2 : m / 256 ^ k < 256 := Nat.div_lt_of_lt_mul (by rw [Nat.pow_succ] at hm; exact hm)
    have r1 := Nat.mod_lt n hp
    have r2 := Nat.mod_lt m hp
    generalize n / 256 ^ k = a at *
    generalize m / 256 ^ k = b at *
    generalize n % 256 ^ k = c at *
    generalize m % 256 ^ k = d at *
    generalize 256 ^ k = q at *
    rw [Bool.eq_iff_iff]
    simp only [Bool.or_eq_true, decide_eq_true_eq, Bool.and_eq_true, beq_iff_eq, UInt8.lt_iff_toNat_lt, ← UInt8.toNat_inj, toNat_ofNat]
    rw [Nat.mod_eq_of_lt q1, Nat.mod_eq_of_lt q2]
    subst e1
    subst e2
    exact order_lex q a b c d r1 r2


theorem mk_append (a b : List UInt8) : (⟨a.toArray⟩ : ByteArray) ++ ⟨b.toArray⟩ = ⟨(a ++ b).toArray⟩ := by
  rw [ByteArray.mk_append_mk]

theorem size_mk (l : List UInt8) : ByteArray.size ⟨l.toArray⟩ = l.length := by
  show l.toArray.size = l.length
  rw [List.size_toArray]

theorem str_cons (j n : Nat) : (⟨#[UInt8.ofNat (sh n j)]⟩ : ByteArray) ++ ⟨(beB j n).toArray⟩ = ⟨(beB (j + 1) n).toArray⟩ := by
  rw [beB_cons]
  exact mk_append [UInt8.ofNat (sh n j)] (beB j n)

theorem str_append (s : ByteArray) (b : List UInt8) : s ++ ⟨b.toArray⟩ = ⟨(s.data.toList ++ b).toArray⟩ := by
  have e : s = ⟨s.data.toList.toArray⟩ := by
    apply ByteArray.ext
    simp
  have h := mk_append s.data.toList b
  rw [← e] at h
  exact h


/-- A text's bytes: its length, and its own. -/
def textB (s : List UInt8) : List UInt8 := UInt8.ofNat s.length :: s
theorem textB_length (s : List UInt8) : (textB s).length = 1 + s.length := by simp [textB]; omega


/-- What is owned stays owned where nothing old has turned. -/
theorem ownsRow_below {w w' : World} {base n size : Nat} {e : TypeId} {v : Value} {xs : List Value} (h : w.ownsRow base e size v n xs) (hb : Below w.heap.size w w') : w'.ownsRow base e size v n xs := by
  refine ⟨h.1, ?_⟩
  rcases h.2 with hn | ⟨g, cap, cur, rfl, hbg, hg, rest⟩
  · exact .inl hn
  · exact .inr ⟨g, cap, cur, rfl, hbg, by rw [hb.block g (Array.getElem?_eq_some_iff.1 hg).1]; exact hg, rest⟩

theorem mk_self (s : ByteArray) : (⟨s.data.toList.toArray⟩ : ByteArray) = s := by
  apply ByteArray.ext
  simp

theorem data_length (s : ByteArray) : s.data.toList.length = s.size := by simp

/-- Whatever value owns a row of bytes: its shape, and that it reads as these bytes. -/
theorem shape_isB {w : World} {base n : Nat} {e : TypeId} {v : Value} {bs : List UInt8} (h : w.ownsRow base e 1 v n (toV bs)) : ∃ a cap, v = .slice a n cap ∧ n ≤ cap ∧ IsB w a n bs := by
  have hl : bs.length = n := by
    have := h.1
    rw [toV_length] at this
    omega
  rcases h.2 with ⟨rfl, rfl⟩ | ⟨g, cap, cur, rfl, _, _, hn, _⟩
  · exact ⟨none, 0, rfl, Nat.le_refl _, ⟨hl, fun h => absurd h (by omega)⟩⟩
  · exact ⟨_, cap, rfl, hn, World.ownsRow.isB h hl⟩

theorem ofNat_len (s : List UInt8) (h : s.length ≤ 255) : (UInt8.ofNat s.length).toNat = s.length := by
  rw [toNat_ofNat]
  omega

/-- A text that was put is taken again. -/
theorem textS_back (b s t : List UInt8) (h : s.length ≤ 255) : textS (b ++ textB s ++ t) (b.length : Int) = (s, (b.length : Int) + 1 + (s.length : Int), 0) := by
  have hg : ((b ++ textB s ++ t).getD b.length 0).toNat = s.length := by
    have e : (b ++ textB s ++ t).getD b.length 0 = UInt8.ofNat s.length := by simp [List.getD, textB]
    rw [e, ofNat_len s h]
  have hl : (b ++ textB s ++ t).length = b.length + (1 + s.length) + t.length := by
    rw [List.length_append, List.length_append, textB_length]
  rw [textS_ok _ b.length s.length (by omega) hg (by omega)]
  have e : ((b ++ textB s ++ t).drop (b.length + 1)).take s.length = s := by
    have e1 : b ++ textB s ++ t = (b ++ [UInt8.ofNat s.length]) ++ (s ++ t) := by simp [textB]
    rw [e1, List.drop_left' (by simp), List.take_left' rfl]
  rw [e]

theorem toV_str (bs : List UInt8) (s : ByteArray) : toV bs ++ Lib.strCells s = toV (bs ++ s.data.toList) := by simp [toV, Lib.strCells]


theorem be_cons (b : UInt8) (bs : List UInt8) : be (b :: bs) = b.toNat * 256 ^ bs.length + be bs := by
  have h : ∀ (l : List UInt8) (x : Nat), l.foldl (fun n b => n * 256 + b.toNat) x = x * 256 ^ l.length + be l := by
    intro l
    induction l with
    | nil => intro x; simp [be]
    | cons c l ih =>
      intro x
      have e : be (c :: l) = l.foldl (fun n b => n * 256 + b.toNat) (0 * 256 + c.toNat) := rfl
      rw [List.foldl_cons, ih, e, ih, List.length_cons, Nat.pow_succ, Nat.add_mul, Nat.zero_mul, Nat.zero_add, Nat.mul_assoc, Nat.mul_comm 256]
      omega
  have e : be (b :: bs) = bs.foldl (fun n b => n * 256 + b.toNat) (0 * 256 + b.toNat) := rfl
  rw [e, h]
  simp

/-- The bytes of a number spell it. -/
theorem be_beB : ∀ (k n : Nat), n < 256 ^ k → be (beB k n) = n
  | 0, n, h => by
    have h1 : n = 0 := by simpa using h
    subst h1
    rfl
  | k + 1, n, h => by
    have hp : 0 < 256 ^ k := Nat.pow_pos (by omega)
    have q1 : n / 256 ^ k < 256 := Nat.div_lt_of_lt_mul (by rw [Nat.pow_succ] at h; exact h)
    rw [beB_cons, be_cons, beB_length, toNat_ofNat, Nat.mod_eq_of_lt q1, beB_low k n, be_beB k _ (Nat.mod_lt _ hp), Nat.mul_comm]
    exact Nat.div_add_mod n (256 ^ k)

/-- What was put is taken again. -/
theorem takeS_back (b t : List UInt8) (k n : Nat) (h1 : 1 ≤ k) (h2 : k ≤ 8) (hn : n < 256 ^ k) : takeS (b ++ beB k n ++ t) (b.length : Int) (k : Int) = ((n : Int), 0) := by
  have hl : (b ++ beB k n ++ t).length = b.length + k + t.length := by rw [List.length_append, List.length_append, beB_length]
  rw [takeS_ok _ _ _ (by omega) (by omega), Int.toNat_natCast, Int.toNat_natCast]
  have e : beAt (b ++ beB k n ++ t) b.length k = n := by
    unfold beAt
    rw [List.append_assoc, List.drop_left' rfl, List.take_left' (beB_length k n), be_beB k n hn]
  rw [e]


/-- A new row of bytes, whatever its mark. -/
theorem isB_lit (w : World) (C : Array Value) (e : TypeId) (fr : Nat × Nat) (bs : List UInt8) (n : Nat) (hC : C.toList = toV bs) (hn : bs.length = n) : IsB (w.alloc (.cells C e fr)) (some ⟨w.heap.size, 0, none⟩) n bs := by
  refine ⟨hn, fun _ => ⟨w.heap.size, 0, rfl, by simp, fun j hj => ?_⟩⟩
  rw [Nat.zero_add, World.cell?_alloc_mark, ← Array.getElem?_toList, hC, toV_get bs j (by omega)]


theorem run_mkn {P : Program} (t e : TypeId) (ht : P.underlying t = some (.slice e)) (hinfo : (P.info? e).map (fun i => (i.zero, i.size, i.bytes)) = some (some (.int .u8 0), 1, 1)) (l : Nat) (h : l ≤ 281474976710656) (w : World) :
    (Instr.makeSlice t (.int .i64 (l : Int)) (.int .i64 (l : Int))).run P w = .ok (.slice (some ⟨w.heap.size, 0, none⟩) l l) (w.alloc (.cells (zrow l).toArray e)) := by
  have hr := run_mk t e ht hinfo l 0 (by omega) w
  simpa using hr


/-- A row that is owned and not empty: where it lies. -/
theorem own_slice {w : World} {base n size : Nat} {e : TypeId} {v : Value} {xs : List Value} (h : w.ownsRow base e size v n xs) (hn : 0 < n) : ∃ g cap, v = .slice (some ⟨g, 0, none⟩) n cap ∧ base ≤ g := by
  rcases h.2 with ⟨_, h0⟩ | ⟨g, cap, cur, hv, hb, _⟩
  · omega
  · exact ⟨g, cap, hv, hb⟩

end Go.Proofs.Ytkmlgfmpcglfeaa

/-
  Bytes put behind bytes where there is no room: a new row. Of no program.
-/
namespace Go.Proofs.Ytkmlgfmpcglfeaa
open Go.RowKit
set_option linter.unusedVariables false

theorem isB_cells {w : World} {b off n : Nat} {bs : List UInt8} (h : IsB w (some ⟨b, off, none⟩) n bs) : ∀ j u, (toV bs)[j]? = some u → w.cell? ((⟨b, off, none⟩ : Addr).add j) = some u := by
  intro j u hu
  have hj : j < bs.length := by
    have := (List.getElem?_eq_some_iff.1 hu).1
    rwa [toV_length] at this
  obtain ⟨b', off', hb, _, hc⟩ := h.2 (by have := h.1; omega)
  cases hb
  rw [Addr.add_lit, hc j (by have := h.1; omega), ← toV_get bs j hj]
  exact hu

theorem wpList_append_b {P : Program} (w : World) {ops : Array Oper} {rest : List Oper} {o : Oper} {a : Act} {Q : Exit → Act → World → Prop}
    (hg : o.guard = none) (s x : Operand) (t : TypeId) (hop : o.op = Op.call { callee := Callee.builtin Builtin.append, args := #[s, x], argTypes := #[t, t] })
    (e : TypeId) (ht : P.underlying t = some (.slice e)) (hi : (P.info? e).map (fun i => (i.zero, i.size, i.bytes)) = some (some (.int .u8 0), 1, 1))
    (b off n cap : Nat) (xs : List UInt8) (hs : a.eval s = .slice (some ⟨b, off, none⟩) n cap) (hB : IsB w (some ⟨b, off, none⟩) n xs)
    (b2 off2 m c : Nat) (ys : List UInt8) (hx : a.eval x = .slice (some ⟨b2, off2, none⟩) m c) (hB2 : IsB w (some ⟨b2, off2, none⟩) m ys)
    (hfull : cap < n + m) (hz : n + m ≤ 140737488355328)
    (hK : ∀ v' w', w'.ownsRow w.heap.size e 1 v' (n + m) (toV (xs ++ ys)) → w.grownBy w' none → wpList P ops Q rest (a.put o.dst v') w') :
    wpList P ops Q (o :: rest) a w := by
  obtain ⟨i, hi0, hi1⟩ := Option.map_eq_some_iff.1 hi
  simp only [Prod.mk.injEq] at hi1
  refine wpList_append_grows w hg s x t hop e i (.int .u8 0) 1 1 ht hi0 hi1.1 hi1.2.1 hi1.2.2 rfl (by omega) (some ⟨b, off, none⟩) n cap (toV xs) hs (fun h => nomatch h) (by rw [toV_length, hB.1, Nat.mul_one]) ?_
    ⟨b2, off2, none⟩ m c (toV ys) hx (by rw [toV_length, hB2.1, Nat.mul_one]) (isB_cells hB2) ?_ hfull (by unfold maxLen; omega) (by omega) ?_
  · intro b' hb'
    cases hb'
    exact isB_cells hB
  · intro u hu
    obtain ⟨y, _, rfl⟩ := List.mem_map.1 hu
    rfl
  · intro v' w' h1 h2
    refine hK v' w' ?_ h2
    have e2 : toV xs ++ toV ys = toV (xs ++ ys) := by simp [toV]
    rw [← e2]
    exact h1

/-- .. as one step of a region that draws its order. -/
theorem step_append_b {P : Program} {ops : Array Oper} {o : Oper} {a : Act} {w : World} {K : Act → World → Prop} {Q : Exit → Act → World → Prop} {E : Prop}
    (hg : o.guard = none) (s x : Operand) (t : TypeId) (hop : o.op = Op.call { callee := Callee.builtin Builtin.append, args := #[s, x], argTypes := #[t, t] })
    (e : TypeId) (ht : P.underlying t = some (.slice e)) (hi : (P.info? e).map (fun i => (i.zero, i.size, i.bytes)) = some (some (.int .u8 0), 1, 1))
    (b off n cap : Nat) (xs : List UInt8) (hs : a.eval s = .slice (some ⟨b, off, none⟩) n cap) (hB : IsB w (some ⟨b, off, none⟩) n xs)
    (b2 off2 m c : Nat) (ys : List UInt8) (hx : a.eval x = .slice (some ⟨b2, off2, none⟩) m c) (hB2 : IsB w (some ⟨b2, off2, none⟩) m ys)
    (hfull : cap < n + m) (hz : n + m ≤ 140737488355328)
    (hK : ∀ v' w', w'.ownsRow w.heap.size e 1 v' (n + m) (toV (xs ++ ys)) → w.grownBy w' none → K (a.put o.dst v') w') :
    if Region.wanted o (yielded ops a.tmps) = true then Oper.wp P o a w K Q else E := by
  obtain ⟨i, hi0, hi1⟩ := Option.map_eq_some_iff.1 hi
  simp only [Prod.mk.injEq] at hi1
  refine step_append_grows hg s x t hop e i (.int .u8 0) 1 1 ht hi0 hi1.1 hi1.2.1 hi1.2.2 rfl (by omega) (some ⟨b, off, none⟩) n cap (toV xs) hs (fun h => nomatch h) (by rw [toV_length, hB.1, Nat.mul_one]) ?_
    ⟨b2, off2, none⟩ m c (toV ys) hx (by rw [toV_length, hB2.1, Nat.mul_one]) (isB_cells hB2) ?_ hfull (by unfold maxLen; omega) (by omega) ?_
  · intro b' hb'
    cases hb'
    exact isB_cells hB
  · intro u hu
    obtain ⟨y, _, rfl⟩ := List.mem_map.1 hu
    rfl
  · intro v' w' h1 h2
    refine hK v' w' ?_ h2
    have e2 : toV xs ++ toV ys = toV (xs ++ ys) := by simp [toV]
    rw [← e2]
    exact h1
end Go.Proofs.Ytkmlgfmpcglfeaa

/-
  Bytes, a text, zeros put behind bytes that the call owns. Of no program.
-/
namespace Go.Proofs.Ytkmlgfmpcglfeaa
open Go.RowKit
set_option linter.unusedVariables false

section
variable {P : Program} (w : World) {ops : Array Oper} {rest : List Oper} {o : Oper} {a : Act} {Q : Exit → Act → World → Prop}

theorem toV_oneCell (bs : List UInt8) : ∀ u ∈ toV bs, u.oneCell' = true := by
  intro u hu
  obtain ⟨y, _, rfl⟩ := List.mem_map.1 hu
  rfl

/-- append(s, x...), both of bytes, s the call's own. -/
theorem wpList_append_ob (hg : o.guard = none) (s x : Operand) (t : TypeId) (hop : o.op = Op.call { callee := Callee.builtin Builtin.append, args := #[s, x], argTypes := #[t, t] })
    (e : TypeId) (ht : P.underlying t = some (.slice e)) (hi : (P.info? e).map (fun i => (i.zero, i.size, i.bytes)) = some (some (.int .u8 0), 1, 1))
    (base : Nat) (v : Value) (n : Nat) (xs : List UInt8) (hs : a.eval s = v) (hown : w.ownsRow base e 1 v n (toV xs))
    (ad : Option Addr) (m c : Nat) (ys : List UInt8) (hx : a.eval x = .slice ad m c) (hB : IsB w ad m ys) (hnil : ad = none → c = 0) (hz : n + m ≤ 140737488355328) (hbase : base ≤ w.heap.size)
    (hK : ∀ v' w', w'.ownsRow base e 1 v' (n + m) (toV (xs ++ ys)) → w.grownBy w' v.ownBlock → wpList P ops Q rest (a.put o.dst v') w') :
    wpList P ops Q (o :: rest) a w := by
  obtain ⟨i, hi0, hi1⟩ := Option.map_eq_some_iff.1 hi
  simp only [Prod.mk.injEq] at hi1
  have hl := hB.1
  cases ad with
  | none =>
    obtain rfl : m = 0 := by
      by_cases hm : 0 < m
      · obtain ⟨b, off, h1, _⟩ := hB.2 hm
        cases h1
      · omega
    obtain rfl := List.eq_nil_of_length_eq_zero hl
    obtain rfl := hnil rfl
    refine wpList_append_own_none hg s x t hop base e i 1 ht hi0 v n (toV xs) hs hown hx (hK v w ?_ ⟨rfl, rfl, rfl, Nat.le_refl _, fun _ _ _ => rfl⟩)
    simpa using hown
  | some b =>
    refine wpList_append_own w hg s x t hop base e i (.int .u8 0) 1 1 ht hi0 hi1.1 hi1.2.1 hi1.2.2 rfl (by omega) v n (toV xs) hs hown b m c (toV ys) hx (by rw [toV_length, hl, Nat.mul_one]) ?_ (toV_oneCell ys) (by unfold maxLen; omega) (by omega) hbase ?_
    · intro j u hu
      have hj : j < ys.length := by
        have := (List.getElem?_eq_some_iff.1 hu).1
        rwa [toV_length] at this
      obtain ⟨b', off', hb, _, hc⟩ := hB.2 (by omega)
      cases hb
      rw [Addr.add_lit, hc j (by omega), ← toV_get ys j hj]
      exact hu
    · intro v' w' h1 h2 _
      rw [← toV_append] at h1
      exact hK v' w' h1 h2

/-- append(s, x...), x a text. -/
theorem wpList_append_os (hg : o.guard = none) (s x : Operand) (t u : TypeId) (hop : o.op = Op.call { callee := Callee.builtin Builtin.append, args := #[s, x], argTypes := #[t, u] })
    (e : TypeId) (ht : P.underlying t = some (.slice e)) (hu : P.underlying u = some .string) (hi : (P.info? e).map (fun i => (i.zero, i.size, i.bytes)) = some (some (.int .u8 0), 1, 1))
    (base : Nat) (v : Value) (n : Nat) (xs : List UInt8) (hs : a.eval s = v) (hown : w.ownsRow base e 1 v n (toV xs))
    (y : ByteArray) (hx : a.eval x = .string y) (hz : n + y.size ≤ 140737488355328) (hbase : base ≤ w.heap.size)
    (hK : ∀ v' w', w'.ownsRow base e 1 v' (n + y.size) (toV (xs ++ y.data.toList)) → w.grownBy w' v.ownBlock → wpList P ops Q rest (a.put o.dst v') w') :
    wpList P ops Q (o :: rest) a w := by
  obtain ⟨i, hi0, hi1⟩ := Option.map_eq_some_iff.1 hi
  simp only [Prod.mk.injEq] at hi1
  refine Lib.wpList_append_own_string w hg s x t u hop base e i ht hu hi0 hi1.1 hi1.2.1 hi1.2.2 v n (toV xs) hs hown y hx (by unfold maxLen; omega) hz hbase ?_
  intro v' w' h1 h2 _
  rw [toV_str] at h1
  exact hK v' w' h1 h2

theorem zeroCells_one (k : Nat) : Builtin.zeroCells (Value.int .u8 0).cells k = (zrow k).toArray := by
  apply Array.ext'
  have e : (Value.int IntKind.u8 0).cells = #[.int .u8 0] := rfl
  rw [e]
  unfold Builtin.zeroCells zrow
  simp only [Array.toList_map, Array.toList_range]
  apply List.ext_getElem
  · simp
  · intro i h1 h2
    simp [Nat.mod_one]
theorem toV_zeros (k : Nat) : zrow k = toV (List.replicate k 0) := by simp [zrow, toV]

theorem run_append_own_zeros (base : Nat) (t tn ty e : TypeId) (i : TypeInfo) (kn : IntKind) (ht : P.underlying t = some (.slice e)) (htn : P.underlying tn = some (.int kn)) (hi : P.info? e = some i) (hz : i.zero = some (.int .u8 0)) (hsize : i.size = 1) (hby : i.bytes = 1)
    (v : Value) (n : Nat) (xs : List Value) (hown : w.ownsRow base e 1 v n xs) (k : Nat) (h0 : 0 < k) (hbytes : n + k ≤ 140737488355328) (hbase : base ≤ w.heap.size) :
    ∃ v' w', (Builtin.append_ #[t, tn] ty #[v, .int .i64 (k : Int)]).run P w = .ok v' w' ∧ w'.ownsRow base e 1 v' (n + k) (xs ++ zrow k) ∧ w.grownBy w' v.ownBlock := by
  have h63 : n + k ≤ maxLen := by unfold maxLen; omega
  have hxl : xs.length = n := by simpa using hown.1
  have hlen : (xs ++ zrow k).length = (n + k) * 1 := by rw [List.length_append, hxl, zrow_length, Nat.mul_one]
  have grown : ∀ (old : Nat), ∀ (row : Option Nat),
      (w.drew.alloc (.cells (xs.toArray ++ (zrow k).toArray ++ (zrow (grownCap w (n + k) old e - (n + k))).toArray) e)).ownsRow base e 1
        (.slice (some ⟨w.heap.size, 0, none⟩) (n + k) (grownCap w (n + k) old e)) (n + k) (xs ++ zrow k) ∧
      w.grownBy (w.drew.alloc (.cells (xs.toArray ++ (zrow k).toArray ++ (zrow (grownCap w (n + k) old e - (n + k))).toArray) e)) row := by
    intro old row
    have hge := grownCap_ge w (n + k) old e
    have hcm : grownCap w (n + k) old e ≤ maxLen := grownCap_le_maxLen w (n + k) old e h63
    refine ⟨⟨hlen, .inr ⟨w.heap.size, _, _, rfl, hbase, heap_alloc_new w.drew _, hge, hcm, ?_, ?_⟩⟩, ⟨rfl, rfl, rfl, by simp, fun k hk _ => Below.heap_alloc w.drew _ k hk⟩⟩
    · simp only [Array.size_append, List.size_toArray, zrow_length, hxl]
      omega
    · simp only [Array.toList_append, List.append_assoc]
      rw [← List.append_assoc, ← hlen]
      exact List.take_left
  have hk : k ≠ 0 := by omega
  rcases hown.2 with ⟨rfl, rfl⟩ | ⟨g, cap, cur, rfl, hbg, hg, hnc, hcm, hcs, htake⟩
  · have hx : xs = [] := List.eq_nil_of_length_eq_zero hxl
    subst hx
    have hr := Lib.run_append_nil_zeros (P := P) w t tn ty e i (.int .u8 0) .i64 kn ht htn hi hz k h0 (by omega) (by omega) (by rw [hby]; omega)
    have hgr := grown 0 (Value.ownBlock (.slice none 0 0))
    rw [zeroCells_one, zeroCells_one] at hr
    simp only [Nat.zero_add, List.nil_append, Array.empty_append] at hgr ⊢
    exact ⟨_, _, hr, hgr.1, hgr.2⟩
  · by_cases hroom : n + k ≤ cap
    · have hcs' : cur.size = cap := by simpa using hcs
      have hw : IntKind.i64.wrap (k : Int) = k := by rw [IntKind.wrap_i64]; omega
      have h48i : ¬ (281474976710656 < (k : Int) * (i.bytes : Int)) := by rw [hby]; omega
      have hneg : ¬ ((k : Int) < 0) := by omega
      have hst := run_storeCells_at P g n e (zrow k) 0 cur w hg (by rw [zrow_length]; omega) (by intro u hu; rw [toV_zeros] at hu; exact toV_oneCell _ u hu)
      simp only [Nat.add_zero, zrow_length] at hst
      have hr : (Builtin.append_ #[t, tn] ty #[.slice (some ⟨g, 0, none⟩) n cap, .int .i64 (k : Int)]).run P w =
          .ok (.slice (some ⟨g, 0, none⟩) (n + k) cap) (w.setRow g (cur.toList.take n ++ zrow k ++ cur.toList.drop (n + k)).toArray) := by
        have h48i2 : ¬ (281474976710656 < (k : Int)) := by omega
        simp [Builtin.append_, run_underlying ht, run_underlying htn, sizeOf, typeInfo, zeroValue, hi, hz, asInt, asIntOf, hw, hk, hneg, hby, hsize, h48i2, hroom, zeroCells_one, Addr.add_lit, hst]
      refine ⟨_, _, hr, ⟨hlen, .inr ⟨g, cap, _, rfl, hbg, setRow_heap w g cur _ e _ hg, hroom, hcm, ?_, ?_⟩⟩, ⟨rfl, rfl, rfl, by simp, fun k _ hk => setRow_other w g k _ (fun e => hk (by simp [Value.ownBlock, e]))⟩⟩
      · simp only [List.size_toArray, List.length_append, List.length_take, List.length_drop, Array.length_toList, zrow_length]
        omega
      · have ht' : cur.toList.take n = xs := by simpa using htake
        rw [ht', ← hlen]
        exact List.take_left
    · have holds : ∀ j u, xs[j]? = some u → w.cell? ((⟨g, 0, none⟩ : Addr).add j) = some u := hown.cells (g := g) rfl
      have hfo := run_firstCells_some (P := P) w.drew i.size n ⟨g, 0, none⟩ n cap xs (by rw [hsize, hxl, Nat.mul_one]) (by simpa using holds)
      have hr := Lib.run_append_grow_zeros (P := P) w t tn ty e i (.int .u8 0) .i64 kn ht htn hi hz (some ⟨g, 0, none⟩) n cap xs hfo k h0 (by omega) (by omega) (by omega) (by rw [hby]; omega) (by rw [hby]; exact growslice_fits (by omega) (by omega))
      rw [zeroCells_one, zeroCells_one] at hr
      have hgr := grown cap (Value.ownBlock (.slice (some ⟨g, 0, none⟩) n cap))
      exact ⟨_, _, hr, hgr.1, hgr.2⟩

/-- append(s, make([]byte, k)...). -/
theorem wpList_append_oz (hg : o.guard = none) (s x : Operand) (t tn : TypeId) (hop : o.op = Op.call { callee := Callee.builtin Builtin.append, args := #[s, x], argTypes := #[t, tn] })
    (e : TypeId) (kn : IntKind) (ht : P.underlying t = some (.slice e)) (htn : P.underlying tn = some (.int kn)) (hi : (P.info? e).map (fun i => (i.zero, i.size, i.bytes)) = some (some (.int .u8 0), 1, 1))
    (base : Nat) (v : Value) (n : Nat) (xs : List UInt8) (hs : a.eval s = v) (hown : w.ownsRow base e 1 v n (toV xs))
    (k : Nat) (hx : a.eval x = .int .i64 (k : Int)) (h0 : 0 < k) (hz : n + k ≤ 140737488355328) (hbase : base ≤ w.heap.size)
    (hK : ∀ v' w', w'.ownsRow base e 1 v' (n + k) (toV (xs ++ List.replicate k 0)) → w.grownBy w' v.ownBlock → wpList P ops Q rest (a.put o.dst v') w') :
    wpList P ops Q (o :: rest) a w := by
  obtain ⟨i, hi0, hi1⟩ := Option.map_eq_some_iff.1 hi
  simp only [Prod.mk.injEq] at hi1
  obtain ⟨v', w', hr, h1, h2⟩ := run_append_own_zeros (P := P) w base t tn o.type e i kn ht htn hi0 hi1.1 hi1.2.1 hi1.2.2 v n (toV xs) hown k h0 hz hbase
  rw [toV_zeros, ← toV_append] at h1
  exact Lib.wpList_append_run w hg s x t tn hop v _ hs hx v' w' hr (hK v' w' h1 h2)
end
end Go.Proofs.Ytkmlgfmpcglfeaa

/-
  The code's tape in memory: its block, and the row of its bytes. What its calls may turn.
-/
namespace Go.Proofs.Ytkmlgfmpcglfeaa
open Go.RowKit
set_option linter.unusedVariables false

/-- Only these two blocks, and what is new, was turned. -/
structure Turn (g h : Nat) (w w' : World) : Prop where
  os : w'.os = w.os
  tape : w'.tape = w.tape
  output : w'.output = w.output
  size : w.heap.size ≤ w'.heap.size
  block : ∀ k, k < w.heap.size → k ≠ g → k ≠ h → w'.heap[k]? = w.heap[k]?
theorem Turn.refl (g h : Nat) (w : World) : Turn g h w w := ⟨rfl, rfl, rfl, Nat.le_refl _, fun _ _ _ _ => rfl⟩
theorem Turn.trans {g h : Nat} {w x y : World} (p : Turn g h w x) (q : Turn g h x y) : Turn g h w y :=
  ⟨q.os.trans p.os, q.tape.trans p.tape, q.output.trans p.output, Nat.le_trans p.size q.size, fun i hi h1 h2 => (q.block i (Nat.lt_of_lt_of_le hi p.size) h1 h2).trans (p.block i hi h1 h2)⟩
theorem Turn.set {g h : Nat} {w x : World} (p : Turn g h w x) (j : Nat) (v : Value) : Turn g h w (x.setCell ⟨g, j, none⟩ v) :=
  ⟨p.os, p.tape, p.output, Nat.le_trans p.size ((Below.refl 0 x).setCell (Nat.zero_le _) v).size, fun i hi h1 h2 => (heap_setCell_other x ⟨g, j, none⟩ i v h1).trans (p.block i hi h1 h2)⟩
theorem Turn.drew {g h : Nat} {w x : World} (p : Turn g h w x) : Turn g h w x.drew := ⟨p.os, p.tape, p.output, p.size, p.block⟩
theorem Turn.below {g h n : Nat} {w x : World} (p : Turn g h w x) (h1 : n ≤ g) (h2 : n ≤ h) (hs : n ≤ w.heap.size) : Below n w x :=
  ⟨p.os, p.tape, p.output, p.size, fun i hi => p.block i (by omega) (by omega) (by omega)⟩
theorem Turn.of_below {g h : Nat} {w x : World} (p : Below w.heap.size w x) : Turn g h w x := ⟨p.os, p.tape, p.output, p.size, fun i hi _ _ => p.block i hi⟩
theorem Turn.row {g h k : Nat} {w x : World} {t : TypeId} {cs : Array Value} (p : Turn g h w x) (hr : RowAt w k t cs) (h1 : k ≠ g) (h2 : k ≠ h) : RowAt x k t cs := (p.block k hr.lt h1 h2).trans hr
theorem Turn.grown {g h : Nat} {w x y : World} {row : Option Nat} (p : Turn g h w x) (q : x.grownBy y row) (hr : ∀ k, row = some k → k = h ∨ w.heap.size ≤ k) : Turn g h w y :=
  ⟨q.os.trans p.os, q.tape.trans p.tape, q.output.trans p.output, Nat.le_trans p.size q.size, fun i hi h1 h2 => (q.block i (Nat.lt_of_lt_of_le hi p.size) (fun e => by
    rcases hr i e.symm with h3 | h3
    · exact h2 h3
    · omega)).trans (p.block i hi h1 h2)⟩

/-- The code's tape: its block, the row of its bytes. -/
def TpV (w : World) (gt gb cap : Nat) (a : Option Addr) (t : Tp) : Prop :=
  RowAt w gt 32 #[.slice a t.b.size cap, .int .i64 (t.f : Int), .int .u64 (t.s : Int), .int .i64 (t.m : Int)] ∧ w.ownsRow 0 5 1 (.slice a t.b.size cap) t.b.size (toV t.b.data.toList) ∧ (a = none ∧ gb = gt ∨ a = some ⟨gb, 0, none⟩)
def TpAt (w : World) (gt gb : Nat) (t : Tp) : Prop := ∃ cap a, TpV w gt gb cap a t

theorem row_apart {w : World} {g k : Nat} {t u : TypeId} {cs ds : Array Value} (h : RowAt w g t cs) (h2 : w.heap[k]? = some (.cells ds u (0, 0))) (hne : t ≠ u) : g ≠ k := by
  intro e
  subst e
  have h3 : w.heap[g]? = some (.cells cs t (0, 0)) := h
  rw [h3] at h2
  injection h2 with h2
  injection h2 with _ h4
  exact hne h4
theorem TpV.own {w : World} {gt gb cap : Nat} {a : Option Addr} {t : Tp} (h : TpV w gt gb cap a t) : (a = none ∧ gb = gt ∧ t.b.size = 0 ∧ cap = 0) ∨ (a = some ⟨gb, 0, none⟩ ∧ gt ≠ gb ∧ gb < w.heap.size ∧ t.b.size ≤ cap ∧ cap ≤ maxLen ∧ ∃ cur, w.heap[gb]? = some (.cells cur 5 (0, 0)) ∧ cur.size = cap ∧ cur.toList.take t.b.size = toV t.b.data.toList) := by
  obtain ⟨h1, h2, h3⟩ := h
  rcases h2.2 with ⟨e, h4⟩ | ⟨g, c, cur, e, _, hg, hc, hm, hs, ht⟩
  · injection e with e1 e2 e3
    subst e1 e3
    rcases h3 with ⟨_, h5⟩ | h5
    · exact .inl ⟨rfl, h5, h4, rfl⟩
    · cases h5
  · injection e with e1 e2 e3
    subst e1 e3
    rcases h3 with ⟨h5, _⟩ | h5
    · cases h5
    · injection h5 with h5
      injection h5 with h5
      subst h5
      exact .inr ⟨rfl, row_apart h1 hg (by decide), (Array.getElem?_eq_some_iff.1 hg).1, hc, hm, cur, hg, by simpa using hs, by simpa using ht⟩
/-- A tape that is kept. -/
theorem TpV.keep {w x : World} {gt gb cap : Nat} {a : Option Addr} {t : Tp} (h : TpV w gt gb cap a t) (h1 : x.heap[gt]? = w.heap[gt]?) (h2 : x.heap[gb]? = w.heap[gb]?) : TpV x gt gb cap a t := by
  refine ⟨h1.trans h.1, ⟨h.2.1.1, ?_⟩, h.2.2⟩
  rcases h.2.1.2 with h4 | ⟨g, c, cur, e, hb, hg, hc⟩
  · exact .inl h4
  · refine .inr ⟨g, c, cur, e, hb, ?_, hc⟩
    rcases h.2.2 with ⟨h5, _⟩ | h5
    · subst h5
      cases e
    · subst h5
      injection e with e1
      injection e1 with e1
      injection e1 with e1
      subst e1
      rw [h2]
      exact hg
theorem TpV.lt {w : World} {gt gb cap : Nat} {a : Option Addr} {t : Tp} (h : TpV w gt gb cap a t) : gt < w.heap.size ∧ gb < w.heap.size := by
  have h1 := h.1.lt
  rcases h.own with ⟨_, h2, _⟩ | ⟨_, _, h2, _⟩
  · exact ⟨h1, by omega⟩
  · exact ⟨h1, h2⟩
theorem TpAt.lt {w : World} {gt gb : Nat} {t : Tp} (h : TpAt w gt gb t) : gt < w.heap.size ∧ gb < w.heap.size := by
  obtain ⟨_, _, h⟩ := h
  exact h.lt
theorem TpAt.keep {w x : World} {gt gb : Nat} {t : Tp} (h : TpAt w gt gb t) (h1 : x.heap[gt]? = w.heap[gt]?) (h2 : x.heap[gb]? = w.heap[gb]?) : TpAt x gt gb t := by
  obtain ⟨c, a, h⟩ := h
  exact ⟨c, a, h.keep h1 h2⟩
theorem TpAt.later {w x : World} {gt gb : Nat} {t : Tp} (h : TpAt w gt gb t) (hb : Below w.heap.size w x) : TpAt x gt gb t := h.keep (hb.block _ h.lt.1) (hb.block _ h.lt.2)
/-- Another tape's calls leave a tape. -/
theorem TpAt.turn {w x : World} {gt gb ht hb : Nat} {t : Tp} (h : TpAt w gt gb t) (p : Turn ht hb w x) (h1 : gt ≠ ht) (h2 : gt ≠ hb) (h3 : gb ≠ ht) (h4 : gb ≠ hb) : TpAt x gt gb t := h.keep (p.block _ h.lt.1 h1 h2) (p.block _ h.lt.2 h3 h4)
/-- A struct of another kind isn't among a tape's blocks. -/
theorem TpAt.apart {w : World} {gt gb k : Nat} {t : Tp} {u : TypeId} {cs : Array Value} (h : TpAt w gt gb t) (hr : RowAt w k u cs) (h1 : u ≠ 32) (h2 : u ≠ 5) : k ≠ gt ∧ k ≠ gb := by
  obtain ⟨c, a, h⟩ := h
  have h3 : k ≠ gt := row_apart hr h.1 h1
  refine ⟨h3, ?_⟩
  rcases h.own with ⟨_, h4, _⟩ | ⟨_, _, _, _, _, cur, hg, _⟩
  · rw [h4]
    exact h3
  · exact row_apart hr hg h2
end Go.Proofs.Ytkmlgfmpcglfeaa

/-
  The contracts of the code's tape: what it tells of itself, a new one, Sync.
-/
namespace Go.Proofs.Ytkmlgfmpcglfeaa
open Go.RowKit
set_option linter.unusedVariables false

theorem tp_new (r x : Int) (w : World) (hx : x = max 0 (min r 65536)) : TpAt (w.alloc (.cells #[.slice none 0 0, .int .i64 0, .int .u64 0, .int .i64 x] 32)) w.heap.size w.heap.size (Tp.new r) := by
  have hm : x = ((Tp.new r).m : Int) := by
    rw [hx]
    unfold Tp.new
    simp only
    omega
  rw [hm]
  exact ⟨0, none, RowAt.new w 32 _, World.ownsRow_nil _ _ _ _, .inl ⟨rfl, rfl⟩⟩

set_option maxRecDepth 4000 in
set_option maxHeartbeats 400000 in
theorem new8_any (r : Int) (w : World) :
    Calls Try.prog 11 #[.int .i64 r] w fun e w' => e = .returned (.pointer (some ⟨w.heap.size, 0, none⟩)) ∧ TpAt w' w.heap.size w.heap.size (Tp.new r) ∧ Below w.heap.size w w' := by
  go_enter Try.func11, Try.ntmps11
  go_wp2
  all_goals
    go_ret
    exact ⟨rfl, tp_new r _ w (by omega), (Below.refl w.heap.size w).alloc (Nat.le_refl _) _⟩

set_option maxRecDepth 4000 in
set_option maxHeartbeats 400000 in
theorem len8_any (gt gb : Nat) (t : Tp) (w : World) (h : TpAt w gt gb t) :
    Calls Try.prog 15 #[.pointer (some ⟨gt, 0, none⟩)] w fun e w' => e = .returned (.int .i64 (t.b.size : Int)) ∧ w = w' := by
  obtain ⟨cap, a, h⟩ := h
  have c0 := h.1.cell 0 _ rfl
  clear h
  go_enter Try.func15, Try.ntmps15
  go_wp2
  go_ret
  exact ⟨rfl, rfl⟩
set_option maxRecDepth 4000 in
set_option maxHeartbeats 400000 in
theorem synced8_any (gt gb : Nat) (t : Tp) (w : World) (h : TpAt w gt gb t) :
    Calls Try.prog 18 #[.pointer (some ⟨gt, 0, none⟩)] w fun e w' => e = .returned (.int .i64 (t.f : Int)) ∧ w = w' := by
  obtain ⟨cap, a, h⟩ := h
  have c0 := h.1.cell 1 _ rfl
  clear h
  go_enter Try.func18, Try.ntmps18
  go_wp2
  go_ret
  exact ⟨rfl, rfl⟩
set_option maxRecDepth 4000 in
set_option maxHeartbeats 400000 in
theorem start8_any (gt gb : Nat) (t : Tp) (w : World) (h : TpAt w gt gb t) :
    Calls Try.prog 22 #[.pointer (some ⟨gt, 0, none⟩)] w fun e w' => e = .returned (.int .u64 (t.s : Int)) ∧ w = w' := by
  obtain ⟨cap, a, h⟩ := h
  have c0 := h.1.cell 2 _ rfl
  clear h
  go_enter Try.func22, Try.ntmps22
  go_wp2
  go_ret
  exact ⟨rfl, rfl⟩
set_option maxRecDepth 4000 in
set_option maxHeartbeats 400000 in
theorem room8_any (gt gb : Nat) (t : Tp) (w : World) (h : TpAt w gt gb t) :
    Calls Try.prog 23 #[.pointer (some ⟨gt, 0, none⟩)] w fun e w' => e = .returned (.int .i64 (t.m : Int)) ∧ w = w' := by
  obtain ⟨cap, a, h⟩ := h
  have c0 := h.1.cell 3 _ rfl
  clear h
  go_enter Try.func23, Try.ntmps23
  go_wp2
  go_ret
  exact ⟨rfl, rfl⟩

theorem TpV.setf {w : World} {gt gb cap : Nat} {a : Option Addr} {t : Tp} (h : TpV w gt gb cap a t) (f : Int) (n : Nat) (hf : f = (n : Int)) : TpV (w.setCell ⟨gt, 1, none⟩ (.int .i64 f)) gt gb cap a { t with f := n } := by
  subst hf
  refine ⟨RowAt.set h.1 1 _, ?_, h.2.2⟩
  rcases h.own with ⟨rfl, _, h2, rfl⟩ | ⟨rfl, h2, h3, h4, h5, cur, h6, h7, h8⟩
  · show World.ownsRow _ 0 5 1 (.slice none t.b.size 0) t.b.size (toV t.b.data.toList)
    have hd : t.b.data.toList = [] := List.eq_nil_of_length_eq_zero (by rw [data_length, h2])
    rw [h2, hd]
    exact World.ownsRow_nil _ _ _ _
  · exact ⟨h.2.1.1, .inr ⟨gb, cap, cur, rfl, Nat.zero_le _, (heap_setCell_other w ⟨gt, 1, none⟩ gb _ (fun e => h2 e.symm)).trans h6, h4, h5, by simpa using h7, by simpa using h8⟩⟩

set_option maxRecDepth 4000 in
set_option maxHeartbeats 400000 in
theorem sync8_any (gt gb : Nat) (t : Tp) (w : World) (h : TpAt w gt gb t) :
    Calls Try.prog 17 #[.pointer (some ⟨gt, 0, none⟩)] w fun e w' => e = .returned (.int .i64 0) ∧ TpAt w' gt gb t.sync ∧ Turn gt gb w w' := by
  obtain ⟨cap, a, h⟩ := h
  have H := hide h
  have c0 := h.1.cell 0 _ rfl
  have c1 := h.1.cell 1 _ rfl
  have f1 := h.1.free 1
  clear h
  go_enter Try.func17, Try.ntmps17
  go_wp2
  go_ret
  exact ⟨rfl, ⟨cap, a, H.out.setf _ _ rfl⟩, (Turn.refl gt gb w).set 1 _⟩
end Go.Proofs.Ytkmlgfmpcglfeaa

/-
  A region that draws its order, walked once, in a class of worlds of our own: of no program.
-/
namespace Go.Proofs.Ytkmlgfmpcglfeaa
open Go.RowKit
set_option linter.unusedVariables false

section
variable {P : Program} {ops : Array Oper} {C : World → Prop} {Q : Act → Prop} {a : Act} {o : Oper} {rest : List Oper}

theorem wp_region_in {id : Nat} {Q : Exit → Act → World → Prop} {a : Act} {w : World} {l : List Oper} (C : World → Prop) (hm : P.follows .mixedOrders = true) (hB : Region.lexB .any l.toArray = true) (hC : C w.drew)
    (h : wpQuiet P l.toArray C (fun a' => ∀ w', C w' → Q .normal a' w') l a) : (Code.region id l.toArray true).wp P Q a w :=
  wp_region_quiet (C := C) hm hB hC (by simpa using h)

/-- An operation that only reads: its value in every world of the class. -/
theorem wpQuiet_val (hw : Region.wanted o (yielded ops a.tmps) = true) (v : Value) (hv : ∀ x, C x → (execOp a.eval o).run P x = .ok (.value v) x) (h : wpQuiet P ops C Q rest (a.put o.dst v)) : wpQuiet P ops C Q (o :: rest) a :=
  BigFrame.wpQuiet_want hw fun K hK => ⟨v, fun x hx => by unfold Oper.quietAt; rw [hv x hx]; exact ⟨rfl, rfl⟩, hK _ h⟩

theorem wpQuiet_convert (hw : Region.wanted o (yielded ops a.tmps) = true) (s t : TypeId) (x : Operand) (ho : o.op = .convert s t x) (u v : Value) (hu : a.eval x = u) (hv : ∀ y, C y → (convert s t u).run P y = .ok v y)
    (h : wpQuiet P ops C Q rest (a.put o.dst v)) : wpQuiet P ops C Q (o :: rest) a :=
  wpQuiet_val hw v (fun y hy => by unfold execOp; simp only [ho, hu, Sem.run_bind, hv y hy, Result.andThen_ok, Sem.run_pure]) h

theorem wpQuiet_load (hw : Region.wanted o (yielded ops a.tmps) = true) (t : TypeId) (x : Operand) (ho : o.op = .load t x) (u v : Value) (hu : a.eval x = u) (hv : ∀ y, C y → (Instr.loadAt t u).run P y = .ok v y)
    (h : wpQuiet P ops C Q rest (a.put o.dst v)) : wpQuiet P ops C Q (o :: rest) a :=
  wpQuiet_val hw v (fun y hy => by unfold execOp; simp only [ho, hu, Sem.run_bind, hv y hy, Result.andThen_ok, Sem.run_pure]) h

theorem wpQuiet_binop (hw : Region.wanted o (yielded ops a.tmps) = true) (op : BinOp) (t r : TypeId) (x y : Operand) (ho : o.op = .binOp op t x y r) (u v z : Value) (hu : a.eval x = u) (hv : a.eval y = v) (hg : ∀ w, (eqGuard op t x y u v).run P w = .ok () w)
    (hz : ∀ w, (binOp op t u v).run P w = .ok z w) (h : wpQuiet P ops C Q rest (a.put o.dst z)) : wpQuiet P ops C Q (o :: rest) a :=
  wpQuiet_val hw z (fun w hw => by unfold execOp; simp only [ho, hu, hv, Sem.run_bind, hg w, hz w, Result.andThen_ok, Sem.run_pure]) h
/-- An operation that no world plays a part in. -/
theorem wpQuiet_plain (hw : Region.wanted o (yielded ops a.tmps) = true) (h : ∀ K : Act → Prop, (∀ a, wpQuiet P ops C Q rest a → K a) → ∃ v, (∀ x : World, (execOp a.eval o).run P x = .ok (.value v) x) ∧ K (a.put o.dst v)) : wpQuiet P ops C Q (o :: rest) a := by
  obtain ⟨v, h1, h2⟩ := h _ (fun _ h => h)
  exact wpQuiet_val hw v (fun x _ => h1 x) h2

/-- A call that leaves a world of the class. -/
theorem wpQuiet_call (hw : Region.wanted o (yielded ops a.tmps) = true) (f : FuncId) (args : Array Value) (v : Value) (he : ∀ x : World, (execOp a.eval o).run P x = .ok (.enter f args) x) (hc : ∀ x, C x → Calls P f args x fun e x' => e = .returned v ∧ C x')
    (h : wpQuiet P ops C Q rest (a.put o.dst v)) : wpQuiet P ops C Q (o :: rest) a :=
  BigFrame.wpQuiet_want hw fun K hK => ⟨v, fun x hx => by unfold Oper.quietAt; rw [he x]; exact ⟨rfl, hc x hx⟩, hK _ h⟩
end
end Go.Proofs.Ytkmlgfmpcglfeaa

/-
  Bytes and texts put behind the bytes of a conversion, or of a row of the call's own: by cells. Of no program.
-/
namespace Go.Proofs.Ytkmlgfmpcglfeaa
open Go.RowKit
set_option linter.unusedVariables false

theorem wpList_append_run {P : Program} {ops : Array Oper} {rest : List Oper} {o : Oper} {a : Act} {w w' : World} {Q : Exit → Act → World → Prop} (hgd : o.guard = none) (s x : Operand) (t u : TypeId) (hop : o.op = Op.call { callee := Callee.builtin Builtin.append, args := #[s, x], argTypes := #[t, u] })
    (vs vx v' : Value) (hs : a.eval s = vs) (hx : a.eval x = vx) (hrun : (Builtin.append_ #[t, u] o.type #[vs, vx]).run P w = .ok v' w') (h : wpList P ops Q rest (a.put o.dst v') w') : wpList P ops Q (o :: rest) a w := by
  refine wpList_plain hgd fun K hK => ?_
  unfold Oper.wp
  simp [execOp, hop, resolve, invoke, builtin, hs, hx, hrun, Result.andThen]
  exact hK _ _ h

/-- Bytes in a block, with room behind them that may be written. -/
structure BufC (w : World) (base g n cap : Nat) (bs : List UInt8) : Prop where
  low : base ≤ g
  lt : g < w.heap.size
  room : n ≤ cap
  len : bs.length = n
  cell : ∀ j, j < n → w.cell? ⟨g, j, none⟩ = some (.int .u8 ((bs.getD j 0).toNat : Int))
  free : ∀ j, j < cap → (w.cell? ⟨g, j, none⟩).isSome = true ∧ w.frozen? ⟨g, j, none⟩ = false
theorem BufC.isB {w : World} {base g n cap : Nat} {bs : List UInt8} (h : BufC w base g n cap bs) : IsB w (some ⟨g, 0, none⟩) n bs :=
  ⟨h.len, fun _ => ⟨g, 0, rfl, h.lt, fun j hj => by rw [Nat.zero_add]; exact h.cell j hj⟩⟩
theorem BufC.below {w x : World} {base g n cap : Nat} {bs : List UInt8} (h : BufC w base g n cap bs) (hb : Below w.heap.size w x) : BufC x base g n cap bs := by
  have hc : ∀ j, x.cell? ⟨g, j, none⟩ = w.cell? ⟨g, j, none⟩ := fun j => hb.cell (p := ⟨g, j, none⟩) h.lt
  have hf : ∀ j, x.frozen? ⟨g, j, none⟩ = w.frozen? ⟨g, j, none⟩ := fun j => World.frozen?_of_block (a := ⟨g, j, none⟩) (hb.block g h.lt)
  exact ⟨h.low, Nat.lt_of_lt_of_le h.lt hb.size, h.room, h.len, fun j hj => (hc j).trans (h.cell j hj), fun j hj => by rw [hc, hf]; exact h.free j hj⟩
theorem bufC_conv (w : World) (e : TypeId) (s : ByteArray) : BufC (Lib.bytesWorld w e s) w.heap.size w.heap.size s.size (grownCap w s.size 0 e) s.data.toList := by
  have hge := grownCap_ge w s.size 0 e
  have hsz : (Lib.bytesCells w e s).size = grownCap w s.size 0 e := by
    have h1 : s.data.size = s.size := rfl
    simp only [Lib.bytesCells, Array.size_append, Array.size_map, Array.size_replicate, h1]
    omega
  have hat := Lib.bytesWorld_at_new w e s
  rw [hsz] at hat
  refine ⟨Nat.le_refl _, by rw [Lib.bytesWorld_size]; omega, hge, data_length s, fun j hj => Lib.bytesWorld_cell w e s j hj, fun j hj => ⟨?_, ?_⟩⟩
  · rw [cell_of_row _ _ _ _ _ _ hat, Array.getElem?_eq_getElem (by rw [hsz]; exact hj)]
    rfl
  · simp only [World.frozen?, hat, Bool.and_eq_false_iff, decide_eq_false_iff_not]
    left
    omega
theorem bufC_own {w : World} {base n : Nat} {e : TypeId} {v : Value} {bs : List UInt8} (h : w.ownsRow base e 1 v n (toV bs)) (hn : 0 < n) : ∃ g cap, v = .slice (some ⟨g, 0, none⟩) n cap ∧ BufC w base g n cap bs := by
  have hl : bs.length = n := by
    have := h.1
    rw [toV_length] at this
    omega
  rcases h.2 with ⟨_, h0⟩ | ⟨g, cap, cur, rfl, hb, hg, hnc, _, hcs, _⟩
  · omega
  · refine ⟨g, cap, rfl, hb, (h.lt g rfl).2, hnc, hl, fun j hj => (h.cellAt j (by omega)).trans (toV_get bs j (by omega)), fun j hj => ⟨?_, h.frozenAt j⟩⟩
    rw [cell_of_row _ _ _ _ _ _ hg, Array.getElem?_eq_getElem (by omega)]
    rfl
theorem below_setCells {B b : Nat} : ∀ (vs : List Value) (o : Nat) (w : World), B ≤ b → Below B w (w.setCells b o vs)
  | [], _, w, _ => Below.refl _ _
  | v :: vs, o, w, h => ((Below.refl B w).setCell (p := ⟨b, o, none⟩) h v).trans (below_setCells vs (o + 1) _ h)
theorem BufC.put {w : World} {base g n cap : Nat} {bs ys : List UInt8} (h : BufC w base g n cap bs) (hr : n + ys.length ≤ cap) : BufC (w.setCells g n (toV ys)) base g (n + ys.length) cap (bs ++ ys) := by
  have hb := below_setCells (B := 0) (b := g) (toV ys) n w (Nat.zero_le _)
  have hin := World.cell?_setCells_in g (toV ys) n w (fun j hj => (h.free (n + j) (by rw [toV_length] at hj; omega)).1)
  refine ⟨h.low, Nat.lt_of_lt_of_le h.lt hb.size, hr, by rw [List.length_append, h.len], fun j hj => ?_, fun j hj => ⟨?_, by rw [World.frozen?_setCells]; exact (h.free j hj).2⟩⟩
  · by_cases hjn : j < n
    · rw [World.cell?_setCells_out g (toV ys) n w _ (fun _ _ => .inl hjn), h.cell j hjn]
      rw [List.getD_eq_getElem?_getD, List.getD_eq_getElem?_getD, List.getElem?_append_left (by rw [h.len]; exact hjn)]
    · obtain ⟨k, rfl⟩ : ∃ k, j = n + k := ⟨j - n, by omega⟩
      have hk : k < ys.length := by omega
      rw [hin k (by rw [toV_length]; exact hk)]
      have e : (bs ++ ys).getD (n + k) 0 = ys.getD k 0 := by
        rw [List.getD_eq_getElem?_getD, List.getD_eq_getElem?_getD, List.getElem?_append_right (by rw [h.len]; omega), h.len]
        congr 2
        omega
      rw [e]
      have h2 := toV_get ys k hk
      rw [List.getElem?_eq_getElem (by rw [toV_length]; exact hk)] at h2
      exact h2
  · by_cases hjn : n ≤ j ∧ j < n + ys.length
    · obtain ⟨k, rfl⟩ : ∃ k, j = n + k := ⟨j - n, by omega⟩
      rw [hin k (by rw [toV_length]; omega)]
      rfl
    · rw [World.cell?_setCells_out g (toV ys) n w _ (fun _ _ => by rw [toV_length]; show j < n ∨ n + ys.length ≤ j; omega)]
      exact (h.free j hj).1

section
theorem run_append_c {P : Program} (w : World) (t e : TypeId) (ht : P.underlying t = some (.slice e)) (hi : (P.info? e).map (fun i => (i.zero, i.size, i.bytes)) = some (some (.int .u8 0), 1, 1)) (ty : TypeId) {base g n cap : Nat} {bs : List UInt8} (h : BufC w base g n cap bs) (b2 off2 m c : Nat) (ys : List UInt8) (hY : IsB w (some ⟨b2, off2, none⟩) m ys) (hm : 0 < n + m) (hz : n + m ≤ 140737488355328) (hb : base ≤ w.heap.size) :
    ∃ g' cap' w', (Builtin.append_ #[t, t] ty #[.slice (some ⟨g, 0, none⟩) n cap, .slice (some ⟨b2, off2, none⟩) m c]).run P w = .ok (.slice (some ⟨g', 0, none⟩) (n + m) cap') w' ∧ BufC w' base g' (n + m) cap' (bs ++ ys) ∧ Below base w w' := by
  obtain ⟨i, hi0, hi1⟩ := Option.map_eq_some_iff.1 hi
  simp only [Prod.mk.injEq] at hi1
  have hyl := hY.1
  by_cases hr : n + m ≤ cap
  · have hrun := run_append_room_cells (P := P) w t ty e i ht hi0 g 0 n cap ⟨b2, off2, none⟩ m c (toV ys) (by rw [toV_length, hyl, hi1.2.1, Nat.mul_one]) (isB_cells hY) (toV_one ys) hr
      (fun j hj => by rw [toV_length] at hj; rw [hi1.2.1, Nat.mul_one, Nat.zero_add]; exact (h.free (n + j) (by omega)).1) (fun j hj => by rw [toV_length] at hj; rw [hi1.2.1, Nat.mul_one, Nat.zero_add]; exact (h.free (n + j) (by omega)).2)
    rw [hi1.2.1, Nat.mul_one, Nat.zero_add] at hrun
    have hp := h.put (ys := ys) (by omega)
    rw [hyl] at hp
    exact ⟨g, cap, _, hrun, hp, below_setCells _ _ _ h.low⟩
  · obtain ⟨v', w', hrun, r1, r2⟩ := run_append_arg_grows (P := P) w t ty e i (.int .u8 0) 1 1 ht hi0 hi1.1 hi1.2.1 hi1.2.2 rfl (by omega) ⟨g, 0, none⟩ n cap (toV bs) (by rw [toV_length, h.len, Nat.mul_one]) (isB_cells h.isB) ⟨b2, off2, none⟩ m c (toV ys) (by rw [toV_length, hyl, Nat.mul_one]) (isB_cells hY) (by omega) (by unfold maxLen; omega) (by omega)
    rw [← toV_append] at r1
    obtain ⟨g', cap', rfl, hB⟩ := bufC_own r1 hm
    exact ⟨g', cap', w', hrun, ⟨Nat.le_trans hb hB.low, hB.lt, hB.room, hB.len, hB.cell, hB.free⟩, ⟨r2.os, r2.tape, r2.output, r2.size, fun k hk => r2.block k (Nat.lt_of_lt_of_le hk hb) (by simp)⟩⟩
theorem run_append_cs {P : Program} (w : World) (t e : TypeId) (ht : P.underlying t = some (.slice e)) (hi : (P.info? e).map (fun i => (i.zero, i.size, i.bytes)) = some (some (.int .u8 0), 1, 1)) (u ty : TypeId) (hu : P.underlying u = some .string) {base g n cap : Nat} {bs : List UInt8} (h : BufC w base g n cap bs) (s : ByteArray) (hm : 0 < n + s.size) (hz : n + s.size ≤ 140737488355328) (hb : base ≤ w.heap.size) :
    ∃ g' cap' w', (Builtin.append_ #[t, u] ty #[.slice (some ⟨g, 0, none⟩) n cap, .string s]).run P w = .ok (.slice (some ⟨g', 0, none⟩) (n + s.size) cap') w' ∧ BufC w' base g' (n + s.size) cap' (bs ++ s.data.toList) ∧ Below base w w' := by
  obtain ⟨i, hi0, hi1⟩ := Option.map_eq_some_iff.1 hi
  simp only [Prod.mk.injEq] at hi1
  have hsl := data_length s
  have hst0 : Lib.strCells s = toV s.data.toList := by
    have := toV_str [] s
    simpa [toV] using this
  by_cases hr : n + s.size ≤ cap
  · have hf := Lib.run_firstCells_string (P := P) w 1 s
    have hst := run_storeCells_cells (P := P) g n (Lib.strCells s) 0 w (fun j hj => by rw [Lib.strCells_length] at hj; exact (h.free (n + 0 + j) (by omega)).1) (fun j hj => by rw [Lib.strCells_length] at hj; exact (h.free (n + 0 + j) (by omega)).2) (Lib.strCells_oneCell s)
    simp only [Nat.add_zero] at hst
    have hrun : (Builtin.append_ #[t, u] ty #[.slice (some ⟨g, 0, none⟩) n cap, .string s]).run P w = .ok (.slice (some ⟨g, 0, none⟩) (n + s.size) cap) (w.setCells g n (Lib.strCells s)) := by
      simp [Builtin.append_, run_underlying ht, run_underlying hu, sizeOf, typeInfo, hi0, hi1.2.1, Builtin.lenOf, hr, hf, Addr.add_lit, hst]
    rw [hst0] at hrun
    have hp := h.put (ys := s.data.toList) (by omega)
    rw [hsl] at hp
    exact ⟨g, cap, _, hrun, hp, below_setCells _ _ _ h.low⟩
  · have hr2 := Lib.run_append_grow_string (P := P) w t u ty e i (.int .u8 0) ht hu hi0 hi1.1 ⟨g, 0, none⟩ n cap (toV bs) (by rw [toV_length, h.len, hi1.2.1, Nat.mul_one]) (isB_cells h.isB) s (by omega) (by omega) (by rw [hi1.2.2]; exact growslice_fits (by omega) (by omega))
    have hge := grownCap_ge w (n + s.size) cap e
    have hcm : grownCap w (n + s.size) cap e ≤ maxLen := grownCap_le_maxLen w (n + s.size) cap e (by unfold maxLen; omega)
    refine ⟨w.heap.size, _, _, hr2, ?_, ?_⟩
    · have hown : (w.drew.alloc (.cells ((toV bs).toArray ++ (Lib.strCells s).toArray ++ Builtin.zeroCells (Value.int .u8 0).cells (grownCap w (n + s.size) cap e - (n + s.size))) e)).ownsRow w.heap.size e 1 (.slice (some ⟨w.heap.size, 0, none⟩) (n + s.size) (grownCap w (n + s.size) cap e)) (n + s.size) (toV (bs ++ s.data.toList)) := by
        have hlen : (toV (bs ++ s.data.toList)).length = n + s.size := by rw [toV_length, List.length_append, h.len, hsl]
        refine ⟨by rw [hlen, Nat.mul_one], .inr ⟨w.heap.size, _, _, rfl, Nat.le_refl _, heap_alloc_new w.drew _, hge, hcm, ?_, ?_⟩⟩
        · have hz1 : (Value.int IntKind.u8 0).cells.size = 1 := rfl
          simp only [Array.size_append, List.size_toArray, size_zeroCells, hz1, toV_length, h.len, Lib.strCells_length]
          omega
        · simp only [Array.toList_append, List.append_assoc]
          rw [← List.append_assoc, hst0, ← toV_append, Nat.mul_one, ← hlen]
          exact List.take_left
      obtain ⟨g', cap', hv, hB⟩ := bufC_own hown hm
      injection hv with h1 h2 h3
      injection h1 with h4
      injection h4 with h5
      subst h5 h3
      exact ⟨Nat.le_trans hb hB.low, hB.lt, hB.room, hB.len, hB.cell, hB.free⟩
    · exact ⟨rfl, rfl, rfl, by simp, fun k hk => heap_alloc_old w.drew _ (show k < w.drew.heap.size from Nat.lt_of_lt_of_le hk hb)⟩
end
end Go.Proofs.Ytkmlgfmpcglfeaa

/-
  What the program says of bytes.
-/
namespace Go.Proofs.Ytkmlgfmpcglfeaa
open Go.RowKit

theorem info8 : (Try.prog.info? 5).map (fun i => (i.zero, i.size, i.bytes)) = some (some (.int .u8 0), 1, 1) := by kernel_rfl
theorem info8s : (Try.prog.info? 5).map (·.size) = some 1 := by kernel_rfl
end Go.Proofs.Ytkmlgfmpcglfeaa

/-
  The contract of the code's Append.
-/
namespace Go.Proofs.Ytkmlgfmpcglfeaa
open Go.RowKit
set_option linter.unusedVariables false

theorem load8_sl {b j : Nat} (x : World) (a : Option Addr) (n c : Nat) (h : x.cell? ⟨b, j, none⟩ = some (.slice a n c)) : (Instr.loadAt 29 (.pointer (some ⟨b, j, none⟩))).run Try.prog x = .ok (.slice a n c) x := by
  go_simp
theorem load8_n {b j : Nat} (x : World) (v : Int) (h : x.cell? ⟨b, j, none⟩ = some (.int .i64 v)) : (Instr.loadAt 3 (.pointer (some ⟨b, j, none⟩))).run Try.prog x = .ok (.int .i64 v) x := by
  go_simp
theorem TpV.drew {w : World} {gt gb cap : Nat} {a : Option Addr} {t : Tp} (h : TpV w gt gb cap a t) : TpV w.drew gt gb cap a t := h.keep rfl rfl

/-- Bytes put behind bytes of the call's own: in their place, or in a new row. -/
theorem run_app8 {P : Program} (w : World) (t ty e : TypeId) (ht : P.underlying t = some (.slice e)) (hi : (P.info? e).map (fun i => (i.zero, i.size, i.bytes)) = some (some (.int .u8 0), 1, 1)) (a : Option Addr) (n cap : Nat) (xs : List UInt8) (hown : w.ownsRow 0 e 1 (.slice a n cap) n (toV xs))
    (ad : Option Addr) (m c : Nat) (ys : List UInt8) (hB : IsB w ad m ys) (hnil : ad = none → c = 0) (hz : n + m ≤ 140737488355328) :
    ∃ a' c' w', (Builtin.append_ #[t, t] ty #[.slice a n cap, .slice ad m c]).run P w = .ok (.slice a' (n + m) c') w' ∧ w'.ownsRow 0 e 1 (.slice a' (n + m) c') (n + m) (toV (xs ++ ys)) ∧ w.grownBy w' (Value.slice a n cap).ownBlock ∧ (a' = a ∨ ∃ g, a' = some ⟨g, 0, none⟩ ∧ w.heap.size ≤ g) := by
  obtain ⟨i, hi0, hi1⟩ := Option.map_eq_some_iff.1 hi
  simp only [Prod.mk.injEq] at hi1
  have hyl := hB.1
  have hxl : xs.length = n := by
    have := hown.1
    rw [toV_length] at this
    omega
  cases ad with
  | none =>
    obtain rfl : m = 0 := by
      by_cases hm : 0 < m
      · obtain ⟨b, off, h1, _⟩ := hB.2 hm
        cases h1
      · omega
    obtain rfl := List.eq_nil_of_length_eq_zero hyl
    obtain rfl := hnil rfl
    exact ⟨a, cap, w, run_append_owned_none (P := P) w 0 t ty e i 1 ht hi0 _ n (toV xs) hown, by simpa using hown, ⟨rfl, rfl, rfl, Nat.le_refl _, fun _ _ _ => rfl⟩, .inl rfl⟩
  | some b =>
    have hcells : ∀ j u, (toV ys)[j]? = some u → w.cell? (b.add j) = some u := by
      intro j u hu
      have hj : j < ys.length := by
        have := (List.getElem?_eq_some_iff.1 hu).1
        rwa [toV_length] at this
      obtain ⟨b', off', hb, _, hc⟩ := hB.2 (by omega)
      cases hb
      rw [Addr.add_lit, hc j (by omega), ← toV_get ys j hj]
      exact hu
    have fresh : ∀ v' w', w'.ownsRow w.heap.size e 1 v' (n + m) (toV xs ++ toV ys) → w.grownBy w' none → v' = .slice none 0 0 ∧ a = none ∧ n + m = 0 ∨ (∃ g c', v' = .slice (some ⟨g, 0, none⟩) (n + m) c' ∧ w.heap.size ≤ g) → ∃ a' c', v' = .slice a' (n + m) c' ∧ w'.ownsRow 0 e 1 (.slice a' (n + m) c') (n + m) (toV (xs ++ ys)) ∧ w.grownBy w' (Value.slice a n cap).ownBlock ∧ (a' = a ∨ ∃ g, a' = some ⟨g, 0, none⟩ ∧ w.heap.size ≤ g) := by
      intro v' w' h1 h2 h3
      have h4 : w.grownBy w' (Value.slice a n cap).ownBlock := ⟨h2.os, h2.tape, h2.output, h2.size, fun k hk _ => h2.block k hk (by simp)⟩
      have h5 : w'.ownsRow 0 e 1 v' (n + m) (toV (xs ++ ys)) := by
        rw [toV_append]
        refine ⟨h1.1, ?_⟩
        rcases h1.2 with h6 | ⟨g, c', cur, q1, _, q2⟩
        · exact .inl h6
        · exact .inr ⟨g, c', cur, q1, Nat.zero_le _, q2⟩
      rcases h3 with ⟨rfl, h6, h7⟩ | ⟨g, c', rfl, h6⟩
      · exact ⟨none, 0, by rw [h7], by rw [h7] at h5 ⊢; exact h5, h4, .inl h6.symm⟩
      · exact ⟨_, _, rfl, h5, h4, .inr ⟨g, rfl, h6⟩⟩
    rcases hown.2 with ⟨e1, h0⟩ | ⟨g, c0, cur, e1, _, hg, hc, hm, hs, htk⟩
    · injection e1 with e1 e2 e3
      subst e1 e2 e3
      obtain rfl : xs = [] := List.eq_nil_of_length_eq_zero hxl
      obtain ⟨v', w', r1, r2, r3, r4⟩ := run_append_own (P := P) w w.heap.size t ty e i (.int .u8 0) 1 1 ht hi0 hi1.1 hi1.2.1 hi1.2.2 rfl (by omega) (.slice none 0 0) 0 (toV []) (World.ownsRow_nil _ _ _ _) b m c (toV ys) (by rw [toV_length, hyl, Nat.mul_one]) hcells (toV_one ys) (by unfold maxLen; omega) (by omega) (Nat.le_refl _)
      obtain ⟨a', c', rfl, q⟩ := fresh v' w' r2 r3 (by
        rcases r2.2 with ⟨h5, h6⟩ | ⟨g, c', cur, q1, q2, _⟩
        · exact .inl ⟨h5, rfl, h6⟩
        · exact .inr ⟨g, c', q1, q2⟩)
      exact ⟨a', c', w', r1, q⟩
    · injection e1 with e1 e2 e3
      subst e1 e3
      by_cases hr : n + m ≤ cap
      · have r1 := run_append_room (P := P) w t ty e i ht hi0 g n cap cur hg b m c (toV ys) (by rw [toV_length, hyl, hi1.2.1, Nat.mul_one]) hcells (toV_one ys) hr (by rw [toV_length, hyl, hi1.2.1, hs]; omega)
        refine ⟨_, _, _, r1, ⟨by rw [toV_length, List.length_append, hxl, hyl, Nat.mul_one], .inr ⟨g, cap, _, rfl, Nat.zero_le _, setRow_heap w g cur _ e _ hg, hr, hm, ?_, ?_⟩⟩, ⟨rfl, rfl, rfl, by simp, fun k _ hk => setRow_other w g k _ (fun e => hk (by simp [Value.ownBlock, e]))⟩, .inl rfl⟩
        · simp only [List.size_toArray, List.length_append, List.length_take, List.length_drop, Array.length_toList, toV_length, hi1.2.1, hs, hyl]
          omega
        · rw [Nat.mul_one] at htk
          rw [hi1.2.1, Nat.mul_one, Nat.mul_one, htk, ← toV_append]
          have hl2 : (toV (xs ++ ys)).length = n + m := by rw [toV_length, List.length_append, hxl, hyl]
          rw [← hl2]
          exact List.take_left
      · obtain ⟨v', w', r1, r2, r3⟩ := run_append_arg_grows (P := P) w t ty e i (.int .u8 0) 1 1 ht hi0 hi1.1 hi1.2.1 hi1.2.2 rfl (by omega) ⟨g, 0, none⟩ n cap (toV xs) (by rw [toV_length, hxl, Nat.mul_one]) (hown.cells (g := g) rfl) b m c (toV ys) (by rw [toV_length, hyl, Nat.mul_one]) hcells (by omega) (by unfold maxLen; omega) (by omega)
        obtain ⟨a', c', rfl, q⟩ := fresh v' w' r2 r3 (by
          rcases r2.2 with ⟨h5, h6⟩ | ⟨g, c', cur, q1, q2, _⟩
          · omega
          · exact .inr ⟨g, c', q1, q2⟩)
        exact ⟨a', c', w', r1, q⟩

/-- A tape whose bytes are another row now. -/
theorem TpV.put {w x : World} {gt gb cap n c' : Nat} {a a' : Option Addr} {t : Tp} {bs : List UInt8} (h : TpV w gt gb cap a t) (hb : bs.length = n) (ho : x.ownsRow 0 5 1 (.slice a' (t.b.size + n) c') (t.b.size + n) (toV (t.b.data.toList ++ bs))) (hg : w.grownBy x (Value.slice a t.b.size cap).ownBlock) (hs : a' = a ∨ ∃ g, a' = some ⟨g, 0, none⟩ ∧ w.heap.size ≤ g) :
    RowAt x gt 32 #[.slice a t.b.size cap, .int .i64 (t.f : Int), .int .u64 (t.s : Int), .int .i64 (t.m : Int)] ∧ ∃ gb', TpAt (x.setCell ⟨gt, 0, none⟩ (.slice a' (t.b.size + n) c')) gt gb' { t with b := t.b ++ ⟨bs.toArray⟩ } ∧ Turn gt gb w (x.setCell ⟨gt, 0, none⟩ (.slice a' (t.b.size + n) c')) ∧ (gb' = gb ∨ w.heap.size ≤ gb') := by
  have hrow : ∀ k, (Value.slice a t.b.size cap).ownBlock = some k → k = gb ∧ gt ≠ gb := by
    intro k hk
    rcases h.own with ⟨rfl, _⟩ | ⟨rfl, h2, _⟩
    · cases hk
    · injection hk with hk
      exact ⟨hk.symm, h2⟩
  have hR : RowAt x gt 32 #[.slice a t.b.size cap, .int .i64 (t.f : Int), .int .u64 (t.s : Int), .int .i64 (t.m : Int)] := (hg.block gt h.1.lt (fun e => by
    obtain ⟨q1, q2⟩ := hrow gt e.symm
    exact q2 q1)).trans h.1
  have hz : (t.b ++ (⟨bs.toArray⟩ : ByteArray)).size = t.b.size + n := by
    have := size_mk bs
    rw [ByteArray.size_append]
    omega
  have hd : (t.b ++ (⟨bs.toArray⟩ : ByteArray)).data.toList = t.b.data.toList ++ bs := by
    rw [str_append]
  have hT : Turn gt gb w (x.setCell ⟨gt, 0, none⟩ (.slice a' (t.b.size + n) c')) := ((Turn.refl gt gb w).grown hg (fun k hk => .inl (hrow k hk).1)).set 0 _
  have hown : ∀ g, a' = some ⟨g, 0, none⟩ → g ≠ gt → (x.setCell ⟨gt, 0, none⟩ (.slice a' (t.b.size + n) c')).ownsRow 0 5 1 (.slice a' (t.b.size + n) c') (t.b.size + n) (toV (t.b.data.toList ++ bs)) := by
    intro g e hne
    subst e
    refine ⟨ho.1, ?_⟩
    rcases ho.2 with ⟨h5, _⟩ | ⟨g', c2, cur, q1, q2, q3, q4⟩
    · cases h5
    · injection q1 with q1 _ q5
      injection q1 with q1
      injection q1 with q1
      subst q1 q5
      exact .inr ⟨g, c', cur, rfl, q2, (heap_setCell_other x ⟨gt, 0, none⟩ g _ hne).trans q3, q4⟩
  have fin : ∀ gb', (a' = none ∧ gb' = gt ∨ a' = some ⟨gb', 0, none⟩ ∧ gb' ≠ gt) → TpAt (x.setCell ⟨gt, 0, none⟩ (.slice a' (t.b.size + n) c')) gt gb' { t with b := t.b ++ ⟨bs.toArray⟩ } := by
    intro gb' hq
    refine ⟨c', a', ?_, ?_, ?_⟩
    · show RowAt _ gt _ #[.slice a' (t.b ++ (⟨bs.toArray⟩ : ByteArray)).size c', _, _, _]
      rw [hz]
      exact RowAt.set hR 0 _
    · show World.ownsRow _ 0 _ 1 (.slice a' (t.b ++ (⟨bs.toArray⟩ : ByteArray)).size c') (t.b ++ (⟨bs.toArray⟩ : ByteArray)).size (toV (t.b ++ (⟨bs.toArray⟩ : ByteArray)).data.toList)
      rw [hz, hd]
      rcases hq with ⟨rfl, _⟩ | ⟨e, hne⟩
      · refine ⟨ho.1, .inl ?_⟩
        rcases ho.2 with h5 | ⟨g', c2, cur, q1, _⟩
        · exact h5
        · cases q1
      · exact hown _ e hne
    · rcases hq with h5 | ⟨e, _⟩
      · exact .inl h5
      · exact .inr e
  refine ⟨hR, ?_⟩
  rcases hs with rfl | ⟨g, e, hge⟩
  · rcases h.own with ⟨rfl, q, _⟩ | ⟨q, h2, _⟩
    · exact ⟨gb, fin gb (.inl ⟨rfl, q⟩), hT, .inl rfl⟩
    · exact ⟨gb, fin gb (.inr ⟨q, fun e => h2 e.symm⟩), hT, .inl rfl⟩
  · exact ⟨g, fin g (.inr ⟨e, by have := h.1.lt; omega⟩), hT, .inr hge⟩

set_option maxRecDepth 4000 in
set_option maxHeartbeats 800000 in
theorem app8_no (gt gb cap : Nat) (a : Option Addr) (t : Tp) (ad : Option Addr) (n c : Nat) (w : World) (h : TpV w gt gb cap a t) (ok : t.ok) (hn : t.m < t.b.size + n) (hs : n ≤ 70000) :
    Calls Try.prog 16 #[.pointer (some ⟨gt, 0, none⟩), .slice ad n c] w fun e w' => e = .returned (.int .i64 7) ∧ TpV w' gt gb cap a t ∧ Turn gt gb w w' := by
  have H := hide h
  have hz := ok.few
  have hy := ok.room
  have h1 : (t.m : Int) - (t.b.size : Int) < (n : Int) := by omega
  have ew : IntKind.i64.wrap ((t.m : Int) - (t.b.size : Int)) = (t.m : Int) - (t.b.size : Int) := by rw [IntKind.wrap_i64]; omega
  clear h ok
  go_enter Try.func16, Try.ntmps16
  go_wp2_with fail
  refine wp_region_in (fun x => TpV x gt gb cap a t ∧ Turn gt gb w x) (by kernel_rfl) (by kernel_rfl) ⟨H.out.drew, (Turn.refl gt gb w).drew⟩ ?_
  repeat (first
    | go_big_quiet_skip
    | (refine wpQuiet_load rfl 3 _ rfl _ (.int .i64 (t.m : Int)) rfl (fun y hy => load8_n y _ (hy.1.1.cell 3 _ rfl)) ?_; simp only [Act.put, Array.setIfInBounds, List.size_toArray, List.length_cons, List.length_nil, Nat.reduceAdd, Nat.reduceLT, ↓reduceDIte, List.set_toArray, List.set_cons_succ, List.set_cons_zero])
    | (refine wpQuiet_load rfl 29 _ rfl _ (.slice a t.b.size cap) rfl (fun y hy => load8_sl y _ _ _ (hy.1.1.cell 0 _ rfl)) ?_; simp only [Act.put, Array.setIfInBounds, List.size_toArray, List.length_cons, List.length_nil, Nat.reduceAdd, Nat.reduceLT, ↓reduceDIte, List.set_toArray, List.set_cons_succ, List.set_cons_zero])
    | (refine wpQuiet_plain rfl (fun K hK => ?_); go_simp; (try simp only [ew]); refine hK _ ?_; clear hK K))
  refine wpQuiet_nil ?_
  intro x hx
  have HX := hide hx
  clear hx
  go_wp2
  go_ret
  exact ⟨rfl, HX.out⟩
set_option maxRecDepth 4000 in
set_option maxHeartbeats 800000 in
theorem app8_yes (gt gb cap : Nat) (a : Option Addr) (t : Tp) (ad : Option Addr) (n c : Nat) (bs : List UInt8) (w : World) (h : TpV w gt gb cap a t) (ok : t.ok) (hB : IsB w ad n bs) (hnil : ad = none → c = 0) (hn : ¬ t.m < t.b.size + n) :
    Calls Try.prog 16 #[.pointer (some ⟨gt, 0, none⟩), .slice ad n c] w fun e w' => e = .returned (.int .i64 0) ∧ ∃ gb', TpAt w' gt gb' { t with b := t.b ++ ⟨bs.toArray⟩ } ∧ Turn gt gb w w' ∧ (gb' = gb ∨ w.heap.size ≤ gb') := by
  have H := hide h
  have hz := ok.few
  have hy := ok.room
  have h1 : ¬ (t.m : Int) - (t.b.size : Int) < (n : Int) := by omega
  have ew : IntKind.i64.wrap ((t.m : Int) - (t.b.size : Int)) = (t.m : Int) - (t.b.size : Int) := by rw [IntKind.wrap_i64]; omega
  have HB := hide hB
  have HN := hide hnil
  clear h ok hB hnil
  go_enter Try.func16, Try.ntmps16
  go_wp2_with fail
  refine wp_region_in (fun x => TpV x gt gb cap a t ∧ Turn gt gb w x ∧ IsB x ad n bs) (by kernel_rfl) (by kernel_rfl) ⟨H.out.drew, (Turn.refl gt gb w).drew, HB.out⟩ ?_
  repeat (first
    | go_big_quiet_skip
    | (refine wpQuiet_load rfl 3 _ rfl _ (.int .i64 (t.m : Int)) rfl (fun y hy => load8_n y _ (hy.1.1.cell 3 _ rfl)) ?_; simp only [Act.put, Array.setIfInBounds, List.size_toArray, List.length_cons, List.length_nil, Nat.reduceAdd, Nat.reduceLT, ↓reduceDIte, List.set_toArray, List.set_cons_succ, List.set_cons_zero])
    | (refine wpQuiet_load rfl 29 _ rfl _ (.slice a t.b.size cap) rfl (fun y hy => load8_sl y _ _ _ (hy.1.1.cell 0 _ rfl)) ?_; simp only [Act.put, Array.setIfInBounds, List.size_toArray, List.length_cons, List.length_nil, Nat.reduceAdd, Nat.reduceLT, ↓reduceDIte, List.set_toArray, List.set_cons_succ, List.set_cons_zero])
    | (refine wpQuiet_plain rfl (fun K hK => ?_); go_simp; (try simp only [ew]); refine hK _ ?_; clear hK K))
  refine wpQuiet_nil ?_
  intro x hx
  have HX := hide hx
  have c0 := hx.1.1.cell 0 _ rfl
  have f0 := hx.1.1.free 0
  clear hx
  obtain ⟨a', c', w2, q1, q2, q3, q4⟩ := run_app8 x 29 29 5 Try.underlying29 info8 a t.b.size cap t.b.data.toList HX.out.1.2.1 ad n c bs HX.out.2.2 HN.out (by omega)
  obtain ⟨hR, gb', r1, r2, r3⟩ := TpV.put HX.out.1 HX.out.2.2.1 q2 q3 q4
  have HR := hide (And.intro r1 (And.intro (HX.out.2.1.trans r2) (show gb' = gb ∨ w.heap.size ≤ gb' from r3.imp id fun h => Nat.le_trans HX.out.2.1.size h)))
  have c2 := hR.cell 0 _ rfl
  have f2 := hR.free 0
  clear HX q2 q3 q4 r1 r2 r3 HB HN H hR
  go_wp2_with (at_builtin; refine wpList_append_run rfl (.tmp 24) (.tmp 25) 29 29 rfl _ _ _ rfl rfl q1 ?_)
  go_ret
  exact ⟨rfl, gb', HR.out⟩
/-- Append, whole. -/
theorem app8_any (gt gb : Nat) (t : Tp) (ad : Option Addr) (n c : Nat) (bs : List UInt8) (w : World) (h : TpAt w gt gb t) (ok : t.ok) (hB : IsB w ad n bs) (hnil : ad = none → c = 0) (hs : n ≤ 70000) :
    Calls Try.prog 16 #[.pointer (some ⟨gt, 0, none⟩), .slice ad n c] w fun e w' => e = .returned (.int .i64 (t.app ⟨bs.toArray⟩).2) ∧ ∃ gb', TpAt w' gt gb' (t.app ⟨bs.toArray⟩).1 ∧ Turn gt gb w w' ∧ (gb' = gb ∨ w.heap.size ≤ gb') := by
  obtain ⟨cap, a, h⟩ := h
  have hsz : (⟨bs.toArray⟩ : ByteArray).size = n := (size_mk bs).trans hB.1
  unfold Tp.app
  rw [hsz]
  by_cases hn : t.m < t.b.size + n
  · rw [if_pos hn]
    exact (app8_no gt gb cap a t ad n c w h ok hn hs).mono fun e w' he => ⟨he.1, gb, ⟨cap, a, he.2.1⟩, he.2.2, .inl rfl⟩
  · rw [if_neg hn]
    exact app8_yes gt gb cap a t ad n c bs w h ok hB hnil hn
end Go.Proofs.Ytkmlgfmpcglfeaa

/-
  'copy' between slices, by what the operation answers. Of no program.
-/
namespace Go.Proofs.Ytkmlgfmpcglfeaa
open Go.RowKit
set_option linter.unusedVariables false

theorem wpList_copy_run {P : Program} {ops : Array Oper} {rest : List Oper} {o : Oper} {a : Act} {w w' : World} {Q : Exit → Act → World → Prop} (hgd : o.guard = none) (d x : Operand) (t u : TypeId) (hop : o.op = Op.call { callee := Callee.builtin Builtin.copy, args := #[d, x], argTypes := #[t, u] })
    (vd vx v' : Value) (hs : a.eval d = vd) (hx : a.eval x = vx) (hrun : (Builtin.copy_ #[t, u] o.type #[vd, vx]).run P w = .ok v' w') (h : wpList P ops Q rest (a.put o.dst v') w') : wpList P ops Q (o :: rest) a w := by
  refine wpList_plain hgd fun K hK => ?_
  unfold Oper.wp
  simp [execOp, hop, resolve, invoke, builtin, hs, hx, hrun, Result.andThen]
  exact hK _ _ h

/-- Bytes copied into a row that was made for them. -/
theorem run_copy_made {P : Program} (w x : World) (t ty e : TypeId) (ht : P.underlying t = some (.slice e)) (hi : (P.info? e).map (·.size) = some 1) (g n : Nat) (hb : Below w.heap.size w x) (hg : w.heap.size ≤ g) (hr : x.heap[g]? = some (.cells (zrow n).toArray e (0, 0))) (a : Option Addr) (c : Nat) (bs : List UInt8) (hB : IsB x a n bs) (hm : n ≤ maxLen) :
    ∃ w', (Builtin.copy_ #[t, t] ty #[.slice (some ⟨g, 0, none⟩) n n, .slice a n c]).run P x = .ok (.int .i64 (n : Int)) w' ∧ w'.ownsRow w.heap.size e 1 (.slice (some ⟨g, 0, none⟩) n n) n (toV bs) ∧ Below w.heap.size w w' := by
  have hl := hB.1
  rcases Nat.eq_zero_or_pos n with rfl | hn
  · obtain rfl : bs = [] := List.eq_nil_of_length_eq_zero hl
    exact ⟨x, run_copy_none (P := P) x t t ty e _ _ 0 0 0 c ht hi rfl, ⟨rfl, .inr ⟨g, 0, _, rfl, hg, hr, Nat.le_refl _, hm, rfl, rfl⟩⟩, hb⟩
  · obtain ⟨b, off, rfl, _, hc⟩ := hB.2 hn
    have r1 := run_copy_row P x t t ty e g 0 n n ⟨b, off, none⟩ n c (zrow n).toArray e (toV bs) ht hi hr (by rw [toV_length, hl]; exact (Nat.min_self n).symm) (fun j v hv => by
      obtain ⟨h1, rfl⟩ := toV_some bs j v hv
      rw [Addr.add_lit]
      exact hc j (by omega)) (by rw [toV_length, hl]; simp [zrow]) (toV_one bs)
    rw [toV_length, hl] at r1
    refine ⟨_, r1, ⟨by rw [toV_length, hl, Nat.mul_one], .inr ⟨g, n, _, rfl, hg, setRow_heap x g _ _ e _ hr, Nat.le_refl _, hm, ?_, ?_⟩⟩, below_setRow hb hg _⟩
    · simp [zrow, toV_length, hl]
    · rw [Nat.mul_one]
      simp only [List.take_zero, List.nil_append]
      have e2 : n = (toV bs).length := by rw [toV_length, hl]
      rw [e2]
      exact List.take_left
/-- .. as one step of a region that draws its order. -/
theorem step_copy_run {P : Program} {ops : Array Oper} {o : Oper} {a : Act} {w : World} {K : Act → World → Prop} {Q : Exit → Act → World → Prop} {E : Prop}
    (hg : o.guard = none) (d x : Operand) (t u : TypeId) (hop : o.op = Op.call { callee := Callee.builtin Builtin.copy, args := #[d, x], argTypes := #[t, u] })
    (vd vx v' : Value) (w' : World) (hs : a.eval d = vd) (hx : a.eval x = vx) (hrun : (Builtin.copy_ #[t, u] o.type #[vd, vx]).run P w = .ok v' w') (hK : K (a.put o.dst v') w') :
    if Region.wanted o (yielded ops a.tmps) = true then Oper.wp P o a w K Q else E := by
  have hw : Region.wanted o (yielded ops a.tmps) = true := by simp [Region.wanted, hg]
  rw [if_pos hw]
  unfold Oper.wp
  simp [execOp, hop, resolve, invoke, builtin, hs, hx, hrun, Result.andThen]
  exact hK
end Go.Proofs.Ytkmlgfmpcglfeaa

/-
  The contract of the code's Bytes.
-/
namespace Go.Proofs.Ytkmlgfmpcglfeaa
open Go.RowKit
set_option linter.unusedVariables false

theorem TpV.isB {w : World} {gt gb cap : Nat} {a : Option Addr} {t : Tp} (h : TpV w gt gb cap a t) : IsB w a t.b.size t.b.data.toList := by
  rcases h.own with ⟨rfl, _, h2, rfl⟩ | ⟨rfl, _⟩
  · have hd : t.b.data.toList = [] := List.eq_nil_of_length_eq_zero (by rw [data_length, h2])
    rw [h2, hd]
    exact IsB.nil w
  · exact h.2.1.isB (data_length _)

set_option maxRecDepth 4000 in
set_option maxHeartbeats 800000 in
theorem bytes8_any (gt gb : Nat) (t : Tp) (w : World) (h : TpAt w gt gb t) (ok : t.ok) :
    Calls Try.prog 14 #[.pointer (some ⟨gt, 0, none⟩)] w fun e w' => ∃ v, e = .returned v ∧ w'.ownsRow w.heap.size 5 1 v t.b.size (toV t.b.data.toList) ∧ Below w.heap.size w w' := by
  obtain ⟨cap, a, h⟩ := h
  have hz := ok.few
  have hy := ok.room
  have hmk := fun w => run_mkn (P := Try.prog) 29 5 Try.underlying29 info8 t.b.size (by omega) w
  have hb : Below w.heap.size w (w.alloc (.cells (zrow t.b.size).toArray 5)) := (Below.refl _ _).alloc (Nat.le_refl _) _
  obtain ⟨w2, q1, q2, q3⟩ := run_copy_made (P := Try.prog) w (w.alloc (.cells (zrow t.b.size).toArray 5)) 29 3 5 Try.underlying29 info8s w.heap.size t.b.size hb (Nat.le_refl _) (heap_alloc_new w _) a cap t.b.data.toList (h.isB.below hb) (by unfold maxLen; omega)
  have c0 := h.1.cell 0 _ rfl
  have c1 := (h.1.later hb).cell 0 _ rfl
  have HR := hide (And.intro q2 q3)
  clear h ok hb q2 q3
  go_enter Try.func14, Try.ntmps14
  go_wp2_with (at_builtin; refine wpList_copy_run rfl (.tmp 12) (.tmp 16) 29 29 rfl _ _ _ rfl rfl q1 ?_)
  go_ret
  exact ⟨_, rfl, HR.out⟩
end Go.Proofs.Ytkmlgfmpcglfeaa

/-
  The contracts of the code's Chop and Crash.
-/
namespace Go.Proofs.Ytkmlgfmpcglfeaa
open Go.RowKit
set_option linter.unusedVariables false

/-- A tape of which the first bytes are left alone. -/
theorem TpV.first {w : World} {gt gb cap : Nat} {a : Option Addr} {t : Tp} (h : TpV w gt gb cap a t) (n : Nat) (hn : n ≤ t.b.size) : TpV (w.setCell ⟨gt, 0, none⟩ (.slice a n cap)) gt gb cap a { t with b := t.b.extract 0 n } := by
  have hz : (t.b.extract 0 n).size = n := by rw [ByteArray.size_extract]; omega
  have hd : (t.b.extract 0 n).data.toList = t.b.data.toList.take n := by
    have e := extract_eq t.b 0 n (by omega)
    rw [Nat.zero_add] at e
    rw [e]
    simp
  refine ⟨?_, ?_, h.2.2⟩
  · show RowAt _ gt _ #[.slice a (t.b.extract 0 n).size cap, _, _, _]
    rw [hz]
    exact RowAt.set h.1 0 _
  · show World.ownsRow _ 0 _ 1 (.slice a (t.b.extract 0 n).size cap) (t.b.extract 0 n).size (toV (t.b.extract 0 n).data.toList)
    rw [hz, hd]
    rcases h.own with ⟨rfl, _, h2, rfl⟩ | ⟨rfl, h2, h3, h4, h5, cur, h6, h7, h8⟩
    · obtain rfl : n = 0 := by omega
      exact World.ownsRow_nil _ _ _ _
    · refine ⟨by rw [toV_length, List.length_take, data_length]; omega, .inr ⟨gb, cap, cur, rfl, Nat.zero_le _, (heap_setCell_other w ⟨gt, 0, none⟩ gb _ (fun e => h2 e.symm)).trans h6, by omega, h5, by simpa using h7, ?_⟩⟩
      rw [Nat.mul_one]
      have e : toV (t.b.data.toList.take n) = (toV t.b.data.toList).take n := by simp [toV, List.map_take]
      rw [e, ← h8, List.take_take]
      congr 1
      omega

set_option maxRecDepth 4000 in
set_option maxHeartbeats 800000 in
theorem chop8_no (gt gb : Nat) (t : Tp) (n : Int) (w : World) (h : TpAt w gt gb t) (hn : n < 0 ∨ (t.b.size : Int) < n) :
    Calls Try.prog 21 #[.pointer (some ⟨gt, 0, none⟩), .int .i64 n] w fun e w' => e = .returned (.int .i64 1) ∧ w = w' := by
  obtain ⟨cap, a, h⟩ := h
  have c0 := h.1.cell 0 _ rfl
  clear h
  by_cases h1 : n < 0
  · clear hn
    go_enter Try.func21, Try.ntmps21
    go_wp2
    go_ret
    exact ⟨rfl, rfl⟩
  · have h2 : (t.b.size : Int) < n := by omega
    clear hn
    go_enter Try.func21, Try.ntmps21
    go_wp2
    go_ret
    exact ⟨rfl, rfl⟩

set_option maxRecDepth 4000 in
set_option maxHeartbeats 800000 in
theorem chop8_yes (gt gb : Nat) (t : Tp) (n : Nat) (w : World) (h : TpAt w gt gb t) (ok : t.ok) (hn : n ≤ t.b.size) :
    Calls Try.prog 21 #[.pointer (some ⟨gt, 0, none⟩), .int .i64 (n : Int)] w fun e w' => e = .returned (.int .i64 0) ∧ TpAt w' gt gb ⟨t.b.extract 0 n, min t.f n, t.m, t.s⟩ ∧ Turn gt gb w w' := by
  obtain ⟨cap, a, h⟩ := h
  have H := hide h
  have c0 := h.1.cell 0 _ rfl
  have c1 := h.1.cell 1 _ rfl
  have f0 := h.1.free 0
  have f1 := h.1.free 1
  have hz := ok.few
  have hy := ok.room
  have hx := ok.fast
  have hcap : t.b.size ≤ cap := by
    rcases h.own with ⟨_, _, h2, _⟩ | ⟨_, _, _, h2, _⟩ <;> omega
  have h1 : ¬ (n : Int) < 0 := by omega
  have h2 : ¬ (t.b.size : Int) < (n : Int) := by omega
  have h3 : (n : Int) ≤ (cap : Int) := by omega
  clear h ok
  go_enter Try.func21, Try.ntmps21
  go_wp2
  all_goals
    go_ret
    exact ⟨rfl, ⟨cap, a, (H.out.first n hn).setf _ _ (by omega)⟩, ((Turn.refl gt gb w).set 0 _).set 1 _⟩
theorem chop8_any (gt gb : Nat) (t : Tp) (n : Int) (w : World) (h : TpAt w gt gb t) (ok : t.ok) :
    Calls Try.prog 21 #[.pointer (some ⟨gt, 0, none⟩), .int .i64 n] w fun e w' => e = .returned (.int .i64 (t.chop n).2) ∧ TpAt w' gt gb (t.chop n).1 ∧ Turn gt gb w w' := by
  unfold Tp.chop
  by_cases hn : n < 0 ∨ (t.b.size : Int) < n
  · rw [if_pos hn]
    refine (chop8_no gt gb t n w h hn).mono ?_
    rintro e w' ⟨rfl, rfl⟩
    exact ⟨rfl, h, Turn.refl _ _ _⟩
  · rw [if_neg hn]
    obtain ⟨m, rfl⟩ := Int.eq_ofNat_of_zero_le (show 0 ≤ n by omega)
    exact chop8_yes gt gb t m w h ok (by omega)
end Go.Proofs.Ytkmlgfmpcglfeaa

/-
  The contract of the code's Cut.
-/
namespace Go.Proofs.Ytkmlgfmpcglfeaa
open Go.RowKit
set_option linter.unusedVariables false

set_option maxRecDepth 4000 in
set_option maxHeartbeats 800000 in
theorem cut8_no (gt gb : Nat) (t : Tp) (n : Int) (w : World) (h : TpAt w gt gb t) (hn : n < 0 ∨ (t.f : Int) < n) :
    Calls Try.prog 20 #[.pointer (some ⟨gt, 0, none⟩), .int .i64 n] w fun e w' => e = .returned (.int .i64 1) ∧ w = w' := by
  obtain ⟨cap, a, h⟩ := h
  have c1 := h.1.cell 1 _ rfl
  clear h
  by_cases h1 : n < 0
  · clear hn
    go_enter Try.func20, Try.ntmps20
    go_wp2
    go_ret
    exact ⟨rfl, rfl⟩
  · have h2 : (t.f : Int) < n := by omega
    clear hn
    go_enter Try.func20, Try.ntmps20
    go_wp2
    go_ret
    exact ⟨rfl, rfl⟩

/-- The rest moves to the front. -/
theorem TpV.move {w : World} {gt gb cap : Nat} {a : Option Addr} {t : Tp} (h : TpV w gt gb cap a t) (n : Nat) (hn : n ≤ t.b.size) (a2 : Option Addr) (c2 m : Nat) (hm : t.b.size - n = m) (hs : m = 0 ∨ a = some ⟨gb, 0, none⟩ ∧ a2 = some ⟨gb, n, none⟩) :
    ∃ w2, (Builtin.copy_ #[29, 29] 3 #[.slice a t.b.size cap, .slice a2 m c2]).run Try.prog w = .ok (.int .i64 (m : Int)) w2 ∧ RowAt w2 gt 32 #[.slice a t.b.size cap, .int .i64 (t.f : Int), .int .u64 (t.s : Int), .int .i64 (t.m : Int)] ∧ Turn gt gb w w2 ∧ TpV (w2.setCell ⟨gt, 0, none⟩ (.slice a m cap)) gt gb cap a { t with b := t.b.extract n t.b.size } := by
  subst hm
  have hz : (t.b.extract n t.b.size).size = t.b.size - n := by rw [ByteArray.size_extract]; omega
  have hd : (t.b.extract n t.b.size).data.toList = t.b.data.toList.drop n := by
    have e := extract_eq t.b n (t.b.size - n) (by omega)
    rw [show n + (t.b.size - n) = t.b.size by omega] at e
    rw [e]
    exact List.take_of_length_le (by rw [List.length_drop, data_length]; omega)
  have fin : ∀ w2, RowAt w2 gt 32 #[.slice a t.b.size cap, .int .i64 (t.f : Int), .int .u64 (t.s : Int), .int .i64 (t.m : Int)] → (w2.setCell ⟨gt, 0, none⟩ (.slice a (t.b.size - n) cap)).ownsRow 0 5 1 (.slice a (t.b.size - n) cap) (t.b.size - n) (toV (t.b.data.toList.drop n)) → TpV (w2.setCell ⟨gt, 0, none⟩ (.slice a (t.b.size - n) cap)) gt gb cap a { t with b := t.b.extract n t.b.size } := by
    intro w2 h1 h2
    refine ⟨?_, ?_, h.2.2⟩
    · show RowAt _ gt _ #[.slice a (t.b.extract n t.b.size).size cap, _, _, _]
      rw [hz]
      exact RowAt.set h1 0 _
    · show World.ownsRow _ 0 _ 1 (.slice a (t.b.extract n t.b.size).size cap) (t.b.extract n t.b.size).size (toV (t.b.extract n t.b.size).data.toList)
      rw [hz, hd]
      exact h2
  have hdl : (t.b.data.toList.drop n).length = t.b.size - n := by rw [List.length_drop, data_length]
  rcases Nat.eq_zero_or_pos (t.b.size - n) with h0 | hp
  · refine ⟨w, ?_, h.1, Turn.refl _ _ _, fin w h.1 ?_⟩
    · rw [h0]
      exact run_copy_none (P := Try.prog) w 29 29 3 5 a a2 t.b.size cap 0 c2 Try.underlying29 info8s (Nat.zero_min _)
    · have hnil : t.b.data.toList.drop n = [] := List.eq_nil_of_length_eq_zero (by omega)
      rw [h0, hnil]
      rcases h.own with ⟨rfl, _, _, rfl⟩ | ⟨rfl, h2, h3, h4, h5, cur, h6, h7, h8⟩
      · exact World.ownsRow_nil _ _ _ _
      · exact ⟨rfl, .inr ⟨gb, cap, cur, rfl, Nat.zero_le _, (heap_setCell_other w ⟨gt, 0, none⟩ gb _ (fun e => h2 e.symm)).trans h6, Nat.zero_le _, h5, by simpa using h7, by simp [toV]⟩⟩
  · obtain ⟨ha, rfl⟩ : a = some ⟨gb, 0, none⟩ ∧ a2 = some ⟨gb, n, none⟩ := by
      rcases hs with h1 | h1
      · omega
      · exact h1
    rcases h.own with ⟨e, _⟩ | ⟨_, h2, h3, h4, h5, cur, h6, h7, h8⟩
    · rw [ha] at e
      cases e
    subst ha
    have hB := h.isB
    have r1 := run_copy_row Try.prog w 29 29 3 5 gb 0 t.b.size cap ⟨gb, n, none⟩ (t.b.size - n) c2 cur 5 (toV (t.b.data.toList.drop n)) Try.underlying29 info8s h6 (by rw [toV_length, hdl]; exact (Nat.min_eq_left (Nat.sub_le _ _)).symm) (fun j v hv => by
      obtain ⟨g1, rfl⟩ := toV_some _ j v hv
      rw [Addr.add_lit]
      obtain ⟨b', off', hb', _, hc⟩ := hB.2 (by omega)
      cases hb'
      have := hc (n + j) (by omega)
      rw [Nat.zero_add] at this
      rw [this]
      simp only [List.getD_eq_getElem?_getD, List.getElem?_drop]) (by rw [toV_length, hdl, h7]; omega) (toV_one _)
    rw [toV_length, hdl] at r1
    refine ⟨_, r1, (setRow_other w gb gt _ h2).trans h.1, ⟨rfl, rfl, rfl, by simp, fun k _ _ hk => setRow_other w gb k _ hk⟩, fin _ ((setRow_other w gb gt _ h2).trans h.1) ⟨by rw [toV_length, hdl, Nat.mul_one], .inr ⟨gb, cap, _, rfl, Nat.zero_le _, (heap_setCell_other _ ⟨gt, 0, none⟩ gb _ (fun e => h2 e.symm)).trans (setRow_heap w gb cur _ 5 _ h6), by omega, h5, ?_, ?_⟩⟩⟩
    · simp only [List.size_toArray, List.length_append, List.length_take, List.length_drop, Array.length_toList, toV_length, h7]
      have := data_length t.b
      rw [Array.length_toList] at this
      omega
    · rw [Nat.mul_one]
      simp only [List.take_zero, List.nil_append]
      have e2 : t.b.size - n = (toV (t.b.data.toList.drop n)).length := by rw [toV_length, hdl]
      rw [e2]
      exact List.take_left

theorem TpV.sets {w : World} {gt gb cap : Nat} {a : Option Addr} {t : Tp} (h : TpV w gt gb cap a t) (s : Int) (n : Nat) (hf : s = (n : Int)) : TpV (w.setCell ⟨gt, 2, none⟩ (.int .u64 s)) gt gb cap a { t with s := n } := by
  subst hf
  refine ⟨RowAt.set h.1 2 _, ?_, h.2.2⟩
  rcases h.own with ⟨rfl, _, h2, rfl⟩ | ⟨rfl, h2, h3, h4, h5, cur, h6, h7, h8⟩
  · show World.ownsRow _ 0 5 1 (.slice none t.b.size 0) t.b.size (toV t.b.data.toList)
    have hd : t.b.data.toList = [] := List.eq_nil_of_length_eq_zero (by rw [data_length, h2])
    rw [h2, hd]
    exact World.ownsRow_nil _ _ _ _
  · exact ⟨h.2.1.1, .inr ⟨gb, cap, cur, rfl, Nat.zero_le _, (heap_setCell_other w ⟨gt, 2, none⟩ gb _ (fun e => h2 e.symm)).trans h6, h4, h5, by simpa using h7, by simpa using h8⟩⟩

/-- What Cut leaves of a tape. -/
theorem TpV.cut {w2 : World} {gt gb cap m : Nat} {a : Option Addr} {t : Tp} {n : Nat} (h : TpV (w2.setCell ⟨gt, 0, none⟩ (.slice a m cap)) gt gb cap a { t with b := t.b.extract n t.b.size }) (f s : Int) (hf : f = ((t.f - n : Nat) : Int)) (hs : s = (((t.s + n) % 18446744073709551616 : Nat) : Int)) :
    TpV (((w2.setCell ⟨gt, 0, none⟩ (.slice a m cap)).setCell ⟨gt, 1, none⟩ (.int .i64 f)).setCell ⟨gt, 2, none⟩ (.int .u64 s)) gt gb cap a ⟨t.b.extract n t.b.size, t.f - n, t.m, (t.s + n) % 18446744073709551616⟩ := (h.setf f _ hf).sets s _ hs

set_option maxRecDepth 4000 in
set_option maxHeartbeats 1600000 in
theorem cut8_go (gt gb cap : Nat) (a : Option Addr) (t : Tp) (n : Nat) (w : World) (h : TpV w gt gb cap a t) (ok : t.ok) (hn : n ≤ t.f) (hc : ¬ cap = n) (hcap : t.b.size ≤ cap) (ha : a = some ⟨gb, 0, none⟩) :
    Calls Try.prog 20 #[.pointer (some ⟨gt, 0, none⟩), .int .i64 (n : Int)] w fun e w' => e = .returned (.int .i64 0) ∧ TpAt w' gt gb ⟨t.b.extract n t.b.size, t.f - n, t.m, (t.s + n) % 18446744073709551616⟩ ∧ Turn gt gb w w' := by
  subst ha
  have h3 : n ≤ t.b.size := Nat.le_trans hn ok.fast
  have hz := ok.few
  have hy := ok.room
  have hx := ok.fast
  have hs := ok.went
  obtain ⟨w2, q1, q2, q3, q4⟩ := h.drew.move n h3 (some ⟨gb, n, none⟩) (cap - n) (t.b.size - n) rfl (.inr ⟨rfl, rfl⟩)
  have H := hide (And.intro q3 q4)
  have c0 := h.1.cell 0 (.slice (some ⟨gb, 0, none⟩) t.b.size cap) rfl
  have c1 := h.1.cell 1 _ rfl
  have d0 := q2.cell 0 (.slice (some ⟨gb, 0, none⟩) t.b.size cap) rfl
  have d1 := q2.cell 1 _ rfl
  have d2 := q2.cell 2 _ rfl
  have e0 := q2.free 0
  have e1 := q2.free 1
  have e2 := q2.free 2
  have h1 : ¬ (n : Int) < 0 := by omega
  have h2 : ¬ (t.f : Int) < (n : Int) := by omega
  have q5 : (Builtin.copy_ #[29, 29] 3 #[.slice (some ⟨gb, 0, none⟩) t.b.size cap, .slice (some ⟨gb, n, none⟩) (t.b.size - n) (cap - n)]).run Try.prog w.drew = .ok (.int .i64 ((t.b.size - n : Nat) : Int)) w2 := by
    first | exact q1 | (rw [hsz] at q1; exact q1)
  clear h ok q2 q3 q4 q1
  go_enter Try.func20, Try.ntmps20
  go_wp2_with fail
  go_region_law (refine step_copy_run rfl (.tmp 23) (.tmp 29) 29 29 rfl (.slice (some ⟨gb, 0, none⟩) t.b.size cap) (.slice (some ⟨gb, n, none⟩) (t.b.size - n) (cap - n)) (.int .i64 ((t.b.size - n : Nat) : Int)) w2 ?h1 ?h2 q5 ?_; (case h1 => simp [Act.eval, Act.put]); (case h2 => simp [Act.eval, Act.put]))
  all_goals
    go_wp2
    go_ret
    exact ⟨rfl, ⟨cap, _, H.out.2.cut _ _ (by omega) (by rw [IntKind.wrap_u64]; omega)⟩, (((((Turn.refl gt gb w).drew).trans H.out.1).set 0 _).set 1 _).set 2 _⟩

set_option maxRecDepth 4000 in
set_option maxHeartbeats 1600000 in
theorem cut8_full (gt gb : Nat) (t : Tp) (n : Nat) (w : World) (h : TpV w gt gb n (some ⟨gb, 0, none⟩) t) (ok : t.ok) (hn : n ≤ t.f) (hsz : t.b.size = n) :
    Calls Try.prog 20 #[.pointer (some ⟨gt, 0, none⟩), .int .i64 (n : Int)] w fun e w' => e = .returned (.int .i64 0) ∧ TpAt w' gt gb ⟨t.b.extract n t.b.size, t.f - n, t.m, (t.s + n) % 18446744073709551616⟩ ∧ Turn gt gb w w' := by
  have hz := ok.few
  have hy := ok.room
  have hx := ok.fast
  have hs := ok.went
  obtain ⟨w2, q1, q2, q3, q4⟩ := h.drew.move n (by omega) (some ⟨gb, 0, none⟩) 0 0 (by omega) (.inl rfl)
  have H := hide (And.intro q3 q4)
  have c0 := h.1.cell 0 (.slice (some ⟨gb, 0, none⟩) n n) (by rw [hsz]; rfl)
  have c1 := h.1.cell 1 _ rfl
  have d0 := q2.cell 0 (.slice (some ⟨gb, 0, none⟩) n n) (by rw [hsz]; rfl)
  have d1 := q2.cell 1 _ rfl
  have d2 := q2.cell 2 _ rfl
  have e0 := q2.free 0
  have e1 := q2.free 1
  have e2 := q2.free 2
  have h1 : ¬ (n : Int) < 0 := by omega
  have h2 : ¬ (t.f : Int) < (n : Int) := by omega
  have q5 : (Builtin.copy_ #[29, 29] 3 #[.slice (some ⟨gb, 0, none⟩) n n, .slice (some ⟨gb, 0, none⟩) 0 0]).run Try.prog w.drew = .ok (.int .i64 (0)) w2 := by
    first | exact q1 | (rw [hsz] at q1; exact q1)
  have HS := hide hsz
  clear h ok q2 q3 q4 q1 hsz
  go_enter Try.func20, Try.ntmps20
  go_wp2_with fail
  go_region_law (refine step_copy_run rfl (.tmp 23) (.tmp 29) 29 29 rfl (.slice (some ⟨gb, 0, none⟩) n n) (.slice (some ⟨gb, 0, none⟩) 0 0) (.int .i64 (0)) w2 ?h1 ?h2 q5 ?_; (case h1 => simp [Act.eval, Act.put]); (case h2 => simp [Act.eval, Act.put]))
  all_goals
    go_wp2
    go_ret
    exact ⟨rfl, ⟨n, _, H.out.2.cut _ _ (by have := HS.out; omega) (by rw [IntKind.wrap_u64]; omega)⟩, (((((Turn.refl gt gb w).drew).trans H.out.1).set 0 _).set 1 _).set 2 _⟩

set_option maxRecDepth 4000 in
set_option maxHeartbeats 1600000 in
theorem cut8_none (gt gb : Nat) (t : Tp) (w : World) (h : TpV w gt gb 0 none t) (ok : t.ok) (hsz : t.b.size = 0) :
    Calls Try.prog 20 #[.pointer (some ⟨gt, 0, none⟩), .int .i64 (0 : Int)] w fun e w' => e = .returned (.int .i64 0) ∧ TpAt w' gt gb ⟨t.b.extract 0 t.b.size, t.f - 0, t.m, (t.s + 0) % 18446744073709551616⟩ ∧ Turn gt gb w w' := by
  have hz := ok.few
  have hy := ok.room
  have hx := ok.fast
  have hs := ok.went
  obtain ⟨w2, q1, q2, q3, q4⟩ := h.drew.move 0 (by omega) none 0 0 (by omega) (.inl rfl)
  have H := hide (And.intro q3 q4)
  have c0 := h.1.cell 0 (.slice none 0 0) (by rw [hsz]; rfl)
  have c1 := h.1.cell 1 _ rfl
  have d0 := q2.cell 0 (.slice none 0 0) (by rw [hsz]; rfl)
  have d1 := q2.cell 1 _ rfl
  have d2 := q2.cell 2 _ rfl
  have e0 := q2.free 0
  have e1 := q2.free 1
  have e2 := q2.free 2
  have h1 : ¬ (0 : Int) < 0 := by omega
  have h2 : ¬ (t.f : Int) < (0 : Int) := by omega
  have q5 : (Builtin.copy_ #[29, 29] 3 #[.slice none 0 0, .slice none 0 0]).run Try.prog w.drew = .ok (.int .i64 (0)) w2 := by
    first | exact q1 | (rw [hsz] at q1; exact q1)
  have HS := hide hsz
  clear h ok q2 q3 q4 q1 hsz
  go_enter Try.func20, Try.ntmps20
  go_wp2_with fail
  go_region_law (refine step_copy_run rfl (.tmp 23) (.tmp 29) 29 29 rfl (.slice none 0 0) (.slice none 0 0) (.int .i64 (0)) w2 ?h1 ?h2 q5 ?_; (case h1 => simp [Act.eval, Act.put]); (case h2 => simp [Act.eval, Act.put]))
  all_goals
    go_wp2
    go_ret
    exact ⟨rfl, ⟨0, _, H.out.2.cut _ _ (by have := HS.out; omega) (by omega)⟩, (((((Turn.refl gt gb w).drew).trans H.out.1).set 0 _).set 1 _).set 2 _⟩

theorem cut8_any (gt gb : Nat) (t : Tp) (n : Int) (w : World) (h : TpAt w gt gb t) (ok : t.ok) :
    Calls Try.prog 20 #[.pointer (some ⟨gt, 0, none⟩), .int .i64 n] w fun e w' => e = .returned (.int .i64 (t.cut n).2) ∧ TpAt w' gt gb (t.cut n).1 ∧ Turn gt gb w w' := by
  unfold Tp.cut
  by_cases hn : n < 0 ∨ (t.f : Int) < n
  · rw [if_pos hn]
    refine (cut8_no gt gb t n w h hn).mono ?_
    rintro e w' ⟨rfl, rfl⟩
    exact ⟨rfl, h, Turn.refl _ _ _⟩
  · rw [if_neg hn]
    obtain ⟨m, rfl⟩ := Int.eq_ofNat_of_zero_le (show 0 ≤ n by omega)
    have hx := ok.fast
    obtain ⟨cap, a, h⟩ := h
    rcases h.own with ⟨rfl, _, h2, rfl⟩ | ⟨rfl, _, _, h2, _⟩
    · obtain rfl : m = 0 := by omega
      exact cut8_none gt gb t w h ok h2
    · by_cases hc : cap = m
      · subst hc
        exact cut8_full gt gb t cap w h ok (by omega) (by omega)
      · exact cut8_go gt gb cap _ t m w h ok (by omega) hc h2 rfl
end Go.Proofs.Ytkmlgfmpcglfeaa

/-
  The contract of the code's Crash.
-/
namespace Go.Proofs.Ytkmlgfmpcglfeaa
open Go.RowKit
set_option linter.unusedVariables false

set_option maxRecDepth 4000 in
set_option maxHeartbeats 1600000 in
theorem crash8_all (gt gb cap : Nat) (a : Option Addr) (t : Tp) (r : Nat) (k : Int) (hr : t.b.size = t.f + r) (h1 : (r : Int) < k) (h0 : 0 < r) (w : World) (h : TpV w gt gb cap a t) (ok : t.ok) (hcap : t.b.size ≤ cap) :
    Calls Try.prog 19 #[.pointer (some ⟨gt, 0, none⟩), .int .i64 k] w fun e w' => e = .returned (.tuple #[]) ∧ TpV w' gt gb cap a ⟨t.b.extract 0 (t.f + r), t.f + r, t.m, t.s⟩ ∧ Turn gt gb w w' := by
  have H := hide h
  have hz := ok.few
  have hy := ok.room
  have hx := ok.fast
  have hlm : t.f + r ≤ t.b.size := by omega
  have HLM := hide hlm
  have ew : IntKind.i64.wrap ((t.b.size : Int) - (t.f : Int)) = (r : Int) := by rw [IntKind.wrap_i64]; omega
  have h2 : (0 : Int) < (r : Int) := by omega
  have h3 : (0 : Int) < k := by omega
  have e1 : IntKind.i64.wrap ((t.f : Int) + (r : Int)) = (t.f : Int) + (r : Int) := by rw [IntKind.wrap_i64]; omega
  have e2 : (0 : Int) ≤ (t.f : Int) + (r : Int) := by omega
  have e3 : (t.f : Int) + (r : Int) ≤ (cap : Int) := by omega
  clear h ok
  have HR := hide hr
  clear hr
  go_enter Try.func19, Try.ntmps19
  go_wp2_with fail
  refine wp_region_in (fun x => TpV x gt gb cap a t ∧ Turn gt gb w x) (by kernel_rfl) (by kernel_rfl) ⟨H.out.drew, (Turn.refl gt gb w).drew⟩ ?_
  repeat (first
    | go_big_quiet_skip
    | (refine wpQuiet_load rfl 3 _ rfl _ (.int .i64 (t.f : Int)) rfl (fun y hy => load8_n y _ (hy.1.1.cell 1 _ rfl)) ?_; simp only [Act.put, Array.setIfInBounds, List.size_toArray, List.length_cons, List.length_nil, Nat.reduceAdd, Nat.reduceLT, ↓reduceDIte, List.set_toArray, List.set_cons_succ, List.set_cons_zero])
    | (refine wpQuiet_load rfl 29 _ rfl _ (.slice a t.b.size cap) rfl (fun y hy => load8_sl y _ _ _ (hy.1.1.cell 0 _ rfl)) ?_; simp only [Act.put, Array.setIfInBounds, List.size_toArray, List.length_cons, List.length_nil, Nat.reduceAdd, Nat.reduceLT, ↓reduceDIte, List.set_toArray, List.set_cons_succ, List.set_cons_zero])
    | (refine wpQuiet_plain rfl (fun K hK => ?_); go_simp; (try simp only [ew]); refine hK _ ?_; clear hK K))
  refine wpQuiet_nil ?_
  intro x hx
  have HX := hide hx
  have c0 := hx.1.1.cell 0 (.slice a t.b.size cap) rfl
  have c1 := hx.1.1.cell 1 (.int .i64 (t.f : Int)) rfl
  have f0 := hx.1.1.free 0
  have f1 := hx.1.1.free 1
  clear hx
  go_wp2_with fail
  go_region
  go_wp2
  go_end0
  exact ⟨rfl, (HX.out.1.drew.first (t.f + r) HLM.out).setf _ _ (by omega), (HX.out.2.drew.set 0 _).set 1 _⟩

set_option maxRecDepth 4000 in
set_option maxHeartbeats 1600000 in
theorem crash8_some (gt gb cap : Nat) (a : Option Addr) (t : Tp) (r : Nat) (n : Nat) (k : Int) (hk : k = (n : Int)) (hr : t.b.size = t.f + r) (h1 : n ≤ r) (h0 : 0 < n) (w : World) (h : TpV w gt gb cap a t) (ok : t.ok) (hcap : t.b.size ≤ cap) :
    Calls Try.prog 19 #[.pointer (some ⟨gt, 0, none⟩), .int .i64 k] w fun e w' => e = .returned (.tuple #[]) ∧ TpV w' gt gb cap a ⟨t.b.extract 0 (t.f + n), t.f + n, t.m, t.s⟩ ∧ Turn gt gb w w' := by
  have H := hide h
  have hz := ok.few
  have hy := ok.room
  have hx := ok.fast
  subst hk
  have hlm : t.f + n ≤ t.b.size := by omega
  have HLM := hide hlm
  have ew : IntKind.i64.wrap ((t.b.size : Int) - (t.f : Int)) = (r : Int) := by rw [IntKind.wrap_i64]; omega
  have h2 : (0 : Int) < (n : Int) := by omega
  have h3 : ¬ (r : Int) < (n : Int) := by omega
  have e1 : IntKind.i64.wrap ((t.f : Int) + (n : Int)) = (t.f : Int) + (n : Int) := by rw [IntKind.wrap_i64]; omega
  have e2 : (0 : Int) ≤ (t.f : Int) + (n : Int) := by omega
  have e3 : (t.f : Int) + (n : Int) ≤ (cap : Int) := by omega
  clear h ok
  have HR := hide hr
  clear hr
  go_enter Try.func19, Try.ntmps19
  go_wp2_with fail
  refine wp_region_in (fun x => TpV x gt gb cap a t ∧ Turn gt gb w x) (by kernel_rfl) (by kernel_rfl) ⟨H.out.drew, (Turn.refl gt gb w).drew⟩ ?_
  repeat (first
    | go_big_quiet_skip
    | (refine wpQuiet_load rfl 3 _ rfl _ (.int .i64 (t.f : Int)) rfl (fun y hy => load8_n y _ (hy.1.1.cell 1 _ rfl)) ?_; simp only [Act.put, Array.setIfInBounds, List.size_toArray, List.length_cons, List.length_nil, Nat.reduceAdd, Nat.reduceLT, ↓reduceDIte, List.set_toArray, List.set_cons_succ, List.set_cons_zero])
    | (refine wpQuiet_load rfl 29 _ rfl _ (.slice a t.b.size cap) rfl (fun y hy => load8_sl y _ _ _ (hy.1.1.cell 0 _ rfl)) ?_; simp only [Act.put, Array.setIfInBounds, List.size_toArray, List.length_cons, List.length_nil, Nat.reduceAdd, Nat.reduceLT, ↓reduceDIte, List.set_toArray, List.set_cons_succ, List.set_cons_zero])
    | (refine wpQuiet_plain rfl (fun K hK => ?_); go_simp; (try simp only [ew]); refine hK _ ?_; clear hK K))
  refine wpQuiet_nil ?_
  intro x hx
  have HX := hide hx
  have c0 := hx.1.1.cell 0 (.slice a t.b.size cap) rfl
  have c1 := hx.1.1.cell 1 (.int .i64 (t.f : Int)) rfl
  have f0 := hx.1.1.free 0
  have f1 := hx.1.1.free 1
  clear hx
  go_wp2_with fail
  go_region
  go_wp2
  go_end0
  exact ⟨rfl, (HX.out.1.drew.first (t.f + n) HLM.out).setf _ _ (by omega), (HX.out.2.drew.set 0 _).set 1 _⟩

set_option maxRecDepth 4000 in
set_option maxHeartbeats 1600000 in
theorem crash8_none (gt gb cap : Nat) (a : Option Addr) (t : Tp) (r : Nat) (k : Int) (hr : t.b.size = t.f + r) (h1 : k ≤ 0) (w : World) (h : TpV w gt gb cap a t) (ok : t.ok) (hcap : t.b.size ≤ cap) :
    Calls Try.prog 19 #[.pointer (some ⟨gt, 0, none⟩), .int .i64 k] w fun e w' => e = .returned (.tuple #[]) ∧ TpV w' gt gb cap a ⟨t.b.extract 0 (t.f), t.f, t.m, t.s⟩ ∧ Turn gt gb w w' := by
  have H := hide h
  have hz := ok.few
  have hy := ok.room
  have hx := ok.fast
  have hlm : t.f ≤ t.b.size := by omega
  have HLM := hide hlm
  have ew : IntKind.i64.wrap ((t.b.size : Int) - (t.f : Int)) = (r : Int) := by rw [IntKind.wrap_i64]; omega
  have h2 : ¬ (0 : Int) < k := by omega
  have ek : (if k < 0 then (0 : Int) else k) = 0 := by
    by_cases g : k < 0
    · rw [if_pos g]
    · rw [if_neg g]
      omega
  have em : (if (r : Int) < 0 then (r : Int) else 0) = 0 := if_neg (by omega)
  have e1 : IntKind.i64.wrap (t.f : Int) = (t.f : Int) := by rw [IntKind.wrap_i64]; omega
  have e2 : (0 : Int) ≤ (t.f : Int) := by omega
  have e3 : (t.f : Int) ≤ (cap : Int) := by omega
  clear h ok
  have HR := hide hr
  clear hr
  go_enter Try.func19, Try.ntmps19
  go_wp2_with fail
  refine wp_region_in (fun x => TpV x gt gb cap a t ∧ Turn gt gb w x) (by kernel_rfl) (by kernel_rfl) ⟨H.out.drew, (Turn.refl gt gb w).drew⟩ ?_
  repeat (first
    | go_big_quiet_skip
    | (refine wpQuiet_load rfl 3 _ rfl _ (.int .i64 (t.f : Int)) rfl (fun y hy => load8_n y _ (hy.1.1.cell 1 _ rfl)) ?_; simp only [Act.put, Array.setIfInBounds, List.size_toArray, List.length_cons, List.length_nil, Nat.reduceAdd, Nat.reduceLT, ↓reduceDIte, List.set_toArray, List.set_cons_succ, List.set_cons_zero])
    | (refine wpQuiet_load rfl 29 _ rfl _ (.slice a t.b.size cap) rfl (fun y hy => load8_sl y _ _ _ (hy.1.1.cell 0 _ rfl)) ?_; simp only [Act.put, Array.setIfInBounds, List.size_toArray, List.length_cons, List.length_nil, Nat.reduceAdd, Nat.reduceLT, ↓reduceDIte, List.set_toArray, List.set_cons_succ, List.set_cons_zero])
    | (refine wpQuiet_plain rfl (fun K hK => ?_); go_simp; (try simp only [ew, ek, em]); refine hK _ ?_; clear hK K))
  refine wpQuiet_nil ?_
  intro x hx
  have HX := hide hx
  have c0 := hx.1.1.cell 0 (.slice a t.b.size cap) rfl
  have c1 := hx.1.1.cell 1 (.int .i64 (t.f : Int)) rfl
  have f0 := hx.1.1.free 0
  have f1 := hx.1.1.free 1
  clear hx
  go_wp2_with fail
  go_region
  go_wp2
  go_end0
  exact ⟨rfl, (HX.out.1.drew.first (t.f) HLM.out).setf _ _ (by omega), (HX.out.2.drew.set 0 _).set 1 _⟩

set_option maxRecDepth 4000 in
set_option maxHeartbeats 1600000 in
theorem crash8_same (gt gb cap : Nat) (a : Option Addr) (t : Tp) (k : Int) (hr : t.b.size = t.f) (h1 : (0 : Int) < k) (w : World) (h : TpV w gt gb cap a t) (ok : t.ok) (hcap : t.b.size ≤ cap) :
    Calls Try.prog 19 #[.pointer (some ⟨gt, 0, none⟩), .int .i64 k] w fun e w' => e = .returned (.tuple #[]) ∧ TpV w' gt gb cap a ⟨t.b.extract 0 (t.f), t.f, t.m, t.s⟩ ∧ Turn gt gb w w' := by
  have H := hide h
  have hz := ok.few
  have hy := ok.room
  have hx := ok.fast
  have hlm : t.f ≤ t.b.size := by omega
  have HLM := hide hlm
  have ew : IntKind.i64.wrap ((t.b.size : Int) - (t.f : Int)) = 0 := by rw [IntKind.wrap_i64]; omega
  have e1 : IntKind.i64.wrap (t.f : Int) = (t.f : Int) := by rw [IntKind.wrap_i64]; omega
  have e2 : (0 : Int) ≤ (t.f : Int) := by omega
  have e3 : (t.f : Int) ≤ (cap : Int) := by omega
  clear h ok
  have HR := hide hr
  clear hr
  go_enter Try.func19, Try.ntmps19
  go_wp2_with fail
  refine wp_region_in (fun x => TpV x gt gb cap a t ∧ Turn gt gb w x) (by kernel_rfl) (by kernel_rfl) ⟨H.out.drew, (Turn.refl gt gb w).drew⟩ ?_
  repeat (first
    | go_big_quiet_skip
    | (refine wpQuiet_load rfl 3 _ rfl _ (.int .i64 (t.f : Int)) rfl (fun y hy => load8_n y _ (hy.1.1.cell 1 _ rfl)) ?_; simp only [Act.put, Array.setIfInBounds, List.size_toArray, List.length_cons, List.length_nil, Nat.reduceAdd, Nat.reduceLT, ↓reduceDIte, List.set_toArray, List.set_cons_succ, List.set_cons_zero])
    | (refine wpQuiet_load rfl 29 _ rfl _ (.slice a t.b.size cap) rfl (fun y hy => load8_sl y _ _ _ (hy.1.1.cell 0 _ rfl)) ?_; simp only [Act.put, Array.setIfInBounds, List.size_toArray, List.length_cons, List.length_nil, Nat.reduceAdd, Nat.reduceLT, ↓reduceDIte, List.set_toArray, List.set_cons_succ, List.set_cons_zero])
    | (refine wpQuiet_plain rfl (fun K hK => ?_); go_simp; (try simp only [ew]); refine hK _ ?_; clear hK K))
  refine wpQuiet_nil ?_
  intro x hx
  have HX := hide hx
  have c0 := hx.1.1.cell 0 (.slice a t.b.size cap) rfl
  have c1 := hx.1.1.cell 1 (.int .i64 (t.f : Int)) rfl
  have f0 := hx.1.1.free 0
  have f1 := hx.1.1.free 1
  clear hx
  go_wp2_with fail
  go_region
  go_wp2
  go_end0
  exact ⟨rfl, (HX.out.1.drew.first (t.f) HLM.out).setf _ _ (by omega), (HX.out.2.drew.set 0 _).set 1 _⟩

theorem crash8_any (gt gb : Nat) (t : Tp) (k : Int) (w : World) (h : TpAt w gt gb t) (ok : t.ok) :
    Calls Try.prog 19 #[.pointer (some ⟨gt, 0, none⟩), .int .i64 k] w fun e w' => e = .returned (.tuple #[]) ∧ TpAt w' gt gb (t.crash k) ∧ Turn gt gb w w' := by
  obtain ⟨cap, a, h⟩ := h
  have hx := ok.fast
  have hcap : t.b.size ≤ cap := by
    rcases h.own with ⟨_, _, h2, _⟩ | ⟨_, _, _, h2, _⟩ <;> omega
  obtain ⟨r, hr⟩ : ∃ r, t.b.size = t.f + r := ⟨t.b.size - t.f, by omega⟩
  unfold Tp.crash
  by_cases h0 : k ≤ 0
  · have e : t.left k = t.f := by unfold Tp.left; omega
    rw [e]
    exact (crash8_none gt gb cap a t r k hr h0 w h ok hcap).mono fun e w' he => ⟨he.1, ⟨cap, a, he.2.1⟩, he.2.2⟩
  by_cases h1 : (r : Int) < k
  · by_cases h2 : 0 < r
    · have e : t.left k = t.f + r := by unfold Tp.left; omega
      rw [e]
      exact (crash8_all gt gb cap a t r k hr h1 h2 w h ok hcap).mono fun e w' he => ⟨he.1, ⟨cap, a, he.2.1⟩, he.2.2⟩
    · have e : t.left k = t.f := by unfold Tp.left; omega
      rw [e]
      exact (crash8_same gt gb cap a t k (by omega) (by omega) w h ok hcap).mono fun e w' he => ⟨he.1, ⟨cap, a, he.2.1⟩, he.2.2⟩
  · obtain ⟨n, rfl⟩ := Int.eq_ofNat_of_zero_le (show 0 ≤ k by omega)
    have e : t.left (n : Int) = t.f + n := by unfold Tp.left; omega
    rw [e]
    exact (crash8_some gt gb cap a t r n _ rfl hr (by omega) (by omega) w h ok hcap).mono fun e w' he => ⟨he.1, ⟨cap, a, he.2.1⟩, he.2.2⟩
end Go.Proofs.Ytkmlgfmpcglfeaa

/-
  A tape of the code's that a walk keeps, call by call: all that was there when the walk began stays.
-/
namespace Go.Proofs.Ytkmlgfmpcglfeaa
open Go.RowKit
set_option linter.unusedVariables false

structure K8 (w0 w : World) (gt : Nat) (t : Tp) : Prop where
  low : w0.heap.size ≤ gt
  ok : t.ok
  tp : ∃ gb, w0.heap.size ≤ gb ∧ TpAt w gt gb t
  bel : Below w0.heap.size w0 w
theorem K8.later {w0 w x : World} {gt : Nat} {t : Tp} (h : K8 w0 w gt t) (p : Below w.heap.size w x) : K8 w0 x gt t := by
  obtain ⟨gb, hb, h1⟩ := h.tp
  exact ⟨h.low, h.ok, ⟨gb, hb, h1.later p⟩, h.bel.trans (p.mono h.bel.size)⟩
theorem K8.alloc {w0 w : World} {gt : Nat} {t : Tp} (h : K8 w0 w gt t) (o : Obj) : K8 w0 (w.alloc o) gt t := h.later ((Below.refl _ _).alloc (Nat.le_refl _) _)
theorem K8.drew {w0 w : World} {gt : Nat} {t : Tp} (h : K8 w0 w gt t) : K8 w0 w.drew gt t := h.later ⟨rfl, rfl, rfl, Nat.le_refl _, fun _ _ => rfl⟩
theorem K8.turn {w0 w x : World} {gt gb gb' : Nat} {t u : Tp} (h : K8 w0 w gt t) (hb : w0.heap.size ≤ gb) (hu : u.ok) (h1 : TpAt x gt gb' u) (p : Turn gt gb w x) (h2 : gb' = gb ∨ w.heap.size ≤ gb') : K8 w0 x gt u :=
  ⟨h.low, hu, ⟨gb', by have := h.bel.size; omega, h1⟩, h.bel.trans (p.below h.low hb h.bel.size)⟩
theorem knew8 (r : Int) (w0 w : World) (h : Below w0.heap.size w0 w) :
    Calls Try.prog 11 #[.int .i64 r] w fun e w' => e = .returned (.pointer (some ⟨w.heap.size, 0, none⟩)) ∧ K8 w0 w' w.heap.size (Tp.new r) ∧ Below w.heap.size w w' :=
  (new8_any r w).mono fun e w' he => ⟨he.1, ⟨h.size, Tp.new_ok r, ⟨w.heap.size, h.size, he.2.1⟩, h.trans (he.2.2.mono h.size)⟩, he.2.2⟩
theorem kapp8 (w0 w : World) (gt : Nat) (t : Tp) (h : K8 w0 w gt t) (ad : Option Addr) (n c : Nat) (bs : List UInt8) (hB : IsB w ad n bs) (hnil : ad = none → c = 0) (hs : n ≤ 70000) :
    Calls Try.prog 16 #[.pointer (some ⟨gt, 0, none⟩), .slice ad n c] w fun e w' => e = .returned (.int .i64 (t.app ⟨bs.toArray⟩).2) ∧ K8 w0 w' gt (t.app ⟨bs.toArray⟩).1 := by
  obtain ⟨gb, hb, h1⟩ := h.tp
  refine (app8_any gt gb t ad n c bs w h1 h.ok hB hnil hs).mono ?_
  rintro e w' ⟨rfl, gb', q1, q2, q3⟩
  exact ⟨rfl, h.turn hb (t.app_ok h.ok _) q1 q2 q3⟩
theorem ksync8 (w0 w : World) (gt : Nat) (t : Tp) (h : K8 w0 w gt t) :
    Calls Try.prog 17 #[.pointer (some ⟨gt, 0, none⟩)] w fun e w' => e = .returned (.int .i64 0) ∧ K8 w0 w' gt t.sync := by
  obtain ⟨gb, hb, h1⟩ := h.tp
  exact (sync8_any gt gb t w h1).mono fun e w' he => ⟨he.1, h.turn hb (t.sync_ok h.ok) he.2.1 he.2.2 (.inl rfl)⟩
theorem kcut8 (w0 w : World) (gt : Nat) (t : Tp) (h : K8 w0 w gt t) (n : Int) :
    Calls Try.prog 20 #[.pointer (some ⟨gt, 0, none⟩), .int .i64 n] w fun e w' => e = .returned (.int .i64 (t.cut n).2) ∧ K8 w0 w' gt (t.cut n).1 := by
  obtain ⟨gb, hb, h1⟩ := h.tp
  exact (cut8_any gt gb t n w h1 h.ok).mono fun e w' he => ⟨he.1, h.turn hb (t.cut_ok h.ok n) he.2.1 he.2.2 (.inl rfl)⟩
theorem kchop8 (w0 w : World) (gt : Nat) (t : Tp) (h : K8 w0 w gt t) (n : Int) :
    Calls Try.prog 21 #[.pointer (some ⟨gt, 0, none⟩), .int .i64 n] w fun e w' => e = .returned (.int .i64 (t.chop n).2) ∧ K8 w0 w' gt (t.chop n).1 := by
  obtain ⟨gb, hb, h1⟩ := h.tp
  exact (chop8_any gt gb t n w h1 h.ok).mono fun e w' he => ⟨he.1, h.turn hb (t.chop_ok h.ok n) he.2.1 he.2.2 (.inl rfl)⟩
theorem kcrash8 (w0 w : World) (gt : Nat) (t : Tp) (h : K8 w0 w gt t) (n : Int) :
    Calls Try.prog 19 #[.pointer (some ⟨gt, 0, none⟩), .int .i64 n] w fun e w' => e = .returned (.tuple #[]) ∧ K8 w0 w' gt (t.crash n) := by
  obtain ⟨gb, hb, h1⟩ := h.tp
  exact (crash8_any gt gb t n w h1 h.ok).mono fun e w' he => ⟨he.1, h.turn hb (t.crash_ok h.ok n) he.2.1 he.2.2 (.inl rfl)⟩
theorem klen8 (w0 w : World) (gt : Nat) (t : Tp) (h : K8 w0 w gt t) :
    Calls Try.prog 15 #[.pointer (some ⟨gt, 0, none⟩)] w fun e w' => e = .returned (.int .i64 (t.b.size : Int)) ∧ w = w' := by
  obtain ⟨gb, hb, h1⟩ := h.tp
  exact len8_any gt gb t w h1
theorem ksynced8 (w0 w : World) (gt : Nat) (t : Tp) (h : K8 w0 w gt t) :
    Calls Try.prog 18 #[.pointer (some ⟨gt, 0, none⟩)] w fun e w' => e = .returned (.int .i64 (t.f : Int)) ∧ w = w' := by
  obtain ⟨gb, hb, h1⟩ := h.tp
  exact synced8_any gt gb t w h1
theorem kroom8 (w0 w : World) (gt : Nat) (t : Tp) (h : K8 w0 w gt t) :
    Calls Try.prog 23 #[.pointer (some ⟨gt, 0, none⟩)] w fun e w' => e = .returned (.int .i64 (t.m : Int)) ∧ w = w' := by
  obtain ⟨gb, hb, h1⟩ := h.tp
  exact room8_any gt gb t w h1
theorem kbytes8 (w0 w : World) (gt : Nat) (t : Tp) (h : K8 w0 w gt t) :
    Calls Try.prog 14 #[.pointer (some ⟨gt, 0, none⟩)] w fun e w' => ∃ v, e = .returned v ∧ w'.ownsRow w.heap.size 5 1 v t.b.size (toV t.b.data.toList) ∧ K8 w0 w' gt t ∧ Below w.heap.size w w' := by
  obtain ⟨gb, hb, h1⟩ := h.tp
  exact (bytes8_any gt gb t w h1 h.ok).mono fun e w' ⟨v, h2, h3, h4⟩ => ⟨v, h2, h3, h.later h4, h4⟩
end Go.Proofs.Ytkmlgfmpcglfeaa

/-
  The contract of quaysidelaw08.awake.
-/
namespace Go.Proofs.Ytkmlgfmpcglfeaa
open Go.RowKit
set_option linter.unusedVariables false

def aw8b : Tp := ⟨⟨#[97, 98, 99]⟩, 0, 5, 0⟩
theorem aw8a_app : (Tp.new 5).app ⟨[97, 98, 99].toArray⟩ = (aw8b, 0) := rfl
theorem aw8b_app : aw8b.app ⟨[100, 101, 102].toArray⟩ = (aw8b, 7) := rfl

set_option maxRecDepth 4000 in
set_option maxHeartbeats 800000 in
theorem awake8_any (w : World) : Calls Try.prog 9 #[] w fun e w' => e = .returned (.bool true) ∧ Below w.heap.size w w' := by
  have kc := fun (w : World) (C : Array Value) (n c : Nat) => Lib.run_convert_bytes_const (P := Try.prog) w 29 5 C n c Try.underlying29 Try.underlying5
  go_enter Try.func9, Try.ntmps9
  go_wp2_with fail
  refine (knew8 5 w w (Below.refl _ _)).mono ?_
  rintro e w1 ⟨rfl, h1, -⟩
  have H1 := hide h1
  clear h1
  go_wp2_with fail
  have T := kapp8 w _ _ _ (H1.out.alloc (.cells #[.int .u8 97, .int .u8 98, .int .u8 99] 5 (3, 4))) (some ⟨w1.heap.size, 0, none⟩) 3 3 [97, 98, 99] (isB_lit w1 #[.int .u8 97, .int .u8 98, .int .u8 99] 5 (3, 4) _ 3 rfl rfl) (fun h => nomatch h) (by omega)
  rw [aw8a_app] at T
  refine T.mono ?_
  rintro e w2 ⟨rfl, h2⟩
  have H2 := hide h2
  clear h2 T H1
  go_wp2_with fail
  have T := kapp8 w _ _ _ (H2.out.alloc (.cells #[.int .u8 100, .int .u8 101, .int .u8 102] 5 (3, 4))) (some ⟨w2.heap.size, 0, none⟩) 3 3 [100, 101, 102] (isB_lit w2 #[.int .u8 100, .int .u8 101, .int .u8 102] 5 (3, 4) _ 3 rfl rfl) (fun h => nomatch h) (by omega)
  rw [aw8b_app] at T
  refine T.mono ?_
  rintro e w3 ⟨rfl, h3⟩
  have H3 := hide h3
  clear h3 T H2
  go_wp2_with fail
  refine (kbytes8 w _ _ _ H3.out).mono ?_
  rintro e w4 ⟨v, rfl, ho, h4, -⟩
  have H4 := hide h4
  obtain ⟨a4, c4, rfl, -, hB4⟩ := shape_isB ho
  have ht := run_toString (P := Try.prog) w4 29 9 5 Try.underlying29 Try.underlying5 Try.underlying9 a4 _ c4 _ hB4
  obtain ⟨s, hs, hd⟩ : ∃ s : ByteArray, s = ⟨aw8b.b.data.toList.toArray⟩ ∧ (s.toList == [97, 98, 99]) = true := ⟨_, rfl, by decide +kernel⟩
  rw [← hs] at ht
  clear h4 H3 ho hB4 hs
  go_wp2_with fail
  refine (kroom8 w _ _ _ H4.out).mono ?_
  rintro e w5 ⟨rfl, rfl⟩
  have hm : aw8b.m = 5 := rfl
  rw [hm]
  go_wp2
  go_ret
  exact ⟨rfl, H4.out.bel⟩
end Go.Proofs.Ytkmlgfmpcglfeaa

/-
  The contracts of quaysideref08's functions: the document's tape.
-/
namespace Go.Proofs.Ytkmlgfmpcglfeaa
open Go.RowKit
set_option linter.unusedVariables false

/-- The document's tape in its block. -/
def RtAt (w : World) (g : Nat) (t : Tp) : Prop := RowAt w g 38 #[.string t.b, .int .i64 (t.f : Int), .int .i64 (t.m : Int), .int .u64 (t.s : Int)]

theorem RtAt.drew {w : World} {g : Nat} {t : Tp} (h : RtAt w g t) : RtAt w.drew g t := h
theorem rt_two {w : World} {g : Nat} {t : Tp} (h : RtAt w g t) (b : ByteArray) (f : Int) (n : Nat) (hf : f = (n : Int)) : RtAt ((w.setCell ⟨g, 0, none⟩ (.string b)).setCell ⟨g, 1, none⟩ (.int .i64 f)) g ⟨b, n, t.m, t.s⟩ := by
  subst hf
  exact (RowAt.set h 0 _).set 1 _
theorem rt_three {w : World} {g : Nat} {t : Tp} (h : RtAt w g t) (b : ByteArray) (f s : Int) (n k : Nat) (hf : f = (n : Int)) (hs : s = (k : Int)) :
    RtAt (((w.setCell ⟨g, 0, none⟩ (.string b)).setCell ⟨g, 1, none⟩ (.int .i64 f)).setCell ⟨g, 3, none⟩ (.int .u64 s)) g ⟨b, n, t.m, k⟩ := by
  subst hf hs
  exact ((RowAt.set h 0 _).set 1 _).set 3 _
theorem rt_new (r x : Int) (w : World) (hx : x = max 0 (min r 65536)) : RtAt (w.alloc (.cells #[.string ⟨#[]⟩, .int .i64 0, .int .i64 x, .int .u64 0] 38)) w.heap.size (Tp.new r) := by
  have hm : x = ((Tp.new r).m : Int) := by
    rw [hx]
    unfold Tp.new
    simp only
    omega
  rw [hm]
  exact RowAt.new w 38 _

set_option maxRecDepth 4000 in
set_option maxHeartbeats 400000 in
theorem rnew8_any (r : Int) (w : World) :
    Calls Try.prog 12 #[.int .i64 r] w fun e w' => e = .returned (.pointer (some ⟨w.heap.size, 0, none⟩)) ∧ RtAt w' w.heap.size (Tp.new r) ∧ Below w.heap.size w w' := by
  go_enter Try.func12, Try.ntmps12
  go_wp2
  all_goals
    go_ret
    exact ⟨rfl, rt_new r _ w (by omega), (Below.refl w.heap.size w).alloc (Nat.le_refl _) _⟩

set_option maxRecDepth 4000 in
set_option maxHeartbeats 400000 in
theorem rsync8_any (g : Nat) (t : Tp) (w : World) (h : RtAt w g t) (ok : t.ok) :
    Calls Try.prog 25 #[.pointer (some ⟨g, 0, none⟩)] w fun e w' => e = .returned (.tuple #[]) ∧ RtAt w' g t.sync ∧ But g w w' := by
  have H := hide h
  have c0 := h.cell 0 _ rfl
  have f1 := h.free 1
  have c1 := h.cell 1 _ rfl
  have hz := ok.few
  have hy := ok.room
  clear h ok
  go_enter Try.func25, Try.ntmps25
  go_wp2
  go_end0
  exact ⟨rfl, H.out.set 1 _, (But.refl g w).set 1 _⟩

set_option maxRecDepth 4000 in
set_option maxHeartbeats 400000 in
theorem rcut8_no (g : Nat) (t : Tp) (n : Int) (w : World) (h : RtAt w g t) (hn : n < 0 ∨ (t.f : Int) < n) :
    Calls Try.prog 26 #[.pointer (some ⟨g, 0, none⟩), .int .i64 n] w fun e w' => e = .returned (.int .i64 1) ∧ RtAt w' g t ∧ But g w w' := by
  have H := hide h
  have c1 := h.cell 1 _ rfl
  clear h
  by_cases h1 : n < 0
  · clear hn
    go_enter Try.func26, Try.ntmps26
    go_wp2
    go_ret
    exact ⟨rfl, H.out, But.refl g w⟩
  · have h2 : (t.f : Int) < n := by omega
    clear hn
    go_enter Try.func26, Try.ntmps26
    go_wp2
    go_ret
    exact ⟨rfl, H.out, But.refl g w⟩

set_option maxRecDepth 4000 in
set_option maxHeartbeats 800000 in
theorem rcut8_yes (g : Nat) (t : Tp) (n : Nat) (w : World) (h : RtAt w g t) (ok : t.ok) (hn : n ≤ t.f) :
    Calls Try.prog 26 #[.pointer (some ⟨g, 0, none⟩), .int .i64 (n : Int)] w fun e w' => e = .returned (.int .i64 0) ∧ RtAt w' g ⟨t.b.extract n t.b.size, t.f - n, t.m, (t.s + n) % 18446744073709551616⟩ ∧ But g w w' := by
  have H := hide h
  have c0 := h.cell 0 _ rfl
  have c1 := h.cell 1 _ rfl
  have c3 := h.cell 3 _ rfl
  have f0 := h.free 0
  have f1 := h.free 1
  have f3 := h.free 3
  have hz := ok.few
  have hy := ok.room
  have hx := ok.fast
  have hs := ok.went
  have h1 : ¬ (n : Int) < 0 := by omega
  have h2 : ¬ (t.f : Int) < (n : Int) := by omega
  clear h ok
  go_enter Try.func26, Try.ntmps26
  go_wp2
  go_ret
  exact ⟨rfl, rt_three H.out _ _ _ _ _ (by omega) (by rw [IntKind.wrap_u64]; omega), (((But.refl g w).set 0 _).set 1 _).set 3 _⟩

set_option maxRecDepth 4000 in
set_option maxHeartbeats 800000 in
theorem rchop8_no (g : Nat) (t : Tp) (n : Int) (w : World) (h : RtAt w g t) (hn : n < 0 ∨ (t.b.size : Int) < n) :
    Calls Try.prog 27 #[.pointer (some ⟨g, 0, none⟩), .int .i64 n] w fun e w' => e = .returned (.int .i64 1) ∧ RtAt w' g t ∧ But g w w' := by
  have H := hide h
  have c0 := h.cell 0 _ rfl
  clear h
  by_cases h1 : n < 0
  · clear hn
    go_enter Try.func27, Try.ntmps27
    go_wp2
    go_ret
    exact ⟨rfl, H.out, But.refl g w⟩
  · have h2 : (t.b.size : Int) < n := by omega
    clear hn
    go_enter Try.func27, Try.ntmps27
    go_wp2
    go_ret
    exact ⟨rfl, H.out, But.refl g w⟩

set_option maxRecDepth 4000 in
set_option maxHeartbeats 800000 in
theorem rchop8_yes (g : Nat) (t : Tp) (n : Nat) (w : World) (h : RtAt w g t) (ok : t.ok) (hn : n ≤ t.b.size) :
    Calls Try.prog 27 #[.pointer (some ⟨g, 0, none⟩), .int .i64 (n : Int)] w fun e w' => e = .returned (.int .i64 0) ∧ RtAt w' g ⟨t.b.extract 0 n, min t.f n, t.m, t.s⟩ ∧ But g w w' := by
  have H := hide h
  have c0 := h.cell 0 _ rfl
  have c1 := h.cell 1 _ rfl
  have f0 := h.free 0
  have f1 := h.free 1
  have hz := ok.few
  have hy := ok.room
  have hx := ok.fast
  have h1 : ¬ (n : Int) < 0 := by omega
  have h2 : ¬ (t.b.size : Int) < (n : Int) := by omega
  clear h ok
  go_enter Try.func27, Try.ntmps27
  go_wp2
  all_goals
    go_ret
    exact ⟨rfl, rt_two H.out _ _ _ (by omega), ((But.refl g w).set 0 _).set 1 _⟩

theorem load8_s {b j : Nat} (x : World) (v : ByteArray) (h : x.cell? ⟨b, j, none⟩ = some (.string v)) : (Instr.loadAt 9 (.pointer (some ⟨b, j, none⟩))).run Try.prog x = .ok (.string v) x := by
  go_simp
theorem load8_i {b j : Nat} (x : World) (v : Int) (h : x.cell? ⟨b, j, none⟩ = some (.int .i64 v)) : (Instr.loadAt 3 (.pointer (some ⟨b, j, none⟩))).run Try.prog x = .ok (.int .i64 v) x := by
  go_simp

set_option maxRecDepth 4000 in
set_option maxHeartbeats 800000 in
theorem rapp8_no (g : Nat) (t : Tp) (s : ByteArray) (w : World) (h : RtAt w g t) (ok : t.ok) (hn : t.m < t.b.size + s.size) (hs : s.size ≤ 70000) :
    Calls Try.prog 24 #[.pointer (some ⟨g, 0, none⟩), .string s] w fun e w' => e = .returned (.int .i64 7) ∧ RtAt w' g t ∧ But g w w' := by
  have H := hide h
  have hz := ok.few
  have hy := ok.room
  have h1 : (t.m : Int) - (t.b.size : Int) < (s.size : Int) := by omega
  have ew : IntKind.i64.wrap ((t.m : Int) - (t.b.size : Int)) = (t.m : Int) - (t.b.size : Int) := by rw [IntKind.wrap_i64]; omega
  clear h ok
  go_enter Try.func24, Try.ntmps24
  go_wp2_with fail
  refine wp_region_in (fun x => RtAt x g t ∧ But g w x) (by kernel_rfl) (by kernel_rfl) ⟨H.out.drew, (But.refl g w).drew⟩ ?_
  repeat (first
    | go_big_quiet_skip
    | (refine wpQuiet_load rfl 3 (.tmp 9) rfl _ (.int .i64 (t.m : Int)) rfl (fun y hy => load8_i y _ (hy.1.cell 2 _ rfl)) ?_; simp only [Act.put, Array.setIfInBounds, List.size_toArray, List.length_cons, List.length_nil, Nat.reduceAdd, Nat.reduceLT, ↓reduceDIte, List.set_toArray, List.set_cons_succ, List.set_cons_zero])
    | (refine wpQuiet_load rfl 9 (.tmp 13) rfl _ (.string t.b) rfl (fun y hy => load8_s y _ (hy.1.cell 0 _ rfl)) ?_; simp only [Act.put, Array.setIfInBounds, List.size_toArray, List.length_cons, List.length_nil, Nat.reduceAdd, Nat.reduceLT, ↓reduceDIte, List.set_toArray, List.set_cons_succ, List.set_cons_zero])
    | (refine wpQuiet_plain rfl (fun K hK => ?_); go_simp; (try simp only [ew]); refine hK _ ?_; clear hK K))
  refine wpQuiet_nil ?_
  intro x hx
  have HX := hide hx
  clear hx
  go_wp2
  go_ret
  exact ⟨rfl, HX.out⟩
set_option maxRecDepth 4000 in
set_option maxHeartbeats 800000 in
theorem rapp8_yes (g : Nat) (t : Tp) (s : ByteArray) (w : World) (h : RtAt w g t) (ok : t.ok) (hn : ¬ t.m < t.b.size + s.size) :
    Calls Try.prog 24 #[.pointer (some ⟨g, 0, none⟩), .string s] w fun e w' => e = .returned (.int .i64 0) ∧ RtAt w' g { t with b := t.b ++ s } ∧ But g w w' := by
  have H := hide h
  have hz := ok.few
  have hy := ok.room
  have h1 : ¬ (t.m : Int) - (t.b.size : Int) < (s.size : Int) := by omega
  have ew : IntKind.i64.wrap ((t.m : Int) - (t.b.size : Int)) = (t.m : Int) - (t.b.size : Int) := by rw [IntKind.wrap_i64]; omega
  clear h ok
  go_enter Try.func24, Try.ntmps24
  go_wp2_with fail
  refine wp_region_in (fun x => RtAt x g t ∧ But g w x) (by kernel_rfl) (by kernel_rfl) ⟨H.out.drew, (But.refl g w).drew⟩ ?_
  repeat (first
    | go_big_quiet_skip
    | (refine wpQuiet_load rfl 3 (.tmp 9) rfl _ (.int .i64 (t.m : Int)) rfl (fun y hy => load8_i y _ (hy.1.cell 2 _ rfl)) ?_; simp only [Act.put, Array.setIfInBounds, List.size_toArray, List.length_cons, List.length_nil, Nat.reduceAdd, Nat.reduceLT, ↓reduceDIte, List.set_toArray, List.set_cons_succ, List.set_cons_zero])
    | (refine wpQuiet_load rfl 9 (.tmp 13) rfl _ (.string t.b) rfl (fun y hy => load8_s y _ (hy.1.cell 0 _ rfl)) ?_; simp only [Act.put, Array.setIfInBounds, List.size_toArray, List.length_cons, List.length_nil, Nat.reduceAdd, Nat.reduceLT, ↓reduceDIte, List.set_toArray, List.set_cons_succ, List.set_cons_zero])
    | (refine wpQuiet_plain rfl (fun K hK => ?_); go_simp; (try simp only [ew]); refine hK _ ?_; clear hK K))
  refine wpQuiet_nil ?_
  intro x hx
  have HX := hide hx
  have c0 := hx.1.cell 0 (.string t.b) rfl
  have f0 := hx.1.free 0
  clear hx
  go_wp2
  go_ret
  exact ⟨rfl, RowAt.set HX.out.1 0 _, HX.out.2.set 0 _⟩

set_option maxRecDepth 4000 in
set_option maxHeartbeats 1600000 in
theorem rcrash8_all (g : Nat) (t : Tp) (r : Nat) (k : Int) (w : World) (h : RtAt w g t) (ok : t.ok) (hr : t.b.size = t.f + r) (h1 : (r : Int) < k) (h0 : 0 < r) :
    Calls Try.prog 28 #[.pointer (some ⟨g, 0, none⟩), .int .i64 k] w fun e w' => e = .returned (.tuple #[]) ∧ RtAt w' g ⟨t.b.extract 0 (t.f + r), t.f + r, t.m, t.s⟩ ∧ But g w w' := by
  have H := hide h
  have hz := ok.few
  have hy := ok.room
  have hx := ok.fast
  have hlm : t.f + r ≤ t.b.size := by omega
  have ew : IntKind.i64.wrap ((t.b.size : Int) - (t.f : Int)) = (r : Int) := by rw [IntKind.wrap_i64]; omega
  have h2 : (0 : Int) < (r : Int) := by omega
  have e1 : IntKind.i64.wrap ((t.f : Int) + (r : Int)) = (t.f : Int) + (r : Int) := by rw [IntKind.wrap_i64]; omega
  have e2 : (0 : Int) ≤ (t.f : Int) + (r : Int) := by omega
  have e3 : (t.f : Int) + (r : Int) ≤ (t.b.size : Int) := by omega
  clear h ok
  have HR := hide hr
  clear hr
  go_enter Try.func28, Try.ntmps28
  go_wp2_with fail
  refine wp_region_in (fun x => RtAt x g t ∧ But g w x) (by kernel_rfl) (by kernel_rfl) ⟨H.out.drew, (But.refl g w).drew⟩ ?_
  repeat (first
    | go_big_quiet_skip
    | (refine wpQuiet_load rfl 3 (.tmp 12) rfl _ (.int .i64 (t.f : Int)) rfl (fun y hy => load8_i y _ (hy.1.cell 1 _ rfl)) ?_; simp only [Act.put, Array.setIfInBounds, List.size_toArray, List.length_cons, List.length_nil, Nat.reduceAdd, Nat.reduceLT, ↓reduceDIte, List.set_toArray, List.set_cons_succ, List.set_cons_zero])
    | (refine wpQuiet_load rfl 9 (.tmp 7) rfl _ (.string t.b) rfl (fun y hy => load8_s y _ (hy.1.cell 0 _ rfl)) ?_; simp only [Act.put, Array.setIfInBounds, List.size_toArray, List.length_cons, List.length_nil, Nat.reduceAdd, Nat.reduceLT, ↓reduceDIte, List.set_toArray, List.set_cons_succ, List.set_cons_zero])
    | (refine wpQuiet_plain rfl (fun K hK => ?_); go_simp; (try simp only [ew]); refine hK _ ?_; clear hK K))
  refine wpQuiet_nil ?_
  intro x hx
  have HX := hide hx
  have c0 := hx.1.cell 0 (.string t.b) rfl
  have c1 := hx.1.cell 1 (.int .i64 (t.f : Int)) rfl
  have f0 := hx.1.free 0
  have f1 := hx.1.free 1
  clear hx
  go_wp2_with fail
  go_region
  go_wp2
  go_end0
  exact ⟨rfl, rt_two HX.out.1.drew _ _ _ (by omega), (HX.out.2.drew.set 0 _).set 1 _⟩

set_option maxRecDepth 4000 in
set_option maxHeartbeats 1600000 in
theorem rcrash8_some (g : Nat) (t : Tp) (r n : Nat) (w : World) (h : RtAt w g t) (ok : t.ok) (hr : t.b.size = t.f + r) (hn : n ≤ r) (h0 : 0 < n) :
    Calls Try.prog 28 #[.pointer (some ⟨g, 0, none⟩), .int .i64 (n : Int)] w fun e w' => e = .returned (.tuple #[]) ∧ RtAt w' g ⟨t.b.extract 0 (t.f + n), t.f + n, t.m, t.s⟩ ∧ But g w w' := by
  have H := hide h
  have hz := ok.few
  have hy := ok.room
  have hx := ok.fast
  have hlm : t.f + n ≤ t.b.size := by omega
  have ew : IntKind.i64.wrap ((t.b.size : Int) - (t.f : Int)) = (r : Int) := by rw [IntKind.wrap_i64]; omega
  have h1 : ¬ (r : Int) < (n : Int) := by omega
  have h2 : (0 : Int) < (n : Int) := by omega
  have e1 : IntKind.i64.wrap ((t.f : Int) + (n : Int)) = (t.f : Int) + (n : Int) := by rw [IntKind.wrap_i64]; omega
  have e2 : (0 : Int) ≤ (t.f : Int) + (n : Int) := by omega
  have e3 : (t.f : Int) + (n : Int) ≤ (t.b.size : Int) := by omega
  clear h ok
  have HR := hide hr
  clear hr
  go_enter Try.func28, Try.ntmps28
  go_wp2_with fail
  refine wp_region_in (fun x => RtAt x g t ∧ But g w x) (by kernel_rfl) (by kernel_rfl) ⟨H.out.drew, (But.refl g w).drew⟩ ?_
  repeat (first
    | go_big_quiet_skip
    | (refine wpQuiet_load rfl 3 (.tmp 12) rfl _ (.int .i64 (t.f : Int)) rfl (fun y hy => load8_i y _ (hy.1.cell 1 _ rfl)) ?_; simp only [Act.put, Array.setIfInBounds, List.size_toArray, List.length_cons, List.length_nil, Nat.reduceAdd, Nat.reduceLT, ↓reduceDIte, List.set_toArray, List.set_cons_succ, List.set_cons_zero])
    | (refine wpQuiet_load rfl 9 (.tmp 7) rfl _ (.string t.b) rfl (fun y hy => load8_s y _ (hy.1.cell 0 _ rfl)) ?_; simp only [Act.put, Array.setIfInBounds, List.size_toArray, List.length_cons, List.length_nil, Nat.reduceAdd, Nat.reduceLT, ↓reduceDIte, List.set_toArray, List.set_cons_succ, List.set_cons_zero])
    | (refine wpQuiet_plain rfl (fun K hK => ?_); go_simp; (try simp only [ew]); refine hK _ ?_; clear hK K))
  refine wpQuiet_nil ?_
  intro x hx
  have HX := hide hx
  have c0 := hx.1.cell 0 (.string t.b) rfl
  have c1 := hx.1.cell 1 (.int .i64 (t.f : Int)) rfl
  have f0 := hx.1.free 0
  have f1 := hx.1.free 1
  clear hx
  go_wp2_with fail
  go_region
  go_wp2
  go_end0
  exact ⟨rfl, rt_two HX.out.1.drew _ _ _ (by omega), (HX.out.2.drew.set 0 _).set 1 _⟩

set_option maxRecDepth 4000 in
set_option maxHeartbeats 1600000 in
theorem rcrash8_none (g : Nat) (t : Tp) (r : Nat) (k : Int) (w : World) (h : RtAt w g t) (ok : t.ok) (hr : t.b.size = t.f + r) (hk : k ≤ 0) :
    Calls Try.prog 28 #[.pointer (some ⟨g, 0, none⟩), .int .i64 k] w fun e w' => e = .returned (.tuple #[]) ∧ RtAt w' g ⟨t.b.extract 0 (t.f), t.f, t.m, t.s⟩ ∧ But g w w' := by
  have H := hide h
  have hz := ok.few
  have hy := ok.room
  have hx := ok.fast
  have hlm : t.f ≤ t.b.size := by omega
  have ew : IntKind.i64.wrap ((t.b.size : Int) - (t.f : Int)) = (r : Int) := by rw [IntKind.wrap_i64]; omega
  have h1 : ¬ (r : Int) < k := by omega
  have h2 : ¬ (0 : Int) < k := by omega
  have e1 : IntKind.i64.wrap (t.f : Int) = (t.f : Int) := by rw [IntKind.wrap_i64]; omega
  have e2 : (0 : Int) ≤ (t.f : Int) := by omega
  have e3 : (t.f : Int) ≤ (t.b.size : Int) := by omega
  clear h ok
  have HR := hide hr
  clear hr
  go_enter Try.func28, Try.ntmps28
  go_wp2_with fail
  refine wp_region_in (fun x => RtAt x g t ∧ But g w x) (by kernel_rfl) (by kernel_rfl) ⟨H.out.drew, (But.refl g w).drew⟩ ?_
  repeat (first
    | go_big_quiet_skip
    | (refine wpQuiet_load rfl 3 (.tmp 12) rfl _ (.int .i64 (t.f : Int)) rfl (fun y hy => load8_i y _ (hy.1.cell 1 _ rfl)) ?_; simp only [Act.put, Array.setIfInBounds, List.size_toArray, List.length_cons, List.length_nil, Nat.reduceAdd, Nat.reduceLT, ↓reduceDIte, List.set_toArray, List.set_cons_succ, List.set_cons_zero])
    | (refine wpQuiet_load rfl 9 (.tmp 7) rfl _ (.string t.b) rfl (fun y hy => load8_s y _ (hy.1.cell 0 _ rfl)) ?_; simp only [Act.put, Array.setIfInBounds, List.size_toArray, List.length_cons, List.length_nil, Nat.reduceAdd, Nat.reduceLT, ↓reduceDIte, List.set_toArray, List.set_cons_succ, List.set_cons_zero])
    | (refine wpQuiet_plain rfl (fun K hK => ?_); go_simp; (try simp only [ew]); refine hK _ ?_; clear hK K))
  refine wpQuiet_nil ?_
  intro x hx
  have HX := hide hx
  have c0 := hx.1.cell 0 (.string t.b) rfl
  have c1 := hx.1.cell 1 (.int .i64 (t.f : Int)) rfl
  have f0 := hx.1.free 0
  have f1 := hx.1.free 1
  clear hx
  go_wp2_with fail
  go_region
  go_wp2
  go_end0
  exact ⟨rfl, rt_two HX.out.1.drew _ _ _ (by omega), (HX.out.2.drew.set 0 _).set 1 _⟩

set_option maxRecDepth 4000 in
set_option maxHeartbeats 1600000 in
theorem rcrash8_same (g : Nat) (t : Tp) (k : Int) (w : World) (h : RtAt w g t) (ok : t.ok) (hr : t.b.size = t.f) (h1 : (0 : Int) < k) :
    Calls Try.prog 28 #[.pointer (some ⟨g, 0, none⟩), .int .i64 k] w fun e w' => e = .returned (.tuple #[]) ∧ RtAt w' g ⟨t.b.extract 0 (t.f), t.f, t.m, t.s⟩ ∧ But g w w' := by
  have H := hide h
  have hz := ok.few
  have hy := ok.room
  have hx := ok.fast
  have hlm : t.f ≤ t.b.size := by omega
  have ew : IntKind.i64.wrap ((t.b.size : Int) - (t.f : Int)) = 0 := by rw [IntKind.wrap_i64]; omega
  have e1 : IntKind.i64.wrap (t.f : Int) = (t.f : Int) := by rw [IntKind.wrap_i64]; omega
  have e2 : (0 : Int) ≤ (t.f : Int) := by omega
  have e3 : (t.f : Int) ≤ (t.b.size : Int) := by omega
  clear h ok
  have HR := hide hr
  clear hr
  go_enter Try.func28, Try.ntmps28
  go_wp2_with fail
  refine wp_region_in (fun x => RtAt x g t ∧ But g w x) (by kernel_rfl) (by kernel_rfl) ⟨H.out.drew, (But.refl g w).drew⟩ ?_
  repeat (first
    | go_big_quiet_skip
    | (refine wpQuiet_load rfl 3 (.tmp 12) rfl _ (.int .i64 (t.f : Int)) rfl (fun y hy => load8_i y _ (hy.1.cell 1 _ rfl)) ?_; simp only [Act.put, Array.setIfInBounds, List.size_toArray, List.length_cons, List.length_nil, Nat.reduceAdd, Nat.reduceLT, ↓reduceDIte, List.set_toArray, List.set_cons_succ, List.set_cons_zero])
    | (refine wpQuiet_load rfl 9 (.tmp 7) rfl _ (.string t.b) rfl (fun y hy => load8_s y _ (hy.1.cell 0 _ rfl)) ?_; simp only [Act.put, Array.setIfInBounds, List.size_toArray, List.length_cons, List.length_nil, Nat.reduceAdd, Nat.reduceLT, ↓reduceDIte, List.set_toArray, List.set_cons_succ, List.set_cons_zero])
    | (refine wpQuiet_plain rfl (fun K hK => ?_); go_simp; (try simp only [ew]); refine hK _ ?_; clear hK K))
  refine wpQuiet_nil ?_
  intro x hx
  have HX := hide hx
  have c0 := hx.1.cell 0 (.string t.b) rfl
  have c1 := hx.1.cell 1 (.int .i64 (t.f : Int)) rfl
  have f0 := hx.1.free 0
  have f1 := hx.1.free 1
  clear hx
  go_wp2_with fail
  go_region
  go_wp2
  go_end0
  exact ⟨rfl, rt_two HX.out.1.drew _ _ _ (by omega), (HX.out.2.drew.set 0 _).set 1 _⟩

/-! ### The contracts -/
theorem rapp8_any (g : Nat) (t : Tp) (s : ByteArray) (w : World) (h : RtAt w g t) (ok : t.ok) (hs : s.size ≤ 70000) :
    Calls Try.prog 24 #[.pointer (some ⟨g, 0, none⟩), .string s] w fun e w' => e = .returned (.int .i64 (t.app s).2) ∧ RtAt w' g (t.app s).1 ∧ But g w w' := by
  unfold Tp.app
  by_cases hn : t.m < t.b.size + s.size
  · rw [if_pos hn]
    exact rapp8_no g t s w h ok hn hs
  · rw [if_neg hn]
    exact rapp8_yes g t s w h ok hn
theorem rcut8_any (g : Nat) (t : Tp) (n : Int) (w : World) (h : RtAt w g t) (ok : t.ok) :
    Calls Try.prog 26 #[.pointer (some ⟨g, 0, none⟩), .int .i64 n] w fun e w' => e = .returned (.int .i64 (t.cut n).2) ∧ RtAt w' g (t.cut n).1 ∧ But g w w' := by
  unfold Tp.cut
  by_cases hn : n < 0 ∨ (t.f : Int) < n
  · rw [if_pos hn]
    exact rcut8_no g t n w h hn
  · rw [if_neg hn]
    obtain ⟨m, rfl⟩ := Int.eq_ofNat_of_zero_le (show 0 ≤ n by omega)
    exact rcut8_yes g t m w h ok (by omega)
theorem rchop8_any (g : Nat) (t : Tp) (n : Int) (w : World) (h : RtAt w g t) (ok : t.ok) :
    Calls Try.prog 27 #[.pointer (some ⟨g, 0, none⟩), .int .i64 n] w fun e w' => e = .returned (.int .i64 (t.chop n).2) ∧ RtAt w' g (t.chop n).1 ∧ But g w w' := by
  unfold Tp.chop
  by_cases hn : n < 0 ∨ (t.b.size : Int) < n
  · rw [if_pos hn]
    exact rchop8_no g t n w h hn
  · rw [if_neg hn]
    obtain ⟨m, rfl⟩ := Int.eq_ofNat_of_zero_le (show 0 ≤ n by omega)
    exact rchop8_yes g t m w h ok (by omega)
theorem rcrash8_any (g : Nat) (t : Tp) (k : Int) (w : World) (h : RtAt w g t) (ok : t.ok) :
    Calls Try.prog 28 #[.pointer (some ⟨g, 0, none⟩), .int .i64 k] w fun e w' => e = .returned (.tuple #[]) ∧ RtAt w' g (t.crash k) ∧ But g w w' := by
  have hx := ok.fast
  obtain ⟨r, hr⟩ : ∃ r, t.b.size = t.f + r := ⟨t.b.size - t.f, by omega⟩
  unfold Tp.crash
  by_cases h0 : k ≤ 0
  · have e : t.left k = t.f := by unfold Tp.left; omega
    rw [e]
    exact rcrash8_none g t r k w h ok hr h0
  by_cases h1 : (r : Int) < k
  · by_cases h2 : 0 < r
    · have e : t.left k = t.f + r := by unfold Tp.left; omega
      rw [e]
      exact rcrash8_all g t r k w h ok hr h1 h2
    · have e : t.left k = t.f := by unfold Tp.left; omega
      rw [e]
      exact rcrash8_same g t k w h ok (by omega) (by omega)
  · obtain ⟨n, rfl⟩ := Int.eq_ofNat_of_zero_le (show 0 ≤ k by omega)
    have e : t.left (n : Int) = t.f + n := by unfold Tp.left; omega
    rw [e]
    exact rcrash8_some g t r n w h ok hr (by omega) (by omega)
end Go.Proofs.Ytkmlgfmpcglfeaa

/-
  What the code's tape keeps to, as the statements' walks lean on it: one form, whatever its fields are.
-/
namespace Go.Proofs.Ytkmlgfmpcglfeaa
open Go.RowKit
set_option linter.unusedVariables false

/-- What a call of the code's tape leaves: all ahead of B, and every struct that is no tape of its kind. -/
structure Kc (B : Nat) (w w' : World) : Prop where
  below : Below B w w'
  rows : ∀ k t cs, t ≠ 32 → t ≠ 5 → RowAt w k t cs → RowAt w' k t cs
theorem Kc.refl (B : Nat) (w : World) : Kc B w w := ⟨Below.refl _ _, fun _ _ _ _ _ h => h⟩
theorem Kc.trans {B : Nat} {w x y : World} (h : Kc B w x) (k : Kc B x y) : Kc B w y := ⟨h.below.trans k.below, fun a t cs h1 h2 h3 => k.rows a t cs h1 h2 (h.rows a t cs h1 h2 h3)⟩
theorem Kc.later {B : Nat} {w x : World} (hg : B ≤ w.heap.size) (h : Below w.heap.size w x) : Kc B w x := ⟨h.mono hg, fun k t cs _ _ hr => hr.later h⟩
theorem Kc.rt {B g : Nat} {w x : World} {t : Tp} (h : Kc B w x) (hr : RtAt w g t) : RtAt x g t := h.rows _ _ _ (by decide) (by decide) hr

/-- The code's tape at a block: TA tells which tape it stands for. -/
structure Cd (gt gr B : Nat) (TA : World → Tp → Prop) : Prop where
  drew : ∀ x t, TA x t → TA x.drew t
  fresh : ∀ x y t, TA x t → Below x.heap.size x y → TA y t
  other : ∀ x y t u, TA x t → RtAt x gr u → But gr x y → TA y t
  app : ∀ x t a n cap bs, TA x t → t.ok → IsB x a n bs → (a = none → cap = 0) → n ≤ 70000 → Calls Try.prog 16 #[.pointer (some ⟨gt, 0, none⟩), .slice a n cap] x fun e x' => e = .returned (.int .i64 (t.app ⟨bs.toArray⟩).2) ∧ TA x' (t.app ⟨bs.toArray⟩).1 ∧ Kc B x x'
  sync : ∀ x t, TA x t → t.ok → Calls Try.prog 17 #[.pointer (some ⟨gt, 0, none⟩)] x fun e x' => e = .returned (.int .i64 0) ∧ TA x' t.sync ∧ Kc B x x'
  cut : ∀ x t n, TA x t → t.ok → (Lit.int .i64 n).wf = true → Calls Try.prog 20 #[.pointer (some ⟨gt, 0, none⟩), .int .i64 n] x fun e x' => e = .returned (.int .i64 (t.cut n).2) ∧ TA x' (t.cut n).1 ∧ Kc B x x'
  chop : ∀ x t n, TA x t → t.ok → (Lit.int .i64 n).wf = true → Calls Try.prog 21 #[.pointer (some ⟨gt, 0, none⟩), .int .i64 n] x fun e x' => e = .returned (.int .i64 (t.chop n).2) ∧ TA x' (t.chop n).1 ∧ Kc B x x'
  crash : ∀ x t n, TA x t → t.ok → (Lit.int .i64 n).wf = true → Calls Try.prog 19 #[.pointer (some ⟨gt, 0, none⟩), .int .i64 n] x fun e x' => e = .returned (.tuple #[]) ∧ TA x' (t.crash n) ∧ Kc B x x'
  len : ∀ x t, TA x t → t.ok → Calls Try.prog 15 #[.pointer (some ⟨gt, 0, none⟩)] x fun e x' => e = .returned (.int .i64 (t.b.size : Int)) ∧ TA x' t ∧ Kc B x x'
  synced : ∀ x t, TA x t → t.ok → Calls Try.prog 18 #[.pointer (some ⟨gt, 0, none⟩)] x fun e x' => e = .returned (.int .i64 (t.f : Int)) ∧ TA x' t ∧ Kc B x x'
  start : ∀ x t, TA x t → t.ok → Calls Try.prog 22 #[.pointer (some ⟨gt, 0, none⟩)] x fun e x' => e = .returned (.int .u64 (t.s : Int)) ∧ TA x' t ∧ Kc B x x'
  room : ∀ x t, TA x t → t.ok → Calls Try.prog 23 #[.pointer (some ⟨gt, 0, none⟩)] x fun e x' => e = .returned (.int .i64 (t.m : Int)) ∧ TA x' t ∧ Kc B x x'
  bytes : ∀ x t, TA x t → t.ok → Calls Try.prog 14 #[.pointer (some ⟨gt, 0, none⟩)] x fun e x' => ∃ v, e = .returned v ∧ x'.ownsRow x.heap.size 5 1 v t.b.size (toV t.b.data.toList) ∧ TA x' t ∧ Kc B x x' ∧ Below x.heap.size x x'
end Go.Proofs.Ytkmlgfmpcglfeaa

/-
  The code's tape keeps to the form that the statements' walks lean on.
-/
namespace Go.Proofs.Ytkmlgfmpcglfeaa
open Go.RowKit
set_option linter.unusedVariables false

/-- The code's tape, with its bytes in a row that is as new as it. -/
def TB (gt B : Nat) (w : World) (t : Tp) : Prop := ∃ gb, B ≤ gb ∧ TpAt w gt gb t

theorem Kc.turn {B gt gb : Nat} {w x : World} {t : Tp} (h : TpAt w gt gb t) (hB : B ≤ w.heap.size) (h1 : B ≤ gt) (h2 : B ≤ gb) (p : Turn gt gb w x) : Kc B w x :=
  ⟨p.below h1 h2 hB, fun k t cs n1 n2 hr => by
    obtain ⟨q1, q2⟩ := h.apart hr n1 n2
    exact p.row hr q1 q2⟩
theorem cd8 (gt gr B : Nat) (hgt : B ≤ gt) : Cd gt gr B (TB gt B) where
  drew := fun x t ⟨gb, hb, h⟩ => ⟨gb, hb, h.keep rfl rfl⟩
  fresh := fun x y t ⟨gb, hb, h⟩ p => ⟨gb, hb, h.later p⟩
  other := fun x y t u ⟨gb, hb, h⟩ hr p => by
    obtain ⟨q1, q2⟩ := h.apart hr (by decide) (by decide)
    exact ⟨gb, hb, h.keep (p.block _ h.lt.1 (fun e => q1 e.symm)) (p.block _ h.lt.2 (fun e => q2 e.symm))⟩
  app := fun x t a n cap bs ⟨gb, hb, h⟩ ok hB hnil hn => by
    have hs : B ≤ x.heap.size := Nat.le_of_lt (Nat.lt_of_le_of_lt hgt h.lt.1)
    refine (app8_any gt gb t a n cap bs x h ok hB hnil hn).mono ?_
    rintro e x' ⟨rfl, gb', h1, h2, h3⟩
    exact ⟨rfl, ⟨gb', by omega, h1⟩, Kc.turn h hs hgt hb h2⟩
  sync := fun x t ⟨gb, hb, h⟩ ok => by
    have hs : B ≤ x.heap.size := Nat.le_of_lt (Nat.lt_of_le_of_lt hgt h.lt.1)
    exact (sync8_any gt gb t x h).mono fun e x' he => ⟨he.1, ⟨gb, hb, he.2.1⟩, Kc.turn h hs hgt hb he.2.2⟩
  cut := fun x t n ⟨gb, hb, h⟩ ok hn => by
    have hs : B ≤ x.heap.size := Nat.le_of_lt (Nat.lt_of_le_of_lt hgt h.lt.1)
    exact (cut8_any gt gb t n x h ok).mono fun e x' he => ⟨he.1, ⟨gb, hb, he.2.1⟩, Kc.turn h hs hgt hb he.2.2⟩
  chop := fun x t n ⟨gb, hb, h⟩ ok hn => by
    have hs : B ≤ x.heap.size := Nat.le_of_lt (Nat.lt_of_le_of_lt hgt h.lt.1)
    exact (chop8_any gt gb t n x h ok).mono fun e x' he => ⟨he.1, ⟨gb, hb, he.2.1⟩, Kc.turn h hs hgt hb he.2.2⟩
  crash := fun x t n ⟨gb, hb, h⟩ ok hn => by
    have hs : B ≤ x.heap.size := Nat.le_of_lt (Nat.lt_of_le_of_lt hgt h.lt.1)
    exact (crash8_any gt gb t n x h ok).mono fun e x' he => ⟨he.1, ⟨gb, hb, he.2.1⟩, Kc.turn h hs hgt hb he.2.2⟩
  len := fun x t ⟨gb, hb, h⟩ ok => by
    refine (len8_any gt gb t x h).mono ?_
    rintro e x' ⟨rfl, rfl⟩
    exact ⟨rfl, ⟨gb, hb, h⟩, Kc.refl _ _⟩
  synced := fun x t ⟨gb, hb, h⟩ ok => by
    refine (synced8_any gt gb t x h).mono ?_
    rintro e x' ⟨rfl, rfl⟩
    exact ⟨rfl, ⟨gb, hb, h⟩, Kc.refl _ _⟩
  start := fun x t ⟨gb, hb, h⟩ ok => by
    refine (start8_any gt gb t x h).mono ?_
    rintro e x' ⟨rfl, rfl⟩
    exact ⟨rfl, ⟨gb, hb, h⟩, Kc.refl _ _⟩
  room := fun x t ⟨gb, hb, h⟩ ok => by
    refine (room8_any gt gb t x h).mono ?_
    rintro e x' ⟨rfl, rfl⟩
    exact ⟨rfl, ⟨gb, hb, h⟩, Kc.refl _ _⟩
  bytes := fun x t ⟨gb, hb, h⟩ ok => by
    have hs : B ≤ x.heap.size := Nat.le_of_lt (Nat.lt_of_le_of_lt hgt h.lt.1)
    refine (bytes8_any gt gb t x h ok).mono ?_
    rintro e x' ⟨v, rfl, h1, h2⟩
    exact ⟨v, rfl, h1, ⟨gb, hb, h.later h2⟩, Kc.later hs h2, h2⟩
end Go.Proofs.Ytkmlgfmpcglfeaa

/-
  A slice that came in, by its cells: what a walk is told of it. Of no program.
-/
namespace Go.Proofs.Ytkmlgfmpcglfeaa
open Go.RowKit
set_option linter.unusedVariables false

/-- A slice value of so many elements, each of 'sz' cells: element i's cell k holds 'f i k'. -/
def IsRow (w : World) (a : Option Addr) (len sz : Nat) (f : Nat → Nat → Value) : Prop :=
  0 < len → ∃ b off, a = some ⟨b, off, none⟩ ∧ b < w.heap.size ∧ ∀ i k, i < len → k < sz → w.cell? ⟨b, off + (i * sz + k), none⟩ = some (f i k)

theorem IsRow.below {w w' : World} {a : Option Addr} {len sz B : Nat} {f : Nat → Nat → Value} (h : IsRow w a len sz f) (hB : w.heap.size ≤ B) (hb : Below B w w') : IsRow w' a len sz f := by
  intro hp
  obtain ⟨b, off, ha, hlt, hc⟩ := h hp
  exact ⟨b, off, ha, Nat.lt_of_lt_of_le hlt hb.size, fun i k hi hk => (hb.cell (p := ⟨b, off + (i * sz + k), none⟩) (Nat.lt_of_lt_of_le hlt hB)).trans (hc i k hi hk)⟩
end Go.Proofs.Ytkmlgfmpcglfeaa

/-
  How an argument that is a slice of plain things, or a struct by value, is opened: of no program.
-/
namespace Go.Proofs.Ytkmlgfmpcglfeaa
open Go.ChangeShapes Go.WideShapes Go.ChangeAt Go.RowKit Go.Deep Go.Joins
set_option linter.unusedVariables false

section
variable {H : Type} {enc : TypeId × Value → H} {P : Program} {W : World}

theorem trod_places {t : TypeId} {v : Value} {d : DataW H} {p : List MemPlace} (h : DataW.Trod enc P W 0 (fun _ => true) true t v d p) : ∀ x ∈ p, x.block < W.heap.size := by
  obtain ⟨m, hm⟩ := h
  exact DataW.trod_lt m _ _ _ hm

theorem sized_each {ts : List TypeId} {ds : List (DataW H)} {j : Nat} {t : TypeId} {d : DataW H} (h : (DataW.weightsEach P ts ds).all (· ≤ reachBytes) = true) (ht : ts[j]? = some t) (hd : ds[j]? = some d) : ∀ n ∈ d.weights P t, n ≤ reachBytes := by
  intro n hn
  have := List.all_eq_true.1 h _ (DataW.weights_mem_each ht hd n hn)
  simpa using this

/-- A slice's outer form as data. -/
def SlForm (d : DataW H) (len cap : Nat) : Prop := (d = .nil ∧ len = 0 ∧ cap = 0) ∨ ∃ es sp, d = .slice es sp ∧ es.length = len ∧ es.length + sp.length = cap

theorem SlForm.sized {d : DataW H} {len cap : Nat} {t e : TypeId} (h : SlForm d len cap) (ht : P.underlying t = some (.slice e)) (hb : 1 ≤ P.bytesOf e) (hs : ∀ n ∈ d.weights P t, n ≤ reachBytes) : len ≤ 140737488351232 := by
  rcases h with ⟨_, rfl, _⟩ | ⟨es, sp, rfl, h1, h2⟩
  · omega
  · have h3 := hs ((es.length + sp.length) * P.bytesOf e) (by simp [DataW.weights, ht])
    have h4 : (es.length + sp.length) * 1 ≤ (es.length + sp.length) * P.bytesOf e := Nat.mul_le_mul_left _ hb
    have h5 : reachBytes = 140737488351232 := rfl
    omega

/-- A slice opened: each element's cells by a way to read an element. -/
theorem open_rows {α : Type} [Inhabited α] {t e : TypeId} {sz : Nat} {v : Value} {d : DataW H} {p : List MemPlace} {r : Reach} {b0 : Nat} (F : α → Nat → Value) (G : α → Prop)
    (hel : ∀ n cs y, DataW.trod enc P W 0 (fun _ => true) true n e cs = some y → ∃ x, G x ∧ ∀ k, k < sz → cs[k]? = some (F x k))
    (ht : P.underlying t = some (.slice e)) (hsz : P.cellsOf e = sz) (hpos : 0 < sz) (hv : Value.okWide P W r b0 t v) (h : DataW.Trod enc P W 0 (fun _ => true) true t v d p) :
    ∃ (a : Option Addr) (len cap : Nat) (f : Nat → α), v = .slice a len cap ∧ SlForm d len cap ∧ len ≤ cap ∧ (a = none → cap = 0) ∧ (∀ i, i < cap → G (f i)) ∧ IsRow W a len sz (fun i k => F (f i) k) := by
  obtain ⟨a, len, cap, rfl⟩ := okWide_slice ht hv
  obtain ⟨fuel, hf⟩ := h
  rcases open_slice ht hf with ⟨hcs, hx⟩ | ⟨x, l, c, m, n, D, Pl, hcs, _, hl, hm, hmm, hx, hall⟩
  · simp [Value.cells] at hcs
    obtain ⟨rfl, rfl, rfl⟩ := hcs
    simp only [Prod.mk.injEq] at hx
    exact ⟨none, 0, 0, fun _ => default, rfl, .inl ⟨hx.1, rfl, rfl⟩, Nat.le_refl _, fun _ => rfl, fun i hi => absurd hi (by omega), fun h => absurd h (by omega)⟩
  · simp [Value.cells] at hcs
    obtain ⟨rfl, rfl, rfl⟩ := hcs
    simp only [if_true] at hmm
    subst hmm
    simp only [Prod.mk.injEq] at hx
    obtain ⟨f, hf2⟩ := choose_lt (α := α) (p := fun i y => G y ∧ ∀ k, k < sz → W.cell? (x.add (i * sz + k)) = some (F y k)) (fun i hi => by
      obtain ⟨cs', h1, h2⟩ := hall i hi
      obtain ⟨y, hG, hF⟩ := hel _ _ _ h2
      rw [hsz] at h1
      obtain ⟨_, _, h3⟩ := World.cells?_some h1
      refine ⟨y, hG, fun k hk => ?_⟩
      have h4 := h3 k hk
      rw [hF k hk] at h4
      rw [← h4, Addr.add_add])
    refine ⟨some x, len, m, f, rfl, .inr ⟨_, _, hx.1, by simp, by simp; omega⟩, hl, (fun h => nomatch h), fun i hi => (hf2 i hi).1, fun hp => ?_⟩
    have hc0 := (hf2 0 (by omega)).2 0 hpos
    obtain ⟨b, off, spot⟩ := x
    have hspot : spot = none := by simpa [Addr.add] using World.cell?_spot hc0
    subst hspot
    refine ⟨b, off, rfl, ?_, fun i k hi hk => ?_⟩
    · have := World.block_lt_of_cell? W _ hc0
      simpa [Addr.add] using this
    · have := (hf2 i (by omega)).2 k hk
      rw [Addr.add_lit] at this
      exact this

/-- .. with a property of all places, also of those behind its end. -/
theorem open_rows_all {α : Type} [Inhabited α] {t e : TypeId} {sz : Nat} {v : Value} {d : DataW H} {p : List MemPlace} {r : Reach} {b0 : Nat} (F : α → Nat → Value) (G : α → Prop) (hd : G default)
    (hel : ∀ n cs y, DataW.trod enc P W 0 (fun _ => true) true n e cs = some y → ∃ x, G x ∧ ∀ k, k < sz → cs[k]? = some (F x k))
    (ht : P.underlying t = some (.slice e)) (hsz : P.cellsOf e = sz) (hpos : 0 < sz) (hv : Value.okWide P W r b0 t v) (h : DataW.Trod enc P W 0 (fun _ => true) true t v d p) :
    ∃ (a : Option Addr) (len cap : Nat) (f : Nat → α), v = .slice a len cap ∧ SlForm d len cap ∧ len ≤ cap ∧ (a = none → cap = 0) ∧ (∀ i, G (f i)) ∧ IsRow W a len sz (fun i k => F (f i) k) := by
  obtain ⟨a, len, cap, f, h1, h2, h3, h4, h5, h6⟩ := open_rows F G hel ht hsz hpos hv h
  refine ⟨a, len, cap, fun i => if i < cap then f i else default, h1, h2, h3, h4, fun i => ?_, fun hp => ?_⟩
  · by_cases hi : i < cap
    · simp only [if_pos hi]
      exact h5 i hi
    · simp only [if_neg hi]
      exact hd
  · obtain ⟨b, off, ha, hb, hc⟩ := h6 hp
    refine ⟨b, off, ha, hb, fun i k hi hk => ?_⟩
    have hi2 : i < cap := by omega
    rw [hc i k hi hk]
    simp only [if_pos hi2]

theorem elem_bool {e : TypeId} (he : P.underlying e = some .bool) (n : Nat) (cs : List Value) (y : DataW H × List MemPlace) (h : DataW.trod enc P W 0 (fun _ => true) true n e cs = some y) : ∃ x : Bool, True ∧ ∀ k, k < 1 → cs[k]? = some (Value.bool x) := by
  obtain ⟨b, rfl, _⟩ := DataW.trod_bool he h
  refine ⟨b, trivial, fun k hk => ?_⟩
  obtain rfl : k = 0 := by omega
  rfl

theorem elem_int {e : TypeId} {q : IntKind} (he : P.underlying e = some (.int q)) (n : Nat) (cs : List Value) (y : DataW H × List MemPlace) (h : DataW.trod enc P W 0 (fun _ => true) true n e cs = some y) : ∃ x : Int, (Lit.int q x).wf = true ∧ ∀ k, k < 1 → cs[k]? = some (Value.int q x) := by
  obtain ⟨b, rfl, _, hw⟩ := DataW.trod_int he h
  refine ⟨b, hw, fun k hk => ?_⟩
  obtain rfl : k = 0 := by omega
  rfl
end
end Go.Proofs.Ytkmlgfmpcglfeaa

/-
  A list of structs that lies in memory. Of no program.
-/
namespace Go.Proofs.Ytkmlgfmpcglfeaa
open Go.RowKit
set_option linter.unusedVariables false

/-- A list of structs that lies there. -/
def RowsIn {α : Type} (f : α → Array Value) (z : α) (n : Nat) (w : World) (v : Value) (xs : List α) : Prop :=
  ∃ a cap, v = .slice a xs.length cap ∧ (0 < xs.length → ∃ b off, a = some ⟨b, off, none⟩ ∧ b < w.heap.size ∧ ∀ i, i < xs.length → w.rangeAt b (off + i * n) (f (xs.getD i z)).toList)
theorem rangeAt_below {w w' : World} {b o B : Nat} {cs : List Value} (h : w.rangeAt b o cs) (hb : Below B w w') (hB : b < B) : w'.rangeAt b o cs := fun j v hv => by
  rw [hb.cell (p := ⟨b, o + j, none⟩) hB]
  exact h j v hv
theorem RowsIn.below {α : Type} {f : α → Array Value} {z : α} {n : Nat} {w w' : World} {v : Value} {xs : List α} (h : RowsIn f z n w v xs) (hb : Below w.heap.size w w') : RowsIn f z n w' v xs := by
  obtain ⟨a, cap, h1, h2⟩ := h
  refine ⟨a, cap, h1, fun hp => ?_⟩
  obtain ⟨b, off, h3, h4, h5⟩ := h2 hp
  exact ⟨b, off, h3, Nat.lt_of_lt_of_le h4 hb.size, fun i hi => rangeAt_below (h5 i hi) hb h4⟩
end Go.Proofs.Ytkmlgfmpcglfeaa

/-
  A list of structs that comes in as an argument, opened. Of no program.
-/
namespace Go.Proofs.Ytkmlgfmpcglfeaa
open Go.ChangeShapes Go.WideShapes Go.ChangeAt Go.RowKit Go.Deep Go.Joins
set_option linter.unusedVariables false

theorem u64_nat {i : Int} (h : (Lit.int .u64 i).wf = true) : ∃ n : Nat, i = (n : Int) := by
  have := (bounds_u64 h).1
  exact ⟨i.toNat, by omega⟩

section
variable {H : Type} {enc : TypeId × Value → H} {W : World}

theorem trod_st3 {P : Program} {t : TypeId} {f0 f1 f2 : Field} {fuel : Nat} {cs : List Value} {x : DataW H × List MemPlace} (ht : P.underlying t = some (.struct #[f0, f1, f2])) (h : DataW.trod enc P W 0 (fun _ => true) true fuel t cs = some x) :
    ∃ y0 y1 y2 n, cs.length = P.cellsOf t ∧ DataW.trod enc P W 0 (fun _ => true) true n f0.type ((cs.drop f0.offset).take (P.cellsOf f0.type)) = some y0 ∧ DataW.trod enc P W 0 (fun _ => true) true n f1.type ((cs.drop f1.offset).take (P.cellsOf f1.type)) = some y1 ∧ DataW.trod enc P W 0 (fun _ => true) true n f2.type ((cs.drop f2.offset).take (P.cellsOf f2.type)) = some y2 := by
  obtain ⟨xs, n, _, rfl, hl, hlen, hf⟩ := DataW.trod_struct ht h
  match xs, hlen with
  | [y0, y1, y2], _ => exact ⟨y0, y1, y2, n, hl, by simpa using hf 0 f0 rfl, by simpa using hf 1 f1 rfl, by simpa using hf 2 f2 rfl⟩

theorem trod_st2 {P : Program} {t : TypeId} {f0 f1 : Field} {fuel : Nat} {cs : List Value} {x : DataW H × List MemPlace} (ht : P.underlying t = some (.struct #[f0, f1])) (h : DataW.trod enc P W 0 (fun _ => true) true fuel t cs = some x) :
    ∃ y0 y1 n, cs.length = P.cellsOf t ∧ DataW.trod enc P W 0 (fun _ => true) true n f0.type ((cs.drop f0.offset).take (P.cellsOf f0.type)) = some y0 ∧ DataW.trod enc P W 0 (fun _ => true) true n f1.type ((cs.drop f1.offset).take (P.cellsOf f1.type)) = some y1 := by
  obtain ⟨xs, n, _, rfl, hl, hlen, hf⟩ := DataW.trod_struct ht h
  match xs, hlen with
  | [y0, y1], _ => exact ⟨y0, y1, n, hl, by simpa using hf 0 f0 rfl, by simpa using hf 1 f1 rfl⟩

theorem trod_st5 {P : Program} {t : TypeId} {f0 f1 f2 f3 f4 : Field} {fuel : Nat} {cs : List Value} {x : DataW H × List MemPlace} (ht : P.underlying t = some (.struct #[f0, f1, f2, f3, f4])) (h : DataW.trod enc P W 0 (fun _ => true) true fuel t cs = some x) :
    ∃ y0 y1 y2 y3 y4 n, cs.length = P.cellsOf t ∧ DataW.trod enc P W 0 (fun _ => true) true n f0.type ((cs.drop f0.offset).take (P.cellsOf f0.type)) = some y0 ∧ DataW.trod enc P W 0 (fun _ => true) true n f1.type ((cs.drop f1.offset).take (P.cellsOf f1.type)) = some y1 ∧ DataW.trod enc P W 0 (fun _ => true) true n f2.type ((cs.drop f2.offset).take (P.cellsOf f2.type)) = some y2 ∧ DataW.trod enc P W 0 (fun _ => true) true n f3.type ((cs.drop f3.offset).take (P.cellsOf f3.type)) = some y3 ∧ DataW.trod enc P W 0 (fun _ => true) true n f4.type ((cs.drop f4.offset).take (P.cellsOf f4.type)) = some y4 := by
  obtain ⟨xs, n, _, rfl, hl, hlen, hf⟩ := DataW.trod_struct ht h
  match xs, hlen with
  | [y0, y1, y2, y3, y4], _ => exact ⟨y0, y1, y2, y3, y4, n, hl, by simpa using hf 0 f0 rfl, by simpa using hf 1 f1 rfl, by simpa using hf 2 f2 rfl, by simpa using hf 3 f3 rfl, by simpa using hf 4 f4 rfl⟩

theorem trod_st10 {P : Program} {t : TypeId} {f0 f1 f2 f3 f4 f5 f6 f7 f8 f9 : Field} {fuel : Nat} {cs : List Value} {x : DataW H × List MemPlace} (ht : P.underlying t = some (.struct #[f0, f1, f2, f3, f4, f5, f6, f7, f8, f9])) (h : DataW.trod enc P W 0 (fun _ => true) true fuel t cs = some x) :
    ∃ y0 y1 y2 y3 y4 y5 y6 y7 y8 y9 n, cs.length = P.cellsOf t ∧ DataW.trod enc P W 0 (fun _ => true) true n f0.type ((cs.drop f0.offset).take (P.cellsOf f0.type)) = some y0 ∧ DataW.trod enc P W 0 (fun _ => true) true n f1.type ((cs.drop f1.offset).take (P.cellsOf f1.type)) = some y1 ∧ DataW.trod enc P W 0 (fun _ => true) true n f2.type ((cs.drop f2.offset).take (P.cellsOf f2.type)) = some y2 ∧ DataW.trod enc P W 0 (fun _ => true) true n f3.type ((cs.drop f3.offset).take (P.cellsOf f3.type)) = some y3 ∧ DataW.trod enc P W 0 (fun _ => true) true n f4.type ((cs.drop f4.offset).take (P.cellsOf f4.type)) = some y4 ∧ DataW.trod enc P W 0 (fun _ => true) true n f5.type ((cs.drop f5.offset).take (P.cellsOf f5.type)) = some y5 ∧ DataW.trod enc P W 0 (fun _ => true) true n f6.type ((cs.drop f6.offset).take (P.cellsOf f6.type)) = some y6 ∧ DataW.trod enc P W 0 (fun _ => true) true n f7.type ((cs.drop f7.offset).take (P.cellsOf f7.type)) = some y7 ∧ DataW.trod enc P W 0 (fun _ => true) true n f8.type ((cs.drop f8.offset).take (P.cellsOf f8.type)) = some y8 ∧ DataW.trod enc P W 0 (fun _ => true) true n f9.type ((cs.drop f9.offset).take (P.cellsOf f9.type)) = some y9 := by
  obtain ⟨xs, n, _, rfl, hl, hlen, hf⟩ := DataW.trod_struct ht h
  match xs, hlen with
  | [y0, y1, y2, y3, y4, y5, y6, y7, y8, y9], _ => exact ⟨y0, y1, y2, y3, y4, y5, y6, y7, y8, y9, n, hl, by simpa using hf 0 f0 rfl, by simpa using hf 1 f1 rfl, by simpa using hf 2 f2 rfl, by simpa using hf 3 f3 rfl, by simpa using hf 4 f4 rfl, by simpa using hf 5 f5 rfl, by simpa using hf 6 f6 rfl, by simpa using hf 7 f7 rfl, by simpa using hf 8 f8 rfl, by simpa using hf 9 f9 rfl⟩

theorem op_rows {α : Type} (f : α → Array Value) (z : α) (G : α → Prop) {P : Program} {t e : TypeId} {sz fuel : Nat} {c : Value} {x : DataW H × List MemPlace} (hel : ∀ n cs y, DataW.trod enc P W 0 (fun _ => true) true n e cs = some y → ∃ x, cs = (f x).toList ∧ G x)
    (ht : P.underlying t = some (.slice e)) (hsz : P.cellsOf e = sz) (hfz : ∀ x, (f x).size = sz) (hpos : 0 < sz) (h : DataW.trod enc P W 0 (fun _ => true) true fuel t [c] = some x) : ∃ xs, RowsIn f z sz W c xs ∧ xs.length ≤ maxLen ∧ ∀ x ∈ xs, G x := by
  rcases open_slice ht h with ⟨hcs, _⟩ | ⟨a, len, cap, m, n, D, Pl, hcs, _, hl, hm, hmm, _, hall⟩
  · simp only [List.cons.injEq, and_true] at hcs
    exact ⟨[], ⟨none, 0, hcs, fun h => absurd h (by simp)⟩, Nat.zero_le _, fun x hx => nomatch hx⟩
  · simp only [List.cons.injEq, and_true] at hcs
    subst hcs
    simp only [if_true] at hmm
    subst hmm
    have : Nonempty α := ⟨z⟩
    obtain ⟨g, hg⟩ := @choose_lt α ⟨z⟩ m (fun i y => G y ∧ ∀ k, k < sz → W.cell? (a.add (i * sz + k)) = (f y).toList[k]?) (fun i hi => by
      obtain ⟨cs', h1, h2⟩ := hall i hi
      obtain ⟨y, rfl, hG⟩ := hel _ _ _ h2
      rw [hsz] at h1
      obtain ⟨_, _, h3⟩ := World.cells?_some h1
      refine ⟨y, hG, fun k hk => ?_⟩
      rw [← h3 k hk, Addr.add_add])
    have hL : ((List.range len).map g).length = len := by simp
    refine ⟨(List.range len).map g, ⟨some a, m, by rw [hL], fun hp => ?_⟩, by rw [hL]; omega, fun x hx => by
      obtain ⟨i, hi, rfl⟩ := List.mem_map.1 hx
      exact (hg i (by have := List.mem_range.1 hi; omega)).1⟩
    rw [hL] at hp
    have hf0 : ∀ y k, k < sz → ∃ v, (f y).toList[k]? = some v := fun y k hk => ⟨_, List.getElem?_eq_getElem (by rw [Array.length_toList, hfz]; exact hk)⟩
    have hc0 := (hg 0 (by omega)).2 0 hpos
    obtain ⟨v0, hv0⟩ := hf0 (g 0) 0 hpos
    rw [hv0] at hc0
    obtain ⟨b, off, spot⟩ := a
    have hspot : spot = none := by simpa [Addr.add] using World.cell?_spot hc0
    subst hspot
    refine ⟨b, off, rfl, ?_, fun i hi j v hv => ?_⟩
    · have := World.block_lt_of_cell? W _ hc0
      simpa [Addr.add] using this
    · rw [hL] at hi
      have hget : ((List.range len).map g).getD i z = g i := by
        rw [List.getD_eq_getElem?_getD, List.getElem?_map, List.getElem?_range hi]
        rfl
      rw [hget] at hv
      have hj : j < sz := by
        have := (List.getElem?_eq_some_iff.1 hv).1
        rw [Array.length_toList, hfz] at this
        exact this
      have := (hg i (by omega)).2 j hj
      rw [Addr.add_lit, hv] at this
      rw [← this, Nat.add_assoc]

/-- A slice's length is within its capacity. -/
theorem op_cap {P : Program} {t e : TypeId} {c : Value} {fuel : Nat} {x : DataW H × List MemPlace} (ht : P.underlying t = some (.slice e)) (h : DataW.trod enc P W 0 (fun _ => true) true fuel t [c] = some x) {a : Option Addr} {len cap : Nat} (hc : c = .slice a len cap) : len ≤ cap ∧ (a = none → cap = 0) := by
  rcases open_slice ht h with ⟨hcs, _⟩ | ⟨a', len', cap', m, n, D, Pl, hcs, _, hl, hm, hmm, _, hall⟩
  · simp only [List.cons.injEq, and_true] at hcs
    rw [hc] at hcs
    injection hcs with h1 h2 h3
    subst h1 h2 h3
    exact ⟨Nat.le_refl _, fun _ => rfl⟩
  · simp only [List.cons.injEq, and_true] at hcs
    rw [hc] at hcs
    injection hcs with h1 h2 h3
    subst h1 h2 h3
    simp only [if_true] at hmm
    exact ⟨by omega, fun h => (nomatch h)⟩
end
end Go.Proofs.Ytkmlgfmpcglfeaa

/-
  The calls of a script, and texts, in lists that come in, opened.
-/
namespace Go.Proofs.Ytkmlgfmpcglfeaa
open Go.ChangeShapes Go.WideShapes Go.ChangeAt Go.RowKit Go.Deep Go.Joins
set_option linter.unusedVariables false

set_option maxRecDepth 40000 in
/-- A call of a script. -/
structure Tc where
  k : Int
  n : Int
  b : ByteArray
set_option maxRecDepth 40000 in
def tcA (c : Tc) : Array Value := #[.int .i64 c.k, .int .i64 c.n, .string c.b]
set_option maxRecDepth 40000 in
def Tc.zero : Tc := ⟨0, 0, ⟨#[]⟩⟩
set_option maxRecDepth 40000 in
def Tc.fits (c : Tc) : Prop := (Lit.int .i64 c.k).wf = true ∧ (Lit.int .i64 c.n).wf = true ∧ c.b.size ≤ maxLen
section
variable {H : Type} {enc : TypeId × Value → H} {W : World}

set_option maxRecDepth 40000 in
theorem elem_tc (n : Nat) (cs : List Value) (y : DataW H × List MemPlace) (h : DataW.trod enc Try.prog W 0 (fun _ => true) true n 35 cs = some y) : ∃ c : Tc, cs = (tcA c).toList ∧ c.fits := by
  obtain ⟨y0, y1, y2, m, hl, h0, h1, h2⟩ := trod_st3 Try.underlying35 h
  have hC : Try.prog.cellsOf 35 = 3 := by kernel_rfl
  rw [hC] at hl
  match cs, hl with
  | [c0, c1, c2], _ =>
    have e0 : Try.prog.cellsOf 3 = 1 := by kernel_rfl
    have e1 : Try.prog.cellsOf 9 = 1 := by kernel_rfl
    simp only [e0, e1, List.drop_zero, List.drop_succ_cons, List.take_succ_cons, List.take_zero] at h0 h1 h2
    obtain ⟨i0, g0, _, w0⟩ := DataW.trod_int Try.underlying3 h0
    obtain ⟨i1, g1, _, w1⟩ := DataW.trod_int Try.underlying3 h1
    obtain ⟨i2, g2, _, w2⟩ := DataW.trod_string Try.underlying9 h2
    simp only [List.cons.injEq, and_true] at g0 g1 g2
    subst g0 g1 g2
    exact ⟨⟨i0, i1, i2⟩, rfl, w0, w1, w2⟩
set_option maxRecDepth 40000 in
/-- A script. -/
theorem op_tcs {v : Value} {d : DataW H} {p : List MemPlace} {r : Reach} {b0 : Nat} (hv : Value.okWide Try.prog W r b0 22 v) (h : DataW.Trod enc Try.prog W 0 (fun _ => true) true 22 v d p) :
    ∃ cs : List Tc, RowsIn tcA Tc.zero 3 W v cs ∧ cs.length ≤ maxLen ∧ (∀ c ∈ cs, c.fits) ∧ ∀ a len cap, v = .slice a len cap → len ≤ cap := by
  obtain ⟨a, len, cap, _, rfl, _, hcap, _⟩ := @open_rows H enc Try.prog W Tc ⟨Tc.zero⟩ 22 35 3 v d p r b0 (fun m k => (tcA m).toList.getD k (.bool false)) (fun _ => True) (fun n cs y hy => by
    obtain ⟨m, rfl, _⟩ := elem_tc n cs y hy
    refine ⟨m, trivial, fun k hk => ?_⟩
    rw [List.getD_eq_getElem?_getD, List.getElem?_eq_getElem (by rw [Array.length_toList]; exact hk)]
    rfl) Try.underlying22 (by kernel_rfl) (by decide) hv h
  obtain ⟨fuel, hf⟩ := h
  have hf2 : DataW.trod enc Try.prog W 0 (fun _ => true) true fuel 22 [.slice a len cap] = some (d, p) := hf
  obtain ⟨cs, h1, h2, h3⟩ := op_rows (sz := 3) tcA Tc.zero Tc.fits elem_tc Try.underlying22 (by kernel_rfl) (fun _ => rfl) (by decide) hf2
  refine ⟨cs, h1, h2, h3, fun a' l' c' e => ?_⟩
  injection e with e1 e2 e3
  omega
set_option maxRecDepth 40000 in
/-- One call by value. -/
theorem op_tc {v : Value} {d : DataW H} {p : List MemPlace} {r : Reach} {b0 : Nat} (hv : Value.okWide Try.prog W r b0 35 v) (h : DataW.Trod enc Try.prog W 0 (fun _ => true) true 35 v d p) :
    ∃ c : Tc, v = .agg (tcA c) ∧ c.fits := by
  obtain ⟨cs, rfl, hsz⟩ := okWide_struct Try.underlying35 hv
  obtain ⟨fuel, hf⟩ := h
  obtain ⟨l⟩ := cs
  obtain ⟨c, hc, hft⟩ := elem_tc _ _ _ hf
  have hc2 : l = (tcA c).toList := hc
  subst hc2
  exact ⟨c, rfl, hft⟩
end
end Go.Proofs.Ytkmlgfmpcglfeaa

/-
  The contract of quaysidelaw08.does: cut.
-/
namespace Go.Proofs.Ytkmlgfmpcglfeaa
open Go.RowKit
set_option linter.unusedVariables false

theorem load8_u {b j : Nat} (x : World) (v : Int) (h : x.cell? ⟨b, j, none⟩ = some (.int .u64 v)) : (Instr.loadAt 30 (.pointer (some ⟨b, j, none⟩))).run Try.prog x = .ok (.int .u64 v) x := by
  go_simp

set_option maxRecDepth 4000 in
set_option maxHeartbeats 3200000 in
theorem does_cut (gt gr B : Nat) (TA : World → Tp → Prop) (C : Hid (Cd gt gr B TA)) (t : Tp) (n : Int) (b : ByteArray) (w : World) (hB : B ≤ w.heap.size) (hg : B ≤ gr) (ht : TA w t) (hr : RtAt w gr t) (ok : t.ok) (hn : (Lit.int .i64 n).wf = true) (hb : b.size ≤ 65537) :
    Calls Try.prog 13 #[.pointer (some ⟨gt, 0, none⟩), .pointer (some ⟨gr, 0, none⟩), .agg #[.int .i64 3, .int .i64 n, .string b]] w fun e w' => e = .returned (.bool true) ∧ TA w' (t.cut n).1 ∧ RtAt w' gr (t.cut n).1 ∧ Below B w w' := by
  have HN := hide hn
  have hbx : Below w.heap.size w (w.alloc (.cells #[.int .i64 3, .int .i64 n, .string b] 35)) := (Below.refl _ _).alloc (Nat.le_refl _) _
  have H0 := hide (And.intro (C.out.fresh _ _ _ ht hbx) (And.intro (hr.later hbx) (And.intro (hbx.mono hB) (RowAt.new w 35 #[.int .i64 3, .int .i64 n, .string b]))))
  have HOK := hide (t.cut_ok ok n)
  have HOK0 := hide ok
  have HG := hide hg
  have HSZ := hide hbx.size
  have hcv := fun w => Lib.run_convert_string_bytes (P := Try.prog) w 9 29 5 b Try.underlying9 Try.underlying29 Try.underlying5
  clear hbx ht hr ok hg hn
  generalize hq : t.cut n = q at *
  obtain ⟨u, er⟩ := q
  have HQ := hide hq
  clear hq
  go_enter Try.func13, Try.ntmps13
  go_wp2_with fail
  refine gen_calls (fun y => Hid (TA y t ∧ RtAt y gr t ∧ Below B w y ∧ RowAt y w.heap.size 35 #[.int .i64 3, .int .i64 n, .string b])) H0 ?_
  clear H0 hcv HSZ
  intro y H0
  refine (C.out.cut y t n H0.out.1 HOK0.out HN.out).mono ?_
  rintro e w1 ⟨rfl, ht1, hk1⟩
  have e2 := congrArg Prod.snd HQ.out
  have e1 := congrArg Prod.fst HQ.out
  simp only at e1 e2
  rw [e2]
  rw [e1] at ht1
  have hr1 := hk1.rt H0.out.2.1
  have hx1 := hk1.rows _ _ _ (by decide) (by decide) H0.out.2.2.2
  have H1 := hide (And.intro ht1 (And.intro hr1 (H0.out.2.2.1.trans hk1.below)))
  have c1 := hx1.cell 1 (.int .i64 n) rfl
  clear ht1 hk1 hr1 hx1 H0
  go_wp2_with fail
  refine (rcut8_any gr t n w1 H1.out.2.1 HOK0.out).mono ?_
  rintro e w2 ⟨rfl, hr2, hbt⟩
  rw [e2]
  rw [e1] at hr2
  have HT := hide (C.out.other _ _ _ _ H1.out.1 H1.out.2.1 hbt)
  have HR := hide hr2
  have HB := hide (H1.out.2.2.trans (hbt.below HG.out (Nat.le_trans hB H1.out.2.2.size)))
  clear hr2 hbt H1 c1 HN HOK0 HG HQ e1 e2
  go_wp2_with fail
  refine wp_region_in (fun x => TA x u ∧ RtAt x gr u ∧ Below B w x) (by kernel_rfl) (by kernel_rfl) ⟨C.out.drew _ _ HT.out, HR.out.drew, ⟨HB.out.1, HB.out.2, HB.out.3, HB.out.4, HB.out.5⟩⟩ ?_
  repeat (first
    | go_big_quiet_skip
    | (refine wpQuiet_load rfl 9 (.tmp 66) rfl _ (.string u.b) rfl (fun y hy => load8_s y _ (hy.2.1.cell 0 _ rfl)) ?_; simp only [Act.put, Array.setIfInBounds, List.size_toArray, List.length_cons, List.length_nil, Nat.reduceAdd, Nat.reduceLT, ↓reduceDIte, List.set_toArray, List.set_cons_succ, List.set_cons_zero])
    | (refine wpQuiet_load rfl 3 (.tmp 76) rfl _ (.int .i64 (u.f : Int)) rfl (fun y hy => load8_i y _ (hy.2.1.cell 1 _ rfl)) ?_; simp only [Act.put, Array.setIfInBounds, List.size_toArray, List.length_cons, List.length_nil, Nat.reduceAdd, Nat.reduceLT, ↓reduceDIte, List.set_toArray, List.set_cons_succ, List.set_cons_zero])
    | (refine wpQuiet_load rfl 30 (.tmp 85) rfl _ (.int .u64 (u.s : Int)) rfl (fun y hy => load8_u y _ (hy.2.1.cell 3 _ rfl)) ?_; simp only [Act.put, Array.setIfInBounds, List.size_toArray, List.length_cons, List.length_nil, Nat.reduceAdd, Nat.reduceLT, ↓reduceDIte, List.set_toArray, List.set_cons_succ, List.set_cons_zero])
    | (refine wpQuiet_load rfl 3 (.tmp 94) rfl _ (.int .i64 (u.m : Int)) rfl (fun y hy => load8_i y _ (hy.2.1.cell 2 _ rfl)) ?_; simp only [Act.put, Array.setIfInBounds, List.size_toArray, List.length_cons, List.length_nil, Nat.reduceAdd, Nat.reduceLT, ↓reduceDIte, List.set_toArray, List.set_cons_succ, List.set_cons_zero])
    | (refine wpQuiet_call rfl 15 #[.pointer (some ⟨gt, 0, none⟩)] (.int .i64 (u.b.size : Int)) ?_ (fun x hC => (C.out.len x u hC.1 HOK.out).mono fun e x' h => ⟨h.1, h.2.1, h.2.2.rt hC.2.1, hC.2.2.trans h.2.2.below⟩) ?_; (intro x; go_simp); simp only [Act.put, Array.setIfInBounds, List.size_toArray, List.length_cons, List.length_nil, Nat.reduceAdd, Nat.reduceLT, ↓reduceDIte, List.set_toArray, List.set_cons_succ, List.set_cons_zero])
    | (refine wpQuiet_call rfl 18 #[.pointer (some ⟨gt, 0, none⟩)] (.int .i64 (u.f : Int)) ?_ (fun x hC => (C.out.synced x u hC.1 HOK.out).mono fun e x' h => ⟨h.1, h.2.1, h.2.2.rt hC.2.1, hC.2.2.trans h.2.2.below⟩) ?_; (intro x; go_simp); simp only [Act.put, Array.setIfInBounds, List.size_toArray, List.length_cons, List.length_nil, Nat.reduceAdd, Nat.reduceLT, ↓reduceDIte, List.set_toArray, List.set_cons_succ, List.set_cons_zero])
    | (refine wpQuiet_call rfl 22 #[.pointer (some ⟨gt, 0, none⟩)] (.int .u64 (u.s : Int)) ?_ (fun x hC => (C.out.start x u hC.1 HOK.out).mono fun e x' h => ⟨h.1, h.2.1, h.2.2.rt hC.2.1, hC.2.2.trans h.2.2.below⟩) ?_; (intro x; go_simp); simp only [Act.put, Array.setIfInBounds, List.size_toArray, List.length_cons, List.length_nil, Nat.reduceAdd, Nat.reduceLT, ↓reduceDIte, List.set_toArray, List.set_cons_succ, List.set_cons_zero])
    | (refine wpQuiet_call rfl 23 #[.pointer (some ⟨gt, 0, none⟩)] (.int .i64 (u.m : Int)) ?_ (fun x hC => (C.out.room x u hC.1 HOK.out).mono fun e x' h => ⟨h.1, h.2.1, h.2.2.rt hC.2.1, hC.2.2.trans h.2.2.below⟩) ?_; (intro x; go_simp); simp only [Act.put, Array.setIfInBounds, List.size_toArray, List.length_cons, List.length_nil, Nat.reduceAdd, Nat.reduceLT, ↓reduceDIte, List.set_toArray, List.set_cons_succ, List.set_cons_zero])
    | (refine wpQuiet_plain rfl (fun K hK => ?_); go_simp; (try simp only [beq_self_eq_true]); refine hK _ ?_; clear hK K))
  refine wpQuiet_nil ?_
  intro x hx
  have HX := hide hx
  clear hx HT HR HB C HOK
  go_wp2
  go_ret
  exact ⟨rfl, HX.out⟩
end Go.Proofs.Ytkmlgfmpcglfeaa

/-
  The contract of quaysidelaw08.does: app.
-/
namespace Go.Proofs.Ytkmlgfmpcglfeaa
open Go.RowKit
set_option linter.unusedVariables false

set_option maxRecDepth 4000 in
set_option maxHeartbeats 3200000 in
theorem does_app (gt gr B : Nat) (TA : World → Tp → Prop) (C : Hid (Cd gt gr B TA)) (t : Tp) (n : Int) (b : ByteArray) (w : World) (hB : B ≤ w.heap.size) (hg : B ≤ gr) (ht : TA w t) (hr : RtAt w gr t) (ok : t.ok) (hn : (Lit.int .i64 n).wf = true) (hb : b.size ≤ 65537) :
    Calls Try.prog 13 #[.pointer (some ⟨gt, 0, none⟩), .pointer (some ⟨gr, 0, none⟩), .agg #[.int .i64 1, .int .i64 n, .string b]] w fun e w' => e = .returned (.bool true) ∧ TA w' (t.app b).1 ∧ RtAt w' gr (t.app b).1 ∧ Below B w w' := by
  have HN := hide hn
  have hbx : Below w.heap.size w (w.alloc (.cells #[.int .i64 1, .int .i64 n, .string b] 35)) := (Below.refl _ _).alloc (Nat.le_refl _) _
  have H0 := hide (And.intro (C.out.fresh _ _ _ ht hbx) (And.intro (hr.later hbx) (And.intro (hbx.mono hB) (RowAt.new w 35 #[.int .i64 1, .int .i64 n, .string b]))))
  have HOK := hide (t.app_ok ok b)
  have HOK0 := hide ok
  have HG := hide hg
  have HSZ := hide hbx.size
  have hcv := fun w => Lib.run_convert_string_bytes (P := Try.prog) w 9 29 5 b Try.underlying9 Try.underlying29 Try.underlying5
  clear hbx ht hr ok hg hn
  generalize hq : t.app b = q at *
  obtain ⟨u, er⟩ := q
  have HQ := hide hq
  clear hq
  go_enter Try.func13, Try.ntmps13
  go_wp2_with fail
  have hbc := below_conv (w.alloc (.cells #[.int .i64 1, .int .i64 n, .string b] 35)) 5 b
  have hsz : (w.alloc (.cells #[.int .i64 1, .int .i64 n, .string b] 35)).heap.size = w.heap.size + 1 := by simp
  have hib := isB_conv (w.alloc (.cells #[.int .i64 1, .int .i64 n, .string b] 35)) 5 b
  rw [hsz] at hib
  have H2 := hide (And.intro (C.out.fresh _ _ _ H0.out.1 hbc) (And.intro (H0.out.2.1.later hbc) (And.intro (H0.out.2.2.1.trans (hbc.mono (Nat.le_trans hB HSZ.out))) (And.intro (H0.out.2.2.2.later hbc) hib))))
  clear hbc H0 hcv HSZ hsz hib
  have hms := mk_self b
  refine gen_calls (fun y => Hid (TA y t ∧ RtAt y gr t ∧ Below B w y ∧ RowAt y w.heap.size 35 #[.int .i64 1, .int .i64 n, .string b] ∧ IsB y (some ⟨w.heap.size + 1, 0, none⟩) b.size b.data.toList)) H2 ?_
  clear H2
  intro y H0
  have T := C.out.app y t _ b.size (grownCap (w.alloc (.cells #[.int .i64 1, .int .i64 n, .string b] 35)) b.size 0 5) _ H0.out.1 HOK0.out H0.out.2.2.2.2 (fun h => nomatch h) (by omega)
  rw [hms, HQ.out] at T
  refine T.mono ?_
  clear T hms
  rintro e w1 ⟨rfl, ht1, hk1⟩
  have hr1 := hk1.rt H0.out.2.1
  have hx1 := hk1.rows _ _ _ (by decide) (by decide) H0.out.2.2.2.1
  have H1 := hide (And.intro ht1 (And.intro hr1 (H0.out.2.2.1.trans hk1.below)))
  have c2 := hx1.cell 2 (.string b) rfl
  clear ht1 hk1 hr1 hx1 H0
  go_wp2_with fail
  have T := rapp8_any gr t b w1 H1.out.2.1 HOK0.out (by omega)
  rw [HQ.out] at T
  refine T.mono ?_
  clear T
  rintro e w2 ⟨rfl, hr2, hbt⟩
  have HT := hide (C.out.other _ _ _ _ H1.out.1 H1.out.2.1 hbt)
  have HR := hide hr2
  have HB := hide (H1.out.2.2.trans (hbt.below HG.out (Nat.le_trans hB H1.out.2.2.size)))
  clear hr2 hbt H1 c2 HN HOK0 HG HQ
  go_wp2_with fail
  refine wp_region_in (fun x => TA x u ∧ RtAt x gr u ∧ Below B w x) (by kernel_rfl) (by kernel_rfl) ⟨C.out.drew _ _ HT.out, HR.out.drew, ⟨HB.out.1, HB.out.2, HB.out.3, HB.out.4, HB.out.5⟩⟩ ?_
  repeat (first
    | go_big_quiet_skip
    | (refine wpQuiet_load rfl 9 (.tmp 66) rfl _ (.string u.b) rfl (fun y hy => load8_s y _ (hy.2.1.cell 0 _ rfl)) ?_; simp only [Act.put, Array.setIfInBounds, List.size_toArray, List.length_cons, List.length_nil, Nat.reduceAdd, Nat.reduceLT, ↓reduceDIte, List.set_toArray, List.set_cons_succ, List.set_cons_zero])
    | (refine wpQuiet_load rfl 3 (.tmp 76) rfl _ (.int .i64 (u.f : Int)) rfl (fun y hy => load8_i y _ (hy.2.1.cell 1 _ rfl)) ?_; simp only [Act.put, Array.setIfInBounds, List.size_toArray, List.length_cons, List.length_nil, Nat.reduceAdd, Nat.reduceLT, ↓reduceDIte, List.set_toArray, List.set_cons_succ, List.set_cons_zero])
    | (refine wpQuiet_load rfl 30 (.tmp 85) rfl _ (.int .u64 (u.s : Int)) rfl (fun y hy => load8_u y _ (hy.2.1.cell 3 _ rfl)) ?_; simp only [Act.put, Array.setIfInBounds, List.size_toArray, List.length_cons, List.length_nil, Nat.reduceAdd, Nat.reduceLT, ↓reduceDIte, List.set_toArray, List.set_cons_succ, List.set_cons_zero])
    | (refine wpQuiet_load rfl 3 (.tmp 94) rfl _ (.int .i64 (u.m : Int)) rfl (fun y hy => load8_i y _ (hy.2.1.cell 2 _ rfl)) ?_; simp only [Act.put, Array.setIfInBounds, List.size_toArray, List.length_cons, List.length_nil, Nat.reduceAdd, Nat.reduceLT, ↓reduceDIte, List.set_toArray, List.set_cons_succ, List.set_cons_zero])
    | (refine wpQuiet_call rfl 15 #[.pointer (some ⟨gt, 0, none⟩)] (.int .i64 (u.b.size : Int)) ?_ (fun x hC => (C.out.len x u hC.1 HOK.out).mono fun e x' h => ⟨h.1, h.2.1, h.2.2.rt hC.2.1, hC.2.2.trans h.2.2.below⟩) ?_; (intro x; go_simp); simp only [Act.put, Array.setIfInBounds, List.size_toArray, List.length_cons, List.length_nil, Nat.reduceAdd, Nat.reduceLT, ↓reduceDIte, List.set_toArray, List.set_cons_succ, List.set_cons_zero])
    | (refine wpQuiet_call rfl 18 #[.pointer (some ⟨gt, 0, none⟩)] (.int .i64 (u.f : Int)) ?_ (fun x hC => (C.out.synced x u hC.1 HOK.out).mono fun e x' h => ⟨h.1, h.2.1, h.2.2.rt hC.2.1, hC.2.2.trans h.2.2.below⟩) ?_; (intro x; go_simp); simp only [Act.put, Array.setIfInBounds, List.size_toArray, List.length_cons, List.length_nil, Nat.reduceAdd, Nat.reduceLT, ↓reduceDIte, List.set_toArray, List.set_cons_succ, List.set_cons_zero])
    | (refine wpQuiet_call rfl 22 #[.pointer (some ⟨gt, 0, none⟩)] (.int .u64 (u.s : Int)) ?_ (fun x hC => (C.out.start x u hC.1 HOK.out).mono fun e x' h => ⟨h.1, h.2.1, h.2.2.rt hC.2.1, hC.2.2.trans h.2.2.below⟩) ?_; (intro x; go_simp); simp only [Act.put, Array.setIfInBounds, List.size_toArray, List.length_cons, List.length_nil, Nat.reduceAdd, Nat.reduceLT, ↓reduceDIte, List.set_toArray, List.set_cons_succ, List.set_cons_zero])
    | (refine wpQuiet_call rfl 23 #[.pointer (some ⟨gt, 0, none⟩)] (.int .i64 (u.m : Int)) ?_ (fun x hC => (C.out.room x u hC.1 HOK.out).mono fun e x' h => ⟨h.1, h.2.1, h.2.2.rt hC.2.1, hC.2.2.trans h.2.2.below⟩) ?_; (intro x; go_simp); simp only [Act.put, Array.setIfInBounds, List.size_toArray, List.length_cons, List.length_nil, Nat.reduceAdd, Nat.reduceLT, ↓reduceDIte, List.set_toArray, List.set_cons_succ, List.set_cons_zero])
    | (refine wpQuiet_plain rfl (fun K hK => ?_); go_simp; (try simp only [beq_self_eq_true]); refine hK _ ?_; clear hK K))
  refine wpQuiet_nil ?_
  intro x hx
  have HX := hide hx
  clear hx HT HR HB C HOK
  go_wp2
  go_ret
  exact ⟨rfl, HX.out⟩
end Go.Proofs.Ytkmlgfmpcglfeaa

/-
  The contract of quaysidelaw08.does: sync.
-/
namespace Go.Proofs.Ytkmlgfmpcglfeaa
open Go.RowKit
set_option linter.unusedVariables false

set_option maxRecDepth 4000 in
set_option maxHeartbeats 3200000 in
theorem does_sync (gt gr B : Nat) (TA : World → Tp → Prop) (C : Hid (Cd gt gr B TA)) (t : Tp) (n : Int) (b : ByteArray) (w : World) (hB : B ≤ w.heap.size) (hg : B ≤ gr) (ht : TA w t) (hr : RtAt w gr t) (ok : t.ok) (hn : (Lit.int .i64 n).wf = true) (hb : b.size ≤ 65537) :
    Calls Try.prog 13 #[.pointer (some ⟨gt, 0, none⟩), .pointer (some ⟨gr, 0, none⟩), .agg #[.int .i64 2, .int .i64 n, .string b]] w fun e w' => e = .returned (.bool true) ∧ TA w' t.sync ∧ RtAt w' gr t.sync ∧ Below B w w' := by
  have HN := hide hn
  have hbx : Below w.heap.size w (w.alloc (.cells #[.int .i64 2, .int .i64 n, .string b] 35)) := (Below.refl _ _).alloc (Nat.le_refl _) _
  have H0 := hide (And.intro (C.out.fresh _ _ _ ht hbx) (And.intro (hr.later hbx) (And.intro (hbx.mono hB) (RowAt.new w 35 #[.int .i64 2, .int .i64 n, .string b]))))
  have HOK := hide (t.sync_ok ok)
  have HOK0 := hide ok
  have HG := hide hg
  have HSZ := hide hbx.size
  have hcv := fun w => Lib.run_convert_string_bytes (P := Try.prog) w 9 29 5 b Try.underlying9 Try.underlying29 Try.underlying5
  clear hbx ht hr ok hg hn
  obtain ⟨u, hq⟩ : ∃ u, t.sync = u := ⟨_, rfl⟩
  rw [hq] at HOK ⊢
  have HQ := hide hq
  clear hq
  go_enter Try.func13, Try.ntmps13
  go_wp2_with fail
  refine gen_calls (fun y => Hid (TA y t ∧ RtAt y gr t ∧ Below B w y ∧ RowAt y w.heap.size 35 #[.int .i64 2, .int .i64 n, .string b])) H0 ?_
  clear H0 hcv HSZ
  intro y H0
  refine (C.out.sync y t H0.out.1 HOK0.out).mono ?_
  rintro e w1 ⟨rfl, ht1, hk1⟩
  have e1 := HQ.out
  rw [e1] at ht1
  have H1 := hide (And.intro ht1 (And.intro (hk1.rt H0.out.2.1) (H0.out.2.2.1.trans hk1.below)))
  clear ht1 hk1 H0
  go_wp2_with fail
  refine (rsync8_any gr t w1 H1.out.2.1 HOK0.out).mono ?_
  rintro e w2 ⟨rfl, hr2, hbt⟩
  rw [e1] at hr2
  have HT := hide (C.out.other _ _ _ _ H1.out.1 H1.out.2.1 hbt)
  have HR := hide hr2
  have HB := hide (H1.out.2.2.trans (hbt.below HG.out (Nat.le_trans hB H1.out.2.2.size)))
  clear hr2 hbt H1 HN HOK0 HG HQ e1
  go_wp2_with fail
  refine wp_region_in (fun x => TA x u ∧ RtAt x gr u ∧ Below B w x) (by kernel_rfl) (by kernel_rfl) ⟨C.out.drew _ _ HT.out, HR.out.drew, ⟨HB.out.1, HB.out.2, HB.out.3, HB.out.4, HB.out.5⟩⟩ ?_
  repeat (first
    | go_big_quiet_skip
    | (refine wpQuiet_load rfl 9 (.tmp 66) rfl _ (.string u.b) rfl (fun y hy => load8_s y _ (hy.2.1.cell 0 _ rfl)) ?_; simp only [Act.put, Array.setIfInBounds, List.size_toArray, List.length_cons, List.length_nil, Nat.reduceAdd, Nat.reduceLT, ↓reduceDIte, List.set_toArray, List.set_cons_succ, List.set_cons_zero])
    | (refine wpQuiet_load rfl 3 (.tmp 76) rfl _ (.int .i64 (u.f : Int)) rfl (fun y hy => load8_i y _ (hy.2.1.cell 1 _ rfl)) ?_; simp only [Act.put, Array.setIfInBounds, List.size_toArray, List.length_cons, List.length_nil, Nat.reduceAdd, Nat.reduceLT, ↓reduceDIte, List.set_toArray, List.set_cons_succ, List.set_cons_zero])
    | (refine wpQuiet_load rfl 30 (.tmp 85) rfl _ (.int .u64 (u.s : Int)) rfl (fun y hy => load8_u y _ (hy.2.1.cell 3 _ rfl)) ?_; simp only [Act.put, Array.setIfInBounds, List.size_toArray, List.length_cons, List.length_nil, Nat.reduceAdd, Nat.reduceLT, ↓reduceDIte, List.set_toArray, List.set_cons_succ, List.set_cons_zero])
    | (refine wpQuiet_load rfl 3 (.tmp 94) rfl _ (.int .i64 (u.m : Int)) rfl (fun y hy => load8_i y _ (hy.2.1.cell 2 _ rfl)) ?_; simp only [Act.put, Array.setIfInBounds, List.size_toArray, List.length_cons, List.length_nil, Nat.reduceAdd, Nat.reduceLT, ↓reduceDIte, List.set_toArray, List.set_cons_succ, List.set_cons_zero])
    | (refine wpQuiet_call rfl 15 #[.pointer (some ⟨gt, 0, none⟩)] (.int .i64 (u.b.size : Int)) ?_ (fun x hC => (C.out.len x u hC.1 HOK.out).mono fun e x' h => ⟨h.1, h.2.1, h.2.2.rt hC.2.1, hC.2.2.trans h.2.2.below⟩) ?_; (intro x; go_simp); simp only [Act.put, Array.setIfInBounds, List.size_toArray, List.length_cons, List.length_nil, Nat.reduceAdd, Nat.reduceLT, ↓reduceDIte, List.set_toArray, List.set_cons_succ, List.set_cons_zero])
    | (refine wpQuiet_call rfl 18 #[.pointer (some ⟨gt, 0, none⟩)] (.int .i64 (u.f : Int)) ?_ (fun x hC => (C.out.synced x u hC.1 HOK.out).mono fun e x' h => ⟨h.1, h.2.1, h.2.2.rt hC.2.1, hC.2.2.trans h.2.2.below⟩) ?_; (intro x; go_simp); simp only [Act.put, Array.setIfInBounds, List.size_toArray, List.length_cons, List.length_nil, Nat.reduceAdd, Nat.reduceLT, ↓reduceDIte, List.set_toArray, List.set_cons_succ, List.set_cons_zero])
    | (refine wpQuiet_call rfl 22 #[.pointer (some ⟨gt, 0, none⟩)] (.int .u64 (u.s : Int)) ?_ (fun x hC => (C.out.start x u hC.1 HOK.out).mono fun e x' h => ⟨h.1, h.2.1, h.2.2.rt hC.2.1, hC.2.2.trans h.2.2.below⟩) ?_; (intro x; go_simp); simp only [Act.put, Array.setIfInBounds, List.size_toArray, List.length_cons, List.length_nil, Nat.reduceAdd, Nat.reduceLT, ↓reduceDIte, List.set_toArray, List.set_cons_succ, List.set_cons_zero])
    | (refine wpQuiet_call rfl 23 #[.pointer (some ⟨gt, 0, none⟩)] (.int .i64 (u.m : Int)) ?_ (fun x hC => (C.out.room x u hC.1 HOK.out).mono fun e x' h => ⟨h.1, h.2.1, h.2.2.rt hC.2.1, hC.2.2.trans h.2.2.below⟩) ?_; (intro x; go_simp); simp only [Act.put, Array.setIfInBounds, List.size_toArray, List.length_cons, List.length_nil, Nat.reduceAdd, Nat.reduceLT, ↓reduceDIte, List.set_toArray, List.set_cons_succ, List.set_cons_zero])
    | (refine wpQuiet_plain rfl (fun K hK => ?_); go_simp; (try simp only [beq_self_eq_true]); refine hK _ ?_; clear hK K))
  refine wpQuiet_nil ?_
  intro x hx
  have HX := hide hx
  clear hx HT HR HB C HOK
  go_wp2
  go_ret
  exact ⟨rfl, HX.out⟩
end Go.Proofs.Ytkmlgfmpcglfeaa

/-
  The contract of quaysidelaw08.does: chop.
-/
namespace Go.Proofs.Ytkmlgfmpcglfeaa
open Go.RowKit
set_option linter.unusedVariables false

set_option maxRecDepth 4000 in
set_option maxHeartbeats 3200000 in
theorem does_chop (gt gr B : Nat) (TA : World → Tp → Prop) (C : Hid (Cd gt gr B TA)) (t : Tp) (n : Int) (b : ByteArray) (w : World) (hB : B ≤ w.heap.size) (hg : B ≤ gr) (ht : TA w t) (hr : RtAt w gr t) (ok : t.ok) (hn : (Lit.int .i64 n).wf = true) (hb : b.size ≤ 65537) :
    Calls Try.prog 13 #[.pointer (some ⟨gt, 0, none⟩), .pointer (some ⟨gr, 0, none⟩), .agg #[.int .i64 4, .int .i64 n, .string b]] w fun e w' => e = .returned (.bool true) ∧ TA w' (t.chop n).1 ∧ RtAt w' gr (t.chop n).1 ∧ Below B w w' := by
  have HN := hide hn
  have hbx : Below w.heap.size w (w.alloc (.cells #[.int .i64 4, .int .i64 n, .string b] 35)) := (Below.refl _ _).alloc (Nat.le_refl _) _
  have H0 := hide (And.intro (C.out.fresh _ _ _ ht hbx) (And.intro (hr.later hbx) (And.intro (hbx.mono hB) (RowAt.new w 35 #[.int .i64 4, .int .i64 n, .string b]))))
  have HOK := hide (t.chop_ok ok n)
  have HOK0 := hide ok
  have HG := hide hg
  have HSZ := hide hbx.size
  have hcv := fun w => Lib.run_convert_string_bytes (P := Try.prog) w 9 29 5 b Try.underlying9 Try.underlying29 Try.underlying5
  clear hbx ht hr ok hg hn
  generalize hq : t.chop n = q at *
  obtain ⟨u, er⟩ := q
  have HQ := hide hq
  clear hq
  go_enter Try.func13, Try.ntmps13
  go_wp2_with fail
  refine gen_calls (fun y => Hid (TA y t ∧ RtAt y gr t ∧ Below B w y ∧ RowAt y w.heap.size 35 #[.int .i64 4, .int .i64 n, .string b])) H0 ?_
  clear H0 hcv HSZ
  intro y H0
  refine (C.out.chop y t n H0.out.1 HOK0.out HN.out).mono ?_
  rintro e w1 ⟨rfl, ht1, hk1⟩
  have e2 := congrArg Prod.snd HQ.out
  have e1 := congrArg Prod.fst HQ.out
  simp only at e1 e2
  rw [e2]
  rw [e1] at ht1
  have hr1 := hk1.rt H0.out.2.1
  have hx1 := hk1.rows _ _ _ (by decide) (by decide) H0.out.2.2.2
  have H1 := hide (And.intro ht1 (And.intro hr1 (H0.out.2.2.1.trans hk1.below)))
  have c1 := hx1.cell 1 (.int .i64 n) rfl
  clear ht1 hk1 hr1 hx1 H0
  go_wp2_with fail
  refine (rchop8_any gr t n w1 H1.out.2.1 HOK0.out).mono ?_
  rintro e w2 ⟨rfl, hr2, hbt⟩
  rw [e2]
  rw [e1] at hr2
  have HT := hide (C.out.other _ _ _ _ H1.out.1 H1.out.2.1 hbt)
  have HR := hide hr2
  have HB := hide (H1.out.2.2.trans (hbt.below HG.out (Nat.le_trans hB H1.out.2.2.size)))
  clear hr2 hbt H1 c1 HN HOK0 HG HQ e1 e2
  go_wp2_with fail
  refine wp_region_in (fun x => TA x u ∧ RtAt x gr u ∧ Below B w x) (by kernel_rfl) (by kernel_rfl) ⟨C.out.drew _ _ HT.out, HR.out.drew, ⟨HB.out.1, HB.out.2, HB.out.3, HB.out.4, HB.out.5⟩⟩ ?_
  repeat (first
    | go_big_quiet_skip
    | (refine wpQuiet_load rfl 9 (.tmp 66) rfl _ (.string u.b) rfl (fun y hy => load8_s y _ (hy.2.1.cell 0 _ rfl)) ?_; simp only [Act.put, Array.setIfInBounds, List.size_toArray, List.length_cons, List.length_nil, Nat.reduceAdd, Nat.reduceLT, ↓reduceDIte, List.set_toArray, List.set_cons_succ, List.set_cons_zero])
    | (refine wpQuiet_load rfl 3 (.tmp 76) rfl _ (.int .i64 (u.f : Int)) rfl (fun y hy => load8_i y _ (hy.2.1.cell 1 _ rfl)) ?_; simp only [Act.put, Array.setIfInBounds, List.size_toArray, List.length_cons, List.length_nil, Nat.reduceAdd, Nat.reduceLT, ↓reduceDIte, List.set_toArray, List.set_cons_succ, List.set_cons_zero])
    | (refine wpQuiet_load rfl 30 (.tmp 85) rfl _ (.int .u64 (u.s : Int)) rfl (fun y hy => load8_u y _ (hy.2.1.cell 3 _ rfl)) ?_; simp only [Act.put, Array.setIfInBounds, List.size_toArray, List.length_cons, List.length_nil, Nat.reduceAdd, Nat.reduceLT, ↓reduceDIte, List.set_toArray, List.set_cons_succ, List.set_cons_zero])
    | (refine wpQuiet_load rfl 3 (.tmp 94) rfl _ (.int .i64 (u.m : Int)) rfl (fun y hy => load8_i y _ (hy.2.1.cell 2 _ rfl)) ?_; simp only [Act.put, Array.setIfInBounds, List.size_toArray, List.length_cons, List.length_nil, Nat.reduceAdd, Nat.reduceLT, ↓reduceDIte, List.set_toArray, List.set_cons_succ, List.set_cons_zero])
    | (refine wpQuiet_call rfl 15 #[.pointer (some ⟨gt, 0, none⟩)] (.int .i64 (u.b.size : Int)) ?_ (fun x hC => (C.out.len x u hC.1 HOK.out).mono fun e x' h => ⟨h.1, h.2.1, h.2.2.rt hC.2.1, hC.2.2.trans h.2.2.below⟩) ?_; (intro x; go_simp); simp only [Act.put, Array.setIfInBounds, List.size_toArray, List.length_cons, List.length_nil, Nat.reduceAdd, Nat.reduceLT, ↓reduceDIte, List.set_toArray, List.set_cons_succ, List.set_cons_zero])
    | (refine wpQuiet_call rfl 18 #[.pointer (some ⟨gt, 0, none⟩)] (.int .i64 (u.f : Int)) ?_ (fun x hC => (C.out.synced x u hC.1 HOK.out).mono fun e x' h => ⟨h.1, h.2.1, h.2.2.rt hC.2.1, hC.2.2.trans h.2.2.below⟩) ?_; (intro x; go_simp); simp only [Act.put, Array.setIfInBounds, List.size_toArray, List.length_cons, List.length_nil, Nat.reduceAdd, Nat.reduceLT, ↓reduceDIte, List.set_toArray, List.set_cons_succ, List.set_cons_zero])
    | (refine wpQuiet_call rfl 22 #[.pointer (some ⟨gt, 0, none⟩)] (.int .u64 (u.s : Int)) ?_ (fun x hC => (C.out.start x u hC.1 HOK.out).mono fun e x' h => ⟨h.1, h.2.1, h.2.2.rt hC.2.1, hC.2.2.trans h.2.2.below⟩) ?_; (intro x; go_simp); simp only [Act.put, Array.setIfInBounds, List.size_toArray, List.length_cons, List.length_nil, Nat.reduceAdd, Nat.reduceLT, ↓reduceDIte, List.set_toArray, List.set_cons_succ, List.set_cons_zero])
    | (refine wpQuiet_call rfl 23 #[.pointer (some ⟨gt, 0, none⟩)] (.int .i64 (u.m : Int)) ?_ (fun x hC => (C.out.room x u hC.1 HOK.out).mono fun e x' h => ⟨h.1, h.2.1, h.2.2.rt hC.2.1, hC.2.2.trans h.2.2.below⟩) ?_; (intro x; go_simp); simp only [Act.put, Array.setIfInBounds, List.size_toArray, List.length_cons, List.length_nil, Nat.reduceAdd, Nat.reduceLT, ↓reduceDIte, List.set_toArray, List.set_cons_succ, List.set_cons_zero])
    | (refine wpQuiet_plain rfl (fun K hK => ?_); go_simp; (try simp only [beq_self_eq_true]); refine hK _ ?_; clear hK K))
  refine wpQuiet_nil ?_
  intro x hx
  have HX := hide hx
  clear hx HT HR HB C HOK
  go_wp2
  go_ret
  exact ⟨rfl, HX.out⟩
end Go.Proofs.Ytkmlgfmpcglfeaa
