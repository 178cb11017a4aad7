/-
  Texts that lean on one another, one behind the other: each opens with its own remark.
-/
import Derived.WalkKit
import Derived.Laws.CopyOwn
import Derived.Lib.ConvBytes
import Derived.Laws.IdiomStrings
import Derived.Laws.BytesArg
import Derived.Lib.AppendStr
import Derived.WalkSpells
import Derived.Laws.OwnMore
import Derived.Laws.ResultCell
import Derived.Laws.Tables
import Derived.Deep.Draws
import Derived.Test.YtohdmmfmjadipaaProg
import Derived.Deep.MidRow
import Derived.DeepKeys
import Derived.Laws.StructEq
import Derived.Deep.QuietTactic
import Derived.BigQuiet
import Derived.OpenShut

/-
  Plain facts on bytes and numbers, of no program: the number that bytes spell, the highest first; the bytes of a number; what 'Take' answers.
-/
namespace Go.Proofs.Ytohdmmfmjadipaa
open Go.RowKit
set_option linter.unusedVariables false

/-- A fact kept from the walk. -/
theorem hide {p : Prop} (h : p) : Hid p := h

/-- The number whose bytes these are, the highest first. -/
def be (bs : List UInt8) : Nat := bs.foldl (fun n b => n * 256 + b.toNat) 0

theorem be_nil : be [] = 0 := rfl

theorem be_snoc (bs : List UInt8) (b : UInt8) : be (bs ++ [b]) = be bs * 256 + b.toNat := by
  simp [be, List.foldl_append]

theorem foldl_lt : ∀ (bs : List UInt8) (n k : Nat), n < 256 ^ k → bs.foldl (fun n b => n * 256 + b.toNat) n < 256 ^ (k + bs.length)
  | [], n, k, h => by simpa using h
  | b :: bs, n, k, h => by
    have hb : b.toNat < 256 := b.toNat_lt
    have h2 : n * 256 + b.toNat < 256 ^ (k + 1) := by rw [Nat.pow_succ]; omega
    have h3 := foldl_lt bs (n * 256 + b.toNat) (k + 1) h2
    simp only [List.foldl_cons, List.length_cons]
    have e : k + (bs.length + 1) = k + 1 + bs.length := by omega
    rw [e]
    exact h3

theorem be_lt (bs : List UInt8) : be bs < 256 ^ bs.length := by
  have h := foldl_lt bs 0 0 (by simp)
  rw [Nat.zero_add] at h
  exact h

theorem be_take_succ (bs : List UInt8) (k : Nat) (h : k < bs.length) : be (bs.take (k + 1)) = be (bs.take k) * 256 + (bs.getD k 0).toNat := by
  rw [List.take_succ_eq_append_getElem h, be_snoc]
  simp [List.getD, List.getElem?_eq_getElem h]

theorem pow256_le (k : Nat) (h : k ≤ 8) : 256 ^ k ≤ 18446744073709551616 := by
  have h2 : 256 ^ k ≤ 256 ^ 8 := Nat.pow_le_pow_right (by omega) h
  have h3 : 256 ^ 8 = 18446744073709551616 := by decide
  omega

theorem pow256_le7 (k : Nat) (h : k ≤ 7) : 256 ^ k ≤ 72057594037927936 := by
  have h2 : 256 ^ k ≤ 256 ^ 7 := Nat.pow_le_pow_right (by omega) h
  have h3 : 256 ^ 7 = 72057594037927936 := by decide
  omega

theorem be_take_lt7 (bs : List UInt8) (k : Nat) (h : k < 8) : be (bs.take k) < 72057594037927936 := by
  have h1 := be_lt (bs.take k)
  have h2 : 256 ^ (bs.take k).length ≤ 256 ^ 7 := Nat.pow_le_pow_right (by omega) (by simp; omega)
  have h3 : 256 ^ 7 = 72057594037927936 := by decide
  omega

theorem be_take_lt (bs : List UInt8) (k : Nat) (h : k ≤ 8) : be (bs.take k) < 18446744073709551616 := by
  have h1 := be_lt (bs.take k)
  have h2 : 256 ^ (bs.take k).length ≤ 256 ^ 8 := Nat.pow_le_pow_right (by omega) (by simp; omega)
  have h3 : 256 ^ 8 = 18446744073709551616 := by decide
  omega

/-- The number of so many bytes at a place. -/
def beAt (bs : List UInt8) (p k : Nat) : Nat := be ((bs.drop p).take k)

theorem beAt_zero (bs : List UInt8) (p : Nat) : beAt bs p 0 = 0 := by simp [beAt, be_nil]

theorem beAt_succ (bs : List UInt8) (p k : Nat) (h : p + k < bs.length) : beAt bs p (k + 1) = beAt bs p k * 256 + (bs.getD (p + k) 0).toNat := by
  unfold beAt
  rw [be_take_succ _ _ (by simp; omega)]
  simp [List.getD]

theorem beAt_lt7 (bs : List UInt8) (p k : Nat) (h : k < 8) : beAt bs p k < 72057594037927936 := be_take_lt7 _ _ h
theorem beAt_lt (bs : List UInt8) (p k : Nat) (h : k ≤ 8) : beAt bs p k < 18446744073709551616 := be_take_lt _ _ h

/-- A shift by a byte and an or with a byte: the sum. -/
theorem shl_or (n b : Nat) (hn : n < 72057594037927936) (hb : b < 256) : bits .or .u64 ((n : Int) * 256) (b : Int) = ((n * 256 + b : Nat) : Int) := by
  have e : ((n : Int) * 256) = ((n * 256 : Nat) : Int) := by omega
  rw [e, u64_or_nat (n * 256) b (by omega) (by omega), nat_join 8 (n * 256) b (by omega) (by omega)]

theorem take_step (bs : List UInt8) (p j : Nat) (hj : j < 8) (h : p + j < bs.length) :
    bits .or .u64 ((beAt bs p j : Nat) * 256 : Int) (IntKind.u64.wrap ((bs[p + j]?.getD 0).toNat : Int)) = ((beAt bs p (j + 1) : Nat) : Int) := by
  have hb : (bs[p + j]?.getD 0).toNat < 256 := (bs[p + j]?.getD 0).toNat_lt
  have e : IntKind.u64.wrap ((bs[p + j]?.getD 0).toNat : Int) = ((bs[p + j]?.getD 0).toNat : Int) := by rw [IntKind.wrap_u64]; omega
  rw [e, shl_or _ _ (beAt_lt7 bs p j hj) hb, beAt_succ bs p j h]
  simp [List.getD]

theorem getD_str (s : ByteArray) (i : Nat) (h : i < s.size) : s.data.toList.getD i 0 = s[i] := by
  have h2 : i < s.data.toList.length := by simpa using h
  rw [List.getD, List.getElem?_eq_getElem h2]
  rfl

theorem rtake_step (s : ByteArray) (p j : Nat) (hj : j < 8) (h : p + j < s.size) :
    IntKind.u64.wrap ((beAt s.data.toList p j : Nat) * 256 + IntKind.u64.wrap (s[p + j].toNat : Int)) = ((beAt s.data.toList p (j + 1) : Nat) : Int) := by
  have hb : s[p + j].toNat < 256 := s[p + j].toNat_lt
  have hn := beAt_lt7 s.data.toList p j hj
  rw [beAt_succ s.data.toList p j (by simpa using h), getD_str s (p + j) h, IntKind.wrap_u64, IntKind.wrap_u64]
  omega

/-- The test of 'Fits' in the walk's form. -/
theorem shr_zero (n k : Nat) : ((n : Int) / 2 ^ (8 * k) == 0) = decide (n < 256 ^ k) := by
  have e : (2 : Int) ^ (8 * k) = ((256 ^ k : Nat) : Int) := by
    rw [Int.pow_mul]
    simp
  rw [e]
  have hp : 0 < 256 ^ k := Nat.pow_pos (by omega)
  rw [Bool.eq_iff_iff]
  simp only [beq_iff_eq, decide_eq_true_eq]
  constructor
  · intro h
    have h2 : ((n / 256 ^ k : Nat) : Int) = 0 := by rw [Int.natCast_ediv]; exact h
    have h3 : n / 256 ^ k = 0 := by omega
    exact (Nat.div_eq_zero_iff_lt hp).1 h3
  · intro h
    have h3 : n / 256 ^ k = 0 := (Nat.div_eq_zero_iff_lt hp).2 h
    have h2 : ((n / 256 ^ k : Nat) : Int) = 0 := by omega
    rw [Int.natCast_ediv] at h2
    exact h2

theorem byte_at (n m : Nat) : (n : Int) / 2 ^ (8 * m) % 256 = ((UInt8.ofNat (n / 256 ^ m)).toNat : Int) := by
  have e : (2 : Int) ^ (8 * m) = ((256 ^ m : Nat) : Int) := by
    rw [Int.pow_mul]
    simp
  rw [e, ← Int.natCast_ediv]
  simp

/-- A slice value whose elements read as these bytes. -/
def IsB (w : World) (a : Option Addr) (len : Nat) (bs : List UInt8) : Prop :=
  bs.length = len ∧ (0 < len → ∃ b off, a = some ⟨b, off, none⟩ ∧ b < w.heap.size ∧ ∀ j, j < len → w.cell? ⟨b, off + j, none⟩ = some (.int .u8 ((bs.getD j 0).toNat : Int)))

/-- Later worlds in which nothing old has turned read the same bytes. -/
theorem IsB.below {w w' : World} {a : Option Addr} {len : Nat} {bs : List UInt8} (h : IsB w a len bs) (hb : Below w.heap.size w w') : IsB w' a len bs := by
  refine ⟨h.1, fun hp => ?_⟩
  obtain ⟨b, off, ha, hlt, hc⟩ := h.2 hp
  exact ⟨b, off, ha, Nat.lt_of_lt_of_le hlt hb.size, fun j hj => (hb.cell (p := ⟨b, off + j, none⟩) hlt).trans (hc j hj)⟩

/-- .. where just the blocks below a number are as they were. -/
theorem IsB.later {w w' : World} {a : Option Addr} {len B : Nat} {bs : List UInt8} (h : IsB w a len bs) (hb : Below B w w') (ha : ∀ b off, a = some ⟨b, off, none⟩ → b < B) : IsB w' a len bs := by
  refine ⟨h.1, fun hp => ?_⟩
  obtain ⟨b, off, hab, hlt, hc⟩ := h.2 hp
  exact ⟨b, off, hab, Nat.lt_of_lt_of_le hlt hb.size, fun j hj => (hb.cell (p := ⟨b, off + j, none⟩) (ha b off hab)).trans (hc j hj)⟩

theorem IsB.nil (w : World) : IsB w none 0 [] := ⟨rfl, fun h => absurd h (by omega)⟩

/-- Bytes as cells. -/
def toV (bs : List UInt8) : List Value := bs.map fun b => Value.int .u8 (b.toNat : Int)
theorem toV_length (bs : List UInt8) : (toV bs).length = bs.length := by simp [toV]
theorem toV_append (a b : List UInt8) : toV (a ++ b) = toV a ++ toV b := by simp [toV]
theorem toV_one (bs : List UInt8) : ∀ v ∈ toV bs, v.oneCell' = true := by
  intro v hv
  obtain ⟨b, _, rfl⟩ := List.mem_map.1 hv
  rfl
theorem toV_get (bs : List UInt8) (j : Nat) (h : j < bs.length) : (toV bs)[j]? = some (.int .u8 ((bs.getD j 0).toNat : Int)) := by
  simp [toV, List.getD, List.getElem?_eq_getElem h]
theorem toV_some (bs : List UInt8) (j : Nat) (v : Value) (h : (toV bs)[j]? = some v) : j < bs.length ∧ v = .int .u8 ((bs.getD j 0).toNat : Int) := by
  have hj : j < bs.length := by
    have := (List.getElem?_eq_some_iff.1 h).1
    rwa [toV_length] at this
  rw [toV_get bs j hj] at h
  exact ⟨hj, (Option.some.inj h).symm⟩

theorem IsB.cells {w : World} {a : Option Addr} {len : Nat} {bs : List UInt8} (h : IsB w a len bs) (hp : 0 < bs.length) : ∃ ad, a = some ad ∧ ad.block < w.heap.size ∧ ∀ j v, (toV bs)[j]? = some v → w.cell? (ad.add j) = some v := by
  obtain ⟨b, off, ha, hlt, hc⟩ := h.2 (by have := h.1; omega)
  refine ⟨_, ha, hlt, fun j v hv => ?_⟩
  obtain ⟨hj, rfl⟩ := toV_some bs j v hv
  rw [Addr.add_lit]
  exact hc j (by have := h.1; omega)

/-- A row of noughts. -/
def zrow (n : Nat) : List Value := List.replicate n (.int .u8 0)
theorem zrow_length (n : Nat) : (zrow n).length = n := by simp [zrow]

theorem run_mk {P : Program} (t e : TypeId) (ht : P.underlying t = some (.slice e)) (hinfo : (P.info? e).map (fun i => (i.zero, i.size, i.bytes)) = some (some (.int .u8 0), 1, 1)) (l m : Nat) (h : l + m ≤ 281474976710656) (w : World) :
    (Instr.makeSlice t (.int .i64 (l : Int)) (.int .i64 ((l : Int) + (m : Int)))).run P w = .ok (.slice (some ⟨w.heap.size, 0, none⟩) l (l + m)) (w.alloc (.cells (zrow (l + m)).toArray e)) := by
  obtain ⟨i, hi, hz, hs, hb⟩ := info_parts hinfo
  have hr := run_make (P := P) w t e i (.int .u8 0) ht hi hz .i64 .i64 (l : Int) ((l : Int) + (m : Int)) (by omega) (by omega) (by rw [hb]; omega) (by omega)
  have e1 : ((l : Int) + (m : Int)).toNat = l + m := by omega
  have e2 : (Value.int .u8 0).cells = #[.int .u8 0] := rfl
  rw [hr, e1, hs, Nat.mul_one, e2]
  have e3 : madeCells #[Value.int .u8 0] (l + m) = (zrow (l + m)).toArray := by
    apply Array.ext'
    rw [toList_madeCells_one]
    rfl
  rw [e3]
  rfl

theorem splice_zero (L cs : List Value) : splice L 0 cs = cs ++ L.drop cs.length := by simp [splice]

/-- A fresh row of bytes with room behind: what 'longer' hands back. -/
theorem owns_spliced {w : World} {base g len m : Nat} {e : TypeId} {bs : List UInt8} (hb : bs.length = len) (hbase : base ≤ g) (hm : len + m ≤ 281474976710656)
    (h : w.heap[g]? = some (.cells (splice (zrow (len + m)) 0 (toV bs)).toArray e (0, 0))) : w.ownsRow base e 1 (.slice (some ⟨g, 0, none⟩) len (len + m)) len (toV bs) := by
  refine ⟨by rw [toV_length]; omega, .inr ⟨g, len + m, _, rfl, hbase, h, by omega, by unfold maxLen; omega, ?_, ?_⟩⟩
  · rw [List.size_toArray, length_splice _ _ _ (by rw [toV_length, zrow_length]; omega), zrow_length]
    omega
  · rw [splice_zero, Nat.mul_one]
    exact List.take_left' (by rw [toV_length]; omega)

theorem IsB.hpos {w : World} {a : Option Addr} {len : Nat} {bs : List UInt8} (hB : IsB w a len bs) (o : Obj) (x : Option Addr) : 0 < (toV bs).length → x = x ∧ ∃ ad, a = some ad ∧ ∀ j v, (toV bs)[j]? = some v → (w.alloc o).cell? (ad.add j) = some v := by
  intro hp
  rw [toV_length] at hp
  obtain ⟨ad, ha, _, hc⟩ := hB.cells hp
  refine ⟨rfl, ad, ha, fun j v hv => ?_⟩
  have hx := hc j v hv
  exact ((((Below.refl w.heap.size w).alloc (Nat.le_refl _) _).cell (p := ad.add j) (World.block_lt_of_cell? w _ hx))).trans hx

/-- The bytes of a number in so many bytes, the highest first. -/
def beB (k n : Nat) : List UInt8 := (List.range k).map fun i => UInt8.ofNat (n / 256 ^ (k - 1 - i))
theorem beB_length (k n : Nat) : (beB k n).length = k := by simp [beB]
theorem beB_take (k n j : Nat) (h : j < k) : (beB k n).take (j + 1) = (beB k n).take j ++ [UInt8.ofNat (n / 256 ^ (k - 1 - j))] := by
  rw [List.take_succ_eq_append_getElem (by rw [beB_length]; exact h)]
  simp [beB]

theorem put_row {w : World} {base g len j cap : Nat} {e : TypeId} {bs t t' : List UInt8} {x : UInt8} (h : w.ownsRow base e 1 (.slice (some ⟨g, 0, none⟩) (len + j + 1) cap) (len + j + 1) (toV (bs ++ t) ++ [.int .u8 (x.toNat : Int)])) (ht : t' = t ++ [x]) :
    w.ownsRow base e 1 (.slice (some ⟨g, 0, none⟩) (len + (j + 1)) cap) (len + (j + 1)) (toV (bs ++ t')) := by
  subst ht
  have e1 : toV (bs ++ (t ++ [x])) = toV (bs ++ t) ++ [.int .u8 (x.toNat : Int)] := by simp [toV]
  rw [e1]
  exact h

/-- '[]byte(s)': the new row reads as the string's bytes; nothing old has turned. -/
theorem isB_conv (w : World) (e : TypeId) (s : ByteArray) : IsB (Lib.bytesWorld w e s) (some ⟨w.heap.size, 0, none⟩) s.size s.data.toList := by
  refine ⟨by simp, fun _ => ⟨w.heap.size, 0, rfl, by rw [Lib.bytesWorld_size]; omega, fun j hj => ?_⟩⟩
  rw [Nat.zero_add, Lib.bytesWorld_cell w e s j hj]

theorem below_conv (w : World) (e : TypeId) (s : ByteArray) : Below w.heap.size w (Lib.bytesWorld w e s) :=
  ⟨rfl, rfl, rfl, by rw [Lib.bytesWorld_size]; omega, fun k hk => Lib.bytesWorld_at_old w e s k hk⟩

/-- 'string(b)' of a slice that reads as these bytes. -/
theorem run_toString {P : Program} (w : World) (src dst e : TypeId) (hs : P.underlying src = some (.slice e)) (he : P.underlying e = some (.int .u8)) (hd : P.underlying dst = some .string)
    (a : Option Addr) (len cap : Nat) (bs : List UInt8) (h : IsB w a len bs) : (convert src dst (.slice a len cap)).run P w = .ok (.string ⟨bs.toArray⟩) w := by
  obtain ⟨hl, hc⟩ := h
  cases a with
  | none =>
    have h0 : ¬ 0 < len := by
      intro hp
      obtain ⟨b, off, ha, _⟩ := hc hp
      simp at ha
    have h1 : bs = [] := List.eq_nil_of_length_eq_zero (by omega)
    subst h1
    exact run_convert_bytes_nil w src e hs he len cap dst hd
  | some ad =>
    subst hl
    refine run_convert_bytes_back w src dst e ad cap bs hs he hd fun j hj => ?_
    obtain ⟨b, off, ha, _, hcell⟩ := hc (by omega)
    obtain rfl := Option.some.inj ha
    rw [Addr.add_lit, hcell j hj]
    simp [List.getD, List.getElem?_eq_getElem hj]

/-- A cut of a slice reads as the cut of its bytes. -/
theorem IsB.cut {w : World} {b off len : Nat} {bs : List UInt8} (hb : bs.length = len) (hlt : b < w.heap.size) (hc : ∀ j, j < len → w.cell? ⟨b, off + j, none⟩ = some (.int .u8 ((bs.getD j 0).toNat : Int)))
    (p m : Nat) (h : p + m ≤ len) : IsB w (some ⟨b, off + p, none⟩) m ((bs.drop p).take m) := by
  refine ⟨by simp; omega, fun _ => ⟨b, off + p, rfl, hlt, fun j hj => ?_⟩⟩
  rw [Nat.add_assoc, hc (p + j) (by omega)]
  simp [List.getD, hj]

theorem IsB.none_left (w : World) (a : Option Addr) : IsB w a 0 [] := ⟨rfl, fun h => absurd h (by omega)⟩

/-- An owned row of bytes reads as these bytes. -/
theorem _root_.Go.World.ownsRow.isB {w : World} {base g n cap : Nat} {e : TypeId} {bs : List UInt8} (h : w.ownsRow base e 1 (.slice (some ⟨g, 0, none⟩) n cap) n (toV bs)) (hl : bs.length = n) : IsB w (some ⟨g, 0, none⟩) n bs := by
  refine ⟨hl, fun _ => ⟨g, 0, rfl, (h.lt g rfl).2, fun j hj => ?_⟩⟩
  rw [Nat.zero_add, h.cellAt j (by omega), toV_get bs j (by omega)]

/-- 'string([]byte{x})'. -/
theorem run_oneByte {P : Program} (w : World) (src dst e : TypeId) (hs : P.underlying src = some (.slice e)) (he : P.underlying e = some (.int .u8)) (hd : P.underlying dst = some .string) (x : Int) (y : UInt8) (hx : x = (y.toNat : Int)) :
    (convert src dst (.slice (some ⟨w.heap.size, 0, none⟩) 1 1)).run P (w.alloc (.cells #[.int .u8 x] e)) = .ok (.string ⟨#[y]⟩) (w.alloc (.cells #[.int .u8 x] e)) := by
  subst hx
  refine run_toString (w.alloc (.cells #[.int .u8 (y.toNat : Int)] e)) src dst e hs he hd (some ⟨w.heap.size, 0, none⟩) 1 1 [y] ⟨rfl, fun _ => ⟨w.heap.size, 0, rfl, by simp, fun j hj => ?_⟩⟩
  obtain rfl : j = 0 := by omega
  simp

/-- What 'Take' answers: the number and the error's number. -/
def takeS (bs : List UInt8) (p k : Int) : Int × Int :=
  if k < 1 ∨ 8 < k ∨ p < 0 then (0, 1)
  else if (bs.length : Int) - p < k then (0, 4)
  else (((beAt bs p.toNat k.toNat : Nat) : Int), 0)

theorem takeS_arg (bs : List UInt8) (p k : Int) (h : k < 1 ∨ 8 < k ∨ p < 0) : takeS bs p k = (0, 1) := by simp [takeS, h]
theorem takeS_short (bs : List UInt8) (p k : Int) (h : ¬ (k < 1 ∨ 8 < k ∨ p < 0)) (h2 : (bs.length : Int) - p < k) : takeS bs p k = (0, 4) := by
  unfold takeS; rw [if_neg h, if_pos h2]
theorem takeS_ok (bs : List UInt8) (p k : Int) (h : ¬ (k < 1 ∨ 8 < k ∨ p < 0)) (h2 : ¬ (bs.length : Int) - p < k) : takeS bs p k = (((beAt bs p.toNat k.toNat : Nat) : Int), 0) := by
  unfold takeS; rw [if_neg h, if_neg h2]


/-- What 'TakeText' answers: the text, the place behind it, the error's number. -/
def textS (bs : List UInt8) (p : Int) : List UInt8 × Int × Int :=
  if p < 0 then ([], 0, 1)
  else if (bs.length : Int) ≤ p then ([], 0, 4)
  else if (bs.length : Int) < p + 1 + ((bs.getD p.toNat 0).toNat : Int) then ([], 0, 4)
  else ((bs.drop (p.toNat + 1)).take (bs.getD p.toNat 0).toNat, p + 1 + ((bs.getD p.toNat 0).toNat : Int), 0)

theorem textS_arg (bs : List UInt8) (p : Int) (h : p < 0) : textS bs p = ([], 0, 1) := by simp [textS, h]
theorem textS_short (bs : List UInt8) (p : Int) (h : ¬ p < 0) (h2 : (bs.length : Int) ≤ p) : textS bs p = ([], 0, 4) := by
  unfold textS; rw [if_neg h, if_pos h2]
theorem textS_few (bs : List UInt8) (p m : Nat) (h2 : p < bs.length) (hm : (bs.getD p 0).toNat = m) (h3 : bs.length < p + 1 + m) : textS bs p = ([], 0, 4) := by
  unfold textS; rw [if_neg (by omega), if_neg (by omega), Int.toNat_natCast, hm, if_pos (by omega)]
theorem textS_ok (bs : List UInt8) (p m : Nat) (h2 : p < bs.length) (hm : (bs.getD p 0).toNat = m) (h3 : p + 1 + m ≤ bs.length) : textS bs p = ((bs.drop (p + 1)).take m, (p : Int) + 1 + (m : Int), 0) := by
  unfold textS; rw [if_neg (by omega), if_neg (by omega), Int.toNat_natCast, hm, if_neg (by omega)]

theorem extract_eq (s : ByteArray) (p m : Nat) (h : p + m ≤ s.size) : s.extract p (p + m) = ⟨((s.data.toList.drop p).take m).toArray⟩ := by
  apply ByteArray.ext
  rw [ByteArray.data_extract]
  apply Array.ext'
  rw [Array.toList_extract]
  simp [List.extract_eq_take_drop]


theorem beB_cons (k n : Nat) : beB (k + 1) n = UInt8.ofNat (n / 256 ^ k) :: beB k n := by
  apply List.ext_getElem
  · simp [beB]
  · intro i h1 h2
    cases i with
    | zero => simp [beB]
    | succ i =>
      simp only [beB, List.getElem_map, List.getElem_range, List.getElem_cons_succ]
      congr 3
      omega

theorem div_pow (n j : Nat) : n / 256 ^ j / 256 = n / 256 ^ (j + 1) := by rw [Nat.div_div_eq_div_mul, Nat.pow_succ]

theorem div_zero_iff (n k : Nat) : ((n / 256 ^ k : Nat) : Int) = 0 ↔ n < 256 ^ k := by
  have hp : 0 < 256 ^ k := Nat.pow_pos (by omega)
  have e := Nat.div_eq_zero_iff_lt (x := n) hp
  omega

/-- A number without its lowest bytes. -/
def sh (n j : Nat) : Nat := n / 256 ^ j
theorem sh_zero (n : Nat) : sh n 0 = n := by simp [sh]
theorem sh_succ (n j : Nat) : sh n j / 256 = sh n (j + 1) := div_pow n j
theorem sh_le (n j : Nat) : sh n j ≤ n := Nat.div_le_self _ _
theorem sh_test (n k : Nat) : (((sh n k : Nat) : Int) == 0) = decide (n < 256 ^ k) := by
  rw [Bool.eq_iff_iff]
  simp only [beq_iff_eq, decide_eq_true_eq]
  exact div_zero_iff n k

theorem toNat_ofNat (a : Nat) : (UInt8.ofNat a).toNat = a % 256 := by simp

theorem beB_low (k n : Nat) : beB k n = beB k (n % 256 ^ k) := by
  apply List.ext_getElem
  · simp [beB]
  · intro i h1 h2
    have hi : i < k := by simpa [beB] using h1
    simp only [beB, List.getElem_map, List.getElem_range]
    apply UInt8.toNat_inj.1
    rw [toNat_ofNat, toNat_ofNat]
    have e : 256 ^ k = 256 ^ (k - 1 - i) * (256 * 256 ^ i) := by
      rw [← Nat.pow_succ', ← Nat.pow_add]
      congr 1
      omega
    rw [e, Nat.mod_mul_right_div_self, Nat.mod_mul_right_mod]

theorem order_lex (q a b c d : Nat) (h1 : c < q) (h2 : d < q) : (a < b ∨ a = b ∧ c < d) ↔ q * a + c < q * b + d := by
  rcases Nat.lt_trichotomy a b with h | h | h
  · have e : q * (a + 1) ≤ q * b := Nat.mul_le_mul_left q h
    rw [Nat.mul_add] at e
    omega
  · subst h
    omega
  · have e : q * (b + 1) ≤ q * a := Nat.mul_le_mul_left q h
    rw [Nat.mul_add] at e
    omega

/-- Numbers of one width stand in the order of their bytes. -/
theorem less_beB : ∀ (k n m : Nat), n < 256 ^ k → m < 256 ^ k → Op.bytesLess (beB k n) (beB k m) = decide (n < m)
  | 0, n, m, hn, hm => by
    have h1 : n = 0 := by simpa using hn
    have h2 : m = 0 := by simpa using hm
    subst h1
    subst h2
    rfl
  | k + 1, n, m, hn, hm => by
    have hp : 0 < 256 ^ k := Nat.pow_pos (by omega)
    rw [beB_cons, beB_cons, beB_low k n, beB_low k m]
    have ih := less_beB k (n % 256 ^ k) (m % 256 ^ k) (Nat.mod_lt _ hp) (Nat.mod_lt _ hp)
    simp only [Op.bytesLess]
    rw [ih]
    have e1 := Nat.div_add_mod n (256 ^ k)
    have e2 := Nat.div_add_mod m (256 ^ k)
    have q1 : n / 256 ^ k < 256 := Nat.div_lt_of_lt_mul (by rw [Nat.pow_succ] at hn; exact hn)
    have q2 : m / 256 ^ k < 256 := Nat.div_lt_of_lt_mul (by rw [Nat.pow_succ] at hm; exact hm)
    have r1 := Nat.mod_lt n hp
    have r2 := Nat.mod_lt m hp
    generalize n / 256 ^ k = a at *
    generalize m / 256 ^ k = b at *
    generalize n % 256 ^ k = c at *
    generalize m % 256 ^ k = d at *
    generalize 256 ^ k = q at *
    rw [Bool.eq_iff_iff]
    simp only [Bool.or_eq_true, decide_eq_true_eq, Bool.and_eq_true, beq_iff_eq, UInt8.lt_iff_toNat_lt, ← UInt8.toNat_inj, toNat_ofNat]
    rw [Nat.mod_eq_of_lt q1, Nat.mod_eq_of_lt q2]
    subst e1
    subst e2
    exact order_lex q a b c d r1 r2


theorem mk_append (a b : List UInt8) : (⟨a.toArray⟩ : ByteArray) ++ ⟨b.toArray⟩ = ⟨(a ++ b).toArray⟩ := by
  rw [ByteArray.mk_append_mk]

theorem size_mk (l : List UInt8) : ByteArray.size ⟨l.toArray⟩ = l.length := by
  show l.toArray.size = l.length
  rw [List.size_toArray]

theorem str_cons (j n : Nat) : (⟨#[UInt8.ofNat (sh n j)]⟩ : ByteArray) ++ ⟨(beB j n).toArray⟩ = ⟨(beB (j + 1) n).toArray⟩ := by
  rw [beB_cons]
  exact mk_append [UInt8.ofNat (sh n j)] (beB j n)

theorem str_append (s : ByteArray) (b : List UInt8) : s ++ ⟨b.toArray⟩ = ⟨(s.data.toList ++ b).toArray⟩ := by
  have e : s = ⟨s.data.toList.toArray⟩ := by
    apply ByteArray.ext
    simp
  have h := mk_append s.data.toList b
  rw [← e] at h
  exact h


/-- A text's bytes: its length, and its own. -/
def textB (s : List UInt8) : List UInt8 := UInt8.ofNat s.length :: s
theorem textB_length (s : List UInt8) : (textB s).length = 1 + s.length := by simp [textB]; omega


/-- What is owned stays owned where nothing old has turned. -/
theorem ownsRow_below {w w' : World} {base n size : Nat} {e : TypeId} {v : Value} {xs : List Value} (h : w.ownsRow base e size v n xs) (hb : Below w.heap.size w w') : w'.ownsRow base e size v n xs := by
  refine ⟨h.1, ?_⟩
  rcases h.2 with hn | ⟨g, cap, cur, rfl, hbg, hg, rest⟩
  · exact .inl hn
  · exact .inr ⟨g, cap, cur, rfl, hbg, by rw [hb.block g (Array.getElem?_eq_some_iff.1 hg).1]; exact hg, rest⟩

theorem mk_self (s : ByteArray) : (⟨s.data.toList.toArray⟩ : ByteArray) = s := by
  apply ByteArray.ext
  simp

theorem data_length (s : ByteArray) : s.data.toList.length = s.size := by simp

/-- Whatever value owns a row of bytes: its shape, and that it reads as these bytes. -/
theorem shape_isB {w : World} {base n : Nat} {e : TypeId} {v : Value} {bs : List UInt8} (h : w.ownsRow base e 1 v n (toV bs)) : ∃ a cap, v = .slice a n cap ∧ n ≤ cap ∧ IsB w a n bs := by
  have hl : bs.length = n := by
    have := h.1
    rw [toV_length] at this
    omega
  rcases h.2 with ⟨rfl, rfl⟩ | ⟨g, cap, cur, rfl, _, _, hn, _⟩
  · exact ⟨none, 0, rfl, Nat.le_refl _, ⟨hl, fun h => absurd h (by omega)⟩⟩
  · exact ⟨_, cap, rfl, hn, World.ownsRow.isB h hl⟩

theorem ofNat_len (s : List UInt8) (h : s.length ≤ 255) : (UInt8.ofNat s.length).toNat = s.length := by
  rw [toNat_ofNat]
  omega

/-- A text that was put is taken again. -/
theorem textS_back (b s t : List UInt8) (h : s.length ≤ 255) : textS (b ++ textB s ++ t) (b.length : Int) = (s, (b.length : Int) + 1 + (s.length : Int), 0) := by
  have hg : ((b ++ textB s ++ t).getD b.length 0).toNat = s.length := by
    have e : (b ++ textB s ++ t).getD b.length 0 = UInt8.ofNat s.length := by simp [List.getD, textB]
    rw [e, ofNat_len s h]
  have hl : (b ++ textB s ++ t).length = b.length + (1 + s.length) + t.length := by
    rw [List.length_append, List.length_append, textB_length]
  rw [textS_ok _ b.length s.length (by omega) hg (by omega)]
  have e : ((b ++ textB s ++ t).drop (b.length + 1)).take s.length = s := by
    have e1 : b ++ textB s ++ t = (b ++ [UInt8.ofNat s.length]) ++ (s ++ t) := by simp [textB]
    rw [e1, List.drop_left' (by simp), List.take_left' rfl]
  rw [e]

theorem toV_str (bs : List UInt8) (s : ByteArray) : toV bs ++ Lib.strCells s = toV (bs ++ s.data.toList) := by simp [toV, Lib.strCells]


theorem be_cons (b : UInt8) (bs : List UInt8) : be (b :: bs) = b.toNat * 256 ^ bs.length + be bs := by
  have h : ∀ (l : List UInt8) (x : Nat), l.foldl (fun n b => n * 256 + b.toNat) x = x * 256 ^ l.length + be l := by
    intro l
    induction l with
    | nil => intro x; simp [be]
    | cons c l ih =>
      intro x
      have e : be (c :: l) = l.foldl (fun n b => n * 256 + b.toNat) (0 * 256 + c.toNat) := rfl
      rw [List.foldl_cons, ih, e, ih, List.length_cons, Nat.pow_succ, Nat.add_mul, Nat.zero_mul, Nat.zero_add, Nat.mul_assoc, Nat.mul_comm 256]
      omega
  have e : be (b :: bs) = bs.foldl (fun n b => n * 256 + b.toNat) (0 * 256 + b.toNat) := rfl
  rw [e, h]
  simp

/-- The bytes of a number spell it. -/
theorem be_beB : ∀ (k n : Nat), n < 256 ^ k → be (beB k n) = n
  | 0, n, h => by
    have h1 : n = 0 := by simpa using h
    subst h1
    rfl
  | k + 1, n, h => by
    have hp : 0 < 256 ^ k := Nat.pow_pos (by omega)
    have q1 : n / 256 ^ k < 256 := Nat.div_lt_of_lt_mul (by rw [Nat.pow_succ] at h; exact h)
    rw [beB_cons, be_cons, beB_length, toNat_ofNat, Nat.mod_eq_of_lt q1, beB_low k n, be_beB k _ (Nat.mod_lt _ hp), Nat.mul_comm]
    exact Nat.div_add_mod n (256 ^ k)

/-- What was put is taken again. -/
theorem takeS_back (b t : List UInt8) (k n : Nat) (h1 : 1 ≤ k) (h2 : k ≤ 8) (hn : n < 256 ^ k) : takeS (b ++ beB k n ++ t) (b.length : Int) (k : Int) = ((n : Int), 0) := by
  have hl : (b ++ beB k n ++ t).length = b.length + k + t.length := by rw [List.length_append, List.length_append, beB_length]
  rw [takeS_ok _ _ _ (by omega) (by omega), Int.toNat_natCast, Int.toNat_natCast]
  have e : beAt (b ++ beB k n ++ t) b.length k = n := by
    unfold beAt
    rw [List.append_assoc, List.drop_left' rfl, List.take_left' (beB_length k n), be_beB k n hn]
  rw [e]


/-- A new row of bytes, whatever its mark. -/
theorem isB_lit (w : World) (C : Array Value) (e : TypeId) (fr : Nat × Nat) (bs : List UInt8) (n : Nat) (hC : C.toList = toV bs) (hn : bs.length = n) : IsB (w.alloc (.cells C e fr)) (some ⟨w.heap.size, 0, none⟩) n bs := by
  refine ⟨hn, fun _ => ⟨w.heap.size, 0, rfl, by simp, fun j hj => ?_⟩⟩
  rw [Nat.zero_add, World.cell?_alloc_mark, ← Array.getElem?_toList, hC, toV_get bs j (by omega)]


theorem run_mkn {P : Program} (t e : TypeId) (ht : P.underlying t = some (.slice e)) (hinfo : (P.info? e).map (fun i => (i.zero, i.size, i.bytes)) = some (some (.int .u8 0), 1, 1)) (l : Nat) (h : l ≤ 281474976710656) (w : World) :
    (Instr.makeSlice t (.int .i64 (l : Int)) (.int .i64 (l : Int))).run P w = .ok (.slice (some ⟨w.heap.size, 0, none⟩) l l) (w.alloc (.cells (zrow l).toArray e)) := by
  have hr := run_mk t e ht hinfo l 0 (by omega) w
  simpa using hr


/-- A row that is owned and not empty: where it lies. -/
theorem own_slice {w : World} {base n size : Nat} {e : TypeId} {v : Value} {xs : List Value} (h : w.ownsRow base e size v n xs) (hn : 0 < n) : ∃ g cap, v = .slice (some ⟨g, 0, none⟩) n cap ∧ base ≤ g := by
  rcases h.2 with ⟨_, h0⟩ | ⟨g, cap, cur, hv, hb, _⟩
  · omega
  · exact ⟨g, cap, hv, hb⟩

end Go.Proofs.Ytohdmmfmjadipaa

/-
  Plain facts on the sum, of no program: the register's step is linear and loses nothing; bytes are bits, the lowest first; bits turned within 32 side by side are told.
-/
namespace Go.Proofs.Ytohdmmfmjadipaa
open Go.RowKit
set_option linter.unusedVariables false

theorem xlc (x y z : Nat) : x ^^^ (y ^^^ z) = y ^^^ (x ^^^ z) := by rw [← Nat.xor_assoc, Nat.xor_comm x y, Nat.xor_assoc]
theorem xz (a b : Nat) : a ^^^ b = 0 ↔ a = b := by
  constructor
  · intro h
    have h1 : a ^^^ b ^^^ b = 0 ^^^ b := by rw [h]
    rwa [Nat.xor_assoc, Nat.xor_self, Nat.xor_zero, Nat.zero_xor] at h1
  · intro h
    rw [h, Nat.xor_self]
theorem xm2 (a b : Nat) : (a ^^^ b) % 2 = (a + b) % 2 := by
  have h : (a ^^^ b) % 2 = 1 ↔ ¬ (a % 2 = 1 ↔ b % 2 = 1) := Nat.xor_mod_two_eq_one
  omega

/-- The polynomial, behind a name. -/
def poly : Nat := 3988292384
/-- All 32 bits. -/
def ones : Nat := 4294967295
theorem poly_lt : poly < 2 ^ 32 := by decide
theorem ones_lt : ones < 2 ^ 32 := by decide
theorem poly_ge : 2 ^ 31 ≤ poly := by decide

/-- One step of the register. -/
def stp (r : Nat) : Nat := if r % 2 = 1 then r / 2 ^^^ poly else r / 2

theorem stp_zero : stp 0 = 0 := rfl

theorem stp_lt (r : Nat) (h : r < 2 ^ 32) : stp r < 2 ^ 32 := by
  unfold stp
  split
  · exact Nat.xor_lt_two_pow (by omega) poly_lt
  · omega

theorem stp_xor (a b : Nat) : stp (a ^^^ b) = stp a ^^^ stp b := by
  unfold stp
  have h1 : (a ^^^ b) / 2 = a / 2 ^^^ b / 2 := Nat.xor_div_two
  have h2 : (a ^^^ b) % 2 = (a + b) % 2 := xm2 a b
  rw [h1]
  have c1 : ∀ x y z : Nat, x ^^^ (y ^^^ z) = y ^^^ (x ^^^ z) := xlc
  by_cases ha : a % 2 = 1
  · by_cases hb : b % 2 = 1
    · rw [if_pos ha, if_pos hb, if_neg (by omega)]
      rw [Nat.xor_assoc, c1 poly, Nat.xor_self, Nat.xor_zero]
    · rw [if_pos ha, if_neg hb, if_pos (by omega)]
      rw [Nat.xor_assoc, Nat.xor_assoc, Nat.xor_comm (b / 2)]
  · by_cases hb : b % 2 = 1
    · rw [if_neg ha, if_pos hb, if_pos (by omega), Nat.xor_assoc]
    · rw [if_neg ha, if_neg hb, if_neg (by omega)]

theorem stp_ker (r : Nat) (h : r < 2 ^ 32) (h0 : stp r = 0) : r = 0 := by
  unfold stp at h0
  split at h0
  · have h1 : r / 2 = poly := (xz _ _).1 h0
    have h2 := poly_ge
    omega
  · omega

/-- So many steps. -/
def stps : Nat → Nat → Nat
  | 0, r => r
  | n + 1, r => stps n (stp r)

theorem stps_zero (n : Nat) : stps n 0 = 0 := by
  induction n with
  | zero => rfl
  | succ n ih => rw [stps, stp_zero, ih]
theorem stps_lt : ∀ (n r : Nat), r < 2 ^ 32 → stps n r < 2 ^ 32
  | 0, _, h => h
  | n + 1, r, h => stps_lt n (stp r) (stp_lt r h)
theorem stps_xor : ∀ (n a b : Nat), stps n (a ^^^ b) = stps n a ^^^ stps n b
  | 0, _, _ => rfl
  | n + 1, a, b => by rw [stps, stps, stps, stp_xor, stps_xor n]
theorem stps_ker : ∀ (n r : Nat), r < 2 ^ 32 → stps n r = 0 → r = 0
  | 0, _, _, h => h
  | n + 1, r, h, h0 => stp_ker r h (stps_ker n (stp r) (stp_lt r h) h0)
theorem stps_inj (n a b : Nat) (ha : a < 2 ^ 32) (hb : b < 2 ^ 32) (h : stps n a = stps n b) : a = b := by
  have h1 : stps n (a ^^^ b) = 0 := by rw [stps_xor, h, Nat.xor_self]
  exact (xz _ _).1 (stps_ker n _ (Nat.xor_lt_two_pow ha hb) h1)
theorem stps_add : ∀ (m n r : Nat), stps (m + n) r = stps n (stps m r)
  | 0, n, r => by rw [Nat.zero_add]; rfl
  | m + 1, n, r => by
    have e : m + 1 + n = (m + n) + 1 := by omega
    rw [e, stps, stps, stps_add m n]
theorem stps_succ (n r : Nat) : stps (n + 1) r = stp (stps n r) := by
  rw [stps_add n 1 r]
  rfl

/-- The register behind one byte, and behind bytes. -/
def byteS (r : Nat) (b : UInt8) : Nat := stps 8 (r ^^^ b.toNat)
def crun (r : Nat) (bs : List UInt8) : Nat := bs.foldl byteS r
/-- The sum. -/
def crc (bs : List UInt8) : Nat := ones ^^^ crun ones bs
def crcMore (s : Nat) (bs : List UInt8) : Nat := ones ^^^ crun (ones ^^^ s) bs

theorem u8_lt32 (b : UInt8) : b.toNat < 2 ^ 32 := by have := b.toNat_lt; omega
theorem byteS_lt (r : Nat) (b : UInt8) (h : r < 2 ^ 32) : byteS r b < 2 ^ 32 := stps_lt 8 _ (Nat.xor_lt_two_pow h (u8_lt32 b))
theorem crun_lt : ∀ (bs : List UInt8) (r : Nat), r < 2 ^ 32 → crun r bs < 2 ^ 32
  | [], _, h => h
  | b :: bs, r, h => crun_lt bs (byteS r b) (byteS_lt r b h)
theorem crc_lt (bs : List UInt8) : crc bs < 2 ^ 32 := Nat.xor_lt_two_pow ones_lt (crun_lt bs ones ones_lt)
theorem crun_nil (r : Nat) : crun r [] = r := rfl
theorem crun_snoc (r : Nat) (bs : List UInt8) (b : UInt8) : crun r (bs ++ [b]) = byteS (crun r bs) b := by simp [crun, List.foldl_append]
theorem crun_append (r : Nat) (a b : List UInt8) : crun r (a ++ b) = crun (crun r a) b := by simp [crun, List.foldl_append]
theorem ones_ones (x : Nat) : ones ^^^ (ones ^^^ x) = x := by rw [← Nat.xor_assoc, Nat.xor_self, Nat.zero_xor]
theorem crc_more (a b : List UInt8) : crc (a ++ b) = crcMore (crc a) b := by
  unfold crc crcMore
  rw [ones_ones, crun_append]

/-- Byte for byte xor. -/
def xorL (a b : List UInt8) : List UInt8 := List.zipWith (· ^^^ ·) a b

theorem xor4 (r s x y : Nat) : (r ^^^ s) ^^^ (x ^^^ y) = (r ^^^ x) ^^^ (s ^^^ y) := by
  rw [Nat.xor_assoc, xlc s, ← Nat.xor_assoc]

theorem byteS_xor (r s : Nat) (x y : UInt8) : byteS (r ^^^ s) (x ^^^ y) = byteS r x ^^^ byteS s y := by
  unfold byteS
  rw [UInt8.toNat_xor, xor4, stps_xor]

theorem crun_xor : ∀ (a b : List UInt8) (r s : Nat), a.length = b.length → crun (r ^^^ s) (xorL a b) = crun r a ^^^ crun s b
  | [], [], _, _, _ => rfl
  | x :: a, y :: b, r, s, h => by
    have h1 : a.length = b.length := by simpa using h
    have e : xorL (x :: a) (y :: b) = (x ^^^ y) :: xorL a b := rfl
    have e1 : crun (r ^^^ s) ((x ^^^ y) :: xorL a b) = crun (byteS (r ^^^ s) (x ^^^ y)) (xorL a b) := rfl
    rw [e, e1, byteS_xor, crun_xor a b _ _ h1]
    rfl
  | [], _ :: _, _, _, h => by simp at h
  | _ :: _, [], _, _, h => by simp at h

theorem crc_linear (a b c : List UInt8) (h1 : b.length = a.length) (h2 : c.length = a.length) : crc a ^^^ crc b ^^^ crc c ^^^ crc (xorL (xorL a b) c) = 0 := by
  have e1 : ones = ones ^^^ ones ^^^ ones := by rw [Nat.xor_self, Nat.zero_xor]
  have hl : (xorL a b).length = c.length := by simp [xorL, h1, h2]
  have e2 : crun ones (xorL (xorL a b) c) = crun ones a ^^^ crun ones b ^^^ crun ones c := by
    have e3 : crun ones (xorL (xorL a b) c) = crun (ones ^^^ ones ^^^ ones) (xorL (xorL a b) c) := by rw [← e1]
    rw [e3, crun_xor _ _ _ _ hl, crun_xor _ _ _ _ h1.symm]
  unfold crc
  rw [e2]
  generalize crun ones a = x
  generalize crun ones b = y
  generalize crun ones c = z
  rw [xz]
  have e5 : ones ^^^ x ^^^ (ones ^^^ y) = x ^^^ y := by rw [xor4, Nat.xor_self, Nat.zero_xor]
  rw [e5]
  rw [xlc]


/-- A bit of bytes, counted from the lowest of the first on. -/
def bitAt (s : List UInt8) (j : Nat) : Bool := (s.getD (j / 8) 0).toNat.testBit (j % 8)
/-- The register behind one bit, and behind so many bits. -/
def bst (r : Nat) (b : Bool) : Nat := stp (r ^^^ b.toNat)
def bruns (r : Nat) (f : Nat → Bool) : Nat → Nat
  | 0 => r
  | n + 1 => bst (bruns r f n) (f n)

theorem stp_low (q c : Nat) : stp (q ^^^ c) = stp (q ^^^ (c % 2)) ^^^ (c / 2) := by
  have e1 : (q ^^^ c) / 2 = q / 2 ^^^ c / 2 := Nat.xor_div_two
  have e2 : (q ^^^ (c % 2)) / 2 = q / 2 ^^^ (c % 2) / 2 := Nat.xor_div_two
  have e3 : (c % 2) / 2 = 0 := by omega
  have p1 := xm2 q c
  have p2 := xm2 q (c % 2)
  unfold stp
  rw [e1, e2, e3, Nat.xor_zero]
  by_cases h : (q ^^^ c) % 2 = 1
  · rw [if_pos h, if_pos (by omega), Nat.xor_assoc, Nat.xor_assoc, Nat.xor_comm poly]
  · rw [if_neg h, if_neg (by omega)]

theorem bit_mod (c i : Nat) : (c.testBit i).toNat = c / 2 ^ i % 2 := by
  rw [Nat.testBit_eq_decide_div_mod_eq]
  have h : c / 2 ^ i % 2 = 0 ∨ c / 2 ^ i % 2 = 1 := by omega
  rcases h with h | h <;> simp [h]

/-- Bit by bit: so many steps over a number that is xored in at once. -/
theorem bits_at (r : Nat) (f : Nat → Bool) (n c : Nat) : ∀ (i : Nat), (∀ j, j < i → f (n + j) = c.testBit j) → stps i (bruns r f n ^^^ c) = bruns r f (n + i) ^^^ (c / 2 ^ i)
  | 0, _ => by simp [stps]
  | i + 1, h => by
    rw [stps_succ, bits_at r f n c i (fun j hj => h j (by omega)), stp_low]
    have e : bruns r f (n + (i + 1)) = bst (bruns r f (n + i)) (f (n + i)) := rfl
    rw [e, h i (by omega), bst, bit_mod, Nat.div_div_eq_div_mul, ← Nat.pow_succ]

theorem crun_bits (r : Nat) (s : List UInt8) : ∀ (k : Nat), k ≤ s.length → crun r (s.take k) = bruns r (bitAt s) (8 * k)
  | 0, _ => by simp [crun, bruns]
  | k + 1, h => by
    have hk : k < s.length := h
    rw [List.take_succ_eq_append_getElem hk, crun_snoc, crun_bits r s k (by omega), byteS]
    have hb := bits_at r (bitAt s) (8 * k) s[k].toNat 8 (fun j hj => by
      have e1 : (8 * k + j) / 8 = k := by omega
      have e2 : (8 * k + j) % 8 = j := by omega
      simp [bitAt, e1, e2, List.getD, List.getElem?_eq_getElem hk])
    have e3 : s[k].toNat / 2 ^ 8 = 0 := by have := s[k].toNat_lt; omega
    rw [e3, Nat.xor_zero] at hb
    exact hb

theorem crun_bruns (r : Nat) (s : List UInt8) : crun r s = bruns r (bitAt s) (8 * s.length) := by
  have h := crun_bits r s s.length (Nat.le_refl _)
  rwa [List.take_length] at h

theorem bruns_congr (r : Nat) (f g : Nat → Bool) : ∀ (n : Nat), (∀ j, j < n → f j = g j) → bruns r f n = bruns r g n
  | 0, _ => rfl
  | n + 1, h => by rw [bruns, bruns, bruns_congr r f g n (fun j hj => h j (by omega)), h n (by omega)]

theorem bool_xor (a b : Bool) : (a ^^ b).toNat = a.toNat ^^^ b.toNat := by cases a <;> cases b <;> rfl

theorem bruns_xor (r s : Nat) (f g : Nat → Bool) : ∀ (n : Nat), bruns (r ^^^ s) (fun j => f j ^^ g j) n = bruns r f n ^^^ bruns s g n
  | 0 => rfl
  | n + 1 => by rw [bruns, bruns, bruns, bruns_xor r s f g n, bst, bst, bst, bool_xor, xor4, stp_xor]

/-- Bits within 32 side by side. -/
def win (k t : Nat) (j : Nat) : Bool := decide (k ≤ j) && decide (j < k + 32) && t.testBit (j - k)

theorem win_ahead (k t : Nat) : ∀ (n : Nat), n ≤ k → bruns 0 (win k t) n = 0
  | 0, _ => rfl
  | n + 1, h => by
    have e : win k t n = false := by simp [win]; omega
    rw [bruns, win_ahead k t n (by omega), e]
    rfl

theorem win_behind (k t : Nat) : ∀ (m : Nat), bruns 0 (win k t) (k + 32 + m) = stps m (bruns 0 (win k t) (k + 32))
  | 0 => rfl
  | m + 1 => by
    have e : win k t (k + 32 + m) = false := by simp [win]; omega
    have e2 : bruns 0 (win k t) (k + 32 + (m + 1)) = bst (bruns 0 (win k t) (k + 32 + m)) (win k t (k + 32 + m)) := rfl
    rw [e2, e, win_behind k t m, stps_succ, bst]
    simp

theorem win_lt (k t : Nat) : ∀ (n : Nat), bruns 0 (win k t) n < 2 ^ 32
  | 0 => by rw [bruns]; omega
  | n + 1 => by
    rw [bruns, bst]
    refine stp_lt _ (Nat.xor_lt_two_pow (win_lt k t n) ?_)
    have := Bool.toNat_lt (win k t n)
    omega

theorem win_told (k t n : Nat) (ht : t < 2 ^ 32) (h0 : t ≠ 0) (hn : k + 32 ≤ n) : bruns 0 (win k t) n ≠ 0 := by
  have hb := bits_at 0 (win k t) k t 32 (fun j hj => by
    have e : k + j - k = j := by omega
    simp [win, hj])
  rw [win_ahead k t k (Nat.le_refl _), Nat.zero_xor, Nat.div_eq_of_lt ht, Nat.xor_zero] at hb
  intro h
  obtain ⟨m, rfl⟩ := Nat.le.dest hn
  rw [win_behind] at h
  have h1 := stps_ker m _ (win_lt k t _) h
  rw [← hb] at h1
  exact h0 (stps_ker 32 t ht h1)

/-- Bits turned within 32 side by side turn the register. -/
theorem turned (r : Nat) (s s' : List UInt8) (k t : Nat) (ht : t < 2 ^ 32) (h0 : t ≠ 0) (hl : s'.length = s.length) (hk : k + 32 ≤ 8 * s.length)
    (hb : ∀ j, j < 8 * s.length → bitAt s' j = (bitAt s j ^^ win k t j)) : crun r s' ≠ crun r s := by
  intro h
  rw [crun_bruns, crun_bruns, hl, bruns_congr r (bitAt s') (fun j => bitAt s j ^^ win k t j) _ hb] at h
  have e := bruns_xor r 0 (bitAt s) (win k t) (8 * s.length)
  rw [Nat.xor_zero] at e
  rw [e] at h
  have h2 : bruns 0 (win k t) (8 * s.length) = 0 := by
    have h3 : bruns r (bitAt s) (8 * s.length) ^^^ (bruns r (bitAt s) (8 * s.length) ^^^ bruns 0 (win k t) (8 * s.length)) = bruns r (bitAt s) (8 * s.length) ^^^ bruns r (bitAt s) (8 * s.length) := by rw [h]
    rwa [← Nat.xor_assoc, Nat.xor_self, Nat.zero_xor] at h3
  exact win_told k t _ ht h0 hk h2

/-- The number whose bytes these are, the lowest first. -/
def leN : List UInt8 → Nat
  | [] => 0
  | b :: t => b.toNat + 256 * leN t
def leB (x : Nat) : List UInt8 := [UInt8.ofNat x, UInt8.ofNat (x / 256), UInt8.ofNat (x / 65536), UInt8.ofNat (x / 16777216)]
theorem leB_length (x : Nat) : (leB x).length = 4 := rfl
theorem leN_leB (x : Nat) (h : x < 2 ^ 32) : leN (leB x) = x := by
  simp only [leB, leN, UInt8.toNat_ofNat']
  omega
theorem leN_lt : ∀ (t : List UInt8), leN t < 256 ^ t.length
  | [] => by simp [leN]
  | b :: t => by
    have := leN_lt t
    have hb := b.toNat_lt
    rw [List.length_cons, Nat.pow_succ, leN]
    omega

theorem stps_double : ∀ (n x : Nat), stps n (2 ^ n * x) = x
  | 0, x => by simp [stps]
  | n + 1, x => by
    have e : stp (2 ^ (n + 1) * x) = 2 ^ n * x := by
      have e2 : 2 ^ (n + 1) * x = 2 * (2 ^ n * x) := by rw [Nat.pow_succ, Nat.mul_comm (2 ^ n) 2, Nat.mul_assoc]
      rw [e2, stp, if_neg (by omega)]
      omega
    rw [stps, e, stps_double n x]

theorem add_xor (b y : Nat) (h : b < 256) : b + 256 * y = b ^^^ (256 * y) := by
  apply Nat.eq_of_testBit_eq
  intro i
  have e1 : b + 256 * y = 2 ^ 8 * y + b := by omega
  have e2 : 256 * y = 2 ^ 8 * y := by omega
  rw [e1, Nat.testBit_two_pow_mul_add y (show b < 2 ^ 8 by omega), e2, Nat.testBit_xor, Nat.testBit_two_pow_mul]
  by_cases hi : i < 8
  · have h8 : ¬ i ≥ 8 := by omega
    simp [hi, h8]
  · have h8 : i ≥ 8 := by omega
    have hb : b.testBit i = false := Nat.testBit_lt_two_pow (Nat.lt_of_lt_of_le (show b < 2 ^ 8 by omega) (Nat.pow_le_pow_right (by omega) h8))
    simp [hi, h8, hb]

theorem crun_le : ∀ (t : List UInt8) (r : Nat), crun r t = stps (8 * t.length) (r ^^^ leN t)
  | [], r => by simp [crun, leN, stps]
  | b :: t, r => by
    have e : crun r (b :: t) = crun (byteS r b) t := rfl
    have e1 : 8 * (b :: t).length = 8 + 8 * t.length := by rw [List.length_cons]; omega
    have e2 : stps 8 (256 * leN t) = leN t := stps_double 8 (leN t)
    have e3 : stps 8 (r ^^^ b.toNat ^^^ 256 * leN t) = stps 8 (r ^^^ b.toNat) ^^^ leN t := by rw [stps_xor 8 (r ^^^ b.toNat), e2]
    rw [e, crun_le t, byteS, e1, stps_add, leN, add_xor _ _ b.toNat_lt, ← Nat.xor_assoc, e3]

/-- What all sealed bytes leave in the register. -/
def rest : Nat := stps 32 ones

theorem sealed_iff (b t : List UInt8) (h : t.length = 4) : leN t = crc b ↔ crun ones (b ++ t) = rest := by
  have h32 : leN t < 2 ^ 32 := by
    have := leN_lt t
    rw [h] at this
    exact this
  have hc := crun_lt b ones ones_lt
  rw [crun_append, crun_le t, h, rest]
  constructor
  · intro e
    rw [e, crc, xlc, Nat.xor_self, Nat.xor_zero]
  · intro e
    have e1 := stps_inj 32 _ _ (Nat.xor_lt_two_pow hc h32) ones_lt e
    generalize hx : crun ones b = x at *
    rw [crc, hx, ← e1, Nat.xor_comm x, Nat.xor_assoc, Nat.xor_self, Nat.xor_zero]

theorem sealed (b : List UInt8) : crun ones (b ++ leB (crc b)) = rest := (sealed_iff b _ (leB_length _)).1 (leN_leB _ (crc_lt b))


theorem bst_if (q : Nat) (b : Bool) : bst q b = if q % 2 = b.toNat then q / 2 else q / 2 ^^^ poly := by
  have e1 : (q ^^^ b.toNat) / 2 = q / 2 ^^^ b.toNat / 2 := Nat.xor_div_two
  have e2 : b.toNat / 2 = 0 := by cases b <;> rfl
  have e3 := xm2 q b.toNat
  have e4 : b.toNat < 2 := Bool.toNat_lt b
  unfold bst stp
  rw [e1, e2, Nat.xor_zero]
  by_cases h : q % 2 = b.toNat
  · rw [if_pos h, if_neg (by omega)]
  · rw [if_neg h, if_pos (by omega)]

theorem bruns_lt (r : Nat) (f : Nat → Bool) (h : r < 2 ^ 32) : ∀ (n : Nat), bruns r f n < 2 ^ 32
  | 0 => h
  | n + 1 => by
    rw [bruns, bst]
    refine stp_lt _ (Nat.xor_lt_two_pow (bruns_lt r f h n) ?_)
    have := Bool.toNat_lt (f n)
    omega


theorem ones_sub (x : Nat) (h : x < 2 ^ 32) : 4294967295 - x = ones ^^^ x := by
  have e1 : 4294967295 - x = 2 ^ 32 - (x + 1) := by omega
  have e2 : ones = 2 ^ 32 - (0 + 1) := rfl
  rw [e1, e2]
  apply Nat.eq_of_testBit_eq
  intro i
  rw [Nat.testBit_xor, Nat.testBit_two_pow_sub_succ h, Nat.testBit_two_pow_sub_succ (by omega)]
  by_cases hi : i < 32
  · simp [hi]
  · have hb : x.testBit i = false := Nat.testBit_lt_two_pow (Nat.lt_of_lt_of_le h (Nat.pow_le_pow_right (by omega) (by omega)))
    simp [hi, hb]

theorem ones_subI (x : Nat) (h : x < 2 ^ 32) : (4294967295 : Int) - (x : Int) = ((ones ^^^ x : Nat) : Int) := by
  rw [← ones_sub x h]
  omega


theorem leB_leN : ∀ (t : List UInt8), t.length = 4 → leB (leN t) = t
  | [a, b, c, d], _ => by
    have ha := a.toNat_lt
    have hb := b.toNat_lt
    have hc := c.toNat_lt
    have hd := d.toNat_lt
    have e : ∀ (x : UInt8) (n : Nat), n % 256 = x.toNat → UInt8.ofNat n = x := by
      intro x n h
      apply UInt8.toNat_inj.1
      simp [h]
    simp only [leN, leB]
    rw [e a _ (by omega), e b _ (by omega), e c _ (by omega), e d _ (by omega)]
  | [], h => by simp at h
  | [_], h => by simp at h
  | [_, _], h => by simp at h
  | [_, _, _], h => by simp at h
  | _ :: _ :: _ :: _ :: _ :: _, h => by simp at h

/-- What 'Open' answers: the bytes, and the error's number. -/
def openS (bs : List UInt8) : List UInt8 × Int :=
  if bs.length < 4 then ([], 4)
  else if leN (bs.drop (bs.length - 4)) = crc (bs.take (bs.length - 4)) then (bs.take (bs.length - 4), 0)
  else ([], 3)
theorem openS_short (bs : List UInt8) (h : bs.length < 4) : openS bs = ([], 4) := by unfold openS; rw [if_pos h]
theorem openS_ok (bs : List UInt8) (h : ¬ bs.length < 4) (h2 : leN (bs.drop (bs.length - 4)) = crc (bs.take (bs.length - 4))) : openS bs = (bs.take (bs.length - 4), 0) := by unfold openS; rw [if_neg h, if_pos h2]
theorem openS_no (bs : List UInt8) (h : ¬ bs.length < 4) (h2 : ¬ leN (bs.drop (bs.length - 4)) = crc (bs.take (bs.length - 4))) : openS bs = ([], 3) := by unfold openS; rw [if_neg h, if_neg h2]

/-- Sealed bytes, said in two ways. -/
theorem seal_eq_iff (bs : List UInt8) (h : ¬ bs.length < 4) : bs.take (bs.length - 4) ++ leB (crc (bs.take (bs.length - 4))) = bs ↔ leN (bs.drop (bs.length - 4)) = crc (bs.take (bs.length - 4)) := by
  have hd : (bs.drop (bs.length - 4)).length = 4 := by simp; omega
  constructor
  · intro e
    have e1 := List.take_append_drop (bs.length - 4) bs
    have e2 : leB (crc (bs.take (bs.length - 4))) = bs.drop (bs.length - 4) := List.append_cancel_left (e.trans e1.symm)
    rw [← e2, leN_leB _ (crc_lt _)]
  · intro e
    rw [← e, leB_leN _ hd, List.take_append_drop]

theorem openS_seal (b : List UInt8) : openS (b ++ leB (crc b)) = (b, 0) := by
  have hl : (b ++ leB (crc b)).length = b.length + 4 := by rw [List.length_append, leB_length]
  have e1 : (b ++ leB (crc b)).length - 4 = b.length := by omega
  have e2 : (b ++ leB (crc b)).take b.length = b := List.take_left' rfl
  have e3 : (b ++ leB (crc b)).drop b.length = leB (crc b) := List.drop_left' rfl
  rw [openS_ok _ (by omega) (by rw [e1, e2, e3, leN_leB _ (crc_lt b)]), e1, e2]

/-- Sealed bytes of which bits within 32 side by side are turned aren't opened. -/
theorem openS_turned (b s' : List UInt8) (k t : Nat) (ht : t < 2 ^ 32) (h0 : t ≠ 0) (hl : s'.length = b.length + 4) (hk : k + 32 ≤ 8 * (b.length + 4))
    (hb : ∀ j, j < 8 * (b.length + 4) → bitAt s' j = (bitAt (b ++ leB (crc b)) j ^^ win k t j)) : openS s' = ([], 3) := by
  have hl2 : (b ++ leB (crc b)).length = b.length + 4 := by rw [List.length_append, leB_length]
  refine openS_no s' (by omega) fun e => ?_
  have hd : (s'.drop (s'.length - 4)).length = 4 := by simp; omega
  have h1 := (sealed_iff _ _ hd).1 e
  rw [List.take_append_drop] at h1
  have h2 := turned ones (b ++ leB (crc b)) s' k t ht h0 (by omega) (by omega) (by rw [hl2]; exact hb)
  rw [h1, sealed b] at h2
  exact h2 rfl

theorem leB_take (x j : Nat) (h : j < 4) : (leB x).take (j + 1) = (leB x).take j ++ [UInt8.ofNat (x / 256 ^ j)] := by
  match j, h with
  | 0, _ => simp [leB]
  | 1, _ => simp [leB]
  | 2, _ => simp [leB]
  | 3, _ => simp [leB]


/-- A row of noughts that is filled from its head on. -/
def xrow (X : List UInt8) (n j : Nat) : List UInt8 := X.take j ++ List.replicate (n - j) 0
theorem xrow_length (X : List UInt8) (n j : Nat) (hX : X.length = n) (hj : j ≤ n) : (xrow X n j).length = n := by simp [xrow]; omega
theorem xrow_zero (X : List UInt8) (n : Nat) : toV (xrow X n 0) = zrow n := by simp [xrow, toV, zrow]
theorem xrow_full (X : List UInt8) (n : Nat) (hX : X.length = n) : xrow X n n = X := by
  subst hX
  simp [xrow]
theorem xrow_step (X : List UInt8) (n j : Nat) (hX : X.length = n) (hj : j < n) : (toV (xrow X n j)).set j (.int .u8 ((X.getD j 0).toNat : Int)) = toV (xrow X n (j + 1)) := by
  have e1 : n - j = (n - (j + 1)) + 1 := by omega
  have e2 : xrow X n (j + 1) = X.take j ++ X.getD j 0 :: List.replicate (n - (j + 1)) 0 := by
    have e0 : X.getD j 0 = X[j]'(by omega) := by simp [List.getD, List.getElem?_eq_getElem (show j < X.length by omega)]
    rw [xrow, List.take_succ_eq_append_getElem (show j < X.length by omega), List.append_assoc, e0]
    rfl
  rw [e2, xrow, e1, List.replicate_succ, toV_append, toV_append, List.set_append_right _ _ (by rw [toV_length, List.length_take]; omega)]
  have e3 : j - (toV (X.take j)).length = 0 := by rw [toV_length, List.length_take]; omega
  rw [e3]
  rfl


/-- Bytes of which some bits from a place on are turned. -/
def fl (S : List UInt8) (k t : Nat) : Nat → List UInt8
  | 0 => S
  | i + 1 => if t.testBit i then (fl S k t i).set ((k + i) / 8) ((fl S k t i).getD ((k + i) / 8) 0 ^^^ UInt8.ofNat (2 ^ ((k + i) % 8))) else fl S k t i
theorem fl_length (S : List UInt8) (k t : Nat) : ∀ (i : Nat), (fl S k t i).length = S.length
  | 0 => rfl
  | i + 1 => by
    rw [fl]
    split
    · rw [List.length_set, fl_length S k t i]
    · exact fl_length S k t i

theorem bitAt_set (L : List UInt8) (q r j : Nat) (hq : q < L.length) (hr : r < 8) (hj : j / 8 < L.length) :
    bitAt (L.set q (L.getD q 0 ^^^ UInt8.ofNat (2 ^ r))) j = (bitAt L j ^^ decide (j = 8 * q + r)) := by
  have hp : 2 ^ r < 256 := Nat.pow_lt_pow_right (a := 2) (m := r) (n := 8) (by omega) hr
  have e : (UInt8.ofNat (2 ^ r)).toNat = 2 ^ r := by rw [toNat_ofNat, Nat.mod_eq_of_lt hp]
  unfold bitAt
  by_cases hjq : j / 8 = q
  · have e1 : (L.set q (L.getD q 0 ^^^ UInt8.ofNat (2 ^ r))).getD (j / 8) 0 = L.getD q 0 ^^^ UInt8.ofNat (2 ^ r) := by
      rw [hjq]
      simp [List.getD, hq]
    rw [e1, UInt8.toNat_xor, Nat.testBit_xor, e, hjq, Nat.testBit_two_pow]
    congr 1
    rw [Bool.eq_iff_iff]
    simp only [decide_eq_true_eq]
    omega
  · have e1 : (L.set q (L.getD q 0 ^^^ UInt8.ofNat (2 ^ r))).getD (j / 8) 0 = L.getD (j / 8) 0 := by
      simp [List.getD, Ne.symm hjq]
    have e2 : decide (j = 8 * q + r) = false := by
      rw [decide_eq_false_iff_not]
      omega
    rw [e1, e2, Bool.xor_false]

theorem fl_bits (S : List UInt8) (k t : Nat) : ∀ (i : Nat), k + i ≤ 8 * S.length → ∀ j, j < 8 * S.length → bitAt (fl S k t i) j = (bitAt S j ^^ (decide (k ≤ j) && decide (j < k + i) && t.testBit (j - k)))
  | 0, _, j, _ => by
    have e : (decide (k ≤ j) && decide (j < k + 0) && t.testBit (j - k)) = false := by
      by_cases h : k ≤ j
      · have h2 : decide (j < k + 0) = false := by rw [decide_eq_false_iff_not]; omega
        rw [h2, Bool.and_false, Bool.false_and]
      · simp [h]
    rw [e, Bool.xor_false]
    rfl
  | i + 1, hi, j, hj => by
    have ih := fl_bits S k t i (by omega) j hj
    have hl := fl_length S k t i
    rw [fl]
    by_cases ht : t.testBit i = true
    · rw [if_pos ht, bitAt_set _ _ _ _ (by rw [hl]; omega) (by omega) (by rw [hl]; omega), ih]
      by_cases hji : j = k + i
      · have e1 : decide (j = 8 * ((k + i) / 8) + (k + i) % 8) = true := by rw [decide_eq_true_eq]; omega
        have e2 : ¬ j < k + i := by omega
        have e3 : k ≤ j := by omega
        have e4 : j < k + (i + 1) := by omega
        have e5 : j - k = i := by omega
        rw [e1, e5, ht]
        simp [e2, e3, e4]
      · have e1 : decide (j = 8 * ((k + i) / 8) + (k + i) % 8) = false := by rw [decide_eq_false_iff_not]; omega
        have e2 : (j < k + (i + 1)) ↔ (j < k + i) := by omega
        rw [e1, Bool.xor_false]
        simp only [e2]
    · rw [if_neg ht, ih]
      by_cases hji : j = k + i
      · have e5 : j - k = i := by omega
        have e6 : t.testBit i = false := by simpa using ht
        rw [e5, e6, Bool.and_false, Bool.and_false]
      · have e2 : (j < k + (i + 1)) ↔ (j < k + i) := by omega
        simp only [e2]

theorem leN_append : ∀ (a b : List UInt8), leN (a ++ b) = leN a + 256 ^ a.length * leN b
  | [], b => by simp [leN]
  | x :: a, b => by
    have e : leN (x :: a ++ b) = x.toNat + 256 * leN (a ++ b) := rfl
    rw [e, leN_append a b, leN, List.length_cons, Nat.pow_succ, Nat.mul_comm (256 ^ a.length) 256, Nat.mul_add, Nat.mul_assoc, Nat.add_assoc]

theorem leN_take (bs : List UInt8) (j : Nat) (h : j < bs.length) : leN (bs.take (j + 1)) = leN (bs.take j) + (bs.getD j 0).toNat * 256 ^ j := by
  rw [List.take_succ_eq_append_getElem h, leN_append, List.length_take, Nat.min_eq_left (by omega), Nat.mul_comm]
  simp [List.getD, List.getElem?_eq_getElem h, leN]
end Go.Proofs.Ytohdmmfmjadipaa

/-
  Plain facts on pages and their images, of no program: what a page's image is; that it tells its page; what its bytes answer.
-/
namespace Go.Proofs.Ytohdmmfmjadipaa
open Go.RowKit
set_option linter.unusedVariables false

/-- A page: its number's stamp, and eight cells (what the functions say beyond the eighth plays no part). -/
structure Pg where
  l : Nat
  u : Nat → Bool
  s : Nat → ByteArray

def Pg.zero : Pg := ⟨0, fun _ => false, fun _ => ⟨#[]⟩⟩

/-- The page's cells in memory. -/
def pgA (p : Pg) : Array Value := #[.int .u64 p.l, .bool (p.u 0), .string (p.s 0), .bool (p.u 1), .string (p.s 1), .bool (p.u 2), .string (p.s 2), .bool (p.u 3), .string (p.s 3), .bool (p.u 4), .string (p.s 4), .bool (p.u 5), .string (p.s 5), .bool (p.u 6), .string (p.s 6), .bool (p.u 7), .string (p.s 7)]

/-- The same page. -/
abbrev Pg.same (p q : Pg) : Prop := p.l = q.l ∧ ∀ i, i < 8 → p.u i = q.u i ∧ p.s i = q.s i

theorem lt8 {i : Nat} (h : i < 8) : i = 0 ∨ i = 1 ∨ i = 2 ∨ i = 3 ∨ i = 4 ∨ i = 5 ∨ i = 6 ∨ i = 7 := by omega

theorem Pg.same.symm {p q : Pg} (h : p.same q) : q.same p := ⟨h.1.symm, fun i hi => ⟨(h.2 i hi).1.symm, (h.2 i hi).2.symm⟩⟩
theorem Pg.same.trans {p q r : Pg} (h : p.same q) (g : q.same r) : p.same r := ⟨h.1.trans g.1, fun i hi => ⟨(h.2 i hi).1.trans (g.2 i hi).1, (h.2 i hi).2.trans (g.2 i hi).2⟩⟩
theorem Pg.same.refl (p : Pg) : p.same p := ⟨rfl, fun _ _ => ⟨rfl, rfl⟩⟩

theorem same_pgA {p q : Pg} (h : p.same q) : pgA p = pgA q := by
  have h0 := h.2 0 (by omega)
  have h1 := h.2 1 (by omega)
  have h2 := h.2 2 (by omega)
  have h3 := h.2 3 (by omega)
  have h4 := h.2 4 (by omega)
  have h5 := h.2 5 (by omega)
  have h6 := h.2 6 (by omega)
  have h7 := h.2 7 (by omega)
  unfold pgA
  rw [h.1, h0.1, h0.2, h1.1, h1.2, h2.1, h2.2, h3.1, h3.2, h4.1, h4.2, h5.1, h5.2, h6.1, h6.2, h7.1, h7.2]

theorem pgA_used (p : Pg) (i : Nat) (h : i < 8) : (pgA p)[1 + i * 2]? = some (.bool (p.u i)) := by
  rcases lt8 h with rfl | rfl | rfl | rfl | rfl | rfl | rfl | rfl <;> rfl
theorem pgA_val (p : Pg) (i : Nat) (h : i < 8) : (pgA p)[1 + i * 2 + 1]? = some (.string (p.s i)) := by
  rcases lt8 h with rfl | rfl | rfl | rfl | rfl | rfl | rfl | rfl <;> rfl

theorem pgA_same {p q : Pg} (h : pgA p = pgA q) : p.same q := by
  have hl : (pgA p)[0]? = (pgA q)[0]? := by rw [h]
  have hl2 : some (Value.int .u64 (p.l : Int)) = some (Value.int .u64 (q.l : Int)) := hl
  refine ⟨?_, fun i hi => ⟨?_, ?_⟩⟩
  · injection hl2 with h1
    injection h1 with h2 h3
    omega
  · have h1 := pgA_used p i hi
    rw [h, pgA_used q i hi] at h1
    injection h1 with h1
    injection h1 with h1
    exact h1.symm
  · have h1 := pgA_val p i hi
    rw [h, pgA_val q i hi] at h1
    injection h1 with h1
    injection h1 with h1
    exact h1.symm

/-- A cell that can be; a page that can be. -/
abbrev cellOk (u : Bool) (s : ByteArray) : Prop := s.size ≤ 20 ∧ (u = false → s.size = 0)
def maxP : Nat := 4611686018427387904
abbrev Pg.right (p : Pg) : Prop := p.l ≤ maxP ∧ ∀ i, i < 8 → cellOk (p.u i) (p.s i)

theorem Pg.same.right {p q : Pg} (h : p.same q) (hp : p.right) : q.right := by
  refine ⟨by rw [← h.1]; exact hp.1, fun i hi => ?_⟩
  have h1 := h.2 i hi
  rw [← h1.1, ← h1.2]
  exact hp.2 i hi

/-- A page whose numbers and texts a machine can have. -/
def Pg.fits (p : Pg) : Prop := p.l < 18446744073709551616 ∧ ∀ i, i < 8 → (p.s i).size ≤ maxLen

theorem Pg.right.fits {p : Pg} (h : p.right) : p.fits := by
  have h1 := h.1
  unfold maxP at h1
  refine ⟨by omega, fun i hi => ?_⟩
  have h2 := (h.2 i hi).1
  unfold maxLen
  omega

/-- What stands for a cell; the cells' bytes; the values. -/
def lenB (u : Bool) (s : ByteArray) : UInt8 := if u then UInt8.ofNat s.size else 255
def lensB (p : Pg) (k : Nat) : List UInt8 := (List.range k).map fun i => lenB (p.u i) (p.s i)
def valB (u : Bool) (s : ByteArray) : List UInt8 := if u then s.data.toList else []
def valsB (p : Pg) (k : Nat) : List UInt8 := (List.range k).flatMap fun i => valB (p.u i) (p.s i)

theorem lensB_succ (p : Pg) (k : Nat) : lensB p (k + 1) = lensB p k ++ [lenB (p.u k) (p.s k)] := by simp [lensB, List.range_succ]
theorem valsB_succ (p : Pg) (k : Nat) : valsB p (k + 1) = valsB p k ++ valB (p.u k) (p.s k) := by simp [valsB, List.range_succ]
theorem lensB_length (p : Pg) (k : Nat) : (lensB p k).length = k := by simp [lensB]
theorem valB_length (u : Bool) (s : ByteArray) (h : cellOk u s) : (valB u s).length = s.size := by
  unfold valB
  cases u
  · have := h.2 rfl
    simp [this]
  · simp
theorem valsB_le (p : Pg) (hp : p.right) : ∀ k, k ≤ 8 → (valsB p k).length ≤ 20 * k
  | 0, _ => by simp [valsB]
  | k + 1, h => by
    have h1 := valsB_le p hp k (by omega)
    have h2 := hp.2 k (by omega)
    have h3 := valB_length _ _ h2
    have h4 := h2.1
    rw [valsB_succ, List.length_append]
    omega

theorem Pg.same.lens {p q : Pg} (h : p.same q) : lensB p 8 = lensB q 8 := by
  unfold lensB
  refine List.map_congr_left fun i hi => ?_
  have h1 := h.2 i (List.mem_range.1 hi)
  rw [h1.1, h1.2]
theorem Pg.same.vals {p q : Pg} (h : p.same q) : valsB p 8 = valsB q 8 := by
  unfold valsB
  rw [List.flatMap_def, List.flatMap_def]
  congr 1
  refine List.map_congr_left fun i hi => ?_
  have h1 := h.2 i (List.mem_range.1 hi)
  rw [h1.1, h1.2]

/-- What stands ahead of the zeros; the 236 bytes; the tale; the image. -/
def headB (id : Nat) (p : Pg) : List UInt8 := beB 2 id ++ lensB p 8 ++ valsB p 8
def bodyB (id : Nat) (p : Pg) : List UInt8 := headB id p ++ List.replicate (236 - (headB id p).length) 0
def taleB (id : Nat) (p : Pg) : List UInt8 := bodyB id p ++ leB (crc (bodyB id p))
def imageB (id : Nat) (p : Pg) : List UInt8 := beB 8 p.l ++ (taleB id p).take 120 ++ beB 8 p.l ++ (taleB id p).drop 120

theorem Pg.same.image {p q : Pg} (h : p.same q) (id : Nat) : imageB id p = imageB id q := by
  unfold imageB taleB bodyB headB
  rw [h.lens, h.vals, h.1]

theorem headB_length (id : Nat) (p : Pg) : (headB id p).length = 10 + (valsB p 8).length := by
  unfold headB
  rw [List.length_append, List.length_append, beB_length, lensB_length]
theorem headB_le (id : Nat) (p : Pg) (hp : p.right) : (headB id p).length ≤ 170 := by
  have := valsB_le p hp 8 (by omega)
  rw [headB_length]
  omega
theorem bodyB_length (id : Nat) (p : Pg) (hp : p.right) : (bodyB id p).length = 236 := by
  have := headB_le id p hp
  unfold bodyB
  rw [List.length_append, List.length_replicate]
  omega
theorem taleB_length (id : Nat) (p : Pg) (hp : p.right) : (taleB id p).length = 240 := by
  unfold taleB
  rw [List.length_append, bodyB_length id p hp, leB_length]
theorem imageB_length (id : Nat) (p : Pg) (hp : p.right) : (imageB id p).length = 256 := by
  unfold imageB
  simp only [List.length_append, beB_length, List.length_take, List.length_drop, taleB_length id p hp]
  omega

/-- The tale that stands in 256 bytes. -/
def taleOf (bs : List UInt8) : List UInt8 := (bs.drop 8).take 120 ++ bs.drop 136
theorem taleOf_length (bs : List UInt8) (h : bs.length = 256) : (taleOf bs).length = 240 := by
  unfold taleOf
  simp only [List.length_append, List.length_take, List.length_drop]
  omega
theorem image_parts (id : Nat) (p : Pg) (hp : p.right) : (imageB id p).take 8 = beB 8 p.l ∧ ((imageB id p).drop 128).take 8 = beB 8 p.l ∧ taleOf (imageB id p) = taleB id p := by
  have hl := taleB_length id p hp
  have h1 : ((taleB id p).take 120).length = 120 := by rw [List.length_take]; omega
  have h2 := beB_length 8 p.l
  have e : imageB id p = beB 8 p.l ++ ((taleB id p).take 120 ++ (beB 8 p.l ++ (taleB id p).drop 120)) := by simp [imageB]
  have e8 : (imageB id p).drop 8 = (taleB id p).take 120 ++ (beB 8 p.l ++ (taleB id p).drop 120) := by rw [e, List.drop_left' h2]
  have e128 : (imageB id p).drop 128 = beB 8 p.l ++ (taleB id p).drop 120 := by
    have e1 : (imageB id p).drop 128 = ((imageB id p).drop 8).drop 120 := by rw [List.drop_drop]
    rw [e1, e8, List.drop_left' h1]
  have e136 : (imageB id p).drop 136 = (taleB id p).drop 120 := by
    have e1 : (imageB id p).drop 136 = ((imageB id p).drop 128).drop 8 := by rw [List.drop_drop]
    rw [e1, e128, List.drop_left' h2]
  refine ⟨by rw [e, List.take_left' h2], by rw [e128, List.take_left' h2], ?_⟩
  unfold taleOf
  rw [e8, e136, List.take_left' h1, List.take_append_drop]

/-- What bytes tell: a cell's byte, whether it is used, how long its value is, where it begins. -/
def nAt (t : List UInt8) (i : Nat) : Nat := (t.getD (2 + i) 0).toNat
def usedAt (t : List UInt8) (i : Nat) : Bool := decide (nAt t i ≠ 255)
def lenAt (t : List UInt8) (i : Nat) : Nat := if usedAt t i then nAt t i else 0
def posAt (t : List UInt8) : Nat → Nat
  | 0 => 10
  | i + 1 => posAt t i + lenAt t i
def cutAt (t : List UInt8) (i : Nat) : ByteArray := ⟨((t.drop (posAt t i)).take (lenAt t i)).toArray⟩
/-- The page that bytes tell, if they are a page's. -/
def scanP (bs : List UInt8) : Pg := ⟨beAt bs 0 8, usedAt (taleOf bs), cutAt (taleOf bs)⟩

theorem getD_mid (a b : List UInt8) (i : Nat) (h : i < b.length) (c : List UInt8) : (a ++ (b ++ c)).getD (a.length + i) 0 = b.getD i 0 := by
  simp [List.getD, List.getElem?_append_right, List.getElem?_append_left h]

theorem tale_nAt (id : Nat) (p : Pg) (i : Nat) (h : i < 8) : (taleB id p).getD (2 + i) 0 = lenB (p.u i) (p.s i) := by
  have e : taleB id p = beB 2 id ++ (lensB p 8 ++ (valsB p 8 ++ (List.replicate (236 - (headB id p).length) 0 ++ leB (crc (bodyB id p))))) := by simp [taleB, bodyB, headB]
  have hb := beB_length 2 id
  have h1 := getD_mid (beB 2 id) (lensB p 8) i (by rw [lensB_length]; exact h) (valsB p 8 ++ (List.replicate (236 - (headB id p).length) 0 ++ leB (crc (bodyB id p))))
  rw [hb] at h1
  rw [e, h1]
  simp [lensB, List.getD, h]

theorem lenB_nat (u : Bool) (s : ByteArray) (h : cellOk u s) : (lenB u s).toNat = if u then s.size else 255 := by
  have h1 := h.1
  unfold lenB
  cases u
  · rfl
  · simp
    omega

theorem tale_used (id : Nat) (p : Pg) (hp : p.right) (i : Nat) (h : i < 8) : usedAt (taleB id p) i = p.u i ∧ lenAt (taleB id p) i = (p.s i).size := by
  have h1 := hp.2 i h
  have h2 := lenB_nat _ _ h1
  have h3 : nAt (taleB id p) i = if p.u i then (p.s i).size else 255 := by rw [nAt, tale_nAt id p i h, h2]
  have h4 := h1.1
  have h5 : usedAt (taleB id p) i = p.u i := by
    unfold usedAt
    rw [h3]
    cases hu : p.u i
    · simp
    · simp
      omega
  refine ⟨h5, ?_⟩
  unfold lenAt
  rw [h5, h3]
  cases hu : p.u i
  · simp [h1.2 hu]
  · simp

theorem tale_pos (id : Nat) (p : Pg) (hp : p.right) : ∀ (i : Nat), i ≤ 8 → posAt (taleB id p) i = 10 + (valsB p i).length
  | 0, _ => by simp [posAt, valsB]
  | i + 1, h => by
    rw [posAt, tale_pos id p hp i (by omega), (tale_used id p hp i (by omega)).2, valsB_succ, List.length_append, valB_length _ _ (hp.2 i (by omega))]
    omega

theorem vals_split (p : Pg) (i : Nat) (h : i < 8) : ∃ c, valsB p 8 = valsB p i ++ (valB (p.u i) (p.s i) ++ c) := by
  have h1 : ∀ d, ∃ c, valsB p (i + 1 + d) = valsB p (i + 1) ++ c := by
    intro d
    induction d with
    | zero => exact ⟨[], by simp⟩
    | succ d ih =>
      obtain ⟨c, hc⟩ := ih
      exact ⟨c ++ valB (p.u (i + 1 + d)) (p.s (i + 1 + d)), by rw [← Nat.add_assoc, valsB_succ, hc, List.append_assoc]⟩
  obtain ⟨c, hc⟩ := h1 (8 - (i + 1))
  have e : i + 1 + (8 - (i + 1)) = 8 := by omega
  rw [e] at hc
  exact ⟨c, by rw [hc, valsB_succ, List.append_assoc]⟩

theorem mk_data (s : ByteArray) : (⟨s.data.toList.toArray⟩ : ByteArray) = s := by
  obtain ⟨⟨l⟩⟩ := s
  rfl

theorem tale_cut (id : Nat) (p : Pg) (hp : p.right) (i : Nat) (h : i < 8) : cutAt (taleB id p) i = p.s i := by
  have h1 := hp.2 i h
  have hu := tale_used id p hp i h
  have hpos := tale_pos id p hp i (by omega)
  obtain ⟨c, hc⟩ := vals_split p i h
  have e : taleB id p = (beB 2 id ++ lensB p 8 ++ valsB p i) ++ (valB (p.u i) (p.s i) ++ (c ++ (List.replicate (236 - (headB id p).length) 0 ++ leB (crc (bodyB id p))))) := by
    have e1 : taleB id p = beB 2 id ++ lensB p 8 ++ valsB p 8 ++ List.replicate (236 - (headB id p).length) 0 ++ leB (crc (bodyB id p)) := by simp [taleB, bodyB, headB]
    rw [e1, hc]
    simp
  have hl : (beB 2 id ++ lensB p 8 ++ valsB p i).length = 10 + (valsB p i).length := by rw [List.length_append, List.length_append, beB_length, lensB_length]
  unfold cutAt
  rw [hpos, hu.2, ← valB_length _ _ h1]
  have e2 : ((taleB id p).drop (10 + (valsB p i).length)).take (valB (p.u i) (p.s i)).length = valB (p.u i) (p.s i) := by
    rw [e, List.drop_left' hl, List.take_left' rfl]
  rw [e2]
  unfold valB
  cases hb : p.u i
  · have hz := h1.2 hb
    have hz2 : (p.s i).data.toList = [] := List.eq_nil_of_length_eq_zero (by rw [Array.length_toList]; exact hz)
    have := mk_data (p.s i)
    rw [hz2] at this
    exact this
  · exact mk_data (p.s i)

/-- What an image tells is its page. -/
theorem scan_image (id : Nat) (p : Pg) (hp : p.right) : (scanP (imageB id p)).same p := by
  obtain ⟨h1, _, h3⟩ := image_parts id p hp
  refine ⟨?_, fun i hi => ?_⟩
  · show beAt (imageB id p) 0 8 = p.l
    unfold beAt
    rw [List.drop_zero, h1]
    refine be_beB 8 p.l ?_
    have := hp.1
    unfold maxP at this
    have e : 256 ^ 8 = 18446744073709551616 := by decide
    omega
  · show usedAt (taleOf (imageB id p)) i = p.u i ∧ cutAt (taleOf (imageB id p)) i = p.s i
    rw [h3]
    exact ⟨(tale_used id p hp i hi).1, tale_cut id p hp i hi⟩

theorem image_inj {id jd : Nat} {p q : Pg} (hp : p.right) (hq : q.right) (hi : id < 65536) (hj : jd < 65536) (h : imageB id p = imageB jd q) : id = jd ∧ p.same q := by
  refine ⟨?_, ?_⟩
  · have h1 := (image_parts id p hp).2.2
    have h2 := (image_parts jd q hq).2.2
    rw [h, h2] at h1
    have e : ∀ (k : Nat) (r : Pg), (taleB k r).take 2 = beB 2 k := by
      intro k r
      have e1 : taleB k r = beB 2 k ++ (lensB r 8 ++ (valsB r 8 ++ (List.replicate (236 - (headB k r).length) 0 ++ leB (crc (bodyB k r))))) := by simp [taleB, bodyB, headB]
      rw [e1, List.take_left' (beB_length 2 k)]
    have h3 : (taleB jd q).take 2 = (taleB id p).take 2 := by rw [h1]
    rw [e, e] at h3
    have h4 := be_beB 2 jd (by omega)
    rw [h3, be_beB 2 id (by omega)] at h4
    exact h4
  · have h1 := scan_image id p hp
    rw [h] at h1
    exact h1.symm.trans (scan_image jd q hq)

/-- Whether 256 bytes are torn. -/
def tornB (bs : List UInt8) : Bool := decide (bs.length = 256 ∧ bs.take 8 ≠ (bs.drop 128).take 8)

/-- What 'Stamp' answers. -/
def stampB (bs : List UInt8) : Nat × Bool := if bs.length = 256 ∧ tornB bs = false then (beAt bs 0 8, true) else (0, false)

/-- What 'Encode' answers. -/
def encB (id : Int) (p : Pg) : List UInt8 × Int := if 0 ≤ id ∧ id ≤ 31 ∧ p.right then (imageB id.toNat p, 0) else ([], 1)

/-- What 'Decode' answers: the error's number, and the page. -/
def decE (id : Int) (bs : List UInt8) : Int :=
  if ¬ (0 ≤ id ∧ id ≤ 31) then 1 else if bs.length < 256 then 4 else if 256 < bs.length then 2 else if tornB bs = true then 14
  else if ¬ leN ((taleOf bs).drop 236) = crc ((taleOf bs).take 236) then 3
  else if (scanP bs).right ∧ imageB id.toNat (scanP bs) = bs then 0 else 2
def decP (id : Int) (bs : List UInt8) : Pg := if decE id bs = 0 then scanP bs else Pg.zero

theorem decP_no (id : Int) (bs : List UInt8) (h : decE id bs ≠ 0) : decP id bs = Pg.zero := by unfold decP; rw [if_neg h]

theorem data_inj {s t : ByteArray} : s.data.toList = t.data.toList ↔ s = t :=
  ⟨fun h => by rw [← mk_data s, h, mk_data], fun h => by rw [h]⟩
end Go.Proofs.Ytohdmmfmjadipaa

/-
  Plain facts on changes of cells, of no program.
-/
namespace Go.Proofs.Ytohdmmfmjadipaa
open Go.RowKit
set_option linter.unusedVariables false

/-- A change: its kind, page and slot, the old and the new value. -/
structure Ch where
  k : Int
  pg : Int
  sl : Int
  o : ByteArray
  n : ByteArray
def Ch.zero : Ch := ⟨0, 0, 0, ⟨#[]⟩, ⟨#[]⟩⟩
/-- Its cells in memory. -/
def chA (c : Ch) : Array Value := #[.int .i64 c.k, .int .i64 c.pg, .int .i64 c.sl, .string c.o, .string c.n]

/-- A change that can be. -/
abbrev Ch.kindOk (c : Ch) : Prop := c.k = 1 ∧ c.o.size = 0 ∨ c.k = 2 ∨ c.k = 3 ∧ c.n.size = 0
abbrev Ch.right (c : Ch) : Prop := (0 ≤ c.pg ∧ c.pg ≤ 31 ∧ 0 ≤ c.sl ∧ c.sl ≤ 7 ∧ c.o.size ≤ 20 ∧ c.n.size ≤ 20) ∧ c.kindOk

/-- The cell that a change wants, and the one that it makes. -/
def Ch.wantU (c : Ch) : Bool := decide (c.k ≠ 1)
def Ch.wantV (c : Ch) : ByteArray := if c.k = 1 then ⟨#[]⟩ else c.o
def Ch.makeU (c : Ch) : Bool := decide (c.k ≠ 3)
def Ch.makeV (c : Ch) : ByteArray := if c.k = 3 then ⟨#[]⟩ else c.n
def Ch.at (c : Ch) : Nat := c.sl.toNat

/-- A page with one cell made anew. -/
def Pg.put (p : Pg) (l i : Nat) (u : Bool) (s : ByteArray) : Pg := ⟨l, fun j => if j = i then u else p.u j, fun j => if j = i then s else p.s j⟩

/-- What 'Apply' answers. -/
def appE (p : Pg) (c : Ch) (l : Nat) : Int :=
  if ¬ (p.right ∧ c.right ∧ l ≤ maxP) then 1 else if l ≤ p.l then 13
  else if p.u c.at = true ∧ c.wantU = false then 6 else if p.u c.at = false ∧ c.wantU = true then 5
  else if p.s c.at ≠ c.wantV then 2 else 0
def appP (p : Pg) (c : Ch) (l : Nat) : Pg := if appE p c l = 0 then p.put l c.at c.makeU c.makeV else Pg.zero

/-- What 'Inverse' answers. -/
def invE (c : Ch) : Int := if c.right then 0 else 1
def invC (c : Ch) : Ch := if c.right then ⟨4 - c.k, c.pg, c.sl, c.n, c.o⟩ else Ch.zero

/-- What 'Of' answers. -/
def rawC (pg sl : Int) (fu : Bool) (fv : ByteArray) (tu : Bool) (tv : ByteArray) : Ch := ⟨if tu = false then 3 else if fu = false then 1 else 2, pg, sl, fv, tv⟩
def ofE (pg sl : Int) (fu : Bool) (fv : ByteArray) (tu : Bool) (tv : ByteArray) : Int :=
  if (fu = false ∧ fv.size ≠ 0) ∨ (tu = false ∧ tv.size ≠ 0) then 1 else if ¬ (rawC pg sl fu fv tu tv).right then 1 else if fu = false ∧ tu = false then 5 else 0
def ofC (pg sl : Int) (fu : Bool) (fv : ByteArray) (tu : Bool) (tv : ByteArray) : Ch := if ofE pg sl fu fv tu tv = 0 then rawC pg sl fu fv tu tv else Ch.zero

theorem app_no (p : Pg) (c : Ch) (l : Nat) (h : appE p c l ≠ 0) : appP p c l = Pg.zero := by unfold appP; rw [if_neg h]

/-- What stands behind an Apply that is done. -/
theorem app_yes (p : Pg) (c : Ch) (l : Nat) : appE p c l = 0 ↔ p.right ∧ c.right ∧ l ≤ maxP ∧ p.l < l ∧ p.u c.at = c.wantU ∧ p.s c.at = c.wantV := by
  unfold appE
  constructor
  · intro h
    split at h
    · cases h
    · rename_i h1
      have h1 : p.right ∧ c.right ∧ l ≤ maxP := Decidable.of_not_not h1
      split at h
      · cases h
      · rename_i h2
        split at h
        · cases h
        · rename_i h3
          split at h
          · cases h
          · rename_i h4
            split at h
            · cases h
            · rename_i h5
              refine ⟨h1.1, h1.2.1, h1.2.2, by omega, ?_, Decidable.of_not_not h5⟩
              cases hu : p.u c.at <;> cases hw : c.wantU <;> simp_all
  · rintro ⟨h1, h2, h3, h4, h5, h6⟩
    rw [if_neg (fun h => h ⟨h1, h2, h3⟩), if_neg (by omega), if_neg (by rw [h5]; intro h; rw [h.1] at h; cases h.2), if_neg (by rw [h5]; intro h; rw [h.1] at h; cases h.2), if_neg (by rw [h6]; simp)]

theorem size0 (s : ByteArray) (h : s.size = 0) : s = ⟨#[]⟩ := by
  obtain ⟨⟨l⟩⟩ := s
  have : l = [] := List.eq_nil_of_length_eq_zero h
  subst this
  rfl

theorem Ch.right.at_lt {c : Ch} (h : c.right) : c.at < 8 := by
  have h1 := h.1
  unfold Ch.at
  omega

/-- A page behind a change is right. -/
theorem put_right (p : Pg) (c : Ch) (l : Nat) (hp : p.right) (hc : c.right) (hl : l ≤ maxP) : (p.put l c.at c.makeU c.makeV).right := by
  refine ⟨hl, fun i hi => ?_⟩
  show cellOk (if i = c.at then c.makeU else p.u i) (if i = c.at then c.makeV else p.s i)
  by_cases h : i = c.at
  · rw [if_pos h, if_pos h]
    have h1 := hc.1
    refine ⟨?_, ?_⟩
    · unfold Ch.makeV
      split
      · show (0 : Nat) ≤ 20
        omega
      · exact h1.2.2.2.2.2
    · unfold Ch.makeU Ch.makeV
      intro hk
      have : c.k = 3 := by simpa using hk
      rw [if_pos this]
      rfl
  · rw [if_neg h, if_neg h]
    exact hp.2 i hi

/-- The inverse is right, wants what the change makes, and makes what it wants. -/
theorem inv_right (c : Ch) (h : c.right) : (invC c).right ∧ (invC c).at = c.at ∧ (invC c).wantU = c.makeU ∧ (invC c).wantV = c.makeV ∧ (invC c).makeU = c.wantU ∧ (invC c).makeV = c.wantV ∧ (invC c).sl = c.sl := by
  have e : invC c = ⟨4 - c.k, c.pg, c.sl, c.n, c.o⟩ := by unfold invC; rw [if_pos h]
  rw [e]
  obtain ⟨h1, h2⟩ := h
  refine ⟨⟨⟨h1.1, h1.2.1, h1.2.2.1, h1.2.2.2.1, h1.2.2.2.2.2, h1.2.2.2.2.1⟩, ?_⟩, rfl, ?_, ?_, ?_, ?_, rfl⟩
  · unfold Ch.kindOk at h2 ⊢
    rcases h2 with ⟨h3, h4⟩ | h3 | ⟨h3, h4⟩
    · exact .inr (.inr ⟨by show 4 - c.k = 3; omega, h4⟩)
    · exact .inr (.inl (by show 4 - c.k = 2; omega))
    · exact .inl ⟨by show 4 - c.k = 1; omega, h4⟩
  · unfold Ch.wantU Ch.makeU
    exact decide_eq_decide.2 (by show 4 - c.k ≠ 1 ↔ c.k ≠ 3; omega)
  · unfold Ch.wantV Ch.makeV
    by_cases hk : c.k = 3
    · rw [if_pos hk, if_pos (by show 4 - c.k = 1; omega)]
    · rw [if_neg hk, if_neg (by show ¬ 4 - c.k = 1; omega)]
  · unfold Ch.wantU Ch.makeU
    exact decide_eq_decide.2 (by show 4 - c.k ≠ 3 ↔ c.k ≠ 1; omega)
  · unfold Ch.wantV Ch.makeV
    by_cases hk : c.k = 1
    · rw [if_pos hk, if_pos (by show 4 - c.k = 3; omega)]
    · rw [if_neg hk, if_neg (by show ¬ 4 - c.k = 3; omega)]

/-- Cells that a change puts: those of the page behind it. -/
theorem put_at (p : Pg) (l i : Nat) (u : Bool) (s : ByteArray) : (p.put l i u s).u i = u ∧ (p.put l i u s).s i = s := by
  unfold Pg.put
  simp
theorem put_other (p : Pg) (l i j : Nat) (u : Bool) (s : ByteArray) (h : j ≠ i) : (p.put l i u s).u j = p.u j ∧ (p.put l i u s).s j = p.s j := by
  unfold Pg.put
  simp [h]
end Go.Proofs.Ytohdmmfmjadipaa

/-
  Log records and their bytes: plain facts, of no program.
-/
namespace Go.Proofs.Ytohdmmfmjadipaa
open Go.RowKit
set_option linter.unusedVariables false

/-- A row of a checkpoint's table of transactions, and one of its table of pages. -/
structure Tx where
  t : Int
  s : Int
  f : Nat
  l : Nat
  n : Nat
structure Di where
  p : Int
  r : Nat
def Tx.zero : Tx := ⟨0, 0, 0, 0, 0⟩
def Di.zero : Di := ⟨0, 0⟩
/-- A record: kind, LSN, Txn, Prev, change, Next, Save, Begin, Txns, Dirty. -/
structure Rec where
  k : Int
  l : Nat
  t : Int
  p : Nat
  c : Ch
  n : Nat
  s : Int
  b : Nat
  ts : List Tx
  ds : List Di
def Rec.zero : Rec := ⟨0, 0, 0, 0, Ch.zero, 0, 0, 0, [], []⟩

/-- Rows that can be. -/
def txOk (l : Nat) (x : Tx) : Prop := 1 ≤ x.t ∧ x.t ≤ 1048575 ∧ 1 ≤ x.s ∧ x.s ≤ 3 ∧ 1 ≤ x.f ∧ x.f ≤ x.l ∧ x.l < l ∧ x.n ≤ x.l
def diOk (l : Nat) (d : Di) : Prop := 0 ≤ d.p ∧ d.p ≤ 31 ∧ 1 ≤ d.r ∧ d.r < l
def txAt (l : Nat) (ts : List Tx) (i : Nat) : Prop := txOk l (ts.getD i Tx.zero) ∧ (0 < i → (ts.getD (i - 1) Tx.zero).t < (ts.getD i Tx.zero).t)
def diAt (l : Nat) (ds : List Di) (i : Nat) : Prop := diOk l (ds.getD i Di.zero) ∧ (0 < i → (ds.getD (i - 1) Di.zero).p < (ds.getD i Di.zero).p)
def Rec.rows (r : Rec) : Prop := r.ts.length ≤ 16 ∧ r.ds.length ≤ 32 ∧ (∀ i, i < r.ts.length → txAt r.l r.ts i) ∧ (∀ i, i < r.ds.length → diAt r.l r.ds i) ∧ 1 ≤ r.b ∧ r.b < r.l
/-- A record that can be. -/
structure Rec.right (r : Rec) : Prop where
  k1 : 1 ≤ r.k
  k8 : r.k ≤ 8
  l1 : 1 ≤ r.l
  lm : r.l ≤ maxP
  own : r.k ≤ 6 → 1 ≤ r.t ∧ r.t ≤ 1048575 ∧ r.p < r.l
  none : 6 < r.k → r.t = 0 ∧ r.p = 0
  ch : r.k ≤ 2 → r.c.right
  noch : 2 < r.k → r.c = Ch.zero
  next : r.k = 2 → r.n < r.l
  nonext : r.k ≠ 2 → r.n = 0
  save : r.k = 6 → 1 ≤ r.s ∧ r.s ≤ 8
  nosave : r.k ≠ 6 → r.s = 0
  check : r.k = 8 → r.rows
  nocheck : r.k ≠ 8 → r.b = 0 ∧ r.ts = [] ∧ r.ds = []
def txOkD (l : Nat) (x : Tx) : Decidable (txOk l x) := inferInstanceAs (Decidable (1 ≤ x.t ∧ x.t ≤ 1048575 ∧ 1 ≤ x.s ∧ x.s ≤ 3 ∧ 1 ≤ x.f ∧ x.f ≤ x.l ∧ x.l < l ∧ x.n ≤ x.l))
def diOkD (l : Nat) (d : Di) : Decidable (diOk l d) := inferInstanceAs (Decidable (0 ≤ d.p ∧ d.p ≤ 31 ∧ 1 ≤ d.r ∧ d.r < l))
def txAtD (l : Nat) (ts : List Tx) (i : Nat) : Decidable (txAt l ts i) :=
  have := txOkD l (ts.getD i Tx.zero)
  inferInstanceAs (Decidable (txOk l (ts.getD i Tx.zero) ∧ (0 < i → (ts.getD (i - 1) Tx.zero).t < (ts.getD i Tx.zero).t)))
def diAtD (l : Nat) (ds : List Di) (i : Nat) : Decidable (diAt l ds i) :=
  have := diOkD l (ds.getD i Di.zero)
  inferInstanceAs (Decidable (diOk l (ds.getD i Di.zero) ∧ (0 < i → (ds.getD (i - 1) Di.zero).p < (ds.getD i Di.zero).p)))
def Rec.rowsD (r : Rec) : Decidable r.rows :=
  have : ∀ i, Decidable (txAt r.l r.ts i) := fun i => txAtD r.l r.ts i
  have : ∀ i, Decidable (diAt r.l r.ds i) := fun i => diAtD r.l r.ds i
  inferInstanceAs (Decidable (r.ts.length ≤ 16 ∧ r.ds.length ≤ 32 ∧ (∀ i, i < r.ts.length → txAt r.l r.ts i) ∧ (∀ i, i < r.ds.length → diAt r.l r.ds i) ∧ 1 ≤ r.b ∧ r.b < r.l))
theorem ch_zero_iff (c : Ch) : (c.k = 0 ∧ c.pg = 0 ∧ c.sl = 0 ∧ c.o.data.toList = [] ∧ c.n.data.toList = []) ↔ c = Ch.zero := by
  constructor
  · rintro ⟨h1, h2, h3, h4, h5⟩
    obtain ⟨k, pg, sl, ⟨o⟩, ⟨n⟩⟩ := c
    simp only at h1 h2 h3 h4 h5
    subst h1 h2 h3
    have e4 : o = #[] := by simpa using h4
    have e5 : n = #[] := by simpa using h5
    subst e4 e5
    rfl
  · rintro rfl
    exact ⟨rfl, rfl, rfl, rfl, rfl⟩
theorem right_iff_all (r : Rec) : ((1 ≤ r.k ∧ r.k ≤ 8 ∧ 1 ≤ r.l ∧ r.l ≤ maxP) ∧ (r.k ≤ 6 → 1 ≤ r.t ∧ r.t ≤ 1048575 ∧ r.p < r.l) ∧ (6 < r.k → r.t = 0 ∧ r.p = 0) ∧ (r.k ≤ 2 → r.c.right) ∧ (2 < r.k → (r.c.k = 0 ∧ r.c.pg = 0 ∧ r.c.sl = 0 ∧ r.c.o.data.toList = [] ∧ r.c.n.data.toList = [])) ∧ (r.k = 2 → r.n < r.l) ∧ (r.k ≠ 2 → r.n = 0) ∧ (r.k = 6 → 1 ≤ r.s ∧ r.s ≤ 8) ∧ (r.k ≠ 6 → r.s = 0) ∧ (r.k = 8 → r.rows) ∧ (r.k ≠ 8 → r.b = 0 ∧ r.ts.length = 0 ∧ r.ds.length = 0)) ↔ r.right := by
  constructor
  · rintro ⟨⟨h1, h2, h3, h4⟩, h5, h6, h7, h8, h9, h10, h11, h12, h13, h14⟩
    exact ⟨h1, h2, h3, h4, h5, h6, h7, fun h => (ch_zero_iff _).1 (h8 h), h9, h10, h11, h12, h13, fun h => ⟨(h14 h).1, List.eq_nil_of_length_eq_zero (h14 h).2.1, List.eq_nil_of_length_eq_zero (h14 h).2.2⟩⟩
  · intro h
    exact ⟨⟨h.k1, h.k8, h.l1, h.lm⟩, h.own, h.none, h.ch, fun q => (ch_zero_iff _).2 (h.noch q), h.next, h.nonext, h.save, h.nosave, h.check, fun q => ⟨(h.nocheck q).1, by rw [(h.nocheck q).2.1]; rfl, by rw [(h.nocheck q).2.2]; rfl⟩⟩
def Rec.rightD (r : Rec) : Decidable r.right :=
  have := r.rowsD
  have : Decidable (r.k ≤ 6 → 1 ≤ r.t ∧ r.t ≤ 1048575 ∧ r.p < r.l) := inferInstance
  have : Decidable (6 < r.k → r.t = 0 ∧ r.p = 0) := inferInstance
  have : Decidable (r.k ≤ 2 → r.c.right) := inferInstance
  have : Decidable (2 < r.k → (r.c.k = 0 ∧ r.c.pg = 0 ∧ r.c.sl = 0 ∧ r.c.o.data.toList = [] ∧ r.c.n.data.toList = [])) := inferInstance
  have : Decidable (r.k = 6 → 1 ≤ r.s ∧ r.s ≤ 8) := inferInstance
  have : Decidable (r.k = 8 → r.rows) := inferInstance
  have : Decidable (r.k ≠ 8 → r.b = 0 ∧ r.ts.length = 0 ∧ r.ds.length = 0) := inferInstance
  decidable_of_iff _ (right_iff_all r)
def Rec.rightB (r : Rec) : Bool := @decide r.right r.rightD
theorem rightB_yes {r : Rec} (h : r.right) : r.rightB = true := by
  unfold Rec.rightB
  exact @decide_eq_true _ r.rightD h
theorem rightB_no {r : Rec} (h : ¬ r.right) : r.rightB = false := by
  unfold Rec.rightB
  exact @decide_eq_false _ r.rightD h
theorem rightB_iff {r : Rec} : r.rightB = true ↔ r.right := by
  constructor
  · intro h
    by_cases hr : r.right
    · exact hr
    · rw [rightB_no hr] at h
      cases h
  · exact rightB_yes

/-! ### Their bytes -/
def chB (c : Ch) : List UInt8 := beB 1 c.k.toNat ++ (beB 2 c.pg.toNat ++ (beB 1 c.sl.toNat ++ (textB c.o.data.toList ++ textB c.n.data.toList)))
def txB (x : Tx) : List UInt8 := beB 4 x.t.toNat ++ (beB 1 x.s.toNat ++ (beB 8 x.f ++ (beB 8 x.l ++ beB 8 x.n)))
def diB (d : Di) : List UInt8 := beB 2 d.p.toNat ++ beB 8 d.r
def txsB (ts : List Tx) : List UInt8 := ts.flatMap txB
def disB (ds : List Di) : List UInt8 := ds.flatMap diB
def checkB (b : Nat) (ts : List Tx) (ds : List Di) : List UInt8 := beB 8 b ++ (beB 1 ts.length ++ (txsB ts ++ (beB 1 ds.length ++ disB ds)))
def mayB (q : Prop) [Decidable q] (b : List UInt8) : List UInt8 := if q then b else []
def recB (r : Rec) : List UInt8 :=
  beB 1 r.k.toNat ++ (beB 8 r.l ++ (beB 4 r.t.toNat ++ (beB 8 r.p ++ (mayB (r.k ≤ 2) (chB r.c) ++ (mayB (r.k = 2) (beB 8 r.n) ++ (mayB (r.k = 6) (beB 1 r.s.toNat) ++ mayB (r.k = 8) (checkB r.b r.ts r.ds)))))))

/-! ### Reading -/
/-- What is left to read, and the first error. -/
structure St where
  l : List UInt8
  e : Int
def bindP {α β : Type} (p : St → α × St) (q : α → St → β × St) (s : St) : β × St := q (p s).1 (p s).2
def pureP {α : Type} (a : α) (s : St) : α × St := (a, s)
def pNum (w : Nat) (s : St) : Nat × St := if s.e ≠ 0 then (0, s) else if w ≤ s.l.length then (be (s.l.take w), ⟨s.l.drop w, 0⟩) else (0, ⟨[], 4⟩)
def pText (s : St) : ByteArray × St :=
  if s.e ≠ 0 then (⟨#[]⟩, s) else match s.l with
    | [] => (⟨#[]⟩, ⟨[], 4⟩)
    | b :: l => if b.toNat ≤ l.length then (⟨(l.take b.toNat).toArray⟩, ⟨l.drop b.toNat, 0⟩) else (⟨#[]⟩, ⟨[], 4⟩)
/-- A number in these bounds, or ErrForm. -/
def pIn (lo hi : Nat) (s : St) : Nat × St := if (pNum 1 s).2.e = 0 ∧ ((pNum 1 s).1 < lo ∨ hi < (pNum 1 s).1) then ((pNum 1 s).1, ⟨(pNum 1 s).2.l, 2⟩) else pNum 1 s
def pCh : St → Ch × St := bindP (pNum 1) fun k => bindP (pNum 2) fun pg => bindP (pNum 1) fun sl => bindP pText fun o => bindP pText fun n => pureP ⟨k, pg, sl, o, n⟩
def pTx : St → Tx × St := bindP (pNum 4) fun t => bindP (pNum 1) fun s => bindP (pNum 8) fun f => bindP (pNum 8) fun l => bindP (pNum 8) fun n => pureP ⟨t, s, f, l, n⟩
def pDi : St → Di × St := bindP (pNum 2) fun p => bindP (pNum 8) fun r => pureP ⟨p, r⟩
def pSome {α : Type} (p : St → α × St) : Nat → St → List α × St
  | 0, s => ([], s)
  | n + 1, s => if s.e ≠ 0 then ([], s) else ((p s).1 :: (pSome p n (p s).2).1, (pSome p n (p s).2).2)
def pCheck : St → (Nat × List Tx × List Di) × St := bindP (pNum 8) fun b => bindP (pIn 0 16) fun n => bindP (pSome pTx n) fun ts => bindP (pIn 0 32) fun m => bindP (pSome pDi m) fun ds => pureP (b, ts, ds)
def pMay {α : Type} (q : Prop) [Decidable q] (z : α) (p : St → α × St) : St → α × St := if q then p else pureP z
def pRec : St → Rec × St :=
  bindP (pIn 1 8) fun k => bindP (pNum 8) fun l => bindP (pNum 4) fun t => bindP (pNum 8) fun p => bindP (pMay (k ≤ 2) Ch.zero pCh) fun c => bindP (pMay (k = 2) 0 (pNum 8)) fun n => bindP (pMay (k = 6) 0 (pNum 1)) fun s =>
    bindP (pMay (k = 8) (0, [], []) pCheck) fun x => pureP ⟨k, l, t, p, c, n, s, x.1, x.2.1, x.2.2⟩
def decR (b : List UInt8) : Rec × Int :=
  if (pRec ⟨b, 0⟩).2.e ≠ 0 then (Rec.zero, (pRec ⟨b, 0⟩).2.e) else if (pRec ⟨b, 0⟩).2.l ≠ [] ∨ (pRec ⟨b, 0⟩).1.rightB = false then (Rec.zero, 2) else ((pRec ⟨b, 0⟩).1, 0)

/-! ### What was laid is read -/
def Reads {α : Type} (p : St → α × St) (a : α) (bs : List UInt8) : Prop := ∀ l, p ⟨bs ++ l, 0⟩ = (a, ⟨l, 0⟩)
theorem Reads.bind {α β : Type} {p : St → α × St} {q : α → St → β × St} {a : α} {c : β} {bs cs : List UInt8} (h : Reads p a bs) (g : Reads (q a) c cs) : Reads (bindP p q) c (bs ++ cs) := fun l => by
  unfold bindP
  rw [List.append_assoc, h (cs ++ l)]
  exact g l
theorem Reads.pure {α : Type} (a : α) : Reads (pureP a) a [] := fun l => rfl
theorem Reads.last {α β : Type} {p : St → α × St} {q : α → St → β × St} {a : α} {c : β} {bs : List UInt8} (h : Reads p a bs) (g : Reads (q a) c []) : Reads (bindP p q) c bs := by
  have := h.bind g
  rwa [List.append_nil] at this
theorem Reads.num (w n : Nat) (h : n < 256 ^ w) : Reads (pNum w) n (beB w n) := fun l => by
  unfold pNum
  have hl := beB_length w n
  rw [if_neg (by simp), if_pos (by simp only [List.length_append]; omega)]
  simp only
  rw [List.take_left' hl, List.drop_left' hl, be_beB w n h]
theorem Reads.text (s : ByteArray) (h : s.size ≤ 255) : Reads pText s (textB s.data.toList) := fun l => by
  unfold pText textB
  have hz : (UInt8.ofNat s.size).toNat = s.size := by
    rw [toNat_ofNat]
    omega
  rw [if_neg (by simp)]
  simp only [List.cons_append, data_length, hz, List.length_append]
  rw [if_pos (by omega), List.take_left' (data_length s), List.drop_left' (data_length s), mk_self]
theorem Reads.in (lo hi n : Nat) (h : n < 256) (h1 : lo ≤ n) (h2 : n ≤ hi) : Reads (pIn lo hi) n (beB 1 n) := fun l => by
  unfold pIn
  rw [Reads.num 1 n (by omega) l, if_neg (by simp only; omega)]
theorem Reads.some {α : Type} {p : St → α × St} {f : α → List UInt8} : ∀ (xs : List α), (∀ x ∈ xs, Reads p x (f x)) → Reads (pSome p xs.length) xs (xs.flatMap f)
  | [], _ => fun l => rfl
  | x :: xs, h => fun l => by
    have h1 := h x (by simp)
    have h2 := Reads.some xs (fun y hy => h y (by simp [hy]))
    show pSome p (xs.length + 1) ⟨(f x ++ xs.flatMap f) ++ l, 0⟩ = _
    unfold pSome
    rw [if_neg (by simp), List.append_assoc, h1 (xs.flatMap f ++ l), h2 l]
theorem Reads.may {α : Type} {q : Prop} [Decidable q] {z a : α} {p : St → α × St} {bs : List UInt8} (h1 : q → Reads p a bs) (h2 : ¬ q → a = z) : Reads (pMay q z p) a (mayB q bs) := by
  unfold pMay mayB
  by_cases h : q
  · rw [if_pos h, if_pos h]
    exact h1 h
  · rw [if_neg h, if_neg h, h2 h]
    exact Reads.pure z
end Go.Proofs.Ytohdmmfmjadipaa

/-
  A record's bytes are read as it; bytes that are read are just the bytes of what they tell; cut off they end too early.
-/
namespace Go.Proofs.Ytohdmmfmjadipaa
open Go.RowKit
set_option linter.unusedVariables false

theorem Reads.same {α : Type} {a b : α} (h : b = a) : Reads (pureP a) b [] := by
  subst h
  exact Reads.pure _
theorem cast_nat (k : Int) (h : 0 ≤ k) : ((k.toNat : Nat) : Int) = k := Int.toNat_of_nonneg h

theorem Reads.ch (c : Ch) (h : c.right) : Reads pCh c (chB c) := by
  obtain ⟨h1, h2⟩ := h
  have hk : 1 ≤ c.k ∧ c.k ≤ 3 := by rcases h2 with h | h | h <;> omega
  have e : c = ⟨(c.k.toNat : Nat), (c.pg.toNat : Nat), (c.sl.toNat : Nat), c.o, c.n⟩ := by
    rw [cast_nat _ (by omega), cast_nat _ (by omega), cast_nat _ (by omega)]
  unfold pCh chB
  refine (Reads.num 1 _ (by omega)).bind ((Reads.num 2 _ (by omega)).bind ((Reads.num 1 _ (by omega)).bind ((Reads.text c.o (by omega)).bind ((Reads.text c.n (by omega)).last ?_))))
  exact Reads.same e
theorem Reads.tx (l : Nat) (x : Tx) (hl : l ≤ maxP) (h : txOk l x) : Reads pTx x (txB x) := by
  obtain ⟨h1, h2, h3, h4, h5, h6, h7, h8⟩ := h
  have e : x = ⟨(x.t.toNat : Nat), (x.s.toNat : Nat), x.f, x.l, x.n⟩ := by
    rw [cast_nat _ (by omega), cast_nat _ (by omega)]
  unfold maxP at hl
  unfold pTx txB
  refine (Reads.num 4 _ (by omega)).bind ((Reads.num 1 _ (by omega)).bind ((Reads.num 8 _ (by omega)).bind ((Reads.num 8 _ (by omega)).bind ((Reads.num 8 _ (by omega)).last ?_))))
  exact Reads.same e
theorem Reads.di (l : Nat) (d : Di) (hl : l ≤ maxP) (h : diOk l d) : Reads pDi d (diB d) := by
  obtain ⟨h1, h2, h3, h4⟩ := h
  have e : d = ⟨(d.p.toNat : Nat), d.r⟩ := by rw [cast_nat _ (by omega)]
  unfold maxP at hl
  unfold pDi diB
  refine (Reads.num 2 _ (by omega)).bind ((Reads.num 8 _ (by omega)).last ?_)
  exact Reads.same e
theorem mem_getD {α : Type} (xs : List α) (z x : α) (h : x ∈ xs) : ∃ i, i < xs.length ∧ xs.getD i z = x := by
  obtain ⟨i, hi, he⟩ := List.mem_iff_getElem.1 h
  exact ⟨i, hi, by simp [List.getD, hi, he]⟩
theorem Reads.check (r : Rec) (hl : r.l ≤ maxP) (h : r.rows) : Reads pCheck (r.b, r.ts, r.ds) (checkB r.b r.ts r.ds) := by
  obtain ⟨h1, h2, h3, h4, h5, h6⟩ := h
  have g1 : ∀ x ∈ r.ts, Reads pTx x (txB x) := fun x hx => by
    obtain ⟨i, hi, rfl⟩ := mem_getD r.ts Tx.zero x hx
    exact Reads.tx r.l _ hl (h3 i hi).1
  have g2 : ∀ x ∈ r.ds, Reads pDi x (diB x) := fun x hx => by
    obtain ⟨i, hi, rfl⟩ := mem_getD r.ds Di.zero x hx
    exact Reads.di r.l _ hl (h4 i hi).1
  unfold maxP at hl
  unfold pCheck checkB
  exact (Reads.num 8 _ (by omega)).bind ((Reads.in 0 16 _ (by omega) (by omega) h1).bind ((Reads.some r.ts g1).bind ((Reads.in 0 32 _ (by omega) (by omega) h2).bind ((Reads.some r.ds g2).last (Reads.pure _)))))
theorem Reads.rec (r : Rec) (h : r.right) : Reads pRec r (recB r) := by
  have hk1 := h.k1
  have hk8 := h.k8
  have ht : 0 ≤ r.t ∧ r.t < 4294967296 := by
    by_cases hk : r.k ≤ 6
    · have := h.own hk
      omega
    · have := h.none (by omega)
      omega
  have hp : r.p < 256 ^ 8 := by
    have hl := h.lm
    unfold maxP at hl
    by_cases hk : r.k ≤ 6
    · have := h.own hk
      omega
    · have := h.none (by omega)
      omega
  have hll := h.lm
  have hs : 0 ≤ r.s ∧ r.s < 256 := by
    by_cases hk : r.k = 6
    · have := h.save hk
      omega
    · have := h.nosave hk
      omega
  have hn : r.n < 256 ^ 8 := by
    unfold maxP at hll
    by_cases hk : r.k = 2
    · have := h.next hk
      omega
    · have := h.nonext hk
      omega
  have e : r = ⟨(r.k.toNat : Nat), r.l, (r.t.toNat : Nat), r.p, r.c, r.n, (r.s.toNat : Nat), (r.b, r.ts, r.ds).1, (r.b, r.ts, r.ds).2.1, (r.b, r.ts, r.ds).2.2⟩ := by
    rw [cast_nat _ (by omega), cast_nat _ ht.1, cast_nat _ hs.1]
  have ek := cast_nat r.k (by omega)
  have m1 : mayB (r.k ≤ 2) (chB r.c) = mayB (r.k.toNat ≤ 2) (chB r.c) := by
    unfold mayB
    by_cases hk : r.k ≤ 2
    · rw [if_pos hk, if_pos (by omega)]
    · rw [if_neg hk, if_neg (by omega)]
  have m2 : mayB (r.k = 2) (beB 8 r.n) = mayB (r.k.toNat = 2) (beB 8 r.n) := by
    unfold mayB
    by_cases hk : r.k = 2
    · rw [if_pos hk, if_pos (by omega)]
    · rw [if_neg hk, if_neg (by omega)]
  have m3 : mayB (r.k = 6) (beB 1 r.s.toNat) = mayB (r.k.toNat = 6) (beB 1 r.s.toNat) := by
    unfold mayB
    by_cases hk : r.k = 6
    · rw [if_pos hk, if_pos (by omega)]
    · rw [if_neg hk, if_neg (by omega)]
  have m4 : mayB (r.k = 8) (checkB r.b r.ts r.ds) = mayB (r.k.toNat = 8) (checkB r.b r.ts r.ds) := by
    unfold mayB
    by_cases hk : r.k = 8
    · rw [if_pos hk, if_pos (by omega)]
    · rw [if_neg hk, if_neg (by omega)]
  unfold pRec recB
  rw [m1, m2, m3, m4]
  refine (Reads.in 1 8 _ (by omega) (by omega) (by omega)).bind ((Reads.num 8 r.l (by unfold maxP at hll; omega)).bind ((Reads.num 4 _ (by omega)).bind ((Reads.num 8 r.p hp).bind ((Reads.may (a := r.c) (fun hk => Reads.ch r.c (h.ch (by omega))) (fun hk => h.noch (by omega))).bind ((Reads.may (a := r.n) (fun hk => Reads.num 8 r.n hn) (fun hk => h.nonext (by omega))).bind
    ((Reads.may (a := r.s.toNat) (fun hk => Reads.num 1 _ (by omega)) (fun hk => by have := h.nosave (by omega); omega)).bind ((Reads.may (a := (r.b, r.ts, r.ds)) (fun hk => Reads.check r hll (h.check (by omega))) (fun hk => by obtain ⟨a1, a2, a3⟩ := h.nocheck (by omega); rw [a1, a2, a3])).last ?_)))))))
  exact Reads.same e

/-- A record's bytes, and bytes behind them. -/
theorem dec_enc (r : Rec) (h : r.right) : decR (recB r) = (r, 0) := by
  have h1 := Reads.rec r h []
  rw [List.append_nil] at h1
  unfold decR
  rw [h1, if_neg (by simp), if_neg]
  simp [rightB_yes h]
theorem dec_more (r : Rec) (h : r.right) (t : List UInt8) (ht : t ≠ []) : decR (recB r ++ t) = (Rec.zero, 2) := by
  unfold decR
  rw [Reads.rec r h t, if_neg (by simp), if_pos (.inl ht)]

/-! ### Bytes that are read are the bytes of what they tell -/
theorem beB_be : ∀ (bs : List UInt8), beB bs.length (be bs) = bs
  | [] => rfl
  | b :: bs => by
    have h := be_lt bs
    have hp : 0 < 256 ^ bs.length := Nat.pow_pos (by omega)
    rw [be_cons, List.length_cons, beB_cons, beB_low]
    have e1 : (b.toNat * 256 ^ bs.length + be bs) / 256 ^ bs.length = b.toNat := by
      rw [Nat.mul_comm, Nat.mul_add_div hp, Nat.div_eq_of_lt h, Nat.add_zero]
    have e2 : (b.toNat * 256 ^ bs.length + be bs) % 256 ^ bs.length = be bs := by
      rw [Nat.mul_comm, Nat.mul_add_mod, Nat.mod_eq_of_lt h]
    rw [e1, e2, beB_be bs]
    congr 1
    simp
def Tells {α : Type} (p : St → α × St) (f : α → List UInt8) : Prop := ∀ s, (p s).2.e = 0 → s.e = 0 ∧ s.l = f (p s).1 ++ (p s).2.l
theorem Tells.num (w : Nat) : ∀ s, (pNum w s).2.e = 0 → s.e = 0 ∧ s.l = beB w (pNum w s).1 ++ (pNum w s).2.l ∧ (pNum w s).1 < 256 ^ w := by
  intro s
  unfold pNum
  by_cases he : s.e = 0
  · rw [if_neg (by simpa using he)]
    by_cases hw : w ≤ s.l.length
    · rw [if_pos hw]
      intro _
      have hl : (s.l.take w).length = w := by rw [List.length_take]; omega
      refine ⟨he, ?_, ?_⟩
      · show s.l = beB w (be (s.l.take w)) ++ s.l.drop w
        have h := beB_be (s.l.take w)
        rw [hl] at h
        rw [h, List.take_append_drop]
      · have h := be_lt (s.l.take w)
        rwa [hl] at h
    · rw [if_neg hw]
      intro h
      cases h
  · rw [if_pos he]
    intro h
    exact absurd h he
theorem Tells.text : ∀ s, (pText s).2.e = 0 → s.e = 0 ∧ s.l = textB (pText s).1.data.toList ++ (pText s).2.l := by
  intro s
  unfold pText
  by_cases he : s.e = 0
  · rw [if_neg (by simpa using he)]
    obtain ⟨l, e⟩ := s
    cases l with
    | nil => intro h; cases h
    | cons b l =>
      simp only
      by_cases hb : b.toNat ≤ l.length
      · rw [if_pos hb]
        intro _
        refine ⟨he, ?_⟩
        show b :: l = textB (l.take b.toNat) ++ l.drop b.toNat
        unfold textB
        have hl : (l.take b.toNat).length = b.toNat := by rw [List.length_take]; omega
        rw [hl, List.cons_append, List.take_append_drop]
        congr 1
        simp
      · rw [if_neg hb]
        intro h
        cases h
  · rw [if_pos he]
    intro h
    exact absurd h he
theorem Tells.in (lo hi : Nat) : ∀ s, (pIn lo hi s).2.e = 0 → s.e = 0 ∧ s.l = beB 1 (pIn lo hi s).1 ++ (pIn lo hi s).2.l ∧ lo ≤ (pIn lo hi s).1 ∧ (pIn lo hi s).1 ≤ hi := by
  intro s
  unfold pIn
  by_cases h : (pNum 1 s).2.e = 0 ∧ ((pNum 1 s).1 < lo ∨ hi < (pNum 1 s).1)
  · rw [if_pos h]
    intro h2
    cases h2
  · rw [if_neg h]
    intro h2
    obtain ⟨h3, h4, _⟩ := Tells.num 1 s h2
    exact ⟨h3, h4, by omega, by omega⟩

theorem Tells.ch : Tells pCh chB := by
  intro s h
  have h5 := Tells.text _ h
  have h4 := Tells.text _ h5.1
  have h3 := Tells.num 1 _ h4.1
  have h2 := Tells.num 2 _ h3.1
  have h1 := Tells.num 1 _ h2.1
  refine ⟨h1.1, ?_⟩
  rw [h1.2.1, h2.2.1, h3.2.1, h4.2, h5.2]
  show _ = (beB 1 _ ++ (beB 2 _ ++ (beB 1 _ ++ (textB _ ++ textB _)))) ++ _
  simp only [List.append_assoc]
  rfl
theorem Tells.tx : Tells pTx txB := by
  intro s h
  have h5 := Tells.num 8 _ h
  have h4 := Tells.num 8 _ h5.1
  have h3 := Tells.num 8 _ h4.1
  have h2 := Tells.num 1 _ h3.1
  have h1 := Tells.num 4 _ h2.1
  refine ⟨h1.1, ?_⟩
  rw [h1.2.1, h2.2.1, h3.2.1, h4.2.1, h5.2.1]
  show _ = (beB 4 _ ++ (beB 1 _ ++ (beB 8 _ ++ (beB 8 _ ++ beB 8 _)))) ++ _
  simp only [List.append_assoc]
  rfl
theorem Tells.di : Tells pDi diB := by
  intro s h
  have h2 := Tells.num 8 _ h
  have h1 := Tells.num 2 _ h2.1
  refine ⟨h1.1, ?_⟩
  rw [h1.2.1, h2.2.1]
  show _ = (beB 2 _ ++ beB 8 _) ++ _
  simp only [List.append_assoc]
  rfl
theorem Tells.some {α : Type} {p : St → α × St} {f : α → List UInt8} (hp : Tells p f) : ∀ n s, (pSome p n s).2.e = 0 → s.e = 0 ∧ s.l = (pSome p n s).1.flatMap f ++ (pSome p n s).2.l ∧ (pSome p n s).1.length = n
  | 0, s => fun h => ⟨h, rfl, rfl⟩
  | n + 1, s => by
    unfold pSome
    by_cases he : s.e = 0
    · rw [if_neg (by simpa using he)]
      intro h
      obtain ⟨h1, h2, h3⟩ := Tells.some hp n (p s).2 h
      obtain ⟨_, h4⟩ := hp s h1
      refine ⟨he, ?_, by show (pSome p n (p s).2).1.length + 1 = n + 1; rw [h3]⟩
      rw [h4]
      conv => lhs; rw [h2]
      show _ = (f _ ++ _) ++ _
      rw [List.append_assoc]
      rfl
    · rw [if_pos he]
      intro h
      exact absurd h he
end Go.Proofs.Ytohdmmfmjadipaa

/-
  Bytes that are read whole, and bytes that are cut off.
-/
namespace Go.Proofs.Ytohdmmfmjadipaa
open Go.RowKit
set_option linter.unusedVariables false

theorem Tells.check : ∀ s, (pCheck s).2.e = 0 → s.e = 0 ∧ s.l = checkB (pCheck s).1.1 (pCheck s).1.2.1 (pCheck s).1.2.2 ++ (pCheck s).2.l := by
  intro s h
  have h5 := Tells.some Tells.di _ _ h
  have h4 := Tells.in 0 32 _ h5.1
  have h3 := Tells.some Tells.tx _ _ h4.1
  have h2 := Tells.in 0 16 _ h3.1
  have h1 := Tells.num 8 _ h2.1
  refine ⟨h1.1, ?_⟩
  have e : ∀ (b n m : Nat) (ts : List Tx) (ds : List Di), ts.length = n → ds.length = m → checkB b ts ds = beB 8 b ++ (beB 1 n ++ (txsB ts ++ (beB 1 m ++ disB ds))) := by
    rintro b n m ts ds rfl rfl
    rfl
  unfold pCheck bindP pureP
  simp only
  rw [e _ _ _ _ _ h3.2.2 h5.2.2]
  rw [h1.2.1, h2.2.1, h3.2.1, h4.2.1, h5.2.1]
  simp only [List.append_assoc]
  rfl

theorem Tells.may {α : Type} {q : Prop} [Decidable q] {z : α} {p : St → α × St} {f : α → List UInt8} (h : Tells p f) : ∀ s, (pMay q z p s).2.e = 0 → s.e = 0 ∧ s.l = mayB q (f (pMay q z p s).1) ++ (pMay q z p s).2.l := by
  intro s
  unfold pMay mayB
  by_cases hq : q
  · rw [if_pos hq, if_pos hq]
    exact h s
  · rw [if_neg hq, if_neg hq]
    intro he
    exact ⟨he, rfl⟩

theorem mayB_iff {a b : Prop} [Decidable a] [Decidable b] (h : a ↔ b) (l : List UInt8) : mayB a l = mayB b l := by
  unfold mayB
  by_cases hb : b
  · rw [if_pos (h.2 hb), if_pos hb]
  · rw [if_neg (fun g => hb (h.1 g)), if_neg hb]

theorem Tells.rec : ∀ s, (pRec s).2.e = 0 → s.e = 0 ∧ s.l = recB (pRec s).1 ++ (pRec s).2.l := by
  intro s h
  have h8 := Tells.may (f := fun x : Nat × List Tx × List Di => checkB x.1 x.2.1 x.2.2) Tells.check _ h
  have h7 := Tells.may (f := fun x : Nat => beB 1 x) (fun s hs => ⟨(Tells.num 1 s hs).1, (Tells.num 1 s hs).2.1⟩) _ h8.1
  have h6 := Tells.may (f := fun x : Nat => beB 8 x) (fun s hs => ⟨(Tells.num 8 s hs).1, (Tells.num 8 s hs).2.1⟩) _ h7.1
  have h5 := Tells.may Tells.ch _ h6.1
  have h4 := Tells.num 8 _ h5.1
  have h3 := Tells.num 4 _ h4.1
  have h2 := Tells.num 8 _ h3.1
  have h1 := Tells.in 1 8 _ h2.1
  refine ⟨h1.1, ?_⟩
  have e : ∀ (k l t p : Nat) (c : Ch) (n sv b : Nat) (ts : List Tx) (ds : List Di), recB ⟨k, l, t, p, c, n, sv, b, ts, ds⟩ = beB 1 k ++ (beB 8 l ++ (beB 4 t ++ (beB 8 p ++ (mayB (k ≤ 2) (chB c) ++ (mayB (k = 2) (beB 8 n) ++ (mayB (k = 6) (beB 1 sv) ++ mayB (k = 8) (checkB b ts ds))))))) := by
    intro k l t p c n sv b ts ds
    unfold recB
    simp only [Int.toNat_natCast]
    rw [mayB_iff (show ((k : Int) ≤ 2) ↔ k ≤ 2 by omega), mayB_iff (show ((k : Int) = 2) ↔ k = 2 by omega), mayB_iff (show ((k : Int) = 6) ↔ k = 6 by omega), mayB_iff (show ((k : Int) = 8) ↔ k = 8 by omega)]
  show s.l = recB _ ++ _
  unfold pRec bindP pureP
  simp only
  rw [e]
  rw [h1.2.1, h2.2.1, h3.2.1, h4.2.1, h5.2, h6.2, h7.2, h8.2]
  simp only [List.append_assoc]

/-- What is decoded is right, and has just these bytes. -/
theorem dec_ok (b : List UInt8) (h : (decR b).2 = 0) : (decR b).1.right ∧ recB (decR b).1 = b := by
  unfold decR at h ⊢
  by_cases h1 : (pRec ⟨b, 0⟩).2.e ≠ 0
  · rw [if_pos h1] at h
    exact absurd h h1
  · rw [if_neg h1] at h ⊢
    by_cases h2 : (pRec ⟨b, 0⟩).2.l ≠ [] ∨ (pRec ⟨b, 0⟩).1.rightB = false
    · rw [if_pos h2] at h
      cases h
    · rw [if_neg h2]
      have h3 : (pRec ⟨b, 0⟩).2.l = [] := Decidable.of_not_not fun h3 => h2 (.inl h3)
      have h4 : (pRec ⟨b, 0⟩).1.rightB = true := by
        cases hb : (pRec ⟨b, 0⟩).1.rightB
        · exact absurd (.inr hb) h2
        · rfl
      obtain ⟨_, h5⟩ := Tells.rec ⟨b, 0⟩ (Decidable.of_not_not h1)
      refine ⟨rightB_iff.1 h4, ?_⟩
      rw [h3, List.append_nil] at h5
      exact h5.symm
theorem dec_no (b : List UInt8) (h : (decR b).2 ≠ 0) : (decR b).1 = Rec.zero := by
  unfold decR at h ⊢
  split
  · rfl
  · rename_i h1
    rw [if_neg h1] at h
    split
    · rfl
    · rename_i h2
      rw [if_neg h2] at h
      exact absurd rfl h

/-! ### Cut off -/
/-- The one reads what the other reads, whose end the one lacks; or has come to its end. -/
def Rel (t : List UInt8) (s s' : St) : Prop := s.e = 4 ∨ (s.e = 0 ∧ s'.e = 0 ∧ s'.l = s.l ++ t)
structure Good {α : Type} (p : St → α × St) : Prop where
  stick : ∀ s, s.e ≠ 0 → (p s).2 = s
  sim : ∀ t s s', Rel t s s' → (p s').2.e = 0 → Rel t (p s).2 (p s').2 ∧ ((p s).2.e = 0 → (p s).1 = (p s').1)
theorem Good.pure {α : Type} (a : α) : Good (pureP a) := ⟨fun s _ => rfl, fun t s s' h _ => ⟨h, fun _ => rfl⟩⟩
theorem Good.bind {α β : Type} {p : St → α × St} {q : α → St → β × St} (hp : Good p) (hq : ∀ a, Good (q a)) : Good (bindP p q) := by
  refine ⟨fun s hs => ?_, fun t s s' h h' => ?_⟩
  · unfold bindP
    have h1 := hp.stick s hs
    rw [h1]
    exact (hq _).stick s hs
  · unfold bindP at h' ⊢
    have e' : (p s').2.e = 0 := by
      by_cases he : (p s').2.e = 0
      · exact he
      · rw [(hq _).stick _ he] at h'
        exact h'
    obtain ⟨h1, h2⟩ := hp.sim t s s' h e'
    by_cases he : (p s).2.e = 0
    · rw [h2 he]
      exact (hq _).sim t _ _ h1 h'
    · have h4 : (p s).2.e = 4 := by
        rcases h1 with h1 | h1
        · exact h1
        · exact absurd h1.1 he
      rw [(hq (p s).1).stick _ he]
      exact ⟨.inl h4, fun h5 => absurd h5 he⟩
theorem Good.num (w : Nat) : Good (pNum w) := by
  refine ⟨fun s hs => by unfold pNum; rw [if_pos hs], fun t s s' h h' => ?_⟩
  rcases h with h | ⟨h1, h2, h3⟩
  · have hs : s.e ≠ 0 := by omega
    have e : pNum w s = (0, s) := by unfold pNum; rw [if_pos hs]
    rw [e]
    exact ⟨.inl h, fun h5 => absurd h5 hs⟩
  · by_cases hw : w ≤ s.l.length
    · have e : pNum w s = (be (s.l.take w), ⟨s.l.drop w, 0⟩) := by unfold pNum; rw [if_neg (by simpa using h1), if_pos hw]
      have hw' : w ≤ s'.l.length := by rw [h3, List.length_append]; omega
      have e' : pNum w s' = (be (s'.l.take w), ⟨s'.l.drop w, 0⟩) := by unfold pNum; rw [if_neg (by simpa using h2), if_pos hw']
      rw [e, e', h3]
      refine ⟨.inr ⟨rfl, rfl, ?_⟩, fun _ => ?_⟩
      · show (s.l ++ t).drop w = s.l.drop w ++ t
        rw [List.drop_append_of_le_length hw]
      · show be (s.l.take w) = be ((s.l ++ t).take w)
        rw [List.take_append_of_le_length hw]
    · have e : pNum w s = (0, ⟨[], 4⟩) := by unfold pNum; rw [if_neg (by simpa using h1), if_neg hw]
      rw [e]
      exact ⟨.inl rfl, fun h5 => by cases h5⟩
theorem Good.text : Good pText := by
  refine ⟨fun s hs => by unfold pText; rw [if_pos hs], fun t s s' h h' => ?_⟩
  rcases h with h | ⟨h1, h2, h3⟩
  · have hs : s.e ≠ 0 := by omega
    have e : pText s = (⟨#[]⟩, s) := by unfold pText; rw [if_pos hs]
    rw [e]
    exact ⟨.inl h, fun h5 => absurd h5 hs⟩
  · obtain ⟨l, e⟩ := s
    obtain ⟨l', e'⟩ := s'
    simp only at h1 h2 h3
    subst h1 h2 h3
    cases l with
    | nil => exact ⟨.inl rfl, fun h5 => by cases h5⟩
    | cons b l =>
      by_cases hb : b.toNat ≤ l.length
      · have e1 : pText ⟨b :: l, 0⟩ = (⟨(l.take b.toNat).toArray⟩, ⟨l.drop b.toNat, 0⟩) := by
          unfold pText
          rw [if_neg (by simp)]
          simp only
          rw [if_pos hb]
        have e2 : pText ⟨b :: l ++ t, 0⟩ = (⟨((l ++ t).take b.toNat).toArray⟩, ⟨(l ++ t).drop b.toNat, 0⟩) := by
          unfold pText
          rw [if_neg (by simp)]
          simp only [List.cons_append]
          rw [if_pos (by rw [List.length_append]; omega)]
        rw [e1, e2, List.drop_append_of_le_length hb, List.take_append_of_le_length hb]
        exact ⟨.inr ⟨rfl, rfl, rfl⟩, fun _ => rfl⟩
      · have e1 : pText ⟨b :: l, 0⟩ = (⟨#[]⟩, ⟨[], 4⟩) := by
          unfold pText
          rw [if_neg (by simp)]
          simp only
          rw [if_neg hb]
        rw [e1]
        exact ⟨.inl rfl, fun h5 => by cases h5⟩
theorem Good.in (lo hi : Nat) : Good (pIn lo hi) := by
  refine ⟨fun s hs => ?_, fun t s s' h h' => ?_⟩
  · unfold pIn
    have h1 := (Good.num 1).stick s hs
    rw [if_neg (by rw [h1]; exact fun h => hs h.1)]
    exact h1
  · have hc' : ¬ ((pNum 1 s').2.e = 0 ∧ ((pNum 1 s').1 < lo ∨ hi < (pNum 1 s').1)) := by
      intro hc
      unfold pIn at h'
      rw [if_pos hc] at h'
      cases h'
    have e' : pIn lo hi s' = pNum 1 s' := by unfold pIn; rw [if_neg hc']
    rw [e'] at h' ⊢
    obtain ⟨h1, h2⟩ := (Good.num 1).sim t s s' h h'
    have hc : ¬ ((pNum 1 s).2.e = 0 ∧ ((pNum 1 s).1 < lo ∨ hi < (pNum 1 s).1)) := by
      intro hc
      rw [h2 hc.1] at hc
      exact hc' ⟨h', hc.2⟩
    have e : pIn lo hi s = pNum 1 s := by unfold pIn; rw [if_neg hc]
    rw [e]
    exact ⟨h1, h2⟩
theorem Good.some {α : Type} {p : St → α × St} (hp : Good p) : ∀ n, Good (pSome p n)
  | 0 => ⟨fun s _ => rfl, fun t s s' h _ => ⟨h, fun _ => rfl⟩⟩
  | n + 1 => by
    have ih := Good.some hp n
    refine ⟨fun s hs => by unfold pSome; rw [if_pos hs], fun t s s' h h' => ?_⟩
    by_cases hs : s.e = 0
    · have hs' : s'.e = 0 := by
        rcases h with h | h
        · omega
        · exact h.2.1
      have e : pSome p (n + 1) s = ((p s).1 :: (pSome p n (p s).2).1, (pSome p n (p s).2).2) := by
        conv => lhs; unfold pSome
        rw [if_neg (by simpa using hs)]
      have e' : pSome p (n + 1) s' = ((p s').1 :: (pSome p n (p s').2).1, (pSome p n (p s').2).2) := by
        conv => lhs; unfold pSome
        rw [if_neg (by simpa using hs')]
      rw [e'] at h' ⊢
      rw [e]
      have e1 : (p s').2.e = 0 := by
        by_cases he : (p s').2.e = 0
        · exact he
        · have := ih.stick _ he
          simp only at h'
          rw [this] at h'
          exact h'
      obtain ⟨h1, h2⟩ := hp.sim t s s' h e1
      obtain ⟨h3, h4⟩ := ih.sim t _ _ h1 h'
      refine ⟨h3, fun h5 => ?_⟩
      have e2 : (p s).2.e = 0 := by
        by_cases he : (p s).2.e = 0
        · exact he
        · have := ih.stick _ he
          simp only at h5
          rw [this] at h5
          exact h5
      show _ :: _ = _ :: _
      rw [h2 e2, h4 h5]
    · have e : pSome p (n + 1) s = ([], s) := by
        conv => lhs; unfold pSome
        rw [if_pos hs]
      rw [e]
      have h4 : s.e = 4 := by
        rcases h with h | h
        · exact h
        · exact absurd h.1 hs
      exact ⟨.inl h4, fun h5 => absurd h5 hs⟩
theorem Good.may {α : Type} {q : Prop} [Decidable q] {z : α} {p : St → α × St} (hp : Good p) : Good (pMay q z p) := by
  unfold pMay
  split
  · exact hp
  · exact Good.pure z
theorem Good.ch : Good pCh := (Good.num 1).bind fun _ => (Good.num 2).bind fun _ => (Good.num 1).bind fun _ => Good.text.bind fun _ => Good.text.bind fun _ => Good.pure _
theorem Good.tx : Good pTx := (Good.num 4).bind fun _ => (Good.num 1).bind fun _ => (Good.num 8).bind fun _ => (Good.num 8).bind fun _ => (Good.num 8).bind fun _ => Good.pure _
theorem Good.di : Good pDi := (Good.num 2).bind fun _ => (Good.num 8).bind fun _ => Good.pure _
theorem Good.check : Good pCheck := (Good.num 8).bind fun _ => (Good.in 0 16).bind fun n => (Good.some Good.tx n).bind fun _ => (Good.in 0 32).bind fun m => (Good.some Good.di m).bind fun _ => Good.pure _
theorem Good.record : Good pRec := (Good.in 1 8).bind fun _ => (Good.num 8).bind fun _ => (Good.num 4).bind fun _ => (Good.num 8).bind fun _ => (Good.may Good.ch).bind fun _ => (Good.may (Good.num 8)).bind fun _ => (Good.may (Good.num 1)).bind fun _ => (Good.may Good.check).bind fun _ => Good.pure _

/-- A record's bytes that are cut off. -/
theorem dec_cut (r : Rec) (h : r.right) (b t : List UInt8) (hb : recB r = b ++ t) (ht : t ≠ []) : decR b = (Rec.zero, 4) := by
  have h1 := Reads.rec r h []
  rw [List.append_nil, hb] at h1
  have h2 := (Good.record.sim t ⟨b, 0⟩ ⟨b ++ t, 0⟩ (.inr ⟨rfl, rfl, rfl⟩) (by rw [h1])).1
  rw [h1] at h2
  have h3 : (pRec ⟨b, 0⟩).2.e = 4 := by
    rcases h2 with h2 | ⟨_, _, h2⟩
    · exact h2
    · have h4 : ([] : List UInt8) = (pRec ⟨b, 0⟩).2.l ++ t := h2
      have h5 := congrArg List.length h4
      rw [List.length_append] at h5
      have h6 : t.length = 0 := by simp only [List.length_nil] at h5; omega
      exact absurd (List.eq_nil_of_length_eq_zero h6) ht
  unfold decR
  rw [h3, if_pos (by decide)]
end Go.Proofs.Ytohdmmfmjadipaa

/-
  How many bytes a record has: plain facts.
-/
namespace Go.Proofs.Ytohdmmfmjadipaa
open Go.RowKit
set_option linter.unusedVariables false

theorem mayB_len {q : Prop} [Decidable q] {b : List UInt8} : (mayB q b).length = if q then b.length else 0 := by
  unfold mayB
  split <;> rfl
theorem chB_len (c : Ch) : (chB c).length = 6 + c.o.size + c.n.size := by
  unfold chB
  simp only [List.length_append, beB_length, textB_length, data_length]
  omega
/-- The bytes of a record that is no checkpoint's. -/
theorem rec_room (r : Rec) (h : r.right) (h8 : r.k ≠ 8) : 21 ≤ (recB r).length ∧ (recB r).length ≤ 75 ∧ ((r.k = 3 ∨ r.k = 4 ∨ r.k = 5 ∨ r.k = 7) → (recB r).length = 21) := by
  have e : (recB r).length = 21 + ((if r.k ≤ 2 then (chB r.c).length else 0) + ((if r.k = 2 then 8 else 0) + (if r.k = 6 then 1 else 0))) := by
    unfold recB
    simp only [List.length_append, beB_length, mayB_len]
    rw [if_neg h8]
    omega
  rw [e, chB_len]
  have hc : r.k ≤ 2 → r.c.o.size ≤ 20 ∧ r.c.n.size ≤ 20 := fun hk => by
    have := (h.ch hk).1
    omega
  by_cases h2 : r.k ≤ 2
  · have := hc h2
    rw [if_pos h2]
    split <;> split <;> exact ⟨by omega, by omega, fun hk => by omega⟩
  · rw [if_neg h2]
    split <;> split <;> exact ⟨by omega, by omega, fun hk => by omega⟩
/-- All bytes together are few. -/
theorem txB_len (x : Tx) : (txB x).length = 29 := by
  unfold txB
  simp only [List.length_append, beB_length]
theorem diB_len (d : Di) : (diB d).length = 10 := by
  unfold diB
  simp only [List.length_append, beB_length]
theorem flat_len {α : Type} (f : α → List UInt8) (n : Nat) (hf : ∀ x, (f x).length = n) : ∀ xs : List α, (xs.flatMap f).length = xs.length * n
  | [] => by simp
  | x :: xs => by
    rw [List.flatMap_cons, List.length_append, hf, flat_len f n hf xs, List.length_cons]
    rw [Nat.add_mul, Nat.one_mul, Nat.add_comm]
theorem checkB_len (b : Nat) (ts : List Tx) (ds : List Di) : (checkB b ts ds).length = 10 + ts.length * 29 + ds.length * 10 := by
  unfold checkB txsB disB
  simp only [List.length_append, beB_length, flat_len txB 29 txB_len, flat_len diB 10 diB_len]
  omega
theorem rec_few (r : Rec) (h : r.right) : (recB r).length ≤ 1000 := by
  by_cases h8 : r.k = 8
  · have hr := h.check h8
    have e : (recB r).length = 21 + (checkB r.b r.ts r.ds).length := by
      unfold recB
      simp only [List.length_append, beB_length, mayB_len]
      rw [if_neg (by omega), if_neg (by omega), if_neg (by omega), if_pos h8]
      omega
    rw [e, checkB_len]
    have := hr.1
    have := hr.2.1
    omega
  · have := (rec_room r h h8).2.1
    omega
/-- Right records are alike just if their bytes are. -/
theorem rec_inj {a b : Rec} (ha : a.right) (hb : b.right) (h : recB a = recB b) : a = b := by
  have h1 := dec_enc a ha
  rw [h, dec_enc b hb] at h1
  exact (Prod.mk.inj h1).1.symm
end Go.Proofs.Ytohdmmfmjadipaa

/-
  Frames of records: plain facts, of no program.
-/
namespace Go.Proofs.Ytohdmmfmjadipaa
open Go.RowKit
set_option linter.unusedVariables false

def sealB (bs : List UInt8) : List UInt8 := bs ++ leB (crc bs)
/-- A record's frame. -/
def frameB (r : Rec) : List UInt8 := sealB (beB 2 (recB r).length ++ recB r)
theorem sealB_length (bs : List UInt8) : (sealB bs).length = bs.length + 4 := by
  unfold sealB
  rw [List.length_append, leB_length]
theorem frameB_length (r : Rec) : (frameB r).length = (recB r).length + 6 := by
  unfold frameB
  rw [sealB_length, List.length_append, beB_length]
  omega
theorem open_seal (bs : List UInt8) : openS (sealB bs) = (bs, 0) := by
  have hl := sealB_length bs
  have e : (sealB bs).length - 4 = bs.length := by omega
  have t : (sealB bs).take bs.length = bs := List.take_left' rfl
  have d : (sealB bs).drop bs.length = leB (crc bs) := List.drop_left' rfl
  rw [openS_ok _ (by omega) (by rw [e, t, d]; exact leN_leB _ (crc_lt bs)), e, t]
theorem seal_open (f : List UInt8) (h : (openS f).2 = 0) : f = sealB (openS f).1 := by
  by_cases h1 : f.length < 4
  · rw [openS_short f h1] at h
    cases h
  · by_cases h2 : leN (f.drop (f.length - 4)) = crc (f.take (f.length - 4))
    · rw [openS_ok f h1 h2]
      exact ((seal_eq_iff f h1).2 h2).symm
    · rw [openS_no f h1 h2] at h
      cases h
/-- What is taken of bytes that begin with a frame: the record, how many bytes, the error. -/
def headF (l : List UInt8) : Rec × Nat × Int :=
  if l.length < 2 ∨ l.length < be (l.take 2) + 6 then (Rec.zero, 0, 4)
  else if (openS (l.take (be (l.take 2) + 6))).2 ≠ 0 then (Rec.zero, 0, 3)
  else if (decR ((openS (l.take (be (l.take 2) + 6))).1.drop 2)).2 ≠ 0 then (Rec.zero, 0, 2)
  else ((decR ((openS (l.take (be (l.take 2) + 6))).1.drop 2)).1, be (l.take 2) + 6, 0)
theorem frame_two (r : Rec) (h : r.right) (y : List UInt8) : be ((frameB r ++ y).take 2) = (recB r).length := by
  have hf := rec_few r h
  have e : (frameB r ++ y).take 2 = beB 2 (recB r).length := by
    unfold frameB sealB
    rw [List.append_assoc, List.append_assoc]
    exact List.take_left' (beB_length 2 _)
  rw [e]
  exact be_beB 2 _ (by omega)
/-- A frame is taken as its record. -/
theorem head_frame (r : Rec) (h : r.right) (y : List UInt8) : headF (frameB r ++ y) = (r, (frameB r).length, 0) := by
  have h2 := frame_two r h y
  have hl := frameB_length r
  have ht : (frameB r ++ y).take ((recB r).length + 6) = frameB r := List.take_left' hl
  have ho : openS (frameB r) = (beB 2 (recB r).length ++ recB r, 0) := open_seal _
  have hd : (beB 2 (recB r).length ++ recB r).drop 2 = recB r := List.drop_left' (beB_length 2 _)
  unfold headF
  rw [h2, ht, ho]
  simp only
  rw [hd, dec_enc r h, if_neg (by rw [List.length_append]; omega), if_neg (by simp), if_neg (by simp), hl]
/-- What was taken stands there. -/
theorem head_ok (l : List UInt8) (h : (headF l).2.2 = 0) : (headF l).1.right ∧ l.take (headF l).2.1 = frameB (headF l).1 ∧ (headF l).2.1 = (frameB (headF l).1).length ∧ (headF l).2.1 ≤ l.length := by
  unfold headF at h ⊢
  by_cases h1 : l.length < 2 ∨ l.length < be (l.take 2) + 6
  · rw [if_pos h1] at h
    cases h
  rw [if_neg h1] at h ⊢
  by_cases h2 : (openS (l.take (be (l.take 2) + 6))).2 ≠ 0
  · rw [if_pos h2] at h
    cases h
  rw [if_neg h2] at h ⊢
  by_cases h3 : (decR ((openS (l.take (be (l.take 2) + 6))).1.drop 2)).2 ≠ 0
  · rw [if_pos h3] at h
    cases h
  rw [if_neg h3] at h ⊢
  simp only
  have h2' : (openS (l.take (be (l.take 2) + 6))).2 = 0 := by omega
  have h3' : (decR ((openS (l.take (be (l.take 2) + 6))).1.drop 2)).2 = 0 := by omega
  obtain ⟨hr, hb⟩ := dec_ok _ h3'
  have hs := seal_open _ h2'
  generalize hn : be (l.take 2) = n at *
  generalize hq : (openS (l.take (n + 6))).1 = q at *
  have hlen : (l.take (n + 6)).length = n + 6 := by rw [List.length_take]; omega
  have hql : q.length = n + 2 := by
    have h5 := congrArg List.length hs
    rw [hlen, sealB_length] at h5
    omega
  have hq2 : q.take 2 = l.take 2 := by
    have h6 : (l.take (n + 6)).take 2 = l.take 2 := by rw [List.take_take, Nat.min_eq_left (by omega)]
    have h7 : (sealB q).take 2 = q.take 2 := by
      unfold sealB
      rw [List.take_append_of_le_length (by omega)]
    rw [← h6, hs, h7]
  have hrl : (recB (decR (q.drop 2)).1).length = n := by rw [hb, List.length_drop]; omega
  have hbe : beB 2 n = l.take 2 := by
    have h8 := beB_be (l.take 2)
    rw [List.length_take, Nat.min_eq_left (by omega), hn] at h8
    exact h8
  have hfr : frameB (decR (q.drop 2)).1 = l.take (n + 6) := by
    have e9 : beB 2 n ++ q.drop 2 = q := by rw [hbe, ← hq2]; exact List.take_append_drop 2 q
    unfold frameB
    rw [hrl, hb, e9]
    exact hs.symm
  exact ⟨hr, hfr.symm, by rw [hfr, hlen], by omega⟩
/-- A frame that is cut off isn't taken. -/
theorem head_cut (r : Rec) (h : r.right) (p t : List UInt8) (hp : frameB r = p ++ t) (ht : t ≠ []) : headF p = (Rec.zero, 0, 4) := by
  have hl := congrArg List.length hp
  rw [List.length_append, frameB_length] at hl
  have htl : 0 < t.length := List.length_pos_iff.2 ht
  unfold headF
  rw [if_pos]
  by_cases h2 : p.length < 2
  · exact .inl h2
  · right
    have h3 := frame_two r h []
    rw [List.append_nil, hp, List.take_append_of_le_length (by omega)] at h3
    rw [h3]
    omega

/-! ### Frames one behind the other -/
def framesB (rs : List Rec) : List UInt8 := rs.flatMap frameB
/-- Records that can stand one behind the other, behind this LSN. -/
def Rise : Nat → List Rec → Prop
  | _, [] => True
  | a, r :: rs => r.right ∧ a < r.l ∧ Rise r.l rs
/-- What is scanned: the records, and how many bytes. -/
def scanF : Nat → Nat → List UInt8 → List Rec × Nat
  | 0, _, _ => ([], 0)
  | f + 1, a, l =>
    if (headF l).2.2 ≠ 0 ∨ (headF l).1.l ≤ a then ([], 0)
    else ((headF l).1 :: (scanF f (headF l).1.l (l.drop (headF l).2.1)).1, (headF l).2.1 + (scanF f (headF l).1.l (l.drop (headF l).2.1)).2)
theorem scan_stop (f a : Nat) (l : List UInt8) (h : (headF l).2.2 ≠ 0 ∨ (headF l).1.l ≤ a) : scanF f a l = ([], 0) := by
  cases f with
  | zero => rfl
  | succ f => rw [scanF, if_pos h]
theorem scan_one (f a : Nat) (r : Rec) (h : r.right) (ha : a < r.l) (y : List UInt8) : scanF (f + 1) a (frameB r ++ y) = (r :: (scanF f r.l y).1, (frameB r).length + (scanF f r.l y).2) := by
  have hd : (frameB r ++ y).drop (frameB r).length = y := List.drop_left' rfl
  rw [scanF, head_frame r h y]
  simp only
  rw [if_neg (by omega), hd]
def lastL : Nat → List Rec → Nat
  | a, [] => a
  | _, r :: rs => lastL r.l rs
/-- Frames of records whose LSNs rise are scanned as these; then what stands behind. -/
theorem scan_all : ∀ (rs : List Rec) (f a : Nat) (y : List UInt8), Rise a rs → scanF (rs.length + f) a (framesB rs ++ y) = (rs ++ (scanF f (lastL a rs) y).1, (framesB rs).length + (scanF f (lastL a rs) y).2)
  | [], f, a, y, _ => by
    show scanF (0 + f) a y = _
    rw [Nat.zero_add]
    show _ = ((scanF f a y).1, 0 + (scanF f a y).2)
    rw [Nat.zero_add]
  | r :: rs, f, a, y, h => by
    obtain ⟨h1, h2, h3⟩ := h
    have e1 : (r :: rs).length + f = (rs.length + f) + 1 := by rw [List.length_cons]; omega
    have e2 : framesB (r :: rs) ++ y = frameB r ++ (framesB rs ++ y) := by
      unfold framesB
      rw [List.flatMap_cons, List.append_assoc]
    rw [e1, e2, scan_one _ a r h1 h2, scan_all rs f r.l y h3]
    show (r :: (rs ++ (scanF f (lastL r.l rs) y).1), (frameB r).length + ((framesB rs).length + (scanF f (lastL r.l rs) y).2)) = _
    have e3 : (framesB (r :: rs)).length = (frameB r).length + (framesB rs).length := by
      unfold framesB
      rw [List.flatMap_cons, List.length_append]
    rw [e3, Nat.add_assoc]
    rfl
/-- What was scanned, laid anew, is just the bytes that were scanned. -/
theorem scan_again : ∀ (f a : Nat) (l : List UInt8), Rise a (scanF f a l).1 ∧ l.take (scanF f a l).2 = framesB (scanF f a l).1 ∧ (scanF f a l).2 ≤ l.length
  | 0, a, l => ⟨trivial, rfl, Nat.zero_le _⟩
  | f + 1, a, l => by
    by_cases h : (headF l).2.2 ≠ 0 ∨ (headF l).1.l ≤ a
    · rw [scan_stop _ a l h]
      exact ⟨trivial, rfl, Nat.zero_le _⟩
    · obtain ⟨h1, h2, h3, h4⟩ := head_ok l (by omega)
      obtain ⟨i1, i2, i3⟩ := scan_again f (headF l).1.l (l.drop (headF l).2.1)
      rw [scanF, if_neg h]
      simp only
      rw [List.length_drop] at i3
      refine ⟨⟨h1, by omega, i1⟩, ?_, by omega⟩
      rw [List.take_add, h2, i2]
      unfold framesB
      rw [List.flatMap_cons]
/-- Nothing is scanned of nothing, and of a frame that is cut off. -/
theorem scan_nil (f a : Nat) : scanF f a [] = ([], 0) := scan_stop f a [] (.inl (by unfold headF; rw [if_pos (.inl (by decide))]; decide))
theorem scan_cut (f a : Nat) (r : Rec) (h : r.right) (p t : List UInt8) (hp : frameB r = p ++ t) (ht : t ≠ []) : scanF f a p = ([], 0) := scan_stop f a p (.inl (by rw [head_cut r h p t hp ht]; decide))
end Go.Proofs.Ytohdmmfmjadipaa

/-
  What is scanned, by where it ends: plain facts, of no program.
-/
namespace Go.Proofs.Ytohdmmfmjadipaa
open Go.RowKit
set_option linter.unusedVariables false

/-- What is scanned of bytes. -/
def scanL (bs : List UInt8) : List Rec × Nat := scanF (bs.length + 1) 0 bs
theorem framesB_long : ∀ rs : List Rec, rs.length * 6 ≤ (framesB rs).length
  | [] => Nat.le_refl _
  | r :: rs => by
    have h := framesB_long rs
    have e : framesB (r :: rs) = frameB r ++ framesB rs := by simp [framesB]
    rw [e, List.length_append, frameB_length, List.length_cons]
    omega
theorem scan_end {bs y : List UInt8} {rs : List Rec} (h : bs = framesB rs ++ y) (hr : Rise 0 rs) (hs : (headF y).2.2 ≠ 0 ∨ (headF y).1.l ≤ lastL 0 rs) : scanL bs = (rs, (framesB rs).length) := by
  have h1 := framesB_long rs
  have h2 := congrArg List.length h
  rw [List.length_append] at h2
  have e : bs.length + 1 = rs.length + (bs.length + 1 - rs.length) := by omega
  unfold scanL
  rw [e, h, scan_all rs _ 0 y hr, scan_stop _ _ y hs]
  simp
theorem rise_snoc : ∀ (rs : List Rec) (a : Nat) (r : Rec), Rise a (rs ++ [r]) ↔ Rise a rs ∧ r.right ∧ lastL a rs < r.l
  | [], a, r => ⟨fun h => ⟨trivial, h.1, h.2.1⟩, fun h => ⟨h.2.1, h.2.2, trivial⟩⟩
  | q :: rs, a, r => by
    have ih := rise_snoc rs q.l r
    constructor
    · rintro ⟨h1, h2, h3⟩
      have h4 := ih.1 h3
      exact ⟨⟨h1, h2, h4.1⟩, h4.2⟩
    · rintro ⟨⟨h1, h2, h3⟩, h4⟩
      exact ⟨h1, h2, ih.2 ⟨h3, h4⟩⟩
theorem last_snoc : ∀ (rs : List Rec) (a : Nat) (r : Rec), lastL a (rs ++ [r]) = r.l
  | [], _, _ => rfl
  | q :: rs, _, r => last_snoc rs q.l r
theorem last_lt : ∀ (rs : List Rec) (a : Nat), Rise a rs → a < 18446744073709551616 → lastL a rs < 18446744073709551616
  | [], _, _, h => h
  | q :: rs, a, h, ha => last_lt rs q.l h.2.2 (by have := h.1.lm; unfold maxP at this; omega)
theorem rise_right : ∀ (rs : List Rec) (a : Nat), Rise a rs → ∀ r ∈ rs, r.right
  | [], _, _, _, h => nomatch h
  | q :: rs, a, h, r, hr => by
    rcases List.mem_cons.1 hr with rfl | hr
    · exact h.1
    · exact rise_right rs q.l h.2.2 r hr
theorem eq_dec (a b : Nat) : ((a : Int) == (b : Int)) = decide (a = b) := by
  rw [Bool.eq_iff_iff]
  simp
  omega
end Go.Proofs.Ytohdmmfmjadipaa

/-
  Logs, and what is to be taken back of a transaction: plain facts, of no program.
-/
namespace Go.Proofs.Ytohdmmfmjadipaa
open Go.RowKit
set_option linter.unusedVariables false

/-! ### Records that are a log -/
def riseB : Nat → List Rec → Bool
  | _, [] => true
  | a, r :: rs => r.rightB && decide (a < r.l) && riseB r.l rs
theorem riseB_iff : ∀ (l : List Rec) (a : Nat), riseB a l = true ↔ Rise a l
  | [], _ => ⟨fun _ => trivial, fun _ => rfl⟩
  | r :: rs, a => by
    unfold riseB Rise
    rw [Bool.and_eq_true, Bool.and_eq_true, decide_eq_true_iff, rightB_iff, riseB_iff rs r.l, and_assoc]
theorem riseB_no {l : List Rec} {a : Nat} (h : ¬ Rise a l) : riseB a l = false := by
  rw [← riseB_iff] at h
  simpa using h
theorem rise_le15 : ∀ (l : List Rec) (a : Nat), Rise a l → a ≤ lastL a l
  | [], _, _ => Nat.le_refl _
  | q :: rs, a, h => by
    have := rise_le15 rs q.l h.2.2
    have := h.2.1
    show a ≤ lastL q.l rs
    omega
theorem rise_mem15 : ∀ (l : List Rec) (a : Nat), Rise a l → ∀ r ∈ l, a < r.l ∧ r.l ≤ lastL a l
  | [], _, _, _, h => nomatch h
  | q :: rs, a, h, r, hr => by
    have h1 := rise_le15 rs q.l h.2.2
    rcases List.mem_cons.1 hr with rfl | hr
    · exact ⟨h.2.1, h1⟩
    · have := rise_mem15 rs q.l h.2.2 r hr
      have := h.2.1
      show a < r.l ∧ r.l ≤ lastL q.l rs
      omega
theorem rise_last15 {l : List Rec} {s : Rec} (h : Rise 0 (l ++ [s])) : Rise 0 l ∧ s.right ∧ ∀ r ∈ l, r.l < s.l := by
  obtain ⟨h1, h2, h3⟩ := (rise_snoc l 0 s).1 h
  exact ⟨h1, h2, fun r hr => by have := (rise_mem15 l 0 h1 r hr).2; omega⟩
/-- A proof on logs goes from their end. -/
theorem snoc_ind {α : Type} {C : List α → Prop} (h0 : C []) (h1 : ∀ l s, C l → C (l ++ [s])) (l : List α) : C l := by
  have h : ∀ m : List α, C m.reverse := by
    intro m
    induction m with
    | nil => exact h0
    | cons a m ih =>
      rw [List.reverse_cons]
      exact h1 _ _ ih
  have := h l.reverse
  rwa [List.reverse_reverse] at this

/-! ### The record of a number, a transaction's last one -/
def getT (l : List Rec) (n : Nat) : Option Rec := l.find? (fun r => decide (r.l = n))
def lastT (l : List Rec) (t : Int) : Nat := l.foldl (fun n r => if 1 ≤ t ∧ r.t = t then r.l else n) 0
theorem lastT_nil (t : Int) : lastT [] t = 0 := rfl
theorem lastT_snoc (l : List Rec) (r : Rec) (t : Int) : lastT (l ++ [r]) t = if 1 ≤ t ∧ r.t = t then r.l else lastT l t := by
  unfold lastT
  rw [List.foldl_append]
  rfl
theorem lastT_is (l : List Rec) (t : Int) : lastT l t = 0 ∨ ∃ r ∈ l, r.l = lastT l t ∧ r.t = t ∧ 1 ≤ t := by
  induction l using snoc_ind with
  | h0 => exact .inl rfl
  | h1 l s ih =>
    rw [lastT_snoc]
    by_cases h : 1 ≤ t ∧ s.t = t
    · rw [if_pos h]
      exact .inr ⟨s, by simp, rfl, h.2, h.1⟩
    · rw [if_neg h]
      rcases ih with ih | ⟨r, h1, h2⟩
      · exact .inl ih
      · exact .inr ⟨r, List.mem_append.2 (.inl h1), h2⟩
theorem lastT_none (l : List Rec) (t : Int) (h : ∀ r ∈ l, ¬ (1 ≤ t ∧ r.t = t)) : lastT l t = 0 := by
  rcases lastT_is l t with h1 | ⟨r, h1, h2, h3, h4⟩
  · exact h1
  · exact absurd ⟨h4, h3⟩ (h r h1)
theorem getT_mem {l : List Rec} (hl : Rise 0 l) {r : Rec} (hr : r ∈ l) : getT l r.l = some r := by
  revert hr
  induction l using snoc_ind with
  | h0 => intro hr; cases hr
  | h1 l s ih =>
    intro hr
    obtain ⟨h1, h2, h3⟩ := rise_last15 hl
    unfold getT at ih ⊢
    rw [List.find?_append]
    rcases List.mem_append.1 hr with hr | hr
    · rw [ih h1 hr]
      rfl
    · rw [List.mem_singleton.1 hr]
      have h4 : l.find? (fun r => decide (r.l = s.l)) = none := by
        rw [List.find?_eq_none]
        intro x hx
        have := h3 x hx
        simp
        omega
      rw [h4]
      simp
theorem getT_none {l : List Rec} {n : Nat} (h : ∀ r ∈ l, r.l ≠ n) : getT l n = none := by
  unfold getT
  rw [List.find?_eq_none]
  intro x hx
  simpa using h x hx
theorem getT_cases (l : List Rec) (n : Nat) : (getT l n = none ∧ ∀ r ∈ l, r.l ≠ n) ∨ ∃ r ∈ l, r.l = n ∧ getT l n = some r := by
  unfold getT
  cases h : l.find? (fun r => decide (r.l = n)) with
  | none =>
    refine .inl ⟨rfl, fun r hr => ?_⟩
    have := List.find?_eq_none.1 h r hr
    simpa using this
  | some r =>
    have := List.find?_some h
    exact .inr ⟨r, List.mem_of_find?_eq_some h, by simpa using this, rfl⟩

/-! ### What is to be taken back next: the newest record first -/
def nextR : List Rec → Nat → Nat
  | [], _ => 0
  | r :: rs, at_ => if r.l = at_ then (if r.k = 1 then at_ else if r.k = 2 then nextR rs r.n else nextR rs r.p) else nextR rs at_
def nextT (l : List Rec) (at_ : Nat) : Nat := nextR l.reverse at_
/-- What leads on from a record. -/
def stepT (l : List Rec) (r : Rec) : Nat := if r.k = 1 then r.l else if r.k = 2 then nextT l r.n else nextT l r.p
theorem nextT_nil (n : Nat) : nextT [] n = 0 := rfl
theorem nextT_snoc (l : List Rec) (r : Rec) (n : Nat) : nextT (l ++ [r]) n = if r.l = n then (if r.k = 1 then n else if r.k = 2 then nextT l r.n else nextT l r.p) else nextT l n := by
  unfold nextT
  rw [List.reverse_append]
  rfl
theorem nextT_none {l : List Rec} {n : Nat} (h : ∀ r ∈ l, r.l ≠ n) : nextT l n = 0 := by
  induction l using snoc_ind with
  | h0 => rfl
  | h1 l s ih =>
    rw [nextT_snoc, if_neg (h s (by simp))]
    exact ih (fun r hr => h r (List.mem_append.2 (.inl hr)))
theorem nextT_zero {l : List Rec} (hl : Rise 0 l) : nextT l 0 = 0 := nextT_none fun r hr => by
  have := (rise_mem15 l 0 hl r hr).1
  omega
theorem right_prev {r : Rec} (h : r.right) : r.p < r.l := by
  have h1 := h.l1
  by_cases hk : r.k ≤ 6
  · exact (h.own hk).2.2
  · have := (h.none (by omega)).2
    omega
theorem right_next {r : Rec} (h : r.right) : r.n < r.l := by
  have h1 := h.l1
  by_cases hk : r.k = 2
  · exact h.next hk
  · have := h.nonext hk
    omega
theorem nextT_step {l : List Rec} (hl : Rise 0 l) {r : Rec} (hr : r ∈ l) : nextT l r.l = stepT l r := by
  revert hr
  induction l using snoc_ind with
  | h0 => intro hr; cases hr
  | h1 l s ih =>
    intro hr
    obtain ⟨h1, h2, h3⟩ := rise_last15 hl
    have up : ∀ n, n < s.l → nextT (l ++ [s]) n = nextT l n := fun n hn => by rw [nextT_snoc, if_neg (by omega)]
    unfold stepT
    rcases List.mem_append.1 hr with hr | hr
    · have h4 := h3 r hr
      have hR := rise_right l 0 h1 r hr
      have h5 := right_prev hR
      have h6 := right_next hR
      rw [up _ h4, up _ (by omega), up _ (by omega)]
      exact ih h1 hr
    · rw [List.mem_singleton.1 hr]
      have h5 := right_prev h2
      have h6 := right_next h2
      rw [up _ h5, up _ h6, nextT_snoc, if_pos rfl]
theorem nextT_le {l : List Rec} (hl : Rise 0 l) (n : Nat) : nextT l n ≤ n := by
  induction l using snoc_ind generalizing n with
  | h0 => exact Nat.zero_le _
  | h1 l s ih =>
    obtain ⟨h1, h2, h3⟩ := rise_last15 hl
    have h5 := right_prev h2
    have h6 := right_next h2
    rw [nextT_snoc]
    by_cases e : s.l = n
    · rw [if_pos e]
      by_cases k1 : s.k = 1
      · rw [if_pos k1]
        exact Nat.le_refl _
      · rw [if_neg k1]
        by_cases k2 : s.k = 2
        · rw [if_pos k2]
          have := ih h1 s.n
          omega
        · rw [if_neg k2]
          have := ih h1 s.p
          omega
    · rw [if_neg e]
      exact ih h1 n
theorem nextT_is {l : List Rec} (hl : Rise 0 l) (n : Nat) : nextT l n = 0 ∨ ∃ r ∈ l, r.l = nextT l n ∧ r.k = 1 := by
  induction l using snoc_ind generalizing n with
  | h0 => exact .inl rfl
  | h1 l s ih =>
    obtain ⟨h1, h2, h3⟩ := rise_last15 hl
    have up : ∀ n, nextT l n = 0 ∨ ∃ r ∈ l ++ [s], r.l = nextT l n ∧ r.k = 1 := fun n => (ih h1 n).imp id fun ⟨r, h4, h5⟩ => ⟨r, List.mem_append.2 (.inl h4), h5⟩
    rw [nextT_snoc]
    by_cases e : s.l = n
    · rw [if_pos e]
      by_cases k1 : s.k = 1
      · rw [if_pos k1]
        exact .inr ⟨s, by simp, e, k1⟩
      · rw [if_neg k1]
        by_cases k2 : s.k = 2
        · rw [if_pos k2]
          exact up _
        · rw [if_neg k2]
          exact up _
    · rw [if_neg e]
      exact up _
theorem nextT_again {l : List Rec} (hl : Rise 0 l) (n : Nat) : nextT l (nextT l n) = nextT l n := by
  rcases nextT_is hl n with h | ⟨r, h1, h2, h3⟩
  · rw [h]
    exact nextT_zero hl
  · rw [← h2, nextT_step hl h1]
    unfold stepT
    rw [if_pos h3]

/-! ### The records that take a transaction back -/
def clrOf (l : List Rec) (r : Rec) : Rec := ⟨2, 0, r.t, 0, invC r.c, nextT l r.p, 0, 0, [], []⟩
def planR : List Rec → Nat → Nat → List Rec
  | [], _, _ => []
  | r :: rs, n, u => if r.l = n then (if u < n ∧ r.k = 1 then clrOf rs.reverse r :: planR rs (nextR rs r.p) u else []) else planR rs n u
/-- From a change on, as far as a number. -/
def planL (l : List Rec) (n u : Nat) : List Rec := planR l.reverse n u
def planT (l : List Rec) (t : Int) (u : Nat) : List Rec := planL l (nextT l (lastT l t)) u
theorem planL_nil (n u : Nat) : planL [] n u = [] := rfl
theorem planL_snoc (l : List Rec) (r : Rec) (n u : Nat) : planL (l ++ [r]) n u = if r.l = n then (if u < n ∧ r.k = 1 then clrOf l r :: planL l (nextT l r.p) u else []) else planL l n u := by
  unfold planL nextT
  rw [List.reverse_append]
  show planR (r :: l.reverse) n u = _
  rw [planR, List.reverse_reverse]
theorem planL_none {l : List Rec} {n u : Nat} (h : ∀ r ∈ l, r.l ≠ n) : planL l n u = [] := by
  induction l using snoc_ind with
  | h0 => rfl
  | h1 l s ih =>
    rw [planL_snoc, if_neg (h s (by simp))]
    exact ih (fun r hr => h r (List.mem_append.2 (.inl hr)))
theorem planL_zero {l : List Rec} (hl : Rise 0 l) (u : Nat) : planL l 0 u = [] := planL_none fun r hr => by
  have := (rise_mem15 l 0 hl r hr).1
  omega
theorem clrOf_snoc {l : List Rec} {s r : Rec} (h : s.l ≠ r.p) : clrOf (l ++ [s]) r = clrOf l r := by
  unfold clrOf
  rw [nextT_snoc, if_neg h]
theorem planL_step {l : List Rec} (hl : Rise 0 l) {r : Rec} (hr : r ∈ l) (hk : r.k = 1) (u : Nat) : planL l r.l u = if u < r.l then clrOf l r :: planL l (clrOf l r).n u else [] := by
  revert hr
  induction l using snoc_ind with
  | h0 => intro hr; cases hr
  | h1 l s ih =>
    intro hr
    obtain ⟨h1, h2, h3⟩ := rise_last15 hl
    have hR := rise_right _ 0 hl r hr
    have h5 := right_prev hR
    rcases List.mem_append.1 hr with hr | hr
    · have h4 := h3 r hr
      have h7 := nextT_le h1 r.p
      have e : (clrOf l r).n = nextT l r.p := rfl
      rw [planL_snoc, if_neg (by omega), clrOf_snoc (by omega), planL_snoc, if_neg (show ¬ s.l = (clrOf l r).n by rw [e]; omega)]
      exact ih h1 hr
    · rw [List.mem_singleton.1 hr] at h5 hk ⊢
      have h7 := nextT_le h1 s.p
      have e : (clrOf l s).n = nextT l s.p := rfl
      rw [planL_snoc, if_pos rfl, clrOf_snoc (by omega), planL_snoc, e, if_neg (show ¬ s.l = nextT l s.p by omega)]
      by_cases hu : u < s.l
      · rw [if_pos ⟨hu, hk⟩, if_pos hu]
      · rw [if_neg (fun h => hu h.1), if_neg hu]
/-- A change that is to be taken back: what the plan does. -/
theorem planL_next {l : List Rec} (hl : Rise 0 l) (n u : Nat) (h : nextT l n = n) : (n ≤ u ∧ planL l n u = []) ∨ ∃ r ∈ l, r.l = n ∧ r.k = 1 ∧ u < n ∧ planL l n u = clrOf l r :: planL l (clrOf l r).n u := by
  by_cases hu : n ≤ u
  · refine .inl ⟨hu, ?_⟩
    rcases nextT_is hl n with h1 | ⟨r, h1, h2, h3⟩
    · rw [h] at h1
      subst h1
      exact planL_zero hl u
    · rw [h] at h2
      subst h2
      rw [planL_step hl h1 h3, if_neg (by omega)]
  · rcases nextT_is hl n with h1 | ⟨r, h1, h2, h3⟩
    · rw [h] at h1
      omega
    · rw [h] at h2
      subst h2
      refine .inr ⟨r, h1, rfl, h3, by omega, ?_⟩
      rw [planL_step hl h1 h3, if_pos (by omega)]
theorem clr_again {l : List Rec} (hl : Rise 0 l) (r : Rec) : nextT l (clrOf l r).n = (clrOf l r).n := nextT_again hl r.p
theorem clr_less {l : List Rec} (hl : Rise 0 l) {r : Rec} (hr : r ∈ l) : (clrOf l r).n < r.l := by
  have h1 := nextT_le hl r.p
  have h2 := right_prev (rise_right _ 0 hl r hr)
  show nextT l r.p < r.l
  omega
theorem planL_fall {l : List Rec} (hl : Rise 0 l) (u : Nat) : ∀ f n, n ≤ f → nextT l n = n → (planL l n u).length ≤ n
  | 0, n, hf, h => by
    obtain rfl : n = 0 := by omega
    rw [planL_zero hl]
    exact Nat.zero_le _
  | f + 1, n, hf, h => by
    rcases planL_next hl n u h with ⟨_, e⟩ | ⟨r, h1, h2, h3, h4, e⟩
    · rw [e]
      exact Nat.zero_le _
    · have h5 := clr_less hl h1
      rw [e, List.length_cons]
      have := planL_fall hl u f _ (by omega) (clr_again hl r)
      omega
end Go.Proofs.Ytohdmmfmjadipaa

/-
  Histories as such: logs, pages, transactions and locks of some nodes, act by act. Of no program.
-/
namespace Go.Proofs.Ytohdmmfmjadipaa
open Go.RowKit
set_option linter.unusedVariables false

/-- Something that happens. -/
structure Ac where
  k : Int
  n : Int
  t : Int
  pg : Int
  sl : Int
  d : Bool
  v : ByteArray
def Ac.zero : Ac := ⟨0, 0, 0, 0, 0, false, ⟨#[]⟩⟩
/-- A number taken modulo what there is. -/
def pick15 (n : Int) (m : Nat) : Nat := (if n < 0 then (-(n + 1)) % (m : Int) else n % (m : Int)).toNat
theorem pick15_lt (n : Int) (m : Nat) (h : 0 < m) : pick15 n m < m := by
  unfold pick15
  have h1 := Int.emod_lt_of_pos (-(n + 1)) (show (0 : Int) < (m : Int) by omega)
  have h2 := Int.emod_nonneg (-(n + 1)) (show (m : Int) ≠ 0 by omega)
  have h3 := Int.emod_lt_of_pos n (show (0 : Int) < (m : Int) by omega)
  have h4 := Int.emod_nonneg n (show (m : Int) ≠ 0 by omega)
  split <;> omega
/-- A transaction under way: its number (0: none), its state, its last record, what is to be taken back next. -/
structure Tu where
  nr : Int
  st : Int
  last : Nat
  next : Nat
def Tu.zero : Tu := ⟨0, 0, 0, 0⟩
/-- Who changed a cell and isn't over; what the cell was ahead of that. -/
structure Lo where
  nd : Int
  nr : Int
  u : Bool
  s : ByteArray
def Lo.zero : Lo := ⟨0, 0, false, ⟨#[]⟩⟩
/-- A history: logs, pages, what they ever were, clocks, counts, transactions (three a node), locks (eight a page), the greatest commit. -/
structure Hs where
  lg : Nat → List Rec
  pg : Nat → Pg
  past : Nat → List Pg
  ck : Nat → Nat
  ct : Nat → Int
  tx : Nat → Tu
  lk : Nat → Lo
  hi : Nat
def Hs.zero : Hs := ⟨fun _ => [], fun _ => Pg.zero, fun _ => [Pg.zero], fun _ => 0, fun _ => 0, fun _ => Tu.zero, fun _ => Lo.zero, 0⟩
def upd {α : Type} (f : Nat → α) (i : Nat) (x : α) : Nat → α := fun j => if j = i then x else f j
theorem upd_same {α : Type} (f : Nat → α) (i : Nat) (x : α) : upd f i x i = x := by unfold upd; rw [if_pos rfl]
theorem upd_other {α : Type} (f : Nat → α) (i j : Nat) (x : α) (h : j ≠ i) : upd f i x j = f j := by unfold upd; rw [if_neg h]

/-- The record that a transaction logs, with a number above a floor. -/
def Hs.lsn (h : Hs) (n floor : Nat) : Nat := max (h.ck n) floor + 1
def Hs.entry (h : Hs) (n i : Nat) (r : Rec) (floor : Nat) : Rec := ⟨r.k, h.lsn n floor, (h.tx i).nr, (h.tx i).last, r.c, r.n, r.s, r.b, r.ts, r.ds⟩
def Hs.setTx (h : Hs) (i : Nat) (t : Tu) : Hs := { h with tx := upd h.tx i t }
def Hs.setLk (h : Hs) (i : Nat) (l : Lo) : Hs := { h with lk := upd h.lk i l }
def Hs.setCk (h : Hs) (n c : Nat) : Hs := { h with ck := upd h.ck n c }
def Hs.setCt (h : Hs) (n : Nat) (c : Int) : Hs := { h with ct := upd h.ct n c }
def Hs.setHi (h : Hs) (c : Nat) : Hs := { h with hi := c }
def Hs.push (h : Hs) (n : Nat) (r : Rec) : Hs := { h with lg := upd h.lg n (h.lg n ++ [r]) }
def Hs.setPg (h : Hs) (p : Nat) (q : Pg) : Hs := { h with pg := upd h.pg p q, past := upd h.past p (h.past p ++ [q]) }
def Tu.setLast (t : Tu) (l : Nat) : Tu := ⟨t.nr, t.st, l, t.next⟩
def Tu.setNext (t : Tu) (l : Nat) : Tu := ⟨t.nr, t.st, t.last, l⟩
def Tu.setSt (t : Tu) (s : Int) : Tu := ⟨t.nr, s, t.last, t.next⟩
def Hs.log (h : Hs) (n i : Nat) (r : Rec) (floor : Nat) : Hs :=
  ((h.setCk n (h.lsn n floor)).setTx i ((h.tx i).setLast (h.lsn n floor))).push n (h.entry n i r floor)
def Rec.page (r : Rec) : Nat := r.c.pg.toNat
/-- A change, made and logged. -/
def Hs.turn (h : Hs) (n i : Nat) (r : Rec) : Hs :=
  (h.log n i r (h.pg r.page).l).setPg r.page ((h.pg r.page).put (h.lsn n (h.pg r.page).l) r.c.at r.c.makeU r.c.makeV)
def bare15 (k : Int) (c : Ch) (s : Int) : Rec := ⟨k, 0, 0, 0, c, 0, s, 0, [], []⟩
/-- A transaction begins, if there is none. -/
def Hs.begun (h : Hs) (n i : Nat) : Hs := if (h.tx i).nr = 0 then (h.setCt n (h.ct n + 1)).setTx i ⟨h.ct n + 1, 1, (h.tx i).last, (h.tx i).next⟩ else h
def cut20 (v : ByteArray) : ByteArray := v.extract 0 (min 20 v.size)
def Ac.toU (o : Ac) : Bool := !o.d
def Ac.toV (o : Ac) : ByteArray := if o.d = true then ⟨#[]⟩ else cut20 o.v
/-- Is the cell barred to the transaction? -/
def Hs.barred (h : Hs) (n i x : Nat) : Bool := decide ((h.tx i).st ≠ 1) || (decide ((h.lk x).nr ≠ 0) && (decide ((h.lk x).nd ≠ (n : Int)) || decide ((h.lk x).nr ≠ (h.tx i).nr)))
def Hs.ofE (h : Hs) (p s : Nat) (o : Ac) : Int := Go.Proofs.Ytohdmmfmjadipaa.ofE (p : Int) (s : Int) ((h.pg p).u s) ((h.pg p).s s) o.toU o.toV
def Hs.ofC (h : Hs) (p s : Nat) (o : Ac) : Ch := Go.Proofs.Ytohdmmfmjadipaa.ofC (p : Int) (s : Int) ((h.pg p).u s) ((h.pg p).s s) o.toU o.toV
def Hs.locked (h : Hs) (n i p s : Nat) : Hs := if (h.lk (p * 8 + s)).nr = 0 then h.setLk (p * 8 + s) ⟨(n : Int), (h.tx i).nr, (h.pg p).u s, (h.pg p).s s⟩ else h
def Hs.nextIs (h : Hs) (i m : Nat) : Hs := h.setTx i ((h.tx i).setNext m)
def Hs.lockedUp (h : Hs) (n i p s : Nat) : Hs := (h.locked n i p s).setCk n (max (h.ck n) h.hi)
def Hs.turned (h : Hs) (n i p s : Nat) (o : Ac) : Hs := (h.lockedUp n i p s).turn n i (bare15 1 (h.ofC p s o) 0)
def Hs.made (h : Hs) (n i p s : Nat) (o : Ac) : Hs := (h.turned n i p s o).nextIs i ((h.turned n i p s o).tx i).last
def Hs.change1 (h : Hs) (n i p s : Nat) (o : Ac) : Hs := if h.barred n i (p * 8 + s) = true then h else if h.ofE p s o ≠ 0 then h else Hs.made h n i p s o
def Hs.change (h : Hs) (n i : Nat) (o : Ac) : Hs := (h.begun n i).change1 n i (pick15 o.pg 4) (pick15 o.sl 8) o
def recAt (l : List Rec) (n : Nat) : Rec := (getT l n).getD Rec.zero
def Hs.back (h : Hs) (n i : Nat) : Hs :=
  if (h.tx i).next = 0 ∨ ((h.tx i).st ≠ 1 ∧ (h.tx i).st ≠ 2) then h
  else (h.turn n i (clrOf (h.lg n) (recAt (h.lg n) (h.tx i).next))).nextIs i (clrOf (h.lg n) (recAt (h.lg n) (h.tx i).next)).n
def Hs.mine (h : Hs) (n i x : Nat) : Bool := decide ((h.lk x).nd = (n : Int)) && decide ((h.lk x).nr = (h.tx i).nr)
def Hs.free (h : Hs) (n i : Nat) : Hs := { h with lk := fun x => if x < 32 ∧ h.mine n i x = true then Lo.zero else h.lk x }
def Hs.state (h : Hs) (i : Nat) (s : Int) : Hs := h.setTx i ((h.tx i).setSt s)
def Hs.does2 (h : Hs) (n i kind : Nat) (o : Ac) : Hs :=
  if kind = 6 ∧ (h.tx i).st = 1 then (((h.log n i (bare15 3 Ch.zero 0) 0).setHi (max h.hi (h.lsn n 0))).state i 3).free n i
  else if kind = 7 ∧ ((h.tx i).st = 3 ∨ (h.tx i).st = 2 ∧ (h.tx i).next = 0) then ((h.log n i (bare15 5 Ch.zero 0) 0).free n i).setTx i Tu.zero
  else if kind = 8 ∧ (h.tx i).st = 1 then (h.log n i (bare15 4 Ch.zero 0) 0).state i 2
  else if kind = 9 ∨ kind = 10 then h.back n i
  else if kind = 11 ∧ (h.tx i).st = 1 then h.log n i (bare15 6 Ch.zero (1 + (pick15 o.sl 8 : Nat))) 0
  else h
def Hs.does (h : Hs) (o : Ac) : Hs :=
  if pick15 o.k 13 ≤ 5 then h.change (pick15 o.n 3) (pick15 o.n 3 * 3 + pick15 o.t 3) o
  else if pick15 o.k 13 = 12 then h.setCk (pick15 o.n 3) (max (h.ck (pick15 o.n 3)) (h.ck (pick15 o.t 3)))
  else if (h.tx (pick15 o.n 3 * 3 + pick15 o.t 3)).last = 0 then h
  else h.does2 (pick15 o.n 3) (pick15 o.n 3 * 3 + pick15 o.t 3) (pick15 o.k 13) o
def Hs.play (l : List Ac) : Hs := l.foldl Hs.does Hs.zero
theorem Hs.play_snoc (l : List Ac) (o : Ac) : Hs.play (l ++ [o]) = (Hs.play l).does o := by
  unfold Hs.play
  rw [List.foldl_append]
  rfl
end Go.Proofs.Ytohdmmfmjadipaa

/-
  Structs in memory, each a block of its own: how they are loaded and stored. Of no program.
-/
namespace Go.Proofs.Ytohdmmfmjadipaa
open Go.RowKit
set_option linter.unusedVariables false

/-- A block that holds a struct's cells. -/
def RowAt (w : World) (b : Nat) (t : TypeId) (cs : Array Value) : Prop := w.heap[b]? = some (.cells cs t (0, 0))
theorem RowAt.below {w w' : World} {b B : Nat} {t : TypeId} {cs : Array Value} (h : RowAt w b t cs) (hb : Below B w w') (hB : b < B) : RowAt w' b t cs := (hb.block b hB).trans h
theorem RowAt.lt {w : World} {b : Nat} {t : TypeId} {cs : Array Value} (h : RowAt w b t cs) : b < w.heap.size := (Array.getElem?_eq_some_iff.1 h).1
theorem RowAt.later {w w' : World} {b : Nat} {t : TypeId} {cs : Array Value} (h : RowAt w b t cs) (hb : Below w.heap.size w w') : RowAt w' b t cs := h.below hb h.lt
theorem RowAt.cell {w : World} {b : Nat} {t : TypeId} {cs : Array Value} (h : RowAt w b t cs) (j : Nat) (v : Value) (hv : cs[j]? = some v) : w.cell? ⟨b, j, none⟩ = some v := by
  rw [cell_of_row w b j _ _ (0, 0) h]
  exact hv
theorem RowAt.free {w : World} {b : Nat} {t : TypeId} {cs : Array Value} (h : RowAt w b t cs) (j : Nat) : w.frozen? ⟨b, j, none⟩ = false := frozen_of_row w b j _ _ h
theorem RowAt.other {w : World} {b : Nat} {t : TypeId} {cs : Array Value} (h : RowAt w b t cs) (a : Addr) (v : Value) (hn : b ≠ a.block) : RowAt (w.setCell a v) b t cs := (heap_setCell_other w a b v hn).trans h
theorem RowAt.set {w : World} {b : Nat} {t : TypeId} {cs : Array Value} (h : RowAt w b t cs) (j : Nat) (v : Value) : RowAt (w.setCell ⟨b, j, none⟩ v) b t (cs.setIfInBounds j v) := heap_setCell_same w b j _ _ v h
theorem RowAt.new (w : World) (t : TypeId) (cs : Array Value) : RowAt (w.alloc (.cells cs t)) w.heap.size t cs := heap_alloc_new w _

section
variable {P : Program} {ops : Array Oper} {rest : List Oper} {o : Oper} {a : Act} {w : World} {Q : Exit → Act → World → Prop}

theorem wpList_load_at (hw : Region.wanted o (yielded ops a.tmps) = true) (t : TypeId) (x : Operand) (ho : o.op = .load t x) (g : Nat) (hx : a.eval x = .pointer (some ⟨g, 0, none⟩)) (cs : Array Value) (hg : RowAt w g t cs) (d : TypeDesc)
    (hu : P.underlying t = some d) (hd : (match d with | .struct _ | .array _ _ => true | _ => false) = true) (hi : (P.info? t).map (·.size) = some cs.size) (h : wpList P ops Q rest (a.put o.dst (.agg cs)) w) : wpList P ops Q (o :: rest) a w :=
  wpList_step fun K hK => by
    simp only [hw, if_true]
    exact wp_load_row t x ho g hx t cs (0, 0) d hg hu hd hi (hK _ _ h)

theorem wpList_store_at (hgd : o.guard = none) (t : TypeId) (x y : Operand) (ho : o.op = .store t x y) (g : Nat) (c0 cs : Array Value) (hx : a.eval x = .pointer (some ⟨g, 0, none⟩)) (hy : a.eval y = .agg cs) (hg : RowAt w g t c0)
    (hi : (P.info? t).map (·.size) = some cs.size) (hz : c0.size = cs.size) (h1 : cs.all (·.oneCell') = true)
    (h : ∀ w2, RowAt w2 g t cs → (∀ B w0, Below B w0 w → B ≤ g → Below B w0 w2) → (∀ k t' c', k ≠ g → RowAt w k t' c' → RowAt w2 k t' c') → wpList P ops Q rest (a.put o.dst undef) w2) : wpList P ops Q (o :: rest) a w := by
  refine wpList_store_row hgd t x y ho g cs hx hy t c0 hg hi hz h1 (h _ ?_ (fun B w0 hb hB => ?_) (fun k t' c' hk hr => ?_))
  · exact setRow_heap w g c0 cs t (0, 0) hg
  · exact ⟨hb.1, hb.2, hb.3, by simp [World.setRow]; exact hb.4, fun k hk => (setRow_other w g k _ (by omega)).trans (hb.5 k hk)⟩
  · exact (setRow_other w g k _ hk).trans hr

theorem res_at {fn : Func} {p u : Tmp} {t : TypeId} (h : fn.results = #[.cell p t, .tmp u]) (tmps : Array Value) (w : World) (g : Nat) (cs : Array Value) (d : TypeDesc) (hp : tmps.getD p undef = .pointer (some ⟨g, 0, none⟩)) (hg : RowAt w g t cs)
    (hu : P.underlying t = some d) (hd : (match d with | .struct _ | .array _ _ => true | _ => false) = true) (hi : (P.info? t).map (·.size) = some cs.size) :
    (results fn tmps).run P w = .ok (.tuple #[.agg cs, tmps.getD u undef]) w := by
  have h1 := run_loadVar_row (P := P) w g t t cs (0, 0) d hg hu hd hi
  rw [results_cell_tmp h, hp]
  simp only [asAddr, Sem.run_pure, Result.andThen_ok, h1]

theorem results_cells {fn : Func} {p q : Tmp} {t : TypeId} (h : fn.results = #[.cell p t, .cell q t]) (tmps : Array Value) (P : Program) (w : World) :
    (results fn tmps).run P w =
      ((asAddr (tmps.getD p undef)).run P w).andThen fun a w₁ => ((loadVar t a).run P w₁).andThen fun v w₂ => ((asAddr (tmps.getD q undef)).run P w₂).andThen fun b w₃ => ((loadVar t b).run P w₃).andThen fun u w₄ => .ok (.tuple #[v, u]) w₄ := by
  simp only [results, h]
  simp [Sem.run_bind, Result.andThen]
theorem res_two {fn : Func} {p q : Tmp} {t : TypeId} (h : fn.results = #[.cell p t, .cell q t]) (tmps : Array Value) (w : World) (g k : Nat) (cs ds : Array Value) (d : TypeDesc) (hp : tmps.getD p undef = .pointer (some ⟨g, 0, none⟩)) (hq : tmps.getD q undef = .pointer (some ⟨k, 0, none⟩)) (hg : RowAt w g t cs) (hk : RowAt w k t ds)
    (hu : P.underlying t = some d) (hd : (match d with | .struct _ | .array _ _ => true | _ => false) = true) (hi : (P.info? t).map (·.size) = some cs.size) (hj : (P.info? t).map (·.size) = some ds.size) :
    (results fn tmps).run P w = .ok (.tuple #[.agg cs, .agg ds]) w := by
  have h1 := run_loadVar_row (P := P) w g t t cs (0, 0) d hg hu hd hi
  have h2 := run_loadVar_row (P := P) w k t t ds (0, 0) d hk hu hd hj
  rw [results_cells h, hp, hq]
  simp only [asAddr, Sem.run_pure, Result.andThen_ok, h1, h2]
end

theorem gen_w {Q : World → Prop} (H : World → Prop) {x : World} (h : H x) (k : ∀ y, H y → Q y) : Q x := k x h

theorem empty_iff (s : ByteArray) : s.toList.isEmpty = true ↔ s.size = 0 := by
  rw [ByteArray.toList_eq]
  obtain ⟨⟨l⟩⟩ := s
  cases l <;> simp [ByteArray.size]
theorem lt_alloc {w : World} {b : Nat} (hb : b < w.heap.size) (o : Obj) : b < (w.alloc o).heap.size := by
  simp
  omega
theorem below_dn {B : Nat} {w w' : World} (h : Below B w w') (k : Nat) : Below B w (w'.drewN k) := ⟨h.1, h.2, h.3, h.4, h.5⟩
theorem gen_world {Q : World → Prop} (H : World → Prop) {x : World} (h : H x) (k : ∀ y, H y → Q y) : Q x := k x h
theorem gen_calls {P : Program} {f : FuncId} {args : Array Value} {Q : Ending → World → Prop} (H : World → Prop) {x : World} (h : H x) (k : ∀ y, H y → Calls P f args y Q) : Calls P f args x Q := k x h
theorem gen_wp {P : Program} {c : Code} {Q : Exit → Act → World → Prop} {a : Act} (H : World → Prop) {x : World} (h : H x) (k : ∀ y, H y → Code.wp P c Q a y) : Code.wp P c Q a x := k x h
/-- One operation by its value. -/
theorem wpList_val {P : Program} {ops : Array Oper} {rest : List Oper} {o : Oper} {a : Act} {w : World} {Q : Exit → Act → World → Prop} (hw : Region.wanted o (yielded ops a.tmps) = true) (v : Value) (hv : (execOp a.eval o).run P w = .ok (.value v) w)
    (h : wpList P ops Q rest (a.put o.dst v) w) : wpList P ops Q (o :: rest) a w :=
  wpList_step fun K hK => by
    simp only [hw, if_true]
    unfold Oper.wp
    rw [hv]
    exact hK _ _ h
theorem wpList_binop {P : Program} {ops : Array Oper} {rest : List Oper} {o : Oper} {a : Act} {w : World} {Q : Exit → Act → World → Prop} (hw : Region.wanted o (yielded ops a.tmps) = true) (op : BinOp) (t r : TypeId) (x y : Operand) (ho : o.op = .binOp op t x y r) (u v z : Value) (hu : a.eval x = u) (hv : a.eval y = v) (hg : (eqGuard op t x y u v).run P w = .ok () w)
    (hz : (binOp op t u v).run P w = .ok z w) (h : wpList P ops Q rest (a.put o.dst z) w) : wpList P ops Q (o :: rest) a w :=
  wpList_val hw z (by unfold execOp; simp only [ho, hu, hv, Sem.run_bind, hg, hz, Result.andThen_ok, Sem.run_pure]) h
end Go.Proofs.Ytohdmmfmjadipaa

/-
  Changes in memory.
-/
namespace Go.Proofs.Ytohdmmfmjadipaa
open Go.RowKit
set_option linter.unusedVariables false

/-- A change in memory. -/
def ChAt (w : World) (b : Nat) (c : Ch) : Prop := w.heap[b]? = some (.cells (chA c) 26 (0, 0))
theorem ChAt.all {w : World} {b : Nat} {c : Ch} (h : ChAt w b c) : w.cell? ⟨b, 0, none⟩ = some (.int .i64 c.k) ∧ w.cell? ⟨b, 1, none⟩ = some (.int .i64 c.pg) ∧ w.cell? ⟨b, 2, none⟩ = some (.int .i64 c.sl) ∧ w.cell? ⟨b, 3, none⟩ = some (.string c.o) ∧ w.cell? ⟨b, 4, none⟩ = some (.string c.n) := by
  refine ⟨?_, ?_, ?_, ?_, ?_⟩ <;> (rw [cell_of_row w b _ _ _ (0, 0) h]; rfl)
theorem ChAt.below {w w' : World} {b B : Nat} {c : Ch} (h : ChAt w b c) (hb : Below B w w') (hB : b < B) : ChAt w' b c := (hb.block b hB).trans h
theorem ChAt.lt {w : World} {b : Nat} {c : Ch} (h : ChAt w b c) : b < w.heap.size := (Array.getElem?_eq_some_iff.1 h).1

theorem infoCh : (Try.prog.info? 26).map (·.size) = some 5 := by kernel_rfl
theorem chA_one (c : Ch) : (chA c).all (·.oneCell') = true := by simp [chA, Value.oneCell']
end Go.Proofs.Ytohdmmfmjadipaa

/-
  Structs that a call keeps in memory while it goes on. Of no program.
-/
namespace Go.Proofs.Ytohdmmfmjadipaa
open Go.RowKit
set_option linter.unusedVariables false

/-- Blocks that hold these structs. -/
def Has (x : World) : List (Nat × TypeId × Array Value) → Prop
  | [] => True
  | e :: l => RowAt x e.1 e.2.1 e.2.2 ∧ Has x l
theorem Has.later {x y : World} (hb : Below x.heap.size x y) : ∀ {l : List (Nat × TypeId × Array Value)}, Has x l → Has y l
  | [], _ => trivial
  | _ :: _, h => ⟨h.1.later hb, h.2.later hb⟩
theorem Has.drew {x : World} : ∀ {l : List (Nat × TypeId × Array Value)}, Has x l → Has x.drew l
  | [], _ => trivial
  | _ :: _, h => ⟨h.1, h.2.drew⟩
/-- They are kept, and what was there at the call is as it was. -/
def Keeps (w x : World) (l : List (Nat × TypeId × Array Value)) : Prop := Has x l ∧ Below w.heap.size w x
theorem Keeps.later {w x y : World} {l : List (Nat × TypeId × Array Value)} (h : Keeps w x l) (hb : Below x.heap.size x y) : Keeps w y l := ⟨h.1.later hb, h.2.trans (hb.mono h.2.size)⟩
theorem Keeps.drew {w x : World} {l : List (Nat × TypeId × Array Value)} (h : Keeps w x l) : Keeps w x.drew l := ⟨h.1.drew, ⟨h.2.1, h.2.2, h.2.3, h.2.4, h.2.5⟩⟩
theorem Keeps.more {w x y : World} {l : List (Nat × TypeId × Array Value)} (h : Keeps w x l) (hb : Below x.heap.size x y) {b : Nat} {t : TypeId} {cs : Array Value} (hr : RowAt y b t cs) : Keeps w y ((b, t, cs) :: l) :=
  ⟨⟨hr, h.1.later hb⟩, (h.later hb).2⟩
/-- A struct laid into a new block. -/
theorem Keeps.laid {w x y : World} {l : List (Nat × TypeId × Array Value)} (h : Keeps w x l) {o : Obj} {t : TypeId} {cs : Array Value} (hr : RowAt y x.heap.size t cs) (hk : ∀ B w0, Below B w0 (x.alloc o) → B ≤ x.heap.size → Below B w0 y) : Keeps w y ((x.heap.size, t, cs) :: l) :=
  h.more (hk _ _ ((Below.refl x.heap.size x).alloc (Nat.le_refl _) _) (Nat.le_refl _)) hr
theorem Keeps.one (w : World) (t : TypeId) (cs : Array Value) : Keeps w (w.alloc (.cells cs t)) [(w.heap.size, t, cs)] :=
  ⟨⟨RowAt.new w t cs, trivial⟩, (Below.refl w.heap.size w).alloc (Nat.le_refl _) _⟩
theorem Keeps.two (w : World) (t t2 : TypeId) (cs ds : Array Value) : Keeps w ((w.alloc (.cells cs t)).alloc (.cells ds t2)) [(w.heap.size + 1, t2, ds), (w.heap.size, t, cs)] := by
  have e1 : (w.alloc (.cells cs t)).heap.size = w.heap.size + 1 := by simp
  have h := (Keeps.one w t cs).more ((Below.refl _ (w.alloc (.cells cs t))).alloc (Nat.le_refl _) (.cells ds t2)) (RowAt.new (w.alloc (.cells cs t)) t2 ds)
  rw [e1] at h
  exact h
theorem Keeps.three (w : World) (t t2 t3 : TypeId) (cs ds es : Array Value) : Keeps w (((w.alloc (.cells cs t)).alloc (.cells ds t2)).alloc (.cells es t3)) [(w.heap.size + 1 + 1, t3, es), (w.heap.size + 1, t2, ds), (w.heap.size, t, cs)] := by
  have e1 : ((w.alloc (.cells cs t)).alloc (.cells ds t2)).heap.size = w.heap.size + 1 + 1 := by simp
  have h := (Keeps.two w t t2 cs ds).more ((Below.refl _ ((w.alloc (.cells cs t)).alloc (.cells ds t2))).alloc (Nat.le_refl _) (.cells es t3)) (RowAt.new ((w.alloc (.cells cs t)).alloc (.cells ds t2)) t3 es)
  rw [e1] at h
  exact h
end Go.Proofs.Ytohdmmfmjadipaa

/-
  A list of structs that lies in memory. Of no program.
-/
namespace Go.Proofs.Ytohdmmfmjadipaa
open Go.RowKit
set_option linter.unusedVariables false

/-- A list of structs that lies there. -/
def RowsIn {α : Type} (f : α → Array Value) (z : α) (n : Nat) (w : World) (v : Value) (xs : List α) : Prop :=
  ∃ a cap, v = .slice a xs.length cap ∧ (0 < xs.length → ∃ b off, a = some ⟨b, off, none⟩ ∧ b < w.heap.size ∧ ∀ i, i < xs.length → w.rangeAt b (off + i * n) (f (xs.getD i z)).toList)
theorem rangeAt_below {w w' : World} {b o B : Nat} {cs : List Value} (h : w.rangeAt b o cs) (hb : Below B w w') (hB : b < B) : w'.rangeAt b o cs := fun j v hv => by
  rw [hb.cell (p := ⟨b, o + j, none⟩) hB]
  exact h j v hv
theorem RowsIn.below {α : Type} {f : α → Array Value} {z : α} {n : Nat} {w w' : World} {v : Value} {xs : List α} (h : RowsIn f z n w v xs) (hb : Below w.heap.size w w') : RowsIn f z n w' v xs := by
  obtain ⟨a, cap, h1, h2⟩ := h
  refine ⟨a, cap, h1, fun hp => ?_⟩
  obtain ⟨b, off, h3, h4, h5⟩ := h2 hp
  exact ⟨b, off, h3, Nat.lt_of_lt_of_le h4 hb.size, fun i hi => rangeAt_below (h5 i hi) hb h4⟩
end Go.Proofs.Ytohdmmfmjadipaa

/-
  Records in memory.
-/
namespace Go.Proofs.Ytohdmmfmjadipaa
open Go.RowKit
set_option linter.unusedVariables false

/-- A record's cells: its two lists as the values that lie there. -/
def rcA (r : Rec) (va vb : Value) : Array Value := #[.int .i64 r.k, .int .u64 (r.l : Int), .int .i64 r.t, .int .u64 (r.p : Int), .int .i64 r.c.k, .int .i64 r.c.pg, .int .i64 r.c.sl, .string r.c.o, .string r.c.n, .int .u64 (r.n : Int), .int .i64 r.s, .int .u64 (r.b : Int), va, vb]
def txA (x : Tx) : Array Value := #[.int .i64 x.t, .int .i64 x.s, .int .u64 (x.f : Int), .int .u64 (x.l : Int), .int .u64 (x.n : Int)]
def diA (d : Di) : Array Value := #[.int .i64 d.p, .int .u64 (d.r : Int)]
theorem infoRc : (Try.prog.info? 30).map (·.size) = some 14 := by kernel_rfl
theorem infoTx : (Try.prog.info? 84).map (·.size) = some 5 := by kernel_rfl
theorem infoDi : (Try.prog.info? 86).map (·.size) = some 2 := by kernel_rfl
theorem txA_one (x : Tx) : (txA x).all (·.oneCell') = true := by simp [txA, Value.oneCell']
theorem diA_one (d : Di) : (diA d).all (·.oneCell') = true := by simp [diA, Value.oneCell']

abbrev TxIn := RowsIn txA Tx.zero 5
abbrev DiIn := RowsIn diA Di.zero 2
/-- Both lists of a record. -/
def RcIn (w : World) (r : Rec) (va vb : Value) : Prop := TxIn w va r.ts ∧ DiIn w vb r.ds
theorem RcIn.below {w w' : World} {r : Rec} {va vb : Value} (h : RcIn w r va vb) (hb : Below w.heap.size w w') : RcIn w' r va vb := ⟨h.1.below hb, h.2.below hb⟩
theorem RcIn.drew {w : World} {r : Rec} {va vb : Value} (h : RcIn w r va vb) : RcIn w.drew r va vb := h
end Go.Proofs.Ytohdmmfmjadipaa

/-
  Two changes held against each other by == or !=.
-/
namespace Go.Proofs.Ytohdmmfmjadipaa
open Go.RowKit
set_option linter.unusedVariables false

/-- A change whose numbers and texts a machine can have. -/
def Ch.fits (c : Ch) : Prop := (Lit.int .i64 c.k).wf = true ∧ (Lit.int .i64 c.pg).wf = true ∧ (Lit.int .i64 c.sl).wf = true ∧ c.o.size ≤ maxLen ∧ c.n.size ≤ maxLen
/-- Two changes are alike. -/
abbrev Ch.like (a b : Ch) : Prop := a.k = b.k ∧ a.pg = b.pg ∧ a.sl = b.sl ∧ a.o = b.o ∧ a.n = b.n
theorem like_iff (a b : Ch) : a.like b ↔ a = b := by
  constructor
  · rintro ⟨h1, h2, h3, h4, h5⟩
    cases a
    cases b
    simp_all
  · rintro rfl
    exact ⟨rfl, rfl, rfl, rfl, rfl⟩

def litsC (c : Ch) : List Lit := [.int .i64 c.k, .int .i64 c.pg, .int .i64 c.sl, .string c.o.data.toList, .string c.n.data.toList]
theorem litsC_iff (c d : Ch) : litsC c = litsC d ↔ c = d := by
  unfold litsC
  simp only [List.cons.injEq, and_true, Lit.int.injEq, Lit.string.injEq, data_inj, true_and]
  constructor
  · rintro ⟨h1, h2, h3, h4, h5⟩
    cases c
    cases d
    simp_all
  · rintro rfl
    exact ⟨rfl, rfl, rfl, rfl, rfl⟩

theorem lits_change (c : Ch) (h : c.fits) : Try.prog.keyLits 2 26 (chA c).toList = some (litsC c) := by
  have e0 : Try.prog.cellsOf 3 = 1 := by kernel_rfl
  have e1 : Try.prog.cellsOf 9 = 1 := by kernel_rfl
  have e2 : Try.prog.cellsOf 26 = 5 := by kernel_rfl
  obtain ⟨h1, h2, h3, h4, h5⟩ := h
  simp [Program.keyLits, Try.underlying26, Try.underlying3, Try.underlying9, e0, e1, e2, chA, litsC, h1, h2, h3, h4, h5]

theorem run_change_eql (c d : Ch) (hc : c.fits) (hd : d.fits) (w : World) : (binOp .eql 26 (.agg (chA c)) (.agg (chA d))).run Try.prog w = .ok (.bool (decide (c.like d))) w := by
  obtain ⟨r, hr, hiff⟩ := run_equalIn_deep (P := Try.prog) 9998 2 26 (by kernel_rfl) w 2 2 (.agg (chA c)) (.agg (chA d)) (litsC c) (litsC d) (by kernel_rfl) (by kernel_rfl) (lits_change c hc) (lits_change d hd)
  have e : r = decide (c.like d) := by
    rw [Bool.eq_iff_iff, hiff, litsC_iff, decide_eq_true_iff, like_iff]
  rw [e] at hr
  have hr2 : (Op.equal 26 (.agg (chA c)) (.agg (chA d))).run Try.prog w = .ok (decide (c.like d)) w := hr
  simp [binOp, hr2]
theorem run_change_neq (c d : Ch) (hc : c.fits) (hd : d.fits) (w : World) : (binOp .neq 26 (.agg (chA c)) (.agg (chA d))).run Try.prog w = .ok (.bool (!decide (c.like d))) w := by
  obtain ⟨r, hr, hiff⟩ := run_equalIn_deep (P := Try.prog) 9998 2 26 (by kernel_rfl) w 2 2 (.agg (chA c)) (.agg (chA d)) (litsC c) (litsC d) (by kernel_rfl) (by kernel_rfl) (lits_change c hc) (lits_change d hd)
  have e : r = decide (c.like d) := by
    rw [Bool.eq_iff_iff, hiff, litsC_iff, decide_eq_true_iff, like_iff]
  rw [e] at hr
  have hr2 : (Op.equal 26 (.agg (chA c)) (.agg (chA d))).run Try.prog w = .ok (decide (c.like d)) w := hr
  simp [binOp, hr2]
theorem change_guard (op : BinOp) (x y : Operand) (c d : Ch) (w : World) : (eqGuard op 26 x y (.agg (chA c)) (.agg (chA d))).run Try.prog w = .ok () w := run_eqGuard_agg (P := Try.prog) w op 26 x y (chA c) (chA d) (by kernel_rfl)
end Go.Proofs.Ytohdmmfmjadipaa

/-
  Records that a machine can have, and == of the rows of their lists.
-/
namespace Go.Proofs.Ytohdmmfmjadipaa
open Go.RowKit
set_option linter.unusedVariables false

def Tx.fits (x : Tx) : Prop := (Lit.int .i64 x.t).wf = true ∧ (Lit.int .i64 x.s).wf = true ∧ (Lit.int .u64 (x.f : Int)).wf = true ∧ (Lit.int .u64 (x.l : Int)).wf = true ∧ (Lit.int .u64 (x.n : Int)).wf = true
def Di.fits (d : Di) : Prop := (Lit.int .i64 d.p).wf = true ∧ (Lit.int .u64 (d.r : Int)).wf = true
/-- What every record that comes in keeps to. -/
structure Rec.fits (r : Rec) : Prop where
  c : r.c.fits
  tl : r.ts.length ≤ maxLen
  dl : r.ds.length ≤ maxLen
  ts : ∀ x ∈ r.ts, x.fits
  ds : ∀ d ∈ r.ds, d.fits

def litsT (x : Tx) : List Lit := [.int .i64 x.t, .int .i64 x.s, .int .u64 (x.f : Int), .int .u64 (x.l : Int), .int .u64 (x.n : Int)]
def litsD (d : Di) : List Lit := [.int .i64 d.p, .int .u64 (d.r : Int)]
theorem litsT_iff (x y : Tx) : litsT x = litsT y ↔ x = y := by
  unfold litsT
  simp only [List.cons.injEq, and_true, Lit.int.injEq, true_and, Int.ofNat_inj]
  constructor
  · rintro ⟨h1, h2, h3, h4, h5⟩
    cases x
    cases y
    simp_all
  · rintro rfl
    exact ⟨rfl, rfl, rfl, rfl, rfl⟩
theorem litsD_iff (x y : Di) : litsD x = litsD y ↔ x = y := by
  unfold litsD
  simp only [List.cons.injEq, and_true, Lit.int.injEq, true_and, Int.ofNat_inj]
  constructor
  · rintro ⟨h1, h2⟩
    cases x
    cases y
    simp_all
  · rintro rfl
    exact ⟨rfl, rfl⟩

theorem lits_tx (x : Tx) (h : x.fits) : Try.prog.keyLits 2 84 (txA x).toList = some (litsT x) := by
  have e0 : Try.prog.cellsOf 3 = 1 := by kernel_rfl
  have e1 : Try.prog.cellsOf 23 = 1 := by kernel_rfl
  have e2 : Try.prog.cellsOf 84 = 5 := by kernel_rfl
  obtain ⟨h1, h2, h3, h4, h5⟩ := h
  simp [Program.keyLits, Try.underlying84, Try.underlying3, Try.underlying23, e0, e1, e2, txA, litsT, h1, h2, h3, h4, h5]
theorem lits_di (x : Di) (h : x.fits) : Try.prog.keyLits 2 86 (diA x).toList = some (litsD x) := by
  have e0 : Try.prog.cellsOf 3 = 1 := by kernel_rfl
  have e1 : Try.prog.cellsOf 23 = 1 := by kernel_rfl
  have e2 : Try.prog.cellsOf 86 = 2 := by kernel_rfl
  obtain ⟨h1, h2⟩ := h
  simp [Program.keyLits, Try.underlying86, Try.underlying3, Try.underlying23, e0, e1, e2, diA, litsD, h1, h2]

theorem run_tx_neq (x y : Tx) (hx : x.fits) (hy : y.fits) (q : Bool) (hq : q = false ↔ x = y) (w : World) : (binOp .neq 84 (.agg (txA x)) (.agg (txA y))).run Try.prog w = .ok (.bool q) w := by
  obtain ⟨r, hr, hiff⟩ := run_equalIn_deep (P := Try.prog) 9998 2 84 (by kernel_rfl) w 2 2 (.agg (txA x)) (.agg (txA y)) (litsT x) (litsT y) (by kernel_rfl) (by kernel_rfl) (lits_tx x hx) (lits_tx y hy)
  rw [litsT_iff, ← hq] at hiff
  have e : r = !q := by cases r <;> cases q <;> simp_all
  rw [e] at hr
  have hr2 : (Op.equal 84 (.agg (txA x)) (.agg (txA y))).run Try.prog w = .ok (!q) w := hr
  simp [binOp, hr2]
theorem run_di_neq (x y : Di) (hx : x.fits) (hy : y.fits) (q : Bool) (hq : q = false ↔ x = y) (w : World) : (binOp .neq 86 (.agg (diA x)) (.agg (diA y))).run Try.prog w = .ok (.bool q) w := by
  obtain ⟨r, hr, hiff⟩ := run_equalIn_deep (P := Try.prog) 9998 2 86 (by kernel_rfl) w 2 2 (.agg (diA x)) (.agg (diA y)) (litsD x) (litsD y) (by kernel_rfl) (by kernel_rfl) (lits_di x hx) (lits_di y hy)
  rw [litsD_iff, ← hq] at hiff
  have e : r = !q := by cases r <;> cases q <;> simp_all
  rw [e] at hr
  have hr2 : (Op.equal 86 (.agg (diA x)) (.agg (diA y))).run Try.prog w = .ok (!q) w := hr
  simp [binOp, hr2]
theorem tx_guard (op : BinOp) (x y : Operand) (c d : Tx) (w : World) : (eqGuard op 84 x y (.agg (txA c)) (.agg (txA d))).run Try.prog w = .ok () w := run_eqGuard_agg (P := Try.prog) w op 84 x y (txA c) (txA d) (by kernel_rfl)
theorem di_guard (op : BinOp) (x y : Operand) (c d : Di) (w : World) : (eqGuard op 86 x y (.agg (diA c)) (.agg (diA d))).run Try.prog w = .ok () w := run_eqGuard_agg (P := Try.prog) w op 86 x y (diA c) (diA d) (by kernel_rfl)

theorem getD_mem {α : Type} (xs : List α) (i : Nat) (z : α) (h : i < xs.length) : xs.getD i z ∈ xs := by
  rw [List.getD_eq_getElem?_getD, List.getElem?_eq_getElem h]
  exact List.getElem_mem h
theorem list_same {α : Type} {xs ys : List α} {z : α} (hl : xs.length = ys.length) (h : ∀ i, i < xs.length → xs.getD i z = ys.getD i z) : xs = ys := by
  apply List.ext_getElem hl
  intro i h1 h2
  have := h i h1
  rwa [List.getD_eq_getElem?_getD, List.getD_eq_getElem?_getD, List.getElem?_eq_getElem h1, List.getElem?_eq_getElem h2] at this

/-- A struct out of a row, by its value in every world that holds it. -/
theorem load_tx (y : World) (b k : Nat) (x : Tx) (h : y.rangeAt b k (txA x).toList) : (Instr.loadAt 84 (.pointer (some ⟨b, k, none⟩))).run Try.prog y = .ok (.agg (txA x)) y := by
  have h1 := run_loadAt_mid (P := Try.prog) y b k 84 (txA x).toList _ h Try.underlying84 rfl (by rw [infoTx]; rfl)
  rwa [Array.toArray_toList] at h1
theorem load_di (y : World) (b k : Nat) (x : Di) (h : y.rangeAt b k (diA x).toList) : (Instr.loadAt 86 (.pointer (some ⟨b, k, none⟩))).run Try.prog y = .ok (.agg (diA x)) y := by
  have h1 := run_loadAt_mid (P := Try.prog) y b k 86 (diA x).toList _ h Try.underlying86 rfl (by rw [infoDi]; rfl)
  rwa [Array.toArray_toList] at h1
end Go.Proofs.Ytohdmmfmjadipaa

/-
  A region that draws its order, walked once, in a class of worlds of our own: of no program.
-/
namespace Go.Proofs.Ytohdmmfmjadipaa
open Go.RowKit
set_option linter.unusedVariables false

section
variable {P : Program} {ops : Array Oper} {C : World → Prop} {Q : Act → Prop} {a : Act} {o : Oper} {rest : List Oper}

theorem wp_region_in {id : Nat} {Q : Exit → Act → World → Prop} {a : Act} {w : World} {l : List Oper} (C : World → Prop) (hm : P.follows .mixedOrders = true) (hB : Region.lexB .any l.toArray = true) (hC : C w.drew)
    (h : wpQuiet P l.toArray C (fun a' => ∀ w', C w' → Q .normal a' w') l a) : (Code.region id l.toArray true).wp P Q a w :=
  wp_region_quiet (C := C) hm hB hC (by simpa using h)

/-- An operation that only reads: its value in every world of the class. -/
theorem wpQuiet_val (hw : Region.wanted o (yielded ops a.tmps) = true) (v : Value) (hv : ∀ x, C x → (execOp a.eval o).run P x = .ok (.value v) x) (h : wpQuiet P ops C Q rest (a.put o.dst v)) : wpQuiet P ops C Q (o :: rest) a :=
  BigFrame.wpQuiet_want hw fun K hK => ⟨v, fun x hx => by unfold Oper.quietAt; rw [hv x hx]; exact ⟨rfl, rfl⟩, hK _ h⟩

theorem wpQuiet_convert (hw : Region.wanted o (yielded ops a.tmps) = true) (s t : TypeId) (x : Operand) (ho : o.op = .convert s t x) (u v : Value) (hu : a.eval x = u) (hv : ∀ y, C y → (convert s t u).run P y = .ok v y)
    (h : wpQuiet P ops C Q rest (a.put o.dst v)) : wpQuiet P ops C Q (o :: rest) a :=
  wpQuiet_val hw v (fun y hy => by unfold execOp; simp only [ho, hu, Sem.run_bind, hv y hy, Result.andThen_ok, Sem.run_pure]) h

theorem wpQuiet_load (hw : Region.wanted o (yielded ops a.tmps) = true) (t : TypeId) (x : Operand) (ho : o.op = .load t x) (u v : Value) (hu : a.eval x = u) (hv : ∀ y, C y → (Instr.loadAt t u).run P y = .ok v y)
    (h : wpQuiet P ops C Q rest (a.put o.dst v)) : wpQuiet P ops C Q (o :: rest) a :=
  wpQuiet_val hw v (fun y hy => by unfold execOp; simp only [ho, hu, Sem.run_bind, hv y hy, Result.andThen_ok, Sem.run_pure]) h

theorem wpQuiet_binop (hw : Region.wanted o (yielded ops a.tmps) = true) (op : BinOp) (t r : TypeId) (x y : Operand) (ho : o.op = .binOp op t x y r) (u v z : Value) (hu : a.eval x = u) (hv : a.eval y = v) (hg : ∀ w, (eqGuard op t x y u v).run P w = .ok () w)
    (hz : ∀ w, (binOp op t u v).run P w = .ok z w) (h : wpQuiet P ops C Q rest (a.put o.dst z)) : wpQuiet P ops C Q (o :: rest) a :=
  wpQuiet_val hw z (fun w hw => by unfold execOp; simp only [ho, hu, hv, Sem.run_bind, hg w, hz w, Result.andThen_ok, Sem.run_pure]) h
/-- An operation that no world plays a part in. -/
theorem wpQuiet_plain (hw : Region.wanted o (yielded ops a.tmps) = true) (h : ∀ K : Act → Prop, (∀ a, wpQuiet P ops C Q rest a → K a) → ∃ v, (∀ x : World, (execOp a.eval o).run P x = .ok (.value v) x) ∧ K (a.put o.dst v)) : wpQuiet P ops C Q (o :: rest) a := by
  obtain ⟨v, h1, h2⟩ := h _ (fun _ h => h)
  exact wpQuiet_val hw v (fun x _ => h1 x) h2

/-- A call that leaves a world of the class. -/
theorem wpQuiet_call (hw : Region.wanted o (yielded ops a.tmps) = true) (f : FuncId) (args : Array Value) (v : Value) (he : ∀ x : World, (execOp a.eval o).run P x = .ok (.enter f args) x) (hc : ∀ x, C x → Calls P f args x fun e x' => e = .returned v ∧ C x')
    (h : wpQuiet P ops C Q rest (a.put o.dst v)) : wpQuiet P ops C Q (o :: rest) a :=
  BigFrame.wpQuiet_want hw fun K hK => ⟨v, fun x hx => by unfold Oper.quietAt; rw [he x]; exact ⟨rfl, hc x hx⟩, hK _ h⟩
end
end Go.Proofs.Ytohdmmfmjadipaa

/-
  Structs, numbers and lists that are loaded.
-/
namespace Go.Proofs.Ytohdmmfmjadipaa
open Go.RowKit
set_option linter.unusedVariables false

/-- A struct that is loaded out of a row. -/
theorem wpList_load_mid {P : Program} {ops : Array Oper} {rest : List Oper} {o : Oper} {a : Act} {w : World} {Q : Exit → Act → World → Prop} (hw : Region.wanted o (yielded ops a.tmps) = true) (t : TypeId) (x : Operand) (ho : o.op = .load t x) (b k : Nat) (cs : Array Value)
    (hx : a.eval x = .pointer (some ⟨b, k, none⟩)) (hg : w.rangeAt b k cs.toList) (d : TypeDesc) (hu : P.underlying t = some d) (hd : d.isRow = true) (hi : (P.info? t).map (·.size) = some cs.size) (h : wpList P ops Q rest (a.put o.dst (.agg cs)) w) : wpList P ops Q (o :: rest) a w := by
  have h1 := run_loadAt_mid (P := P) w b k t cs.toList d hg hu hd (by rw [hi, Array.length_toList])
  rw [Array.toArray_toList] at h1
  exact wpList_val hw (.agg cs) (by unfold execOp; simp only [ho, hx, Sem.run_bind, h1, Result.andThen_ok, Sem.run_pure]) h

theorem load_i64 {b j : Nat} (x : World) (v : Int) (h : x.cell? ⟨b, j, none⟩ = some (.int .i64 v)) : (Instr.loadAt 3 (.pointer (some ⟨b, j, none⟩))).run Try.prog x = .ok (.int .i64 v) x := by go_simp
theorem load_txs {b j : Nat} (x : World) (a : Option Addr) (n cap : Nat) (h : x.cell? ⟨b, j, none⟩ = some (.slice a n cap)) : (Instr.loadAt 27 (.pointer (some ⟨b, j, none⟩))).run Try.prog x = .ok (.slice a n cap) x := by go_simp
theorem load_dis {b j : Nat} (x : World) (a : Option Addr) (n cap : Nat) (h : x.cell? ⟨b, j, none⟩ = some (.slice a n cap)) : (Instr.loadAt 28 (.pointer (some ⟨b, j, none⟩))).run Try.prog x = .ok (.slice a n cap) x := by go_simp

theorem at_more {p : Nat → Prop} {j : Nat} (h : ∀ i, i < j → p i) (hj : p j) : ∀ i, i < j + 1 → p i := by
  intro i hi
  by_cases hij : i = j
  · subst hij
    exact hj
  · exact h i (by omega)
end Go.Proofs.Ytohdmmfmjadipaa

/-
  The contracts of slices.Equal of a record's lists.
-/
namespace Go.Proofs.Ytohdmmfmjadipaa
open Go.RowKit
set_option linter.unusedVariables false

set_option maxRecDepth 4000 in
set_option maxHeartbeats 3200000 in
theorem eqtx_at (va vb : Value) (xs ys : List Tx) (w : World) (q : Bool) (Hq : Hid (q = true ↔ xs = ys)) (hx : TxIn w va xs) (hy : TxIn w vb ys) (fx : ∀ x ∈ xs, x.fits) (fy : ∀ x ∈ ys, x.fits) (lx : xs.length ≤ maxLen) :
    Calls Try.prog 63 #[va, vb] w fun e w' => e = .returned (.bool q) ∧ Below w.heap.size w w' := by
  have HX := hide hx
  have HY := hide hy
  have HFX := hide fx
  have HFY := hide fy
  have hml : maxLen = 9223372036854775807 := rfl
  obtain ⟨a1, cap1, rfl, -⟩ := hx
  obtain ⟨a2, cap2, rfl, -⟩ := hy
  clear fx fy
  have hb0 := Below.refl w.heap.size w
  by_cases hl : xs.length = ys.length
  case neg =>
    obtain rfl : q = false := by
      cases q
      · rfl
      · exact absurd (congrArg List.length (Hq.out.1 rfl)) hl
    have i1 : ((xs.length : Int) == (ys.length : Int)) = false := by rw [beq_eq_false_iff_ne]; omega
    have i2 : ((xs.length : Int) != (ys.length : Int)) = true := by rw [bne, i1]; rfl
    clear Hq HX HY HFX HFY lx hml
    generalize xs.length = n1 at *
    generalize ys.length = n2 at *
    go_enter Try.func63, Try.ntmps63
    go_wp2
    go_ret
    exact ⟨rfl, hb0⟩
  have i1 : ((xs.length : Int) != (ys.length : Int)) = false := by rw [bne, hl, beq_self_eq_true]; rfl
  have i2 : ((xs.length : Int) == (ys.length : Int)) = true := by rw [hl]; exact beq_self_eq_true _
  have HL := hide hl
  clear hl
  rw [← HL.out] at i1 i2 ⊢
  go_enter Try.func63, Try.ntmps63
  go_wp2
  go_loopw [13, 5] (fun v _ wr => ∃ j : Nat, j ≤ xs.length ∧ v = .int .i64 j ∧ Below w.heap.size w wr ∧ ∀ i, i < j → xs.getD i Tx.zero = ys.getD i Tx.zero) (fun v _ _ => xs.length - (intOf v).toNat)
  case atStart => exact ⟨0, Nat.zero_le _, rfl, Below.refl _ _, fun i hi => absurd hi (by omega)⟩
  case round =>
    obtain ⟨j, hj, rfl, hb, hat⟩ := hrel
    have HAT := hide hat
    have HB := hide hb
    clear hat hb hb0
    by_cases hlt : j < xs.length
    · have jlt : (j : Int) < (xs.length : Int) := by omega
      obtain ⟨u1, k1, e1, hrow1⟩ := HX.out.below HB.out
      obtain ⟨u2, k2, e2, hrow2⟩ := HY.out.below HB.out
      rw [← HL.out] at e2
      cases e1
      cases e2
      obtain ⟨b1, off1, rfl, -, hc1⟩ := hrow1 (by omega)
      obtain ⟨b2, off2, rfl, -, hc2⟩ := hrow2 (by rw [← HL.out]; omega)
      have HR1 := hide (hc1 j hlt)
      have HR2 := hide (hc2 j (by rw [← HL.out]; exact hlt))
      clear hrow1 hrow2 hc1 hc2
      have HF1 := hide (HFX.out _ (getD_mem xs j Tx.zero hlt))
      have HF2 := hide (HFY.out _ (getD_mem ys j Tx.zero (by rw [← HL.out]; exact hlt)))
      obtain ⟨x, hx⟩ : ∃ x, x = xs.getD j Tx.zero := ⟨_, rfl⟩
      obtain ⟨y, hy⟩ : ∃ y, y = ys.getD j Tx.zero := ⟨_, rfl⟩
      have HXY : Hid (x = xs.getD j Tx.zero ∧ y = ys.getD j Tx.zero) := ⟨hx, hy⟩
      rw [← hx] at HR1 HF1
      rw [← hy] at HR2 HF2
      clear hx hy
      have hc := hide (Classical.em (x = y))
      obtain ⟨p, hp⟩ : ∃ p : Bool, p = false ↔ x = y := ⟨!(@decide (x = y) (Classical.propDecidable _)), by simp⟩
      have HP := hide hp
      clear hp
      go_wp2_with fail
      refine wp_region_in (fun z => Below w.heap.size w z ∧ z.rangeAt b1 (off1 + j * 5) (txA x).toList ∧ z.rangeAt b2 (off2 + j * 5) (txA y).toList) (by kernel_rfl) (by kernel_rfl) ⟨⟨HB.out.1, HB.out.2, HB.out.3, HB.out.4, HB.out.5⟩, HR1.out, HR2.out⟩ ?_
      clear HB HR1 HR2
      repeat (first
        | go_big_quiet_skip
        | (refine wpQuiet_load rfl 84 (.tmp 18) rfl _ (.agg (txA x)) rfl (fun z hz => load_tx z b1 _ x hz.2.1) ?_; simp only [Act.put, Array.setIfInBounds, List.size_toArray, List.length_cons, List.length_nil, Nat.reduceAdd, Nat.reduceLT, ↓reduceDIte, List.set_toArray, List.set_cons_succ, List.set_cons_zero])
        | (refine wpQuiet_load rfl 84 (.tmp 22) rfl _ (.agg (txA y)) rfl (fun z hz => load_tx z b2 _ y hz.2.2) ?_; simp only [Act.put, Array.setIfInBounds, List.size_toArray, List.length_cons, List.length_nil, Nat.reduceAdd, Nat.reduceLT, ↓reduceDIte, List.set_toArray, List.set_cons_succ, List.set_cons_zero])
        | (refine wpQuiet_binop rfl .neq 84 _ (.tmp 19) (.tmp 23) rfl (.agg (txA x)) (.agg (txA y)) (.bool p) rfl rfl (fun z => tx_guard .neq _ _ x y z) (fun z => run_tx_neq x y HF1.out HF2.out p HP.out z) ?_; simp only [Act.put, Array.setIfInBounds, List.size_toArray, List.length_cons, List.length_nil, Nat.reduceAdd, Nat.reduceLT, ↓reduceDIte, List.set_toArray, List.set_cons_succ, List.set_cons_zero])
        | (refine wpQuiet_plain rfl (fun K hK => ?_); go_simp; refine hK _ ?_; clear hK K))
      refine wpQuiet_nil ?_
      intro w3 h3
      have H3 := hide h3.1
      clear h3
      cases p
      · have HE := hide (HP.out.1 rfl)
        clear HP hc
        go_wp2
        go_roundw
        case rel => exact ⟨j + 1, by omega, by go_num, H3.out, at_more HAT.out (by rw [← HXY.out.1, ← HXY.out.2]; exact HE.out)⟩
        case measure => simp [intOf]; omega
      · obtain rfl : q = false := by
          cases q
          · rfl
          · have h1 := Hq.out.1 rfl
            exact absurd (HP.out.2 (by rw [HXY.out.1, HXY.out.2, h1])) (by simp)
        have d3 := H3.out
        clear Hq HP hc HXY HAT HX HY HFX HFY HF1 HF2 H3
        go_wp2
        go_ret
        exact ⟨rfl, d3⟩
    · obtain rfl : j = xs.length := by omega
      obtain rfl : q = true := Hq.out.2 (list_same (z := Tx.zero) HL.out HAT.out)
      have d3 := HB.out
      clear Hq HAT HX HY HFX HFY HB
      go_wp2
      go_ret
      exact ⟨rfl, d3⟩

set_option maxRecDepth 4000 in
set_option maxHeartbeats 3200000 in
theorem eqdi_at (va vb : Value) (xs ys : List Di) (w : World) (q : Bool) (Hq : Hid (q = true ↔ xs = ys)) (hx : DiIn w va xs) (hy : DiIn w vb ys) (fx : ∀ x ∈ xs, x.fits) (fy : ∀ x ∈ ys, x.fits) (lx : xs.length ≤ maxLen) :
    Calls Try.prog 64 #[va, vb] w fun e w' => e = .returned (.bool q) ∧ Below w.heap.size w w' := by
  have HX := hide hx
  have HY := hide hy
  have HFX := hide fx
  have HFY := hide fy
  have hml : maxLen = 9223372036854775807 := rfl
  obtain ⟨a1, cap1, rfl, -⟩ := hx
  obtain ⟨a2, cap2, rfl, -⟩ := hy
  clear fx fy
  have hb0 := Below.refl w.heap.size w
  by_cases hl : xs.length = ys.length
  case neg =>
    obtain rfl : q = false := by
      cases q
      · rfl
      · exact absurd (congrArg List.length (Hq.out.1 rfl)) hl
    have i1 : ((xs.length : Int) == (ys.length : Int)) = false := by rw [beq_eq_false_iff_ne]; omega
    have i2 : ((xs.length : Int) != (ys.length : Int)) = true := by rw [bne, i1]; rfl
    clear Hq HX HY HFX HFY lx hml
    generalize xs.length = n1 at *
    generalize ys.length = n2 at *
    go_enter Try.func64, Try.ntmps64
    go_wp2
    go_ret
    exact ⟨rfl, hb0⟩
  have i1 : ((xs.length : Int) != (ys.length : Int)) = false := by rw [bne, hl, beq_self_eq_true]; rfl
  have i2 : ((xs.length : Int) == (ys.length : Int)) = true := by rw [hl]; exact beq_self_eq_true _
  have HL := hide hl
  clear hl
  rw [← HL.out] at i1 i2 ⊢
  go_enter Try.func64, Try.ntmps64
  go_wp2
  go_loopw [13, 5] (fun v _ wr => ∃ j : Nat, j ≤ xs.length ∧ v = .int .i64 j ∧ Below w.heap.size w wr ∧ ∀ i, i < j → xs.getD i Di.zero = ys.getD i Di.zero) (fun v _ _ => xs.length - (intOf v).toNat)
  case atStart => exact ⟨0, Nat.zero_le _, rfl, Below.refl _ _, fun i hi => absurd hi (by omega)⟩
  case round =>
    obtain ⟨j, hj, rfl, hb, hat⟩ := hrel
    have HAT := hide hat
    have HB := hide hb
    clear hat hb hb0
    by_cases hlt : j < xs.length
    · have jlt : (j : Int) < (xs.length : Int) := by omega
      obtain ⟨u1, k1, e1, hrow1⟩ := HX.out.below HB.out
      obtain ⟨u2, k2, e2, hrow2⟩ := HY.out.below HB.out
      rw [← HL.out] at e2
      cases e1
      cases e2
      obtain ⟨b1, off1, rfl, -, hc1⟩ := hrow1 (by omega)
      obtain ⟨b2, off2, rfl, -, hc2⟩ := hrow2 (by rw [← HL.out]; omega)
      have HR1 := hide (hc1 j hlt)
      have HR2 := hide (hc2 j (by rw [← HL.out]; exact hlt))
      clear hrow1 hrow2 hc1 hc2
      have HF1 := hide (HFX.out _ (getD_mem xs j Di.zero hlt))
      have HF2 := hide (HFY.out _ (getD_mem ys j Di.zero (by rw [← HL.out]; exact hlt)))
      obtain ⟨x, hx⟩ : ∃ x, x = xs.getD j Di.zero := ⟨_, rfl⟩
      obtain ⟨y, hy⟩ : ∃ y, y = ys.getD j Di.zero := ⟨_, rfl⟩
      have HXY : Hid (x = xs.getD j Di.zero ∧ y = ys.getD j Di.zero) := ⟨hx, hy⟩
      rw [← hx] at HR1 HF1
      rw [← hy] at HR2 HF2
      clear hx hy
      have hc := hide (Classical.em (x = y))
      obtain ⟨p, hp⟩ : ∃ p : Bool, p = false ↔ x = y := ⟨!(@decide (x = y) (Classical.propDecidable _)), by simp⟩
      have HP := hide hp
      clear hp
      go_wp2_with fail
      refine wp_region_in (fun z => Below w.heap.size w z ∧ z.rangeAt b1 (off1 + j * 2) (diA x).toList ∧ z.rangeAt b2 (off2 + j * 2) (diA y).toList) (by kernel_rfl) (by kernel_rfl) ⟨⟨HB.out.1, HB.out.2, HB.out.3, HB.out.4, HB.out.5⟩, HR1.out, HR2.out⟩ ?_
      clear HB HR1 HR2
      repeat (first
        | go_big_quiet_skip
        | (refine wpQuiet_load rfl 86 (.tmp 18) rfl _ (.agg (diA x)) rfl (fun z hz => load_di z b1 _ x hz.2.1) ?_; simp only [Act.put, Array.setIfInBounds, List.size_toArray, List.length_cons, List.length_nil, Nat.reduceAdd, Nat.reduceLT, ↓reduceDIte, List.set_toArray, List.set_cons_succ, List.set_cons_zero])
        | (refine wpQuiet_load rfl 86 (.tmp 22) rfl _ (.agg (diA y)) rfl (fun z hz => load_di z b2 _ y hz.2.2) ?_; simp only [Act.put, Array.setIfInBounds, List.size_toArray, List.length_cons, List.length_nil, Nat.reduceAdd, Nat.reduceLT, ↓reduceDIte, List.set_toArray, List.set_cons_succ, List.set_cons_zero])
        | (refine wpQuiet_binop rfl .neq 86 _ (.tmp 19) (.tmp 23) rfl (.agg (diA x)) (.agg (diA y)) (.bool p) rfl rfl (fun z => di_guard .neq _ _ x y z) (fun z => run_di_neq x y HF1.out HF2.out p HP.out z) ?_; simp only [Act.put, Array.setIfInBounds, List.size_toArray, List.length_cons, List.length_nil, Nat.reduceAdd, Nat.reduceLT, ↓reduceDIte, List.set_toArray, List.set_cons_succ, List.set_cons_zero])
        | (refine wpQuiet_plain rfl (fun K hK => ?_); go_simp; refine hK _ ?_; clear hK K))
      refine wpQuiet_nil ?_
      intro w3 h3
      have H3 := hide h3.1
      clear h3
      cases p
      · have HE := hide (HP.out.1 rfl)
        clear HP hc
        go_wp2
        go_roundw
        case rel => exact ⟨j + 1, by omega, by go_num, H3.out, at_more HAT.out (by rw [← HXY.out.1, ← HXY.out.2]; exact HE.out)⟩
        case measure => simp [intOf]; omega
      · obtain rfl : q = false := by
          cases q
          · rfl
          · have h1 := Hq.out.1 rfl
            exact absurd (HP.out.2 (by rw [HXY.out.1, HXY.out.2, h1])) (by simp)
        have d3 := H3.out
        clear Hq HP hc HXY HAT HX HY HFX HFY HF1 HF2 H3
        go_wp2
        go_ret
        exact ⟨rfl, d3⟩
    · obtain rfl : j = xs.length := by omega
      obtain rfl : q = true := Hq.out.2 (list_same (z := Di.zero) HL.out HAT.out)
      have d3 := HB.out
      clear Hq HAT HX HY HFX HFY HB
      go_wp2
      go_ret
      exact ⟨rfl, d3⟩

end Go.Proofs.Ytohdmmfmjadipaa

/-
  The contract of quaysideref05.Right.
-/
namespace Go.Proofs.Ytohdmmfmjadipaa
open Go.RowKit
set_option linter.unusedVariables false

set_option maxRecDepth 4000 in
set_option maxHeartbeats 400000 in
theorem rcright_r1 (c : Ch) (w : World) (h1 : c.pg < 0) :
    Calls Try.prog 45 #[.agg (chA c)] w fun e w' => e = .returned (.bool false) ∧ Below w.heap.size w w' := by
  have hb0 : Below w.heap.size w (w.alloc (.cells (chA c) 26)) := (Below.refl _ _).alloc (Nat.le_refl _) _
  obtain ⟨a0, a1, a2, a3, a4⟩ := ChAt.all (show ChAt (w.alloc (.cells (chA c) 26)) w.heap.size c from heap_alloc_new w _)
  go_enter Try.func45, Try.ntmps45
  generalize c.k = k at *
  generalize c.pg = pg at *
  generalize c.sl = sl at *
  generalize c.o = o at *
  generalize c.n = n at *
  go_wp2
  go_ret
  exact ⟨rfl, hb0⟩

set_option maxRecDepth 4000 in
set_option maxHeartbeats 400000 in
theorem rcright_r2 (c : Ch) (w : World) (h1 : ¬ c.pg < 0) (h2 : 31 < c.pg) :
    Calls Try.prog 45 #[.agg (chA c)] w fun e w' => e = .returned (.bool false) ∧ Below w.heap.size w w' := by
  have hb0 : Below w.heap.size w (w.alloc (.cells (chA c) 26)) := (Below.refl _ _).alloc (Nat.le_refl _) _
  obtain ⟨a0, a1, a2, a3, a4⟩ := ChAt.all (show ChAt (w.alloc (.cells (chA c) 26)) w.heap.size c from heap_alloc_new w _)
  go_enter Try.func45, Try.ntmps45
  generalize c.k = k at *
  generalize c.pg = pg at *
  generalize c.sl = sl at *
  generalize c.o = o at *
  generalize c.n = n at *
  go_wp2
  go_ret
  exact ⟨rfl, hb0⟩

set_option maxRecDepth 4000 in
set_option maxHeartbeats 400000 in
theorem rcright_r3 (c : Ch) (w : World) (h1 : ¬ c.pg < 0) (h2 : ¬ 31 < c.pg) (h3 : c.sl < 0) :
    Calls Try.prog 45 #[.agg (chA c)] w fun e w' => e = .returned (.bool false) ∧ Below w.heap.size w w' := by
  have hb0 : Below w.heap.size w (w.alloc (.cells (chA c) 26)) := (Below.refl _ _).alloc (Nat.le_refl _) _
  obtain ⟨a0, a1, a2, a3, a4⟩ := ChAt.all (show ChAt (w.alloc (.cells (chA c) 26)) w.heap.size c from heap_alloc_new w _)
  go_enter Try.func45, Try.ntmps45
  generalize c.k = k at *
  generalize c.pg = pg at *
  generalize c.sl = sl at *
  generalize c.o = o at *
  generalize c.n = n at *
  go_wp2
  go_ret
  exact ⟨rfl, hb0⟩

set_option maxRecDepth 4000 in
set_option maxHeartbeats 400000 in
theorem rcright_r4 (c : Ch) (w : World) (h1 : ¬ c.pg < 0) (h2 : ¬ 31 < c.pg) (h3 : ¬ c.sl < 0) (h4 : 7 < c.sl) :
    Calls Try.prog 45 #[.agg (chA c)] w fun e w' => e = .returned (.bool false) ∧ Below w.heap.size w w' := by
  have hb0 : Below w.heap.size w (w.alloc (.cells (chA c) 26)) := (Below.refl _ _).alloc (Nat.le_refl _) _
  obtain ⟨a0, a1, a2, a3, a4⟩ := ChAt.all (show ChAt (w.alloc (.cells (chA c) 26)) w.heap.size c from heap_alloc_new w _)
  go_enter Try.func45, Try.ntmps45
  generalize c.k = k at *
  generalize c.pg = pg at *
  generalize c.sl = sl at *
  generalize c.o = o at *
  generalize c.n = n at *
  go_wp2
  go_ret
  exact ⟨rfl, hb0⟩

set_option maxRecDepth 4000 in
set_option maxHeartbeats 400000 in
theorem rcright_r5 (c : Ch) (w : World) (h1 : ¬ c.pg < 0) (h2 : ¬ 31 < c.pg) (h3 : ¬ c.sl < 0) (h4 : ¬ 7 < c.sl) (h5 : 20 < (c.o.size : Int)) :
    Calls Try.prog 45 #[.agg (chA c)] w fun e w' => e = .returned (.bool false) ∧ Below w.heap.size w w' := by
  have hb0 : Below w.heap.size w (w.alloc (.cells (chA c) 26)) := (Below.refl _ _).alloc (Nat.le_refl _) _
  obtain ⟨a0, a1, a2, a3, a4⟩ := ChAt.all (show ChAt (w.alloc (.cells (chA c) 26)) w.heap.size c from heap_alloc_new w _)
  go_enter Try.func45, Try.ntmps45
  generalize c.k = k at *
  generalize c.pg = pg at *
  generalize c.sl = sl at *
  generalize c.o = o at *
  generalize c.n = n at *
  go_wp2
  go_ret
  exact ⟨rfl, hb0⟩

set_option maxRecDepth 4000 in
set_option maxHeartbeats 400000 in
theorem rcright_r6 (c : Ch) (w : World) (h1 : ¬ c.pg < 0) (h2 : ¬ 31 < c.pg) (h3 : ¬ c.sl < 0) (h4 : ¬ 7 < c.sl) (h5 : ¬ 20 < (c.o.size : Int)) (h6 : 20 < (c.n.size : Int)) :
    Calls Try.prog 45 #[.agg (chA c)] w fun e w' => e = .returned (.bool false) ∧ Below w.heap.size w w' := by
  have hb0 : Below w.heap.size w (w.alloc (.cells (chA c) 26)) := (Below.refl _ _).alloc (Nat.le_refl _) _
  obtain ⟨a0, a1, a2, a3, a4⟩ := ChAt.all (show ChAt (w.alloc (.cells (chA c) 26)) w.heap.size c from heap_alloc_new w _)
  go_enter Try.func45, Try.ntmps45
  generalize c.k = k at *
  generalize c.pg = pg at *
  generalize c.sl = sl at *
  generalize c.o = o at *
  generalize c.n = n at *
  go_wp2
  go_ret
  exact ⟨rfl, hb0⟩

set_option maxRecDepth 4000 in
set_option maxHeartbeats 400000 in
theorem rcright_k1y (c : Ch) (w : World) (h1 : ¬ c.pg < 0) (h2 : ¬ 31 < c.pg) (h3 : ¬ c.sl < 0) (h4 : ¬ 7 < c.sl) (h5 : ¬ 20 < (c.o.size : Int)) (h6 : ¬ 20 < (c.n.size : Int)) (hk : c.k = 1) (he : c.o.toList.isEmpty = true) :
    Calls Try.prog 45 #[.agg (chA c)] w fun e w' => e = .returned (.bool true) ∧ Below w.heap.size w w' := by
  have hb0 : Below w.heap.size w (w.alloc (.cells (chA c) 26)) := (Below.refl _ _).alloc (Nat.le_refl _) _
  obtain ⟨a0, a1, a2, a3, a4⟩ := ChAt.all (show ChAt (w.alloc (.cells (chA c) 26)) w.heap.size c from heap_alloc_new w _)
  rw [hk] at a0
  clear hk
  go_enter Try.func45, Try.ntmps45
  generalize c.k = k at *
  generalize c.pg = pg at *
  generalize c.sl = sl at *
  generalize c.o = o at *
  generalize c.n = n at *
  go_wp2
  go_ret
  exact ⟨rfl, hb0⟩

set_option maxRecDepth 4000 in
set_option maxHeartbeats 400000 in
theorem rcright_k1n (c : Ch) (w : World) (h1 : ¬ c.pg < 0) (h2 : ¬ 31 < c.pg) (h3 : ¬ c.sl < 0) (h4 : ¬ 7 < c.sl) (h5 : ¬ 20 < (c.o.size : Int)) (h6 : ¬ 20 < (c.n.size : Int)) (hk : c.k = 1) (he : c.o.toList.isEmpty = false) :
    Calls Try.prog 45 #[.agg (chA c)] w fun e w' => e = .returned (.bool false) ∧ Below w.heap.size w w' := by
  have hb0 : Below w.heap.size w (w.alloc (.cells (chA c) 26)) := (Below.refl _ _).alloc (Nat.le_refl _) _
  obtain ⟨a0, a1, a2, a3, a4⟩ := ChAt.all (show ChAt (w.alloc (.cells (chA c) 26)) w.heap.size c from heap_alloc_new w _)
  rw [hk] at a0
  clear hk
  go_enter Try.func45, Try.ntmps45
  generalize c.k = k at *
  generalize c.pg = pg at *
  generalize c.sl = sl at *
  generalize c.o = o at *
  generalize c.n = n at *
  go_wp2
  go_ret
  exact ⟨rfl, hb0⟩

set_option maxRecDepth 4000 in
set_option maxHeartbeats 400000 in
theorem rcright_k2 (c : Ch) (w : World) (h1 : ¬ c.pg < 0) (h2 : ¬ 31 < c.pg) (h3 : ¬ c.sl < 0) (h4 : ¬ 7 < c.sl) (h5 : ¬ 20 < (c.o.size : Int)) (h6 : ¬ 20 < (c.n.size : Int)) (hk : c.k = 2) :
    Calls Try.prog 45 #[.agg (chA c)] w fun e w' => e = .returned (.bool true) ∧ Below w.heap.size w w' := by
  have hb0 : Below w.heap.size w (w.alloc (.cells (chA c) 26)) := (Below.refl _ _).alloc (Nat.le_refl _) _
  obtain ⟨a0, a1, a2, a3, a4⟩ := ChAt.all (show ChAt (w.alloc (.cells (chA c) 26)) w.heap.size c from heap_alloc_new w _)
  rw [hk] at a0
  clear hk
  go_enter Try.func45, Try.ntmps45
  generalize c.k = k at *
  generalize c.pg = pg at *
  generalize c.sl = sl at *
  generalize c.o = o at *
  generalize c.n = n at *
  go_wp2
  go_ret
  exact ⟨rfl, hb0⟩

set_option maxRecDepth 4000 in
set_option maxHeartbeats 400000 in
theorem rcright_k3y (c : Ch) (w : World) (h1 : ¬ c.pg < 0) (h2 : ¬ 31 < c.pg) (h3 : ¬ c.sl < 0) (h4 : ¬ 7 < c.sl) (h5 : ¬ 20 < (c.o.size : Int)) (h6 : ¬ 20 < (c.n.size : Int)) (hk : c.k = 3) (he : c.n.toList.isEmpty = true) :
    Calls Try.prog 45 #[.agg (chA c)] w fun e w' => e = .returned (.bool true) ∧ Below w.heap.size w w' := by
  have hb0 : Below w.heap.size w (w.alloc (.cells (chA c) 26)) := (Below.refl _ _).alloc (Nat.le_refl _) _
  obtain ⟨a0, a1, a2, a3, a4⟩ := ChAt.all (show ChAt (w.alloc (.cells (chA c) 26)) w.heap.size c from heap_alloc_new w _)
  rw [hk] at a0
  clear hk
  go_enter Try.func45, Try.ntmps45
  generalize c.k = k at *
  generalize c.pg = pg at *
  generalize c.sl = sl at *
  generalize c.o = o at *
  generalize c.n = n at *
  go_wp2
  go_ret
  exact ⟨rfl, hb0⟩

set_option maxRecDepth 4000 in
set_option maxHeartbeats 400000 in
theorem rcright_k3n (c : Ch) (w : World) (h1 : ¬ c.pg < 0) (h2 : ¬ 31 < c.pg) (h3 : ¬ c.sl < 0) (h4 : ¬ 7 < c.sl) (h5 : ¬ 20 < (c.o.size : Int)) (h6 : ¬ 20 < (c.n.size : Int)) (hk : c.k = 3) (he : c.n.toList.isEmpty = false) :
    Calls Try.prog 45 #[.agg (chA c)] w fun e w' => e = .returned (.bool false) ∧ Below w.heap.size w w' := by
  have hb0 : Below w.heap.size w (w.alloc (.cells (chA c) 26)) := (Below.refl _ _).alloc (Nat.le_refl _) _
  obtain ⟨a0, a1, a2, a3, a4⟩ := ChAt.all (show ChAt (w.alloc (.cells (chA c) 26)) w.heap.size c from heap_alloc_new w _)
  rw [hk] at a0
  clear hk
  go_enter Try.func45, Try.ntmps45
  generalize c.k = k at *
  generalize c.pg = pg at *
  generalize c.sl = sl at *
  generalize c.o = o at *
  generalize c.n = n at *
  go_wp2
  go_ret
  exact ⟨rfl, hb0⟩

set_option maxRecDepth 4000 in
set_option maxHeartbeats 400000 in
theorem rcright_k0 (c : Ch) (w : World) (h1 : ¬ c.pg < 0) (h2 : ¬ 31 < c.pg) (h3 : ¬ c.sl < 0) (h4 : ¬ 7 < c.sl) (h5 : ¬ 20 < (c.o.size : Int)) (h6 : ¬ 20 < (c.n.size : Int)) (hk1 : (c.k == 1) = false) (hk2 : (c.k == 2) = false) (hk3 : (c.k == 3) = false) :
    Calls Try.prog 45 #[.agg (chA c)] w fun e w' => e = .returned (.bool false) ∧ Below w.heap.size w w' := by
  have hb0 : Below w.heap.size w (w.alloc (.cells (chA c) 26)) := (Below.refl _ _).alloc (Nat.le_refl _) _
  obtain ⟨a0, a1, a2, a3, a4⟩ := ChAt.all (show ChAt (w.alloc (.cells (chA c) 26)) w.heap.size c from heap_alloc_new w _)
  go_enter Try.func45, Try.ntmps45
  generalize c.k = k at *
  generalize c.pg = pg at *
  generalize c.sl = sl at *
  generalize c.o = o at *
  generalize c.n = n at *
  go_wp2
  go_ret
  exact ⟨rfl, hb0⟩

/-- THE CONTRACT. -/
theorem rcright_any (c : Ch) (w : World) :
    Calls Try.prog 45 #[.agg (chA c)] w fun e w' => e = .returned (.bool (decide c.right)) ∧ Below w.heap.size w w' := by
  by_cases h1 : c.pg < 0
  · rw [decide_eq_false (fun h => by have := h.1; omega)]
    exact rcright_r1 c w h1
  by_cases h2 : 31 < c.pg
  · rw [decide_eq_false (fun h => by have := h.1; omega)]
    exact rcright_r2 c w h1 h2
  by_cases h3 : c.sl < 0
  · rw [decide_eq_false (fun h => by have := h.1; omega)]
    exact rcright_r3 c w h1 h2 h3
  by_cases h4 : 7 < c.sl
  · rw [decide_eq_false (fun h => by have := h.1; omega)]
    exact rcright_r4 c w h1 h2 h3 h4
  by_cases h5 : 20 < (c.o.size : Int)
  · rw [decide_eq_false (fun h => by have := h.1; omega)]
    exact rcright_r5 c w h1 h2 h3 h4 h5
  by_cases h6 : 20 < (c.n.size : Int)
  · rw [decide_eq_false (fun h => by have := h.1; omega)]
    exact rcright_r6 c w h1 h2 h3 h4 h5 h6
  have hr : c.kindOk → c.right := fun h => ⟨⟨by omega, by omega, by omega, by omega, by omega, by omega⟩, h⟩
  by_cases k1 : c.k = 1
  · by_cases he : c.o.toList.isEmpty = true
    · rw [decide_eq_true (hr (.inl ⟨k1, (empty_iff _).1 he⟩))]
      exact rcright_k1y c w h1 h2 h3 h4 h5 h6 k1 he
    · rw [decide_eq_false (fun h => by
        rcases h.2 with h | h | h
        · exact he ((empty_iff _).2 h.2)
        · omega
        · omega)]
      exact rcright_k1n c w h1 h2 h3 h4 h5 h6 k1 (by simpa using he)
  by_cases k2 : c.k = 2
  · rw [decide_eq_true (hr (.inr (.inl k2)))]
    exact rcright_k2 c w h1 h2 h3 h4 h5 h6 k2
  by_cases k3 : c.k = 3
  · by_cases he : c.n.toList.isEmpty = true
    · rw [decide_eq_true (hr (.inr (.inr ⟨k3, (empty_iff _).1 he⟩)))]
      exact rcright_k3y c w h1 h2 h3 h4 h5 h6 k3 he
    · rw [decide_eq_false (fun h => by
        rcases h.2 with h | h | h
        · omega
        · omega
        · exact he ((empty_iff _).2 h.2))]
      exact rcright_k3n c w h1 h2 h3 h4 h5 h6 k3 (by simpa using he)
  rw [decide_eq_false (fun h => by rcases h.2 with h | h | h <;> omega)]
  exact rcright_k0 c w h1 h2 h3 h4 h5 h6 (by simpa using k1) (by simpa using k2) (by simpa using k3)
end Go.Proofs.Ytohdmmfmjadipaa

/-
  A record's cells, and the contract of quaysideref06.Own.
-/
namespace Go.Proofs.Ytohdmmfmjadipaa
open Go.RowKit
set_option linter.unusedVariables false

theorem zero_fits : Ch.zero.fits := ⟨by decide, by decide, by decide, by show (0 : Nat) ≤ maxLen; omega, by show (0 : Nat) ≤ maxLen; omega⟩
theorem rcright_at (c : Ch) (w : World) (r : Bool) (Hr : Hid (decide c.right = r)) :
    Calls Try.prog 45 #[.agg (chA c)] w fun e w' => e = .returned (.bool r) ∧ Below w.heap.size w w' := by
  rw [← Hr.out]
  exact rcright_any c w
theorem zero_list : (⟨#[]⟩ : ByteArray).toList = [] := by
  rw [ByteArray.toList_eq]
theorem list_zero (s : ByteArray) (h : s.toList = []) : s = ⟨#[]⟩ := size0 s ((empty_iff s).1 (by rw [h]; rfl))
theorem ch_zero (c : Ch) (f1 : c.k = 0) (f2 : c.pg = 0) (f3 : c.sl = 0) (f4 : c.o.toList = []) (f5 : c.n.toList = []) : c = Ch.zero := by
  obtain ⟨k, pg, sl, o, n⟩ := c
  simp only at f1 f2 f3 f4 f5
  rw [f1, f2, f3, list_zero o f4, list_zero n f5]
  rfl
theorem rc_cells {x : World} {g : Nat} {r : Rec} {va vb : Value} (h : RowAt x g 30 (rcA r va vb)) :
    x.cell? ⟨g, 0, none⟩ = some (.int .i64 r.k) ∧ x.cell? ⟨g, 1, none⟩ = some (.int .u64 (r.l : Int)) ∧ x.cell? ⟨g, 2, none⟩ = some (.int .i64 r.t) ∧ x.cell? ⟨g, 3, none⟩ = some (.int .u64 (r.p : Int)) ∧ x.cell? ⟨g, 9, none⟩ = some (.int .u64 (r.n : Int)) ∧ x.cell? ⟨g, 10, none⟩ = some (.int .i64 r.s) ∧ x.cell? ⟨g, 11, none⟩ = some (.int .u64 (r.b : Int)) ∧ x.cell? ⟨g, 12, none⟩ = some va ∧ x.cell? ⟨g, 13, none⟩ = some vb :=
  ⟨h.cell 0 _ rfl, h.cell 1 _ rfl, h.cell 2 _ rfl, h.cell 3 _ rfl, h.cell 9 _ rfl, h.cell 10 _ rfl, h.cell 11 _ rfl, h.cell 12 _ rfl, h.cell 13 _ rfl⟩
theorem rc_chg {x : World} {g : Nat} {r : Rec} {va vb : Value} (h : RowAt x g 30 (rcA r va vb)) :
    x.cell? ⟨g, 4, none⟩ = some (.int .i64 r.c.k) ∧ x.cell? ⟨g, 5, none⟩ = some (.int .i64 r.c.pg) ∧ x.cell? ⟨g, 6, none⟩ = some (.int .i64 r.c.sl) ∧ x.cell? ⟨g, 7, none⟩ = some (.string r.c.o) ∧ x.cell? ⟨g, 8, none⟩ = some (.string r.c.n) :=
  ⟨h.cell 4 _ rfl, h.cell 5 _ rfl, h.cell 6 _ rfl, h.cell 7 _ rfl, h.cell 8 _ rfl⟩
theorem rc_change {x : World} {g : Nat} {r : Rec} {va vb : Value} (h : RowAt x g 30 (rcA r va vb)) : x.rangeAt g 4 (chA r.c).toList := by
  intro j v hv
  have hj : j < 5 := (List.getElem?_eq_some_iff.1 hv).1
  refine h.cell (4 + j) v ?_
  rw [← hv, Array.getElem?_toList]
  match j, hj with
  | 0, _ => rfl
  | 1, _ => rfl
  | 2, _ => rfl
  | 3, _ => rfl
  | 4, _ => rfl

set_option maxRecDepth 4000 in
set_option maxHeartbeats 400000 in
theorem own_at (k : Int) (w : World) (q : Bool) (Hq : Hid (decide (1 ≤ k ∧ k ≤ 6) = q)) :
    Calls Try.prog 44 #[.int .i64 k] w fun e w' => e = .returned (.bool q) ∧ w = w' := by
  by_cases h1 : 1 ≤ k
  · by_cases h2 : k ≤ 6
    · obtain rfl : q = true := by rw [← Hq.out]; exact decide_eq_true ⟨h1, h2⟩
      clear Hq
      go_enter Try.func44, Try.ntmps44
      go_wp2
      go_ret
      exact ⟨rfl, rfl⟩
    · obtain rfl : q = false := by rw [← Hq.out]; exact decide_eq_false (by omega)
      clear Hq
      go_enter Try.func44, Try.ntmps44
      go_wp2
      go_ret
      exact ⟨rfl, rfl⟩
  · obtain rfl : q = false := by rw [← Hq.out]; exact decide_eq_false (by omega)
    clear Hq
    go_enter Try.func44, Try.ntmps44
    go_wp2
    go_ret
    exact ⟨rfl, rfl⟩
end Go.Proofs.Ytohdmmfmjadipaa
