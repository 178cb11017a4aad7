/-
  Texts that lean on one another, one behind the other: each opens with its own remark.
-/
import Derived.WalkKit
import Derived.Laws.CopyOwn
import Derived.Lib.ConvBytes
import Derived.Laws.IdiomStrings
import Derived.Laws.BytesArg
import Derived.Lib.AppendStr
import Derived.ArgAppend
import Derived.Deep.RegionLawGrows
import Derived.Laws.AppendOwn
import Derived.Laws.AppendOwnNone
import Derived.Lib.AppendZerosOnto
import Derived.Laws.IdiomCopy
import Derived.Test.YtfeghhgniahfkaaProg
import Derived.WalkSpells
import Derived.Laws.OwnMore
import Derived.Laws.ResultCell
import Derived.Laws.Tables
import Derived.Deep.Draws
import Derived.Deep.MidRow

/-
  Plain facts on bytes and numbers, of no program: the number that bytes spell, the highest first; the bytes of a number; what 'Take' answers.
-/
namespace Go.Proofs.Ytfeghhgniahfkaa
open Go.RowKit
set_option linter.unusedVariables false

/-- A fact kept from the walk. -/
theorem hide {p : Prop} (h : p) : Hid p := h

/-- The number whose bytes these are, the highest first. -/
def be (bs : List UInt8) : Nat := bs.foldl (fun n b => n * 256 + b.toNat) 0

theorem be_nil : be [] = 0 := rfl

theorem be_snoc (bs : List UInt8) (b : UInt8) : be (bs ++ [b]) = be bs * 256 + b.toNat := by
  simp [be, List.foldl_append]

theorem foldl_lt : ∀ (bs : List UInt8) (n k : Nat), n < 256 ^ k → bs.foldl (fun n b => n * 256 + b.toNat) n < 256 ^ (k + bs.length)
  | [], n, k, h => by simpa using h
  | b :: bs, n, k, h => by
    have hb : b.toNat < 256 := b.toNat_lt
    have h2 : n * 256 + b.toNat < 256 ^ (k + 1) := by rw [Nat.pow_succ]; omega
    have h3 := foldl_lt bs (n * 256 + b.toNat) (k + 1) h2
    simp only [List.foldl_cons, List.length_cons]
    have e : k + (bs.length + 1) = k + 1 + bs.length := by omega
    rw [e]
    exact h3

theorem be_lt (bs : List UInt8) : be bs < 256 ^ bs.length := by
  have h := foldl_lt bs 0 0 (by simp)
  rw [Nat.zero_add] at h
  exact h

theorem be_take_succ (bs : List UInt8) (k : Nat) (h : k < bs.length) : be (bs.take (k + 1)) = be (bs.take k) * 256 + (bs.getD k 0).toNat := by
  rw [List.take_succ_eq_append_getElem h, be_snoc]
  simp [List.getD, List.getElem?_eq_getElem h]

theorem pow256_le (k : Nat) (h : k ≤ 8) : 256 ^ k ≤ 18446744073709551616 := by
  have h2 : 256 ^ k ≤ 256 ^ 8 := Nat.pow_le_pow_right (by omega) h
  have h3 : 256 ^ 8 = 18446744073709551616 := by decide
  omega

theorem pow256_le7 (k : Nat) (h : k ≤ 7) : 256 ^ k ≤ 72057594037927936 := by
  have h2 : 256 ^ k ≤ 256 ^ 7 := Nat.pow_le_pow_right (by omega) h
  have h3 : 256 ^ 7 = 72057594037927936 := by decide
  omega

theorem be_take_lt7 (bs : List UInt8) (k : Nat) (h : k < 8) : be (bs.take k) < 72057594037927936 := by
  have h1 := be_lt (bs.take k)
  have h2 : 256 ^ (bs.take k).length ≤ 256 ^ 7 := Nat.pow_le_pow_right (by omega) (by simp; omega)
  have h3 : 256 ^ 7 = 72057594037927936 := by decide
  omega

theorem be_take_lt (bs : List UInt8) (k : Nat) (h : k ≤ 8) : be (bs.take k) < 18446744073709551616 := by
  have h1 := be_lt (bs.take k)
  have h2 : 256 ^ (bs.take k).length ≤ 256 ^ 8 := Nat.pow_le_pow_right (by omega) (by simp; omega)
  have h3 : 256 ^ 8 = 18446744073709551616 := by decide
  omega

/-- The number of so many bytes at a place. -/
def beAt (bs : List UInt8) (p k : Nat) : Nat := be ((bs.drop p).take k)

theorem beAt_zero (bs : List UInt8) (p : Nat) : beAt bs p 0 = 0 := by simp [beAt, be_nil]

theorem beAt_succ (bs : List UInt8) (p k : Nat) (h : p + k < bs.length) : beAt bs p (k + 1) = beAt bs p k * 256 + (bs.getD (p + k) 0).toNat := by
  unfold beAt
  rw [be_take_succ _ _ (by simp; omega)]
  simp [List.getD]

theorem beAt_lt7 (bs : List UInt8) (p k : Nat) (h : k < 8) : beAt bs p k < 72057594037927936 := be_take_lt7 _ _ h
theorem beAt_lt (bs : List UInt8) (p k : Nat) (h : k ≤ 8) : beAt bs p k < 18446744073709551616 := be_take_lt _ _ h

/-- A shift by a byte and an or with a byte: the sum. -/
theorem shl_or (n b : Nat) (hn : n < 72057594037927936) (hb : b < 256) : bits .or .u64 ((n : Int) * 256) (b : Int) = ((n * 256 + b : Nat) : Int) := by
  have e : ((n : Int) * 256) = ((n * 256 : Nat) : Int) := by omega
  rw [e, u64_or_nat (n * 256) b (by omega) (by omega), nat_join 8 (n * 256) b (by omega) (by omega)]

theorem take_step (bs : List UInt8) (p j : Nat) (hj : j < 8) (h : p + j < bs.length) :
    bits .or .u64 ((beAt bs p j : Nat) * 256 : Int) (IntKind.u64.wrap ((bs[p + j]?.getD 0).toNat : Int)) = ((beAt bs p (j + 1) : Nat) : Int) := by
  have hb : (bs[p + j]?.getD 0).toNat < 256 := (bs[p + j]?.getD 0).toNat_lt
  have e : IntKind.u64.wrap ((bs[p + j]?.getD 0).toNat : Int) = ((bs[p + j]?.getD 0).toNat : Int) := by rw [IntKind.wrap_u64]; omega
  rw [e, shl_or _ _ (beAt_lt7 bs p j hj) hb, beAt_succ bs p j h]
  simp [List.getD]

theorem getD_str (s : ByteArray) (i : Nat) (h : i < s.size) : s.data.toList.getD i 0 = s[i] := by
  have h2 : i < s.data.toList.length := by simpa using h
  rw [List.getD, List.getElem?_eq_getElem h2]
  rfl

theorem rtake_step (s : ByteArray) (p j : Nat) (hj : j < 8) (h : p + j < s.size) :
    IntKind.u64.wrap ((beAt s.data.toList p j : Nat) * 256 + IntKind.u64.wrap (s[p + j].toNat : Int)) = ((beAt s.data.toList p (j + 1) : Nat) : Int) := by
  have hb : s[p + j].toNat < 256 := s[p + j].toNat_lt
  have hn := beAt_lt7 s.data.toList p j hj
  rw [beAt_succ s.data.toList p j (by simpa using h), getD_str s (p + j) h, IntKind.wrap_u64, IntKind.wrap_u64]
  omega

/-- The test of 'Fits' in the walk's form. -/
theorem shr_zero (n k : Nat) : ((n : Int) / 2 ^ (8 * k) == 0) = decide (n < 256 ^ k) := by
  have e : (2 : Int) ^ (8 * k) = ((256 ^ k : Nat) : Int) := by
    rw [Int.pow_mul]
    simp
  rw [e]
  have hp : 0 < 256 ^ k := Nat.pow_pos (by omega)
  rw [Bool.eq_iff_iff]
  simp only [beq_iff_eq, decide_eq_true_eq]
  constructor
  · intro h
    have h2 : ((n / 256 ^ k : Nat) : Int) = 0 := by rw [Int.natCast_ediv]; exact h
    have h3 : n / 256 ^ k = 0 := by omega
    exact (Nat.div_eq_zero_iff_lt hp).1 h3
  · intro h
    have h3 : n / 256 ^ k = 0 := (Nat.div_eq_zero_iff_lt hp).2 h
    have h2 : ((n / 256 ^ k : Nat) : Int) = 0 := by omega
    rw [Int.natCast_ediv] at h2
    exact h2

theorem byte_at (n m : Nat) : (n : Int) / 2 ^ (8 * m) % 256 = ((UInt8.ofNat (n / 256 ^ m)).toNat : Int) := by
  have e : (2 : Int) ^ (8 * m) = ((256 ^ m : Nat) : Int) := by
    rw [Int.pow_mul]
    simp
  rw [e, ← Int.natCast_ediv]
  simp

/-- A slice value whose elements read as these bytes. -/
def IsB (w : World) (a : Option Addr) (len : Nat) (bs : List UInt8) : Prop :=
  bs.length = len ∧ (0 < len → ∃ b off, a = some ⟨b, off, none⟩ ∧ b < w.heap.size ∧ ∀ j, j < len → w.cell? ⟨b, off + j, none⟩ = some (.int .u8 ((bs.getD j 0).toNat : Int)))

/-- Later worlds in which nothing old has turned read the same bytes. -/
theorem IsB.below {w w' : World} {a : Option Addr} {len : Nat} {bs : List UInt8} (h : IsB w a len bs) (hb : Below w.heap.size w w') : IsB w' a len bs := by
  refine ⟨h.1, fun hp => ?_⟩
  obtain ⟨b, off, ha, hlt, hc⟩ := h.2 hp
  exact ⟨b, off, ha, Nat.lt_of_lt_of_le hlt hb.size, fun j hj => (hb.cell (p := ⟨b, off + j, none⟩) hlt).trans (hc j hj)⟩

/-- .. where just the blocks below a number are as they were. -/
theorem IsB.later {w w' : World} {a : Option Addr} {len B : Nat} {bs : List UInt8} (h : IsB w a len bs) (hb : Below B w w') (ha : ∀ b off, a = some ⟨b, off, none⟩ → b < B) : IsB w' a len bs := by
  refine ⟨h.1, fun hp => ?_⟩
  obtain ⟨b, off, hab, hlt, hc⟩ := h.2 hp
  exact ⟨b, off, hab, Nat.lt_of_lt_of_le hlt hb.size, fun j hj => (hb.cell (p := ⟨b, off + j, none⟩) (ha b off hab)).trans (hc j hj)⟩

theorem IsB.nil (w : World) : IsB w none 0 [] := ⟨rfl, fun h => absurd h (by omega)⟩

/-- Bytes as cells. -/
def toV (bs : List UInt8) : List Value := bs.map fun b => Value.int .u8 (b.toNat : Int)
theorem toV_length (bs : List UInt8) : (toV bs).length = bs.length := by simp [toV]
theorem toV_append (a b : List UInt8) : toV (a ++ b) = toV a ++ toV b := by simp [toV]
theorem toV_one (bs : List UInt8) : ∀ v ∈ toV bs, v.oneCell' = true := by
  intro v hv
  obtain ⟨b, _, rfl⟩ := List.mem_map.1 hv
  rfl
theorem toV_get (bs : List UInt8) (j : Nat) (h : j < bs.length) : (toV bs)[j]? = some (.int .u8 ((bs.getD j 0).toNat : Int)) := by
  simp [toV, List.getD, List.getElem?_eq_getElem h]
theorem toV_some (bs : List UInt8) (j : Nat) (v : Value) (h : (toV bs)[j]? = some v) : j < bs.length ∧ v = .int .u8 ((bs.getD j 0).toNat : Int) := by
  have hj : j < bs.length := by
    have := (List.getElem?_eq_some_iff.1 h).1
    rwa [toV_length] at this
  rw [toV_get bs j hj] at h
  exact ⟨hj, (Option.some.inj h).symm⟩

theorem IsB.cells {w : World} {a : Option Addr} {len : Nat} {bs : List UInt8} (h : IsB w a len bs) (hp : 0 < bs.length) : ∃ ad, a = some ad ∧ ad.block < w.heap.size ∧ ∀ j v, (toV bs)[j]? = some v → w.cell? (ad.add j) = some v := by
  obtain ⟨b, off, ha, hlt, hc⟩ := h.2 (by have := h.1; omega)
  refine ⟨_, ha, hlt, fun j v hv => ?_⟩
  obtain ⟨hj, rfl⟩ := toV_some bs j v hv
  rw [Addr.add_lit]
  exact hc j (by have := h.1; omega)

/-- A row of noughts. -/
def zrow (n : Nat) : List Value := List.replicate n (.int .u8 0)
theorem zrow_length (n : Nat) : (zrow n).length = n := by simp [zrow]

theorem run_mk {P : Program} (t e : TypeId) (ht : P.underlying t = some (.slice e)) (hinfo : (P.info? e).map (fun i => (i.zero, i.size, i.bytes)) = some (some (.int .u8 0), 1, 1)) (l m : Nat) (h : l + m ≤ 281474976710656) (w : World) :
    (Instr.makeSlice t (.int .i64 (l : Int)) (.int .i64 ((l : Int) + (m : Int)))).run P w = .ok (.slice (some ⟨w.heap.size, 0, none⟩) l (l + m)) (w.alloc (.cells (zrow (l + m)).toArray e)) := by
  obtain ⟨i, hi, hz, hs, hb⟩ := info_parts hinfo
  have hr := run_make (P := P) w t e i (.int .u8 0) ht hi hz .i64 .i64 (l : Int) ((l : Int) + (m : Int)) (by omega) (by omega) (by rw [hb]; omega) (by omega)
  have e1 : ((l : Int) + (m : Int)).toNat = l + m := by omega
  have e2 : (Value.int .u8 0).cells = #[.int .u8 0] := rfl
  rw [hr, e1, hs, Nat.mul_one, e2]
  have e3 : madeCells #[Value.int .u8 0] (l + m) = (zrow (l + m)).toArray := by
    apply Array.ext'
    rw [toList_madeCells_one]
    rfl
  rw [e3]
  rfl

theorem splice_zero (L cs : List Value) : splice L 0 cs = cs ++ L.drop cs.length := by simp [splice]

/-- A fresh row of bytes with room behind: what 'longer' hands back. -/
theorem owns_spliced {w : World} {base g len m : Nat} {e : TypeId} {bs : List UInt8} (hb : bs.length = len) (hbase : base ≤ g) (hm : len + m ≤ 281474976710656)
    (h : w.heap[g]? = some (.cells (splice (zrow (len + m)) 0 (toV bs)).toArray e (0, 0))) : w.ownsRow base e 1 (.slice (some ⟨g, 0, none⟩) len (len + m)) len (toV bs) := by
  refine ⟨by rw [toV_length]; omega, .inr ⟨g, len + m, _, rfl, hbase, h, by omega, by unfold maxLen; omega, ?_, ?_⟩⟩
  · rw [List.size_toArray, length_splice _ _ _ (by rw [toV_length, zrow_length]; omega), zrow_length]
    omega
  · rw [splice_zero, Nat.mul_one]
    exact List.take_left' (by rw [toV_length]; omega)

theorem IsB.hpos {w : World} {a : Option Addr} {len : Nat} {bs : List UInt8} (hB : IsB w a len bs) (o : Obj) (x : Option Addr) : 0 < (toV bs).length → x = x ∧ ∃ ad, a = some ad ∧ ∀ j v, (toV bs)[j]? = some v → (w.alloc o).cell? (ad.add j) = some v := by
  intro hp
  rw [toV_length] at hp
  obtain ⟨ad, ha, _, hc⟩ := hB.cells hp
  refine ⟨rfl, ad, ha, fun j v hv => ?_⟩
  have hx := hc j v hv
  exact ((((Below.refl w.heap.size w).alloc (Nat.le_refl _) _).cell (p := ad.add j) (World.block_lt_of_cell? w _ hx))).trans hx

/-- The bytes of a number in so many bytes, the highest first. -/
def beB (k n : Nat) : List UInt8 := (List.range k).map fun i => UInt8.ofNat (n / 256 ^ (k - 1 - i))
theorem beB_length (k n : Nat) : (beB k n).length = k := by simp [beB]
theorem beB_take (k n j : Nat) (h : j < k) : (beB k n).take (j + 1) = (beB k n).take j ++ [UInt8.ofNat (n / 256 ^ (k - 1 - j))] := by
  rw [List.take_succ_eq_append_getElem (by rw [beB_length]; exact h)]
  simp [beB]

theorem put_row {w : World} {base g len j cap : Nat} {e : TypeId} {bs t t' : List UInt8} {x : UInt8} (h : w.ownsRow base e 1 (.slice (some ⟨g, 0, none⟩) (len + j + 1) cap) (len + j + 1) (toV (bs ++ t) ++ [.int .u8 (x.toNat : Int)])) (ht : t' = t ++ [x]) :
    w.ownsRow base e 1 (.slice (some ⟨g, 0, none⟩) (len + (j + 1)) cap) (len + (j + 1)) (toV (bs ++ t')) := by
  subst ht
  have e1 : toV (bs ++ (t ++ [x])) = toV (bs ++ t) ++ [.int .u8 (x.toNat : Int)] := by simp [toV]
  rw [e1]
  exact h

/-- '[]byte(s)': the new row reads as the string's bytes; nothing old has turned. -/
theorem isB_conv (w : World) (e : TypeId) (s : ByteArray) : IsB (Lib.bytesWorld w e s) (some ⟨w.heap.size, 0, none⟩) s.size s.data.toList := by
  refine ⟨by simp, fun _ => ⟨w.heap.size, 0, rfl, by rw [Lib.bytesWorld_size]; omega, fun j hj => ?_⟩⟩
  rw [Nat.zero_add, Lib.bytesWorld_cell w e s j hj]

theorem below_conv (w : World) (e : TypeId) (s : ByteArray) : Below w.heap.size w (Lib.bytesWorld w e s) :=
  ⟨rfl, rfl, rfl, by rw [Lib.bytesWorld_size]; omega, fun k hk => Lib.bytesWorld_at_old w e s k hk⟩

/-- 'string(b)' of a slice that reads as these bytes. -/
theorem run_toString {P : Program} (w : World) (src dst e : TypeId) (hs : P.underlying src = some (.slice e)) (he : P.underlying e = some (.int .u8)) (hd : P.underlying dst = some .string)
    (a : Option Addr) (len cap : Nat) (bs : List UInt8) (h : IsB w a len bs) : (convert src dst (.slice a len cap)).run P w = .ok (.string ⟨bs.toArray⟩) w := by
  obtain ⟨hl, hc⟩ := h
  cases a with
  | none =>
    have h0 : ¬ 0 < len := by
      intro hp
      obtain ⟨b, off, ha, _⟩ := hc hp
      simp at ha
    have h1 : bs = [] := List.eq_nil_of_length_eq_zero (by omega)
    subst h1
    exact run_convert_bytes_nil w src e hs he len cap dst hd
  | some ad =>
    subst hl
    refine run_convert_bytes_back w src dst e ad cap bs hs he hd fun j hj => ?_
    obtain ⟨b, off, ha, _, hcell⟩ := hc (by omega)
    obtain rfl := Option.some.inj ha
    rw [Addr.add_lit, hcell j hj]
    simp [List.getD, List.getElem?_eq_getElem hj]

/-- A cut of a slice reads as the cut of its bytes. -/
theorem IsB.cut {w : World} {b off len : Nat} {bs : List UInt8} (hb : bs.length = len) (hlt : b < w.heap.size) (hc : ∀ j, j < len → w.cell? ⟨b, off + j, none⟩ = some (.int .u8 ((bs.getD j 0).toNat : Int)))
    (p m : Nat) (h : p + m ≤ len) : IsB w (some ⟨b, off + p, none⟩) m ((bs.drop p).take m) := by
  refine ⟨by simp; omega, fun _ => ⟨b, off + p, rfl, hlt, fun j hj => ?_⟩⟩
  rw [Nat.add_assoc, hc (p + j) (by omega)]
  simp [List.getD, hj]

theorem IsB.none_left (w : World) (a : Option Addr) : IsB w a 0 [] := ⟨rfl, fun h => absurd h (by omega)⟩

/-- An owned row of bytes reads as these bytes. -/
theorem _root_.Go.World.ownsRow.isB {w : World} {base g n cap : Nat} {e : TypeId} {bs : List UInt8} (h : w.ownsRow base e 1 (.slice (some ⟨g, 0, none⟩) n cap) n (toV bs)) (hl : bs.length = n) : IsB w (some ⟨g, 0, none⟩) n bs := by
  refine ⟨hl, fun _ => ⟨g, 0, rfl, (h.lt g rfl).2, fun j hj => ?_⟩⟩
  rw [Nat.zero_add, h.cellAt j (by omega), toV_get bs j (by omega)]

/-- 'string([]byte{x})'. -/
theorem run_oneByte {P : Program} (w : World) (src dst e : TypeId) (hs : P.underlying src = some (.slice e)) (he : P.underlying e = some (.int .u8)) (hd : P.underlying dst = some .string) (x : Int) (y : UInt8) (hx : x = (y.toNat : Int)) :
    (convert src dst (.slice (some ⟨w.heap.size, 0, none⟩) 1 1)).run P (w.alloc (.cells #[.int .u8 x] e)) = .ok (.string ⟨#[y]⟩) (w.alloc (.cells #[.int .u8 x] e)) := by
  subst hx
  refine run_toString (w.alloc (.cells #[.int .u8 (y.toNat : Int)] e)) src dst e hs he hd (some ⟨w.heap.size, 0, none⟩) 1 1 [y] ⟨rfl, fun _ => ⟨w.heap.size, 0, rfl, by simp, fun j hj => ?_⟩⟩
  obtain rfl : j = 0 := by omega
  simp

/-- What 'Take' answers: the number and the error's number. -/
def takeS (bs : List UInt8) (p k : Int) : Int × Int :=
  if k < 1 ∨ 8 < k ∨ p < 0 then (0, 1)
  else if (bs.length : Int) - p < k then (0, 4)
  else (((beAt bs p.toNat k.toNat : Nat) : Int), 0)

theorem takeS_arg (bs : List UInt8) (p k : Int) (h : k < 1 ∨ 8 < k ∨ p < 0) : takeS bs p k = (0, 1) := by simp [takeS, h]
theorem takeS_short (bs : List UInt8) (p k : Int) (h : ¬ (k < 1 ∨ 8 < k ∨ p < 0)) (h2 : (bs.length : Int) - p < k) : takeS bs p k = (0, 4) := by
  unfold takeS; rw [if_neg h, if_pos h2]
theorem takeS_ok (bs : List UInt8) (p k : Int) (h : ¬ (k < 1 ∨ 8 < k ∨ p < 0)) (h2 : ¬ (bs.length : Int) - p < k) : takeS bs p k = (((beAt bs p.toNat k.toNat : Nat) : Int), 0) := by
  unfold takeS; rw [if_neg h, if_neg h2]


/-- What 'TakeText' answers: the text, the place behind it, the error's number. -/
def textS (bs : List UInt8) (p : Int) : List UInt8 × Int × Int :=
  if p < 0 then ([], 0, 1)
  else if (bs.length : Int) ≤ p then ([], 0, 4)
  else if (bs.length : Int) < p + 1 + ((bs.getD p.toNat 0).toNat : Int) then ([], 0, 4)
  else ((bs.drop (p.toNat + 1)).take (bs.getD p.toNat 0).toNat, p + 1 + ((bs.getD p.toNat 0).toNat : Int), 0)

theorem textS_arg (bs : List UInt8) (p : Int) (h : p < 0) : textS bs p = ([], 0, 1) := by simp [textS, h]
theorem textS_short (bs : List UInt8) (p : Int) (h : ¬ p < 0) (h2 : (bs.length : Int) ≤ p) : textS bs p = ([], 0, 4) := by
  unfold textS; rw [if_neg h, if_pos h2]
theorem textS_few (bs : List UInt8) (p m : Nat) (h2 : p < bs.length) (hm : (bs.getD p 0).toNat = m) (h3 : bs.length < p + 1 + m) : textS bs p = ([], 0, 4) := by
  unfold textS; rw [if_neg (by omega), if_neg (by omega), Int.toNat_natCast, hm, if_pos (by omega)]
theorem textS_ok (bs : List UInt8) (p m : Nat) (h2 : p < bs.length) (hm : (bs.getD p 0).toNat = m) (h3 : p + 1 + m ≤ bs.length) : textS bs p = ((bs.drop (p + 1)).take m, (p : Int) + 1 + (m : Int), 0) := by
  unfold textS; rw [if_neg (by omega), if_neg (by omega), Int.toNat_natCast, hm, if_neg (by omega)]

theorem extract_eq (s : ByteArray) (p m : Nat) (h : p + m ≤ s.size) : s.extract p (p + m) = ⟨((s.data.toList.drop p).take m).toArray⟩ := by
  apply ByteArray.ext
  rw [ByteArray.data_extract]
  apply Array.ext'
  rw [Array.toList_extract]
  simp [List.extract_eq_take_drop]


theorem beB_cons (k n : Nat) : beB (k + 1) n = UInt8.ofNat (n / 256 ^ k) :: beB k n := by
  apply List.ext_getElem
  · simp [beB]
  · intro i h1 h2
    cases i with
    | zero => simp [beB]
    | succ i =>
      simp only [beB, List.getElem_map, List.getElem_range, List.getElem_cons_succ]
      congr 3
      omega

theorem div_pow (n j : Nat) : n / 256 ^ j / 256 = n / 256 ^ (j + 1) := by rw [Nat.div_div_eq_div_mul, Nat.pow_succ]

theorem div_zero_iff (n k : Nat) : ((n / 256 ^ k : Nat) : Int) = 0 ↔ n < 256 ^ k := by
  have hp : 0 < 256 ^ k := Nat.pow_pos (by omega)
  have e := Nat.div_eq_zero_iff_lt (x := n) hp
  omega

/-- A number without its lowest bytes. -/
def sh (n j : Nat) : Nat := n / 256 ^ j
theorem sh_zero (n : Nat) : sh n 0 = n := by simp [sh]
theorem sh_succ (n j : Nat) : sh n j / 256 = sh n (j + 1) := div_pow n j
theorem sh_le (n j : Nat) : sh n j ≤ n := Nat.div_le_self _ _
theorem sh_test (n k : Nat) : (((sh n k : Nat) : Int) == 0) = decide (n < 256 ^ k) := by
  rw [Bool.eq_iff_iff]
  simp only [beq_iff_eq, decide_eq_true_eq]
  exact div_zero_iff n k

theorem toNat_ofNat (a : Nat) : (UInt8.ofNat a).toNat = a % 256 := by simp

theorem beB_low (k n : Nat) : beB k n = beB k (n % 256 ^ k) := by
  apply List.ext_getElem
  · simp [beB]
  · intro i h1 h2
    have hi : i < k := by simpa [beB] using h1
    simp only [beB, List.getElem_map, List.getElem_range]
    apply UInt8.toNat_inj.1
    rw [toNat_ofNat, toNat_ofNat]
    have e : 256 ^ k = 256 ^ (k - 1 - i) * (256 * 256 ^ i) := by
      rw [← Nat.pow_succ', ← Nat.pow_add]
      congr 1
      omega
    rw [e, Nat.mod_mul_right_div_self, Nat.mod_mul_right_mod]

theorem order_lex (q a b c d : Nat) (h1 : c < q) (h2 : d < q) : (a < b ∨ a = b ∧ c < d) ↔ q * a + c < q * b + d := by
  rcases Nat.lt_trichotomy a b with h | h | h
  · have e : q * (a + 1) ≤ q * b := Nat.mul_le_mul_left q h
    rw [Nat.mul_add] at e
    omega
  · subst h
    omega
  · have e : q * (b + 1) ≤ q * a := Nat.mul_le_mul_left q h
    rw [Nat.mul_add] at e
    omega

/-- Numbers of one width stand in the order of their bytes. -/
theorem less_beB : ∀ (k n m : Nat), n < 256 ^ k → m < 256 ^ k → Op.bytesLess (beB k n) (beB k m) = decide (n < m)
  | 0, n, m, hn, hm => by
    have h1 : n = 0 := by simpa using hn
    have h2 : m = 0 := by simpa using hm
    subst h1
    subst h2
    rfl
  | k + 1, n, m, hn, hm => by
    have hp : 0 < 256 ^ k := Nat.pow_pos (by omega)
    rw [beB_cons, beB_cons, beB_low k n, beB_low k m]
    have ih := less_beB k (n % 256 ^ k) (m % 256 ^ k) (Nat.mod_lt _ hp) (Nat.mod_lt _ hp)
    simp only [Op.bytesLess]
    rw [ih]
    have e1 := Nat.div_add_mod n (256 ^ k)
    have e2 := Nat.div_add_mod m (256 ^ k)
    have q1 : n / 256 ^ k < 256 := Nat.div_lt_of_lt_mul (by rw [Nat.pow_succ] at hn; exact hn)
    have q2 : m / 256 ^ k < 256 := Nat.div_lt_of_lt_mul (by rw [Nat.pow_succ] at hm; exact hm)
    have r1 := Nat.mod_lt n hp
    have r2 := Nat.mod_lt m hp
    generalize n / 256 ^ k = a at *
    generalize m / 256 ^ k = b at *
    generalize n % 256 ^ k = c at *
    generalize m % 256 ^ k = d at *
    generalize 256 ^ k = q at *
    rw [Bool.eq_iff_iff]
    simp only [Bool.or_eq_true, decide_eq_true_eq, Bool.and_eq_true, beq_iff_eq, UInt8.lt_iff_toNat_lt, ← UInt8.toNat_inj, toNat_ofNat]
    rw [Nat.mod_eq_of_lt q1, Nat.mod_eq_of_lt q2]
    subst e1
    subst e2
    exact order_lex q a b c d r1 r2


theorem mk_append (a b : List UInt8) : (⟨a.toArray⟩ : ByteArray) ++ ⟨b.toArray⟩ = ⟨(a ++ b).toArray⟩ := by
  rw [ByteArray.mk_append_mk]

theorem size_mk (l : List UInt8) : ByteArray.size ⟨l.toArray⟩ = l.length := by
  show l.toArray.size = l.length
  rw [List.size_toArray]

theorem str_cons (j n : Nat) : (⟨#[UInt8.ofNat (sh n j)]⟩ : ByteArray) ++ ⟨(beB j n).toArray⟩ = ⟨(beB (j + 1) n).toArray⟩ := by
  rw [beB_cons]
  exact mk_append [UInt8.ofNat (sh n j)] (beB j n)

theorem str_append (s : ByteArray) (b : List UInt8) : s ++ ⟨b.toArray⟩ = ⟨(s.data.toList ++ b).toArray⟩ := by
  have e : s = ⟨s.data.toList.toArray⟩ := by
    apply ByteArray.ext
    simp
  have h := mk_append s.data.toList b
  rw [← e] at h
  exact h


/-- A text's bytes: its length, and its own. -/
def textB (s : List UInt8) : List UInt8 := UInt8.ofNat s.length :: s
theorem textB_length (s : List UInt8) : (textB s).length = 1 + s.length := by simp [textB]; omega


/-- What is owned stays owned where nothing old has turned. -/
theorem ownsRow_below {w w' : World} {base n size : Nat} {e : TypeId} {v : Value} {xs : List Value} (h : w.ownsRow base e size v n xs) (hb : Below w.heap.size w w') : w'.ownsRow base e size v n xs := by
  refine ⟨h.1, ?_⟩
  rcases h.2 with hn | ⟨g, cap, cur, rfl, hbg, hg, rest⟩
  · exact .inl hn
  · exact .inr ⟨g, cap, cur, rfl, hbg, by rw [hb.block g (Array.getElem?_eq_some_iff.1 hg).1]; exact hg, rest⟩

theorem mk_self (s : ByteArray) : (⟨s.data.toList.toArray⟩ : ByteArray) = s := by
  apply ByteArray.ext
  simp

theorem data_length (s : ByteArray) : s.data.toList.length = s.size := by simp

/-- Whatever value owns a row of bytes: its shape, and that it reads as these bytes. -/
theorem shape_isB {w : World} {base n : Nat} {e : TypeId} {v : Value} {bs : List UInt8} (h : w.ownsRow base e 1 v n (toV bs)) : ∃ a cap, v = .slice a n cap ∧ n ≤ cap ∧ IsB w a n bs := by
  have hl : bs.length = n := by
    have := h.1
    rw [toV_length] at this
    omega
  rcases h.2 with ⟨rfl, rfl⟩ | ⟨g, cap, cur, rfl, _, _, hn, _⟩
  · exact ⟨none, 0, rfl, Nat.le_refl _, ⟨hl, fun h => absurd h (by omega)⟩⟩
  · exact ⟨_, cap, rfl, hn, World.ownsRow.isB h hl⟩

theorem ofNat_len (s : List UInt8) (h : s.length ≤ 255) : (UInt8.ofNat s.length).toNat = s.length := by
  rw [toNat_ofNat]
  omega

/-- A text that was put is taken again. -/
theorem textS_back (b s t : List UInt8) (h : s.length ≤ 255) : textS (b ++ textB s ++ t) (b.length : Int) = (s, (b.length : Int) + 1 + (s.length : Int), 0) := by
  have hg : ((b ++ textB s ++ t).getD b.length 0).toNat = s.length := by
    have e : (b ++ textB s ++ t).getD b.length 0 = UInt8.ofNat s.length := by simp [List.getD, textB]
    rw [e, ofNat_len s h]
  have hl : (b ++ textB s ++ t).length = b.length + (1 + s.length) + t.length := by
    rw [List.length_append, List.length_append, textB_length]
  rw [textS_ok _ b.length s.length (by omega) hg (by omega)]
  have e : ((b ++ textB s ++ t).drop (b.length + 1)).take s.length = s := by
    have e1 : b ++ textB s ++ t = (b ++ [UInt8.ofNat s.length]) ++ (s ++ t) := by simp [textB]
    rw [e1, List.drop_left' (by simp), List.take_left' rfl]
  rw [e]

theorem toV_str (bs : List UInt8) (s : ByteArray) : toV bs ++ Lib.strCells s = toV (bs ++ s.data.toList) := by simp [toV, Lib.strCells]


theorem be_cons (b : UInt8) (bs : List UInt8) : be (b :: bs) = b.toNat * 256 ^ bs.length + be bs := by
  have h : ∀ (l : List UInt8) (x : Nat), l.foldl (fun n b => n * 256 + b.toNat) x = x * 256 ^ l.length + be l := by
    intro l
    induction l with
    | nil => intro x; simp [be]
    | cons c l ih =>
      intro x
      have e : be (c :: l) = l.foldl (fun n b => n * 256 + b.toNat) (0 * 256 + c.toNat) := rfl
      rw [List.foldl_cons, ih, e, ih, List.length_cons, Nat.pow_succ, Nat.add_mul, Nat.zero_mul, Nat.zero_add, Nat.mul_assoc, Nat.mul_comm 256]
      omega
  have e : be (b :: bs) = bs.foldl (fun n b => n * 256 + b.toNat) (0 * 256 + b.toNat) := rfl
  rw [e, h]
  simp

/-- The bytes of a number spell it. -/
theorem be_beB : ∀ (k n : Nat), n < 256 ^ k → be (beB k n) = n
  | 0, n, h => by
    have h1 : n = 0 := by simpa using h
    subst h1
    rfl
  | k + 1, n, h => by
    have hp : 0 < 256 ^ k := Nat.pow_pos (by omega)
    have q1 : n / 256 ^ k < 256 := Nat.div_lt_of_lt_mul (by rw [Nat.pow_succ] at h; exact h)
    rw [beB_cons, be_cons, beB_length, toNat_ofNat, Nat.mod_eq_of_lt q1, beB_low k n, be_beB k _ (Nat.mod_lt _ hp), Nat.mul_comm]
    exact Nat.div_add_mod n (256 ^ k)

/-- What was put is taken again. -/
theorem takeS_back (b t : List UInt8) (k n : Nat) (h1 : 1 ≤ k) (h2 : k ≤ 8) (hn : n < 256 ^ k) : takeS (b ++ beB k n ++ t) (b.length : Int) (k : Int) = ((n : Int), 0) := by
  have hl : (b ++ beB k n ++ t).length = b.length + k + t.length := by rw [List.length_append, List.length_append, beB_length]
  rw [takeS_ok _ _ _ (by omega) (by omega), Int.toNat_natCast, Int.toNat_natCast]
  have e : beAt (b ++ beB k n ++ t) b.length k = n := by
    unfold beAt
    rw [List.append_assoc, List.drop_left' rfl, List.take_left' (beB_length k n), be_beB k n hn]
  rw [e]


/-- A new row of bytes, whatever its mark. -/
theorem isB_lit (w : World) (C : Array Value) (e : TypeId) (fr : Nat × Nat) (bs : List UInt8) (n : Nat) (hC : C.toList = toV bs) (hn : bs.length = n) : IsB (w.alloc (.cells C e fr)) (some ⟨w.heap.size, 0, none⟩) n bs := by
  refine ⟨hn, fun _ => ⟨w.heap.size, 0, rfl, by simp, fun j hj => ?_⟩⟩
  rw [Nat.zero_add, World.cell?_alloc_mark, ← Array.getElem?_toList, hC, toV_get bs j (by omega)]


theorem run_mkn {P : Program} (t e : TypeId) (ht : P.underlying t = some (.slice e)) (hinfo : (P.info? e).map (fun i => (i.zero, i.size, i.bytes)) = some (some (.int .u8 0), 1, 1)) (l : Nat) (h : l ≤ 281474976710656) (w : World) :
    (Instr.makeSlice t (.int .i64 (l : Int)) (.int .i64 (l : Int))).run P w = .ok (.slice (some ⟨w.heap.size, 0, none⟩) l l) (w.alloc (.cells (zrow l).toArray e)) := by
  have hr := run_mk t e ht hinfo l 0 (by omega) w
  simpa using hr


/-- A row that is owned and not empty: where it lies. -/
theorem own_slice {w : World} {base n size : Nat} {e : TypeId} {v : Value} {xs : List Value} (h : w.ownsRow base e size v n xs) (hn : 0 < n) : ∃ g cap, v = .slice (some ⟨g, 0, none⟩) n cap ∧ base ≤ g := by
  rcases h.2 with ⟨_, h0⟩ | ⟨g, cap, cur, hv, hb, _⟩
  · omega
  · exact ⟨g, cap, hv, hb⟩

end Go.Proofs.Ytfeghhgniahfkaa

/-
  Plain facts on the sum, of no program: the register's step is linear and loses nothing; bytes are bits, the lowest first; bits turned within 32 side by side are told.
-/
namespace Go.Proofs.Ytfeghhgniahfkaa
open Go.RowKit
set_option linter.unusedVariables false

theorem xlc (x y z : Nat) : x ^^^ (y ^^^ z) = y ^^^ (x ^^^ z) := by rw [← Nat.xor_assoc, Nat.xor_comm x y, Nat.xor_assoc]
theorem xz (a b : Nat) : a ^^^ b = 0 ↔ a = b := by
  constructor
  · intro h
    have h1 : a ^^^ b ^^^ b = 0 ^^^ b := by rw [h]
    rwa [Nat.xor_assoc, Nat.xor_self, Nat.xor_zero, Nat.zero_xor] at h1
  · intro h
    rw [h, Nat.xor_self]
theorem xm2 (a b : Nat) : (a ^^^ b) % 2 = (a + b) % 2 := by
  have h : (a ^^^ b) % 2 = 1 ↔ ¬ (a % 2 = 1 ↔ b % 2 = 1) := Nat.xor_mod_two_eq_one
  omega

/-- The polynomial, behind a name. -/
def poly : Nat := 3988292384
/-- All 32 bits. -/
def ones : Nat := 4294967295
theorem poly_lt : poly < 2 ^ 32 := by decide
theorem ones_lt : ones < 2 ^ 32 := by decide
theorem poly_ge : 2 ^ 31 ≤ poly := by decide

/-- One step of the register. -/
def stp (r : Nat) : Nat := if r % 2 = 1 then r / 2 ^^^ poly else r / 2

theorem stp_zero : stp 0 = 0 := rfl

theorem stp_lt (r : Nat) (h : r < 2 ^ 32) : stp r < 2 ^ 32 := by
  unfold stp
  split
  · exact Nat.xor_lt_two_pow (by omega) poly_lt
  · omega

theorem stp_xor (a b : Nat) : stp (a ^^^ b) = stp a ^^^ stp b := by
  unfold stp
  have h1 : (a ^^^ b) / 2 = a / 2 ^^^ b / 2 := Nat.xor_div_two
  have h2 : (a ^^^ b) % 2 = (a + b) % 2 := xm2 a b
  rw [h1]
  have c1 : ∀ x y z : Nat, x ^^^ (y ^^^ z) = y ^^^ (x ^^^ z) := xlc
  by_cases ha : a % 2 = 1
  · by_cases hb : b % 2 = 1
    · rw [if_pos ha, if_pos hb, if_neg (by omega)]
      rw [Nat.xor_assoc, c1 poly, Nat.xor_self, Nat.xor_zero]
    · rw [if_pos ha, if_neg hb, if_pos (by omega)]
      rw [Nat.xor_assoc, Nat.xor_assoc, Nat.xor_comm (b / 2)]
  · by_cases hb : b % 2 = 1
    · rw [if_neg ha, if_pos hb, if_pos (by omega), Nat.xor_assoc]
    · rw [if_neg ha, if_neg hb, if_neg (by omega)]

theorem stp_ker (r : Nat) (h : r < 2 ^ 32) (h0 : stp r = 0) : r = 0 := by
  unfold stp at h0
  split at h0
  · have h1 : r / 2 = poly := (xz _ _).1 h0
    have h2 := poly_ge
    omega
  · omega

/-- So many steps. -/
def stps : Nat → Nat → Nat
  | 0, r => r
  | n + 1, r => stps n (stp r)

theorem stps_zero (n : Nat) : stps n 0 = 0 := by
  induction n with
  | zero => rfl
  | succ n ih => rw [stps, stp_zero, ih]
theorem stps_lt : ∀ (n r : Nat), r < 2 ^ 32 → stps n r < 2 ^ 32
  | 0, _, h => h
  | n + 1, r, h => stps_lt n (stp r) (stp_lt r h)
theorem stps_xor : ∀ (n a b : Nat), stps n (a ^^^ b) = stps n a ^^^ stps n b
  | 0, _, _ => rfl
  | n + 1, a, b => by rw [stps, stps, stps, stp_xor, stps_xor n]
theorem stps_ker : ∀ (n r : Nat), r < 2 ^ 32 → stps n r = 0 → r = 0
  | 0, _, _, h => h
  | n + 1, r, h, h0 => stp_ker r h (stps_ker n (stp r) (stp_lt r h) h0)
theorem stps_inj (n a b : Nat) (ha : a < 2 ^ 32) (hb : b < 2 ^ 32) (h : stps n a = stps n b) : a = b := by
  have h1 : stps n (a ^^^ b) = 0 := by rw [stps_xor, h, Nat.xor_self]
  exact (xz _ _).1 (stps_ker n _ (Nat.xor_lt_two_pow ha hb) h1)
theorem stps_add : ∀ (m n r : Nat), stps (m + n) r = stps n (stps m r)
  | 0, n, r => by rw [Nat.zero_add]; rfl
  | m + 1, n, r => by
    have e : m + 1 + n = (m + n) + 1 := by omega
    rw [e, stps, stps, stps_add m n]
theorem stps_succ (n r : Nat) : stps (n + 1) r = stp (stps n r) := by
  rw [stps_add n 1 r]
  rfl

/-- The register behind one byte, and behind bytes. -/
def byteS (r : Nat) (b : UInt8) : Nat := stps 8 (r ^^^ b.toNat)
def crun (r : Nat) (bs : List UInt8) : Nat := bs.foldl byteS r
/-- The sum. -/
def crc (bs : List UInt8) : Nat := ones ^^^ crun ones bs
def crcMore (s : Nat) (bs : List UInt8) : Nat := ones ^^^ crun (ones ^^^ s) bs

theorem u8_lt32 (b : UInt8) : b.toNat < 2 ^ 32 := by have := b.toNat_lt; omega
theorem byteS_lt (r : Nat) (b : UInt8) (h : r < 2 ^ 32) : byteS r b < 2 ^ 32 := stps_lt 8 _ (Nat.xor_lt_two_pow h (u8_lt32 b))
theorem crun_lt : ∀ (bs : List UInt8) (r : Nat), r < 2 ^ 32 → crun r bs < 2 ^ 32
  | [], _, h => h
  | b :: bs, r, h => crun_lt bs (byteS r b) (byteS_lt r b h)
theorem crc_lt (bs : List UInt8) : crc bs < 2 ^ 32 := Nat.xor_lt_two_pow ones_lt (crun_lt bs ones ones_lt)
theorem crun_nil (r : Nat) : crun r [] = r := rfl
theorem crun_snoc (r : Nat) (bs : List UInt8) (b : UInt8) : crun r (bs ++ [b]) = byteS (crun r bs) b := by simp [crun, List.foldl_append]
theorem crun_append (r : Nat) (a b : List UInt8) : crun r (a ++ b) = crun (crun r a) b := by simp [crun, List.foldl_append]
theorem ones_ones (x : Nat) : ones ^^^ (ones ^^^ x) = x := by rw [← Nat.xor_assoc, Nat.xor_self, Nat.zero_xor]
theorem crc_more (a b : List UInt8) : crc (a ++ b) = crcMore (crc a) b := by
  unfold crc crcMore
  rw [ones_ones, crun_append]

/-- Byte for byte xor. -/
def xorL (a b : List UInt8) : List UInt8 := List.zipWith (· ^^^ ·) a b

theorem xor4 (r s x y : Nat) : (r ^^^ s) ^^^ (x ^^^ y) = (r ^^^ x) ^^^ (s ^^^ y) := by
  rw [Nat.xor_assoc, xlc s, ← Nat.xor_assoc]

theorem byteS_xor (r s : Nat) (x y : UInt8) : byteS (r ^^^ s) (x ^^^ y) = byteS r x ^^^ byteS s y := by
  unfold byteS
  rw [UInt8.toNat_xor, xor4, stps_xor]

theorem crun_xor : ∀ (a b : List UInt8) (r s : Nat), a.length = b.length → crun (r ^^^ s) (xorL a b) = crun r a ^^^ crun s b
  | [], [], _, _, _ => rfl
  | x :: a, y :: b, r, s, h => by
    have h1 : a.length = b.length := by simpa using h
    have e : xorL (x :: a) (y :: b) = (x ^^^ y) :: xorL a b := rfl
    have e1 : crun (r ^^^ s) ((x ^^^ y) :: xorL a b) = crun (byteS (r ^^^ s) (x ^^^ y)) (xorL a b) := rfl
    rw [e, e1, byteS_xor, crun_xor a b _ _ h1]
    rfl
  | [], _ :: _, _, _, h => by simp at h
  | _ :: _, [], _, _, h => by simp at h

theorem crc_linear (a b c : List UInt8) (h1 : b.length = a.length) (h2 : c.length = a.length) : crc a ^^^ crc b ^^^ crc c ^^^ crc (xorL (xorL a b) c) = 0 := by
  have e1 : ones = ones ^^^ ones ^^^ ones := by rw [Nat.xor_self, Nat.zero_xor]
  have hl : (xorL a b).length = c.length := by simp [xorL, h1, h2]
  have e2 : crun ones (xorL (xorL a b) c) = crun ones a ^^^ crun ones b ^^^ crun ones c := by
    have e3 : crun ones (xorL (xorL a b) c) = crun (ones ^^^ ones ^^^ ones) (xorL (xorL a b) c) := by rw [← e1]
    rw [e3, crun_xor _ _ _ _ hl, crun_xor _ _ _ _ h1.symm]
  unfold crc
  rw [e2]
  generalize crun ones a = x
  generalize crun ones b = y
  generalize crun ones c = z
  rw [xz]
  have e5 : ones ^^^ x ^^^ (ones ^^^ y) = x ^^^ y := by rw [xor4, Nat.xor_self, Nat.zero_xor]
  rw [e5]
  rw [xlc]


/-- A bit of bytes, counted from the lowest of the first on. -/
def bitAt (s : List UInt8) (j : Nat) : Bool := (s.getD (j / 8) 0).toNat.testBit (j % 8)
/-- The register behind one bit, and behind so many bits. -/
def bst (r : Nat) (b : Bool) : Nat := stp (r ^^^ b.toNat)
def bruns (r : Nat) (f : Nat → Bool) : Nat → Nat
  | 0 => r
  | n + 1 => bst (bruns r f n) (f n)

theorem stp_low (q c : Nat) : stp (q ^^^ c) = stp (q ^^^ (c % 2)) ^^^ (c / 2) := by
  have e1 : (q ^^^ c) / 2 = q / 2 ^^^ c / 2 := Nat.xor_div_two
  have e2 : (q ^^^ (c % 2)) / 2 = q / 2 ^^^ (c % 2) / 2 := Nat.xor_div_two
  have e3 : (c % 2) / 2 = 0 := by omega
  have p1 := xm2 q c
  have p2 := xm2 q (c % 2)
  unfold stp
  rw [e1, e2, e3, Nat.xor_zero]
  by_cases h : (q ^^^ c) % 2 = 1
  · rw [if_pos h, if_pos (by omega), Nat.xor_assoc, Nat.xor_assoc, Nat.xor_comm poly]
  · rw [if_neg h, if_neg (by omega)]

theorem bit_mod (c i : Nat) : (c.testBit i).toNat = c / 2 ^ i % 2 := by
  rw [Nat.testBit_eq_decide_div_mod_eq]
  have h : c / 2 ^ i % 2 = 0 ∨ c / 2 ^ i % 2 = 1 := by omega
  rcases h with h | h <;> simp [h]

/-- Bit by bit: so many steps over a number that is xored in at once. -/
theorem bits_at (r : Nat) (f : Nat → Bool) (n c : Nat) : ∀ (i : Nat), (∀ j, j < i → f (n + j) = c.testBit j) → stps i (bruns r f n ^^^ c) = bruns r f (n + i) ^^^ (c / 2 ^ i)
  | 0, _ => by simp [stps]
  | i + 1, h => by
    rw [stps_succ, bits_at r f n c i (fun j hj => h j (by omega)), stp_low]
    have e : bruns r f (n + (i + 1)) = bst (bruns r f (n + i)) (f (n + i)) := rfl
    rw [e, h i (by omega), bst, bit_mod, Nat.div_div_eq_div_mul, ← Nat.pow_succ]

theorem crun_bits (r : Nat) (s : List UInt8) : ∀ (k : Nat), k ≤ s.length → crun r (s.take k) = bruns r (bitAt s) (8 * k)
  | 0, _ => by simp [crun, bruns]
  | k + 1, h => by
    have hk : k < s.length := h
    rw [List.take_succ_eq_append_getElem hk, crun_snoc, crun_bits r s k (by omega), byteS]
    have hb := bits_at r (bitAt s) (8 * k) s[k].toNat 8 (fun j hj => by
      have e1 : (8 * k + j) / 8 = k := by omega
      have e2 : (8 * k + j) % 8 = j := by omega
      simp [bitAt, e1, e2, List.getD, List.getElem?_eq_getElem hk])
    have e3 : s[k].toNat / 2 ^ 8 = 0 := by have := s[k].toNat_lt; omega
    rw [e3, Nat.xor_zero] at hb
    exact hb

theorem crun_bruns (r : Nat) (s : List UInt8) : crun r s = bruns r (bitAt s) (8 * s.length) := by
  have h := crun_bits r s s.length (Nat.le_refl _)
  rwa [List.take_length] at h

theorem bruns_congr (r : Nat) (f g : Nat → Bool) : ∀ (n : Nat), (∀ j, j < n → f j = g j) → bruns r f n = bruns r g n
  | 0, _ => rfl
  | n + 1, h => by rw [bruns, bruns, bruns_congr r f g n (fun j hj => h j (by omega)), h n (by omega)]

theorem bool_xor (a b : Bool) : (a ^^ b).toNat = a.toNat ^^^ b.toNat := by cases a <;> cases b <;> rfl

theorem bruns_xor (r s : Nat) (f g : Nat → Bool) : ∀ (n : Nat), bruns (r ^^^ s) (fun j => f j ^^ g j) n = bruns r f n ^^^ bruns s g n
  | 0 => rfl
  | n + 1 => by rw [bruns, bruns, bruns, bruns_xor r s f g n, bst, bst, bst, bool_xor, xor4, stp_xor]

/-- Bits within 32 side by side. -/
def win (k t : Nat) (j : Nat) : Bool := decide (k ≤ j) && decide (j < k + 32) && t.testBit (j - k)

theorem win_ahead (k t : Nat) : ∀ (n : Nat), n ≤ k → bruns 0 (win k t) n = 0
  | 0, _ => rfl
  | n + 1, h => by
    have e : win k t n = false := by simp [win]; omega
    rw [bruns, win_ahead k t n (by omega), e]
    rfl

theorem win_behind (k t : Nat) : ∀ (m : Nat), bruns 0 (win k t) (k + 32 + m) = stps m (bruns 0 (win k t) (k + 32))
  | 0 => rfl
  | m + 1 => by
    have e : win k t (k + 32 + m) = false := by simp [win]; omega
    have e2 : bruns 0 (win k t) (k + 32 + (m + 1)) = bst (bruns 0 (win k t) (k + 32 + m)) (win k t (k + 32 + m)) := rfl
    rw [e2, e, win_behind k t m, stps_succ, bst]
    simp

theorem win_lt (k t : Nat) : ∀ (n : Nat), bruns 0 (win k t) n < 2 ^ 32
  | 0 => by rw [bruns]; omega
  | n + 1 => by
    rw [bruns, bst]
    refine stp_lt _ (Nat.xor_lt_two_pow (win_lt k t n) ?_)
    have := Bool.toNat_lt (win k t n)
    omega

theorem win_told (k t n : Nat) (ht : t < 2 ^ 32) (h0 : t ≠ 0) (hn : k + 32 ≤ n) : bruns 0 (win k t) n ≠ 0 := by
  have hb := bits_at 0 (win k t) k t 32 (fun j hj => by
    have e : k + j - k = j := by omega
    simp [win, hj])
  rw [win_ahead k t k (Nat.le_refl _), Nat.zero_xor, Nat.div_eq_of_lt ht, Nat.xor_zero] at hb
  intro h
  obtain ⟨m, rfl⟩ := Nat.le.dest hn
  rw [win_behind] at h
  have h1 := stps_ker m _ (win_lt k t _) h
  rw [← hb] at h1
  exact h0 (stps_ker 32 t ht h1)

/-- Bits turned within 32 side by side turn the register. -/
theorem turned (r : Nat) (s s' : List UInt8) (k t : Nat) (ht : t < 2 ^ 32) (h0 : t ≠ 0) (hl : s'.length = s.length) (hk : k + 32 ≤ 8 * s.length)
    (hb : ∀ j, j < 8 * s.length → bitAt s' j = (bitAt s j ^^ win k t j)) : crun r s' ≠ crun r s := by
  intro h
  rw [crun_bruns, crun_bruns, hl, bruns_congr r (bitAt s') (fun j => bitAt s j ^^ win k t j) _ hb] at h
  have e := bruns_xor r 0 (bitAt s) (win k t) (8 * s.length)
  rw [Nat.xor_zero] at e
  rw [e] at h
  have h2 : bruns 0 (win k t) (8 * s.length) = 0 := by
    have h3 : bruns r (bitAt s) (8 * s.length) ^^^ (bruns r (bitAt s) (8 * s.length) ^^^ bruns 0 (win k t) (8 * s.length)) = bruns r (bitAt s) (8 * s.length) ^^^ bruns r (bitAt s) (8 * s.length) := by rw [h]
    rwa [← Nat.xor_assoc, Nat.xor_self, Nat.zero_xor] at h3
  exact win_told k t _ ht h0 hk h2

/-- The number whose bytes these are, the lowest first. -/
def leN : List UInt8 → Nat
  | [] => 0
  | b :: t => b.toNat + 256 * leN t
def leB (x : Nat) : List UInt8 := [UInt8.ofNat x, UInt8.ofNat (x / 256), UInt8.ofNat (x / 65536), UInt8.ofNat (x / 16777216)]
theorem leB_length (x : Nat) : (leB x).length = 4 := rfl
theorem leN_leB (x : Nat) (h : x < 2 ^ 32) : leN (leB x) = x := by
  simp only [leB, leN, UInt8.toNat_ofNat']
  omega
theorem leN_lt : ∀ (t : List UInt8), leN t < 256 ^ t.length
  | [] => by simp [leN]
  | b :: t => by
    have := leN_lt t
    have hb := b.toNat_lt
    rw [List.length_cons, Nat.pow_succ, leN]
    omega

theorem stps_double : ∀ (n x : Nat), stps n (2 ^ n * x) = x
  | 0, x => by simp [stps]
  | n + 1, x => by
    have e : stp (2 ^ (n + 1) * x) = 2 ^ n * x := by
      have e2 : 2 ^ (n + 1) * x = 2 * (2 ^ n * x) := by rw [Nat.pow_succ, Nat.mul_comm (2 ^ n) 2, Nat.mul_assoc]
      rw [e2, stp, if_neg (by omega)]
      omega
    rw [stps, e, stps_double n x]

theorem add_xor (b y : Nat) (h : b < 256) : b + 256 * y = b ^^^ (256 * y) := by
  apply Nat.eq_of_testBit_eq
  intro i
  have e1 : b + 256 * y = 2 ^ 8 * y + b := by omega
  have e2 : 256 * y = 2 ^ 8 * y := by omega
  rw [e1, Nat.testBit_two_pow_mul_add y (show b < 2 ^ 8 by omega), e2, Nat.testBit_xor, Nat.testBit_two_pow_mul]
  by_cases hi : i < 8
  · have h8 : ¬ i ≥ 8 := by omega
    simp [hi, h8]
  · have h8 : i ≥ 8 := by omega
    have hb : b.testBit i = false := Nat.testBit_lt_two_pow (Nat.lt_of_lt_of_le (show b < 2 ^ 8 by omega) (Nat.pow_le_pow_right (by omega) h8))
    simp [hi, h8, hb]

theorem crun_le : ∀ (t : List UInt8) (r : Nat), crun r t = stps (8 * t.length) (r ^^^ leN t)
  | [], r => by simp [crun, leN, stps]
  | b :: t, r => by
    have e : crun r (b :: t) = crun (byteS r b) t := rfl
    have e1 : 8 * (b :: t).length = 8 + 8 * t.length := by rw [List.length_cons]; omega
    have e2 : stps 8 (256 * leN t) = leN t := stps_double 8 (leN t)
    have e3 : stps 8 (r ^^^ b.toNat ^^^ 256 * leN t) = stps 8 (r ^^^ b.toNat) ^^^ leN t := by rw [stps_xor 8 (r ^^^ b.toNat), e2]
    rw [e, crun_le t, byteS, e1, stps_add, leN, add_xor _ _ b.toNat_lt, ← Nat.xor_assoc, e3]

/-- What all sealed bytes leave in the register. -/
def rest : Nat := stps 32 ones

theorem sealed_iff (b t : List UInt8) (h : t.length = 4) : leN t = crc b ↔ crun ones (b ++ t) = rest := by
  have h32 : leN t < 2 ^ 32 := by
    have := leN_lt t
    rw [h] at this
    exact this
  have hc := crun_lt b ones ones_lt
  rw [crun_append, crun_le t, h, rest]
  constructor
  · intro e
    rw [e, crc, xlc, Nat.xor_self, Nat.xor_zero]
  · intro e
    have e1 := stps_inj 32 _ _ (Nat.xor_lt_two_pow hc h32) ones_lt e
    generalize hx : crun ones b = x at *
    rw [crc, hx, ← e1, Nat.xor_comm x, Nat.xor_assoc, Nat.xor_self, Nat.xor_zero]

theorem sealed (b : List UInt8) : crun ones (b ++ leB (crc b)) = rest := (sealed_iff b _ (leB_length _)).1 (leN_leB _ (crc_lt b))


theorem bst_if (q : Nat) (b : Bool) : bst q b = if q % 2 = b.toNat then q / 2 else q / 2 ^^^ poly := by
  have e1 : (q ^^^ b.toNat) / 2 = q / 2 ^^^ b.toNat / 2 := Nat.xor_div_two
  have e2 : b.toNat / 2 = 0 := by cases b <;> rfl
  have e3 := xm2 q b.toNat
  have e4 : b.toNat < 2 := Bool.toNat_lt b
  unfold bst stp
  rw [e1, e2, Nat.xor_zero]
  by_cases h : q % 2 = b.toNat
  · rw [if_pos h, if_neg (by omega)]
  · rw [if_neg h, if_pos (by omega)]

theorem bruns_lt (r : Nat) (f : Nat → Bool) (h : r < 2 ^ 32) : ∀ (n : Nat), bruns r f n < 2 ^ 32
  | 0 => h
  | n + 1 => by
    rw [bruns, bst]
    refine stp_lt _ (Nat.xor_lt_two_pow (bruns_lt r f h n) ?_)
    have := Bool.toNat_lt (f n)
    omega


theorem ones_sub (x : Nat) (h : x < 2 ^ 32) : 4294967295 - x = ones ^^^ x := by
  have e1 : 4294967295 - x = 2 ^ 32 - (x + 1) := by omega
  have e2 : ones = 2 ^ 32 - (0 + 1) := rfl
  rw [e1, e2]
  apply Nat.eq_of_testBit_eq
  intro i
  rw [Nat.testBit_xor, Nat.testBit_two_pow_sub_succ h, Nat.testBit_two_pow_sub_succ (by omega)]
  by_cases hi : i < 32
  · simp [hi]
  · have hb : x.testBit i = false := Nat.testBit_lt_two_pow (Nat.lt_of_lt_of_le h (Nat.pow_le_pow_right (by omega) (by omega)))
    simp [hi, hb]

theorem ones_subI (x : Nat) (h : x < 2 ^ 32) : (4294967295 : Int) - (x : Int) = ((ones ^^^ x : Nat) : Int) := by
  rw [← ones_sub x h]
  omega


theorem leB_leN : ∀ (t : List UInt8), t.length = 4 → leB (leN t) = t
  | [a, b, c, d], _ => by
    have ha := a.toNat_lt
    have hb := b.toNat_lt
    have hc := c.toNat_lt
    have hd := d.toNat_lt
    have e : ∀ (x : UInt8) (n : Nat), n % 256 = x.toNat → UInt8.ofNat n = x := by
      intro x n h
      apply UInt8.toNat_inj.1
      simp [h]
    simp only [leN, leB]
    rw [e a _ (by omega), e b _ (by omega), e c _ (by omega), e d _ (by omega)]
  | [], h => by simp at h
  | [_], h => by simp at h
  | [_, _], h => by simp at h
  | [_, _, _], h => by simp at h
  | _ :: _ :: _ :: _ :: _ :: _, h => by simp at h

/-- What 'Open' answers: the bytes, and the error's number. -/
def openS (bs : List UInt8) : List UInt8 × Int :=
  if bs.length < 4 then ([], 4)
  else if leN (bs.drop (bs.length - 4)) = crc (bs.take (bs.length - 4)) then (bs.take (bs.length - 4), 0)
  else ([], 3)
theorem openS_short (bs : List UInt8) (h : bs.length < 4) : openS bs = ([], 4) := by unfold openS; rw [if_pos h]
theorem openS_ok (bs : List UInt8) (h : ¬ bs.length < 4) (h2 : leN (bs.drop (bs.length - 4)) = crc (bs.take (bs.length - 4))) : openS bs = (bs.take (bs.length - 4), 0) := by unfold openS; rw [if_neg h, if_pos h2]
theorem openS_no (bs : List UInt8) (h : ¬ bs.length < 4) (h2 : ¬ leN (bs.drop (bs.length - 4)) = crc (bs.take (bs.length - 4))) : openS bs = ([], 3) := by unfold openS; rw [if_neg h, if_neg h2]

/-- Sealed bytes, said in two ways. -/
theorem seal_eq_iff (bs : List UInt8) (h : ¬ bs.length < 4) : bs.take (bs.length - 4) ++ leB (crc (bs.take (bs.length - 4))) = bs ↔ leN (bs.drop (bs.length - 4)) = crc (bs.take (bs.length - 4)) := by
  have hd : (bs.drop (bs.length - 4)).length = 4 := by simp; omega
  constructor
  · intro e
    have e1 := List.take_append_drop (bs.length - 4) bs
    have e2 : leB (crc (bs.take (bs.length - 4))) = bs.drop (bs.length - 4) := List.append_cancel_left (e.trans e1.symm)
    rw [← e2, leN_leB _ (crc_lt _)]
  · intro e
    rw [← e, leB_leN _ hd, List.take_append_drop]

theorem openS_seal (b : List UInt8) : openS (b ++ leB (crc b)) = (b, 0) := by
  have hl : (b ++ leB (crc b)).length = b.length + 4 := by rw [List.length_append, leB_length]
  have e1 : (b ++ leB (crc b)).length - 4 = b.length := by omega
  have e2 : (b ++ leB (crc b)).take b.length = b := List.take_left' rfl
  have e3 : (b ++ leB (crc b)).drop b.length = leB (crc b) := List.drop_left' rfl
  rw [openS_ok _ (by omega) (by rw [e1, e2, e3, leN_leB _ (crc_lt b)]), e1, e2]

/-- Sealed bytes of which bits within 32 side by side are turned aren't opened. -/
theorem openS_turned (b s' : List UInt8) (k t : Nat) (ht : t < 2 ^ 32) (h0 : t ≠ 0) (hl : s'.length = b.length + 4) (hk : k + 32 ≤ 8 * (b.length + 4))
    (hb : ∀ j, j < 8 * (b.length + 4) → bitAt s' j = (bitAt (b ++ leB (crc b)) j ^^ win k t j)) : openS s' = ([], 3) := by
  have hl2 : (b ++ leB (crc b)).length = b.length + 4 := by rw [List.length_append, leB_length]
  refine openS_no s' (by omega) fun e => ?_
  have hd : (s'.drop (s'.length - 4)).length = 4 := by simp; omega
  have h1 := (sealed_iff _ _ hd).1 e
  rw [List.take_append_drop] at h1
  have h2 := turned ones (b ++ leB (crc b)) s' k t ht h0 (by omega) (by omega) (by rw [hl2]; exact hb)
  rw [h1, sealed b] at h2
  exact h2 rfl

theorem leB_take (x j : Nat) (h : j < 4) : (leB x).take (j + 1) = (leB x).take j ++ [UInt8.ofNat (x / 256 ^ j)] := by
  match j, h with
  | 0, _ => simp [leB]
  | 1, _ => simp [leB]
  | 2, _ => simp [leB]
  | 3, _ => simp [leB]


/-- A row of noughts that is filled from its head on. -/
def xrow (X : List UInt8) (n j : Nat) : List UInt8 := X.take j ++ List.replicate (n - j) 0
theorem xrow_length (X : List UInt8) (n j : Nat) (hX : X.length = n) (hj : j ≤ n) : (xrow X n j).length = n := by simp [xrow]; omega
theorem xrow_zero (X : List UInt8) (n : Nat) : toV (xrow X n 0) = zrow n := by simp [xrow, toV, zrow]
theorem xrow_full (X : List UInt8) (n : Nat) (hX : X.length = n) : xrow X n n = X := by
  subst hX
  simp [xrow]
theorem xrow_step (X : List UInt8) (n j : Nat) (hX : X.length = n) (hj : j < n) : (toV (xrow X n j)).set j (.int .u8 ((X.getD j 0).toNat : Int)) = toV (xrow X n (j + 1)) := by
  have e1 : n - j = (n - (j + 1)) + 1 := by omega
  have e2 : xrow X n (j + 1) = X.take j ++ X.getD j 0 :: List.replicate (n - (j + 1)) 0 := by
    have e0 : X.getD j 0 = X[j]'(by omega) := by simp [List.getD, List.getElem?_eq_getElem (show j < X.length by omega)]
    rw [xrow, List.take_succ_eq_append_getElem (show j < X.length by omega), List.append_assoc, e0]
    rfl
  rw [e2, xrow, e1, List.replicate_succ, toV_append, toV_append, List.set_append_right _ _ (by rw [toV_length, List.length_take]; omega)]
  have e3 : j - (toV (X.take j)).length = 0 := by rw [toV_length, List.length_take]; omega
  rw [e3]
  rfl


/-- Bytes of which some bits from a place on are turned. -/
def fl (S : List UInt8) (k t : Nat) : Nat → List UInt8
  | 0 => S
  | i + 1 => if t.testBit i then (fl S k t i).set ((k + i) / 8) ((fl S k t i).getD ((k + i) / 8) 0 ^^^ UInt8.ofNat (2 ^ ((k + i) % 8))) else fl S k t i
theorem fl_length (S : List UInt8) (k t : Nat) : ∀ (i : Nat), (fl S k t i).length = S.length
  | 0 => rfl
  | i + 1 => by
    rw [fl]
    split
    · rw [List.length_set, fl_length S k t i]
    · exact fl_length S k t i

theorem bitAt_set (L : List UInt8) (q r j : Nat) (hq : q < L.length) (hr : r < 8) (hj : j / 8 < L.length) :
    bitAt (L.set q (L.getD q 0 ^^^ UInt8.ofNat (2 ^ r))) j = (bitAt L j ^^ decide (j = 8 * q + r)) := by
  have hp : 2 ^ r < 256 := Nat.pow_lt_pow_right (a := 2) (m := r) (n := 8) (by omega) hr
  have e : (UInt8.ofNat (2 ^ r)).toNat = 2 ^ r := by rw [toNat_ofNat, Nat.mod_eq_of_lt hp]
  unfold bitAt
  by_cases hjq : j / 8 = q
  · have e1 : (L.set q (L.getD q 0 ^^^ UInt8.ofNat (2 ^ r))).getD (j / 8) 0 = L.getD q 0 ^^^ UInt8.ofNat (2 ^ r) := by
      rw [hjq]
      simp [List.getD, hq]
    rw [e1, UInt8.toNat_xor, Nat.testBit_xor, e, hjq, Nat.testBit_two_pow]
    congr 1
    rw [Bool.eq_iff_iff]
    simp only [decide_eq_true_eq]
    omega
  · have e1 : (L.set q (L.getD q 0 ^^^ UInt8.ofNat (2 ^ r))).getD (j / 8) 0 = L.getD (j / 8) 0 := by
      simp [List.getD, Ne.symm hjq]
    have e2 : decide (j = 8 * q + r) = false := by
      rw [decide_eq_false_iff_not]
      omega
    rw [e1, e2, Bool.xor_false]

theorem fl_bits (S : List UInt8) (k t : Nat) : ∀ (i : Nat), k + i ≤ 8 * S.length → ∀ j, j < 8 * S.length → bitAt (fl S k t i) j = (bitAt S j ^^ (decide (k ≤ j) && decide (j < k + i) && t.testBit (j - k)))
  | 0, _, j, _ => by
    have e : (decide (k ≤ j) && decide (j < k + 0) && t.testBit (j - k)) = false := by
      by_cases h : k ≤ j
      · have h2 : decide (j < k + 0) = false := by rw [decide_eq_false_iff_not]; omega
        rw [h2, Bool.and_false, Bool.false_and]
      · simp [h]
    rw [e, Bool.xor_false]
    rfl
  | i + 1, hi, j, hj => by
    have ih := fl_bits S k t i (by omega) j hj
    have hl := fl_length S k t i
    rw [fl]
    by_cases ht : t.testBit i = true
    · rw [if_pos ht, bitAt_set _ _ _ _ (by rw [hl]; omega) (by omega) (by rw [hl]; omega), ih]
      by_cases hji : j = k + i
      · have e1 : decide (j = 8 * ((k + i) / 8) + (k + i) % 8) = true := by rw [decide_eq_true_eq]; omega
        have e2 : ¬ j < k + i := by omega
        have e3 : k ≤ j := by omega
        have e4 : j < k + (i + 1) := by omega
        have e5 : j - k = i := by omega
        rw [e1, e5, ht]
        simp [e2, e3, e4]
      · have e1 : decide (j = 8 * ((k + i) / 8) + (k + i) % 8) = false := by rw [decide_eq_false_iff_not]; omega
        have e2 : (j < k + (i + 1)) ↔ (j < k + i) := by omega
        rw [e1, Bool.xor_false]
        simp only [e2]
    · rw [if_neg ht, ih]
      by_cases hji : j = k + i
      · have e5 : j - k = i := by omega
        have e6 : t.testBit i = false := by simpa using ht
        rw [e5, e6, Bool.and_false, Bool.and_false]
      · have e2 : (j < k + (i + 1)) ↔ (j < k + i) := by omega
        simp only [e2]

theorem leN_append : ∀ (a b : List UInt8), leN (a ++ b) = leN a + 256 ^ a.length * leN b
  | [], b => by simp [leN]
  | x :: a, b => by
    have e : leN (x :: a ++ b) = x.toNat + 256 * leN (a ++ b) := rfl
    rw [e, leN_append a b, leN, List.length_cons, Nat.pow_succ, Nat.mul_comm (256 ^ a.length) 256, Nat.mul_add, Nat.mul_assoc, Nat.add_assoc]

theorem leN_take (bs : List UInt8) (j : Nat) (h : j < bs.length) : leN (bs.take (j + 1)) = leN (bs.take j) + (bs.getD j 0).toNat * 256 ^ j := by
  rw [List.take_succ_eq_append_getElem h, leN_append, List.length_take, Nat.min_eq_left (by omega), Nat.mul_comm]
  simp [List.getD, List.getElem?_eq_getElem h, leN]
end Go.Proofs.Ytfeghhgniahfkaa

/-
  Plain facts on pages and their images, of no program: what a page's image is; that it tells its page; what its bytes answer.
-/
namespace Go.Proofs.Ytfeghhgniahfkaa
open Go.RowKit
set_option linter.unusedVariables false

/-- A page: its number's stamp, and eight cells (what the functions say beyond the eighth plays no part). -/
structure Pg where
  l : Nat
  u : Nat → Bool
  s : Nat → ByteArray

def Pg.zero : Pg := ⟨0, fun _ => false, fun _ => ⟨#[]⟩⟩

/-- The page's cells in memory. -/
def pgA (p : Pg) : Array Value := #[.int .u64 p.l, .bool (p.u 0), .string (p.s 0), .bool (p.u 1), .string (p.s 1), .bool (p.u 2), .string (p.s 2), .bool (p.u 3), .string (p.s 3), .bool (p.u 4), .string (p.s 4), .bool (p.u 5), .string (p.s 5), .bool (p.u 6), .string (p.s 6), .bool (p.u 7), .string (p.s 7)]

/-- The same page. -/
abbrev Pg.same (p q : Pg) : Prop := p.l = q.l ∧ ∀ i, i < 8 → p.u i = q.u i ∧ p.s i = q.s i

theorem lt8 {i : Nat} (h : i < 8) : i = 0 ∨ i = 1 ∨ i = 2 ∨ i = 3 ∨ i = 4 ∨ i = 5 ∨ i = 6 ∨ i = 7 := by omega

theorem Pg.same.symm {p q : Pg} (h : p.same q) : q.same p := ⟨h.1.symm, fun i hi => ⟨(h.2 i hi).1.symm, (h.2 i hi).2.symm⟩⟩
theorem Pg.same.trans {p q r : Pg} (h : p.same q) (g : q.same r) : p.same r := ⟨h.1.trans g.1, fun i hi => ⟨(h.2 i hi).1.trans (g.2 i hi).1, (h.2 i hi).2.trans (g.2 i hi).2⟩⟩
theorem Pg.same.refl (p : Pg) : p.same p := ⟨rfl, fun _ _ => ⟨rfl, rfl⟩⟩

theorem same_pgA {p q : Pg} (h : p.same q) : pgA p = pgA q := by
  have h0 := h.2 0 (by omega)
  have h1 := h.2 1 (by omega)
  have h2 := h.2 2 (by omega)
  have h3 := h.2 3 (by omega)
  have h4 := h.2 4 (by omega)
  have h5 := h.2 5 (by omega)
  have h6 := h.2 6 (by omega)
  have h7 := h.2 7 (by omega)
  unfold pgA
  rw [h.1, h0.1, h0.2, h1.1, h1.2, h2.1, h2.2, h3.1, h3.2, h4.1, h4.2, h5.1, h5.2, h6.1, h6.2, h7.1, h7.2]

theorem pgA_used (p : Pg) (i : Nat) (h : i < 8) : (pgA p)[1 + i * 2]? = some (.bool (p.u i)) := by
  rcases lt8 h with rfl | rfl | rfl | rfl | rfl | rfl | rfl | rfl <;> rfl
theorem pgA_val (p : Pg) (i : Nat) (h : i < 8) : (pgA p)[1 + i * 2 + 1]? = some (.string (p.s i)) := by
  rcases lt8 h with rfl | rfl | rfl | rfl | rfl | rfl | rfl | rfl <;> rfl

theorem pgA_same {p q : Pg} (h : pgA p = pgA q) : p.same q := by
  have hl : (pgA p)[0]? = (pgA q)[0]? := by rw [h]
  have hl2 : some (Value.int .u64 (p.l : Int)) = some (Value.int .u64 (q.l : Int)) := hl
  refine ⟨?_, fun i hi => ⟨?_, ?_⟩⟩
  · injection hl2 with h1
    injection h1 with h2 h3
    omega
  · have h1 := pgA_used p i hi
    rw [h, pgA_used q i hi] at h1
    injection h1 with h1
    injection h1 with h1
    exact h1.symm
  · have h1 := pgA_val p i hi
    rw [h, pgA_val q i hi] at h1
    injection h1 with h1
    injection h1 with h1
    exact h1.symm

/-- A cell that can be; a page that can be. -/
abbrev cellOk (u : Bool) (s : ByteArray) : Prop := s.size ≤ 20 ∧ (u = false → s.size = 0)
def maxP : Nat := 4611686018427387904
abbrev Pg.right (p : Pg) : Prop := p.l ≤ maxP ∧ ∀ i, i < 8 → cellOk (p.u i) (p.s i)

theorem Pg.same.right {p q : Pg} (h : p.same q) (hp : p.right) : q.right := by
  refine ⟨by rw [← h.1]; exact hp.1, fun i hi => ?_⟩
  have h1 := h.2 i hi
  rw [← h1.1, ← h1.2]
  exact hp.2 i hi

/-- A page whose numbers and texts a machine can have. -/
def Pg.fits (p : Pg) : Prop := p.l < 18446744073709551616 ∧ ∀ i, i < 8 → (p.s i).size ≤ maxLen

theorem Pg.right.fits {p : Pg} (h : p.right) : p.fits := by
  have h1 := h.1
  unfold maxP at h1
  refine ⟨by omega, fun i hi => ?_⟩
  have h2 := (h.2 i hi).1
  unfold maxLen
  omega

/-- What stands for a cell; the cells' bytes; the values. -/
def lenB (u : Bool) (s : ByteArray) : UInt8 := if u then UInt8.ofNat s.size else 255
def lensB (p : Pg) (k : Nat) : List UInt8 := (List.range k).map fun i => lenB (p.u i) (p.s i)
def valB (u : Bool) (s : ByteArray) : List UInt8 := if u then s.data.toList else []
def valsB (p : Pg) (k : Nat) : List UInt8 := (List.range k).flatMap fun i => valB (p.u i) (p.s i)

theorem lensB_succ (p : Pg) (k : Nat) : lensB p (k + 1) = lensB p k ++ [lenB (p.u k) (p.s k)] := by simp [lensB, List.range_succ]
theorem valsB_succ (p : Pg) (k : Nat) : valsB p (k + 1) = valsB p k ++ valB (p.u k) (p.s k) := by simp [valsB, List.range_succ]
theorem lensB_length (p : Pg) (k : Nat) : (lensB p k).length = k := by simp [lensB]
theorem valB_length (u : Bool) (s : ByteArray) (h : cellOk u s) : (valB u s).length = s.size := by
  unfold valB
  cases u
  · have := h.2 rfl
    simp [this]
  · simp
theorem valsB_le (p : Pg) (hp : p.right) : ∀ k, k ≤ 8 → (valsB p k).length ≤ 20 * k
  | 0, _ => by simp [valsB]
  | k + 1, h => by
    have h1 := valsB_le p hp k (by omega)
    have h2 := hp.2 k (by omega)
    have h3 := valB_length _ _ h2
    have h4 := h2.1
    rw [valsB_succ, List.length_append]
    omega

theorem Pg.same.lens {p q : Pg} (h : p.same q) : lensB p 8 = lensB q 8 := by
  unfold lensB
  refine List.map_congr_left fun i hi => ?_
  have h1 := h.2 i (List.mem_range.1 hi)
  rw [h1.1, h1.2]
theorem Pg.same.vals {p q : Pg} (h : p.same q) : valsB p 8 = valsB q 8 := by
  unfold valsB
  rw [List.flatMap_def, List.flatMap_def]
  congr 1
  refine List.map_congr_left fun i hi => ?_
  have h1 := h.2 i (List.mem_range.1 hi)
  rw [h1.1, h1.2]

/-- What stands ahead of the zeros; the 236 bytes; the tale; the image. -/
def headB (id : Nat) (p : Pg) : List UInt8 := beB 2 id ++ lensB p 8 ++ valsB p 8
def bodyB (id : Nat) (p : Pg) : List UInt8 := headB id p ++ List.replicate (236 - (headB id p).length) 0
def taleB (id : Nat) (p : Pg) : List UInt8 := bodyB id p ++ leB (crc (bodyB id p))
def imageB (id : Nat) (p : Pg) : List UInt8 := beB 8 p.l ++ (taleB id p).take 120 ++ beB 8 p.l ++ (taleB id p).drop 120

theorem Pg.same.image {p q : Pg} (h : p.same q) (id : Nat) : imageB id p = imageB id q := by
  unfold imageB taleB bodyB headB
  rw [h.lens, h.vals, h.1]

theorem headB_length (id : Nat) (p : Pg) : (headB id p).length = 10 + (valsB p 8).length := by
  unfold headB
  rw [List.length_append, List.length_append, beB_length, lensB_length]
theorem headB_le (id : Nat) (p : Pg) (hp : p.right) : (headB id p).length ≤ 170 := by
  have := valsB_le p hp 8 (by omega)
  rw [headB_length]
  omega
theorem bodyB_length (id : Nat) (p : Pg) (hp : p.right) : (bodyB id p).length = 236 := by
  have := headB_le id p hp
  unfold bodyB
  rw [List.length_append, List.length_replicate]
  omega
theorem taleB_length (id : Nat) (p : Pg) (hp : p.right) : (taleB id p).length = 240 := by
  unfold taleB
  rw [List.length_append, bodyB_length id p hp, leB_length]
theorem imageB_length (id : Nat) (p : Pg) (hp : p.right) : (imageB id p).length = 256 := by
  unfold imageB
  simp only [List.length_append, beB_length, List.length_take, List.length_drop, taleB_length id p hp]
  omega

/-- The tale that stands in 256 bytes. -/
def taleOf (bs : List UInt8) : List UInt8 := (bs.drop 8).take 120 ++ bs.drop 136
theorem taleOf_length (bs : List UInt8) (h : bs.length = 256) : (taleOf bs).length = 240 := by
  unfold taleOf
  simp only [List.length_append, List.length_take, List.length_drop]
  omega
theorem image_parts (id : Nat) (p : Pg) (hp : p.right) : (imageB id p).take 8 = beB 8 p.l ∧ ((imageB id p).drop 128).take 8 = beB 8 p.l ∧ taleOf (imageB id p) = taleB id p := by
  have hl := taleB_length id p hp
  have h1 : ((taleB id p).take 120).length = 120 := by rw [List.length_take]; omega
  have h2 := beB_length 8 p.l
  have e : imageB id p = beB 8 p.l ++ ((taleB id p).take 120 ++ (beB 8 p.l ++ (taleB id p).drop 120)) := by simp [imageB]
  have e8 : (imageB id p).drop 8 = (taleB id p).take 120 ++ (beB 8 p.l ++ (taleB id p).drop 120) := by rw [e, List.drop_left' h2]
  have e128 : (imageB id p).drop 128 = beB 8 p.l ++ (taleB id p).drop 120 := by
    have e1 : (imageB id p).drop 128 = ((imageB id p).drop 8).drop 120 := by rw [List.drop_drop]
    rw [e1, e8, List.drop_left' h1]
  have e136 : (imageB id p).drop 136 = (taleB id p).drop 120 := by
    have e1 : (imageB id p).drop 136 = ((imageB id p).drop 128).drop 8 := by rw [List.drop_drop]
    rw [e1, e128, List.drop_left' h2]
  refine ⟨by rw [e, List.take_left' h2], by rw [e128, List.take_left' h2], ?_⟩
  unfold taleOf
  rw [e8, e136, List.take_left' h1, List.take_append_drop]

/-- What bytes tell: a cell's byte, whether it is used, how long its value is, where it begins. -/
def nAt (t : List UInt8) (i : Nat) : Nat := (t.getD (2 + i) 0).toNat
def usedAt (t : List UInt8) (i : Nat) : Bool := decide (nAt t i ≠ 255)
def lenAt (t : List UInt8) (i : Nat) : Nat := if usedAt t i then nAt t i else 0
def posAt (t : List UInt8) : Nat → Nat
  | 0 => 10
  | i + 1 => posAt t i + lenAt t i
def cutAt (t : List UInt8) (i : Nat) : ByteArray := ⟨((t.drop (posAt t i)).take (lenAt t i)).toArray⟩
/-- The page that bytes tell, if they are a page's. -/
def scanP (bs : List UInt8) : Pg := ⟨beAt bs 0 8, usedAt (taleOf bs), cutAt (taleOf bs)⟩

theorem getD_mid (a b : List UInt8) (i : Nat) (h : i < b.length) (c : List UInt8) : (a ++ (b ++ c)).getD (a.length + i) 0 = b.getD i 0 := by
  simp [List.getD, List.getElem?_append_right, List.getElem?_append_left h]

theorem tale_nAt (id : Nat) (p : Pg) (i : Nat) (h : i < 8) : (taleB id p).getD (2 + i) 0 = lenB (p.u i) (p.s i) := by
  have e : taleB id p = beB 2 id ++ (lensB p 8 ++ (valsB p 8 ++ (List.replicate (236 - (headB id p).length) 0 ++ leB (crc (bodyB id p))))) := by simp [taleB, bodyB, headB]
  have hb := beB_length 2 id
  have h1 := getD_mid (beB 2 id) (lensB p 8) i (by rw [lensB_length]; exact h) (valsB p 8 ++ (List.replicate (236 - (headB id p).length) 0 ++ leB (crc (bodyB id p))))
  rw [hb] at h1
  rw [e, h1]
  simp [lensB, List.getD, h]

theorem lenB_nat (u : Bool) (s : ByteArray) (h : cellOk u s) : (lenB u s).toNat = if u then s.size else 255 := by
  have h1 := h.1
  unfold lenB
  cases u
  · rfl
  · simp
    omega

theorem tale_used (id : Nat) (p : Pg) (hp : p.right) (i : Nat) (h : i < 8) : usedAt (taleB id p) i = p.u i ∧ lenAt (taleB id p) i = (p.s i).size := by
  have h1 := hp.2 i h
  have h2 := lenB_nat _ _ h1
  have h3 : nAt (taleB id p) i = if p.u i then (p.s i).size else 255 := by rw [nAt, tale_nAt id p i h, h2]
  have h4 := h1.1
  have h5 : usedAt (taleB id p) i = p.u i := by
    unfold usedAt
    rw [h3]
    cases hu : p.u i
    · simp
    · simp
      omega
  refine ⟨h5, ?_⟩
  unfold lenAt
  rw [h5, h3]
  cases hu : p.u i
  · simp [h1.2 hu]
  · simp

theorem tale_pos (id : Nat) (p : Pg) (hp : p.right) : ∀ (i : Nat), i ≤ 8 → posAt (taleB id p) i = 10 + (valsB p i).length
  | 0, _ => by simp [posAt, valsB]
  | i + 1, h => by
    rw [posAt, tale_pos id p hp i (by omega), (tale_used id p hp i (by omega)).2, valsB_succ, List.length_append, valB_length _ _ (hp.2 i (by omega))]
    omega

theorem vals_split (p : Pg) (i : Nat) (h : i < 8) : ∃ c, valsB p 8 = valsB p i ++ (valB (p.u i) (p.s i) ++ c) := by
  have h1 : ∀ d, ∃ c, valsB p (i + 1 + d) = valsB p (i + 1) ++ c := by
    intro d
    induction d with
    | zero => exact ⟨[], by simp⟩
    | succ d ih =>
      obtain ⟨c, hc⟩ := ih
      exact ⟨c ++ valB (p.u (i + 1 + d)) (p.s (i + 1 + d)), by rw [← Nat.add_assoc, valsB_succ, hc, List.append_assoc]⟩
  obtain ⟨c, hc⟩ := h1 (8 - (i + 1))
  have e : i + 1 + (8 - (i + 1)) = 8 := by omega
  rw [e] at hc
  exact ⟨c, by rw [hc, valsB_succ, List.append_assoc]⟩

theorem mk_data (s : ByteArray) : (⟨s.data.toList.toArray⟩ : ByteArray) = s := by
  obtain ⟨⟨l⟩⟩ := s
  rfl

theorem tale_cut (id : Nat) (p : Pg) (hp : p.right) (i : Nat) (h : i < 8) : cutAt (taleB id p) i = p.s i := by
  have h1 := hp.2 i h
  have hu := tale_used id p hp i h
  have hpos := tale_pos id p hp i (by omega)
  obtain ⟨c, hc⟩ := vals_split p i h
  have e : taleB id p = (beB 2 id ++ lensB p 8 ++ valsB p i) ++ (valB (p.u i) (p.s i) ++ (c ++ (List.replicate (236 - (headB id p).length) 0 ++ leB (crc (bodyB id p))))) := by
    have e1 : taleB id p = beB 2 id ++ lensB p 8 ++ valsB p 8 ++ List.replicate (236 - (headB id p).length) 0 ++ leB (crc (bodyB id p)) := by simp [taleB, bodyB, headB]
    rw [e1, hc]
    simp
  have hl : (beB 2 id ++ lensB p 8 ++ valsB p i).length = 10 + (valsB p i).length := by rw [List.length_append, List.length_append, beB_length, lensB_length]
  unfold cutAt
  rw [hpos, hu.2, ← valB_length _ _ h1]
  have e2 : ((taleB id p).drop (10 + (valsB p i).length)).take (valB (p.u i) (p.s i)).length = valB (p.u i) (p.s i) := by
    rw [e, List.drop_left' hl, List.take_left' rfl]
  rw [e2]
  unfold valB
  cases hb : p.u i
  · have hz := h1.2 hb
    have hz2 : (p.s i).data.toList = [] := List.eq_nil_of_length_eq_zero (by rw [Array.length_toList]; exact hz)
    have := mk_data (p.s i)
    rw [hz2] at this
    exact this
  · exact mk_data (p.s i)

/-- What an image tells is its page. -/
theorem scan_image (id : Nat) (p : Pg) (hp : p.right) : (scanP (imageB id p)).same p := by
  obtain ⟨h1, _, h3⟩ := image_parts id p hp
  refine ⟨?_, fun i hi => ?_⟩
  · show beAt (imageB id p) 0 8 = p.l
    unfold beAt
    rw [List.drop_zero, h1]
    refine be_beB 8 p.l ?_
    have := hp.1
    unfold maxP at this
    have e : 256 ^ 8 = 18446744073709551616 := by decide
    omega
  · show usedAt (taleOf (imageB id p)) i = p.u i ∧ cutAt (taleOf (imageB id p)) i = p.s i
    rw [h3]
    exact ⟨(tale_used id p hp i hi).1, tale_cut id p hp i hi⟩

theorem image_inj {id jd : Nat} {p q : Pg} (hp : p.right) (hq : q.right) (hi : id < 65536) (hj : jd < 65536) (h : imageB id p = imageB jd q) : id = jd ∧ p.same q := by
  refine ⟨?_, ?_⟩
  · have h1 := (image_parts id p hp).2.2
    have h2 := (image_parts jd q hq).2.2
    rw [h, h2] at h1
    have e : ∀ (k : Nat) (r : Pg), (taleB k r).take 2 = beB 2 k := by
      intro k r
      have e1 : taleB k r = beB 2 k ++ (lensB r 8 ++ (valsB r 8 ++ (List.replicate (236 - (headB k r).length) 0 ++ leB (crc (bodyB k r))))) := by simp [taleB, bodyB, headB]
      rw [e1, List.take_left' (beB_length 2 k)]
    have h3 : (taleB jd q).take 2 = (taleB id p).take 2 := by rw [h1]
    rw [e, e] at h3
    have h4 := be_beB 2 jd (by omega)
    rw [h3, be_beB 2 id (by omega)] at h4
    exact h4
  · have h1 := scan_image id p hp
    rw [h] at h1
    exact h1.symm.trans (scan_image jd q hq)

/-- Whether 256 bytes are torn. -/
def tornB (bs : List UInt8) : Bool := decide (bs.length = 256 ∧ bs.take 8 ≠ (bs.drop 128).take 8)

/-- What 'Stamp' answers. -/
def stampB (bs : List UInt8) : Nat × Bool := if bs.length = 256 ∧ tornB bs = false then (beAt bs 0 8, true) else (0, false)

/-- What 'Encode' answers. -/
def encB (id : Int) (p : Pg) : List UInt8 × Int := if 0 ≤ id ∧ id ≤ 31 ∧ p.right then (imageB id.toNat p, 0) else ([], 1)

/-- What 'Decode' answers: the error's number, and the page. -/
def decE (id : Int) (bs : List UInt8) : Int :=
  if ¬ (0 ≤ id ∧ id ≤ 31) then 1 else if bs.length < 256 then 4 else if 256 < bs.length then 2 else if tornB bs = true then 14
  else if ¬ leN ((taleOf bs).drop 236) = crc ((taleOf bs).take 236) then 3
  else if (scanP bs).right ∧ imageB id.toNat (scanP bs) = bs then 0 else 2
def decP (id : Int) (bs : List UInt8) : Pg := if decE id bs = 0 then scanP bs else Pg.zero

theorem decP_no (id : Int) (bs : List UInt8) (h : decE id bs ≠ 0) : decP id bs = Pg.zero := by unfold decP; rw [if_neg h]

theorem data_inj {s t : ByteArray} : s.data.toList = t.data.toList ↔ s = t :=
  ⟨fun h => by rw [← mk_data s, h, mk_data], fun h => by rw [h]⟩
end Go.Proofs.Ytfeghhgniahfkaa

/-
  A store as such, of no program: places, areas, which nodes are out; what its calls make of it and answer; that a torn place can be mended.
-/
namespace Go.Proofs.Ytfeghhgniahfkaa
open Go.RowKit
set_option linter.unusedVariables false

/-- A function with another value at one place. -/
def put1 {α : Type} (f : Nat → α) (i : Nat) (v : α) : Nat → α := fun k => if k = i then v else f k
theorem put1_same {α : Type} (f : Nat → α) (i : Nat) (v : α) : put1 f i v i = v := if_pos rfl
theorem put1_other {α : Type} (f : Nat → α) (i k : Nat) (v : α) (h : k ≠ i) : put1 f i v k = f k := if_neg h

/-- The sectors of one image that two bits name, laid over another one. -/
def layB (u o : List UInt8) (m : Nat) : List UInt8 := (if m % 2 = 1 then o.take 128 else u.take 128) ++ (if m / 2 % 2 = 1 then o.drop 128 else u.drop 128)
theorem layB_take (u o : List UInt8) (m : Nat) (hu : u.length = 256) (ho : o.length = 256) : (layB u o m).take 128 = if m % 2 = 1 then o.take 128 else u.take 128 := by
  unfold layB
  refine List.take_left' ?_
  split <;> rw [List.length_take] <;> omega
theorem layB_drop (u o : List UInt8) (m : Nat) (hu : u.length = 256) (ho : o.length = 256) : (layB u o m).drop 128 = if m / 2 % 2 = 1 then o.drop 128 else u.drop 128 := by
  unfold layB
  refine List.drop_left' ?_
  split <;> rw [List.length_take] <;> omega
theorem layB_length (u o : List UInt8) (m : Nat) (hu : u.length = 256) (ho : o.length = 256) : (layB u o m).length = 256 := by
  unfold layB
  rw [List.length_append]
  split <;> split <;> rw [List.length_take, List.length_drop] <;> omega
theorem layB_zero (u o : List UInt8) (m : Nat) (h : m % 4 = 0) : layB u o m = u := by
  unfold layB
  rw [if_neg (by omega), if_neg (by omega), List.take_append_drop]
theorem layB_all (u o : List UInt8) (m : Nat) (h : m % 4 = 3) : layB u o m = o := by
  unfold layB
  rw [if_pos (by omega), if_pos (by omega), List.take_append_drop]
theorem layB_mod (u o : List UInt8) (m k : Nat) (h : m % 4 = k % 4) : layB u o m = layB u o k := by
  unfold layB
  rw [show m % 2 = k % 2 by omega, show m / 2 % 2 = k / 2 % 2 by omega]
/-- What was laid, laid again. -/
theorem layB_twice (u o : List UInt8) (m k : Nat) (hu : u.length = 256) (ho : o.length = 256) :
    layB (layB u o m) o k = layB u o ((if m % 2 = 1 ∨ k % 2 = 1 then 1 else 0) + (if m / 2 % 2 = 1 ∨ k / 2 % 2 = 1 then 2 else 0)) := by
  rw [layB, layB_take u o m hu ho, layB_drop u o m hu ho, layB]
  congr 1
  · by_cases h1 : k % 2 = 1 <;> by_cases h2 : m % 2 = 1 <;> by_cases h3 : m / 2 % 2 = 1 ∨ k / 2 % 2 = 1 <;> simp [h1, h2, h3]
  · by_cases h1 : k / 2 % 2 = 1 <;> by_cases h2 : m / 2 % 2 = 1 <;> by_cases h3 : m % 2 = 1 ∨ k % 2 = 1 <;> simp [h1, h2, h3]

/-- Images, and two mixed: torn or not, and the stamp. -/
theorem torn_image10 (id : Nat) (p : Pg) (hp : p.right) : tornB (imageB id p) = false := by
  obtain ⟨h1, h2, _⟩ := image_parts id p hp
  unfold tornB
  rw [decide_eq_false_iff_not, h1, h2]
  exact fun g => g.2 rfl
theorem stamp_image (id : Nat) (p : Pg) (hp : p.right) : stampB (imageB id p) = (p.l, true) := by
  unfold stampB
  rw [if_pos ⟨imageB_length id p hp, torn_image10 id p hp⟩]
  have h1 := (scan_image id p hp).1
  rw [show beAt (imageB id p) 0 8 = p.l from h1]
theorem right_lt {p : Pg} (hp : p.right) : p.l < 256 ^ 8 := by
  have := hp.1
  unfold maxP at this
  have e : 256 ^ 8 = 18446744073709551616 := by decide
  omega
theorem torn_mix (id : Nat) (p q : Pg) (hp : p.right) (hq : q.right) (h : p.l ≠ q.l) (m : Nat) (hm : m % 4 = 1 ∨ m % 4 = 2) : tornB (layB (imageB id p) (imageB id q) m) = true := by
  obtain ⟨p1, p2, _⟩ := image_parts id p hp
  obtain ⟨q1, q2, _⟩ := image_parts id q hq
  have lp := imageB_length id p hp
  have lq := imageB_length id q hq
  have hne : beB 8 p.l ≠ beB 8 q.l := fun g => h (by rw [← be_beB 8 p.l (right_lt hp), g, be_beB 8 q.l (right_lt hq)])
  have e1 : ∀ l : List UInt8, l.take 8 = (l.take 128).take 8 := fun l => by rw [List.take_take]; rfl
  unfold tornB
  rw [decide_eq_true_eq]
  refine ⟨layB_length _ _ _ lp lq, ?_⟩
  rw [e1, layB_take _ _ _ lp lq, layB_drop _ _ _ lp lq]
  rcases hm with hm | hm
  · rw [if_pos (by omega), if_neg (by omega), ← e1, q1, p2]
    exact fun g => hne g.symm
  · rw [if_neg (by omega), if_pos (by omega), ← e1, p1, q2]
    exact hne

/-- The store: how many places, what lies there, the nodes' areas, the page that each was writing, whether it is out. -/
structure Sc where
  n : Nat
  pl : Nat → List UInt8
  ar : Nat → List UInt8
  id : Nat → Int
  out : Nat → Bool

abbrev maskOk (m : Int) : Prop := m = 0 ∨ m = 1 ∨ m = 2 ∨ m = 3 ∨ m = 7 ∨ m = 11 ∨ m = 15
def Sc.busy (s : Sc) (i : Int) : Bool := (List.range 8).any fun m => s.out m && decide (s.id m = i)
theorem Sc.busy_iff (s : Sc) (i : Int) : s.busy i = true ↔ ∃ m, m < 8 ∧ s.out m = true ∧ s.id m = i := by
  unfold Sc.busy
  rw [List.any_eq_true]
  constructor
  · rintro ⟨m, h1, h2⟩
    rw [Bool.and_eq_true, decide_eq_true_eq] at h2
    exact ⟨m, List.mem_range.1 h1, h2⟩
  · rintro ⟨m, h1, h2⟩
    exact ⟨m, List.mem_range.2 h1, by rw [Bool.and_eq_true, decide_eq_true_eq]; exact h2⟩

/-- What Write may be asked at all; what it answers; what it makes. -/
abbrev Sc.may (s : Sc) (node id : Int) (p : Pg) (mask : Int) : Prop := 0 ≤ node ∧ node < 8 ∧ 0 ≤ id ∧ id < (s.n : Int) ∧ maskOk mask ∧ p.right
def Sc.wE (s : Sc) (node id : Int) (p : Pg) (mask : Int) : Int :=
  if ¬ s.may node id p mask then 1
  else if s.out node.toNat = true ∨ s.busy id = true ∨ p.l ≤ (stampB (s.pl id.toNat)).1 then 13
  else if mask = 15 then 0 else 9
def Sc.wGo (s : Sc) (node id : Nat) (p : Pg) (mask : Nat) : Sc :=
  ⟨s.n, put1 s.pl id (layB (s.pl id) (imageB id p) (mask / 4)), put1 s.ar node (layB (s.ar node) (imageB id p) mask), if mask = 15 then s.id else put1 s.id node id, if mask = 15 then s.out else put1 s.out node true⟩
def Sc.wS (s : Sc) (node id : Int) (p : Pg) (mask : Int) : Sc := if s.wE node id p mask = 0 ∨ s.wE node id p mask = 9 then s.wGo node.toNat id.toNat p mask.toNat else s

/-- What Mend answers, and makes. -/
def Sc.mE (s : Sc) (node mask : Int) : Int :=
  if ¬ (0 < s.n ∧ 0 ≤ node ∧ node < 8 ∧ 0 ≤ mask ∧ mask ≤ 3) then 1
  else if s.out node.toNat = true ∧ tornB (s.pl (s.id node.toNat).toNat) = true ∧ mask ≠ 3 then 9 else 0
def Sc.mPl (s : Sc) (node mask : Nat) : Sc := { s with pl := put1 s.pl (s.id node).toNat (layB (s.pl (s.id node).toNat) (s.ar node) mask) }
def Sc.mS (s : Sc) (node mask : Int) : Sc :=
  if s.mE node mask = 1 ∨ s.out node.toNat = false then s
  else if tornB (s.pl (s.id node.toNat).toNat) = true then (if mask = 3 then { s.mPl node.toNat mask.toNat with out := put1 s.out node.toNat false } else s.mPl node.toNat mask.toNat)
  else { s with out := put1 s.out node.toNat false }

/-- What every store keeps to. -/
structure Sc.wf (s : Sc) : Prop where
  n : s.n ≤ 32
  pl : ∀ i, i < s.n → (s.pl i).length = 256
  ar : ∀ m, m < 8 → (s.ar m).length = 256
  id : ∀ m, m < 8 → s.out m = true → 0 ≤ s.id m ∧ s.id m < (s.n : Int)

/-- Beneath: each place's page; and, where it is torn, the one that was to come, and which sector of it lies there (false: the first one). -/
structure Sc.ok (s : Sc) (old : Nat → Pg) (tr : Nat → Option (Pg × Bool)) : Prop where
  wf : s.wf
  rt : ∀ i, i < s.n → (old i).right
  one : ∀ m k, m < 8 → k < 8 → s.out m = true → s.out k = true → s.id m = s.id k → m = k
  lie : ∀ i, i < s.n → tr i = none → s.pl i = imageB i (old i)
  tor : ∀ i I b, i < s.n → tr i = some (I, b) → s.pl i = layB (imageB i (old i)) (imageB i I) (if b then 2 else 1) ∧ I.right ∧ (old i).l < I.l ∧ ∃ m, m < 8 ∧ s.out m = true ∧ s.id m = (i : Int) ∧ s.ar m = imageB i I

def wOld (old : Nat → Pg) (id : Nat) (p : Pg) (mask : Int) : Nat → Pg := if mask = 15 then put1 old id p else old
def wTr (tr : Nat → Option (Pg × Bool)) (id : Nat) (p : Pg) (mask : Int) : Nat → Option (Pg × Bool) := if mask = 7 then put1 tr id (some (p, false)) else if mask = 11 then put1 tr id (some (p, true)) else tr

/-- A torn place is one that is beneath another one. -/
theorem Sc.ok.torn {s : Sc} {old : Nat → Pg} {tr : Nat → Option (Pg × Bool)} (h : s.ok old tr) (i : Nat) (hi : i < s.n) : tornB (s.pl i) = (tr i).isSome := by
  cases ht : tr i with
  | none =>
    rw [h.lie i hi ht, torn_image10 i _ (h.rt i hi)]
    rfl
  | some x =>
    obtain ⟨I, b⟩ := x
    obtain ⟨h1, h2, h3, _⟩ := h.tor i I b hi ht
    rw [h1, torn_mix i _ _ (h.rt i hi) h2 (by omega) _ (by cases b <;> simp)]
    rfl

theorem Sc.wf.wgo {s : Sc} (h : s.wf) (node id : Nat) (p : Pg) (mask : Nat) (hp : p.right) (hi : id < s.n) (hn : node < 8) : (s.wGo node id p mask).wf := by
  have lp := imageB_length id p hp
  refine ⟨h.n, fun i hi2 => ?_, fun m hm => ?_, fun m hm ho => ?_⟩
  · show (put1 s.pl id _ i).length = 256
    by_cases e : i = id
    · subst e
      rw [put1_same]
      exact layB_length _ _ _ (h.pl _ hi) lp
    · rw [put1_other _ _ _ _ e]
      exact h.pl i hi2
  · show (put1 s.ar node _ m).length = 256
    by_cases e : m = node
    · subst e
      rw [put1_same]
      exact layB_length _ _ _ (h.ar _ hm) lp
    · rw [put1_other _ _ _ _ e]
      exact h.ar m hm
  · have ho2 : (if mask = 15 then s.out else put1 s.out node true) m = true := ho
    show 0 ≤ (if mask = 15 then s.id else put1 s.id node (id : Int)) m ∧ (if mask = 15 then s.id else put1 s.id node (id : Int)) m < (s.n : Int)
    by_cases e15 : mask = 15
    · rw [if_pos e15] at ho2 ⊢
      exact h.id m hm ho2
    · rw [if_neg e15] at ho2 ⊢
      by_cases e : m = node
      · subst e
        rw [put1_same]
        omega
      · rw [put1_other _ _ _ _ e] at ho2 ⊢
        exact h.id m hm ho2

theorem Sc.wE_go {s : Sc} {node id : Int} {p : Pg} {mask : Int} (h : s.wE node id p mask = 0 ∨ s.wE node id p mask = 9) :
    s.may node id p mask ∧ s.out node.toNat = false ∧ s.busy id = false ∧ (stampB (s.pl id.toNat)).1 < p.l := by
  unfold Sc.wE at h
  by_cases h1 : s.may node id p mask
  · rw [if_neg (fun g => g h1)] at h
    by_cases h2 : s.out node.toNat = true ∨ s.busy id = true ∨ p.l ≤ (stampB (s.pl id.toNat)).1
    · rw [if_pos h2] at h
      omega
    · have a1 : ¬ s.out node.toNat = true := fun g => h2 (.inl g)
      have a2 : ¬ s.busy id = true := fun g => h2 (.inr (.inl g))
      have a3 : ¬ p.l ≤ (stampB (s.pl id.toNat)).1 := fun g => h2 (.inr (.inr g))
      exact ⟨h1, by simpa using a1, by simpa using a2, by omega⟩
  · rw [if_pos h1] at h
    omega
theorem Sc.wE_eq {s : Sc} {node id : Int} {p : Pg} {mask : Int} (h : s.wE node id p mask = 0 ∨ s.wE node id p mask = 9) : s.wE node id p mask = if mask = 15 then 0 else 9 := by
  obtain ⟨h1, h2, h3, h4⟩ := Sc.wE_go h
  unfold Sc.wE
  rw [if_neg (fun g => g h1), if_neg (by rw [h2, h3]; simp; omega)]

theorem Sc.ok.free {s : Sc} {old : Nat → Pg} {tr : Nat → Option (Pg × Bool)} (h : s.ok old tr) (i : Nat) (hi : i < s.n) (hb : s.busy (i : Int) = false) : tr i = none := by
  cases ht : tr i with
  | none => rfl
  | some x =>
    obtain ⟨I, b⟩ := x
    obtain ⟨_, _, _, m, h1, h2, h3, _⟩ := h.tor i I b hi ht
    have := (s.busy_iff (i : Int)).2 ⟨m, h1, h2, h3⟩
    rw [hb] at this
    cases this

/-- WRITE: what it makes, beneath. -/
theorem Sc.ok.write {s : Sc} {old : Nat → Pg} {tr : Nat → Option (Pg × Bool)} (h : s.ok old tr) (node id : Int) (p : Pg) (mask : Int) (hgo : s.wE node id p mask = 0 ∨ s.wE node id p mask = 9) :
    (s.wS node id p mask).ok (wOld old id.toNat p mask) (wTr tr id.toNat p mask) ∧ tr id.toNat = none ∧ (old id.toNat).l < p.l := by
  obtain ⟨⟨a1, a2, a3, a4, a5, a6⟩, a7, a8, a9⟩ := Sc.wE_go hgo
  have eS : s.wS node id p mask = s.wGo node.toNat id.toNat p mask.toNat := if_pos hgo
  obtain ⟨nd, rfl⟩ := Int.eq_ofNat_of_zero_le a1
  obtain ⟨i, rfl⟩ := Int.eq_ofNat_of_zero_le a3
  have hm0 : 0 ≤ mask := by rcases a5 with rfl | rfl | rfl | rfl | rfl | rfl | rfl <;> omega
  obtain ⟨mk, rfl⟩ := Int.eq_ofNat_of_zero_le hm0
  have hi : i < s.n := by omega
  have hn : nd < 8 := by omega
  simp only [Int.toNat_natCast] at *
  rw [eS]
  have ht := h.free i hi a8
  have hl := h.lie i hi ht
  have lo := imageB_length i _ (h.rt i hi)
  have lp := imageB_length i p a6
  rw [hl, stamp_image i _ (h.rt i hi)] at a9
  have hmk : mk = 0 ∨ mk = 1 ∨ mk = 2 ∨ mk = 3 ∨ mk = 7 ∨ mk = 11 ∨ mk = 15 := by omega
  have nobusy : ∀ m, m < 8 → s.out m = true → s.id m ≠ (i : Int) := fun m hm ho hid => by
    have := (s.busy_iff (i : Int)).2 ⟨m, hm, ho, hid⟩
    rw [a8] at this
    cases this
  refine ⟨⟨h.wf.wgo nd i p mk a6 hi hn, ?_, ?_, ?_, ?_⟩, ht, a9⟩
  · intro k hk
    unfold wOld
    split
    · by_cases e : k = i
      · subst e
        rw [put1_same]
        exact a6
      · rw [put1_other _ _ _ _ e]
        exact h.rt k hk
    · exact h.rt k hk
  · intro m k hm hk om ok' e
    have om2 : (if mk = 15 then s.out else put1 s.out nd true) m = true := om
    have ok2 : (if mk = 15 then s.out else put1 s.out nd true) k = true := ok'
    have e2 : (if mk = 15 then s.id else put1 s.id nd (i : Int)) m = (if mk = 15 then s.id else put1 s.id nd (i : Int)) k := e
    by_cases e15 : mk = 15
    · rw [if_pos e15] at om2 ok2 e2
      exact h.one m k hm hk om2 ok2 e2
    · rw [if_neg e15] at om2 ok2 e2
      by_cases em : m = nd
      · by_cases ek : k = nd
        · rw [em, ek]
        · rw [put1_other _ _ _ _ ek] at ok2
          rw [em, put1_same, put1_other _ _ _ _ ek] at e2
          exact absurd e2.symm (nobusy k hk ok2)
      · rw [put1_other _ _ _ _ em] at om2
        by_cases ek : k = nd
        · rw [ek, put1_same, put1_other _ _ _ _ em] at e2
          exact absurd e2 (nobusy m hm om2)
        · rw [put1_other _ _ _ _ ek] at ok2
          rw [put1_other _ _ _ _ em, put1_other _ _ _ _ ek] at e2
          exact h.one m k hm hk om2 ok2 e2
  · intro k hk htk
    show put1 s.pl i _ k = imageB k (wOld old i p _ k)
    by_cases e : k = i
    · subst e
      rw [put1_same, hl]
      unfold wOld
      unfold wTr at htk
      by_cases e15 : mk = 15
      · rw [if_pos (by omega), put1_same, layB_all _ _ _ (by omega)]
      · rw [if_neg (by omega)]
        by_cases e7 : mk = 7
        · rw [if_pos (by omega), put1_same] at htk
          cases htk
        · rw [if_neg (by omega)] at htk
          by_cases e11 : mk = 11
          · rw [if_pos (by omega), put1_same] at htk
            cases htk
          · exact layB_zero _ _ _ (by omega)
    · rw [put1_other _ _ _ _ e]
      have ht2 : tr k = none := by
        unfold wTr at htk
        split at htk
        · rwa [put1_other _ _ _ _ e] at htk
        · split at htk
          · rwa [put1_other _ _ _ _ e] at htk
          · exact htk
      have eo : wOld old i p (mk : Int) k = old k := by
        unfold wOld
        split
        · exact put1_other _ _ _ _ e
        · rfl
      rw [eo]
      exact h.lie k hk ht2
  · intro k I b hk htk
    show put1 s.pl i _ k = layB (imageB k (wOld old i p _ k)) _ _ ∧ _
    by_cases e : k = i
    · subst e
      rw [put1_same, hl]
      unfold wTr at htk
      have e15 : mk ≠ 15 := fun e15 => by
        rw [if_neg (by omega), if_neg (by omega), ht] at htk
        cases htk
      have eo : wOld old k p (mk : Int) k = old k := by
        unfold wOld
        rw [if_neg (by omega)]
      rw [eo]
      have hx : I = p ∧ (mk / 4) % 4 = (if b then 2 else 1) ∧ mk % 4 = 3 := by
        by_cases e7 : mk = 7
        · rw [if_pos (by omega), put1_same] at htk
          injection htk with htk
          injection htk with h1 h2
          subst h1 h2 e7
          exact ⟨rfl, rfl, rfl⟩
        · rw [if_neg (by omega)] at htk
          by_cases e11 : mk = 11
          · rw [if_pos (by omega), put1_same] at htk
            injection htk with htk
            injection htk with h1 h2
            subst h1 h2 e11
            exact ⟨rfl, rfl, rfl⟩
          · rw [if_neg (by omega), ht] at htk
            cases htk
      obtain ⟨rfl, h1, h2⟩ := hx
      refine ⟨layB_mod _ _ _ _ (by rw [h1]; cases b <;> rfl), a6, a9, nd, hn, ?_, ?_, ?_⟩
      · show (if mk = 15 then s.out else put1 s.out nd true) nd = true
        rw [if_neg e15, put1_same]
      · show (if mk = 15 then s.id else put1 s.id nd (k : Int)) nd = _
        rw [if_neg e15, put1_same]
      · show put1 s.ar nd _ nd = _
        rw [put1_same, layB_all _ _ _ h2]
    · rw [put1_other _ _ _ _ e]
      have ht2 : tr k = some (I, b) := by
        unfold wTr at htk
        split at htk
        · rwa [put1_other _ _ _ _ e] at htk
        · split at htk
          · rwa [put1_other _ _ _ _ e] at htk
          · exact htk
      have eo : wOld old i p (mk : Int) k = old k := by
        unfold wOld
        split
        · exact put1_other _ _ _ _ e
        · rfl
      rw [eo]
      obtain ⟨b1, b2, b3, m, b4, b5, b6, b7⟩ := h.tor k I b hk ht2
      have hmn : m ≠ nd := fun g => by
        rw [g, a7] at b5
        cases b5
      refine ⟨b1, b2, b3, m, b4, ?_, ?_, ?_⟩
      · show (if mk = 15 then s.out else put1 s.out nd true) m = true
        split
        · exact b5
        · rw [put1_other _ _ _ _ hmn]
          exact b5
      · show (if mk = 15 then s.id else put1 s.id nd (i : Int)) m = _
        split
        · exact b6
        · rw [put1_other _ _ _ _ hmn]
          exact b6
      · show put1 s.ar nd _ m = _
        rw [put1_other _ _ _ _ hmn]
        exact b7

theorem Sc.wS_no {s : Sc} {node id : Int} {p : Pg} {mask : Int} (h : ¬ (s.wE node id p mask = 0 ∨ s.wE node id p mask = 9)) : s.wS node id p mask = s := if_neg h

/-- What is beneath, behind a mending: as it was, or the page that was to come has come. -/
def Came (old old' : Nat → Pg) (tr tr' : Nat → Option (Pg × Bool)) : Prop := ∀ i, (old' i = old i ∧ tr' i = tr i) ∨ (∃ b, tr i = some (old' i, b) ∧ tr' i = none)
theorem Came.refl (old : Nat → Pg) (tr : Nat → Option (Pg × Bool)) : Came old old tr tr := fun i => .inl ⟨rfl, rfl⟩

theorem Sc.wf.mend {s : Sc} (h : s.wf) (node mask : Int) : (s.mS node mask).wf := by
  unfold Sc.mS
  by_cases h1 : s.mE node mask = 1 ∨ s.out node.toNat = false
  · rw [if_pos h1]
    exact h
  · have hr : 0 < s.n ∧ 0 ≤ node ∧ node < 8 ∧ 0 ≤ mask ∧ mask ≤ 3 := by
      refine Classical.byContradiction fun g => h1 (.inl ?_)
      unfold Sc.mE
      rw [if_pos g]
    have hn : node.toNat < 8 := by omega
    have hput : ∀ m, m < 8 → put1 s.out node.toNat false m = true → s.out m = true := fun m hm ho => by
      by_cases e : m = node.toNat
      · rw [e, put1_same] at ho
        cases ho
      · rwa [put1_other _ _ _ _ e] at ho
    have ho : s.out node.toNat = true := by
      cases e : s.out node.toNat with
      | true => rfl
      | false => exact absurd (.inr e) h1
    have hid := h.id _ hn ho
    have hpl : ∀ i, i < s.n → (put1 s.pl (s.id node.toNat).toNat (layB (s.pl (s.id node.toNat).toNat) (s.ar node.toNat) mask.toNat) i).length = 256 := fun i hi => by
      by_cases e : i = (s.id node.toNat).toNat
      · rw [e, put1_same]
        exact layB_length _ _ _ (h.pl _ (by omega)) (h.ar _ hn)
      · rw [put1_other _ _ _ _ e]
        exact h.pl i hi
    rw [if_neg h1]
    split
    · split
      · exact ⟨h.n, hpl, h.ar, fun m hm ho => h.id m hm (hput m hm ho)⟩
      · exact ⟨h.n, hpl, h.ar, h.id⟩
    · exact ⟨h.n, h.pl, h.ar, fun m hm ho => h.id m hm (hput m hm ho)⟩

/-- MEND: what it makes, beneath. -/
theorem Sc.ok.mend {s : Sc} {old : Nat → Pg} {tr : Nat → Option (Pg × Bool)} (h : s.ok old tr) (node mask : Int) :
    ∃ old' tr', (s.mS node mask).ok old' tr' ∧ Came old old' tr tr' := by
  have hwf := h.wf.mend node mask
  by_cases h1 : s.mE node mask = 1 ∨ s.out node.toNat = false
  · have e : s.mS node mask = s := by unfold Sc.mS; rw [if_pos h1]
    rw [e]
    exact ⟨old, tr, h, Came.refl _ _⟩
  · have hr : 0 < s.n ∧ 0 ≤ node ∧ node < 8 ∧ 0 ≤ mask ∧ mask ≤ 3 := by
      refine Classical.byContradiction fun g => h1 (.inl ?_)
      unfold Sc.mE
      rw [if_pos g]
    have ho : s.out node.toNat = true := by
      cases e : s.out node.toNat with
      | true => rfl
      | false => exact absurd (.inr e) h1
    obtain ⟨nd, rfl⟩ := Int.eq_ofNat_of_zero_le hr.2.1
    obtain ⟨mk, rfl⟩ := Int.eq_ofNat_of_zero_le hr.2.2.2.1
    simp only [Int.toNat_natCast] at *
    have hn : nd < 8 := by omega
    have hid := h.wf.id _ hn ho
    obtain ⟨i, hi⟩ := Int.eq_ofNat_of_zero_le hid.1
    have hi' : s.id nd = (i : Int) := hi
    have hin : i < s.n := by omega
    have e : s.mS nd mk = if tornB (s.pl i) = true then (if (mk : Int) = 3 then { s.mPl nd mk with out := put1 s.out nd false } else s.mPl nd mk) else { s with out := put1 s.out nd false } := by
      unfold Sc.mS
      rw [if_neg (by simpa using h1)]
      simp only [Int.toNat_natCast, hi']
    have hput : ∀ m, put1 s.out nd false m = true → s.out m = true ∧ m ≠ nd := fun m ho => by
      by_cases e : m = nd
      · rw [e, put1_same] at ho
        cases ho
      · rw [put1_other _ _ _ _ e] at ho
        exact ⟨ho, e⟩
    rw [e] at hwf ⊢
    cases ht : tr i with
    | none =>
      have ht1 : tornB (s.pl i) = false := by rw [h.torn i hin, ht]; rfl
      rw [if_neg (by rw [ht1]; simp)] at hwf ⊢
      refine ⟨old, tr, ⟨hwf, h.rt, fun m k hm hk o1 o2 he => h.one m k hm hk (hput m o1).1 (hput k o2).1 he, h.lie, fun k I b hk hk2 => ?_⟩, Came.refl _ _⟩
      obtain ⟨b1, b2, b3, m, b4, b5, b6, b7⟩ := h.tor k I b hk hk2
      refine ⟨b1, b2, b3, m, b4, ?_, b6, b7⟩
      have hmn : m ≠ nd := fun g => by
        rw [g, hi'] at b6
        have : k = i := by omega
        rw [this, ht] at hk2
        cases hk2
      show put1 s.out nd false m = true
      rw [put1_other _ _ _ _ hmn]
      exact b5
    | some x =>
      obtain ⟨I, b⟩ := x
      have ht1 : tornB (s.pl i) = true := by rw [h.torn i hin, ht]; rfl
      rw [if_pos ht1] at hwf ⊢
      obtain ⟨b1, b2, b3, m, b4, b5, b6, b7⟩ := h.tor i I b hin ht
      obtain rfl : m = nd := h.one m nd b4 hn b5 ho (by rw [b6, hi'])
      have lo := imageB_length i _ (h.rt i hin)
      have li := imageB_length i I b2
      have eP : s.mPl m mk = { s with pl := put1 s.pl i (layB (imageB i (old i)) (imageB i I) ((if (if b then 2 else 1) % 2 = 1 ∨ mk % 2 = 1 then 1 else 0) + (if (if b then 2 else 1) / 2 % 2 = 1 ∨ mk / 2 % 2 = 1 then 2 else 0))) } := by
        unfold Sc.mPl
        simp only [hi', Int.toNat_natCast]
        rw [b7, b1, layB_twice _ _ _ _ lo li]
      by_cases hfull : (b = false ∧ (mk = 2 ∨ mk = 3)) ∨ (b = true ∧ (mk = 1 ∨ mk = 3))
      · have eI : put1 s.pl i (layB (s.pl (s.id m).toNat) (s.ar m) mk) = put1 s.pl i (imageB i I) := by
          simp only [hi', Int.toNat_natCast]
          rw [b7, b1, layB_twice _ _ _ _ lo li]
          congr 1
          refine layB_all _ _ _ ?_
          rcases hfull with ⟨rfl, rfl | rfl⟩ | ⟨rfl, rfl | rfl⟩ <;> rfl
        have eP2 : s.mPl m mk = { s with pl := put1 s.pl i (imageB i I) } := by
          unfold Sc.mPl
          simp only [hi', Int.toNat_natCast]
          simp only [hi', Int.toNat_natCast] at eI
          rw [eI]
        refine ⟨put1 old i I, put1 tr i none, ?_, fun k => ?_⟩
        · have key : ∀ o', (∀ k, o' k = true → s.out k = true) → (∀ k, k ≠ m → s.out k = true → o' k = true) → Sc.wf ⟨s.n, put1 s.pl i (imageB i I), s.ar, s.id, o'⟩ → Sc.ok ⟨s.n, put1 s.pl i (imageB i I), s.ar, s.id, o'⟩ (put1 old i I) (put1 tr i none) := by
            intro o' k1 k2 kw
            refine ⟨kw, fun k hk => ?_, fun k l hk hl o1 o2 he => h.one k l hk hl (k1 k o1) (k1 l o2) he, fun k hk hk2 => ?_, fun k J c hk hk2 => ?_⟩
            · by_cases ek : k = i
              · rw [ek, put1_same]
                exact b2
              · rw [put1_other _ _ _ _ ek]
                exact h.rt k hk
            · show put1 s.pl i _ k = _
              by_cases ek : k = i
              · rw [ek, put1_same, put1_same]
              · rw [put1_other _ _ _ _ ek] at hk2 ⊢
                rw [put1_other _ _ _ _ ek]
                exact h.lie k hk hk2
            · have ek : k ≠ i := fun ek => by
                rw [ek, put1_same] at hk2
                cases hk2
              rw [put1_other _ _ _ _ ek] at hk2
              obtain ⟨c1, c2, c3, l, c4, c5, c6, c7⟩ := h.tor k J c hk hk2
              show put1 s.pl i _ k = _ ∧ _
              rw [put1_other _ _ _ _ ek, put1_other _ _ _ _ ek]
              exact ⟨c1, c2, c3, l, c4, k2 l (fun g => by rw [g, hi'] at c6; omega) c5, c6, c7⟩
          rw [eP2] at hwf ⊢
          by_cases e3 : (mk : Int) = 3
          · rw [if_pos e3] at hwf ⊢
            exact key (put1 s.out m false) (fun k hk => (hput k hk).1) (fun k hk hk2 => by rw [put1_other _ _ _ _ hk]; exact hk2) hwf
          · rw [if_neg e3] at hwf ⊢
            exact key s.out (fun k hk => hk) (fun k _ hk => hk) hwf
        · by_cases ek : k = i
          · subst ek
            rw [put1_same, put1_same]
            exact .inr ⟨b, ht, rfl⟩
          · rw [put1_other _ _ _ _ ek, put1_other _ _ _ _ ek]
            exact .inl ⟨rfl, rfl⟩
      · have e3 : ¬ (mk : Int) = 3 := fun g => hfull (by cases b <;> simp <;> omega)
        have eP2 : s.mPl m mk = s := by
          rw [eP]
          have : put1 s.pl i (layB (imageB i (old i)) (imageB i I) ((if (if b then 2 else 1) % 2 = 1 ∨ mk % 2 = 1 then 1 else 0) + (if (if b then 2 else 1) / 2 % 2 = 1 ∨ mk / 2 % 2 = 1 then 2 else 0))) = s.pl := by
            funext k
            by_cases ek : k = i
            · subst ek
              rw [put1_same, b1]
              refine layB_mod _ _ _ _ ?_
              have hmk : mk = 0 ∨ mk = 1 ∨ mk = 2 ∨ mk = 3 := by omega
              cases b
              · rcases hmk with rfl | rfl | rfl | rfl
                · rfl
                · rfl
                · exact absurd (.inl ⟨rfl, .inl rfl⟩) hfull
                · exact absurd rfl e3
              · rcases hmk with rfl | rfl | rfl | rfl
                · rfl
                · exact absurd (.inr ⟨rfl, .inl rfl⟩) hfull
                · rfl
                · exact absurd rfl e3
            · exact put1_other _ _ _ _ ek
          rw [this]
        rw [if_neg e3, eP2]
        exact ⟨old, tr, h, Came.refl _ _⟩

/-- Mended whole: OK, and not out any more. -/
theorem Sc.mend_all (s : Sc) (nd : Nat) (hn : nd < 8) (h0 : 0 < s.n) : s.mE nd 3 = 0 ∧ (s.mS nd 3).n = s.n ∧ (s.mS nd 3).out nd = false ∧ ∀ m, m ≠ nd → (s.mS nd 3).out m = s.out m := by
  have e0 : s.mE nd 3 = 0 := by
    unfold Sc.mE
    rw [if_neg (fun g => g ⟨h0, by omega, by omega, by omega, by omega⟩), if_neg (fun g => g.2.2 rfl)]
  refine ⟨e0, ?_⟩
  unfold Sc.mS
  simp only [Int.toNat_natCast]
  by_cases h1 : s.out nd = false
  · rw [if_pos (.inr h1)]
    exact ⟨rfl, h1, fun _ _ => rfl⟩
  · rw [if_neg (by rw [e0]; simpa using h1)]
    split
    · rw [if_pos trivial]
      exact ⟨rfl, put1_same _ _ _, fun m hm => put1_other _ _ _ _ hm⟩
    · exact ⟨rfl, put1_same _ _ _, fun m hm => put1_other _ _ _ _ hm⟩
theorem Sc.mS_n (s : Sc) (node mask : Int) : (s.mS node mask).n = s.n := by
  unfold Sc.mS
  split
  · rfl
  · split
    · split <;> rfl
    · rfl
theorem Sc.wS_n (s : Sc) (node id : Int) (p : Pg) (mask : Int) : (s.wS node id p mask).n = s.n := by
  unfold Sc.wS
  split <;> rfl

/-- The new store. -/
def Sc.new (k : Nat) : Sc := ⟨k, fun i => imageB i Pg.zero, fun _ => List.replicate 256 0, fun _ => 0, fun _ => false⟩
theorem zero_right : Pg.zero.right := ⟨Nat.zero_le _, fun i _ => ⟨Nat.zero_le _, fun _ => rfl⟩⟩
theorem Sc.new_ok (k : Nat) (h : k ≤ 32) : (Sc.new k).ok (fun _ => Pg.zero) (fun _ => none) :=
  ⟨⟨h, fun i _ => imageB_length i _ zero_right, fun m _ => List.length_replicate, fun m _ ho => absurd ho (by show ¬ false = true; decide)⟩, fun _ _ => zero_right, fun m k _ _ ho => absurd ho (by show ¬ false = true; decide), fun i _ _ => rfl, fun i I b _ ht => by cases ht⟩
end Go.Proofs.Ytfeghhgniahfkaa

/-
  Bytes put behind bytes where there is no room: a new row. Of no program.
-/
namespace Go.Proofs.Ytfeghhgniahfkaa
open Go.RowKit
set_option linter.unusedVariables false

theorem isB_cells {w : World} {b off n : Nat} {bs : List UInt8} (h : IsB w (some ⟨b, off, none⟩) n bs) : ∀ j u, (toV bs)[j]? = some u → w.cell? ((⟨b, off, none⟩ : Addr).add j) = some u := by
  intro j u hu
  have hj : j < bs.length := by
    have := (List.getElem?_eq_some_iff.1 hu).1
    rwa [toV_length] at this
  obtain ⟨b', off', hb, _, hc⟩ := h.2 (by have := h.1; omega)
  cases hb
  rw [Addr.add_lit, hc j (by have := h.1; omega), ← toV_get bs j hj]
  exact hu

theorem wpList_append_b {P : Program} (w : World) {ops : Array Oper} {rest : List Oper} {o : Oper} {a : Act} {Q : Exit → Act → World → Prop}
    (hg : o.guard = none) (s x : Operand) (t : TypeId) (hop : o.op = Op.call { callee := Callee.builtin Builtin.append, args := #[s, x], argTypes := #[t, t] })
    (e : TypeId) (ht : P.underlying t = some (.slice e)) (hi : (P.info? e).map (fun i => (i.zero, i.size, i.bytes)) = some (some (.int .u8 0), 1, 1))
    (b off n cap : Nat) (xs : List UInt8) (hs : a.eval s = .slice (some ⟨b, off, none⟩) n cap) (hB : IsB w (some ⟨b, off, none⟩) n xs)
    (b2 off2 m c : Nat) (ys : List UInt8) (hx : a.eval x = .slice (some ⟨b2, off2, none⟩) m c) (hB2 : IsB w (some ⟨b2, off2, none⟩) m ys)
    (hfull : cap < n + m) (hz : n + m ≤ 140737488355328)
    (hK : ∀ v' w', w'.ownsRow w.heap.size e 1 v' (n + m) (toV (xs ++ ys)) → w.grownBy w' none → wpList P ops Q rest (a.put o.dst v') w') :
    wpList P ops Q (o :: rest) a w := by
  obtain ⟨i, hi0, hi1⟩ := Option.map_eq_some_iff.1 hi
  simp only [Prod.mk.injEq] at hi1
  refine wpList_append_grows w hg s x t hop e i (.int .u8 0) 1 1 ht hi0 hi1.1 hi1.2.1 hi1.2.2 rfl (by omega) (some ⟨b, off, none⟩) n cap (toV xs) hs (fun h => nomatch h) (by rw [toV_length, hB.1, Nat.mul_one]) ?_
    ⟨b2, off2, none⟩ m c (toV ys) hx (by rw [toV_length, hB2.1, Nat.mul_one]) (isB_cells hB2) ?_ hfull (by unfold maxLen; omega) (by omega) ?_
  · intro b' hb'
    cases hb'
    exact isB_cells hB
  · intro u hu
    obtain ⟨y, _, rfl⟩ := List.mem_map.1 hu
    rfl
  · intro v' w' h1 h2
    refine hK v' w' ?_ h2
    have e2 : toV xs ++ toV ys = toV (xs ++ ys) := by simp [toV]
    rw [← e2]
    exact h1

/-- .. as one step of a region that draws its order. -/
theorem step_append_b {P : Program} {ops : Array Oper} {o : Oper} {a : Act} {w : World} {K : Act → World → Prop} {Q : Exit → Act → World → Prop} {E : Prop}
    (hg : o.guard = none) (s x : Operand) (t : TypeId) (hop : o.op = Op.call { callee := Callee.builtin Builtin.append, args := #[s, x], argTypes := #[t, t] })
    (e : TypeId) (ht : P.underlying t = some (.slice e)) (hi : (P.info? e).map (fun i => (i.zero, i.size, i.bytes)) = some (some (.int .u8 0), 1, 1))
    (b off n cap : Nat) (xs : List UInt8) (hs : a.eval s = .slice (some ⟨b, off, none⟩) n cap) (hB : IsB w (some ⟨b, off, none⟩) n xs)
    (b2 off2 m c : Nat) (ys : List UInt8) (hx : a.eval x = .slice (some ⟨b2, off2, none⟩) m c) (hB2 : IsB w (some ⟨b2, off2, none⟩) m ys)
    (hfull : cap < n + m) (hz : n + m ≤ 140737488355328)
    (hK : ∀ v' w', w'.ownsRow w.heap.size e 1 v' (n + m) (toV (xs ++ ys)) → w.grownBy w' none → K (a.put o.dst v') w') :
    if Region.wanted o (yielded ops a.tmps) = true then Oper.wp P o a w K Q else E := by
  obtain ⟨i, hi0, hi1⟩ := Option.map_eq_some_iff.1 hi
  simp only [Prod.mk.injEq] at hi1
  refine step_append_grows hg s x t hop e i (.int .u8 0) 1 1 ht hi0 hi1.1 hi1.2.1 hi1.2.2 rfl (by omega) (some ⟨b, off, none⟩) n cap (toV xs) hs (fun h => nomatch h) (by rw [toV_length, hB.1, Nat.mul_one]) ?_
    ⟨b2, off2, none⟩ m c (toV ys) hx (by rw [toV_length, hB2.1, Nat.mul_one]) (isB_cells hB2) ?_ hfull (by unfold maxLen; omega) (by omega) ?_
  · intro b' hb'
    cases hb'
    exact isB_cells hB
  · intro u hu
    obtain ⟨y, _, rfl⟩ := List.mem_map.1 hu
    rfl
  · intro v' w' h1 h2
    refine hK v' w' ?_ h2
    have e2 : toV xs ++ toV ys = toV (xs ++ ys) := by simp [toV]
    rw [← e2]
    exact h1
end Go.Proofs.Ytfeghhgniahfkaa

/-
  Bytes, a text, zeros put behind bytes that the call owns. Of no program.
-/
namespace Go.Proofs.Ytfeghhgniahfkaa
open Go.RowKit
set_option linter.unusedVariables false

section
variable {P : Program} (w : World) {ops : Array Oper} {rest : List Oper} {o : Oper} {a : Act} {Q : Exit → Act → World → Prop}

theorem toV_oneCell (bs : List UInt8) : ∀ u ∈ toV bs, u.oneCell' = true := by
  intro u hu
  obtain ⟨y, _, rfl⟩ := List.mem_map.1 hu
  rfl

/-- append(s, x...), both of bytes, s the call's own. -/
theorem wpList_append_ob (hg : o.guard = none) (s x : Operand) (t : TypeId) (hop : o.op = Op.call { callee := Callee.builtin Builtin.append, args := #[s, x], argTypes := #[t, t] })
    (e : TypeId) (ht : P.underlying t = some (.slice e)) (hi : (P.info? e).map (fun i => (i.zero, i.size, i.bytes)) = some (some (.int .u8 0), 1, 1))
    (base : Nat) (v : Value) (n : Nat) (xs : List UInt8) (hs : a.eval s = v) (hown : w.ownsRow base e 1 v n (toV xs))
    (ad : Option Addr) (m c : Nat) (ys : List UInt8) (hx : a.eval x = .slice ad m c) (hB : IsB w ad m ys) (hnil : ad = none → c = 0) (hz : n + m ≤ 140737488355328) (hbase : base ≤ w.heap.size)
    (hK : ∀ v' w', w'.ownsRow base e 1 v' (n + m) (toV (xs ++ ys)) → w.grownBy w' v.ownBlock → wpList P ops Q rest (a.put o.dst v') w') :
    wpList P ops Q (o :: rest) a w := by
  obtain ⟨i, hi0, hi1⟩ := Option.map_eq_some_iff.1 hi
  simp only [Prod.mk.injEq] at hi1
  have hl := hB.1
  cases ad with
  | none =>
    obtain rfl : m = 0 := by
      by_cases hm : 0 < m
      · obtain ⟨b, off, h1, _⟩ := hB.2 hm
        cases h1
      · omega
    obtain rfl := List.eq_nil_of_length_eq_zero hl
    obtain rfl := hnil rfl
    refine wpList_append_own_none hg s x t hop base e i 1 ht hi0 v n (toV xs) hs hown hx (hK v w ?_ ⟨rfl, rfl, rfl, Nat.le_refl _, fun _ _ _ => rfl⟩)
    simpa using hown
  | some b =>
    refine wpList_append_own w hg s x t hop base e i (.int .u8 0) 1 1 ht hi0 hi1.1 hi1.2.1 hi1.2.2 rfl (by omega) v n (toV xs) hs hown b m c (toV ys) hx (by rw [toV_length, hl, Nat.mul_one]) ?_ (toV_oneCell ys) (by unfold maxLen; omega) (by omega) hbase ?_
    · intro j u hu
      have hj : j < ys.length := by
        have := (List.getElem?_eq_some_iff.1 hu).1
        rwa [toV_length] at this
      obtain ⟨b', off', hb, _, hc⟩ := hB.2 (by omega)
      cases hb
      rw [Addr.add_lit, hc j (by omega), ← toV_get ys j hj]
      exact hu
    · intro v' w' h1 h2 _
      rw [← toV_append] at h1
      exact hK v' w' h1 h2

/-- append(s, x...), x a text. -/
theorem wpList_append_os (hg : o.guard = none) (s x : Operand) (t u : TypeId) (hop : o.op = Op.call { callee := Callee.builtin Builtin.append, args := #[s, x], argTypes := #[t, u] })
    (e : TypeId) (ht : P.underlying t = some (.slice e)) (hu : P.underlying u = some .string) (hi : (P.info? e).map (fun i => (i.zero, i.size, i.bytes)) = some (some (.int .u8 0), 1, 1))
    (base : Nat) (v : Value) (n : Nat) (xs : List UInt8) (hs : a.eval s = v) (hown : w.ownsRow base e 1 v n (toV xs))
    (y : ByteArray) (hx : a.eval x = .string y) (hz : n + y.size ≤ 140737488355328) (hbase : base ≤ w.heap.size)
    (hK : ∀ v' w', w'.ownsRow base e 1 v' (n + y.size) (toV (xs ++ y.data.toList)) → w.grownBy w' v.ownBlock → wpList P ops Q rest (a.put o.dst v') w') :
    wpList P ops Q (o :: rest) a w := by
  obtain ⟨i, hi0, hi1⟩ := Option.map_eq_some_iff.1 hi
  simp only [Prod.mk.injEq] at hi1
  refine Lib.wpList_append_own_string w hg s x t u hop base e i ht hu hi0 hi1.1 hi1.2.1 hi1.2.2 v n (toV xs) hs hown y hx (by unfold maxLen; omega) hz hbase ?_
  intro v' w' h1 h2 _
  rw [toV_str] at h1
  exact hK v' w' h1 h2

theorem zeroCells_one (k : Nat) : Builtin.zeroCells (Value.int .u8 0).cells k = (zrow k).toArray := by
  apply Array.ext'
  have e : (Value.int IntKind.u8 0).cells = #[.int .u8 0] := rfl
  rw [e]
  unfold Builtin.zeroCells zrow
  simp only [Array.toList_map, Array.toList_range]
  apply List.ext_getElem
  · simp
  · intro i h1 h2
    simp [Nat.mod_one]
theorem toV_zeros (k : Nat) : zrow k = toV (List.replicate k 0) := by simp [zrow, toV]

theorem run_append_own_zeros (base : Nat) (t tn ty e : TypeId) (i : TypeInfo) (kn : IntKind) (ht : P.underlying t = some (.slice e)) (htn : P.underlying tn = some (.int kn)) (hi : P.info? e = some i) (hz : i.zero = some (.int .u8 0)) (hsize : i.size = 1) (hby : i.bytes = 1)
    (v : Value) (n : Nat) (xs : List Value) (hown : w.ownsRow base e 1 v n xs) (k : Nat) (h0 : 0 < k) (hbytes : n + k ≤ 140737488355328) (hbase : base ≤ w.heap.size) :
    ∃ v' w', (Builtin.append_ #[t, tn] ty #[v, .int .i64 (k : Int)]).run P w = .ok v' w' ∧ w'.ownsRow base e 1 v' (n + k) (xs ++ zrow k) ∧ w.grownBy w' v.ownBlock := by
  have h63 : n + k ≤ maxLen := by unfold maxLen; omega
  have hxl : xs.length = n := by simpa using hown.1
  have hlen : (xs ++ zrow k).length = (n + k) * 1 := by rw [List.length_append, hxl, zrow_length, Nat.mul_one]
  have grown : ∀ (old : Nat), ∀ (row : Option Nat),
      (w.drew.alloc (.cells (xs.toArray ++ (zrow k).toArray ++ (zrow (grownCap w (n + k) old e - (n + k))).toArray) e)).ownsRow base e 1
        (.slice (some ⟨w.heap.size, 0, none⟩) (n + k) (grownCap w (n + k) old e)) (n + k) (xs ++ zrow k) ∧
      w.grownBy (w.drew.alloc (.cells (xs.toArray ++ (zrow k).toArray ++ (zrow (grownCap w (n + k) old e - (n + k))).toArray) e)) row := by
    intro old row
    have hge := grownCap_ge w (n + k) old e
    have hcm : grownCap w (n + k) old e ≤ maxLen := grownCap_le_maxLen w (n + k) old e h63
    refine ⟨⟨hlen, .inr ⟨w.heap.size, _, _, rfl, hbase, heap_alloc_new w.drew _, hge, hcm, ?_, ?_⟩⟩, ⟨rfl, rfl, rfl, by simp, fun k hk _ => Below.heap_alloc w.drew _ k hk⟩⟩
    · simp only [Array.size_append, List.size_toArray, zrow_length, hxl]
      omega
    · simp only [Array.toList_append, List.append_assoc]
      rw [← List.append_assoc, ← hlen]
      exact List.take_left
  have hk : k ≠ 0 := by omega
  rcases hown.2 with ⟨rfl, rfl⟩ | ⟨g, cap, cur, rfl, hbg, hg, hnc, hcm, hcs, htake⟩
  · have hx : xs = [] := List.eq_nil_of_length_eq_zero hxl
    subst hx
    have hr := Lib.run_append_nil_zeros (P := P) w t tn ty e i (.int .u8 0) .i64 kn ht htn hi hz k h0 (by omega) (by omega) (by rw [hby]; omega)
    have hgr := grown 0 (Value.ownBlock (.slice none 0 0))
    rw [zeroCells_one, zeroCells_one] at hr
    simp only [Nat.zero_add, List.nil_append, Array.empty_append] at hgr ⊢
    exact ⟨_, _, hr, hgr.1, hgr.2⟩
  · by_cases hroom : n + k ≤ cap
    · have hcs' : cur.size = cap := by simpa using hcs
      have hw : IntKind.i64.wrap (k : Int) = k := by rw [IntKind.wrap_i64]; omega
      have h48i : ¬ (281474976710656 < (k : Int) * (i.bytes : Int)) := by rw [hby]; omega
      have hneg : ¬ ((k : Int) < 0) := by omega
      have hst := run_storeCells_at P g n e (zrow k) 0 cur w hg (by rw [zrow_length]; omega) (by intro u hu; rw [toV_zeros] at hu; exact toV_oneCell _ u hu)
      simp only [Nat.add_zero, zrow_length] at hst
      have hr : (Builtin.append_ #[t, tn] ty #[.slice (some ⟨g, 0, none⟩) n cap, .int .i64 (k : Int)]).run P w =
          .ok (.slice (some ⟨g, 0, none⟩) (n + k) cap) (w.setRow g (cur.toList.take n ++ zrow k ++ cur.toList.drop (n + k)).toArray) := by
        have h48i2 : ¬ (281474976710656 < (k : Int)) := by omega
        simp [Builtin.append_, run_underlying ht, run_underlying htn, sizeOf, typeInfo, zeroValue, hi, hz, asInt, asIntOf, hw, hk, hneg, hby, hsize, h48i2, hroom, zeroCells_one, Addr.add_lit, hst]
      refine ⟨_, _, hr, ⟨hlen, .inr ⟨g, cap, _, rfl, hbg, setRow_heap w g cur _ e _ hg, hroom, hcm, ?_, ?_⟩⟩, ⟨rfl, rfl, rfl, by simp, fun k _ hk => setRow_other w g k _ (fun e => hk (by simp [Value.ownBlock, e]))⟩⟩
      · simp only [List.size_toArray, List.length_append, List.length_take, List.length_drop, Array.length_toList, zrow_length]
        omega
      · have ht' : cur.toList.take n = xs := by simpa using htake
        rw [ht', ← hlen]
        exact List.take_left
    · have holds : ∀ j u, xs[j]? = some u → w.cell? ((⟨g, 0, none⟩ : Addr).add j) = some u := hown.cells (g := g) rfl
      have hfo := run_firstCells_some (P := P) w.drew i.size n ⟨g, 0, none⟩ n cap xs (by rw [hsize, hxl, Nat.mul_one]) (by simpa using holds)
      have hr := Lib.run_append_grow_zeros (P := P) w t tn ty e i (.int .u8 0) .i64 kn ht htn hi hz (some ⟨g, 0, none⟩) n cap xs hfo k h0 (by omega) (by omega) (by omega) (by rw [hby]; omega) (by rw [hby]; exact growslice_fits (by omega) (by omega))
      rw [zeroCells_one, zeroCells_one] at hr
      have hgr := grown cap (Value.ownBlock (.slice (some ⟨g, 0, none⟩) n cap))
      exact ⟨_, _, hr, hgr.1, hgr.2⟩

/-- append(s, make([]byte, k)...). -/
theorem wpList_append_oz (hg : o.guard = none) (s x : Operand) (t tn : TypeId) (hop : o.op = Op.call { callee := Callee.builtin Builtin.append, args := #[s, x], argTypes := #[t, tn] })
    (e : TypeId) (kn : IntKind) (ht : P.underlying t = some (.slice e)) (htn : P.underlying tn = some (.int kn)) (hi : (P.info? e).map (fun i => (i.zero, i.size, i.bytes)) = some (some (.int .u8 0), 1, 1))
    (base : Nat) (v : Value) (n : Nat) (xs : List UInt8) (hs : a.eval s = v) (hown : w.ownsRow base e 1 v n (toV xs))
    (k : Nat) (hx : a.eval x = .int .i64 (k : Int)) (h0 : 0 < k) (hz : n + k ≤ 140737488355328) (hbase : base ≤ w.heap.size)
    (hK : ∀ v' w', w'.ownsRow base e 1 v' (n + k) (toV (xs ++ List.replicate k 0)) → w.grownBy w' v.ownBlock → wpList P ops Q rest (a.put o.dst v') w') :
    wpList P ops Q (o :: rest) a w := by
  obtain ⟨i, hi0, hi1⟩ := Option.map_eq_some_iff.1 hi
  simp only [Prod.mk.injEq] at hi1
  obtain ⟨v', w', hr, h1, h2⟩ := run_append_own_zeros (P := P) w base t tn o.type e i kn ht htn hi0 hi1.1 hi1.2.1 hi1.2.2 v n (toV xs) hown k h0 hz hbase
  rw [toV_zeros, ← toV_append] at h1
  exact Lib.wpList_append_run w hg s x t tn hop v _ hs hx v' w' hr (hK v' w' h1 h2)
end
end Go.Proofs.Ytfeghhgniahfkaa

/-
  'copy' between slices, by what the operation answers. Of no program.
-/
namespace Go.Proofs.Ytfeghhgniahfkaa
open Go.RowKit
set_option linter.unusedVariables false

theorem wpList_copy_run {P : Program} {ops : Array Oper} {rest : List Oper} {o : Oper} {a : Act} {w w' : World} {Q : Exit → Act → World → Prop} (hgd : o.guard = none) (d x : Operand) (t u : TypeId) (hop : o.op = Op.call { callee := Callee.builtin Builtin.copy, args := #[d, x], argTypes := #[t, u] })
    (vd vx v' : Value) (hs : a.eval d = vd) (hx : a.eval x = vx) (hrun : (Builtin.copy_ #[t, u] o.type #[vd, vx]).run P w = .ok v' w') (h : wpList P ops Q rest (a.put o.dst v') w') : wpList P ops Q (o :: rest) a w := by
  refine wpList_plain hgd fun K hK => ?_
  unfold Oper.wp
  simp [execOp, hop, resolve, invoke, builtin, hs, hx, hrun, Result.andThen]
  exact hK _ _ h

/-- Bytes copied into a row that was made for them. -/
theorem run_copy_made {P : Program} (w x : World) (t ty e : TypeId) (ht : P.underlying t = some (.slice e)) (hi : (P.info? e).map (·.size) = some 1) (g n : Nat) (hb : Below w.heap.size w x) (hg : w.heap.size ≤ g) (hr : x.heap[g]? = some (.cells (zrow n).toArray e (0, 0))) (a : Option Addr) (c : Nat) (bs : List UInt8) (hB : IsB x a n bs) (hm : n ≤ maxLen) :
    ∃ w', (Builtin.copy_ #[t, t] ty #[.slice (some ⟨g, 0, none⟩) n n, .slice a n c]).run P x = .ok (.int .i64 (n : Int)) w' ∧ w'.ownsRow w.heap.size e 1 (.slice (some ⟨g, 0, none⟩) n n) n (toV bs) ∧ Below w.heap.size w w' := by
  have hl := hB.1
  rcases Nat.eq_zero_or_pos n with rfl | hn
  · obtain rfl : bs = [] := List.eq_nil_of_length_eq_zero hl
    exact ⟨x, run_copy_none (P := P) x t t ty e _ _ 0 0 0 c ht hi rfl, ⟨rfl, .inr ⟨g, 0, _, rfl, hg, hr, Nat.le_refl _, hm, rfl, rfl⟩⟩, hb⟩
  · obtain ⟨b, off, rfl, _, hc⟩ := hB.2 hn
    have r1 := run_copy_row P x t t ty e g 0 n n ⟨b, off, none⟩ n c (zrow n).toArray e (toV bs) ht hi hr (by rw [toV_length, hl]; exact (Nat.min_self n).symm) (fun j v hv => by
      obtain ⟨h1, rfl⟩ := toV_some bs j v hv
      rw [Addr.add_lit]
      exact hc j (by omega)) (by rw [toV_length, hl]; simp [zrow]) (toV_one bs)
    rw [toV_length, hl] at r1
    refine ⟨_, r1, ⟨by rw [toV_length, hl, Nat.mul_one], .inr ⟨g, n, _, rfl, hg, setRow_heap x g _ _ e _ hr, Nat.le_refl _, hm, ?_, ?_⟩⟩, below_setRow hb hg _⟩
    · simp [zrow, toV_length, hl]
    · rw [Nat.mul_one]
      simp only [List.take_zero, List.nil_append]
      have e2 : n = (toV bs).length := by rw [toV_length, hl]
      rw [e2]
      exact List.take_left
/-- .. as one step of a region that draws its order. -/
theorem step_copy_run {P : Program} {ops : Array Oper} {o : Oper} {a : Act} {w : World} {K : Act → World → Prop} {Q : Exit → Act → World → Prop} {E : Prop}
    (hg : o.guard = none) (d x : Operand) (t u : TypeId) (hop : o.op = Op.call { callee := Callee.builtin Builtin.copy, args := #[d, x], argTypes := #[t, u] })
    (vd vx v' : Value) (w' : World) (hs : a.eval d = vd) (hx : a.eval x = vx) (hrun : (Builtin.copy_ #[t, u] o.type #[vd, vx]).run P w = .ok v' w') (hK : K (a.put o.dst v') w') :
    if Region.wanted o (yielded ops a.tmps) = true then Oper.wp P o a w K Q else E := by
  have hw : Region.wanted o (yielded ops a.tmps) = true := by simp [Region.wanted, hg]
  rw [if_pos hw]
  unfold Oper.wp
  simp [execOp, hop, resolve, invoke, builtin, hs, hx, hrun, Result.andThen]
  exact hK
end Go.Proofs.Ytfeghhgniahfkaa

/-
  What the program says of bytes.
-/
namespace Go.Proofs.Ytfeghhgniahfkaa
open Go.RowKit

theorem info8 : (Try.prog.info? 5).map (fun i => (i.zero, i.size, i.bytes)) = some (some (.int .u8 0), 1, 1) := by kernel_rfl
theorem info8s : (Try.prog.info? 5).map (·.size) = some 1 := by kernel_rfl
end Go.Proofs.Ytfeghhgniahfkaa

/-
  Structs in memory, each a block of its own: how they are loaded and stored. Of no program.
-/
namespace Go.Proofs.Ytfeghhgniahfkaa
open Go.RowKit
set_option linter.unusedVariables false

/-- A block that holds a struct's cells. -/
def RowAt (w : World) (b : Nat) (t : TypeId) (cs : Array Value) : Prop := w.heap[b]? = some (.cells cs t (0, 0))
theorem RowAt.below {w w' : World} {b B : Nat} {t : TypeId} {cs : Array Value} (h : RowAt w b t cs) (hb : Below B w w') (hB : b < B) : RowAt w' b t cs := (hb.block b hB).trans h
theorem RowAt.lt {w : World} {b : Nat} {t : TypeId} {cs : Array Value} (h : RowAt w b t cs) : b < w.heap.size := (Array.getElem?_eq_some_iff.1 h).1
theorem RowAt.later {w w' : World} {b : Nat} {t : TypeId} {cs : Array Value} (h : RowAt w b t cs) (hb : Below w.heap.size w w') : RowAt w' b t cs := h.below hb h.lt
theorem RowAt.cell {w : World} {b : Nat} {t : TypeId} {cs : Array Value} (h : RowAt w b t cs) (j : Nat) (v : Value) (hv : cs[j]? = some v) : w.cell? ⟨b, j, none⟩ = some v := by
  rw [cell_of_row w b j _ _ (0, 0) h]
  exact hv
theorem RowAt.free {w : World} {b : Nat} {t : TypeId} {cs : Array Value} (h : RowAt w b t cs) (j : Nat) : w.frozen? ⟨b, j, none⟩ = false := frozen_of_row w b j _ _ h
theorem RowAt.other {w : World} {b : Nat} {t : TypeId} {cs : Array Value} (h : RowAt w b t cs) (a : Addr) (v : Value) (hn : b ≠ a.block) : RowAt (w.setCell a v) b t cs := (heap_setCell_other w a b v hn).trans h
theorem RowAt.set {w : World} {b : Nat} {t : TypeId} {cs : Array Value} (h : RowAt w b t cs) (j : Nat) (v : Value) : RowAt (w.setCell ⟨b, j, none⟩ v) b t (cs.setIfInBounds j v) := heap_setCell_same w b j _ _ v h
theorem RowAt.new (w : World) (t : TypeId) (cs : Array Value) : RowAt (w.alloc (.cells cs t)) w.heap.size t cs := heap_alloc_new w _

section
variable {P : Program} {ops : Array Oper} {rest : List Oper} {o : Oper} {a : Act} {w : World} {Q : Exit → Act → World → Prop}

theorem wpList_load_at (hw : Region.wanted o (yielded ops a.tmps) = true) (t : TypeId) (x : Operand) (ho : o.op = .load t x) (g : Nat) (hx : a.eval x = .pointer (some ⟨g, 0, none⟩)) (cs : Array Value) (hg : RowAt w g t cs) (d : TypeDesc)
    (hu : P.underlying t = some d) (hd : (match d with | .struct _ | .array _ _ => true | _ => false) = true) (hi : (P.info? t).map (·.size) = some cs.size) (h : wpList P ops Q rest (a.put o.dst (.agg cs)) w) : wpList P ops Q (o :: rest) a w :=
  wpList_step fun K hK => by
    simp only [hw, if_true]
    exact wp_load_row t x ho g hx t cs (0, 0) d hg hu hd hi (hK _ _ h)

theorem wpList_store_at (hgd : o.guard = none) (t : TypeId) (x y : Operand) (ho : o.op = .store t x y) (g : Nat) (c0 cs : Array Value) (hx : a.eval x = .pointer (some ⟨g, 0, none⟩)) (hy : a.eval y = .agg cs) (hg : RowAt w g t c0)
    (hi : (P.info? t).map (·.size) = some cs.size) (hz : c0.size = cs.size) (h1 : cs.all (·.oneCell') = true)
    (h : ∀ w2, RowAt w2 g t cs → (∀ B w0, Below B w0 w → B ≤ g → Below B w0 w2) → (∀ k t' c', k ≠ g → RowAt w k t' c' → RowAt w2 k t' c') → wpList P ops Q rest (a.put o.dst undef) w2) : wpList P ops Q (o :: rest) a w := by
  refine wpList_store_row hgd t x y ho g cs hx hy t c0 hg hi hz h1 (h _ ?_ (fun B w0 hb hB => ?_) (fun k t' c' hk hr => ?_))
  · exact setRow_heap w g c0 cs t (0, 0) hg
  · exact ⟨hb.1, hb.2, hb.3, by simp [World.setRow]; exact hb.4, fun k hk => (setRow_other w g k _ (by omega)).trans (hb.5 k hk)⟩
  · exact (setRow_other w g k _ hk).trans hr

theorem res_at {fn : Func} {p u : Tmp} {t : TypeId} (h : fn.results = #[.cell p t, .tmp u]) (tmps : Array Value) (w : World) (g : Nat) (cs : Array Value) (d : TypeDesc) (hp : tmps.getD p undef = .pointer (some ⟨g, 0, none⟩)) (hg : RowAt w g t cs)
    (hu : P.underlying t = some d) (hd : (match d with | .struct _ | .array _ _ => true | _ => false) = true) (hi : (P.info? t).map (·.size) = some cs.size) :
    (results fn tmps).run P w = .ok (.tuple #[.agg cs, tmps.getD u undef]) w := by
  have h1 := run_loadVar_row (P := P) w g t t cs (0, 0) d hg hu hd hi
  rw [results_cell_tmp h, hp]
  simp only [asAddr, Sem.run_pure, Result.andThen_ok, h1]

theorem results_cells {fn : Func} {p q : Tmp} {t : TypeId} (h : fn.results = #[.cell p t, .cell q t]) (tmps : Array Value) (P : Program) (w : World) :
    (results fn tmps).run P w =
      ((asAddr (tmps.getD p undef)).run P w).andThen fun a w₁ => ((loadVar t a).run P w₁).andThen fun v w₂ => ((asAddr (tmps.getD q undef)).run P w₂).andThen fun b w₃ => ((loadVar t b).run P w₃).andThen fun u w₄ => .ok (.tuple #[v, u]) w₄ := by
  simp only [results, h]
  simp [Sem.run_bind, Result.andThen]
theorem res_two {fn : Func} {p q : Tmp} {t : TypeId} (h : fn.results = #[.cell p t, .cell q t]) (tmps : Array Value) (w : World) (g k : Nat) (cs ds : Array Value) (d : TypeDesc) (hp : tmps.getD p undef = .pointer (some ⟨g, 0, none⟩)) (hq : tmps.getD q undef = .pointer (some ⟨k, 0, none⟩)) (hg : RowAt w g t cs) (hk : RowAt w k t ds)
    (hu : P.underlying t = some d) (hd : (match d with | .struct _ | .array _ _ => true | _ => false) = true) (hi : (P.info? t).map (·.size) = some cs.size) (hj : (P.info? t).map (·.size) = some ds.size) :
    (results fn tmps).run P w = .ok (.tuple #[.agg cs, .agg ds]) w := by
  have h1 := run_loadVar_row (P := P) w g t t cs (0, 0) d hg hu hd hi
  have h2 := run_loadVar_row (P := P) w k t t ds (0, 0) d hk hu hd hj
  rw [results_cells h, hp, hq]
  simp only [asAddr, Sem.run_pure, Result.andThen_ok, h1, h2]
end

theorem gen_w {Q : World → Prop} (H : World → Prop) {x : World} (h : H x) (k : ∀ y, H y → Q y) : Q x := k x h

theorem empty_iff (s : ByteArray) : s.toList.isEmpty = true ↔ s.size = 0 := by
  rw [ByteArray.toList_eq]
  obtain ⟨⟨l⟩⟩ := s
  cases l <;> simp [ByteArray.size]
theorem lt_alloc {w : World} {b : Nat} (hb : b < w.heap.size) (o : Obj) : b < (w.alloc o).heap.size := by
  simp
  omega
theorem below_dn {B : Nat} {w w' : World} (h : Below B w w') (k : Nat) : Below B w (w'.drewN k) := ⟨h.1, h.2, h.3, h.4, h.5⟩
theorem gen_world {Q : World → Prop} (H : World → Prop) {x : World} (h : H x) (k : ∀ y, H y → Q y) : Q x := k x h
theorem gen_calls {P : Program} {f : FuncId} {args : Array Value} {Q : Ending → World → Prop} (H : World → Prop) {x : World} (h : H x) (k : ∀ y, H y → Calls P f args y Q) : Calls P f args x Q := k x h
theorem gen_wp {P : Program} {c : Code} {Q : Exit → Act → World → Prop} {a : Act} (H : World → Prop) {x : World} (h : H x) (k : ∀ y, H y → Code.wp P c Q a y) : Code.wp P c Q a x := k x h
/-- One operation by its value. -/
theorem wpList_val {P : Program} {ops : Array Oper} {rest : List Oper} {o : Oper} {a : Act} {w : World} {Q : Exit → Act → World → Prop} (hw : Region.wanted o (yielded ops a.tmps) = true) (v : Value) (hv : (execOp a.eval o).run P w = .ok (.value v) w)
    (h : wpList P ops Q rest (a.put o.dst v) w) : wpList P ops Q (o :: rest) a w :=
  wpList_step fun K hK => by
    simp only [hw, if_true]
    unfold Oper.wp
    rw [hv]
    exact hK _ _ h
theorem wpList_binop {P : Program} {ops : Array Oper} {rest : List Oper} {o : Oper} {a : Act} {w : World} {Q : Exit → Act → World → Prop} (hw : Region.wanted o (yielded ops a.tmps) = true) (op : BinOp) (t r : TypeId) (x y : Operand) (ho : o.op = .binOp op t x y r) (u v z : Value) (hu : a.eval x = u) (hv : a.eval y = v) (hg : (eqGuard op t x y u v).run P w = .ok () w)
    (hz : (binOp op t u v).run P w = .ok z w) (h : wpList P ops Q rest (a.put o.dst z) w) : wpList P ops Q (o :: rest) a w :=
  wpList_val hw z (by unfold execOp; simp only [ho, hu, hv, Sem.run_bind, hg, hz, Result.andThen_ok, Sem.run_pure]) h
end Go.Proofs.Ytfeghhgniahfkaa

/-
  Pages in memory: how they are read, loaded and stored.
-/
namespace Go.Proofs.Ytfeghhgniahfkaa
open Go.RowKit
set_option linter.unusedVariables false

/-- A page in memory. -/
def PgAt (w : World) (b : Nat) (p : Pg) : Prop := w.heap[b]? = some (.cells (pgA p) 35 (0, 0))
theorem PgAt.lsn {w : World} {b : Nat} {p : Pg} (h : PgAt w b p) : w.cell? ⟨b, 0, none⟩ = some (.int .u64 p.l) := by
  rw [cell_of_row w b 0 _ _ (0, 0) h]
  rfl
theorem PgAt.used {w : World} {b : Nat} {p : Pg} (h : PgAt w b p) (i : Nat) (hi : i < 8) : w.cell? ⟨b, 1 + i * 2, none⟩ = some (.bool (p.u i)) := by
  rw [cell_of_row w b (1 + i * 2) _ _ (0, 0) h]
  exact pgA_used p i hi
theorem PgAt.val {w : World} {b : Nat} {p : Pg} (h : PgAt w b p) (i : Nat) (hi : i < 8) : w.cell? ⟨b, 1 + i * 2 + 1, none⟩ = some (.string (p.s i)) := by
  rw [cell_of_row w b (1 + i * 2 + 1) _ _ (0, 0) h]
  exact pgA_val p i hi
theorem PgAt.below {w w' : World} {b B : Nat} {p : Pg} (h : PgAt w b p) (hb : Below B w w') (hB : b < B) : PgAt w' b p := (hb.block b hB).trans h

theorem PgAt.alloc {w : World} {b : Nat} {p : Pg} (h : PgAt w b p) (hb : b < w.heap.size) (o : Obj) : PgAt (w.alloc o) b p := h.below ((Below.refl w.heap.size w).alloc (Nat.le_refl _) o) hb
theorem load_page {b : Nat} {p : Pg} (x : World) (h : PgAt x b p) : (Instr.loadAt 35 (.pointer (some ⟨b, 0, none⟩))).run Try.prog x = .ok (.agg (pgA p)) x := by
  have h1 := run_loadVar_row (P := Try.prog) x b 35 35 (pgA p) (0, 0) _ h Try.underlying35 rfl (by show _ = some 17; kernel_rfl)
  simp only [Instr.loadAt, Instr.sureAddr, Sem.run_bind, Sem.run_pure, Result.andThen_ok, h1]

/-- All cells of a page. -/
theorem PgAt.all {x : World} {b : Nat} {p : Pg} (h : PgAt x b p) : x.cell? ⟨b, 0, none⟩ = some (.int .u64 p.l) ∧ x.cell? ⟨b, 1, none⟩ = some (.bool (p.u 0)) ∧ x.cell? ⟨b, 2, none⟩ = some (.string (p.s 0)) ∧ x.cell? ⟨b, 3, none⟩ = some (.bool (p.u 1)) ∧ x.cell? ⟨b, 4, none⟩ = some (.string (p.s 1)) ∧ x.cell? ⟨b, 5, none⟩ = some (.bool (p.u 2)) ∧ x.cell? ⟨b, 6, none⟩ = some (.string (p.s 2)) ∧ x.cell? ⟨b, 7, none⟩ = some (.bool (p.u 3)) ∧ x.cell? ⟨b, 8, none⟩ = some (.string (p.s 3)) ∧ x.cell? ⟨b, 9, none⟩ = some (.bool (p.u 4)) ∧ x.cell? ⟨b, 10, none⟩ = some (.string (p.s 4)) ∧ x.cell? ⟨b, 11, none⟩ = some (.bool (p.u 5)) ∧ x.cell? ⟨b, 12, none⟩ = some (.string (p.s 5)) ∧ x.cell? ⟨b, 13, none⟩ = some (.bool (p.u 6)) ∧ x.cell? ⟨b, 14, none⟩ = some (.string (p.s 6)) ∧ x.cell? ⟨b, 15, none⟩ = some (.bool (p.u 7)) ∧ x.cell? ⟨b, 16, none⟩ = some (.string (p.s 7)) :=
  ⟨h.lsn, h.used 0 (by omega), h.val 0 (by omega), h.used 1 (by omega), h.val 1 (by omega), h.used 2 (by omega), h.val 2 (by omega), h.used 3 (by omega), h.val 3 (by omega), h.used 4 (by omega), h.val 4 (by omega), h.used 5 (by omega), h.val 5 (by omega), h.used 6 (by omega), h.val 6 (by omega), h.used 7 (by omega), h.val 7 (by omega)⟩

theorem pg_drew {w : World} {b : Nat} {p : Pg} (h : PgAt w b p) : PgAt w.drew b p := h

theorem res_page {fn : Func} {p u : Tmp} (h : fn.results = #[.cell p 35, .tmp u]) (tmps : Array Value) (w : World) (g : Nat) (q : Pg) (hp : tmps.getD p undef = .pointer (some ⟨g, 0, none⟩)) (hg : PgAt w g q) :
    (results fn tmps).run Try.prog w = .ok (.tuple #[.agg (pgA q), tmps.getD u undef]) w := by
  have h1 := run_loadVar_row (P := Try.prog) w g 35 35 (pgA q) (0, 0) _ hg Try.underlying35 rfl (by show _ = some 17; kernel_rfl)
  rw [results_cell_tmp h, hp]
  simp only [asAddr, Sem.run_pure, Result.andThen_ok, h1]

theorem ne_list2 (s : ByteArray) (l : List UInt8) (h : l ≠ s.data.toList) : ((⟨l.toArray⟩ : ByteArray).toList == s.toList) = false := by
  rw [beq_eq_false_iff_ne]
  intro e
  apply h
  have e1 : ∀ b : ByteArray, b.toList = b.data.toList := fun b => ByteArray.toList_eq b
  rw [e1, e1] at e
  exact e

theorem pgA_one (q : Pg) : (pgA q).all (·.oneCell') = true := by simp [pgA, Value.oneCell']

/-- A page stored over another one. -/
theorem wpList_store_page {ops : Array Oper} {rest : List Oper} {o : Oper} {a : Act} {w : World} {Q : Exit → Act → World → Prop} (hgd : o.guard = none) (x y : Operand) (ho : o.op = .store 35 x y)
    (g : Nat) (q0 q : Pg) (hx : a.eval x = .pointer (some ⟨g, 0, none⟩)) (hy : a.eval y = .agg (pgA q)) (hg : PgAt w g q0)
    (h : ∀ w2, PgAt w2 g q → (∀ B w0, Below B w0 w → B ≤ g → Below B w0 w2) → wpList Try.prog ops Q rest (a.put o.dst undef) w2) : wpList Try.prog ops Q (o :: rest) a w := by
  have hi : (Try.prog.info? 35).map (·.size) = some (pgA q).size := by show _ = some 17; kernel_rfl
  refine wpList_store_row hgd 35 x y ho g (pgA q) hx hy 35 (pgA q0) hg hi rfl (pgA_one q) (h _ ?_ fun B w0 hb hB => ?_)
  · exact setRow_heap w g (pgA q0) (pgA q) 35 (0, 0) hg
  · exact ⟨hb.1, hb.2, hb.3, by simp [World.setRow]; exact hb.4, fun k hk => (setRow_other w g k _ (by omega)).trans (hb.5 k hk)⟩

theorem PgAt.free {w : World} {b : Nat} {p : Pg} (h : PgAt w b p) (j : Nat) : w.frozen? ⟨b, j, none⟩ = false := frozen_of_row w b j _ _ h
theorem PgAt.other {w : World} {b : Nat} {p : Pg} (h : PgAt w b p) (a : Addr) (v : Value) (hn : b ≠ a.block) : PgAt (w.setCell a v) b p := (heap_setCell_other w a b v hn).trans h

/-- A page that is loaded, under a guard or not. -/
theorem wpList_load_page {ops : Array Oper} {rest : List Oper} {o : Oper} {a : Act} {w : World} {Q : Exit → Act → World → Prop} (hw : Region.wanted o (yielded ops a.tmps) = true) (x : Operand) (ho : o.op = .load 35 x)
    (g : Nat) (hx : a.eval x = .pointer (some ⟨g, 0, none⟩)) (q : Pg) (hg : PgAt w g q) (h : wpList Try.prog ops Q rest (a.put o.dst (.agg (pgA q))) w) : wpList Try.prog ops Q (o :: rest) a w :=
  wpList_step fun K hK => by
    simp only [hw, if_true]
    exact wp_load_row 35 x ho g hx 35 (pgA q) (0, 0) _ hg Try.underlying35 rfl (by show _ = some 17; kernel_rfl) (hK _ _ h)
end Go.Proofs.Ytfeghhgniahfkaa

/-
  Eight cells as one value, and a cell: how they are loaded and indexed.
-/
namespace Go.Proofs.Ytfeghhgniahfkaa
open Go.RowKit
set_option linter.unusedVariables false

/-- A cell's cells. -/
def ceA (u : Bool) (s : ByteArray) : Array Value := #[.bool u, .string s]
theorem infoCe : (Try.prog.info? 32).map (·.size) = some 2 := by kernel_rfl
theorem ceA_one (u : Bool) (s : ByteArray) : (ceA u s).all (·.oneCell') = true := by simp [ceA, Value.oneCell']

/-- The eight cells of a page, as a value. -/
def csA (p : Pg) : Array Value := #[.bool (p.u 0), .string (p.s 0), .bool (p.u 1), .string (p.s 1), .bool (p.u 2), .string (p.s 2), .bool (p.u 3), .string (p.s 3), .bool (p.u 4), .string (p.s 4), .bool (p.u 5), .string (p.s 5), .bool (p.u 6), .string (p.s 6), .bool (p.u 7), .string (p.s 7)]
theorem infoCs : (Try.prog.info? 33).map (·.size) = some 16 := by kernel_rfl
theorem csA_one (p : Pg) : (csA p).all (·.oneCell') = true := by simp [csA, Value.oneCell']
theorem csA_ext (p : Pg) : ((pgA p).extract 1 (1 + 16)).toList = (csA p).toList := by simp [pgA, csA]
theorem same_csA {p q : Pg} (h : p.same q) : csA p = csA q := by
  apply Array.ext'
  rw [← csA_ext, ← csA_ext, same_pgA h]
theorem csA_len (p : Pg) : (Try.prog.info? 33).map (·.size) = some (csA p).toList.length := infoCs
theorem csA_used (p : Pg) (i : Nat) (h : i < 8) : (csA p)[i * 2]? = some (.bool (p.u i)) := by
  rcases lt8 h with rfl | rfl | rfl | rfl | rfl | rfl | rfl | rfl <;> rfl
theorem csA_val (p : Pg) (i : Nat) (h : i < 8) : (csA p)[i * 2 + 1]? = some (.string (p.s i)) := by
  rcases lt8 h with rfl | rfl | rfl | rfl | rfl | rfl | rfl | rfl <;> rfl

theorem load_cs {b : Nat} {p : Pg} (x : World) (h : PgAt x b p) : (Instr.loadAt 33 (.pointer (some ⟨b, 1, none⟩))).run Try.prog x = .ok (.agg (csA p)) x := by
  have hr := World.rangeAt_of_block h 1 16
  rw [csA_ext] at hr
  have h1 := run_loadAt_mid (P := Try.prog) x b 1 33 _ _ hr Try.underlying33 rfl (csA_len p)
  rwa [Array.toArray_toList] at h1

/-- A page's eight cells that are loaded, under a guard or not. -/
theorem wpList_load_cs {ops : Array Oper} {rest : List Oper} {o : Oper} {a : Act} {w : World} {Q : Exit → Act → World → Prop} (hw : Region.wanted o (yielded ops a.tmps) = true) (x : Operand) (ho : o.op = .load 33 x)
    (g : Nat) (hx : a.eval x = .pointer (some ⟨g, 1, none⟩)) (q : Pg) (hg : PgAt w g q) (h : wpList Try.prog ops Q rest (a.put o.dst (.agg (csA q))) w) : wpList Try.prog ops Q (o :: rest) a w :=
  wpList_step fun K hK => by
    simp only [hw, if_true]
    unfold Oper.wp execOp
    simp only [ho, hx, Sem.run_bind, load_cs w hg, Result.andThen_ok, Sem.run_pure]
    exact hK _ _ h

theorem run_index_cs (p : Pg) (j : Nat) (hj : j < 8) (w : World) : (Instr.index 33 (.agg (csA p)) (.int .i64 (j : Int))).run Try.prog w = .ok (.agg (ceA (p.u j) (p.s j))) w := by
  rcases lt8 hj with rfl | rfl | rfl | rfl | rfl | rfl | rfl | rfl <;> kernel_rfl

/-- One of eight cells. -/
theorem wpList_index_cs {ops : Array Oper} {rest : List Oper} {o : Oper} {a : Act} {w : World} {Q : Exit → Act → World → Prop} (hw : Region.wanted o (yielded ops a.tmps) = true) (x y : Operand) (ho : o.op = .index 33 x y)
    (p : Pg) (j : Nat) (hj : j < 8) (hx : a.eval x = .agg (csA p)) (hy : a.eval y = .int .i64 (j : Int)) (h : wpList Try.prog ops Q rest (a.put o.dst (.agg (ceA (p.u j) (p.s j)))) w) : wpList Try.prog ops Q (o :: rest) a w :=
  wpList_step fun K hK => by
    simp only [hw, if_true]
    unfold Oper.wp execOp
    simp only [ho, hx, hy, Sem.run_bind, run_index_cs p j hj w, Result.andThen_ok, Sem.run_pure]
    exact hK _ _ h
end Go.Proofs.Ytfeghhgniahfkaa

/-
  The contracts of pack.Fits, pack.longer, pack.Put.
-/
namespace Go.Proofs.Ytfeghhgniahfkaa
open Go.RowKit
set_option linter.unusedVariables false

set_option maxRecDepth 4000 in
set_option maxHeartbeats 400000 in
theorem fits_no1 (k n : Int) (w : World) (h : k < 1) :
    Calls Try.prog 76 #[.int .i64 k, .int .u64 n] w fun e w' => e = .returned (.bool false) ∧ w = w' := by
  have h1 : ¬ (1 : Int) ≤ k := by omega
  go_enter Try.func76, Try.ntmps76
  go_wp2
  go_ret
  exact ⟨rfl, rfl⟩

set_option maxRecDepth 4000 in
set_option maxHeartbeats 400000 in
theorem fits_no2 (k n : Int) (w : World) (h : 8 < k) :
    Calls Try.prog 76 #[.int .i64 k, .int .u64 n] w fun e w' => e = .returned (.bool false) ∧ w = w' := by
  have h1 : (1 : Int) ≤ k := by omega
  have h2 : ¬ k ≤ 8 := by omega
  go_enter Try.func76, Try.ntmps76
  go_wp2
  go_ret
  exact ⟨rfl, rfl⟩

set_option maxRecDepth 4000 in
set_option maxHeartbeats 400000 in
theorem fits_yes (k n : Nat) (w : World) (h1 : 1 ≤ k) (h2 : k ≤ 8) (hn : n < 18446744073709551616) :
    Calls Try.prog 76 #[.int .i64 k, .int .u64 n] w fun e w' => e = .returned (.bool (decide (n < 256 ^ k))) ∧ w = w' := by
  have h3 : (1 : Int) ≤ (k : Int) := by omega
  have h4 : (k : Int) ≤ 8 := by omega
  go_enter Try.func76, Try.ntmps76
  go_wp2
  go_ret
  exact ⟨by rw [← shr_zero n k]; rfl, rfl⟩

theorem fits_true (k n : Nat) (w : World) (h1 : 1 ≤ k) (h2 : k ≤ 8) (hn : n < 256 ^ k) :
    Calls Try.prog 76 #[.int .i64 k, .int .u64 n] w fun e w' => e = .returned (.bool true) ∧ w = w' := by
  have F := fits_yes k n w h1 h2 (Nat.lt_of_lt_of_le hn (pow256_le k h2))
  rwa [decide_eq_true hn] at F

theorem fits_false (k n : Int) (w : World) (h : k < 1 ∨ 8 < k ∨ (256 : Int) ^ k.toNat ≤ n) (h0 : 0 ≤ n) (hn : n < 18446744073709551616) :
    Calls Try.prog 76 #[.int .i64 k, .int .u64 n] w fun e w' => e = .returned (.bool false) ∧ w = w' := by
  by_cases h1 : k < 1
  · exact fits_no1 k n w h1
  by_cases h2 : 8 < k
  · exact fits_no2 k n w h2
  obtain ⟨kn, rfl⟩ := Int.eq_ofNat_of_zero_le (show 0 ≤ k by omega)
  obtain ⟨nn, rfl⟩ := Int.eq_ofNat_of_zero_le h0
  have h3 : (256 : Int) ^ kn ≤ (nn : Int) := by rcases h with h | h | h <;> first | omega | exact h
  have h4 : ((256 ^ kn : Nat) : Int) ≤ (nn : Int) := by simpa using h3
  have F := fits_yes kn nn w (by omega) (by omega) (by omega)
  rwa [decide_eq_false (show ¬ nn < 256 ^ kn by omega)] at F


set_option maxRecDepth 4000 in
set_option maxHeartbeats 400000 in
theorem longer_any (a : Option Addr) (len cap m : Nat) (bs : List UInt8) (w : World) (hB : IsB w a len bs) (hl : len + m ≤ 281474976710656) :
    Calls Try.prog 77 #[.slice a len cap, .int .i64 m] w fun e w' => e = .returned (.slice (some ⟨w.heap.size, 0, none⟩) len (len + m)) ∧
      w'.ownsRow w.heap.size 5 1 (.slice (some ⟨w.heap.size, 0, none⟩) len (len + m)) len (toV bs) ∧ Below w.heap.size w w' := by
  have hmk := run_mk (P := Try.prog) 61 5 Try.underlying61 info8 len m hl
  have hrow : (w.alloc (.cells (zrow (len + m)).toArray 5)).heap[w.heap.size]? = some (.cells (zrow (len + m)).toArray 5 (0, 0)) := heap_alloc_new w _
  go_enter Try.func77, Try.ntmps77
  go_wp2_with (refine wpList_copy_splice rfl (.tmp 13) (.tmp 14) 61 61 rfl 5 Try.underlying61 info8s (some ⟨w.heap.size, 0, none⟩) a len (len + m) len cap rfl rfl w.heap.size 0 (zrow (len + m)) 5 hrow (toV bs) (by rw [toV_length, hB.1]; exact (Nat.min_self _).symm) (hB.hpos _ _) (by rw [toV_length, zrow_length, hB.1]; omega) (toV_one bs) w.heap.size w ((Below.refl _ _).alloc (Nat.le_refl _) _) (Nat.le_refl _) ?_)
  intro w2 HG hb2
  go_wp2
  go_ret
  exact ⟨rfl, owns_spliced hB.1 (Nat.le_refl _) hl HG.out, hb2⟩

set_option maxRecDepth 4000 in
set_option maxHeartbeats 400000 in
theorem put_ok (a : Option Addr) (len cap k n : Nat) (bs : List UInt8) (w : World) (hB : IsB w a len bs) (hl : len + 8 ≤ 281474976710656) (h1 : 1 ≤ k) (h2 : k ≤ 8) (hn : n < 256 ^ k) :
    Calls Try.prog 70 #[.slice a len cap, .int .i64 k, .int .u64 n] w fun e w' => e = .returned (.tuple #[.slice (some ⟨w.heap.size, 0, none⟩) (len + k) (len + k), .int .i64 0]) ∧
      w'.ownsRow w.heap.size 5 1 (.slice (some ⟨w.heap.size, 0, none⟩) (len + k) (len + k)) (len + k) (toV (bs ++ beB k n)) ∧ Below w.heap.size w w' := by
  have hn2 : n < 18446744073709551616 := Nat.lt_of_lt_of_le hn (pow256_le k h2)
  obtain ⟨i0, hi, hz0, hz1, hz2⟩ := info_parts info8
  go_enter Try.func70, Try.ntmps70
  go_wp2_with fail
  refine (fits_true k n _ h1 h2 hn).mono ?_
  rintro e w1 ⟨rfl, rfl⟩
  go_wp2_with fail
  refine (longer_any a len cap k bs _ hB (by omega)).mono ?_
  rintro e w1 ⟨rfl, hown, hbel⟩
  go_wp2
  go_loopw [8, 18] (fun v i wr => ∃ j : Nat, j ≤ k ∧ i = .int .i64 j ∧ v = .slice (some ⟨w.heap.size, 0, none⟩) (len + j) (len + k) ∧ wr.ownsRow w.heap.size 5 1 (.slice (some ⟨w.heap.size, 0, none⟩) (len + j) (len + k)) (len + j) (toV (bs ++ (beB k n).take j)) ∧ Below w.heap.size w wr) (fun _ i _ => k - (intOf i).toNat)
  case atStart => exact ⟨0, Nat.zero_le _, rfl, rfl, by simpa using hown, hbel⟩
  case round =>
    obtain ⟨j, hj, rfl, rfl, hownr, hbr⟩ := hrel
    clear hown hbel
    by_cases hlt : j < k
    · go_wp2_with (at_builtin; refine wpList_append_fits _ rfl (.tmp 21) (.tmp 30) 61 rfl w.heap.size 5 i0 1 Try.underlying61 hi hz1 w.heap.size (len + j) (len + k) _ rfl (hownr.alloc _) ⟨wr.heap.size, 0, none⟩ 1 1 [.int .u8 ((n : Int) / 2 ^ (8 * (k - 1 - j)) % 256)] rfl rfl (cell_one_new _ _ _) (by simp [Value.oneCell']) (by omega) ?_)
      intro w2 hown2 hgr
      rw [byte_at] at hown2
      have hown3 := put_row hown2 (beB_take k n j hlt)
      have hb3 : Below w.heap.size w w2 := (hbr.alloc hbr.size _).grown hgr (by simp; have := hbr.size; omega) (by simp)
      clear hown2 hgr hownr
      go_wp2
      go_roundw
      case rel => exact ⟨j + 1, by omega, by go_num, by simp [Nat.add_assoc], hown3, hb3⟩
      case measure => simp [intOf]; omega
    · go_wp2
      go_ret2
      obtain rfl : j = k := by omega
      exact ⟨rfl, by simpa [List.take_of_length_le, beB_length] using hownr, hbr⟩

set_option maxRecDepth 4000 in
set_option maxHeartbeats 400000 in
theorem put_no (a : Option Addr) (len cap : Nat) (k n : Int) (w : World) (h : k < 1 ∨ 8 < k ∨ (256 : Int) ^ k.toNat ≤ n) (h0 : 0 ≤ n) (hn : n < 18446744073709551616) :
    Calls Try.prog 70 #[.slice a len cap, .int .i64 k, .int .u64 n] w fun e w' => e = .returned (.tuple #[.slice none 0 0, .int .i64 1]) ∧ w = w' := by
  have H : Hid (k < 1 ∨ 8 < k ∨ (256 : Int) ^ k.toNat ≤ n) := h
  clear h
  go_enter Try.func70, Try.ntmps70
  go_wp2_with fail
  refine (fits_false k n _ H.out h0 hn).mono ?_
  rintro e w1 ⟨rfl, rfl⟩
  go_wp2
  go_ret2
  exact ⟨rfl, rfl⟩
end Go.Proofs.Ytfeghhgniahfkaa

/-
  The contract of package page's plain: the 236 bytes of a page.
-/
namespace Go.Proofs.Ytfeghhgniahfkaa
open Go.RowKit
set_option linter.unusedVariables false

def toldN (u : Bool) (s : ByteArray) : Nat := if u then s.size else 255
theorem toldN_lt (u : Bool) (s : ByteArray) (h : cellOk u s) : toldN u s < 256 := by
  have := h.1
  unfold toldN
  split <;> omega
theorem beB_one (n : Nat) : beB 1 n = [UInt8.ofNat n] := by simp [beB]
theorem toldN_be (u : Bool) (s : ByteArray) : beB 1 (toldN u s) = [lenB u s] := by
  rw [beB_one]
  unfold toldN lenB
  cases u <;> rfl
theorem val_all (u : Bool) (s : ByteArray) (h : cellOk u s) : s.data.toList = valB u s := by
  unfold valB
  cases u with
  | true => rfl
  | false => exact List.eq_nil_of_length_eq_zero (by rw [Array.length_toList]; exact h.2 rfl)

set_option maxRecDepth 4000 in
set_option maxHeartbeats 400000 in
theorem toldSize_any (u : Bool) (s : ByteArray) (w : World) (h : cellOk u s) :
    Calls Try.prog 71 #[.agg (ceA u s)] w fun e w' => e = .returned (.int .u64 (toldN u s : Nat)) ∧ Below w.heap.size w w' := by
  have hb0 : Below w.heap.size w (w.alloc (.cells (ceA u s) 32)) := (Below.refl _ _).alloc (Nat.le_refl _) _
  have hr := RowAt.new w 32 (ceA u s)
  have c0 := hr.cell 0 (.bool u) rfl
  have c1 := hr.cell 1 (.string s) rfl
  have hz := h.1
  clear hr h
  cases u with
  | true =>
    go_enter Try.func71, Try.ntmps71
    go_wp2
    go_ret
    exact ⟨rfl, hb0⟩
  | false =>
    go_enter Try.func71, Try.ntmps71
    go_wp2
    go_ret
    exact ⟨rfl, hb0⟩

theorem ownsRow_down {w : World} {base b n size : Nat} {e : TypeId} {v : Value} {xs : List Value} (h : w.ownsRow base e size v n xs) (hb : b ≤ base) : w.ownsRow b e size v n xs := by
  refine ⟨h.1, ?_⟩
  rcases h.2 with hn | ⟨g, cap, cur, hv, hbg, rest⟩
  · exact .inl hn
  · exact .inr ⟨g, cap, cur, hv, Nat.le_trans hb hbg, rest⟩

theorem lens_next (p : Pg) (id j : Nat) : beB 2 id ++ lensB p j ++ beB 1 (toldN (p.u j) (p.s j)) = beB 2 id ++ lensB p (j + 1) := by
  rw [toldN_be, lensB_succ, List.append_assoc]
theorem vals_next (p : Pg) (id j : Nat) (h : cellOk (p.u j) (p.s j)) : beB 2 id ++ (lensB p 8 ++ (valsB p j ++ (p.s j).data.toList)) = beB 2 id ++ (lensB p 8 ++ valsB p (j + 1)) := by
  rw [val_all _ _ h, valsB_succ]

set_option maxRecDepth 4000 in
set_option maxHeartbeats 800000 in
theorem plain_any (id : Nat) (p : Pg) (w : World) (hid : id < 32) (hp : p.right) :
    Calls Try.prog 53 #[.int .i64 id, .agg (csA p)] w fun e w' => ∃ v, e = .returned v ∧ w'.ownsRow w.heap.size 5 1 v 236 (toV (bodyB id p)) ∧ Below w.heap.size w w' := by
  have hb0 : Below w.heap.size w (w.alloc (.cells (csA p) 33)) := (Below.refl _ _).alloc (Nat.le_refl _) _
  have hr := hide (RowAt.new w 33 (csA p))
  have P1 := put_ok none 0 0 2 id [] (w.alloc (.cells (csA p) 33)) (IsB.nil _) (by omega) (by omega) (by omega) (by omega)
  rw [List.nil_append] at P1
  have H1 := hide P1
  have HP := hide hp
  clear P1 hp
  go_enter Try.func53, Try.ntmps53
  go_wp2_with fail
  refine H1.out.mono ?_
  rintro e w1 ⟨rfl, hown1, hb1⟩
  have hr1 := hide (hr.out.later hb1)
  have d1 := hb0.trans (hb1.mono hb0.size)
  have ho1 := ownsRow_down hown1 hb0.size
  have e0 : beB 2 id = beB 2 id ++ lensB p 0 := by simp [lensB]
  rw [e0] at ho1
  have HO1 := hide ho1
  clear hown1 hb1 hb0 hr H1 e0 ho1
  go_wp2_with (refine wpList_load_at rfl 33 (.tmp 3) rfl w.heap.size rfl (csA p) hr1.out _ Try.underlying33 rfl infoCs ?_)
  go_loopw [5, 18] (fun v i wr => ∃ j : Nat, j ≤ 8 ∧ i = .int .i64 j ∧ wr.ownsRow w.heap.size 5 1 v (2 + j) (toV (beB 2 id ++ lensB p j)) ∧ Below w.heap.size w wr ∧ RowAt wr w.heap.size 33 (csA p)) (fun _ i _ => 8 - (intOf i).toNat)
  case atStart => exact ⟨0, Nat.zero_le _, rfl, by simpa using HO1.out, d1, hr1.out⟩
  case round =>
    obtain ⟨j, hj, rfl, hown, hbr, hrow⟩ := hrel
    clear d1 hr1 HO1
    by_cases hlt : j < 8
    · have hc := HP.out.2 j hlt
      obtain ⟨a, cap, rfl, hcap, hB⟩ := shape_isB hown
      have HT := hide (fun w => toldSize_any (p.u j) (p.s j) w hc)
      have hn := toldN_lt _ _ hc
      have HPut := hide (fun w' (h : IsB w' a (2 + j) (beB 2 id ++ lensB p j)) => put_ok a (2 + j) cap 1 (toldN (p.u j) (p.s j)) _ w' h (by omega) (by omega) (by omega) (by omega))
      have HN := hide (lens_next p id j)
      have HB := hide hB
      have HR := hide hrow
      clear hown hc hB hrow
      go_wp2_with (first | (refine wpList_index_cs rfl (.tmp 17) (.tmp 18) rfl p j hlt rfl rfl ?_) | (refine wpList_store_at rfl 32 (.tmp 8) (.tmp 20) rfl wr.heap.size (ceA false ⟨#[]⟩) (ceA (p.u j) (p.s j)) rfl rfl (RowAt.new wr 32 _) infoCe rfl (ceA_one _ _) ?_))
      intro w2 hr2 hk2 _
      have s2 := hk2 _ _ ((Below.refl wr.heap.size wr).alloc (Nat.le_refl _) _) (Nat.le_refl _)
      have HR2 := hide hr2
      clear hr2 hk2
      go_wp2_with (refine wpList_load_at rfl 32 (.tmp 8) rfl wr.heap.size rfl (ceA (p.u j) (p.s j)) HR2.out _ Try.underlying32 rfl infoCe ?_)
      refine (HT.out _).mono ?_
      rintro e w3 ⟨rfl, hb3⟩
      have s3 := s2.trans (hb3.mono s2.size)
      have HB3 := hide (HB.out.below s3)
      clear hb3 HR2 HT HB s2
      generalize toldN (p.u j) (p.s j) = tn at *
      go_wp2_with fail
      refine (HPut.out _ HB3.out).mono ?_
      rintro e w4 ⟨rfl, hown4, hb4⟩
      have s4 := s3.trans (hb4.mono s3.size)
      have d4 := hbr.trans (s4.mono hbr.size)
      have HR4 := hide (HR.out.later s4)
      have ho4 := ownsRow_down hown4 (Nat.le_trans hbr.size s3.size)
      rw [HN.out] at ho4
      have HO4 := hide ho4
      clear hown4 hb4 s4 s3 ho4 HPut HB3 HR hbr HN
      go_wp2
      go_roundw
      case rel => exact ⟨j + 1, by omega, by go_num, HO4.out, d4, HR4.out⟩
      case measure => simp [intOf]; omega
    · obtain rfl : j = 8 := by omega
      have HR := hide hrow
      have HO := hide hown
      clear hrow hown
      go_wp2_with (refine wpList_load_at rfl 33 (.tmp 3) rfl w.heap.size rfl (csA p) HR.out _ Try.underlying33 rfl infoCs ?_)
      go_loopw [5, 30] (fun v i wr => ∃ j n : Nat, j ≤ 8 ∧ i = .int .i64 j ∧ n ≤ 10 + 20 * j ∧ wr.ownsRow w.heap.size 5 1 v n (toV (beB 2 id ++ (lensB p 8 ++ valsB p j))) ∧ Below w.heap.size w wr) (fun _ i _ => 8 - (intOf i).toNat)
      case atStart => exact ⟨0, 10, Nat.zero_le _, rfl, by omega, by simpa [valsB] using HO.out, hbr⟩
      case round =>
        obtain ⟨j, n, hj, rfl, hn, hown, hbr⟩ := hrel
        clear HR HO
        by_cases hlt : j < 8
        · have hc := HP.out.2 j hlt
          have hz := hc.1
          have HN := hide (vals_next p id j hc)
          have HO := hide hown
          clear hc hown
          go_wp2_with (first | (refine wpList_index_cs rfl (.tmp 29) (.tmp 30) rfl p j hlt rfl rfl ?_) | (refine wpList_store_at rfl 32 (.tmp 10) (.tmp 32) rfl wr.heap.size (ceA false ⟨#[]⟩) (ceA (p.u j) (p.s j)) rfl rfl (RowAt.new wr 32 _) infoCe rfl (ceA_one _ _) ?_))
          intro w2 hr2 hk2 _
          have s2 := hk2 _ _ ((Below.refl wr.heap.size wr).alloc (Nat.le_refl _) _) (Nat.le_refl _)
          have c1 := hr2.cell 1 (.string (p.s j)) rfl
          have HO2 := hide (ownsRow_below HO.out s2)
          have d2 := hbr.trans (s2.mono hbr.size)
          clear hr2 hk2 s2 HO
          generalize p.s j = s at *
          go_wp2_with (at_builtin; refine wpList_append_os _ rfl (.tmp 33) (.tmp 35) 61 9 rfl 5 Try.underlying61 Try.underlying9 info8 w.heap.size _ n _ rfl HO2.out s rfl (by omega) d2.size ?_)
          intro v4 w4 hown4 hg4
          rw [HN.out] at hown4
          have d4 := d2.grown hg4 d2.size (fun k hk => (HO2.out.lt k hk).1)
          have HO4 := hide hown4
          clear hown4 hg4 d2 HO2 c1 HN
          go_wp2
          go_roundw
          case rel => exact ⟨j + 1, n + s.size, by omega, by go_num, by omega, HO4.out, d4⟩
          case measure => simp [intOf]; omega
        · obtain rfl : j = 8 := by omega
          obtain ⟨a, cap, rfl, hcap, hB⟩ := shape_isB hown
          have hl := hB.1
          have HO := hide hown
          have HL := hide hl
          have e8 : 236 - n = 236 - (headB id p).length := by
            rw [← hl, headB, List.append_assoc]
          have HE := hide (show beB 2 id ++ (lensB p 8 ++ (valsB p 8 ++ List.replicate (236 - n) 0)) = bodyB id p by rw [e8, bodyB]; simp only [headB, List.append_assoc])
          obtain ⟨k, hk⟩ : ∃ k, k = 236 - n := ⟨_, rfl⟩
          rw [← hk] at HE
          have e9 : n + k = 236 := by omega
          have e10 : (236 : Int) - (n : Int) = (k : Int) := by omega
          clear hown hl hB e8
          go_wp2_with (at_builtin; refine wpList_append_oz _ rfl (.tmp 38) (.tmp 41) 61 3 rfl 5 .i64 Try.underlying61 Try.underlying3 info8 w.heap.size _ n _ rfl HO.out k ?hx (by omega) (by omega) hbr.size ?_; (case hx => simp [Act.eval]; omega))
          intro v4 w4 hown4 hg4
          rw [← hk, HE.out, e9] at hown4
          have d4 := hbr.grown hg4 hbr.size (fun k hk => (HO.out.lt k hk).1)
          have HO4 := hide hown4
          clear hown4 hg4 hbr HO HE HL
          go_wp2
          go_ret
          exact ⟨_, rfl, HO4.out, d4⟩
end Go.Proofs.Ytfeghhgniahfkaa

/-
  A struct as a call's one result. Of no program.
-/
namespace Go.Proofs.Ytfeghhgniahfkaa
open Go.RowKit
set_option linter.unusedVariables false

section
variable {P : Program}
theorem results_one {fn : Func} {p : Tmp} {t : TypeId} (h : fn.results = #[.cell p t]) (tmps : Array Value) (P : Program) (w : World) :
    (results fn tmps).run P w = ((asAddr (tmps.getD p undef)).run P w).andThen fun a w₁ => (loadVar t a).run P w₁ := by
  simp only [results, h]
  simp [Sem.run_bind, Result.andThen]
theorem res_one {fn : Func} {p : Tmp} {t : TypeId} (h : fn.results = #[.cell p t]) (tmps : Array Value) (w : World) (g : Nat) (cs : Array Value) (d : TypeDesc) (hp : tmps.getD p undef = .pointer (some ⟨g, 0, none⟩)) (hg : RowAt w g t cs)
    (hu : P.underlying t = some d) (hd : (match d with | .struct _ | .array _ _ => true | _ => false) = true) (hi : (P.info? t).map (·.size) = some cs.size) :
    (results fn tmps).run P w = .ok (.agg cs) w := by
  have h1 := run_loadVar_row (P := P) w g t t cs (0, 0) d hg hu hd hi
  rw [results_one h, hp]
  simp only [asAddr, Sem.run_pure, Result.andThen_ok, h1]
end
end Go.Proofs.Ytfeghhgniahfkaa
