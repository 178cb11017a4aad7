/-
  Plain facts on bytes and numbers, of no program: the number that bytes spell, the highest first; the bytes of a number; what 'Take' answers.
-/
import Derived.WalkKit
import Derived.Laws.CopyOwn
import Derived.Lib.ConvBytes
import Derived.Laws.IdiomStrings
import Derived.Laws.BytesArg
import Derived.Lib.AppendStr
namespace Go.Proofs.Ytmlbghloddiflaa
open Go.RowKit
set_option linter.unusedVariables false

/-- A fact kept from the walk. -/
theorem hide {p : Prop} (h : p) : Hid p := h

/-- The number whose bytes these are, the highest first. -/
def be (bs : List UInt8) : Nat := bs.foldl (fun n b => n * 256 + b.toNat) 0

theorem be_nil : be [] = 0 := rfl

theorem be_snoc (bs : List UInt8) (b : UInt8) : be (bs ++ [b]) = be bs * 256 + b.toNat := by
  simp [be, List.foldl_append]

theorem foldl_lt : ∀ (bs : List UInt8) (n k : Nat), n < 256 ^ k → bs.foldl (fun n b => n * 256 + b.toNat) n < 256 ^ (k + bs.length)
  | [], n, k, h => by simpa using h
  | b :: bs, n, k, h => by
    have hb : b.toNat < 256 := b.toNat_lt
    have h2 : n * 256 + b.toNat < 256 ^ (k + 1) := by rw [Nat.pow_succ]; omega
    have h3 := foldl_lt bs (n * 256 + b.toNat) (k + 1) h2
    simp only [List.foldl_cons, List.length_cons]
    have e : k + (bs.length + 1) = k + 1 + bs.length := by omega
    rw [e]
    exact h3

theorem be_lt (bs : List UInt8) : be bs < 256 ^ bs.length := by
  have h := foldl_lt bs 0 0 (by simp)
  rw [Nat.zero_add] at h
  exact h

theorem be_take_succ (bs : List UInt8) (k : Nat) (h : k < bs.length) : be (bs.take (k + 1)) = be (bs.take k) * 256 + (bs.getD k 0).toNat := by
  rw [List.take_succ_eq_append_getElem h, be_snoc]
  simp [List.getD, List.getElem?_eq_getElem h]

theorem pow256_le (k : Nat) (h : k ≤ 8) : 256 ^ k ≤ 18446744073709551616 := by
  have h2 : 256 ^ k ≤ 256 ^ 8 := Nat.pow_le_pow_right (by omega) h
  have h3 : 256 ^ 8 = 18446744073709551616 := by decide
  omega

theorem pow256_le7 (k : Nat) (h : k ≤ 7) : 256 ^ k ≤ 72057594037927936 := by
  have h2 : 256 ^ k ≤ 256 ^ 7 := Nat.pow_le_pow_right (by omega) h
  have h3 : 256 ^ 7 = 72057594037927936 := by decide
  omega

theorem be_take_lt7 (bs : List UInt8) (k : Nat) (h : k < 8) : be (bs.take k) < 72057594037927936 := by
  have h1 := be_lt (bs.take k)
  have h2 : 256 ^ (bs.take k).length ≤ 256 ^ 7 := Nat.pow_le_pow_right (by omega) (by simp; omega)
  have h3 : 256 ^ 7 = 72057594037927936 := by decide
  omega

theorem be_take_lt (bs : List UInt8) (k : Nat) (h : k ≤ 8) : be (bs.take k) < 18446744073709551616 := by
  have h1 := be_lt (bs.take k)
  have h2 : 256 ^ (bs.take k).length ≤ 256 ^ 8 := Nat.pow_le_pow_right (by omega) (by simp; omega)
  have h3 : 256 ^ 8 = 18446744073709551616 := by decide
  omega

/-- The number of so many bytes at a place. -/
def beAt (bs : List UInt8) (p k : Nat) : Nat := be ((bs.drop p).take k)

theorem beAt_zero (bs : List UInt8) (p : Nat) : beAt bs p 0 = 0 := by simp [beAt, be_nil]

theorem beAt_succ (bs : List UInt8) (p k : Nat) (h : p + k < bs.length) : beAt bs p (k + 1) = beAt bs p k * 256 + (bs.getD (p + k) 0).toNat := by
  unfold beAt
  rw [be_take_succ _ _ (by simp; omega)]
  simp [List.getD]

theorem beAt_lt7 (bs : List UInt8) (p k : Nat) (h : k < 8) : beAt bs p k < 72057594037927936 := be_take_lt7 _ _ h
theorem beAt_lt (bs : List UInt8) (p k : Nat) (h : k ≤ 8) : beAt bs p k < 18446744073709551616 := be_take_lt _ _ h

/-- A shift by a byte and an or with a byte: the sum. -/
theorem shl_or (n b : Nat) (hn : n < 72057594037927936) (hb : b < 256) : bits .or .u64 ((n : Int) * 256) (b : Int) = ((n * 256 + b : Nat) : Int) := by
  have e : ((n : Int) * 256) = ((n * 256 : Nat) : Int) := by omega
  rw [e, u64_or_nat (n * 256) b (by omega) (by omega), nat_join 8 (n * 256) b (by omega) (by omega)]

theorem take_step (bs : List UInt8) (p j : Nat) (hj : j < 8) (h : p + j < bs.length) :
    bits .or .u64 ((beAt bs p j : Nat) * 256 : Int) (IntKind.u64.wrap ((bs[p + j]?.getD 0).toNat : Int)) = ((beAt bs p (j + 1) : Nat) : Int) := by
  have hb : (bs[p + j]?.getD 0).toNat < 256 := (bs[p + j]?.getD 0).toNat_lt
  have e : IntKind.u64.wrap ((bs[p + j]?.getD 0).toNat : Int) = ((bs[p + j]?.getD 0).toNat : Int) := by rw [IntKind.wrap_u64]; omega
  rw [e, shl_or _ _ (beAt_lt7 bs p j hj) hb, beAt_succ bs p j h]
  simp [List.getD]

theorem getD_str (s : ByteArray) (i : Nat) (h : i < s.size) : s.data.toList.getD i 0 = s[i] := by
  have h2 : i < s.data.toList.length := by simpa using h
  rw [List.getD, List.getElem?_eq_getElem h2]
  rfl

theorem rtake_step (s : ByteArray) (p j : Nat) (hj : j < 8) (h : p + j < s.size) :
    IntKind.u64.wrap ((beAt s.data.toList p j : Nat) * 256 + IntKind.u64.wrap (s[p + j].toNat : Int)) = ((beAt s.data.toList p (j + 1) : Nat) : Int) := by
  have hb : s[p + j].toNat < 256 := s[p + j].toNat_lt
  have hn := beAt_lt7 s.data.toList p j hj
  rw [beAt_succ s.data.toList p j (by simpa using h), getD_str s (p + j) h, IntKind.wrap_u64, IntKind.wrap_u64]
  omega

/-- The test of 'Fits' in the walk's form. -/
theorem shr_zero (n k : Nat) : ((n : Int) / 2 ^ (8 * k) == 0) = decide (n < 256 ^ k) := by
  have e : (2 : Int) ^ (8 * k) = ((256 ^ k : Nat) : Int) := by
    rw [Int.pow_mul]
    simp
  rw [e]
  have hp : 0 < 256 ^ k := Nat.pow_pos (by omega)
  rw [Bool.eq_iff_iff]
  simp only [beq_iff_eq, decide_eq_true_eq]
  constructor
  · intro h
    have h2 : ((n / 256 ^ k : Nat) : Int) = 0 := by rw [Int.natCast_ediv]; exact h
    have h3 : n / 256 ^ k = 0 := by omega
    exact (Nat.div_eq_zero_iff_lt hp).1 h3
  · intro h
    have h3 : n / 256 ^ k = 0 := (Nat.div_eq_zero_iff_lt hp).2 h
    have h2 : ((n / 256 ^ k : Nat) : Int) = 0 := by omega
    rw [Int.natCast_ediv] at h2
    exact h2

theorem byte_at (n m : Nat) : (n : Int) / 2 ^ (8 * m) % 256 = ((UInt8.ofNat (n / 256 ^ m)).toNat : Int) := by
  have e : (2 : Int) ^ (8 * m) = ((256 ^ m : Nat) : Int) := by
    rw [Int.pow_mul]
    simp
  rw [e, ← Int.natCast_ediv]
  simp

/-- A slice value whose elements read as these bytes. -/
def IsB (w : World) (a : Option Addr) (len : Nat) (bs : List UInt8) : Prop :=
  bs.length = len ∧ (0 < len → ∃ b off, a = some ⟨b, off, none⟩ ∧ b < w.heap.size ∧ ∀ j, j < len → w.cell? ⟨b, off + j, none⟩ = some (.int .u8 ((bs.getD j 0).toNat : Int)))

/-- Later worlds in which nothing old has turned read the same bytes. -/
theorem IsB.below {w w' : World} {a : Option Addr} {len : Nat} {bs : List UInt8} (h : IsB w a len bs) (hb : Below w.heap.size w w') : IsB w' a len bs := by
  refine ⟨h.1, fun hp => ?_⟩
  obtain ⟨b, off, ha, hlt, hc⟩ := h.2 hp
  exact ⟨b, off, ha, Nat.lt_of_lt_of_le hlt hb.size, fun j hj => (hb.cell (p := ⟨b, off + j, none⟩) hlt).trans (hc j hj)⟩

/-- .. where just the blocks below a number are as they were. -/
theorem IsB.later {w w' : World} {a : Option Addr} {len B : Nat} {bs : List UInt8} (h : IsB w a len bs) (hb : Below B w w') (ha : ∀ b off, a = some ⟨b, off, none⟩ → b < B) : IsB w' a len bs := by
  refine ⟨h.1, fun hp => ?_⟩
  obtain ⟨b, off, hab, hlt, hc⟩ := h.2 hp
  exact ⟨b, off, hab, Nat.lt_of_lt_of_le hlt hb.size, fun j hj => (hb.cell (p := ⟨b, off + j, none⟩) (ha b off hab)).trans (hc j hj)⟩

theorem IsB.nil (w : World) : IsB w none 0 [] := ⟨rfl, fun h => absurd h (by omega)⟩

/-- Bytes as cells. -/
def toV (bs : List UInt8) : List Value := bs.map fun b => Value.int .u8 (b.toNat : Int)
theorem toV_length (bs : List UInt8) : (toV bs).length = bs.length := by simp [toV]
theorem toV_append (a b : List UInt8) : toV (a ++ b) = toV a ++ toV b := by simp [toV]
theorem toV_one (bs : List UInt8) : ∀ v ∈ toV bs, v.oneCell' = true := by
  intro v hv
  obtain ⟨b, _, rfl⟩ := List.mem_map.1 hv
  rfl
theorem toV_get (bs : List UInt8) (j : Nat) (h : j < bs.length) : (toV bs)[j]? = some (.int .u8 ((bs.getD j 0).toNat : Int)) := by
  simp [toV, List.getD, List.getElem?_eq_getElem h]
theorem toV_some (bs : List UInt8) (j : Nat) (v : Value) (h : (toV bs)[j]? = some v) : j < bs.length ∧ v = .int .u8 ((bs.getD j 0).toNat : Int) := by
  have hj : j < bs.length := by
    have := (List.getElem?_eq_some_iff.1 h).1
    rwa [toV_length] at this
  rw [toV_get bs j hj] at h
  exact ⟨hj, (Option.some.inj h).symm⟩

theorem IsB.cells {w : World} {a : Option Addr} {len : Nat} {bs : List UInt8} (h : IsB w a len bs) (hp : 0 < bs.length) : ∃ ad, a = some ad ∧ ad.block < w.heap.size ∧ ∀ j v, (toV bs)[j]? = some v → w.cell? (ad.add j) = some v := by
  obtain ⟨b, off, ha, hlt, hc⟩ := h.2 (by have := h.1; omega)
  refine ⟨_, ha, hlt, fun j v hv => ?_⟩
  obtain ⟨hj, rfl⟩ := toV_some bs j v hv
  rw [Addr.add_lit]
  exact hc j (by have := h.1; omega)

/-- A row of noughts. -/
def zrow (n : Nat) : List Value := List.replicate n (.int .u8 0)
theorem zrow_length (n : Nat) : (zrow n).length = n := by simp [zrow]

theorem run_mk {P : Program} (t e : TypeId) (ht : P.underlying t = some (.slice e)) (hinfo : (P.info? e).map (fun i => (i.zero, i.size, i.bytes)) = some (some (.int .u8 0), 1, 1)) (l m : Nat) (h : l + m ≤ 281474976710656) (w : World) :
    (Instr.makeSlice t (.int .i64 (l : Int)) (.int .i64 ((l : Int) + (m : Int)))).run P w = .ok (.slice (some ⟨w.heap.size, 0, none⟩) l (l + m)) (w.alloc (.cells (zrow (l + m)).toArray e)) := by
  obtain ⟨i, hi, hz, hs, hb⟩ := info_parts hinfo
  have hr := run_make (P := P) w t e i (.int .u8 0) ht hi hz .i64 .i64 (l : Int) ((l : Int) + (m : Int)) (by omega) (by omega) (by rw [hb]; omega) (by omega)
  have e1 : ((l : Int) + (m : Int)).toNat = l + m := by omega
  have e2 : (Value.int .u8 0).cells = #[.int .u8 0] := rfl
  rw [hr, e1, hs, Nat.mul_one, e2]
  have e3 : madeCells #[Value.int .u8 0] (l + m) = (zrow (l + m)).toArray := by
    apply Array.ext'
    rw [toList_madeCells_one]
    rfl
  rw [e3]
  rfl

theorem splice_zero (L cs : List Value) : splice L 0 cs = cs ++ L.drop cs.length := by simp [splice]

/-- A fresh row of bytes with room behind: what 'longer' hands back. -/
theorem owns_spliced {w : World} {base g len m : Nat} {e : TypeId} {bs : List UInt8} (hb : bs.length = len) (hbase : base ≤ g) (hm : len + m ≤ 281474976710656)
    (h : w.heap[g]? = some (.cells (splice (zrow (len + m)) 0 (toV bs)).toArray e (0, 0))) : w.ownsRow base e 1 (.slice (some ⟨g, 0, none⟩) len (len + m)) len (toV bs) := by
  refine ⟨by rw [toV_length]; omega, .inr ⟨g, len + m, _, rfl, hbase, h, by omega, by unfold maxLen; omega, ?_, ?_⟩⟩
  · rw [List.size_toArray, length_splice _ _ _ (by rw [toV_length, zrow_length]; omega), zrow_length]
    omega
  · rw [splice_zero, Nat.mul_one]
    exact List.take_left' (by rw [toV_length]; omega)

theorem IsB.hpos {w : World} {a : Option Addr} {len : Nat} {bs : List UInt8} (hB : IsB w a len bs) (o : Obj) (x : Option Addr) : 0 < (toV bs).length → x = x ∧ ∃ ad, a = some ad ∧ ∀ j v, (toV bs)[j]? = some v → (w.alloc o).cell? (ad.add j) = some v := by
  intro hp
  rw [toV_length] at hp
  obtain ⟨ad, ha, _, hc⟩ := hB.cells hp
  refine ⟨rfl, ad, ha, fun j v hv => ?_⟩
  have hx := hc j v hv
  exact ((((Below.refl w.heap.size w).alloc (Nat.le_refl _) _).cell (p := ad.add j) (World.block_lt_of_cell? w _ hx))).trans hx

/-- The bytes of a number in so many bytes, the highest first. -/
def beB (k n : Nat) : List UInt8 := (List.range k).map fun i => UInt8.ofNat (n / 256 ^ (k - 1 - i))
theorem beB_length (k n : Nat) : (beB k n).length = k := by simp [beB]
theorem beB_take (k n j : Nat) (h : j < k) : (beB k n).take (j + 1) = (beB k n).take j ++ [UInt8.ofNat (n / 256 ^ (k - 1 - j))] := by
  rw [List.take_succ_eq_append_getElem (by rw [beB_length]; exact h)]
  simp [beB]

theorem put_row {w : World} {base g len j cap : Nat} {e : TypeId} {bs t t' : List UInt8} {x : UInt8} (h : w.ownsRow base e 1 (.slice (some ⟨g, 0, none⟩) (len + j + 1) cap) (len + j + 1) (toV (bs ++ t) ++ [.int .u8 (x.toNat : Int)])) (ht : t' = t ++ [x]) :
    w.ownsRow base e 1 (.slice (some ⟨g, 0, none⟩) (len + (j + 1)) cap) (len + (j + 1)) (toV (bs ++ t')) := by
  subst ht
  have e1 : toV (bs ++ (t ++ [x])) = toV (bs ++ t) ++ [.int .u8 (x.toNat : Int)] := by simp [toV]
  rw [e1]
  exact h

/-- '[]byte(s)': the new row reads as the string's bytes; nothing old has turned. -/
theorem isB_conv (w : World) (e : TypeId) (s : ByteArray) : IsB (Lib.bytesWorld w e s) (some ⟨w.heap.size, 0, none⟩) s.size s.data.toList := by
  refine ⟨by simp, fun _ => ⟨w.heap.size, 0, rfl, by rw [Lib.bytesWorld_size]; omega, fun j hj => ?_⟩⟩
  rw [Nat.zero_add, Lib.bytesWorld_cell w e s j hj]

theorem below_conv (w : World) (e : TypeId) (s : ByteArray) : Below w.heap.size w (Lib.bytesWorld w e s) :=
  ⟨rfl, rfl, rfl, by rw [Lib.bytesWorld_size]; omega, fun k hk => Lib.bytesWorld_at_old w e s k hk⟩

/-- 'string(b)' of a slice that reads as these bytes. -/
theorem run_toString {P : Program} (w : World) (src dst e : TypeId) (hs : P.underlying src = some (.slice e)) (he : P.underlying e = some (.int .u8)) (hd : P.underlying dst = some .string)
    (a : Option Addr) (len cap : Nat) (bs : List UInt8) (h : IsB w a len bs) : (convert src dst (.slice a len cap)).run P w = .ok (.string ⟨bs.toArray⟩) w := by
  obtain ⟨hl, hc⟩ := h
  cases a with
  | none =>
    have h0 : ¬ 0 < len := by
      intro hp
      obtain ⟨b, off, ha, _⟩ := hc hp
      simp at ha
    have h1 : bs = [] := List.eq_nil_of_length_eq_zero (by omega)
    subst h1
    exact run_convert_bytes_nil w src e hs he len cap dst hd
  | some ad =>
    subst hl
    refine run_convert_bytes_back w src dst e ad cap bs hs he hd fun j hj => ?_
    obtain ⟨b, off, ha, _, hcell⟩ := hc (by omega)
    obtain rfl := Option.some.inj ha
    rw [Addr.add_lit, hcell j hj]
    simp [List.getD, List.getElem?_eq_getElem hj]

/-- A cut of a slice reads as the cut of its bytes. -/
theorem IsB.cut {w : World} {b off len : Nat} {bs : List UInt8} (hb : bs.length = len) (hlt : b < w.heap.size) (hc : ∀ j, j < len → w.cell? ⟨b, off + j, none⟩ = some (.int .u8 ((bs.getD j 0).toNat : Int)))
    (p m : Nat) (h : p + m ≤ len) : IsB w (some ⟨b, off + p, none⟩) m ((bs.drop p).take m) := by
  refine ⟨by simp; omega, fun _ => ⟨b, off + p, rfl, hlt, fun j hj => ?_⟩⟩
  rw [Nat.add_assoc, hc (p + j) (by omega)]
  simp [List.getD, hj]

theorem IsB.none_left (w : World) (a : Option Addr) : IsB w a 0 [] := ⟨rfl, fun h => absurd h (by omega)⟩

/-- An owned row of bytes reads as these bytes. -/
theorem _root_.Go.World.ownsRow.isB {w : World} {base g n cap : Nat} {e : TypeId} {bs : List UInt8} (h : w.ownsRow base e 1 (.slice (some ⟨g, 0, none⟩) n cap) n (toV bs)) (hl : bs.length = n) : IsB w (some ⟨g, 0, none⟩) n bs := by
  refine ⟨hl, fun _ => ⟨g, 0, rfl, (h.lt g rfl).2, fun j hj => ?_⟩⟩
  rw [Nat.zero_add, h.cellAt j (by omega), toV_get bs j (by omega)]

/-- 'string([]byte{x})'. -/
theorem run_oneByte {P : Program} (w : World) (src dst e : TypeId) (hs : P.underlying src = some (.slice e)) (he : P.underlying e = some (.int .u8)) (hd : P.underlying dst = some .string) (x : Int) (y : UInt8) (hx : x = (y.toNat : Int)) :
    (convert src dst (.slice (some ⟨w.heap.size, 0, none⟩) 1 1)).run P (w.alloc (.cells #[.int .u8 x] e)) = .ok (.string ⟨#[y]⟩) (w.alloc (.cells #[.int .u8 x] e)) := by
  subst hx
  refine run_toString (w.alloc (.cells #[.int .u8 (y.toNat : Int)] e)) src dst e hs he hd (some ⟨w.heap.size, 0, none⟩) 1 1 [y] ⟨rfl, fun _ => ⟨w.heap.size, 0, rfl, by simp, fun j hj => ?_⟩⟩
  obtain rfl : j = 0 := by omega
  simp

/-- What 'Take' answers: the number and the error's number. -/
def takeS (bs : List UInt8) (p k : Int) : Int × Int :=
  if k < 1 ∨ 8 < k ∨ p < 0 then (0, 1)
  else if (bs.length : Int) - p < k then (0, 4)
  else (((beAt bs p.toNat k.toNat : Nat) : Int), 0)

theorem takeS_arg (bs : List UInt8) (p k : Int) (h : k < 1 ∨ 8 < k ∨ p < 0) : takeS bs p k = (0, 1) := by simp [takeS, h]
theorem takeS_short (bs : List UInt8) (p k : Int) (h : ¬ (k < 1 ∨ 8 < k ∨ p < 0)) (h2 : (bs.length : Int) - p < k) : takeS bs p k = (0, 4) := by
  unfold takeS; rw [if_neg h, if_pos h2]
theorem takeS_ok (bs : List UInt8) (p k : Int) (h : ¬ (k < 1 ∨ 8 < k ∨ p < 0)) (h2 : ¬ (bs.length : Int) - p < k) : takeS bs p k = (((beAt bs p.toNat k.toNat : Nat) : Int), 0) := by
  unfold takeS; rw [if_neg h, if_neg h2]


/-- What 'TakeText' answers: the text, the place behind it, the error's number. -/
def textS (bs : List UInt8) (p : Int) : List UInt8 × Int × Int :=
  if p < 0 then ([], 0, 1)
  else if (bs.length : Int) ≤ p then ([], 0, 4)
  else if (bs.length : Int) < p + 1 + ((bs.getD p.toNat 0).toNat : Int) then ([], 0, 4)
  else ((bs.drop (p.toNat + 1)).take (bs.getD p.toNat 0).toNat, p + 1 + ((bs.getD p.toNat 0).toNat : Int), 0)

theorem textS_arg (bs : List UInt8) (p : Int) (h : p < 0) : textS bs p = ([], 0, 1) := by simp [textS, h]
theorem textS_short (bs : List UInt8) (p : Int) (h : ¬ p < 0) (h2 : (bs.length : Int) ≤ p) : textS bs p = ([], 0, 4) := by
  unfold textS; rw [if_neg h, if_pos h2]
theorem textS_few (bs : List UInt8) (p m : Nat) (h2 : p < bs.length) (hm : (bs.getD p 0).toNat = m) (h3 : bs.length < p + 1 + m) : textS bs p = ([], 0, 4) := by
  unfold textS; rw [if_neg (by omega), if_neg (by omega), Int.toNat_natCast, hm, if_pos (by omega)]
theorem textS_ok (bs : List UInt8) (p m : Nat) (h2 : p < bs.length) (hm : (bs.getD p 0).toNat = m) (h3 : p + 1 + m ≤ bs.length) : textS bs p = ((bs.drop (p + 1)).take m, (p : Int) + 1 + (m : Int), 0) := by
  unfold textS; rw [if_neg (by omega), if_neg (by omega), Int.toNat_natCast, hm, if_neg (by omega)]

theorem extract_eq (s : ByteArray) (p m : Nat) (h : p + m ≤ s.size) : s.extract p (p + m) = ⟨((s.data.toList.drop p).take m).toArray⟩ := by
  apply ByteArray.ext
  rw [ByteArray.data_extract]
  apply Array.ext'
  rw [Array.toList_extract]
  simp [List.extract_eq_take_drop]


theorem beB_cons (k n : Nat) : beB (k + 1) n = UInt8.ofNat (n / 256 ^ k) :: beB k n := by
  apply List.ext_getElem
  · simp [beB]
  · intro i h1 h2
    cases i with
    | zero => simp [beB]
    | succ i =>
      simp only [beB, List.getElem_map, List.getElem_range, List.getElem_cons_succ]
      congr 3
      omega

theorem div_pow (n j : Nat) : n / 256 ^ j / 256 = n / 256 ^ (j + 1) := by rw [Nat.div_div_eq_div_mul, Nat.pow_succ]

theorem div_zero_iff (n k : Nat) : ((n / 256 ^ k : Nat) : Int) = 0 ↔ n < 256 ^ k := by
  have hp : 0 < 256 ^ k := Nat.pow_pos (by omega)
  have e := Nat.div_eq_zero_iff_lt (x := n) hp
  omega

/-- A number without its lowest bytes. -/
def sh (n j : Nat) : Nat := n / 256 ^ j
theorem sh_zero (n : Nat) : sh n 0 = n := by simp [sh]
theorem sh_succ (n j : Nat) : sh n j / 256 = sh n (j + 1) := div_pow n j
theorem sh_le (n j : Nat) : sh n j ≤ n := Nat.div_le_self _ _
theorem sh_test (n k : Nat) : (((sh n k : Nat) : Int) == 0) = decide (n < 256 ^ k) := by
  rw [Bool.eq_iff_iff]
  simp only [beq_iff_eq, decide_eq_true_eq]
  exact div_zero_iff n k

theorem toNat_ofNat (a : Nat) : (UInt8.ofNat a).toNat = a % 256 := by simp

theorem beB_low (k n : Nat) : beB k n = beB k (n % 256 ^ k) := by
  apply List.ext_getElem
  · simp [beB]
  · intro i h1 h2
    have hi : i < k := by simpa [beB] using h1
    simp only [beB, List.getElem_map, List.getElem_range]
    apply UInt8.toNat_inj.1
    rw [toNat_ofNat, toNat_ofNat]
    have e : 256 ^ k = 256 ^ (k - 1 - i) * (256 * 256 ^ i) := by
      rw [← Nat.pow_succ', ← Nat.pow_add]
      congr 1
      omega
    rw [e, Nat.mod_mul_right_div_self, Nat.mod_mul_right_mod]

theorem order_lex (q a b c d : Nat) (h1 : c < q) (h2 : d < q) : (a < b ∨ a = b ∧ c < d) ↔ q * a + c < q * b + d := by
  rcases Nat.lt_trichotomy a b with h | h | h
  · have e : q * (a + 1) ≤ q * b := Nat.mul_le_mul_left q h
    rw [Nat.mul_add] at e
    omega
  · subst h
    omega
  · have e : q * (b + 1) ≤ q * a := Nat.mul_le_mul_left q h
    rw [Nat.mul_add] at e
    omega

/-- Numbers of one width stand in the order of their bytes. -/
theorem less_beB : ∀ (k n m : Nat), n < 256 ^ k → m < 256 ^ k → Op.bytesLess (beB k n) (beB k m) = decide (n < m)
  | 0, n, m, hn, hm => by
    have h1 : n = 0 := by simpa using hn
    have h2 : m = 0 := by simpa using hm
    subst h1
    subst h2
    rfl
  | k + 1, n, m, hn, hm => by
    have hp : 0 < 256 ^ k := Nat.pow_pos (by omega)
    rw [beB_cons, beB_cons, beB_low k n, beB_low k m]
    have ih := less_beB k (n % 256 ^ k) (m % 256 ^ k) (Nat.mod_lt _ hp) (Nat.mod_lt _ hp)
    simp only [Op.bytesLess]
    rw [ih]
    have e1 := Nat.div_add_mod n (256 ^ k)
    have e2 := Nat.div_add_mod m (256 ^ k)
    have q1 : n / 256 ^ k < 256 := Nat.div_lt_of_lt_mul (by rw [Nat.pow_succ] at hn; exact hn)
    have q2 : m / 256 ^ k < 256 := Nat.div_lt_of_lt_mul (by rw [Nat.pow_succ] at hm; exact hm)
    have r1 := Nat.mod_lt n hp
    have r2 := Nat.mod_lt m hp
    generalize n / 256 ^ k = a at *
    generalize m / 256 ^ k = b at *
    generalize n % 256 ^ k = c at *
    generalize m % 256 ^ k = d at *
    generalize 256 ^ k = q at *
    rw [Bool.eq_iff_iff]
    simp only [Bool.or_eq_true, decide_eq_true_eq, Bool.and_eq_true, beq_iff_eq, UInt8.lt_iff_toNat_lt, ← UInt8.toNat_inj, toNat_ofNat]
    rw [Nat.mod_eq_of_lt q1, Nat.mod_eq_of_lt q2]
    subst e1
    subst e2
    exact order_lex q a b c d r1 r2


theorem mk_append (a b : List UInt8) : (⟨a.toArray⟩ : ByteArray) ++ ⟨b.toArray⟩ = ⟨(a ++ b).toArray⟩ := by
  rw [ByteArray.mk_append_mk]

theorem size_mk (l : List UInt8) : ByteArray.size ⟨l.toArray⟩ = l.length := by
  show l.toArray.size = l.length
  rw [List.size_toArray]

theorem str_cons (j n : Nat) : (⟨#[UInt8.ofNat (sh n j)]⟩ : ByteArray) ++ ⟨(beB j n).toArray⟩ = ⟨(beB (j + 1) n).toArray⟩ := by
  rw [beB_cons]
  exact mk_append [UInt8.ofNat (sh n j)] (beB j n)

theorem str_append (s : ByteArray) (b : List UInt8) : s ++ ⟨b.toArray⟩ = ⟨(s.data.toList ++ b).toArray⟩ := by
  have e : s = ⟨s.data.toList.toArray⟩ := by
    apply ByteArray.ext
    simp
  have h := mk_append s.data.toList b
  rw [← e] at h
  exact h


/-- A text's bytes: its length, and its own. -/
def textB (s : List UInt8) : List UInt8 := UInt8.ofNat s.length :: s
theorem textB_length (s : List UInt8) : (textB s).length = 1 + s.length := by simp [textB]; omega


/-- What is owned stays owned where nothing old has turned. -/
theorem ownsRow_below {w w' : World} {base n size : Nat} {e : TypeId} {v : Value} {xs : List Value} (h : w.ownsRow base e size v n xs) (hb : Below w.heap.size w w') : w'.ownsRow base e size v n xs := by
  refine ⟨h.1, ?_⟩
  rcases h.2 with hn | ⟨g, cap, cur, rfl, hbg, hg, rest⟩
  · exact .inl hn
  · exact .inr ⟨g, cap, cur, rfl, hbg, by rw [hb.block g (Array.getElem?_eq_some_iff.1 hg).1]; exact hg, rest⟩

theorem mk_self (s : ByteArray) : (⟨s.data.toList.toArray⟩ : ByteArray) = s := by
  apply ByteArray.ext
  simp

theorem data_length (s : ByteArray) : s.data.toList.length = s.size := by simp

/-- Whatever value owns a row of bytes: its shape, and that it reads as these bytes. -/
theorem shape_isB {w : World} {base n : Nat} {e : TypeId} {v : Value} {bs : List UInt8} (h : w.ownsRow base e 1 v n (toV bs)) : ∃ a cap, v = .slice a n cap ∧ n ≤ cap ∧ IsB w a n bs := by
  have hl : bs.length = n := by
    have := h.1
    rw [toV_length] at this
    omega
  rcases h.2 with ⟨rfl, rfl⟩ | ⟨g, cap, cur, rfl, _, _, hn, _⟩
  · exact ⟨none, 0, rfl, Nat.le_refl _, ⟨hl, fun h => absurd h (by omega)⟩⟩
  · exact ⟨_, cap, rfl, hn, World.ownsRow.isB h hl⟩

theorem ofNat_len (s : List UInt8) (h : s.length ≤ 255) : (UInt8.ofNat s.length).toNat = s.length := by
  rw [toNat_ofNat]
  omega

/-- A text that was put is taken again. -/
theorem textS_back (b s t : List UInt8) (h : s.length ≤ 255) : textS (b ++ textB s ++ t) (b.length : Int) = (s, (b.length : Int) + 1 + (s.length : Int), 0) := by
  have hg : ((b ++ textB s ++ t).getD b.length 0).toNat = s.length := by
    have e : (b ++ textB s ++ t).getD b.length 0 = UInt8.ofNat s.length := by simp [List.getD, textB]
    rw [e, ofNat_len s h]
  have hl : (b ++ textB s ++ t).length = b.length + (1 + s.length) + t.length := by
    rw [List.length_append, List.length_append, textB_length]
  rw [textS_ok _ b.length s.length (by omega) hg (by omega)]
  have e : ((b ++ textB s ++ t).drop (b.length + 1)).take s.length = s := by
    have e1 : b ++ textB s ++ t = (b ++ [UInt8.ofNat s.length]) ++ (s ++ t) := by simp [textB]
    rw [e1, List.drop_left' (by simp), List.take_left' rfl]
  rw [e]

theorem toV_str (bs : List UInt8) (s : ByteArray) : toV bs ++ Lib.strCells s = toV (bs ++ s.data.toList) := by simp [toV, Lib.strCells]


theorem be_cons (b : UInt8) (bs : List UInt8) : be (b :: bs) = b.toNat * 256 ^ bs.length + be bs := by
  have h : ∀ (l : List UInt8) (x : Nat), l.foldl (fun n b => n * 256 + b.toNat) x = x * 256 ^ l.length + be l := by
    intro l
    induction l with
    | nil => intro x; simp [be]
    | cons c l ih =>
      intro x
      have e : be (c :: l) = l.foldl (fun n b => n * 256 + b.toNat) (0 * 256 + c.toNat) := rfl
      rw [List.foldl_cons, ih, e, ih, List.length_cons, Nat.pow_succ, Nat.add_mul, Nat.zero_mul, Nat.zero_add, Nat.mul_assoc, Nat.mul_comm 256]
      omega
  have e : be (b :: bs) = bs.foldl (fun n b => n * 256 + b.toNat) (0 * 256 + b.toNat) := rfl
  rw [e, h]
  simp

/-- The bytes of a number spell it. -/
theorem be_beB : ∀ (k n : Nat), n < 256 ^ k → be (beB k n) = n
  | 0, n, h => by
    have h1 : n = 0 := by simpa using h
    subst h1
    rfl
  | k + 1, n, h => by
    have hp : 0 < 256 ^ k := Nat.pow_pos (by omega)
    have q1 : n / 256 ^ k < 256 := Nat.div_lt_of_lt_mul (by rw [Nat.pow_succ] at h; exact h)
    rw [beB_cons, be_cons, beB_length, toNat_ofNat, Nat.mod_eq_of_lt q1, beB_low k n, be_beB k _ (Nat.mod_lt _ hp), Nat.mul_comm]
    exact Nat.div_add_mod n (256 ^ k)

/-- What was put is taken again. -/
theorem takeS_back (b t : List UInt8) (k n : Nat) (h1 : 1 ≤ k) (h2 : k ≤ 8) (hn : n < 256 ^ k) : takeS (b ++ beB k n ++ t) (b.length : Int) (k : Int) = ((n : Int), 0) := by
  have hl : (b ++ beB k n ++ t).length = b.length + k + t.length := by rw [List.length_append, List.length_append, beB_length]
  rw [takeS_ok _ _ _ (by omega) (by omega), Int.toNat_natCast, Int.toNat_natCast]
  have e : beAt (b ++ beB k n ++ t) b.length k = n := by
    unfold beAt
    rw [List.append_assoc, List.drop_left' rfl, List.take_left' (beB_length k n), be_beB k n hn]
  rw [e]


/-- A new row of bytes, whatever its mark. -/
theorem isB_lit (w : World) (C : Array Value) (e : TypeId) (fr : Nat × Nat) (bs : List UInt8) (n : Nat) (hC : C.toList = toV bs) (hn : bs.length = n) : IsB (w.alloc (.cells C e fr)) (some ⟨w.heap.size, 0, none⟩) n bs := by
  refine ⟨hn, fun _ => ⟨w.heap.size, 0, rfl, by simp, fun j hj => ?_⟩⟩
  rw [Nat.zero_add, World.cell?_alloc_mark, ← Array.getElem?_toList, hC, toV_get bs j (by omega)]


theorem run_mkn {P : Program} (t e : TypeId) (ht : P.underlying t = some (.slice e)) (hinfo : (P.info? e).map (fun i => (i.zero, i.size, i.bytes)) = some (some (.int .u8 0), 1, 1)) (l : Nat) (h : l ≤ 281474976710656) (w : World) :
    (Instr.makeSlice t (.int .i64 (l : Int)) (.int .i64 (l : Int))).run P w = .ok (.slice (some ⟨w.heap.size, 0, none⟩) l l) (w.alloc (.cells (zrow l).toArray e)) := by
  have hr := run_mk t e ht hinfo l 0 (by omega) w
  simpa using hr


/-- A row that is owned and not empty: where it lies. -/
theorem own_slice {w : World} {base n size : Nat} {e : TypeId} {v : Value} {xs : List Value} (h : w.ownsRow base e size v n xs) (hn : 0 < n) : ∃ g cap, v = .slice (some ⟨g, 0, none⟩) n cap ∧ base ≤ g := by
  rcases h.2 with ⟨_, h0⟩ | ⟨g, cap, cur, hv, hb, _⟩
  · omega
  · exact ⟨g, cap, hv, hb⟩

end Go.Proofs.Ytmlbghloddiflaa
