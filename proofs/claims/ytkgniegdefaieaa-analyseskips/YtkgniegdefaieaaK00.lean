/-
  Texts that lean on one another, one behind the other: each opens with its own remark.
-/
import Derived.WalkKit
import Derived.Laws.CopyOwn
import Derived.Lib.ConvBytes
import Derived.Laws.IdiomStrings
import Derived.Laws.BytesArg
import Derived.Lib.AppendStr
import Derived.WalkSpells
import Derived.Laws.OwnMore
import Derived.Laws.ResultCell
import Derived.Laws.Tables
import Derived.Deep.Draws
import Derived.Test.YtkgniegdefaieaaProg
import Derived.Deep.MidRow
import Derived.Deep.QuietTactic
import Derived.BigQuiet
import Derived.OpenShut
import Derived.DeepKeys
import Derived.Laws.StructEq

namespace Go.Proofs.Ytkgniegdefaieaa
open Go.RowKit
set_option linter.unusedVariables false
set_option maxRecDepth 8000
set_option maxHeartbeats 25600000
theorem Qb {p : Prop} (h : p) : Hid p := h
def be (bs : List UInt8) : Nat := bs.foldl (fun n b => n * 256 + b.toNat) 0
theorem be_nil : be [] = 0 := rfl
theorem be_snoc (bs : List UInt8) (b : UInt8) : be (bs ++ [b]) = be bs * 256 + b.toNat := by
  simp [be, List.foldl_append]
theorem Qgs : ∀ (bs : List UInt8) (n k : Nat), n < 256 ^ k -> bs.foldl (fun n b => n * 256 + b.toNat) n < 256 ^ (k + bs.length)
  | [], n, k, h => by simpa using h
  | b :: bs, n, k, h => by
    have hb : b.toNat < 256 := b.toNat_lt; have h2 : n * 256 + b.toNat < 256 ^ (k + 1) := by rw [Nat.pow_succ]; omega
    have h3 := Qgs bs (n * 256 + b.toNat) (k + 1) h2; simp only [List.foldl_cons, List.length_cons]; have e : k + (bs.length + 1) = k + 1 + bs.length := by omega
    rw [e]; exact h3
theorem Qlu (bs : List UInt8) : be bs < 256 ^ bs.length := by
  have h := Qgs bs 0 0 (by simp); rw [Nat.zero_add] at h; exact h
theorem Qvn (bs : List UInt8) (k : Nat) (h : k < bs.length) : be (bs.take (k + 1)) = be (bs.take k) * 256 + (bs.getD k 0).toNat := by
  rw [List.take_succ_eq_append_getElem h, be_snoc]; simp [List.getD, List.getElem?_eq_getElem h]
theorem pow256_le (k : Nat) (h : k <= 8) : 256 ^ k <= 18446744073709551616 := by
  have h2 : 256 ^ k <= 256 ^ 8 := Nat.pow_le_pow_right (by omega) h; have h3 : 256 ^ 8 = 18446744073709551616 := by decide
  omega
theorem pow256_le7 (k : Nat) (h : k <= 7) : 256 ^ k <= 72057594037927936 := by
  have h2 : 256 ^ k <= 256 ^ 7 := Nat.pow_le_pow_right (by omega) h; have h3 : 256 ^ 7 = 72057594037927936 := by decide
  omega
theorem Qrq (bs : List UInt8) (k : Nat) (h : k < 8) : be (bs.take k) < 72057594037927936 := by
  have h1 := Qlu (bs.take k); have h2 : 256 ^ (bs.take k).length <= 256 ^ 7 := Nat.pow_le_pow_right (by omega) (by simp; omega); have h3 : 256 ^ 7 = 72057594037927936 := by decide
  omega
theorem Qwu (bs : List UInt8) (k : Nat) (h : k <= 8) : be (bs.take k) < 18446744073709551616 := by
  have h1 := Qlu (bs.take k); have h2 : 256 ^ (bs.take k).length <= 256 ^ 8 := Nat.pow_le_pow_right (by omega) (by simp; omega); have h3 : 256 ^ 8 = 18446744073709551616 := by decide
  omega
def beAt (bs : List UInt8) (p k : Nat) : Nat := be ((bs.drop p).take k)
theorem beAt_zero (bs : List UInt8) (p : Nat) : beAt bs p 0 = 0 := by simp [beAt, be_nil]
theorem Qho (bs : List UInt8) (p k : Nat) (h : p + k < bs.length) : beAt bs p (k + 1) = beAt bs p k * 256 + (bs.getD (p + k) 0).toNat := by
  unfold beAt; rw [Qvn _ _ (by simp; omega)]; simp [List.getD]
theorem Qrr (bs : List UInt8) (p k : Nat) (h : k < 8) : beAt bs p k < 72057594037927936 := Qrq _ _ h
theorem beAt_lt (bs : List UInt8) (p k : Nat) (h : k <= 8) : beAt bs p k < 18446744073709551616 := Qwu _ _ h
theorem shl_or (n b : Nat) (hn : n < 72057594037927936) (hb : b < 256) : bits .or .u64 ((n : Int) * 256) (b : Int) = ((n * 256 + b : Nat) : Int) := by
  have e : ((n : Int) * 256) = ((n * 256 : Nat) : Int) := by omega
  rw [e, u64_or_nat (n * 256) b (by omega) (by omega), nat_join 8 (n * 256) b (by omega) (by omega)]
theorem take_step (bs : List UInt8) (p j : Nat) (hj : j < 8) (h : p + j < bs.length) :
    bits .or .u64 ((beAt bs p j : Nat) * 256 : Int) (IntKind.u64.wrap ((bs[p + j]?.getD 0).toNat : Int)) = ((beAt bs p (j + 1) : Nat) : Int) := by
  have hb : (bs[p + j]?.getD 0).toNat < 256 := (bs[p + j]?.getD 0).toNat_lt; have e : IntKind.u64.wrap ((bs[p + j]?.getD 0).toNat : Int) = ((bs[p + j]?.getD 0).toNat : Int) := by rw [IntKind.wrap_u64]; omega
  rw [e, shl_or _ _ (Qrr bs p j hj) hb, Qho bs p j h]; simp [List.getD]
theorem Qrs (s : ByteArray) (i : Nat) (h : i < s.size) : s.data.toList.getD i 0 = s[i] := by
  have h2 : i < s.data.toList.length := by simpa using h
  rw [List.getD, List.getElem?_eq_getElem h2]; rfl
theorem rtake_step (s : ByteArray) (p j : Nat) (hj : j < 8) (h : p + j < s.size) :
    IntKind.u64.wrap ((beAt s.data.toList p j : Nat) * 256 + IntKind.u64.wrap (s[p + j].toNat : Int)) = ((beAt s.data.toList p (j + 1) : Nat) : Int) := by
  have hb : s[p + j].toNat < 256 := s[p + j].toNat_lt; have hn := Qrr s.data.toList p j hj; rw [Qho s.data.toList p j (by simpa using h), Qrs s (p + j) h, IntKind.wrap_u64, IntKind.wrap_u64]; omega
theorem shr_zero (n k : Nat) : ((n : Int) / 2 ^ (8 * k) == 0) = decide (n < 256 ^ k) := by
  have e : (2 : Int) ^ (8 * k) = ((256 ^ k : Nat) : Int) := by
    rw [Int.pow_mul]; simp
  rw [e]; have hp : 0 < 256 ^ k := Nat.pow_pos (by omega); rw [Bool.eq_iff_iff]; simp only [beq_iff_eq, decide_eq_true_eq]
  constructor
  · intro h; have h2 : ((n / 256 ^ k : Nat) : Int) = 0 := by rw [Int.natCast_ediv]; exact h
    have h3 : n / 256 ^ k = 0 := by omega
    exact (Nat.div_eq_zero_iff_lt hp).1 h3
  · intro h; have h3 : n / 256 ^ k = 0 := (Nat.div_eq_zero_iff_lt hp).2 h; have h2 : ((n / 256 ^ k : Nat) : Int) = 0 := by omega
    rw [Int.natCast_ediv] at h2; exact h2
theorem byte_at (n m : Nat) : (n : Int) / 2 ^ (8 * m) % 256 = ((UInt8.ofNat (n / 256 ^ m)).toNat : Int) := by
  have e : (2 : Int) ^ (8 * m) = ((256 ^ m : Nat) : Int) := by
    rw [Int.pow_mul]; simp
  rw [e, <- Int.natCast_ediv]; simp
def IsB (w : World) (a : Option Addr) (len : Nat) (bs : List UInt8) : Prop :=
  bs.length = len /\ (0 < len -> ∃ b off, a = some ⟨b, off, none⟩ /\ b < w.heap.size /\ ∀ j, j < len -> w.cell? ⟨b, off + j, none⟩ = some (.int .u8 ((bs.getD j 0).toNat : Int)))
theorem IsB.below {w w' : World} {a : Option Addr} {len : Nat} {bs : List UInt8} (h : IsB w a len bs) (hb : Below w.heap.size w w') : IsB w' a len bs := by
  refine ⟨h.1, fun hp => ?_⟩; obtain ⟨b, off, ha, hlt, hc⟩ := h.2 hp; exact ⟨b, off, ha, Nat.lt_of_lt_of_le hlt hb.size, fun j hj => (hb.cell (p := ⟨b, off + j, none⟩) hlt).trans (hc j hj)⟩
theorem IsB.later {w w' : World} {a : Option Addr} {len B : Nat} {bs : List UInt8} (h : IsB w a len bs) (hb : Below B w w') (ha : ∀ b off, a = some ⟨b, off, none⟩ -> b < B) : IsB w' a len bs := by
  refine ⟨h.1, fun hp => ?_⟩; obtain ⟨b, off, hab, hlt, hc⟩ := h.2 hp; exact ⟨b, off, hab, Nat.lt_of_lt_of_le hlt hb.size, fun j hj => (hb.cell (p := ⟨b, off + j, none⟩) (ha b off hab)).trans (hc j hj)⟩
theorem IsB.nil (w : World) : IsB w none 0 [] := ⟨rfl, fun h => absurd h (by omega)⟩
def toV (bs : List UInt8) : List Value := bs.map fun b => Value.int .u8 (b.toNat : Int)
theorem Qi (bs : List UInt8) : (toV bs).length = bs.length := by simp [toV]
theorem Qmc (a b : List UInt8) : toV (a ++ b) = toV a ++ toV b := by simp [toV]
theorem toV_one (bs : List UInt8) : ∀ v ∈ toV bs, v.oneCell' = true := by
  intro v hv; obtain ⟨b, _, rfl⟩ := List.mem_map.1 hv; rfl
theorem Qfg (bs : List UInt8) (j : Nat) (h : j < bs.length) : (toV bs)[j]? = some (.int .u8 ((bs.getD j 0).toNat : Int)) := by
  simp [toV, List.getD, List.getElem?_eq_getElem h]
theorem toV_some (bs : List UInt8) (j : Nat) (v : Value) (h : (toV bs)[j]? = some v) : j < bs.length /\ v = .int .u8 ((bs.getD j 0).toNat : Int) := by
  have hj : j < bs.length := by
    have := (List.getElem?_eq_some_iff.1 h).1; rwa [Qi] at this
  rw [Qfg bs j hj] at h; exact ⟨hj, (Option.some.inj h).symm⟩
theorem IsB.cells {w : World} {a : Option Addr} {len : Nat} {bs : List UInt8} (h : IsB w a len bs) (hp : 0 < bs.length) : ∃ ad, a = some ad /\ ad.block < w.heap.size /\ ∀ j v, (toV bs)[j]? = some v -> w.cell? (ad.add j) = some v := by
  obtain ⟨b, off, ha, hlt, hc⟩ := h.2 (by have := h.1; omega); refine ⟨_, ha, hlt, fun j v hv => ?_⟩; obtain ⟨hj, rfl⟩ := toV_some bs j v hv; rw [Addr.add_lit]; exact hc j (by have := h.1; omega)
def Qqk (n : Nat) : List Value := List.replicate n (.int .u8 0)
theorem Qzb (n : Nat) : (Qqk n).length = n := by simp [Qqk]
theorem run_mk {P : Program} (t e : TypeId) (ht : P.underlying t = some (.slice e)) (hinfo : (P.info? e).map (fun i => (i.zero, i.size, i.bytes)) = some (some (.int .u8 0), 1, 1)) (l m : Nat) (h : l + m <= 281474976710656) (w : World) :
    (Instr.makeSlice t (.int .i64 (l : Int)) (.int .i64 ((l : Int) + (m : Int)))).run P w = .ok (.slice (some ⟨w.heap.size, 0, none⟩) l (l + m)) (w.alloc (.cells (Qqk (l + m)).toArray e)) := by
  obtain ⟨i, hi, hz, hs, hb⟩ := info_parts hinfo; have hr := run_make (P := P) w t e i (.int .u8 0) ht hi hz .i64 .i64 (l : Int) ((l : Int) + (m : Int)) (by omega) (by omega) (by rw [hb]; omega) (by omega); have e1 : ((l : Int) + (m : Int)).toNat = l + m := by omega
  have e2 : (Value.int .u8 0).cells = #[.int .u8 0] := rfl; rw [hr, e1, hs, Nat.mul_one, e2]
  have e3 : madeCells #[Value.int .u8 0] (l + m) = (Qqk (l + m)).toArray := by
    apply Array.ext'; rw [toList_madeCells_one]; rfl
  rw [e3]; rfl
theorem Qtq (L cs : List Value) : splice L 0 cs = cs ++ L.drop cs.length := by simp [splice]
theorem owns_spliced {w : World} {base g len m : Nat} {e : TypeId} {bs : List UInt8} (hb : bs.length = len) (hbase : base <= g) (hm : len + m <= 281474976710656)
    (h : w.heap[g]? = some (.cells (splice (Qqk (len + m)) 0 (toV bs)).toArray e (0, 0))) : w.ownsRow base e 1 (.slice (some ⟨g, 0, none⟩) len (len + m)) len (toV bs) := by
  refine ⟨by rw [Qi]; omega, .inr ⟨g, len + m, _, rfl, hbase, h, by omega, by unfold maxLen; omega, ?_, ?_⟩⟩
  · rw [List.size_toArray, length_splice _ _ _ (by rw [Qi, Qzb]; omega), Qzb]; omega
  · rw [Qtq, Nat.mul_one]; exact List.take_left' (by rw [Qi]; omega)
theorem IsB.hpos {w : World} {a : Option Addr} {len : Nat} {bs : List UInt8} (hB : IsB w a len bs) (o : Obj) (x : Option Addr) : 0 < (toV bs).length -> x = x /\ ∃ ad, a = some ad /\ ∀ j v, (toV bs)[j]? = some v -> (w.alloc o).cell? (ad.add j) = some v := by
  intro hp; rw [Qi] at hp; obtain ⟨ad, ha, _, hc⟩ := hB.cells hp; refine ⟨rfl, ad, ha, fun j v hv => ?_⟩; have hx := hc j v hv; exact ((((Below.refl w.heap.size w).alloc (Nat.le_refl _) _).cell (p := ad.add j) (World.block_lt_of_cell? w _ hx))).trans hx
def beB (k n : Nat) : List UInt8 := (List.range k).map fun i => UInt8.ofNat (n / 256 ^ (k - 1 - i))
theorem Qx (k n : Nat) : (beB k n).length = k := by simp [beB]
theorem beB_take (k n j : Nat) (h : j < k) : (beB k n).take (j + 1) = (beB k n).take j ++ [UInt8.ofNat (n / 256 ^ (k - 1 - j))] := by
  rw [List.take_succ_eq_append_getElem (by rw [Qx]; exact h)]; simp [beB]
theorem put_row {w : World} {base g len j cap : Nat} {e : TypeId} {bs t t' : List UInt8} {x : UInt8} (h : w.ownsRow base e 1 (.slice (some ⟨g, 0, none⟩) (len + j + 1) cap) (len + j + 1) (toV (bs ++ t) ++ [.int .u8 (x.toNat : Int)])) (ht : t' = t ++ [x]) :
    w.ownsRow base e 1 (.slice (some ⟨g, 0, none⟩) (len + (j + 1)) cap) (len + (j + 1)) (toV (bs ++ t')) := by
  subst ht; have e1 : toV (bs ++ (t ++ [x])) = toV (bs ++ t) ++ [.int .u8 (x.toNat : Int)] := by simp [toV]
  rw [e1]; exact h
theorem isB_conv (w : World) (e : TypeId) (s : ByteArray) : IsB (Lib.bytesWorld w e s) (some ⟨w.heap.size, 0, none⟩) s.size s.data.toList := by
  refine ⟨by simp, fun _ => ⟨w.heap.size, 0, rfl, by rw [Lib.bytesWorld_size]; omega, fun j hj => ?_⟩⟩; rw [Nat.zero_add, Lib.bytesWorld_cell w e s j hj]
theorem below_conv (w : World) (e : TypeId) (s : ByteArray) : Below w.heap.size w (Lib.bytesWorld w e s) :=
  ⟨rfl, rfl, rfl, by rw [Lib.bytesWorld_size]; omega, fun k hk => Lib.bytesWorld_at_old w e s k hk⟩
theorem Qto {P : Program} (w : World) (src dst e : TypeId) (hs : P.underlying src = some (.slice e)) (he : P.underlying e = some (.int .u8)) (hd : P.underlying dst = some .string)
    (a : Option Addr) (len cap : Nat) (bs : List UInt8) (h : IsB w a len bs) : (convert src dst (.slice a len cap)).run P w = .ok (.string ⟨bs.toArray⟩) w := by
  obtain ⟨hl, hc⟩ := h
  cases a with
  | none =>
    have h0 : ¬ 0 < len := by
      intro hp; obtain ⟨b, off, ha, _⟩ := hc hp; simp at ha
    have h1 : bs = [] := List.eq_nil_of_length_eq_zero (by omega); subst h1; exact run_convert_bytes_nil w src e hs he len cap dst hd
  | some ad =>
    subst hl; refine run_convert_bytes_back w src dst e ad cap bs hs he hd fun j hj => ?_
    obtain ⟨b, off, ha, _, hcell⟩ := hc (by omega); obtain rfl := Option.some.inj ha; rw [Addr.add_lit, hcell j hj]; simp [List.getD, List.getElem?_eq_getElem hj]
theorem IsB.cut {w : World} {b off len : Nat} {bs : List UInt8} (hb : bs.length = len) (hlt : b < w.heap.size) (hc : ∀ j, j < len -> w.cell? ⟨b, off + j, none⟩ = some (.int .u8 ((bs.getD j 0).toNat : Int)))
    (p m : Nat) (h : p + m <= len) : IsB w (some ⟨b, off + p, none⟩) m ((bs.drop p).take m) := by
  refine ⟨by simp; omega, fun _ => ⟨b, off + p, rfl, hlt, fun j hj => ?_⟩⟩; rw [Nat.add_assoc, hc (p + j) (by omega)]; simp [List.getD, hj]
theorem IsB.none_left (w : World) (a : Option Addr) : IsB w a 0 [] := ⟨rfl, fun h => absurd h (by omega)⟩
theorem _root_.Go.World.ownsRow.isB {w : World} {base g n cap : Nat} {e : TypeId} {bs : List UInt8} (h : w.ownsRow base e 1 (.slice (some ⟨g, 0, none⟩) n cap) n (toV bs)) (hl : bs.length = n) : IsB w (some ⟨g, 0, none⟩) n bs := by
  refine ⟨hl, fun _ => ⟨g, 0, rfl, (h.lt g rfl).2, fun j hj => ?_⟩⟩; rw [Nat.zero_add, h.cellAt j (by omega), Qfg bs j (by omega)]
theorem run_oneByte {P : Program} (w : World) (src dst e : TypeId) (hs : P.underlying src = some (.slice e)) (he : P.underlying e = some (.int .u8)) (hd : P.underlying dst = some .string) (x : Int) (y : UInt8) (hx : x = (y.toNat : Int)) :
    (convert src dst (.slice (some ⟨w.heap.size, 0, none⟩) 1 1)).run P (w.alloc (.cells #[.int .u8 x] e)) = .ok (.string ⟨#[y]⟩) (w.alloc (.cells #[.int .u8 x] e)) := by
  subst hx; refine Qto (w.alloc (.cells #[.int .u8 (y.toNat : Int)] e)) src dst e hs he hd (some ⟨w.heap.size, 0, none⟩) 1 1 [y] ⟨rfl, fun _ => ⟨w.heap.size, 0, rfl, by simp, fun j hj => ?_⟩⟩; obtain rfl : j = 0 := by omega
  simp
def Qdn (bs : List UInt8) (p k : Int) : Int × Int :=
  if k < 1 ∨ 8 < k ∨ p < 0 then (0, 1)
  else if (bs.length : Int) - p < k then (0, 4)
  else (((beAt bs p.toNat k.toNat : Nat) : Int), 0)
theorem takeS_arg (bs : List UInt8) (p k : Int) (h : k < 1 ∨ 8 < k ∨ p < 0) : Qdn bs p k = (0, 1) := by simp [Qdn, h]
theorem Qbr (bs : List UInt8) (p k : Int) (h : ¬ (k < 1 ∨ 8 < k ∨ p < 0)) (h2 : (bs.length : Int) - p < k) : Qdn bs p k = (0, 4) := by
  unfold Qdn; rw [if_neg h, if_pos h2]
theorem Qdt (bs : List UInt8) (p k : Int) (h : ¬ (k < 1 ∨ 8 < k ∨ p < 0)) (h2 : ¬ (bs.length : Int) - p < k) : Qdn bs p k = (((beAt bs p.toNat k.toNat : Nat) : Int), 0) := by
  unfold Qdn; rw [if_neg h, if_neg h2]
def Qli (bs : List UInt8) (p : Int) : List UInt8 × Int × Int :=
  if p < 0 then ([], 0, 1)
  else if (bs.length : Int) <= p then ([], 0, 4)
  else if (bs.length : Int) < p + 1 + ((bs.getD p.toNat 0).toNat : Int) then ([], 0, 4)
  else ((bs.drop (p.toNat + 1)).take (bs.getD p.toNat 0).toNat, p + 1 + ((bs.getD p.toNat 0).toNat : Int), 0)
theorem textS_arg (bs : List UInt8) (p : Int) (h : p < 0) : Qli bs p = ([], 0, 1) := by simp [Qli, h]
theorem Qvq (bs : List UInt8) (p : Int) (h : ¬ p < 0) (h2 : (bs.length : Int) <= p) : Qli bs p = ([], 0, 4) := by
  unfold Qli; rw [if_neg h, if_pos h2]
theorem textS_few (bs : List UInt8) (p m : Nat) (h2 : p < bs.length) (hm : (bs.getD p 0).toNat = m) (h3 : bs.length < p + 1 + m) : Qli bs p = ([], 0, 4) := by
  unfold Qli; rw [if_neg (by omega), if_neg (by omega), Int.toNat_natCast, hm, if_pos (by omega)]
theorem Qxr (bs : List UInt8) (p m : Nat) (h2 : p < bs.length) (hm : (bs.getD p 0).toNat = m) (h3 : p + 1 + m <= bs.length) : Qli bs p = ((bs.drop (p + 1)).take m, (p : Int) + 1 + (m : Int), 0) := by
  unfold Qli; rw [if_neg (by omega), if_neg (by omega), Int.toNat_natCast, hm, if_neg (by omega)]
theorem Qkh (s : ByteArray) (p m : Nat) (h : p + m <= s.size) : s.extract p (p + m) = ⟨((s.data.toList.drop p).take m).toArray⟩ := by
  apply ByteArray.ext; rw [ByteArray.data_extract]; apply Array.ext'; rw [Array.toList_extract]; simp [List.extract_eq_take_drop]
theorem Qbh (k n : Nat) : beB (k + 1) n = UInt8.ofNat (n / 256 ^ k) :: beB k n := by
  apply List.ext_getElem
  · simp [beB]
  · intro i h1 h2
    cases i with
    | zero => simp [beB]
    | succ i =>
      simp only [beB, List.getElem_map, List.getElem_range, List.getElem_cons_succ]; congr 3; omega
theorem div_pow (n j : Nat) : n / 256 ^ j / 256 = n / 256 ^ (j + 1) := by rw [Nat.div_div_eq_div_mul, Nat.pow_succ]
theorem Qco (n k : Nat) : ((n / 256 ^ k : Nat) : Int) = 0 ↔ n < 256 ^ k := by
  have hp : 0 < 256 ^ k := Nat.pow_pos (by omega); have e := Nat.div_eq_zero_iff_lt (x := n) hp; omega
def sh (n j : Nat) : Nat := n / 256 ^ j
theorem sh_zero (n : Nat) : sh n 0 = n := by simp [sh]
theorem sh_succ (n j : Nat) : sh n j / 256 = sh n (j + 1) := div_pow n j
theorem sh_le (n j : Nat) : sh n j <= n := Nat.div_le_self _ _
theorem sh_test (n k : Nat) : (((sh n k : Nat) : Int) == 0) = decide (n < 256 ^ k) := by
  rw [Bool.eq_iff_iff]; simp only [beq_iff_eq, decide_eq_true_eq]; exact Qco n k
theorem Qmb (a : Nat) : (UInt8.ofNat a).toNat = a % 256 := by simp
theorem Qen (k n : Nat) : beB k n = beB k (n % 256 ^ k) := by
  apply List.ext_getElem
  · simp [beB]
  · intro i h1 h2; have hi : i < k := by simpa [beB] using h1
    simp only [beB, List.getElem_map, List.getElem_range]; apply UInt8.toNat_inj.1; rw [Qmb, Qmb]
    have e : 256 ^ k = 256 ^ (k - 1 - i) * (256 * 256 ^ i) := by
      rw [<- Nat.pow_succ', <- Nat.pow_add]; congr 1; omega
    rw [e, Nat.mod_mul_right_div_self, Nat.mod_mul_right_mod]
theorem order_lex (q a b c d : Nat) (h1 : c < q) (h2 : d < q) : (a < b ∨ a = b /\ c < d) ↔ q * a + c < q * b + d := by
  rcases Nat.lt_trichotomy a b with h | h | h
  · have e : q * (a + 1) <= q * b := Nat.mul_le_mul_left q h; rw [Nat.mul_add] at e; omega
  · subst h; omega
  · have e : q * (b + 1) <= q * a := Nat.mul_le_mul_left q h; rw [Nat.mul_add] at e; omega
theorem less_beB : ∀ (k n m : Nat), n < 256 ^ k -> m < 256 ^ k -> Op.bytesLess (beB k n) (beB k m) = decide (n < m)
  | 0, n, m, hn, hm => by
    have h1 : n = 0 := by simpa using hn
    have h2 : m = 0 := by simpa using hm
    subst h1; subst h2; rfl
  | k + 1, n, m, hn, hm => by
    have hp : 0 < 256 ^ k := Nat.pow_pos (by omega); rw [Qbh, Qbh, Qen k n, Qen k m]; have ih := less_beB k (n % 256 ^ k) (m % 256 ^ k) (Nat.mod_lt _ hp) (Nat.mod_lt _ hp); simp only [Op.bytesLess]; rw [ih]; have e1 := Nat.div_add_mod n (256 ^ k); have e2 := Nat.div_add_mod m (256 ^ k); have q1 : n / 256 ^ k < 256 := Nat.div_lt_of_lt_mul (by rw [Nat.pow_succ] at hn; exact hn); have q2 : m / 256 ^ k < 256 := Nat.div_lt_of_lt_mul (by rw [Nat.pow_succ] at hm; exact hm); have r1 := Nat.mod_lt n hp; have r2 := Nat.mod_lt m hp; generalize n / 256 ^ k = a at *; generalize m / 256 ^ k = b at *; generalize n % 256 ^ k = c at *; generalize m % 256 ^ k = d at *; generalize 256 ^ k = q at *; rw [Bool.eq_iff_iff]; simp only [Bool.or_eq_true, decide_eq_true_eq, Bool.and_eq_true, beq_iff_eq, UInt8.lt_iff_toNat_lt, <- UInt8.toNat_inj, Qmb]; rw [Nat.mod_eq_of_lt q1, Nat.mod_eq_of_lt q2]; subst e1; subst e2; exact order_lex q a b c d r1 r2
theorem Qdk (a b : List UInt8) : (⟨a.toArray⟩ : ByteArray) ++ ⟨b.toArray⟩ = ⟨(a ++ b).toArray⟩ := by
  rw [ByteArray.mk_append_mk]
theorem size_mk (l : List UInt8) : ByteArray.size ⟨l.toArray⟩ = l.length := by
  show l.toArray.size = l.length; rw [List.size_toArray]
theorem str_cons (j n : Nat) : (⟨#[UInt8.ofNat (sh n j)]⟩ : ByteArray) ++ ⟨(beB j n).toArray⟩ = ⟨(beB (j + 1) n).toArray⟩ := by
  rw [Qbh]; exact Qdk [UInt8.ofNat (sh n j)] (beB j n)
theorem str_append (s : ByteArray) (b : List UInt8) : s ++ ⟨b.toArray⟩ = ⟨(s.data.toList ++ b).toArray⟩ := by
  have e : s = ⟨s.data.toList.toArray⟩ := by
    apply ByteArray.ext; simp
  have h := Qdk s.data.toList b; rw [<- e] at h; exact h
def Qdd (s : List UInt8) : List UInt8 := UInt8.ofNat s.length :: s
theorem Qii (s : List UInt8) : (Qdd s).length = 1 + s.length := by simp [Qdd]; omega
theorem Qzg {w w' : World} {base n size : Nat} {e : TypeId} {v : Value} {xs : List Value} (h : w.ownsRow base e size v n xs) (hb : Below w.heap.size w w') : w'.ownsRow base e size v n xs := by
  refine ⟨h.1, ?_⟩
  rcases h.2 with hn | ⟨g, cap, cur, rfl, hbg, hg, rest⟩
  · exact .inl hn
  · exact .inr ⟨g, cap, cur, rfl, hbg, by rw [hb.block g (Array.getElem?_eq_some_iff.1 hg).1]; exact hg, rest⟩
theorem mk_self (s : ByteArray) : (⟨s.data.toList.toArray⟩ : ByteArray) = s := by
  apply ByteArray.ext; simp
theorem Qeb (s : ByteArray) : s.data.toList.length = s.size := by simp
theorem shape_isB {w : World} {base n : Nat} {e : TypeId} {v : Value} {bs : List UInt8} (h : w.ownsRow base e 1 v n (toV bs)) : ∃ a cap, v = .slice a n cap /\ n <= cap /\ IsB w a n bs := by
  have hl : bs.length = n := by
    have := h.1; rw [Qi] at this; omega
  rcases h.2 with ⟨rfl, rfl⟩ | ⟨g, cap, cur, rfl, _, _, hn, _⟩
  · exact ⟨none, 0, rfl, Nat.le_refl _, ⟨hl, fun h => absurd h (by omega)⟩⟩
  · exact ⟨_, cap, rfl, hn, World.ownsRow.isB h hl⟩
theorem ofNat_len (s : List UInt8) (h : s.length <= 255) : (UInt8.ofNat s.length).toNat = s.length := by
  rw [Qmb]; omega
theorem textS_back (b s t : List UInt8) (h : s.length <= 255) : Qli (b ++ Qdd s ++ t) (b.length : Int) = (s, (b.length : Int) + 1 + (s.length : Int), 0) := by
  have hg : ((b ++ Qdd s ++ t).getD b.length 0).toNat = s.length := by
    have e : (b ++ Qdd s ++ t).getD b.length 0 = UInt8.ofNat s.length := by simp [List.getD, Qdd]
    rw [e, ofNat_len s h]
  have hl : (b ++ Qdd s ++ t).length = b.length + (1 + s.length) + t.length := by
    rw [List.length_append, List.length_append, Qii]
  rw [Qxr _ b.length s.length (by omega) hg (by omega)]
  have e : ((b ++ Qdd s ++ t).drop (b.length + 1)).take s.length = s := by
    have e1 : b ++ Qdd s ++ t = (b ++ [UInt8.ofNat s.length]) ++ (s ++ t) := by simp [Qdd]
    rw [e1, List.drop_left' (by simp), List.take_left' rfl]
  rw [e]
theorem toV_str (bs : List UInt8) (s : ByteArray) : toV bs ++ Lib.strCells s = toV (bs ++ s.data.toList) := by simp [toV, Lib.strCells]
theorem be_cons (b : UInt8) (bs : List UInt8) : be (b :: bs) = b.toNat * 256 ^ bs.length + be bs := by
  have h : ∀ (l : List UInt8) (x : Nat), l.foldl (fun n b => n * 256 + b.toNat) x = x * 256 ^ l.length + be l := by
    intro l
    induction l with
    | nil => intro x; simp [be]
    | cons c l ih =>
      intro x; have e : be (c :: l) = l.foldl (fun n b => n * 256 + b.toNat) (0 * 256 + c.toNat) := rfl; rw [List.foldl_cons, ih, e, ih, List.length_cons, Nat.pow_succ, Nat.add_mul, Nat.zero_mul, Nat.zero_add, Nat.mul_assoc, Nat.mul_comm 256]; omega
  have e : be (b :: bs) = bs.foldl (fun n b => n * 256 + b.toNat) (0 * 256 + b.toNat) := rfl; rw [e, h]; simp
theorem Qak : ∀ (k n : Nat), n < 256 ^ k -> be (beB k n) = n
  | 0, n, h => by
    have h1 : n = 0 := by simpa using h
    subst h1; rfl
  | k + 1, n, h => by
    have hp : 0 < 256 ^ k := Nat.pow_pos (by omega); have q1 : n / 256 ^ k < 256 := Nat.div_lt_of_lt_mul (by rw [Nat.pow_succ] at h; exact h); rw [Qbh, be_cons, Qx, Qmb, Nat.mod_eq_of_lt q1, Qen k n, Qak k _ (Nat.mod_lt _ hp), Nat.mul_comm]; exact Nat.div_add_mod n (256 ^ k)
theorem takeS_back (b t : List UInt8) (k n : Nat) (h1 : 1 <= k) (h2 : k <= 8) (hn : n < 256 ^ k) : Qdn (b ++ beB k n ++ t) (b.length : Int) (k : Int) = ((n : Int), 0) := by
  have hl : (b ++ beB k n ++ t).length = b.length + k + t.length := by rw [List.length_append, List.length_append, Qx]
  rw [Qdt _ _ _ (by omega) (by omega), Int.toNat_natCast, Int.toNat_natCast]
  have e : beAt (b ++ beB k n ++ t) b.length k = n := by
    unfold beAt; rw [List.append_assoc, List.drop_left' rfl, List.take_left' (Qx k n), Qak k n hn]
  rw [e]
theorem isB_lit (w : World) (C : Array Value) (e : TypeId) (fr : Nat × Nat) (bs : List UInt8) (n : Nat) (hC : C.toList = toV bs) (hn : bs.length = n) : IsB (w.alloc (.cells C e fr)) (some ⟨w.heap.size, 0, none⟩) n bs := by
  refine ⟨hn, fun _ => ⟨w.heap.size, 0, rfl, by simp, fun j hj => ?_⟩⟩; rw [Nat.zero_add, World.cell?_alloc_mark, <- Array.getElem?_toList, hC, Qfg bs j (by omega)]
theorem run_mkn {P : Program} (t e : TypeId) (ht : P.underlying t = some (.slice e)) (hinfo : (P.info? e).map (fun i => (i.zero, i.size, i.bytes)) = some (some (.int .u8 0), 1, 1)) (l : Nat) (h : l <= 281474976710656) (w : World) :
    (Instr.makeSlice t (.int .i64 (l : Int)) (.int .i64 (l : Int))).run P w = .ok (.slice (some ⟨w.heap.size, 0, none⟩) l l) (w.alloc (.cells (Qqk l).toArray e)) := by
  have hr := run_mk t e ht hinfo l 0 (by omega) w; simpa using hr
theorem own_slice {w : World} {base n size : Nat} {e : TypeId} {v : Value} {xs : List Value} (h : w.ownsRow base e size v n xs) (hn : 0 < n) : ∃ g cap, v = .slice (some ⟨g, 0, none⟩) n cap /\ base <= g := by
  rcases h.2 with ⟨_, h0⟩ | ⟨g, cap, cur, hv, hb, _⟩
  · omega
  · exact ⟨g, cap, hv, hb⟩
theorem xlc (x y z : Nat) : x ^^^ (y ^^^ z) = y ^^^ (x ^^^ z) := by rw [<- Nat.xor_assoc, Nat.xor_comm x y, Nat.xor_assoc]
theorem xz (a b : Nat) : a ^^^ b = 0 ↔ a = b := by
  constructor
  · intro h; have h1 : a ^^^ b ^^^ b = 0 ^^^ b := by rw [h]
    rwa [Nat.xor_assoc, Nat.xor_self, Nat.xor_zero, Nat.zero_xor] at h1
  · intro h; rw [h, Nat.xor_self]
theorem xm2 (a b : Nat) : (a ^^^ b) % 2 = (a + b) % 2 := by
  have h : (a ^^^ b) % 2 = 1 ↔ ¬ (a % 2 = 1 ↔ b % 2 = 1) := Nat.xor_mod_two_eq_one; omega
def poly : Nat := 3988292384
def Qye : Nat := 4294967295
theorem poly_lt : poly < 2 ^ 32 := by decide
theorem Qmm : Qye < 2 ^ 32 := by decide
theorem poly_ge : 2 ^ 31 <= poly := by decide
def stp (r : Nat) : Nat := if r % 2 = 1 then r / 2 ^^^ poly else r / 2
theorem stp_zero : stp 0 = 0 := rfl
theorem Qqr (r : Nat) (h : r < 2 ^ 32) : stp r < 2 ^ 32 := by
  unfold stp
  split
  · exact Nat.xor_lt_two_pow (by omega) poly_lt
  · omega
theorem stp_xor (a b : Nat) : stp (a ^^^ b) = stp a ^^^ stp b := by
  unfold stp; have h1 : (a ^^^ b) / 2 = a / 2 ^^^ b / 2 := Nat.xor_div_two; have h2 : (a ^^^ b) % 2 = (a + b) % 2 := xm2 a b; rw [h1]; have c1 : ∀ x y z : Nat, x ^^^ (y ^^^ z) = y ^^^ (x ^^^ z) := xlc
  by_cases ha : a % 2 = 1
  · by_cases hb : b % 2 = 1
    · rw [if_pos ha, if_pos hb, if_neg (by omega)]; rw [Nat.xor_assoc, c1 poly, Nat.xor_self, Nat.xor_zero]
    · rw [if_pos ha, if_neg hb, if_pos (by omega)]; rw [Nat.xor_assoc, Nat.xor_assoc, Nat.xor_comm (b / 2)]
  · by_cases hb : b % 2 = 1
    · rw [if_neg ha, if_pos hb, if_pos (by omega), Nat.xor_assoc]
    · rw [if_neg ha, if_neg hb, if_neg (by omega)]
theorem stp_ker (r : Nat) (h : r < 2 ^ 32) (h0 : stp r = 0) : r = 0 := by
  unfold stp at h0
  split at h0
  · have h1 : r / 2 = poly := (xz _ _).1 h0; have h2 := poly_ge; omega
  · omega
def Qrf : Nat -> Nat -> Nat
  | 0, r => r
  | n + 1, r => Qrf n (stp r)
theorem stps_zero (n : Nat) : Qrf n 0 = 0 := by
  induction n with
  | zero => rfl
  | succ n ih => rw [Qrf, stp_zero, ih]
theorem stps_lt : ∀ (n r : Nat), r < 2 ^ 32 -> Qrf n r < 2 ^ 32
  | 0, _, h => h
  | n + 1, r, h => stps_lt n (stp r) (Qqr r h)
theorem Qfj : ∀ (n a b : Nat), Qrf n (a ^^^ b) = Qrf n a ^^^ Qrf n b
  | 0, _, _ => rfl
  | n + 1, a, b => by rw [Qrf, Qrf, Qrf, stp_xor, Qfj n]
theorem Qzi : ∀ (n r : Nat), r < 2 ^ 32 -> Qrf n r = 0 -> r = 0
  | 0, _, _, h => h
  | n + 1, r, h, h0 => stp_ker r h (Qzi n (stp r) (Qqr r h) h0)
theorem stps_inj (n a b : Nat) (ha : a < 2 ^ 32) (hb : b < 2 ^ 32) (h : Qrf n a = Qrf n b) : a = b := by
  have h1 : Qrf n (a ^^^ b) = 0 := by rw [Qfj, h, Nat.xor_self]
  exact (xz _ _).1 (Qzi n _ (Nat.xor_lt_two_pow ha hb) h1)
theorem Qum : ∀ (m n r : Nat), Qrf (m + n) r = Qrf n (Qrf m r)
  | 0, n, r => by rw [Nat.zero_add]; rfl
  | m + 1, n, r => by
    have e : m + 1 + n = (m + n) + 1 := by omega
    rw [e, Qrf, Qrf, Qum m n]
theorem Qpo (n r : Nat) : Qrf (n + 1) r = stp (Qrf n r) := by
  rw [Qum n 1 r]; rfl
def Qpi (r : Nat) (b : UInt8) : Nat := Qrf 8 (r ^^^ b.toNat)
def Qxe (r : Nat) (bs : List UInt8) : Nat := bs.foldl Qpi r
def crc (bs : List UInt8) : Nat := Qye ^^^ Qxe Qye bs
def crcMore (s : Nat) (bs : List UInt8) : Nat := Qye ^^^ Qxe (Qye ^^^ s) bs
theorem u8_lt32 (b : UInt8) : b.toNat < 2 ^ 32 := by have := b.toNat_lt; omega
theorem byteS_lt (r : Nat) (b : UInt8) (h : r < 2 ^ 32) : Qpi r b < 2 ^ 32 := stps_lt 8 _ (Nat.xor_lt_two_pow h (u8_lt32 b))
theorem Qvp : ∀ (bs : List UInt8) (r : Nat), r < 2 ^ 32 -> Qxe r bs < 2 ^ 32
  | [], _, h => h
  | b :: bs, r, h => Qvp bs (Qpi r b) (byteS_lt r b h)
theorem Qct (bs : List UInt8) : crc bs < 2 ^ 32 := Nat.xor_lt_two_pow Qmm (Qvp bs Qye Qmm)
theorem crun_nil (r : Nat) : Qxe r [] = r := rfl
theorem crun_snoc (r : Nat) (bs : List UInt8) (b : UInt8) : Qxe r (bs ++ [b]) = Qpi (Qxe r bs) b := by simp [Qxe, List.foldl_append]
theorem Qmj (r : Nat) (a b : List UInt8) : Qxe r (a ++ b) = Qxe (Qxe r a) b := by simp [Qxe, List.foldl_append]
theorem ones_ones (x : Nat) : Qye ^^^ (Qye ^^^ x) = x := by rw [<- Nat.xor_assoc, Nat.xor_self, Nat.zero_xor]
theorem crc_more (a b : List UInt8) : crc (a ++ b) = crcMore (crc a) b := by
  unfold crc crcMore; rw [ones_ones, Qmj]
def Qrp (a b : List UInt8) : List UInt8 := List.zipWith (· ^^^ ·) a b
theorem xor4 (r s x y : Nat) : (r ^^^ s) ^^^ (x ^^^ y) = (r ^^^ x) ^^^ (s ^^^ y) := by
  rw [Nat.xor_assoc, xlc s, <- Nat.xor_assoc]
theorem byteS_xor (r s : Nat) (x y : UInt8) : Qpi (r ^^^ s) (x ^^^ y) = Qpi r x ^^^ Qpi s y := by
  unfold Qpi; rw [UInt8.toNat_xor, xor4, Qfj]
theorem Qxm : ∀ (a b : List UInt8) (r s : Nat), a.length = b.length -> Qxe (r ^^^ s) (Qrp a b) = Qxe r a ^^^ Qxe s b
  | [], [], _, _, _ => rfl
  | x :: a, y :: b, r, s, h => by
    have h1 : a.length = b.length := by simpa using h
    have e : Qrp (x :: a) (y :: b) = (x ^^^ y) :: Qrp a b := rfl; have e1 : Qxe (r ^^^ s) ((x ^^^ y) :: Qrp a b) = Qxe (Qpi (r ^^^ s) (x ^^^ y)) (Qrp a b) := rfl; rw [e, e1, byteS_xor, Qxm a b _ _ h1]; rfl
  | [], _ :: _, _, _, h => by simp at h
  | _ :: _, [], _, _, h => by simp at h
theorem crc_linear (a b c : List UInt8) (h1 : b.length = a.length) (h2 : c.length = a.length) : crc a ^^^ crc b ^^^ crc c ^^^ crc (Qrp (Qrp a b) c) = 0 := by
  have e1 : Qye = Qye ^^^ Qye ^^^ Qye := by rw [Nat.xor_self, Nat.zero_xor]
  have hl : (Qrp a b).length = c.length := by simp [Qrp, h1, h2]
  have e2 : Qxe Qye (Qrp (Qrp a b) c) = Qxe Qye a ^^^ Qxe Qye b ^^^ Qxe Qye c := by
    have e3 : Qxe Qye (Qrp (Qrp a b) c) = Qxe (Qye ^^^ Qye ^^^ Qye) (Qrp (Qrp a b) c) := by rw [<- e1]
    rw [e3, Qxm _ _ _ _ hl, Qxm _ _ _ _ h1.symm]
  unfold crc; rw [e2]; generalize Qxe Qye a = x; generalize Qxe Qye b = y; generalize Qxe Qye c = z; rw [xz]; have e5 : Qye ^^^ x ^^^ (Qye ^^^ y) = x ^^^ y := by rw [xor4, Nat.xor_self, Nat.zero_xor]
  rw [e5]; rw [xlc]
def Qbe (s : List UInt8) (j : Nat) : Bool := (s.getD (j / 8) 0).toNat.testBit (j % 8)
def bst (r : Nat) (b : Bool) : Nat := stp (r ^^^ b.toNat)
def Qjb (r : Nat) (f : Nat -> Bool) : Nat -> Nat
  | 0 => r
  | n + 1 => bst (Qjb r f n) (f n)
theorem stp_low (q c : Nat) : stp (q ^^^ c) = stp (q ^^^ (c % 2)) ^^^ (c / 2) := by
  have e1 : (q ^^^ c) / 2 = q / 2 ^^^ c / 2 := Nat.xor_div_two; have e2 : (q ^^^ (c % 2)) / 2 = q / 2 ^^^ (c % 2) / 2 := Nat.xor_div_two; have e3 : (c % 2) / 2 = 0 := by omega
  have p1 := xm2 q c; have p2 := xm2 q (c % 2); unfold stp; rw [e1, e2, e3, Nat.xor_zero]
  by_cases h : (q ^^^ c) % 2 = 1
  · rw [if_pos h, if_pos (by omega), Nat.xor_assoc, Nat.xor_assoc, Nat.xor_comm poly]
  · rw [if_neg h, if_neg (by omega)]
theorem bit_mod (c i : Nat) : (c.testBit i).toNat = c / 2 ^ i % 2 := by
  rw [Nat.testBit_eq_decide_div_mod_eq]; have h : c / 2 ^ i % 2 = 0 ∨ c / 2 ^ i % 2 = 1 := by omega
  rcases h with h | h <;> simp [h]
theorem Qsp (r : Nat) (f : Nat -> Bool) (n c : Nat) : ∀ (i : Nat), (∀ j, j < i -> f (n + j) = c.testBit j) -> Qrf i (Qjb r f n ^^^ c) = Qjb r f (n + i) ^^^ (c / 2 ^ i)
  | 0, _ => by simp [Qrf]
  | i + 1, h => by
    rw [Qpo, Qsp r f n c i (fun j hj => h j (by omega)), stp_low]; have e : Qjb r f (n + (i + 1)) = bst (Qjb r f (n + i)) (f (n + i)) := rfl; rw [e, h i (by omega), bst, bit_mod, Nat.div_div_eq_div_mul, <- Nat.pow_succ]
theorem Qlo (r : Nat) (s : List UInt8) : ∀ (k : Nat), k <= s.length -> Qxe r (s.take k) = Qjb r (Qbe s) (8 * k)
  | 0, _ => by simp [Qxe, Qjb]
  | k + 1, h => by
    have hk : k < s.length := h; rw [List.take_succ_eq_append_getElem hk, crun_snoc, Qlo r s k (by omega), Qpi]
    have hb := Qsp r (Qbe s) (8 * k) s[k].toNat 8 (fun j hj => by
      have e1 : (8 * k + j) / 8 = k := by omega
      have e2 : (8 * k + j) % 8 = j := by omega
      simp [Qbe, e1, e2, List.getD, List.getElem?_eq_getElem hk])
    have e3 : s[k].toNat / 2 ^ 8 = 0 := by have := s[k].toNat_lt; omega
    rw [e3, Nat.xor_zero] at hb; exact hb
theorem Qkl (r : Nat) (s : List UInt8) : Qxe r s = Qjb r (Qbe s) (8 * s.length) := by
  have h := Qlo r s s.length (Nat.le_refl _); rwa [List.take_length] at h
theorem Qlj (r : Nat) (f g : Nat -> Bool) : ∀ (n : Nat), (∀ j, j < n -> f j = g j) -> Qjb r f n = Qjb r g n
  | 0, _ => rfl
  | n + 1, h => by rw [Qjb, Qjb, Qlj r f g n (fun j hj => h j (by omega)), h n (by omega)]
theorem bool_xor (a b : Bool) : (a ^^ b).toNat = a.toNat ^^^ b.toNat := by cases a <;> cases b <;> rfl
theorem Qop (r s : Nat) (f g : Nat -> Bool) : ∀ (n : Nat), Qjb (r ^^^ s) (fun j => f j ^^ g j) n = Qjb r f n ^^^ Qjb s g n
  | 0 => rfl
  | n + 1 => by rw [Qjb, Qjb, Qjb, Qop r s f g n, bst, bst, bst, bool_xor, xor4, stp_xor]
def win (k t : Nat) (j : Nat) : Bool := decide (k <= j) && decide (j < k + 32) && t.testBit (j - k)
theorem Qmo (k t : Nat) : ∀ (n : Nat), n <= k -> Qjb 0 (win k t) n = 0
  | 0, _ => rfl
  | n + 1, h => by
    have e : win k t n = false := by simp [win]; omega
    rw [Qjb, Qmo k t n (by omega), e]; rfl
theorem Qbl (k t : Nat) : ∀ (m : Nat), Qjb 0 (win k t) (k + 32 + m) = Qrf m (Qjb 0 (win k t) (k + 32))
  | 0 => rfl
  | m + 1 => by
    have e : win k t (k + 32 + m) = false := by simp [win]; omega
    have e2 : Qjb 0 (win k t) (k + 32 + (m + 1)) = bst (Qjb 0 (win k t) (k + 32 + m)) (win k t (k + 32 + m)) := rfl; rw [e2, e, Qbl k t m, Qpo, bst]; simp
theorem win_lt (k t : Nat) : ∀ (n : Nat), Qjb 0 (win k t) n < 2 ^ 32
  | 0 => by rw [Qjb]; omega
  | n + 1 => by
    rw [Qjb, bst]; refine Qqr _ (Nat.xor_lt_two_pow (win_lt k t n) ?_); have := Bool.toNat_lt (win k t n); omega
theorem win_told (k t n : Nat) (ht : t < 2 ^ 32) (h0 : t ≠ 0) (hn : k + 32 <= n) : Qjb 0 (win k t) n ≠ 0 := by
  have hb := Qsp 0 (win k t) k t 32 (fun j hj => by
    have e : k + j - k = j := by omega
    simp [win, hj])
  rw [Qmo k t k (Nat.le_refl _), Nat.zero_xor, Nat.div_eq_of_lt ht, Nat.xor_zero] at hb; intro h; obtain ⟨m, rfl⟩ := Nat.le.dest hn; rw [Qbl] at h; have h1 := Qzi m _ (win_lt k t _) h; rw [<- hb] at h1; exact h0 (Qzi 32 t ht h1)
theorem turned (r : Nat) (s s' : List UInt8) (k t : Nat) (ht : t < 2 ^ 32) (h0 : t ≠ 0) (hl : s'.length = s.length) (hk : k + 32 <= 8 * s.length)
    (hb : ∀ j, j < 8 * s.length -> Qbe s' j = (Qbe s j ^^ win k t j)) : Qxe r s' ≠ Qxe r s := by
  intro h; rw [Qkl, Qkl, hl, Qlj r (Qbe s') (fun j => Qbe s j ^^ win k t j) _ hb] at h; have e := Qop r 0 (Qbe s) (win k t) (8 * s.length); rw [Nat.xor_zero] at e; rw [e] at h
  have h2 : Qjb 0 (win k t) (8 * s.length) = 0 := by
    have h3 : Qjb r (Qbe s) (8 * s.length) ^^^ (Qjb r (Qbe s) (8 * s.length) ^^^ Qjb 0 (win k t) (8 * s.length)) = Qjb r (Qbe s) (8 * s.length) ^^^ Qjb r (Qbe s) (8 * s.length) := by rw [h]
    rwa [<- Nat.xor_assoc, Nat.xor_self, Nat.zero_xor] at h3
  exact win_told k t _ ht h0 hk h2
def leN : List UInt8 -> Nat
  | [] => 0
  | b :: t => b.toNat + 256 * leN t
def leB (x : Nat) : List UInt8 := [UInt8.ofNat x, UInt8.ofNat (x / 256), UInt8.ofNat (x / 65536), UInt8.ofNat (x / 16777216)]
theorem Qyd (x : Nat) : (leB x).length = 4 := rfl
theorem Qom (x : Nat) (h : x < 2 ^ 32) : leN (leB x) = x := by
  simp only [leB, leN, UInt8.toNat_ofNat']; omega
theorem leN_lt : ∀ (t : List UInt8), leN t < 256 ^ t.length
  | [] => by simp [leN]
  | b :: t => by
    have := leN_lt t; have hb := b.toNat_lt; rw [List.length_cons, Nat.pow_succ, leN]; omega
theorem Qsj : ∀ (n x : Nat), Qrf n (2 ^ n * x) = x
  | 0, x => by simp [Qrf]
  | n + 1, x => by
    have e : stp (2 ^ (n + 1) * x) = 2 ^ n * x := by
      have e2 : 2 ^ (n + 1) * x = 2 * (2 ^ n * x) := by rw [Nat.pow_succ, Nat.mul_comm (2 ^ n) 2, Nat.mul_assoc]
      rw [e2, stp, if_neg (by omega)]; omega
    rw [Qrf, e, Qsj n x]
theorem add_xor (b y : Nat) (h : b < 256) : b + 256 * y = b ^^^ (256 * y) := by
  apply Nat.eq_of_testBit_eq; intro i; have e1 : b + 256 * y = 2 ^ 8 * y + b := by omega
  have e2 : 256 * y = 2 ^ 8 * y := by omega
  rw [e1, Nat.testBit_two_pow_mul_add y (show b < 2 ^ 8 by omega), e2, Nat.testBit_xor, Nat.testBit_two_pow_mul]
  by_cases hi : i < 8
  · have h8 : ¬ i ≥ 8 := by omega
    simp [hi, h8]
  · have h8 : i ≥ 8 := by omega
    have hb : b.testBit i = false := Nat.testBit_lt_two_pow (Nat.lt_of_lt_of_le (show b < 2 ^ 8 by omega) (Nat.pow_le_pow_right (by omega) h8)); simp [hi, h8, hb]
theorem crun_le : ∀ (t : List UInt8) (r : Nat), Qxe r t = Qrf (8 * t.length) (r ^^^ leN t)
  | [], r => by simp [Qxe, leN, Qrf]
  | b :: t, r => by
    have e : Qxe r (b :: t) = Qxe (Qpi r b) t := rfl; have e1 : 8 * (b :: t).length = 8 + 8 * t.length := by rw [List.length_cons]; omega
    have e2 : Qrf 8 (256 * leN t) = leN t := Qsj 8 (leN t); have e3 : Qrf 8 (r ^^^ b.toNat ^^^ 256 * leN t) = Qrf 8 (r ^^^ b.toNat) ^^^ leN t := by rw [Qfj 8 (r ^^^ b.toNat), e2]
    rw [e, crun_le t, Qpi, e1, Qum, leN, add_xor _ _ b.toNat_lt, <- Nat.xor_assoc, e3]
def rest : Nat := Qrf 32 Qye
theorem Qll (b t : List UInt8) (h : t.length = 4) : leN t = crc b ↔ Qxe Qye (b ++ t) = rest := by
  have h32 : leN t < 2 ^ 32 := by
    have := leN_lt t; rw [h] at this; exact this
  have hc := Qvp b Qye Qmm; rw [Qmj, crun_le t, h, rest]
  constructor
  · intro e; rw [e, crc, xlc, Nat.xor_self, Nat.xor_zero]
  · intro e; have e1 := stps_inj 32 _ _ (Nat.xor_lt_two_pow hc h32) Qmm e; generalize hx : Qxe Qye b = x at *; rw [crc, hx, <- e1, Nat.xor_comm x, Nat.xor_assoc, Nat.xor_self, Nat.xor_zero]
theorem sealed (b : List UInt8) : Qxe Qye (b ++ leB (crc b)) = rest := (Qll b _ (Qyd _)).1 (Qom _ (Qct b))
theorem bst_if (q : Nat) (b : Bool) : bst q b = if q % 2 = b.toNat then q / 2 else q / 2 ^^^ poly := by
  have e1 : (q ^^^ b.toNat) / 2 = q / 2 ^^^ b.toNat / 2 := Nat.xor_div_two; have e2 : b.toNat / 2 = 0 := by cases b <;> rfl
  have e3 := xm2 q b.toNat; have e4 : b.toNat < 2 := Bool.toNat_lt b; unfold bst stp; rw [e1, e2, Nat.xor_zero]
  by_cases h : q % 2 = b.toNat
  · rw [if_pos h, if_neg (by omega)]
  · rw [if_neg h, if_pos (by omega)]
theorem bruns_lt (r : Nat) (f : Nat -> Bool) (h : r < 2 ^ 32) : ∀ (n : Nat), Qjb r f n < 2 ^ 32
  | 0 => h
  | n + 1 => by
    rw [Qjb, bst]; refine Qqr _ (Nat.xor_lt_two_pow (bruns_lt r f h n) ?_); have := Bool.toNat_lt (f n); omega
theorem ones_sub (x : Nat) (h : x < 2 ^ 32) : 4294967295 - x = Qye ^^^ x := by
  have e1 : 4294967295 - x = 2 ^ 32 - (x + 1) := by omega
  have e2 : Qye = 2 ^ 32 - (0 + 1) := rfl; rw [e1, e2]; apply Nat.eq_of_testBit_eq; intro i; rw [Nat.testBit_xor, Nat.testBit_two_pow_sub_succ h, Nat.testBit_two_pow_sub_succ (by omega)]
  by_cases hi : i < 32
  · simp [hi]
  · have hb : x.testBit i = false := Nat.testBit_lt_two_pow (Nat.lt_of_lt_of_le h (Nat.pow_le_pow_right (by omega) (by omega))); simp [hi, hb]
theorem ones_subI (x : Nat) (h : x < 2 ^ 32) : (4294967295 : Int) - (x : Int) = ((Qye ^^^ x : Nat) : Int) := by
  rw [<- ones_sub x h]; omega
theorem leB_leN : ∀ (t : List UInt8), t.length = 4 -> leB (leN t) = t
  | [a, b, c, d], _ => by
    have ha := a.toNat_lt; have hb := b.toNat_lt; have hc := c.toNat_lt; have hd := d.toNat_lt
    have e : ∀ (x : UInt8) (n : Nat), n % 256 = x.toNat -> UInt8.ofNat n = x := by
      intro x n h; apply UInt8.toNat_inj.1; simp [h]
    simp only [leN, leB]; rw [e a _ (by omega), e b _ (by omega), e c _ (by omega), e d _ (by omega)]
  | [], h => by simp at h
  | [_], h => by simp at h
  | [_, _], h => by simp at h
  | [_, _, _], h => by simp at h
  | _ :: _ :: _ :: _ :: _ :: _, h => by simp at h
def Qie (bs : List UInt8) : List UInt8 × Int :=
  if bs.length < 4 then ([], 4)
  else if leN (bs.drop (bs.length - 4)) = crc (bs.take (bs.length - 4)) then (bs.take (bs.length - 4), 0)
  else ([], 3)
theorem Qbq (bs : List UInt8) (h : bs.length < 4) : Qie bs = ([], 4) := by unfold Qie; rw [if_pos h]
theorem Qgn (bs : List UInt8) (h : ¬ bs.length < 4) (h2 : leN (bs.drop (bs.length - 4)) = crc (bs.take (bs.length - 4))) : Qie bs = (bs.take (bs.length - 4), 0) := by unfold Qie; rw [if_neg h, if_pos h2]
theorem Qwr (bs : List UInt8) (h : ¬ bs.length < 4) (h2 : ¬ leN (bs.drop (bs.length - 4)) = crc (bs.take (bs.length - 4))) : Qie bs = ([], 3) := by unfold Qie; rw [if_neg h, if_neg h2]
theorem Qtp (bs : List UInt8) (h : ¬ bs.length < 4) : bs.take (bs.length - 4) ++ leB (crc (bs.take (bs.length - 4))) = bs ↔ leN (bs.drop (bs.length - 4)) = crc (bs.take (bs.length - 4)) := by
  have hd : (bs.drop (bs.length - 4)).length = 4 := by simp; omega
  constructor
  · intro e; have e1 := List.take_append_drop (bs.length - 4) bs; have e2 : leB (crc (bs.take (bs.length - 4))) = bs.drop (bs.length - 4) := List.append_cancel_left (e.trans e1.symm); rw [<- e2, Qom _ (Qct _)]
  · intro e; rw [<- e, leB_leN _ hd, List.take_append_drop]
theorem openS_seal (b : List UInt8) : Qie (b ++ leB (crc b)) = (b, 0) := by
  have hl : (b ++ leB (crc b)).length = b.length + 4 := by rw [List.length_append, Qyd]
  have e1 : (b ++ leB (crc b)).length - 4 = b.length := by omega
  have e2 : (b ++ leB (crc b)).take b.length = b := List.take_left' rfl; have e3 : (b ++ leB (crc b)).drop b.length = leB (crc b) := List.drop_left' rfl; rw [Qgn _ (by omega) (by rw [e1, e2, e3, Qom _ (Qct b)]), e1, e2]
theorem openS_turned (b s' : List UInt8) (k t : Nat) (ht : t < 2 ^ 32) (h0 : t ≠ 0) (hl : s'.length = b.length + 4) (hk : k + 32 <= 8 * (b.length + 4))
    (hb : ∀ j, j < 8 * (b.length + 4) -> Qbe s' j = (Qbe (b ++ leB (crc b)) j ^^ win k t j)) : Qie s' = ([], 3) := by
  have hl2 : (b ++ leB (crc b)).length = b.length + 4 := by rw [List.length_append, Qyd]
  refine Qwr s' (by omega) fun e => ?_
  have hd : (s'.drop (s'.length - 4)).length = 4 := by simp; omega
  have h1 := (Qll _ _ hd).1 e; rw [List.take_append_drop] at h1; have h2 := turned Qye (b ++ leB (crc b)) s' k t ht h0 (by omega) (by omega) (by rw [hl2]; exact hb); rw [h1, sealed b] at h2; exact h2 rfl
theorem leB_take (x j : Nat) (h : j < 4) : (leB x).take (j + 1) = (leB x).take j ++ [UInt8.ofNat (x / 256 ^ j)] := by
  match j, h with
  | 0, _ => simp [leB]
  | 1, _ => simp [leB]
  | 2, _ => simp [leB]
  | 3, _ => simp [leB]
def xrow (X : List UInt8) (n j : Nat) : List UInt8 := X.take j ++ List.replicate (n - j) 0
theorem xrow_length (X : List UInt8) (n j : Nat) (hX : X.length = n) (hj : j <= n) : (xrow X n j).length = n := by simp [xrow]; omega
theorem xrow_zero (X : List UInt8) (n : Nat) : toV (xrow X n 0) = Qqk n := by simp [xrow, toV, Qqk]
theorem xrow_full (X : List UInt8) (n : Nat) (hX : X.length = n) : xrow X n n = X := by
  subst hX; simp [xrow]
theorem xrow_step (X : List UInt8) (n j : Nat) (hX : X.length = n) (hj : j < n) : (toV (xrow X n j)).set j (.int .u8 ((X.getD j 0).toNat : Int)) = toV (xrow X n (j + 1)) := by
  have e1 : n - j = (n - (j + 1)) + 1 := by omega
  have e2 : xrow X n (j + 1) = X.take j ++ X.getD j 0 :: List.replicate (n - (j + 1)) 0 := by
    have e0 : X.getD j 0 = X[j]'(by omega) := by simp [List.getD, List.getElem?_eq_getElem (show j < X.length by omega)]
    rw [xrow, List.take_succ_eq_append_getElem (show j < X.length by omega), List.append_assoc, e0]; rfl
  rw [e2, xrow, e1, List.replicate_succ, Qmc, Qmc, List.set_append_right _ _ (by rw [Qi, List.length_take]; omega)]; have e3 : j - (toV (X.take j)).length = 0 := by rw [Qi, List.length_take]; omega
  rw [e3]; rfl
def fl (S : List UInt8) (k t : Nat) : Nat -> List UInt8
  | 0 => S
  | i + 1 => if t.testBit i then (fl S k t i).set ((k + i) / 8) ((fl S k t i).getD ((k + i) / 8) 0 ^^^ UInt8.ofNat (2 ^ ((k + i) % 8))) else fl S k t i
theorem Qxj (S : List UInt8) (k t : Nat) : ∀ (i : Nat), (fl S k t i).length = S.length
  | 0 => rfl
  | i + 1 => by
    rw [fl]
    split
    · rw [List.length_set, Qxj S k t i]
    · exact Qxj S k t i
theorem bitAt_set (L : List UInt8) (q r j : Nat) (hq : q < L.length) (hr : r < 8) (hj : j / 8 < L.length) :
    Qbe (L.set q (L.getD q 0 ^^^ UInt8.ofNat (2 ^ r))) j = (Qbe L j ^^ decide (j = 8 * q + r)) := by
  have hp : 2 ^ r < 256 := Nat.pow_lt_pow_right (a := 2) (m := r) (n := 8) (by omega) hr; have e : (UInt8.ofNat (2 ^ r)).toNat = 2 ^ r := by rw [Qmb, Nat.mod_eq_of_lt hp]
  unfold Qbe
  by_cases hjq : j / 8 = q
  · have e1 : (L.set q (L.getD q 0 ^^^ UInt8.ofNat (2 ^ r))).getD (j / 8) 0 = L.getD q 0 ^^^ UInt8.ofNat (2 ^ r) := by
      rw [hjq]; simp [List.getD, hq]
    rw [e1, UInt8.toNat_xor, Nat.testBit_xor, e, hjq, Nat.testBit_two_pow]; congr 1; rw [Bool.eq_iff_iff]; simp only [decide_eq_true_eq]; omega
  · have e1 : (L.set q (L.getD q 0 ^^^ UInt8.ofNat (2 ^ r))).getD (j / 8) 0 = L.getD (j / 8) 0 := by
      simp [List.getD, Ne.symm hjq]
    have e2 : decide (j = 8 * q + r) = false := by
      rw [decide_eq_false_iff_not]; omega
    rw [e1, e2, Bool.xor_false]
theorem fl_bits (S : List UInt8) (k t : Nat) : ∀ (i : Nat), k + i <= 8 * S.length -> ∀ j, j < 8 * S.length -> Qbe (fl S k t i) j = (Qbe S j ^^ (decide (k <= j) && decide (j < k + i) && t.testBit (j - k)))
  | 0, _, j, _ => by
    have e : (decide (k <= j) && decide (j < k + 0) && t.testBit (j - k)) = false := by
      by_cases h : k <= j
      · have h2 : decide (j < k + 0) = false := by rw [decide_eq_false_iff_not]; omega
        rw [h2, Bool.and_false, Bool.false_and]
      · simp [h]
    rw [e, Bool.xor_false]; rfl
  | i + 1, hi, j, hj => by
    have ih := fl_bits S k t i (by omega) j hj; have hl := Qxj S k t i; rw [fl]
    by_cases ht : t.testBit i = true
    · rw [if_pos ht, bitAt_set _ _ _ _ (by rw [hl]; omega) (by omega) (by rw [hl]; omega), ih]
      by_cases hji : j = k + i
      · have e1 : decide (j = 8 * ((k + i) / 8) + (k + i) % 8) = true := by rw [decide_eq_true_eq]; omega
        have e2 : ¬ j < k + i := by omega
        have e3 : k <= j := by omega
        have e4 : j < k + (i + 1) := by omega
        have e5 : j - k = i := by omega
        rw [e1, e5, ht]; simp [e2, e3, e4]
      · have e1 : decide (j = 8 * ((k + i) / 8) + (k + i) % 8) = false := by rw [decide_eq_false_iff_not]; omega
        have e2 : (j < k + (i + 1)) ↔ (j < k + i) := by omega
        rw [e1, Bool.xor_false]; simp only [e2]
    · rw [if_neg ht, ih]
      by_cases hji : j = k + i
      · have e5 : j - k = i := by omega
        have e6 : t.testBit i = false := by simpa using ht
        rw [e5, e6, Bool.and_false, Bool.and_false]
      · have e2 : (j < k + (i + 1)) ↔ (j < k + i) := by omega
        simp only [e2]
theorem Qnl : ∀ (a b : List UInt8), leN (a ++ b) = leN a + 256 ^ a.length * leN b
  | [], b => by simp [leN]
  | x :: a, b => by
    have e : leN (x :: a ++ b) = x.toNat + 256 * leN (a ++ b) := rfl; rw [e, Qnl a b, leN, List.length_cons, Nat.pow_succ, Nat.mul_comm (256 ^ a.length) 256, Nat.mul_add, Nat.mul_assoc, Nat.add_assoc]
theorem leN_take (bs : List UInt8) (j : Nat) (h : j < bs.length) : leN (bs.take (j + 1)) = leN (bs.take j) + (bs.getD j 0).toNat * 256 ^ j := by
  rw [List.take_succ_eq_append_getElem h, Qnl, List.length_take, Nat.min_eq_left (by omega), Nat.mul_comm]; simp [List.getD, List.getElem?_eq_getElem h, leN]
structure Pg where
  l : Nat
  u : Nat -> Bool
  s : Nat -> ByteArray
def Pg.zero : Pg := ⟨0, fun _ => false, fun _ => ⟨#[]⟩⟩
def pgA (p : Pg) : Array Value := #[.int .u64 p.l, .bool (p.u 0), .string (p.s 0), .bool (p.u 1), .string (p.s 1), .bool (p.u 2), .string (p.s 2), .bool (p.u 3), .string (p.s 3), .bool (p.u 4), .string (p.s 4), .bool (p.u 5), .string (p.s 5), .bool (p.u 6), .string (p.s 6), .bool (p.u 7), .string (p.s 7)]
abbrev Pg.same (p q : Pg) : Prop := p.l = q.l /\ ∀ i, i < 8 -> p.u i = q.u i /\ p.s i = q.s i
theorem lt8 {i : Nat} (h : i < 8) : i = 0 ∨ i = 1 ∨ i = 2 ∨ i = 3 ∨ i = 4 ∨ i = 5 ∨ i = 6 ∨ i = 7 := by omega
theorem Pg.same.symm {p q : Pg} (h : p.same q) : q.same p := ⟨h.1.symm, fun i hi => ⟨(h.2 i hi).1.symm, (h.2 i hi).2.symm⟩⟩
theorem Pg.same.trans {p q r : Pg} (h : p.same q) (g : q.same r) : p.same r := ⟨h.1.trans g.1, fun i hi => ⟨(h.2 i hi).1.trans (g.2 i hi).1, (h.2 i hi).2.trans (g.2 i hi).2⟩⟩
theorem Pg.same.refl (p : Pg) : p.same p := ⟨rfl, fun _ _ => ⟨rfl, rfl⟩⟩
theorem Qwi {p q : Pg} (h : p.same q) : pgA p = pgA q := by
  have h0 := h.2 0 (by omega); have h1 := h.2 1 (by omega); have h2 := h.2 2 (by omega); have h3 := h.2 3 (by omega); have h4 := h.2 4 (by omega); have h5 := h.2 5 (by omega); have h6 := h.2 6 (by omega); have h7 := h.2 7 (by omega); unfold pgA; rw [h.1, h0.1, h0.2, h1.1, h1.2, h2.1, h2.2, h3.1, h3.2, h4.1, h4.2, h5.1, h5.2, h6.1, h6.2, h7.1, h7.2]
theorem Qqm (p : Pg) (i : Nat) (h : i < 8) : (pgA p)[1 + i * 2]? = some (.bool (p.u i)) := by
  rcases lt8 h with rfl | rfl | rfl | rfl | rfl | rfl | rfl | rfl <;> rfl
theorem Qfq (p : Pg) (i : Nat) (h : i < 8) : (pgA p)[1 + i * 2 + 1]? = some (.string (p.s i)) := by
  rcases lt8 h with rfl | rfl | rfl | rfl | rfl | rfl | rfl | rfl <;> rfl
theorem pgA_same {p q : Pg} (h : pgA p = pgA q) : p.same q := by
  have hl : (pgA p)[0]? = (pgA q)[0]? := by rw [h]
  have hl2 : some (Value.int .u64 (p.l : Int)) = some (Value.int .u64 (q.l : Int)) := hl
  refine ⟨?_, fun i hi => ⟨?_, ?_⟩⟩
  · injection hl2 with h1; injection h1 with h2 h3; omega
  · have h1 := Qqm p i hi; rw [h, Qqm q i hi] at h1; injection h1 with h1; injection h1 with h1; exact h1.symm
  · have h1 := Qfq p i hi; rw [h, Qfq q i hi] at h1; injection h1 with h1; injection h1 with h1; exact h1.symm
abbrev Qwg (u : Bool) (s : ByteArray) : Prop := s.size <= 20 /\ (u = false -> s.size = 0)
def Qtd : Nat := 4611686018427387904
abbrev Pg.right (p : Pg) : Prop := p.l <= Qtd /\ ∀ i, i < 8 -> Qwg (p.u i) (p.s i)
theorem Pg.same.right {p q : Pg} (h : p.same q) (hp : p.right) : q.right := by
  refine ⟨by rw [<- h.1]; exact hp.1, fun i hi => ?_⟩; have h1 := h.2 i hi; rw [<- h1.1, <- h1.2]; exact hp.2 i hi
def Pg.fits (p : Pg) : Prop := p.l < 18446744073709551616 /\ ∀ i, i < 8 -> (p.s i).size <= maxLen
theorem Pg.right.fits {p : Pg} (h : p.right) : p.fits := by
  have h1 := h.1; unfold Qtd at h1; refine ⟨by omega, fun i hi => ?_⟩; have h2 := (h.2 i hi).1; unfold maxLen; omega
def lenB (u : Bool) (s : ByteArray) : UInt8 := if u then UInt8.ofNat s.size else 255
def Quf (p : Pg) (k : Nat) : List UInt8 := (List.range k).map fun i => lenB (p.u i) (p.s i)
def valB (u : Bool) (s : ByteArray) : List UInt8 := if u then s.data.toList else []
def Qgd (p : Pg) (k : Nat) : List UInt8 := (List.range k).flatMap fun i => valB (p.u i) (p.s i)
theorem lensB_succ (p : Pg) (k : Nat) : Quf p (k + 1) = Quf p k ++ [lenB (p.u k) (p.s k)] := by simp [Quf, List.range_succ]
theorem Qsf (p : Pg) (k : Nat) : Qgd p (k + 1) = Qgd p k ++ valB (p.u k) (p.s k) := by simp [Qgd, List.range_succ]
theorem Qlf (p : Pg) (k : Nat) : (Quf p k).length = k := by simp [Quf]
theorem Qeg (u : Bool) (s : ByteArray) (h : Qwg u s) : (valB u s).length = s.size := by
  unfold valB
  cases u
  · have := h.2 rfl; simp [this]
  · simp
theorem Qps (p : Pg) (hp : p.right) : ∀ k, k <= 8 -> (Qgd p k).length <= 20 * k
  | 0, _ => by simp [Qgd]
  | k + 1, h => by
    have h1 := Qps p hp k (by omega); have h2 := hp.2 k (by omega); have h3 := Qeg _ _ h2; have h4 := h2.1; rw [Qsf, List.length_append]; omega
theorem Pg.same.lens {p q : Pg} (h : p.same q) : Quf p 8 = Quf q 8 := by
  unfold Quf; refine List.map_congr_left fun i hi => ?_
  have h1 := h.2 i (List.mem_range.1 hi); rw [h1.1, h1.2]
theorem Pg.same.vals {p q : Pg} (h : p.same q) : Qgd p 8 = Qgd q 8 := by
  unfold Qgd; rw [List.flatMap_def, List.flatMap_def]; congr 1; refine List.map_congr_left fun i hi => ?_
  have h1 := h.2 i (List.mem_range.1 hi); rw [h1.1, h1.2]
def Qeh (id : Nat) (p : Pg) : List UInt8 := beB 2 id ++ Quf p 8 ++ Qgd p 8
def Qxh (id : Nat) (p : Pg) : List UInt8 := Qeh id p ++ List.replicate (236 - (Qeh id p).length) 0
def Qyb (id : Nat) (p : Pg) : List UInt8 := Qxh id p ++ leB (crc (Qxh id p))
def Qbb (id : Nat) (p : Pg) : List UInt8 := beB 8 p.l ++ (Qyb id p).take 120 ++ beB 8 p.l ++ (Qyb id p).drop 120
theorem Pg.same.image {p q : Pg} (h : p.same q) (id : Nat) : Qbb id p = Qbb id q := by
  unfold Qbb Qyb Qxh Qeh; rw [h.lens, h.vals, h.1]
theorem Qlp (id : Nat) (p : Pg) : (Qeh id p).length = 10 + (Qgd p 8).length := by
  unfold Qeh; rw [List.length_append, List.length_append, Qx, Qlf]
theorem headB_le (id : Nat) (p : Pg) (hp : p.right) : (Qeh id p).length <= 170 := by
  have := Qps p hp 8 (by omega); rw [Qlp]; omega
theorem Qgp (id : Nat) (p : Pg) (hp : p.right) : (Qxh id p).length = 236 := by
  have := headB_le id p hp; unfold Qxh; rw [List.length_append, List.length_replicate]; omega
theorem Qhi (id : Nat) (p : Pg) (hp : p.right) : (Qyb id p).length = 240 := by
  unfold Qyb; rw [List.length_append, Qgp id p hp, Qyd]
theorem imageB_length (id : Nat) (p : Pg) (hp : p.right) : (Qbb id p).length = 256 := by
  unfold Qbb; simp only [List.length_append, Qx, List.length_take, List.length_drop, Qhi id p hp]; omega
def Qy (bs : List UInt8) : List UInt8 := (bs.drop 8).take 120 ++ bs.drop 136
theorem Qhm (bs : List UInt8) (h : bs.length = 256) : (Qy bs).length = 240 := by
  unfold Qy; simp only [List.length_append, List.length_take, List.length_drop]; omega
theorem Qhg (id : Nat) (p : Pg) (hp : p.right) : (Qbb id p).take 8 = beB 8 p.l /\ ((Qbb id p).drop 128).take 8 = beB 8 p.l /\ Qy (Qbb id p) = Qyb id p := by
  have hl := Qhi id p hp; have h1 : ((Qyb id p).take 120).length = 120 := by rw [List.length_take]; omega
  have h2 := Qx 8 p.l; have e : Qbb id p = beB 8 p.l ++ ((Qyb id p).take 120 ++ (beB 8 p.l ++ (Qyb id p).drop 120)) := by simp [Qbb]
  have e8 : (Qbb id p).drop 8 = (Qyb id p).take 120 ++ (beB 8 p.l ++ (Qyb id p).drop 120) := by rw [e, List.drop_left' h2]
  have e128 : (Qbb id p).drop 128 = beB 8 p.l ++ (Qyb id p).drop 120 := by
    have e1 : (Qbb id p).drop 128 = ((Qbb id p).drop 8).drop 120 := by rw [List.drop_drop]
    rw [e1, e8, List.drop_left' h1]
  have e136 : (Qbb id p).drop 136 = (Qyb id p).drop 120 := by
    have e1 : (Qbb id p).drop 136 = ((Qbb id p).drop 128).drop 8 := by rw [List.drop_drop]
    rw [e1, e128, List.drop_left' h2]
  refine ⟨by rw [e, List.take_left' h2], by rw [e128, List.take_left' h2], ?_⟩; unfold Qy; rw [e8, e136, List.take_left' h1, List.take_append_drop]
def nAt (t : List UInt8) (i : Nat) : Nat := (t.getD (2 + i) 0).toNat
def Qkb (t : List UInt8) (i : Nat) : Bool := decide (nAt t i ≠ 255)
def Qdg (t : List UInt8) (i : Nat) : Nat := if Qkb t i then nAt t i else 0
def Qhk (t : List UInt8) : Nat -> Nat
  | 0 => 10
  | i + 1 => Qhk t i + Qdg t i
def Qae (t : List UInt8) (i : Nat) : ByteArray := ⟨((t.drop (Qhk t i)).take (Qdg t i)).toArray⟩
def Qfm (bs : List UInt8) : Pg := ⟨beAt bs 0 8, Qkb (Qy bs), Qae (Qy bs)⟩
theorem getD_mid (a b : List UInt8) (i : Nat) (h : i < b.length) (c : List UInt8) : (a ++ (b ++ c)).getD (a.length + i) 0 = b.getD i 0 := by
  simp [List.getD, List.getElem?_append_right, List.getElem?_append_left h]
theorem tale_nAt (id : Nat) (p : Pg) (i : Nat) (h : i < 8) : (Qyb id p).getD (2 + i) 0 = lenB (p.u i) (p.s i) := by
  have e : Qyb id p = beB 2 id ++ (Quf p 8 ++ (Qgd p 8 ++ (List.replicate (236 - (Qeh id p).length) 0 ++ leB (crc (Qxh id p))))) := by simp [Qyb, Qxh, Qeh]
  have hb := Qx 2 id; have h1 := getD_mid (beB 2 id) (Quf p 8) i (by rw [Qlf]; exact h) (Qgd p 8 ++ (List.replicate (236 - (Qeh id p).length) 0 ++ leB (crc (Qxh id p)))); rw [hb] at h1; rw [e, h1]; simp [Quf, List.getD, h]
theorem lenB_nat (u : Bool) (s : ByteArray) (h : Qwg u s) : (lenB u s).toNat = if u then s.size else 255 := by
  have h1 := h.1; unfold lenB
  cases u
  · rfl
  · simp; omega
theorem Qtj (id : Nat) (p : Pg) (hp : p.right) (i : Nat) (h : i < 8) : Qkb (Qyb id p) i = p.u i /\ Qdg (Qyb id p) i = (p.s i).size := by
  have h1 := hp.2 i h; have h2 := lenB_nat _ _ h1; have h3 : nAt (Qyb id p) i = if p.u i then (p.s i).size else 255 := by rw [nAt, tale_nAt id p i h, h2]
  have h4 := h1.1
  have h5 : Qkb (Qyb id p) i = p.u i := by
    unfold Qkb; rw [h3]
    cases hu : p.u i
    · simp
    · simp; omega
  refine ⟨h5, ?_⟩; unfold Qdg; rw [h5, h3]
  cases hu : p.u i
  · simp [h1.2 hu]
  · simp
theorem Qvs (id : Nat) (p : Pg) (hp : p.right) : ∀ (i : Nat), i <= 8 -> Qhk (Qyb id p) i = 10 + (Qgd p i).length
  | 0, _ => by simp [Qhk, Qgd]
  | i + 1, h => by
    rw [Qhk, Qvs id p hp i (by omega), (Qtj id p hp i (by omega)).2, Qsf, List.length_append, Qeg _ _ (hp.2 i (by omega))]; omega
theorem Qfu (p : Pg) (i : Nat) (h : i < 8) : ∃ c, Qgd p 8 = Qgd p i ++ (valB (p.u i) (p.s i) ++ c) := by
  have h1 : ∀ d, ∃ c, Qgd p (i + 1 + d) = Qgd p (i + 1) ++ c := by
    intro d
    induction d with
    | zero => exact ⟨[], by simp⟩
    | succ d ih =>
      obtain ⟨c, hc⟩ := ih; exact ⟨c ++ valB (p.u (i + 1 + d)) (p.s (i + 1 + d)), by rw [<- Nat.add_assoc, Qsf, hc, List.append_assoc]⟩
  obtain ⟨c, hc⟩ := h1 (8 - (i + 1)); have e : i + 1 + (8 - (i + 1)) = 8 := by omega
  rw [e] at hc; exact ⟨c, by rw [hc, Qsf, List.append_assoc]⟩
theorem Qlh (s : ByteArray) : (⟨s.data.toList.toArray⟩ : ByteArray) = s := by
  obtain ⟨⟨l⟩⟩ := s; rfl
theorem tale_cut (id : Nat) (p : Pg) (hp : p.right) (i : Nat) (h : i < 8) : Qae (Qyb id p) i = p.s i := by
  have h1 := hp.2 i h; have hu := Qtj id p hp i h; have hpos := Qvs id p hp i (by omega); obtain ⟨c, hc⟩ := Qfu p i h
  have e : Qyb id p = (beB 2 id ++ Quf p 8 ++ Qgd p i) ++ (valB (p.u i) (p.s i) ++ (c ++ (List.replicate (236 - (Qeh id p).length) 0 ++ leB (crc (Qxh id p))))) := by
    have e1 : Qyb id p = beB 2 id ++ Quf p 8 ++ Qgd p 8 ++ List.replicate (236 - (Qeh id p).length) 0 ++ leB (crc (Qxh id p)) := by simp [Qyb, Qxh, Qeh]
    rw [e1, hc]; simp
  have hl : (beB 2 id ++ Quf p 8 ++ Qgd p i).length = 10 + (Qgd p i).length := by rw [List.length_append, List.length_append, Qx, Qlf]
  unfold Qae; rw [hpos, hu.2, <- Qeg _ _ h1]
  have e2 : ((Qyb id p).drop (10 + (Qgd p i).length)).take (valB (p.u i) (p.s i)).length = valB (p.u i) (p.s i) := by
    rw [e, List.drop_left' hl, List.take_left' rfl]
  rw [e2]; unfold valB
  cases hb : p.u i
  · have hz := h1.2 hb; have hz2 : (p.s i).data.toList = [] := List.eq_nil_of_length_eq_zero (by rw [Array.length_toList]; exact hz); have := Qlh (p.s i); rw [hz2] at this; exact this
  · exact Qlh (p.s i)
theorem Qcl (id : Nat) (p : Pg) (hp : p.right) : (Qfm (Qbb id p)).same p := by
  obtain ⟨h1, _, h3⟩ := Qhg id p hp
  refine ⟨?_, fun i hi => ?_⟩
  · show beAt (Qbb id p) 0 8 = p.l; unfold beAt; rw [List.drop_zero, h1]; refine Qak 8 p.l ?_; have := hp.1; unfold Qtd at this; have e : 256 ^ 8 = 18446744073709551616 := by decide
    omega
  · show Qkb (Qy (Qbb id p)) i = p.u i /\ Qae (Qy (Qbb id p)) i = p.s i; rw [h3]; exact ⟨(Qtj id p hp i hi).1, tale_cut id p hp i hi⟩
theorem image_inj {id jd : Nat} {p q : Pg} (hp : p.right) (hq : q.right) (hi : id < 65536) (hj : jd < 65536) (h : Qbb id p = Qbb jd q) : id = jd /\ p.same q := by
  refine ⟨?_, ?_⟩
  · have h1 := (Qhg id p hp).2.2; have h2 := (Qhg jd q hq).2.2; rw [h, h2] at h1
    have e : ∀ (k : Nat) (r : Pg), (Qyb k r).take 2 = beB 2 k := by
      intro k r; have e1 : Qyb k r = beB 2 k ++ (Quf r 8 ++ (Qgd r 8 ++ (List.replicate (236 - (Qeh k r).length) 0 ++ leB (crc (Qxh k r))))) := by simp [Qyb, Qxh, Qeh]
      rw [e1, List.take_left' (Qx 2 k)]
    have h3 : (Qyb jd q).take 2 = (Qyb id p).take 2 := by rw [h1]
    rw [e, e] at h3; have h4 := Qak 2 jd (by omega); rw [h3, Qak 2 id (by omega)] at h4; exact h4
  · have h1 := Qcl id p hp; rw [h] at h1; exact h1.symm.trans (Qcl jd q hq)
def tornB (bs : List UInt8) : Bool := decide (bs.length = 256 /\ bs.take 8 ≠ (bs.drop 128).take 8)
def stampB (bs : List UInt8) : Nat × Bool := if bs.length = 256 /\ tornB bs = false then (beAt bs 0 8, true) else (0, false)
def encB (id : Int) (p : Pg) : List UInt8 × Int := if 0 <= id /\ id <= 31 /\ p.right then (Qbb id.toNat p, 0) else ([], 1)
def decE (id : Int) (bs : List UInt8) : Int :=
  if ¬ (0 <= id /\ id <= 31) then 1 else if bs.length < 256 then 4 else if 256 < bs.length then 2 else if tornB bs = true then 14
  else if ¬ leN ((Qy bs).drop 236) = crc ((Qy bs).take 236) then 3
  else if (Qfm bs).right /\ Qbb id.toNat (Qfm bs) = bs then 0 else 2
def decP (id : Int) (bs : List UInt8) : Pg := if decE id bs = 0 then Qfm bs else Pg.zero
theorem decP_no (id : Int) (bs : List UInt8) (h : decE id bs ≠ 0) : decP id bs = Pg.zero := by unfold decP; rw [if_neg h]
theorem Qzr {s t : ByteArray} : s.data.toList = t.data.toList ↔ s = t :=
  ⟨fun h => by rw [<- Qlh s, h, Qlh], fun h => by rw [h]⟩
structure Ch where
  k : Int
  pg : Int
  sl : Int
  o : ByteArray
  n : ByteArray
def Ch.zero : Ch := ⟨0, 0, 0, ⟨#[]⟩, ⟨#[]⟩⟩
def chA (c : Ch) : Array Value := #[.int .i64 c.k, .int .i64 c.pg, .int .i64 c.sl, .string c.o, .string c.n]
abbrev Ch.kindOk (c : Ch) : Prop := c.k = 1 /\ c.o.size = 0 ∨ c.k = 2 ∨ c.k = 3 /\ c.n.size = 0
abbrev Ch.right (c : Ch) : Prop := (0 <= c.pg /\ c.pg <= 31 /\ 0 <= c.sl /\ c.sl <= 7 /\ c.o.size <= 20 /\ c.n.size <= 20) /\ c.kindOk
def Ch.wantU (c : Ch) : Bool := decide (c.k ≠ 1)
def Ch.wantV (c : Ch) : ByteArray := if c.k = 1 then ⟨#[]⟩ else c.o
def Ch.makeU (c : Ch) : Bool := decide (c.k ≠ 3)
def Ch.makeV (c : Ch) : ByteArray := if c.k = 3 then ⟨#[]⟩ else c.n
def Ch.at (c : Ch) : Nat := c.sl.toNat
def Pg.put (p : Pg) (l i : Nat) (u : Bool) (s : ByteArray) : Pg := ⟨l, fun j => if j = i then u else p.u j, fun j => if j = i then s else p.s j⟩
def appE (p : Pg) (c : Ch) (l : Nat) : Int :=
  if ¬ (p.right /\ c.right /\ l <= Qtd) then 1 else if l <= p.l then 13
  else if p.u c.at = true /\ c.wantU = false then 6 else if p.u c.at = false /\ c.wantU = true then 5
  else if p.s c.at ≠ c.wantV then 2 else 0
def appP (p : Pg) (c : Ch) (l : Nat) : Pg := if appE p c l = 0 then p.put l c.at c.makeU c.makeV else Pg.zero
def invE (c : Ch) : Int := if c.right then 0 else 1
def invC (c : Ch) : Ch := if c.right then ⟨4 - c.k, c.pg, c.sl, c.n, c.o⟩ else Ch.zero
def rawC (pg sl : Int) (fu : Bool) (fv : ByteArray) (tu : Bool) (tv : ByteArray) : Ch := ⟨if tu = false then 3 else if fu = false then 1 else 2, pg, sl, fv, tv⟩
def ofE (pg sl : Int) (fu : Bool) (fv : ByteArray) (tu : Bool) (tv : ByteArray) : Int :=
  if (fu = false /\ fv.size ≠ 0) ∨ (tu = false /\ tv.size ≠ 0) then 1 else if ¬ (rawC pg sl fu fv tu tv).right then 1 else if fu = false /\ tu = false then 5 else 0
def ofC (pg sl : Int) (fu : Bool) (fv : ByteArray) (tu : Bool) (tv : ByteArray) : Ch := if ofE pg sl fu fv tu tv = 0 then rawC pg sl fu fv tu tv else Ch.zero
theorem app_no (p : Pg) (c : Ch) (l : Nat) (h : appE p c l ≠ 0) : appP p c l = Pg.zero := by unfold appP; rw [if_neg h]
theorem app_yes (p : Pg) (c : Ch) (l : Nat) : appE p c l = 0 ↔ p.right /\ c.right /\ l <= Qtd /\ p.l < l /\ p.u c.at = c.wantU /\ p.s c.at = c.wantV := by
  unfold appE
  constructor
  · intro h
    split at h
    · cases h
    · rename_i h1; have h1 : p.right /\ c.right /\ l <= Qtd := Decidable.of_not_not h1
      split at h
      · cases h
      · rename_i h2
        split at h
        · cases h
        · rename_i h3
          split at h
          · cases h
          · rename_i h4
            split at h
            · cases h
            · rename_i h5; refine ⟨h1.1, h1.2.1, h1.2.2, by omega, ?_, Decidable.of_not_not h5⟩; cases hu : p.u c.at <;> cases hw : c.wantU <;> simp_all
  · rintro ⟨h1, h2, h3, h4, h5, h6⟩; rw [if_neg (fun h => h ⟨h1, h2, h3⟩), if_neg (by omega), if_neg (by rw [h5]; intro h; rw [h.1] at h; cases h.2), if_neg (by rw [h5]; intro h; rw [h.1] at h; cases h.2), if_neg (by rw [h6]; simp)]
theorem size0 (s : ByteArray) (h : s.size = 0) : s = ⟨#[]⟩ := by
  obtain ⟨⟨l⟩⟩ := s; have : l = [] := List.eq_nil_of_length_eq_zero h; subst this; rfl
theorem Ch.right.at_lt {c : Ch} (h : c.right) : c.at < 8 := by
  have h1 := h.1; unfold Ch.at; omega
theorem put_right (p : Pg) (c : Ch) (l : Nat) (hp : p.right) (hc : c.right) (hl : l <= Qtd) : (p.put l c.at c.makeU c.makeV).right := by
  refine ⟨hl, fun i hi => ?_⟩; show Qwg (if i = c.at then c.makeU else p.u i) (if i = c.at then c.makeV else p.s i)
  by_cases h : i = c.at
  · rw [if_pos h, if_pos h]; have h1 := hc.1
    refine ⟨?_, ?_⟩
    · unfold Ch.makeV
      split
      · show (0 : Nat) <= 20; omega
      · exact h1.2.2.2.2.2
    · unfold Ch.makeU Ch.makeV; intro hk; have : c.k = 3 := by simpa using hk
      rw [if_pos this]; rfl
  · rw [if_neg h, if_neg h]; exact hp.2 i hi
theorem inv_right (c : Ch) (h : c.right) : (invC c).right /\ (invC c).at = c.at /\ (invC c).wantU = c.makeU /\ (invC c).wantV = c.makeV /\ (invC c).makeU = c.wantU /\ (invC c).makeV = c.wantV /\ (invC c).sl = c.sl := by
  have e : invC c = ⟨4 - c.k, c.pg, c.sl, c.n, c.o⟩ := by unfold invC; rw [if_pos h]
  rw [e]; obtain ⟨h1, h2⟩ := h
  refine ⟨⟨⟨h1.1, h1.2.1, h1.2.2.1, h1.2.2.2.1, h1.2.2.2.2.2, h1.2.2.2.2.1⟩, ?_⟩, rfl, ?_, ?_, ?_, ?_, rfl⟩
  · unfold Ch.kindOk at h2 |-
    rcases h2 with ⟨h3, h4⟩ | h3 | ⟨h3, h4⟩
    · exact .inr (.inr ⟨by show 4 - c.k = 3; omega, h4⟩)
    · exact .inr (.inl (by show 4 - c.k = 2; omega))
    · exact .inl ⟨by show 4 - c.k = 1; omega, h4⟩
  · unfold Ch.wantU Ch.makeU; exact decide_eq_decide.2 (by show 4 - c.k ≠ 1 ↔ c.k ≠ 3; omega)
  · unfold Ch.wantV Ch.makeV
    by_cases hk : c.k = 3
    · rw [if_pos hk, if_pos (by show 4 - c.k = 1; omega)]
    · rw [if_neg hk, if_neg (by show ¬ 4 - c.k = 1; omega)]
  · unfold Ch.wantU Ch.makeU; exact decide_eq_decide.2 (by show 4 - c.k ≠ 3 ↔ c.k ≠ 1; omega)
  · unfold Ch.wantV Ch.makeV
    by_cases hk : c.k = 1
    · rw [if_pos hk, if_pos (by show 4 - c.k = 3; omega)]
    · rw [if_neg hk, if_neg (by show ¬ 4 - c.k = 3; omega)]
theorem put_at (p : Pg) (l i : Nat) (u : Bool) (s : ByteArray) : (p.put l i u s).u i = u /\ (p.put l i u s).s i = s := by
  unfold Pg.put; simp
theorem put_other (p : Pg) (l i j : Nat) (u : Bool) (s : ByteArray) (h : j ≠ i) : (p.put l i u s).u j = p.u j /\ (p.put l i u s).s j = p.s j := by
  unfold Pg.put; simp [h]
structure Tx where
  t : Int
  s : Int
  f : Nat
  l : Nat
  n : Nat
structure Di where
  p : Int
  r : Nat
def Tx.zero : Tx := ⟨0, 0, 0, 0, 0⟩
def Di.zero : Di := ⟨0, 0⟩
structure Rec where
  k : Int
  l : Nat
  t : Int
  p : Nat
  c : Ch
  n : Nat
  s : Int
  b : Nat
  ts : List Tx
  ds : List Di
def Rec.zero : Rec := ⟨0, 0, 0, 0, Ch.zero, 0, 0, 0, [], []⟩
def Qav (l : Nat) (x : Tx) : Prop := 1 <= x.t /\ x.t <= 1048575 /\ 1 <= x.s /\ x.s <= 3 /\ 1 <= x.f /\ x.f <= x.l /\ x.l < l /\ x.n <= x.l
def diOk (l : Nat) (d : Di) : Prop := 0 <= d.p /\ d.p <= 31 /\ 1 <= d.r /\ d.r < l
def txAt (l : Nat) (ts : List Tx) (i : Nat) : Prop := Qav l (ts.getD i Tx.zero) /\ (0 < i -> (ts.getD (i - 1) Tx.zero).t < (ts.getD i Tx.zero).t)
def Qhv (l : Nat) (ds : List Di) (i : Nat) : Prop := diOk l (ds.getD i Di.zero) /\ (0 < i -> (ds.getD (i - 1) Di.zero).p < (ds.getD i Di.zero).p)
def Rec.rows (r : Rec) : Prop := r.ts.length <= 16 /\ r.ds.length <= 32 /\ (∀ i, i < r.ts.length -> txAt r.l r.ts i) /\ (∀ i, i < r.ds.length -> Qhv r.l r.ds i) /\ 1 <= r.b /\ r.b < r.l
structure Rec.right (r : Rec) : Prop where
  k1 : 1 <= r.k
  k8 : r.k <= 8
  l1 : 1 <= r.l
  lm : r.l <= Qtd
  own : r.k <= 6 -> 1 <= r.t /\ r.t <= 1048575 /\ r.p < r.l
  none : 6 < r.k -> r.t = 0 /\ r.p = 0
  ch : r.k <= 2 -> r.c.right
  noch : 2 < r.k -> r.c = Ch.zero
  next : r.k = 2 -> r.n < r.l
  nonext : r.k ≠ 2 -> r.n = 0
  save : r.k = 6 -> 1 <= r.s /\ r.s <= 8
  nosave : r.k ≠ 6 -> r.s = 0
  check : r.k = 8 -> r.rows
  nocheck : r.k ≠ 8 -> r.b = 0 /\ r.ts = [] /\ r.ds = []
def txOkD (l : Nat) (x : Tx) : Decidable (Qav l x) := inferInstanceAs (Decidable (1 <= x.t /\ x.t <= 1048575 /\ 1 <= x.s /\ x.s <= 3 /\ 1 <= x.f /\ x.f <= x.l /\ x.l < l /\ x.n <= x.l))
def diOkD (l : Nat) (d : Di) : Decidable (diOk l d) := inferInstanceAs (Decidable (0 <= d.p /\ d.p <= 31 /\ 1 <= d.r /\ d.r < l))
def txAtD (l : Nat) (ts : List Tx) (i : Nat) : Decidable (txAt l ts i) :=
  have := txOkD l (ts.getD i Tx.zero)
  inferInstanceAs (Decidable (Qav l (ts.getD i Tx.zero) /\ (0 < i -> (ts.getD (i - 1) Tx.zero).t < (ts.getD i Tx.zero).t)))
def diAtD (l : Nat) (ds : List Di) (i : Nat) : Decidable (Qhv l ds i) :=
  have := diOkD l (ds.getD i Di.zero)
  inferInstanceAs (Decidable (diOk l (ds.getD i Di.zero) /\ (0 < i -> (ds.getD (i - 1) Di.zero).p < (ds.getD i Di.zero).p)))
def Rec.rowsD (r : Rec) : Decidable r.rows :=
  have : ∀ i, Decidable (txAt r.l r.ts i) := fun i => txAtD r.l r.ts i
  have : ∀ i, Decidable (Qhv r.l r.ds i) := fun i => diAtD r.l r.ds i
  inferInstanceAs (Decidable (r.ts.length <= 16 /\ r.ds.length <= 32 /\ (∀ i, i < r.ts.length -> txAt r.l r.ts i) /\ (∀ i, i < r.ds.length -> Qhv r.l r.ds i) /\ 1 <= r.b /\ r.b < r.l))
theorem Qvj (c : Ch) : (c.k = 0 /\ c.pg = 0 /\ c.sl = 0 /\ c.o.data.toList = [] /\ c.n.data.toList = []) ↔ c = Ch.zero := by
  constructor
  · rintro ⟨h1, h2, h3, h4, h5⟩; obtain ⟨k, pg, sl, ⟨o⟩, ⟨n⟩⟩ := c; simp only at h1 h2 h3 h4 h5; subst h1 h2 h3; have e4 : o = #[] := by simpa using h4
    have e5 : n = #[] := by simpa using h5
    subst e4 e5; rfl
  · rintro rfl; exact ⟨rfl, rfl, rfl, rfl, rfl⟩
theorem Qdm (r : Rec) : ((1 <= r.k /\ r.k <= 8 /\ 1 <= r.l /\ r.l <= Qtd) /\ (r.k <= 6 -> 1 <= r.t /\ r.t <= 1048575 /\ r.p < r.l) /\ (6 < r.k -> r.t = 0 /\ r.p = 0) /\ (r.k <= 2 -> r.c.right) /\ (2 < r.k -> (r.c.k = 0 /\ r.c.pg = 0 /\ r.c.sl = 0 /\ r.c.o.data.toList = [] /\ r.c.n.data.toList = [])) /\ (r.k = 2 -> r.n < r.l) /\ (r.k ≠ 2 -> r.n = 0) /\ (r.k = 6 -> 1 <= r.s /\ r.s <= 8) /\ (r.k ≠ 6 -> r.s = 0) /\ (r.k = 8 -> r.rows) /\ (r.k ≠ 8 -> r.b = 0 /\ r.ts.length = 0 /\ r.ds.length = 0)) ↔ r.right := by
  constructor
  · rintro ⟨⟨h1, h2, h3, h4⟩, h5, h6, h7, h8, h9, h10, h11, h12, h13, h14⟩; exact ⟨h1, h2, h3, h4, h5, h6, h7, fun h => (Qvj _).1 (h8 h), h9, h10, h11, h12, h13, fun h => ⟨(h14 h).1, List.eq_nil_of_length_eq_zero (h14 h).2.1, List.eq_nil_of_length_eq_zero (h14 h).2.2⟩⟩
  · intro h; exact ⟨⟨h.k1, h.k8, h.l1, h.lm⟩, h.own, h.none, h.ch, fun q => (Qvj _).2 (h.noch q), h.next, h.nonext, h.save, h.nosave, h.check, fun q => ⟨(h.nocheck q).1, by rw [(h.nocheck q).2.1]; rfl, by rw [(h.nocheck q).2.2]; rfl⟩⟩
def Rec.rightD (r : Rec) : Decidable r.right :=
  have := r.rowsD
  have : Decidable (r.k <= 6 -> 1 <= r.t /\ r.t <= 1048575 /\ r.p < r.l) := inferInstance
  have : Decidable (6 < r.k -> r.t = 0 /\ r.p = 0) := inferInstance
  have : Decidable (r.k <= 2 -> r.c.right) := inferInstance
  have : Decidable (2 < r.k -> (r.c.k = 0 /\ r.c.pg = 0 /\ r.c.sl = 0 /\ r.c.o.data.toList = [] /\ r.c.n.data.toList = [])) := inferInstance
  have : Decidable (r.k = 6 -> 1 <= r.s /\ r.s <= 8) := inferInstance
  have : Decidable (r.k = 8 -> r.rows) := inferInstance
  have : Decidable (r.k ≠ 8 -> r.b = 0 /\ r.ts.length = 0 /\ r.ds.length = 0) := inferInstance
  decidable_of_iff _ (Qdm r)
def Rec.rightB (r : Rec) : Bool := @decide r.right r.rightD
theorem Qof {r : Rec} (h : r.right) : r.rightB = true := by
  unfold Rec.rightB; exact @decide_eq_true _ r.rightD h
theorem Qdh {r : Rec} (h : ¬ r.right) : r.rightB = false := by
  unfold Rec.rightB; exact @decide_eq_false _ r.rightD h
theorem Qqf {r : Rec} : r.rightB = true ↔ r.right := by
  constructor
  · intro h
    by_cases hr : r.right
    · exact hr
    · rw [Qdh hr] at h; cases h
  · exact Qof
def chB (c : Ch) : List UInt8 := beB 1 c.k.toNat ++ (beB 2 c.pg.toNat ++ (beB 1 c.sl.toNat ++ (Qdd c.o.data.toList ++ Qdd c.n.data.toList)))
def txB (x : Tx) : List UInt8 := beB 4 x.t.toNat ++ (beB 1 x.s.toNat ++ (beB 8 x.f ++ (beB 8 x.l ++ beB 8 x.n)))
def diB (d : Di) : List UInt8 := beB 2 d.p.toNat ++ beB 8 d.r
def txsB (ts : List Tx) : List UInt8 := ts.flatMap txB
def disB (ds : List Di) : List UInt8 := ds.flatMap diB
def Que (b : Nat) (ts : List Tx) (ds : List Di) : List UInt8 := beB 8 b ++ (beB 1 ts.length ++ (txsB ts ++ (beB 1 ds.length ++ disB ds)))
def Qch (q : Prop) [Decidable q] (b : List UInt8) : List UInt8 := if q then b else []
def Qbg (r : Rec) : List UInt8 :=
  beB 1 r.k.toNat ++ (beB 8 r.l ++ (beB 4 r.t.toNat ++ (beB 8 r.p ++ (Qch (r.k <= 2) (chB r.c) ++ (Qch (r.k = 2) (beB 8 r.n) ++ (Qch (r.k = 6) (beB 1 r.s.toNat) ++ Qch (r.k = 8) (Que r.b r.ts r.ds)))))))
structure St where
  l : List UInt8
  e : Int
def Qab {α β : Type} (p : St -> α × St) (q : α -> St -> β × St) (s : St) : β × St := q (p s).1 (p s).2
def Qki {α : Type} (a : α) (s : St) : α × St := (a, s)
def Qqa (w : Nat) (s : St) : Nat × St := if s.e ≠ 0 then (0, s) else if w <= s.l.length then (be (s.l.take w), ⟨s.l.drop w, 0⟩) else (0, ⟨[], 4⟩)
def Qhc (s : St) : ByteArray × St :=
  if s.e ≠ 0 then (⟨#[]⟩, s) else match s.l with
    | [] => (⟨#[]⟩, ⟨[], 4⟩)
    | b :: l => if b.toNat <= l.length then (⟨(l.take b.toNat).toArray⟩, ⟨l.drop b.toNat, 0⟩) else (⟨#[]⟩, ⟨[], 4⟩)
def pIn (lo hi : Nat) (s : St) : Nat × St := if (Qqa 1 s).2.e = 0 /\ ((Qqa 1 s).1 < lo ∨ hi < (Qqa 1 s).1) then ((Qqa 1 s).1, ⟨(Qqa 1 s).2.l, 2⟩) else Qqa 1 s
def pCh : St -> Ch × St := Qab (Qqa 1) fun k => Qab (Qqa 2) fun pg => Qab (Qqa 1) fun sl => Qab Qhc fun o => Qab Qhc fun n => Qki ⟨k, pg, sl, o, n⟩
def pTx : St -> Tx × St := Qab (Qqa 4) fun t => Qab (Qqa 1) fun s => Qab (Qqa 8) fun f => Qab (Qqa 8) fun l => Qab (Qqa 8) fun n => Qki ⟨t, s, f, l, n⟩
def pDi : St -> Di × St := Qab (Qqa 2) fun p => Qab (Qqa 8) fun r => Qki ⟨p, r⟩
def Qna {α : Type} (p : St -> α × St) : Nat -> St -> List α × St
  | 0, s => ([], s)
  | n + 1, s => if s.e ≠ 0 then ([], s) else ((p s).1 :: (Qna p n (p s).2).1, (Qna p n (p s).2).2)
def Qmd : St -> (Nat × List Tx × List Di) × St := Qab (Qqa 8) fun b => Qab (pIn 0 16) fun n => Qab (Qna pTx n) fun ts => Qab (pIn 0 32) fun m => Qab (Qna pDi m) fun ds => Qki (b, ts, ds)
def Qzh {α : Type} (q : Prop) [Decidable q] (z : α) (p : St -> α × St) : St -> α × St := if q then p else Qki z
def Qmk : St -> Rec × St :=
  Qab (pIn 1 8) fun k => Qab (Qqa 8) fun l => Qab (Qqa 4) fun t => Qab (Qqa 8) fun p => Qab (Qzh (k <= 2) Ch.zero pCh) fun c => Qab (Qzh (k = 2) 0 (Qqa 8)) fun n => Qab (Qzh (k = 6) 0 (Qqa 1)) fun s =>
    Qab (Qzh (k = 8) (0, [], []) Qmd) fun x => Qki ⟨k, l, t, p, c, n, s, x.1, x.2.1, x.2.2⟩
def Qpk (b : List UInt8) : Rec × Int :=
  if (Qmk ⟨b, 0⟩).2.e ≠ 0 then (Rec.zero, (Qmk ⟨b, 0⟩).2.e) else if (Qmk ⟨b, 0⟩).2.l ≠ [] ∨ (Qmk ⟨b, 0⟩).1.rightB = false then (Rec.zero, 2) else ((Qmk ⟨b, 0⟩).1, 0)
def Qs {α : Type} (p : St -> α × St) (a : α) (bs : List UInt8) : Prop := ∀ l, p ⟨bs ++ l, 0⟩ = (a, ⟨l, 0⟩)
theorem Qs.bind {α β : Type} {p : St -> α × St} {q : α -> St -> β × St} {a : α} {c : β} {bs cs : List UInt8} (h : Qs p a bs) (g : Qs (q a) c cs) : Qs (Qab p q) c (bs ++ cs) := fun l => by
  unfold Qab; rw [List.append_assoc, h (cs ++ l)]; exact g l
theorem Qs.pure {α : Type} (a : α) : Qs (Qki a) a [] := fun l => rfl
theorem Qs.last {α β : Type} {p : St -> α × St} {q : α -> St -> β × St} {a : α} {c : β} {bs : List UInt8} (h : Qs p a bs) (g : Qs (q a) c []) : Qs (Qab p q) c bs := by
  have := h.bind g; rwa [List.append_nil] at this
theorem Qs.num (w n : Nat) (h : n < 256 ^ w) : Qs (Qqa w) n (beB w n) := fun l => by
  unfold Qqa; have hl := Qx w n; rw [if_neg (by simp), if_pos (by simp only [List.length_append]; omega)]; simp only; rw [List.take_left' hl, List.drop_left' hl, Qak w n h]
theorem Qs.text (s : ByteArray) (h : s.size <= 255) : Qs Qhc s (Qdd s.data.toList) := fun l => by
  unfold Qhc Qdd
  have hz : (UInt8.ofNat s.size).toNat = s.size := by
    rw [Qmb]; omega
  rw [if_neg (by simp)]; simp only [List.cons_append, Qeb, hz, List.length_append]; rw [if_pos (by omega), List.take_left' (Qeb s), List.drop_left' (Qeb s), mk_self]
theorem Qs.in (lo hi n : Nat) (h : n < 256) (h1 : lo <= n) (h2 : n <= hi) : Qs (pIn lo hi) n (beB 1 n) := fun l => by
  unfold pIn; rw [Qs.num 1 n (by omega) l, if_neg (by simp only; omega)]
theorem Qs.some {α : Type} {p : St -> α × St} {f : α -> List UInt8} : ∀ (xs : List α), (∀ x ∈ xs, Qs p x (f x)) -> Qs (Qna p xs.length) xs (xs.flatMap f)
  | [], _ => fun l => rfl
  | x :: xs, h => fun l => by
    have h1 := h x (by simp); have h2 := Qs.some xs (fun y hy => h y (by simp [hy])); show Qna p (xs.length + 1) ⟨(f x ++ xs.flatMap f) ++ l, 0⟩ = _; unfold Qna; rw [if_neg (by simp), List.append_assoc, h1 (xs.flatMap f ++ l), h2 l]
theorem Qs.may {α : Type} {q : Prop} [Decidable q] {z a : α} {p : St -> α × St} {bs : List UInt8} (h1 : q -> Qs p a bs) (h2 : ¬ q -> a = z) : Qs (Qzh q z p) a (Qch q bs) := by
  unfold Qzh Qch
  by_cases h : q
  · rw [if_pos h, if_pos h]; exact h1 h
  · rw [if_neg h, if_neg h, h2 h]; exact Qs.pure z
section
def Qa (w : World) (b : Nat) (t : TypeId) (cs : Array Value) : Prop := w.heap[b]? = some (.cells cs t (0, 0))
theorem Qa.below {w w' : World} {b B : Nat} {t : TypeId} {cs : Array Value} (h : Qa w b t cs) (hb : Below B w w') (hB : b < B) : Qa w' b t cs := (hb.block b hB).trans h
theorem Qa.lt {w : World} {b : Nat} {t : TypeId} {cs : Array Value} (h : Qa w b t cs) : b < w.heap.size := (Array.getElem?_eq_some_iff.1 h).1
theorem Qa.later {w w' : World} {b : Nat} {t : TypeId} {cs : Array Value} (h : Qa w b t cs) (hb : Below w.heap.size w w') : Qa w' b t cs := h.below hb h.lt
theorem Qa.cell {w : World} {b : Nat} {t : TypeId} {cs : Array Value} (h : Qa w b t cs) (j : Nat) (v : Value) (hv : cs[j]? = some v) : w.cell? ⟨b, j, none⟩ = some v := by
  rw [cell_of_row w b j _ _ (0, 0) h]; exact hv
theorem Qa.free {w : World} {b : Nat} {t : TypeId} {cs : Array Value} (h : Qa w b t cs) (j : Nat) : w.frozen? ⟨b, j, none⟩ = false := frozen_of_row w b j _ _ h
theorem Qa.other {w : World} {b : Nat} {t : TypeId} {cs : Array Value} (h : Qa w b t cs) (a : Addr) (v : Value) (hn : b ≠ a.block) : Qa (w.setCell a v) b t cs := (heap_setCell_other w a b v hn).trans h
theorem Qa.set {w : World} {b : Nat} {t : TypeId} {cs : Array Value} (h : Qa w b t cs) (j : Nat) (v : Value) : Qa (w.setCell ⟨b, j, none⟩ v) b t (cs.setIfInBounds j v) := heap_setCell_same w b j _ _ v h
theorem Qa.new (w : World) (t : TypeId) (cs : Array Value) : Qa (w.alloc (.cells cs t)) w.heap.size t cs := heap_alloc_new w _
section
variable {P : Program} {ops : Array Oper} {rest : List Oper} {o : Oper} {a : Act} {w : World} {Q : Exit -> Act -> World -> Prop}
theorem Qd (hw : Region.wanted o (yielded ops a.tmps) = true) (t : TypeId) (x : Operand) (ho : o.op = .load t x) (g : Nat) (hx : a.eval x = .pointer (some ⟨g, 0, none⟩)) (cs : Array Value) (hg : Qa w g t cs) (d : TypeDesc)
    (hu : P.underlying t = some d) (hd : (match d with | .struct _ | .array _ _ => true | _ => false) = true) (hi : (P.info? t).map (·.size) = some cs.size) (h : wpList P ops Q rest (a.put o.dst (.agg cs)) w) : wpList P ops Q (o :: rest) a w :=
  wpList_step fun K hK => by
    simp only [hw, if_true]; exact wp_load_row t x ho g hx t cs (0, 0) d hg hu hd hi (hK _ _ h)
theorem Qh (hgd : o.guard = none) (t : TypeId) (x y : Operand) (ho : o.op = .store t x y) (g : Nat) (c0 cs : Array Value) (hx : a.eval x = .pointer (some ⟨g, 0, none⟩)) (hy : a.eval y = .agg cs) (hg : Qa w g t c0)
    (hi : (P.info? t).map (·.size) = some cs.size) (hz : c0.size = cs.size) (h1 : cs.all (·.oneCell') = true)
    (h : ∀ w2, Qa w2 g t cs -> (∀ B w0, Below B w0 w -> B <= g -> Below B w0 w2) -> (∀ k t' c', k ≠ g -> Qa w k t' c' -> Qa w2 k t' c') -> wpList P ops Q rest (a.put o.dst undef) w2) : wpList P ops Q (o :: rest) a w := by
  refine wpList_store_row hgd t x y ho g cs hx hy t c0 hg hi hz h1 (h _ ?_ (fun B w0 hb hB => ?_) (fun k t' c' hk hr => ?_))
  · exact setRow_heap w g c0 cs t (0, 0) hg
  · exact ⟨hb.1, hb.2, hb.3, by simp [World.setRow]; exact hb.4, fun k hk => (setRow_other w g k _ (by omega)).trans (hb.5 k hk)⟩
  · exact (setRow_other w g k _ hk).trans hr
theorem Qyk {fn : Func} {p u : Tmp} {t : TypeId} (h : fn.results = #[.cell p t, .tmp u]) (tmps : Array Value) (w : World) (g : Nat) (cs : Array Value) (d : TypeDesc) (hp : tmps.getD p undef = .pointer (some ⟨g, 0, none⟩)) (hg : Qa w g t cs)
    (hu : P.underlying t = some d) (hd : (match d with | .struct _ | .array _ _ => true | _ => false) = true) (hi : (P.info? t).map (·.size) = some cs.size) :
    (results fn tmps).run P w = .ok (.tuple #[.agg cs, tmps.getD u undef]) w := by
  have h1 := run_loadVar_row (P := P) w g t t cs (0, 0) d hg hu hd hi; rw [results_cell_tmp h, hp]; simp only [asAddr, Sem.run_pure, Result.andThen_ok, h1]
theorem Qpm {fn : Func} {p q : Tmp} {t : TypeId} (h : fn.results = #[.cell p t, .cell q t]) (tmps : Array Value) (P : Program) (w : World) :
    (results fn tmps).run P w =
      ((asAddr (tmps.getD p undef)).run P w).andThen fun a w₁ => ((loadVar t a).run P w₁).andThen fun v w₂ => ((asAddr (tmps.getD q undef)).run P w₂).andThen fun b w₃ => ((loadVar t b).run P w₃).andThen fun u w₄ => .ok (.tuple #[v, u]) w₄ := by
  simp only [results, h]; simp [Sem.run_bind, Result.andThen]
theorem res_two {fn : Func} {p q : Tmp} {t : TypeId} (h : fn.results = #[.cell p t, .cell q t]) (tmps : Array Value) (w : World) (g k : Nat) (cs ds : Array Value) (d : TypeDesc) (hp : tmps.getD p undef = .pointer (some ⟨g, 0, none⟩)) (hq : tmps.getD q undef = .pointer (some ⟨k, 0, none⟩)) (hg : Qa w g t cs) (hk : Qa w k t ds)
    (hu : P.underlying t = some d) (hd : (match d with | .struct _ | .array _ _ => true | _ => false) = true) (hi : (P.info? t).map (·.size) = some cs.size) (hj : (P.info? t).map (·.size) = some ds.size) :
    (results fn tmps).run P w = .ok (.tuple #[.agg cs, .agg ds]) w := by
  have h1 := run_loadVar_row (P := P) w g t t cs (0, 0) d hg hu hd hi; have h2 := run_loadVar_row (P := P) w k t t ds (0, 0) d hk hu hd hj; rw [Qpm h, hp, hq]; simp only [asAddr, Sem.run_pure, Result.andThen_ok, h1, h2]
end
theorem Qbn {Q : World -> Prop} (H : World -> Prop) {x : World} (h : H x) (k : ∀ y, H y -> Q y) : Q x := k x h
theorem Qkd (s : ByteArray) : s.toList.isEmpty = true ↔ s.size = 0 := by
  rw [ByteArray.toList_eq]; obtain ⟨⟨l⟩⟩ := s; cases l <;> simp [ByteArray.size]
theorem lt_alloc {w : World} {b : Nat} (hb : b < w.heap.size) (o : Obj) : b < (w.alloc o).heap.size := by
  simp; omega
theorem Qoc {B : Nat} {w w' : World} (h : Below B w w') (k : Nat) : Below B w (w'.drewN k) := ⟨h.1, h.2, h.3, h.4, h.5⟩
theorem gen_world {Q : World -> Prop} (H : World -> Prop) {x : World} (h : H x) (k : ∀ y, H y -> Q y) : Q x := k x h
theorem Qwc {P : Program} {f : FuncId} {args : Array Value} {Q : Ending -> World -> Prop} (H : World -> Prop) {x : World} (h : H x) (k : ∀ y, H y -> Calls P f args y Q) : Calls P f args x Q := k x h
theorem Qyh {P : Program} {c : Code} {Q : Exit -> Act -> World -> Prop} {a : Act} (H : World -> Prop) {x : World} (h : H x) (k : ∀ y, H y -> Code.wp P c Q a y) : Code.wp P c Q a x := k x h
theorem Qnf {P : Program} {ops : Array Oper} {rest : List Oper} {o : Oper} {a : Act} {w : World} {Q : Exit -> Act -> World -> Prop} (hw : Region.wanted o (yielded ops a.tmps) = true) (v : Value) (hv : (execOp a.eval o).run P w = .ok (.value v) w)
    (h : wpList P ops Q rest (a.put o.dst v) w) : wpList P ops Q (o :: rest) a w :=
  wpList_step fun K hK => by
    simp only [hw, if_true]; unfold Oper.wp; rw [hv]; exact hK _ _ h
theorem Qtn {P : Program} {ops : Array Oper} {rest : List Oper} {o : Oper} {a : Act} {w : World} {Q : Exit -> Act -> World -> Prop} (hw : Region.wanted o (yielded ops a.tmps) = true) (op : BinOp) (t r : TypeId) (x y : Operand) (ho : o.op = .binOp op t x y r) (u v z : Value) (hu : a.eval x = u) (hv : a.eval y = v) (hg : (eqGuard op t x y u v).run P w = .ok () w)
    (hz : (binOp op t u v).run P w = .ok z w) (h : wpList P ops Q rest (a.put o.dst z) w) : wpList P ops Q (o :: rest) a w :=
  Qnf hw z (by unfold execOp; simp only [ho, hu, hv, Sem.run_bind, hg, hz, Result.andThen_ok, Sem.run_pure]) h
end
def Qve (w : World) (b : Nat) (c : Ch) : Prop := w.heap[b]? = some (.cells (chA c) 44 (0, 0))
theorem Qve.all {w : World} {b : Nat} {c : Ch} (h : Qve w b c) : w.cell? ⟨b, 0, none⟩ = some (.int .i64 c.k) /\ w.cell? ⟨b, 1, none⟩ = some (.int .i64 c.pg) /\ w.cell? ⟨b, 2, none⟩ = some (.int .i64 c.sl) /\ w.cell? ⟨b, 3, none⟩ = some (.string c.o) /\ w.cell? ⟨b, 4, none⟩ = some (.string c.n) := by
  refine ⟨?_, ?_, ?_, ?_, ?_⟩ <;> (rw [cell_of_row w b _ _ _ (0, 0) h]; rfl)
theorem Qve.below {w w' : World} {b B : Nat} {c : Ch} (h : Qve w b c) (hb : Below B w w') (hB : b < B) : Qve w' b c := (hb.block b hB).trans h
theorem Qve.lt {w : World} {b : Nat} {c : Ch} (h : Qve w b c) : b < w.heap.size := (Array.getElem?_eq_some_iff.1 h).1
theorem Qdi : (Try.prog.info? 44).map (·.size) = some 5 := by kernel_rfl
theorem chA_one (c : Ch) : (chA c).all (·.oneCell') = true := by simp [chA, Value.oneCell']
def Has (x : World) : List (Nat × TypeId × Array Value) -> Prop
  | [] => True
  | e :: l => Qa x e.1 e.2.1 e.2.2 /\ Has x l
theorem Has.later {x y : World} (hb : Below x.heap.size x y) : ∀ {l : List (Nat × TypeId × Array Value)}, Has x l -> Has y l
  | [], _ => trivial
  | _ :: _, h => ⟨h.1.later hb, h.2.later hb⟩
theorem Has.drew {x : World} : ∀ {l : List (Nat × TypeId × Array Value)}, Has x l -> Has x.drew l
  | [], _ => trivial
  | _ :: _, h => ⟨h.1, h.2.drew⟩
def Qj (w x : World) (l : List (Nat × TypeId × Array Value)) : Prop := Has x l /\ Below w.heap.size w x
theorem Qj.later {w x y : World} {l : List (Nat × TypeId × Array Value)} (h : Qj w x l) (hb : Below x.heap.size x y) : Qj w y l := ⟨h.1.later hb, h.2.trans (hb.mono h.2.size)⟩
theorem Qj.drew {w x : World} {l : List (Nat × TypeId × Array Value)} (h : Qj w x l) : Qj w x.drew l := ⟨h.1.drew, ⟨h.2.1, h.2.2, h.2.3, h.2.4, h.2.5⟩⟩
theorem Qj.more {w x y : World} {l : List (Nat × TypeId × Array Value)} (h : Qj w x l) (hb : Below x.heap.size x y) {b : Nat} {t : TypeId} {cs : Array Value} (hr : Qa y b t cs) : Qj w y ((b, t, cs) :: l) :=
  ⟨⟨hr, h.1.later hb⟩, (h.later hb).2⟩
theorem Qj.laid {w x y : World} {l : List (Nat × TypeId × Array Value)} (h : Qj w x l) {o : Obj} {t : TypeId} {cs : Array Value} (hr : Qa y x.heap.size t cs) (hk : ∀ B w0, Below B w0 (x.alloc o) -> B <= x.heap.size -> Below B w0 y) : Qj w y ((x.heap.size, t, cs) :: l) :=
  h.more (hk _ _ ((Below.refl x.heap.size x).alloc (Nat.le_refl _) _) (Nat.le_refl _)) hr
theorem Qj.one (w : World) (t : TypeId) (cs : Array Value) : Qj w (w.alloc (.cells cs t)) [(w.heap.size, t, cs)] :=
  ⟨⟨Qa.new w t cs, trivial⟩, (Below.refl w.heap.size w).alloc (Nat.le_refl _) _⟩
theorem Qj.two (w : World) (t t2 : TypeId) (cs ds : Array Value) : Qj w ((w.alloc (.cells cs t)).alloc (.cells ds t2)) [(w.heap.size + 1, t2, ds), (w.heap.size, t, cs)] := by
  have e1 : (w.alloc (.cells cs t)).heap.size = w.heap.size + 1 := by simp
  have h := (Qj.one w t cs).more ((Below.refl _ (w.alloc (.cells cs t))).alloc (Nat.le_refl _) (.cells ds t2)) (Qa.new (w.alloc (.cells cs t)) t2 ds); rw [e1] at h; exact h
theorem Qj.three (w : World) (t t2 t3 : TypeId) (cs ds es : Array Value) : Qj w (((w.alloc (.cells cs t)).alloc (.cells ds t2)).alloc (.cells es t3)) [(w.heap.size + 1 + 1, t3, es), (w.heap.size + 1, t2, ds), (w.heap.size, t, cs)] := by
  have e1 : ((w.alloc (.cells cs t)).alloc (.cells ds t2)).heap.size = w.heap.size + 1 + 1 := by simp
  have h := (Qj.two w t t2 cs ds).more ((Below.refl _ ((w.alloc (.cells cs t)).alloc (.cells ds t2))).alloc (Nat.le_refl _) (.cells es t3)) (Qa.new ((w.alloc (.cells cs t)).alloc (.cells ds t2)) t3 es); rw [e1] at h; exact h
def Qbd {α : Type} (f : α -> Array Value) (z : α) (n : Nat) (w : World) (v : Value) (xs : List α) : Prop :=
  ∃ a cap, v = .slice a xs.length cap /\ (0 < xs.length -> ∃ b off, a = some ⟨b, off, none⟩ /\ b < w.heap.size /\ ∀ i, i < xs.length -> w.rangeAt b (off + i * n) (f (xs.getD i z)).toList)
theorem Qtb {w w' : World} {b o B : Nat} {cs : List Value} (h : w.rangeAt b o cs) (hb : Below B w w') (hB : b < B) : w'.rangeAt b o cs := fun j v hv => by
  rw [hb.cell (p := ⟨b, o + j, none⟩) hB]; exact h j v hv
theorem Qbd.below {α : Type} {f : α -> Array Value} {z : α} {n : Nat} {w w' : World} {v : Value} {xs : List α} (h : Qbd f z n w v xs) (hb : Below w.heap.size w w') : Qbd f z n w' v xs := by
  obtain ⟨a, cap, h1, h2⟩ := h; refine ⟨a, cap, h1, fun hp => ?_⟩; obtain ⟨b, off, h3, h4, h5⟩ := h2 hp; exact ⟨b, off, h3, Nat.lt_of_lt_of_le h4 hb.size, fun i hi => Qtb (h5 i hi) hb h4⟩
def rcA (r : Rec) (va vb : Value) : Array Value := #[.int .i64 r.k, .int .u64 (r.l : Int), .int .i64 r.t, .int .u64 (r.p : Int), .int .i64 r.c.k, .int .i64 r.c.pg, .int .i64 r.c.sl, .string r.c.o, .string r.c.n, .int .u64 (r.n : Int), .int .i64 r.s, .int .u64 (r.b : Int), va, vb]
def txA (x : Tx) : Array Value := #[.int .i64 x.t, .int .i64 x.s, .int .u64 (x.f : Int), .int .u64 (x.l : Int), .int .u64 (x.n : Int)]
def diA (d : Di) : Array Value := #[.int .i64 d.p, .int .u64 (d.r : Int)]
theorem Qaa : (Try.prog.info? 46).map (·.size) = some 14 := by kernel_rfl
theorem Qno : (Try.prog.info? 42).map (·.size) = some 5 := by kernel_rfl
theorem Qpn : (Try.prog.info? 81).map (·.size) = some 2 := by kernel_rfl
theorem Qrm (x : Tx) : (txA x).all (·.oneCell') = true := by simp [txA, Value.oneCell']
theorem Qqq (d : Di) : (diA d).all (·.oneCell') = true := by simp [diA, Value.oneCell']
abbrev Qxb := Qbd txA Tx.zero 5
abbrev Qxc := Qbd diA Di.zero 2
def Qwb (w : World) (r : Rec) (va vb : Value) : Prop := Qxb w va r.ts /\ Qxc w vb r.ds
theorem Qwb.below {w w' : World} {r : Rec} {va vb : Value} (h : Qwb w r va vb) (hb : Below w.heap.size w w') : Qwb w' r va vb := ⟨h.1.below hb, h.2.below hb⟩
theorem Qwb.drew {w : World} {r : Rec} {va vb : Value} (h : Qwb w r va vb) : Qwb w.drew r va vb := h
section
section
variable {P : Program} {ops : Array Oper} {C : World -> Prop} {Q : Act -> Prop} {a : Act} {o : Oper} {rest : List Oper}
theorem Qga {id : Nat} {Q : Exit -> Act -> World -> Prop} {a : Act} {w : World} {l : List Oper} (C : World -> Prop) (hm : P.follows .mixedOrders = true) (hB : Region.lexB .any l.toArray = true) (hC : C w.drew)
    (h : wpQuiet P l.toArray C (fun a' => ∀ w', C w' -> Q .normal a' w') l a) : (Code.region id l.toArray true).wp P Q a w :=
  wp_region_quiet (C := C) hm hB hC (by simpa using h)
theorem Qte (hw : Region.wanted o (yielded ops a.tmps) = true) (v : Value) (hv : ∀ x, C x -> (execOp a.eval o).run P x = .ok (.value v) x) (h : wpQuiet P ops C Q rest (a.put o.dst v)) : wpQuiet P ops C Q (o :: rest) a :=
  BigFrame.wpQuiet_want hw fun K hK => ⟨v, fun x hx => by unfold Oper.quietAt; rw [hv x hx]; exact ⟨rfl, rfl⟩, hK _ h⟩
theorem wpQuiet_convert (hw : Region.wanted o (yielded ops a.tmps) = true) (s t : TypeId) (x : Operand) (ho : o.op = .convert s t x) (u v : Value) (hu : a.eval x = u) (hv : ∀ y, C y -> (convert s t u).run P y = .ok v y)
    (h : wpQuiet P ops C Q rest (a.put o.dst v)) : wpQuiet P ops C Q (o :: rest) a :=
  Qte hw v (fun y hy => by unfold execOp; simp only [ho, hu, Sem.run_bind, hv y hy, Result.andThen_ok, Sem.run_pure]) h
theorem Qf (hw : Region.wanted o (yielded ops a.tmps) = true) (t : TypeId) (x : Operand) (ho : o.op = .load t x) (u v : Value) (hu : a.eval x = u) (hv : ∀ y, C y -> (Instr.loadAt t u).run P y = .ok v y)
    (h : wpQuiet P ops C Q rest (a.put o.dst v)) : wpQuiet P ops C Q (o :: rest) a :=
  Qte hw v (fun y hy => by unfold execOp; simp only [ho, hu, Sem.run_bind, hv y hy, Result.andThen_ok, Sem.run_pure]) h
theorem Qfd (hw : Region.wanted o (yielded ops a.tmps) = true) (op : BinOp) (t r : TypeId) (x y : Operand) (ho : o.op = .binOp op t x y r) (u v z : Value) (hu : a.eval x = u) (hv : a.eval y = v) (hg : ∀ w, (eqGuard op t x y u v).run P w = .ok () w)
    (hz : ∀ w, (binOp op t u v).run P w = .ok z w) (h : wpQuiet P ops C Q rest (a.put o.dst z)) : wpQuiet P ops C Q (o :: rest) a :=
  Qte hw z (fun w hw => by unfold execOp; simp only [ho, hu, hv, Sem.run_bind, hg w, hz w, Result.andThen_ok, Sem.run_pure]) h
theorem Qw (hw : Region.wanted o (yielded ops a.tmps) = true) (h : ∀ K : Act -> Prop, (∀ a, wpQuiet P ops C Q rest a -> K a) -> ∃ v, (∀ x : World, (execOp a.eval o).run P x = .ok (.value v) x) /\ K (a.put o.dst v)) : wpQuiet P ops C Q (o :: rest) a := by
  obtain ⟨v, h1, h2⟩ := h _ (fun _ h => h); exact Qte hw v (fun x _ => h1 x) h2
theorem Qrd (hw : Region.wanted o (yielded ops a.tmps) = true) (f : FuncId) (args : Array Value) (v : Value) (he : ∀ x : World, (execOp a.eval o).run P x = .ok (.enter f args) x) (hc : ∀ x, C x -> Calls P f args x fun e x' => e = .returned v /\ C x')
    (h : wpQuiet P ops C Q rest (a.put o.dst v)) : wpQuiet P ops C Q (o :: rest) a :=
  BigFrame.wpQuiet_want hw fun K hK => ⟨v, fun x hx => by unfold Oper.quietAt; rw [he x]; exact ⟨rfl, hc x hx⟩, hK _ h⟩
end
end
theorem Qlb {P : Program} {ops : Array Oper} {rest : List Oper} {o : Oper} {a : Act} {w : World} {Q : Exit -> Act -> World -> Prop} (hw : Region.wanted o (yielded ops a.tmps) = true) (t : TypeId) (x : Operand) (ho : o.op = .load t x) (b k : Nat) (cs : Array Value)
    (hx : a.eval x = .pointer (some ⟨b, k, none⟩)) (hg : w.rangeAt b k cs.toList) (d : TypeDesc) (hu : P.underlying t = some d) (hd : d.isRow = true) (hi : (P.info? t).map (·.size) = some cs.size) (h : wpList P ops Q rest (a.put o.dst (.agg cs)) w) : wpList P ops Q (o :: rest) a w := by
  have h1 := run_loadAt_mid (P := P) w b k t cs.toList d hg hu hd (by rw [hi, Array.length_toList]); rw [Array.toArray_toList] at h1; exact Qnf hw (.agg cs) (by unfold execOp; simp only [ho, hx, Sem.run_bind, h1, Result.andThen_ok, Sem.run_pure]) h
theorem Qvd {b j : Nat} (x : World) (v : Int) (h : x.cell? ⟨b, j, none⟩ = some (.int .i64 v)) : (Instr.loadAt 3 (.pointer (some ⟨b, j, none⟩))).run Try.prog x = .ok (.int .i64 v) x := by go_simp
theorem Qvi {b j : Nat} (x : World) (a : Option Addr) (n cap : Nat) (h : x.cell? ⟨b, j, none⟩ = some (.slice a n cap)) : (Instr.loadAt 25 (.pointer (some ⟨b, j, none⟩))).run Try.prog x = .ok (.slice a n cap) x := by go_simp
theorem Qxi {b j : Nat} (x : World) (a : Option Addr) (n cap : Nat) (h : x.cell? ⟨b, j, none⟩ = some (.slice a n cap)) : (Instr.loadAt 26 (.pointer (some ⟨b, j, none⟩))).run Try.prog x = .ok (.slice a n cap) x := by go_simp
theorem Qxd {p : Nat -> Prop} {j : Nat} (h : ∀ i, i < j -> p i) (hj : p j) : ∀ i, i < j + 1 -> p i := by
  intro i hi
  by_cases hij : i = j
  · subst hij; exact hj
  · exact h i (by omega)
set_option linter.unusedVariables false
set_option linter.unusedVariables false
theorem Qs.same {α : Type} {a b : α} (h : b = a) : Qs (Qki a) b [] := by
  subst h; exact Qs.pure _
theorem Qqc (k : Int) (h : 0 <= k) : ((k.toNat : Nat) : Int) = k := Int.toNat_of_nonneg h
theorem Qs.ch (c : Ch) (h : c.right) : Qs pCh c (chB c) := by
  obtain ⟨h1, h2⟩ := h; have hk : 1 <= c.k /\ c.k <= 3 := by rcases h2 with h | h | h <;> omega
  have e : c = ⟨(c.k.toNat : Nat), (c.pg.toNat : Nat), (c.sl.toNat : Nat), c.o, c.n⟩ := by
    rw [Qqc _ (by omega), Qqc _ (by omega), Qqc _ (by omega)]
  unfold pCh chB; refine (Qs.num 1 _ (by omega)).bind ((Qs.num 2 _ (by omega)).bind ((Qs.num 1 _ (by omega)).bind ((Qs.text c.o (by omega)).bind ((Qs.text c.n (by omega)).last ?_)))); exact Qs.same e
theorem Qs.tx (l : Nat) (x : Tx) (hl : l <= Qtd) (h : Qav l x) : Qs pTx x (txB x) := by
  obtain ⟨h1, h2, h3, h4, h5, h6, h7, h8⟩ := h
  have e : x = ⟨(x.t.toNat : Nat), (x.s.toNat : Nat), x.f, x.l, x.n⟩ := by
    rw [Qqc _ (by omega), Qqc _ (by omega)]
  unfold Qtd at hl; unfold pTx txB; refine (Qs.num 4 _ (by omega)).bind ((Qs.num 1 _ (by omega)).bind ((Qs.num 8 _ (by omega)).bind ((Qs.num 8 _ (by omega)).bind ((Qs.num 8 _ (by omega)).last ?_)))); exact Qs.same e
theorem Qs.di (l : Nat) (d : Di) (hl : l <= Qtd) (h : diOk l d) : Qs pDi d (diB d) := by
  obtain ⟨h1, h2, h3, h4⟩ := h; have e : d = ⟨(d.p.toNat : Nat), d.r⟩ := by rw [Qqc _ (by omega)]
  unfold Qtd at hl; unfold pDi diB; refine (Qs.num 2 _ (by omega)).bind ((Qs.num 8 _ (by omega)).last ?_); exact Qs.same e
theorem Qft {α : Type} (xs : List α) (z x : α) (h : x ∈ xs) : ∃ i, i < xs.length /\ xs.getD i z = x := by
  obtain ⟨i, hi, he⟩ := List.mem_iff_getElem.1 h; exact ⟨i, hi, by simp [List.getD, hi, he]⟩
theorem Qs.check (r : Rec) (hl : r.l <= Qtd) (h : r.rows) : Qs Qmd (r.b, r.ts, r.ds) (Que r.b r.ts r.ds) := by
  obtain ⟨h1, h2, h3, h4, h5, h6⟩ := h
  have g1 : ∀ x ∈ r.ts, Qs pTx x (txB x) := fun x hx => by
    obtain ⟨i, hi, rfl⟩ := Qft r.ts Tx.zero x hx; exact Qs.tx r.l _ hl (h3 i hi).1
  have g2 : ∀ x ∈ r.ds, Qs pDi x (diB x) := fun x hx => by
    obtain ⟨i, hi, rfl⟩ := Qft r.ds Di.zero x hx; exact Qs.di r.l _ hl (h4 i hi).1
  unfold Qtd at hl; unfold Qmd Que; exact (Qs.num 8 _ (by omega)).bind ((Qs.in 0 16 _ (by omega) (by omega) h1).bind ((Qs.some r.ts g1).bind ((Qs.in 0 32 _ (by omega) (by omega) h2).bind ((Qs.some r.ds g2).last (Qs.pure _)))))
theorem Qs.rec (r : Rec) (h : r.right) : Qs Qmk r (Qbg r) := by
  have hk1 := h.k1; have hk8 := h.k8
  have ht : 0 <= r.t /\ r.t < 4294967296 := by
    by_cases hk : r.k <= 6
    · have := h.own hk; omega
    · have := h.none (by omega); omega
  have hp : r.p < 256 ^ 8 := by
    have hl := h.lm; unfold Qtd at hl
    by_cases hk : r.k <= 6
    · have := h.own hk; omega
    · have := h.none (by omega); omega
  have hll := h.lm
  have hs : 0 <= r.s /\ r.s < 256 := by
    by_cases hk : r.k = 6
    · have := h.save hk; omega
    · have := h.nosave hk; omega
  have hn : r.n < 256 ^ 8 := by
    unfold Qtd at hll
    by_cases hk : r.k = 2
    · have := h.next hk; omega
    · have := h.nonext hk; omega
  have e : r = ⟨(r.k.toNat : Nat), r.l, (r.t.toNat : Nat), r.p, r.c, r.n, (r.s.toNat : Nat), (r.b, r.ts, r.ds).1, (r.b, r.ts, r.ds).2.1, (r.b, r.ts, r.ds).2.2⟩ := by
    rw [Qqc _ (by omega), Qqc _ ht.1, Qqc _ hs.1]
  have ek := Qqc r.k (by omega)
  have m1 : Qch (r.k <= 2) (chB r.c) = Qch (r.k.toNat <= 2) (chB r.c) := by
    unfold Qch
    by_cases hk : r.k <= 2
    · rw [if_pos hk, if_pos (by omega)]
    · rw [if_neg hk, if_neg (by omega)]
  have m2 : Qch (r.k = 2) (beB 8 r.n) = Qch (r.k.toNat = 2) (beB 8 r.n) := by
    unfold Qch
    by_cases hk : r.k = 2
    · rw [if_pos hk, if_pos (by omega)]
    · rw [if_neg hk, if_neg (by omega)]
  have m3 : Qch (r.k = 6) (beB 1 r.s.toNat) = Qch (r.k.toNat = 6) (beB 1 r.s.toNat) := by
    unfold Qch
    by_cases hk : r.k = 6
    · rw [if_pos hk, if_pos (by omega)]
    · rw [if_neg hk, if_neg (by omega)]
  have m4 : Qch (r.k = 8) (Que r.b r.ts r.ds) = Qch (r.k.toNat = 8) (Que r.b r.ts r.ds) := by
    unfold Qch
    by_cases hk : r.k = 8
    · rw [if_pos hk, if_pos (by omega)]
    · rw [if_neg hk, if_neg (by omega)]
  unfold Qmk Qbg; rw [m1, m2, m3, m4]
  refine (Qs.in 1 8 _ (by omega) (by omega) (by omega)).bind ((Qs.num 8 r.l (by unfold Qtd at hll; omega)).bind ((Qs.num 4 _ (by omega)).bind ((Qs.num 8 r.p hp).bind ((Qs.may (a := r.c) (fun hk => Qs.ch r.c (h.ch (by omega))) (fun hk => h.noch (by omega))).bind ((Qs.may (a := r.n) (fun hk => Qs.num 8 r.n hn) (fun hk => h.nonext (by omega))).bind
    ((Qs.may (a := r.s.toNat) (fun hk => Qs.num 1 _ (by omega)) (fun hk => by have := h.nosave (by omega); omega)).bind ((Qs.may (a := (r.b, r.ts, r.ds)) (fun hk => Qs.check r hll (h.check (by omega))) (fun hk => by obtain ⟨a1, a2, a3⟩ := h.nocheck (by omega); rw [a1, a2, a3])).last ?_)))))))
  exact Qs.same e
theorem Qwq (r : Rec) (h : r.right) : Qpk (Qbg r) = (r, 0) := by
  have h1 := Qs.rec r h []; rw [List.append_nil] at h1; unfold Qpk; rw [h1, if_neg (by simp), if_neg]; simp [Qof h]
theorem dec_more (r : Rec) (h : r.right) (t : List UInt8) (ht : t ≠ []) : Qpk (Qbg r ++ t) = (Rec.zero, 2) := by
  unfold Qpk; rw [Qs.rec r h t, if_neg (by simp), if_pos (.inl ht)]
theorem beB_be : ∀ (bs : List UInt8), beB bs.length (be bs) = bs
  | [] => rfl
  | b :: bs => by
    have h := Qlu bs; have hp : 0 < 256 ^ bs.length := Nat.pow_pos (by omega); rw [be_cons, List.length_cons, Qbh, Qen]
    have e1 : (b.toNat * 256 ^ bs.length + be bs) / 256 ^ bs.length = b.toNat := by
      rw [Nat.mul_comm, Nat.mul_add_div hp, Nat.div_eq_of_lt h, Nat.add_zero]
    have e2 : (b.toNat * 256 ^ bs.length + be bs) % 256 ^ bs.length = be bs := by
      rw [Nat.mul_comm, Nat.mul_add_mod, Nat.mod_eq_of_lt h]
    rw [e1, e2, beB_be bs]; congr 1; simp
def Qma {α : Type} (p : St -> α × St) (f : α -> List UInt8) : Prop := ∀ s, (p s).2.e = 0 -> s.e = 0 /\ s.l = f (p s).1 ++ (p s).2.l
theorem Qma.num (w : Nat) : ∀ s, (Qqa w s).2.e = 0 -> s.e = 0 /\ s.l = beB w (Qqa w s).1 ++ (Qqa w s).2.l /\ (Qqa w s).1 < 256 ^ w := by
  intro s; unfold Qqa
  by_cases he : s.e = 0
  · rw [if_neg (by simpa using he)]
    by_cases hw : w <= s.l.length
    · rw [if_pos hw]; intro _; have hl : (s.l.take w).length = w := by rw [List.length_take]; omega
      refine ⟨he, ?_, ?_⟩
      · show s.l = beB w (be (s.l.take w)) ++ s.l.drop w; have h := beB_be (s.l.take w); rw [hl] at h; rw [h, List.take_append_drop]
      · have h := Qlu (s.l.take w); rwa [hl] at h
    · rw [if_neg hw]; intro h; cases h
  · rw [if_pos he]; intro h; exact absurd h he
theorem Qma.text : ∀ s, (Qhc s).2.e = 0 -> s.e = 0 /\ s.l = Qdd (Qhc s).1.data.toList ++ (Qhc s).2.l := by
  intro s; unfold Qhc
  by_cases he : s.e = 0
  · rw [if_neg (by simpa using he)]; obtain ⟨l, e⟩ := s
    cases l with
    | nil => intro h; cases h
    | cons b l =>
      simp only
      by_cases hb : b.toNat <= l.length
      · rw [if_pos hb]; intro _; refine ⟨he, ?_⟩; show b :: l = Qdd (l.take b.toNat) ++ l.drop b.toNat; unfold Qdd; have hl : (l.take b.toNat).length = b.toNat := by rw [List.length_take]; omega
        rw [hl, List.cons_append, List.take_append_drop]; congr 1; simp
      · rw [if_neg hb]; intro h; cases h
  · rw [if_pos he]; intro h; exact absurd h he
theorem Qma.in (lo hi : Nat) : ∀ s, (pIn lo hi s).2.e = 0 -> s.e = 0 /\ s.l = beB 1 (pIn lo hi s).1 ++ (pIn lo hi s).2.l /\ lo <= (pIn lo hi s).1 /\ (pIn lo hi s).1 <= hi := by
  intro s; unfold pIn
  by_cases h : (Qqa 1 s).2.e = 0 /\ ((Qqa 1 s).1 < lo ∨ hi < (Qqa 1 s).1)
  · rw [if_pos h]; intro h2; cases h2
  · rw [if_neg h]; intro h2; obtain ⟨h3, h4, _⟩ := Qma.num 1 s h2; exact ⟨h3, h4, by omega, by omega⟩
theorem Qma.ch : Qma pCh chB := by
  intro s h; have h5 := Qma.text _ h; have h4 := Qma.text _ h5.1; have h3 := Qma.num 1 _ h4.1; have h2 := Qma.num 2 _ h3.1; have h1 := Qma.num 1 _ h2.1; refine ⟨h1.1, ?_⟩; rw [h1.2.1, h2.2.1, h3.2.1, h4.2, h5.2]; show _ = (beB 1 _ ++ (beB 2 _ ++ (beB 1 _ ++ (Qdd _ ++ Qdd _)))) ++ _; simp only [List.append_assoc]; rfl
theorem Qma.tx : Qma pTx txB := by
  intro s h; have h5 := Qma.num 8 _ h; have h4 := Qma.num 8 _ h5.1; have h3 := Qma.num 8 _ h4.1; have h2 := Qma.num 1 _ h3.1; have h1 := Qma.num 4 _ h2.1; refine ⟨h1.1, ?_⟩; rw [h1.2.1, h2.2.1, h3.2.1, h4.2.1, h5.2.1]; show _ = (beB 4 _ ++ (beB 1 _ ++ (beB 8 _ ++ (beB 8 _ ++ beB 8 _)))) ++ _; simp only [List.append_assoc]; rfl
theorem Qma.di : Qma pDi diB := by
  intro s h; have h2 := Qma.num 8 _ h; have h1 := Qma.num 2 _ h2.1; refine ⟨h1.1, ?_⟩; rw [h1.2.1, h2.2.1]; show _ = (beB 2 _ ++ beB 8 _) ++ _; simp only [List.append_assoc]; rfl
theorem Qma.some {α : Type} {p : St -> α × St} {f : α -> List UInt8} (hp : Qma p f) : ∀ n s, (Qna p n s).2.e = 0 -> s.e = 0 /\ s.l = (Qna p n s).1.flatMap f ++ (Qna p n s).2.l /\ (Qna p n s).1.length = n
  | 0, s => fun h => ⟨h, rfl, rfl⟩
  | n + 1, s => by
    unfold Qna
    by_cases he : s.e = 0
    · rw [if_neg (by simpa using he)]; intro h; obtain ⟨h1, h2, h3⟩ := Qma.some hp n (p s).2 h; obtain ⟨_, h4⟩ := hp s h1; refine ⟨he, ?_, by show (Qna p n (p s).2).1.length + 1 = n + 1; rw [h3]⟩; rw [h4]; conv => lhs; rw [h2]
      show _ = (f _ ++ _) ++ _; rw [List.append_assoc]; rfl
    · rw [if_pos he]; intro h; exact absurd h he
def rdA (b : ByteArray) (k : Nat) (e : Int) : Array Value := #[.string b, .int .i64 (k : Int), .int .i64 e]
theorem grown_refl (w : World) (o : Option Nat) : w.grownBy w o := ⟨rfl, rfl, rfl, Nat.le_refl _, fun _ _ _ => rfl⟩
theorem grown_drew {w x : World} {o : Option Nat} (h : w.grownBy x o) : w.grownBy x.drew o := ⟨h.os, h.tape, h.output, h.size, h.block⟩
theorem Qkf {w x : World} {g j : Nat} (v : Value) (h : w.grownBy x (some g)) : w.grownBy (x.setCell ⟨g, j, none⟩ v) (some g) := by
  have hb : Below 0 x (x.setCell ⟨g, j, none⟩ v) := (Below.refl 0 x).setCell (Nat.zero_le _) _; refine ⟨hb.os.trans h.os, hb.tape.trans h.tape, hb.output.trans h.output, Nat.le_trans h.size hb.size, fun k hk hn => ?_⟩; rw [heap_setCell_other x ⟨g, j, none⟩ k v (fun e => hn (by rw [e]))]; exact h.block k hk hn
theorem grown_any {w x : World} {o : Option Nat} (h : w.grownBy x none) : w.grownBy x o := ⟨h.os, h.tape, h.output, h.size, fun k hk _ => h.block k hk (by simp)⟩
theorem load_s {b j : Nat} (x : World) (s : ByteArray) (h : x.cell? ⟨b, j, none⟩ = some (.string s)) : (Instr.loadAt 9 (.pointer (some ⟨b, j, none⟩))).run Try.prog x = .ok (.string s) x := by go_simp
theorem num_take (b : ByteArray) (s : St) (k w : Nat) (hw : 1 <= w /\ w <= 8) (he : s.e = 0) (hk : k <= b.size) (hl : b.data.toList.drop k = s.l) :
    (Qdn b.data.toList (k : Int) (w : Int)).1 = ((Qqa w s).1 : Int) /\ (Qdn b.data.toList (k : Int) (w : Int)).2 = (Qqa w s).2.e /\ ((Qqa w s).2.e = 0 -> k + w <= b.size /\ b.data.toList.drop (k + w) = (Qqa w s).2.l) := by
  have hz := Qeb b; have hll : s.l.length = b.size - k := by rw [<- hl, List.length_drop, hz]
  unfold Qqa; rw [if_neg (by simpa using he)]
  by_cases h : w <= s.l.length
  · rw [if_pos h, Qdt _ _ _ (by omega) (by rw [hz]; omega)]
    refine ⟨?_, rfl, fun _ => ⟨by omega, ?_⟩⟩
    · show ((beAt b.data.toList (k : Int).toNat (w : Int).toNat : Nat) : Int) = ((be (s.l.take w) : Nat) : Int); rw [Int.toNat_natCast, Int.toNat_natCast, <- hl]; rfl
    · show _ = s.l.drop w; rw [<- hl, List.drop_drop]
  · rw [if_neg h, Qbr _ _ _ (by omega) (by rw [hz]; omega)]; exact ⟨rfl, rfl, fun h => by cases h⟩
theorem text_take (b : ByteArray) (s : St) (k : Nat) (he : s.e = 0) (hk : k <= b.size) (hl : b.data.toList.drop k = s.l) :
    ∃ k2 : Nat, (Qli b.data.toList (k : Int)).2.1 = (k2 : Int) /\ k2 <= b.size /\ (⟨(Qli b.data.toList (k : Int)).1.toArray⟩ : ByteArray) = (Qhc s).1 /\ (Qli b.data.toList (k : Int)).2.2 = (Qhc s).2.e /\ ((Qhc s).2.e = 0 -> b.data.toList.drop k2 = (Qhc s).2.l) := by
  have hz := Qeb b; unfold Qhc; rw [if_neg (by simpa using he)]
  cases hs : s.l with
  | nil =>
    have hkk : b.size <= k := by
      have h := congrArg List.length hl; rw [hs, List.length_drop, hz] at h; simp only [List.length_nil] at h; omega
    rw [Qvq _ _ (by omega) (by rw [hz]; omega)]; exact ⟨0, rfl, by omega, rfl, rfl, fun h => by cases h⟩
  | cons x l =>
    have hlen : k < b.size := by
      have h := congrArg List.length hl; rw [hs, List.length_drop, hz, List.length_cons] at h; omega
    have hll : l.length = b.size - k - 1 := by
      have h := congrArg List.length hl; rw [hs, List.length_drop, hz, List.length_cons] at h; omega
    have hx : b.data.toList.getD k 0 = x := by
      have h : (b.data.toList.drop k)[0]? = some x := by rw [hl, hs]; rfl
      rw [List.getElem?_drop, Nat.add_zero] at h; rw [List.getD, h]; rfl
    have hd : b.data.toList.drop (k + 1) = l := by
      have h : (b.data.toList.drop k).drop 1 = l := by rw [hl, hs]; rfl
      rwa [List.drop_drop] at h
    simp only
    by_cases hb : x.toNat <= l.length
    · rw [if_pos hb, Qxr _ k x.toNat (by rw [hz]; omega) (by rw [hx]) (by rw [hz]; omega)]; refine ⟨k + 1 + x.toNat, by show (k : Int) + 1 + (x.toNat : Int) = _; omega, by omega, by rw [hd], rfl, fun _ => ?_⟩; show _ = l.drop x.toNat; rw [<- hd, List.drop_drop]
    · rw [if_neg hb, textS_few _ k x.toNat (by rw [hz]; omega) (by rw [hx]) (by rw [hz]; omega)]; exact ⟨0, rfl, by omega, rfl, rfl, fun h => by cases h⟩
theorem grown_trans {w x y : World} {o : Option Nat} (h : w.grownBy x o) (g : x.grownBy y o) : w.grownBy y o :=
  ⟨g.os.trans h.os, g.tape.trans h.tape, g.output.trans h.output, Nat.le_trans h.size g.size, fun k hk hn => (g.block k (Nat.lt_of_lt_of_le hk h.size) hn).trans (h.block k hk hn)⟩
def Ch.fits (c : Ch) : Prop := (Lit.int .i64 c.k).wf = true /\ (Lit.int .i64 c.pg).wf = true /\ (Lit.int .i64 c.sl).wf = true /\ c.o.size <= maxLen /\ c.n.size <= maxLen
abbrev Ch.like (a b : Ch) : Prop := a.k = b.k /\ a.pg = b.pg /\ a.sl = b.sl /\ a.o = b.o /\ a.n = b.n
theorem Qbj (a b : Ch) : a.like b ↔ a = b := by
  constructor
  · rintro ⟨h1, h2, h3, h4, h5⟩; cases a; cases b; simp_all
  · rintro rfl; exact ⟨rfl, rfl, rfl, rfl, rfl⟩
def Qnm (c : Ch) : List Lit := [.int .i64 c.k, .int .i64 c.pg, .int .i64 c.sl, .string c.o.data.toList, .string c.n.data.toList]
theorem Quo (c d : Ch) : Qnm c = Qnm d ↔ c = d := by
  unfold Qnm; simp only [List.cons.injEq, and_true, Lit.int.injEq, Lit.string.injEq, Qzr, true_and]
  constructor
  · rintro ⟨h1, h2, h3, h4, h5⟩; cases c; cases d; simp_all
  · rintro rfl; exact ⟨rfl, rfl, rfl, rfl, rfl⟩
theorem Qoe (c : Ch) (h : c.fits) : Try.prog.keyLits 2 44 (chA c).toList = some (Qnm c) := by
  have e0 : Try.prog.cellsOf 3 = 1 := by kernel_rfl
  have e1 : Try.prog.cellsOf 9 = 1 := by kernel_rfl
  have e2 : Try.prog.cellsOf 44 = 5 := by kernel_rfl
  obtain ⟨h1, h2, h3, h4, h5⟩ := h; simp [Program.keyLits, Try.underlying44, Try.underlying3, Try.underlying9, e0, e1, e2, chA, Qnm, h1, h2, h3, h4, h5]
theorem run_change_eql (c d : Ch) (hc : c.fits) (hd : d.fits) (w : World) : (binOp .eql 44 (.agg (chA c)) (.agg (chA d))).run Try.prog w = .ok (.bool (decide (c.like d))) w := by
  obtain ⟨r, hr, hiff⟩ := run_equalIn_deep (P := Try.prog) 9998 2 44 (by kernel_rfl) w 2 2 (.agg (chA c)) (.agg (chA d)) (Qnm c) (Qnm d) (by kernel_rfl) (by kernel_rfl) (Qoe c hc) (Qoe d hd)
  have e : r = decide (c.like d) := by
    rw [Bool.eq_iff_iff, hiff, Quo, decide_eq_true_iff, Qbj]
  rw [e] at hr; have hr2 : (Op.equal 44 (.agg (chA c)) (.agg (chA d))).run Try.prog w = .ok (decide (c.like d)) w := hr; simp [binOp, hr2]
theorem run_change_neq (c d : Ch) (hc : c.fits) (hd : d.fits) (w : World) : (binOp .neq 44 (.agg (chA c)) (.agg (chA d))).run Try.prog w = .ok (.bool (!decide (c.like d))) w := by
  obtain ⟨r, hr, hiff⟩ := run_equalIn_deep (P := Try.prog) 9998 2 44 (by kernel_rfl) w 2 2 (.agg (chA c)) (.agg (chA d)) (Qnm c) (Qnm d) (by kernel_rfl) (by kernel_rfl) (Qoe c hc) (Qoe d hd)
  have e : r = decide (c.like d) := by
    rw [Bool.eq_iff_iff, hiff, Quo, decide_eq_true_iff, Qbj]
  rw [e] at hr; have hr2 : (Op.equal 44 (.agg (chA c)) (.agg (chA d))).run Try.prog w = .ok (decide (c.like d)) w := hr; simp [binOp, hr2]
theorem change_guard (op : BinOp) (x y : Operand) (c d : Ch) (w : World) : (eqGuard op 44 x y (.agg (chA c)) (.agg (chA d))).run Try.prog w = .ok () w := run_eqGuard_agg (P := Try.prog) w op 44 x y (chA c) (chA d) (by kernel_rfl)
def Tx.fits (x : Tx) : Prop := (Lit.int .i64 x.t).wf = true /\ (Lit.int .i64 x.s).wf = true /\ (Lit.int .u64 (x.f : Int)).wf = true /\ (Lit.int .u64 (x.l : Int)).wf = true /\ (Lit.int .u64 (x.n : Int)).wf = true
def Di.fits (d : Di) : Prop := (Lit.int .i64 d.p).wf = true /\ (Lit.int .u64 (d.r : Int)).wf = true
structure Rec.fits (r : Rec) : Prop where
  c : r.c.fits
  tl : r.ts.length <= maxLen
  dl : r.ds.length <= maxLen
  ts : ∀ x ∈ r.ts, x.fits
  ds : ∀ d ∈ r.ds, d.fits
def Qeq (x : Tx) : List Lit := [.int .i64 x.t, .int .i64 x.s, .int .u64 (x.f : Int), .int .u64 (x.l : Int), .int .u64 (x.n : Int)]
def Qhq (d : Di) : List Lit := [.int .i64 d.p, .int .u64 (d.r : Int)]
theorem litsT_iff (x y : Tx) : Qeq x = Qeq y ↔ x = y := by
  unfold Qeq; simp only [List.cons.injEq, and_true, Lit.int.injEq, true_and, Int.ofNat_inj]
  constructor
  · rintro ⟨h1, h2, h3, h4, h5⟩; cases x; cases y; simp_all
  · rintro rfl; exact ⟨rfl, rfl, rfl, rfl, rfl⟩
theorem litsD_iff (x y : Di) : Qhq x = Qhq y ↔ x = y := by
  unfold Qhq; simp only [List.cons.injEq, and_true, Lit.int.injEq, true_and, Int.ofNat_inj]
  constructor
  · rintro ⟨h1, h2⟩; cases x; cases y; simp_all
  · rintro rfl; exact ⟨rfl, rfl⟩
theorem lits_tx (x : Tx) (h : x.fits) : Try.prog.keyLits 2 42 (txA x).toList = some (Qeq x) := by
  have e0 : Try.prog.cellsOf 3 = 1 := by kernel_rfl
  have e1 : Try.prog.cellsOf 37 = 1 := by kernel_rfl
  have e2 : Try.prog.cellsOf 42 = 5 := by kernel_rfl
  obtain ⟨h1, h2, h3, h4, h5⟩ := h; simp [Program.keyLits, Try.underlying42, Try.underlying3, Try.underlying37, e0, e1, e2, txA, Qeq, h1, h2, h3, h4, h5]
theorem lits_di (x : Di) (h : x.fits) : Try.prog.keyLits 2 81 (diA x).toList = some (Qhq x) := by
  have e0 : Try.prog.cellsOf 3 = 1 := by kernel_rfl
  have e1 : Try.prog.cellsOf 37 = 1 := by kernel_rfl
  have e2 : Try.prog.cellsOf 81 = 2 := by kernel_rfl
  obtain ⟨h1, h2⟩ := h; simp [Program.keyLits, Try.underlying81, Try.underlying3, Try.underlying37, e0, e1, e2, diA, Qhq, h1, h2]
theorem Qxk (x y : Tx) (hx : x.fits) (hy : y.fits) (q : Bool) (hq : q = false ↔ x = y) (w : World) : (binOp .neq 42 (.agg (txA x)) (.agg (txA y))).run Try.prog w = .ok (.bool q) w := by
  obtain ⟨r, hr, hiff⟩ := run_equalIn_deep (P := Try.prog) 9998 2 42 (by kernel_rfl) w 2 2 (.agg (txA x)) (.agg (txA y)) (Qeq x) (Qeq y) (by kernel_rfl) (by kernel_rfl) (lits_tx x hx) (lits_tx y hy); rw [litsT_iff, <- hq] at hiff; have e : r = !q := by cases r <;> cases q <;> simp_all
  rw [e] at hr; have hr2 : (Op.equal 42 (.agg (txA x)) (.agg (txA y))).run Try.prog w = .ok (!q) w := hr; simp [binOp, hr2]
theorem Qhl (x y : Di) (hx : x.fits) (hy : y.fits) (q : Bool) (hq : q = false ↔ x = y) (w : World) : (binOp .neq 81 (.agg (diA x)) (.agg (diA y))).run Try.prog w = .ok (.bool q) w := by
  obtain ⟨r, hr, hiff⟩ := run_equalIn_deep (P := Try.prog) 9998 2 81 (by kernel_rfl) w 2 2 (.agg (diA x)) (.agg (diA y)) (Qhq x) (Qhq y) (by kernel_rfl) (by kernel_rfl) (lits_di x hx) (lits_di y hy); rw [litsD_iff, <- hq] at hiff; have e : r = !q := by cases r <;> cases q <;> simp_all
  rw [e] at hr; have hr2 : (Op.equal 81 (.agg (diA x)) (.agg (diA y))).run Try.prog w = .ok (!q) w := hr; simp [binOp, hr2]
theorem Qsr (op : BinOp) (x y : Operand) (c d : Tx) (w : World) : (eqGuard op 42 x y (.agg (txA c)) (.agg (txA d))).run Try.prog w = .ok () w := run_eqGuard_agg (P := Try.prog) w op 42 x y (txA c) (txA d) (by kernel_rfl)
theorem Qys (op : BinOp) (x y : Operand) (c d : Di) (w : World) : (eqGuard op 81 x y (.agg (diA c)) (.agg (diA d))).run Try.prog w = .ok () w := run_eqGuard_agg (P := Try.prog) w op 81 x y (diA c) (diA d) (by kernel_rfl)
theorem Qja {α : Type} (xs : List α) (i : Nat) (z : α) (h : i < xs.length) : xs.getD i z ∈ xs := by
  rw [List.getD_eq_getElem?_getD, List.getElem?_eq_getElem h]; exact List.getElem_mem h
theorem Qlg {α : Type} {xs ys : List α} {z : α} (hl : xs.length = ys.length) (h : ∀ i, i < xs.length -> xs.getD i z = ys.getD i z) : xs = ys := by
  apply List.ext_getElem hl; intro i h1 h2; have := h i h1; rwa [List.getD_eq_getElem?_getD, List.getD_eq_getElem?_getD, List.getElem?_eq_getElem h1, List.getElem?_eq_getElem h2] at this
theorem Qff (y : World) (b k : Nat) (x : Tx) (h : y.rangeAt b k (txA x).toList) : (Instr.loadAt 42 (.pointer (some ⟨b, k, none⟩))).run Try.prog y = .ok (.agg (txA x)) y := by
  have h1 := run_loadAt_mid (P := Try.prog) y b k 42 (txA x).toList _ h Try.underlying42 rfl (by rw [Qno]; rfl); rwa [Array.toArray_toList] at h1
theorem Qrh (y : World) (b k : Nat) (x : Di) (h : y.rangeAt b k (diA x).toList) : (Instr.loadAt 81 (.pointer (some ⟨b, k, none⟩))).run Try.prog y = .ok (.agg (diA x)) y := by
  have h1 := run_loadAt_mid (P := Try.prog) y b k 81 (diA x).toList _ h Try.underlying81 rfl (by rw [Qpn]; rfl); rwa [Array.toArray_toList] at h1
theorem eqtx_at (va vb : Value) (xs ys : List Tx) (w : World) (q : Bool) (Hq : Hid (q = true ↔ xs = ys)) (hx : Qxb w va xs) (hy : Qxb w vb ys) (fx : ∀ x ∈ xs, x.fits) (fy : ∀ x ∈ ys, x.fits) (lx : xs.length <= maxLen) :
    Calls Try.prog 82 #[va, vb] w fun e w' => e = .returned (.bool q) /\ Below w.heap.size w w' := by
  have HX := Qb hx; have HY := Qb hy; have HFX := Qb fx; have HFY := Qb fy; have hml : maxLen = 9223372036854775807 := rfl; obtain ⟨a1, cap1, rfl, -⟩ := hx; obtain ⟨a2, cap2, rfl, -⟩ := hy; clear fx fy; have hb0 := Below.refl w.heap.size w; by_cases hl : xs.length = ys.length
  case neg =>
    obtain rfl : q = false := by
      cases q
      · rfl
      · exact absurd (congrArg List.length (Hq.out.1 rfl)) hl
    have i1 : ((xs.length : Int) == (ys.length : Int)) = false := by rw [beq_eq_false_iff_ne]; omega
    have i2 : ((xs.length : Int) != (ys.length : Int)) = true := by rw [bne, i1]; rfl
    clear Hq HX HY HFX HFY lx hml; generalize xs.length = n1 at *; generalize ys.length = n2 at *; go_enter Try.func82, Try.ntmps82; go_wp2; go_ret; exact ⟨rfl, hb0⟩
  have i1 : ((xs.length : Int) != (ys.length : Int)) = false := by rw [bne, hl, beq_self_eq_true]; rfl
  have i2 : ((xs.length : Int) == (ys.length : Int)) = true := by rw [hl]; exact beq_self_eq_true _
  have HL := Qb hl; clear hl; rw [<- HL.out] at i1 i2 |-; go_enter Try.func82, Try.ntmps82; go_wp2; go_loopw [13, 5] (fun v _ wr => ∃ j : Nat, j <= xs.length /\ v = .int .i64 j /\ Below w.heap.size w wr /\ ∀ i, i < j -> xs.getD i Tx.zero = ys.getD i Tx.zero) (fun v _ _ => xs.length - (intOf v).toNat)
  case atStart => exact ⟨0, Nat.zero_le _, rfl, Below.refl _ _, fun i hi => absurd hi (by omega)⟩
  case round =>
    obtain ⟨j, hj, rfl, hb, hat⟩ := hrel; have HAT := Qb hat; have HB := Qb hb; clear hat hb hb0
    by_cases hlt : j < xs.length
    · have jlt : (j : Int) < (xs.length : Int) := by omega
      obtain ⟨u1, k1, e1, hrow1⟩ := HX.out.below HB.out; obtain ⟨u2, k2, e2, hrow2⟩ := HY.out.below HB.out; rw [<- HL.out] at e2; cases e1; cases e2; obtain ⟨b1, off1, rfl, -, hc1⟩ := hrow1 (by omega); obtain ⟨b2, off2, rfl, -, hc2⟩ := hrow2 (by rw [<- HL.out]; omega); have HR1 := Qb (hc1 j hlt); have HR2 := Qb (hc2 j (by rw [<- HL.out]; exact hlt)); clear hrow1 hrow2 hc1 hc2; have HF1 := Qb (HFX.out _ (Qja xs j Tx.zero hlt)); have HF2 := Qb (HFY.out _ (Qja ys j Tx.zero (by rw [<- HL.out]; exact hlt))); obtain ⟨x, hx⟩ : ∃ x, x = xs.getD j Tx.zero := ⟨_, rfl⟩; obtain ⟨y, hy⟩ : ∃ y, y = ys.getD j Tx.zero := ⟨_, rfl⟩; have HXY : Hid (x = xs.getD j Tx.zero /\ y = ys.getD j Tx.zero) := ⟨hx, hy⟩; rw [<- hx] at HR1 HF1; rw [<- hy] at HR2 HF2; clear hx hy; have hc := Qb (Classical.em (x = y)); obtain ⟨p, hp⟩ : ∃ p : Bool, p = false ↔ x = y := ⟨!(@decide (x = y) (Classical.propDecidable _)), by simp⟩; have HP := Qb hp; clear hp; go_wp2_with fail; refine Qga (fun z => Below w.heap.size w z /\ z.rangeAt b1 (off1 + j * 5) (txA x).toList /\ z.rangeAt b2 (off2 + j * 5) (txA y).toList) (by kernel_rfl) (by kernel_rfl) ⟨⟨HB.out.1, HB.out.2, HB.out.3, HB.out.4, HB.out.5⟩, HR1.out, HR2.out⟩ ?_; clear HB HR1 HR2
      repeat (first
        | go_big_quiet_skip
        | (refine Qf rfl 42 (.tmp 18) rfl _ (.agg (txA x)) rfl (fun z hz => Qff z b1 _ x hz.2.1) ?_; simp only [Act.put, List.setIfInBounds_toArray, List.set])
        | (refine Qf rfl 42 (.tmp 22) rfl _ (.agg (txA y)) rfl (fun z hz => Qff z b2 _ y hz.2.2) ?_; simp only [Act.put, List.setIfInBounds_toArray, List.set])
        | (refine Qfd rfl .neq 42 _ (.tmp 19) (.tmp 23) rfl (.agg (txA x)) (.agg (txA y)) (.bool p) rfl rfl (fun z => Qsr .neq _ _ x y z) (fun z => Qxk x y HF1.out HF2.out p HP.out z) ?_; simp only [Act.put, List.setIfInBounds_toArray, List.set])
        | (refine Qw rfl (fun K hK => ?_); go_simp; refine hK _ ?_; clear hK K))
      refine wpQuiet_nil ?_; intro w3 h3; have H3 := Qb h3.1; clear h3
      cases p
      · have HE := Qb (HP.out.1 rfl); clear HP hc; go_wp2; go_roundw
        case rel => exact ⟨j + 1, by omega, by go_num, H3.out, Qxd HAT.out (by rw [<- HXY.out.1, <- HXY.out.2]; exact HE.out)⟩
        case measure => simp [intOf]; omega
      · obtain rfl : q = false := by
          cases q
          · rfl
          · have h1 := Hq.out.1 rfl; exact absurd (HP.out.2 (by rw [HXY.out.1, HXY.out.2, h1])) (by simp)
        have d3 := H3.out; clear Hq HP hc HXY HAT HX HY HFX HFY HF1 HF2 H3; go_wp2; go_ret; exact ⟨rfl, d3⟩
    · obtain rfl : j = xs.length := by omega
      obtain rfl : q = true := Hq.out.2 (Qlg (z := Tx.zero) HL.out HAT.out); have d3 := HB.out; clear Hq HAT HX HY HFX HFY HB; go_wp2; go_ret; exact ⟨rfl, d3⟩
theorem eqdi_at (va vb : Value) (xs ys : List Di) (w : World) (q : Bool) (Hq : Hid (q = true ↔ xs = ys)) (hx : Qxc w va xs) (hy : Qxc w vb ys) (fx : ∀ x ∈ xs, x.fits) (fy : ∀ x ∈ ys, x.fits) (lx : xs.length <= maxLen) :
    Calls Try.prog 83 #[va, vb] w fun e w' => e = .returned (.bool q) /\ Below w.heap.size w w' := by
  have HX := Qb hx; have HY := Qb hy; have HFX := Qb fx; have HFY := Qb fy; have hml : maxLen = 9223372036854775807 := rfl; obtain ⟨a1, cap1, rfl, -⟩ := hx; obtain ⟨a2, cap2, rfl, -⟩ := hy; clear fx fy; have hb0 := Below.refl w.heap.size w; by_cases hl : xs.length = ys.length
  case neg =>
    obtain rfl : q = false := by
      cases q
      · rfl
      · exact absurd (congrArg List.length (Hq.out.1 rfl)) hl
    have i1 : ((xs.length : Int) == (ys.length : Int)) = false := by rw [beq_eq_false_iff_ne]; omega
    have i2 : ((xs.length : Int) != (ys.length : Int)) = true := by rw [bne, i1]; rfl
    clear Hq HX HY HFX HFY lx hml; generalize xs.length = n1 at *; generalize ys.length = n2 at *; go_enter Try.func83, Try.ntmps83; go_wp2; go_ret; exact ⟨rfl, hb0⟩
  have i1 : ((xs.length : Int) != (ys.length : Int)) = false := by rw [bne, hl, beq_self_eq_true]; rfl
  have i2 : ((xs.length : Int) == (ys.length : Int)) = true := by rw [hl]; exact beq_self_eq_true _
  have HL := Qb hl; clear hl; rw [<- HL.out] at i1 i2 |-; go_enter Try.func83, Try.ntmps83; go_wp2; go_loopw [13, 5] (fun v _ wr => ∃ j : Nat, j <= xs.length /\ v = .int .i64 j /\ Below w.heap.size w wr /\ ∀ i, i < j -> xs.getD i Di.zero = ys.getD i Di.zero) (fun v _ _ => xs.length - (intOf v).toNat)
  case atStart => exact ⟨0, Nat.zero_le _, rfl, Below.refl _ _, fun i hi => absurd hi (by omega)⟩
  case round =>
    obtain ⟨j, hj, rfl, hb, hat⟩ := hrel; have HAT := Qb hat; have HB := Qb hb; clear hat hb hb0
    by_cases hlt : j < xs.length
    · have jlt : (j : Int) < (xs.length : Int) := by omega
      obtain ⟨u1, k1, e1, hrow1⟩ := HX.out.below HB.out; obtain ⟨u2, k2, e2, hrow2⟩ := HY.out.below HB.out; rw [<- HL.out] at e2; cases e1; cases e2; obtain ⟨b1, off1, rfl, -, hc1⟩ := hrow1 (by omega); obtain ⟨b2, off2, rfl, -, hc2⟩ := hrow2 (by rw [<- HL.out]; omega); have HR1 := Qb (hc1 j hlt); have HR2 := Qb (hc2 j (by rw [<- HL.out]; exact hlt)); clear hrow1 hrow2 hc1 hc2; have HF1 := Qb (HFX.out _ (Qja xs j Di.zero hlt)); have HF2 := Qb (HFY.out _ (Qja ys j Di.zero (by rw [<- HL.out]; exact hlt))); obtain ⟨x, hx⟩ : ∃ x, x = xs.getD j Di.zero := ⟨_, rfl⟩; obtain ⟨y, hy⟩ : ∃ y, y = ys.getD j Di.zero := ⟨_, rfl⟩; have HXY : Hid (x = xs.getD j Di.zero /\ y = ys.getD j Di.zero) := ⟨hx, hy⟩; rw [<- hx] at HR1 HF1; rw [<- hy] at HR2 HF2; clear hx hy; have hc := Qb (Classical.em (x = y)); obtain ⟨p, hp⟩ : ∃ p : Bool, p = false ↔ x = y := ⟨!(@decide (x = y) (Classical.propDecidable _)), by simp⟩; have HP := Qb hp; clear hp; go_wp2_with fail; refine Qga (fun z => Below w.heap.size w z /\ z.rangeAt b1 (off1 + j * 2) (diA x).toList /\ z.rangeAt b2 (off2 + j * 2) (diA y).toList) (by kernel_rfl) (by kernel_rfl) ⟨⟨HB.out.1, HB.out.2, HB.out.3, HB.out.4, HB.out.5⟩, HR1.out, HR2.out⟩ ?_; clear HB HR1 HR2
      repeat (first
        | go_big_quiet_skip
        | (refine Qf rfl 81 (.tmp 18) rfl _ (.agg (diA x)) rfl (fun z hz => Qrh z b1 _ x hz.2.1) ?_; simp only [Act.put, List.setIfInBounds_toArray, List.set])
        | (refine Qf rfl 81 (.tmp 22) rfl _ (.agg (diA y)) rfl (fun z hz => Qrh z b2 _ y hz.2.2) ?_; simp only [Act.put, List.setIfInBounds_toArray, List.set])
        | (refine Qfd rfl .neq 81 _ (.tmp 19) (.tmp 23) rfl (.agg (diA x)) (.agg (diA y)) (.bool p) rfl rfl (fun z => Qys .neq _ _ x y z) (fun z => Qhl x y HF1.out HF2.out p HP.out z) ?_; simp only [Act.put, List.setIfInBounds_toArray, List.set])
        | (refine Qw rfl (fun K hK => ?_); go_simp; refine hK _ ?_; clear hK K))
      refine wpQuiet_nil ?_; intro w3 h3; have H3 := Qb h3.1; clear h3
      cases p
      · have HE := Qb (HP.out.1 rfl); clear HP hc; go_wp2; go_roundw
        case rel => exact ⟨j + 1, by omega, by go_num, H3.out, Qxd HAT.out (by rw [<- HXY.out.1, <- HXY.out.2]; exact HE.out)⟩
        case measure => simp [intOf]; omega
      · obtain rfl : q = false := by
          cases q
          · rfl
          · have h1 := Hq.out.1 rfl; exact absurd (HP.out.2 (by rw [HXY.out.1, HXY.out.2, h1])) (by simp)
        have d3 := H3.out; clear Hq HP hc HXY HAT HX HY HFX HFY HF1 HF2 H3; go_wp2; go_ret; exact ⟨rfl, d3⟩
    · obtain rfl : j = xs.length := by omega
      obtain rfl : q = true := Hq.out.2 (Qlg (z := Di.zero) HL.out HAT.out); have d3 := HB.out; clear Hq HAT HX HY HFX HFY HB; go_wp2; go_ret; exact ⟨rfl, d3⟩
theorem Qrt (c : Ch) (w : World) (h1 : c.pg < 0) :
    Calls Try.prog 54 #[.agg (chA c)] w fun e w' => e = .returned (.bool false) /\ Below w.heap.size w w' := by
  have hb0 : Below w.heap.size w (w.alloc (.cells (chA c) 44)) := (Below.refl _ _).alloc (Nat.le_refl _) _; obtain ⟨a0, a1, a2, a3, a4⟩ := Qve.all (show Qve (w.alloc (.cells (chA c) 44)) w.heap.size c from heap_alloc_new w _); go_enter Try.func54, Try.ntmps54; generalize c.k = k at *; generalize c.pg = pg at *; generalize c.sl = sl at *; generalize c.o = o at *; generalize c.n = n at *; go_wp2; go_ret; exact ⟨rfl, hb0⟩
theorem Qiu (c : Ch) (w : World) (h1 : ¬ c.pg < 0) (h2 : 31 < c.pg) :
    Calls Try.prog 54 #[.agg (chA c)] w fun e w' => e = .returned (.bool false) /\ Below w.heap.size w w' := by
  have hb0 : Below w.heap.size w (w.alloc (.cells (chA c) 44)) := (Below.refl _ _).alloc (Nat.le_refl _) _; obtain ⟨a0, a1, a2, a3, a4⟩ := Qve.all (show Qve (w.alloc (.cells (chA c) 44)) w.heap.size c from heap_alloc_new w _); go_enter Try.func54, Try.ntmps54; generalize c.k = k at *; generalize c.pg = pg at *; generalize c.sl = sl at *; generalize c.o = o at *; generalize c.n = n at *; go_wp2; go_ret; exact ⟨rfl, hb0⟩
theorem Qcu (c : Ch) (w : World) (h1 : ¬ c.pg < 0) (h2 : ¬ 31 < c.pg) (h3 : c.sl < 0) :
    Calls Try.prog 54 #[.agg (chA c)] w fun e w' => e = .returned (.bool false) /\ Below w.heap.size w w' := by
  have hb0 : Below w.heap.size w (w.alloc (.cells (chA c) 44)) := (Below.refl _ _).alloc (Nat.le_refl _) _; obtain ⟨a0, a1, a2, a3, a4⟩ := Qve.all (show Qve (w.alloc (.cells (chA c) 44)) w.heap.size c from heap_alloc_new w _); go_enter Try.func54, Try.ntmps54; generalize c.k = k at *; generalize c.pg = pg at *; generalize c.sl = sl at *; generalize c.o = o at *; generalize c.n = n at *; go_wp2; go_ret; exact ⟨rfl, hb0⟩
theorem Qvt (c : Ch) (w : World) (h1 : ¬ c.pg < 0) (h2 : ¬ 31 < c.pg) (h3 : ¬ c.sl < 0) (h4 : 7 < c.sl) :
    Calls Try.prog 54 #[.agg (chA c)] w fun e w' => e = .returned (.bool false) /\ Below w.heap.size w w' := by
  have hb0 : Below w.heap.size w (w.alloc (.cells (chA c) 44)) := (Below.refl _ _).alloc (Nat.le_refl _) _; obtain ⟨a0, a1, a2, a3, a4⟩ := Qve.all (show Qve (w.alloc (.cells (chA c) 44)) w.heap.size c from heap_alloc_new w _); go_enter Try.func54, Try.ntmps54; generalize c.k = k at *; generalize c.pg = pg at *; generalize c.sl = sl at *; generalize c.o = o at *; generalize c.n = n at *; go_wp2; go_ret; exact ⟨rfl, hb0⟩
theorem Qjt (c : Ch) (w : World) (h1 : ¬ c.pg < 0) (h2 : ¬ 31 < c.pg) (h3 : ¬ c.sl < 0) (h4 : ¬ 7 < c.sl) (h5 : 20 < (c.o.size : Int)) :
    Calls Try.prog 54 #[.agg (chA c)] w fun e w' => e = .returned (.bool false) /\ Below w.heap.size w w' := by
  have hb0 : Below w.heap.size w (w.alloc (.cells (chA c) 44)) := (Below.refl _ _).alloc (Nat.le_refl _) _; obtain ⟨a0, a1, a2, a3, a4⟩ := Qve.all (show Qve (w.alloc (.cells (chA c) 44)) w.heap.size c from heap_alloc_new w _); go_enter Try.func54, Try.ntmps54; generalize c.k = k at *; generalize c.pg = pg at *; generalize c.sl = sl at *; generalize c.o = o at *; generalize c.n = n at *; go_wp2; go_ret; exact ⟨rfl, hb0⟩
theorem Qou (c : Ch) (w : World) (h1 : ¬ c.pg < 0) (h2 : ¬ 31 < c.pg) (h3 : ¬ c.sl < 0) (h4 : ¬ 7 < c.sl) (h5 : ¬ 20 < (c.o.size : Int)) (h6 : 20 < (c.n.size : Int)) :
    Calls Try.prog 54 #[.agg (chA c)] w fun e w' => e = .returned (.bool false) /\ Below w.heap.size w w' := by
  have hb0 : Below w.heap.size w (w.alloc (.cells (chA c) 44)) := (Below.refl _ _).alloc (Nat.le_refl _) _; obtain ⟨a0, a1, a2, a3, a4⟩ := Qve.all (show Qve (w.alloc (.cells (chA c) 44)) w.heap.size c from heap_alloc_new w _); go_enter Try.func54, Try.ntmps54; generalize c.k = k at *; generalize c.pg = pg at *; generalize c.sl = sl at *; generalize c.o = o at *; generalize c.n = n at *; go_wp2; go_ret; exact ⟨rfl, hb0⟩
theorem Qmr (c : Ch) (w : World) (h1 : ¬ c.pg < 0) (h2 : ¬ 31 < c.pg) (h3 : ¬ c.sl < 0) (h4 : ¬ 7 < c.sl) (h5 : ¬ 20 < (c.o.size : Int)) (h6 : ¬ 20 < (c.n.size : Int)) (hk : c.k = 1) (he : c.o.toList.isEmpty = true) :
    Calls Try.prog 54 #[.agg (chA c)] w fun e w' => e = .returned (.bool true) /\ Below w.heap.size w w' := by
  have hb0 : Below w.heap.size w (w.alloc (.cells (chA c) 44)) := (Below.refl _ _).alloc (Nat.le_refl _) _; obtain ⟨a0, a1, a2, a3, a4⟩ := Qve.all (show Qve (w.alloc (.cells (chA c) 44)) w.heap.size c from heap_alloc_new w _); rw [hk] at a0; clear hk; go_enter Try.func54, Try.ntmps54; generalize c.k = k at *; generalize c.pg = pg at *; generalize c.sl = sl at *; generalize c.o = o at *; generalize c.n = n at *; go_wp2; go_ret; exact ⟨rfl, hb0⟩
theorem Qcr (c : Ch) (w : World) (h1 : ¬ c.pg < 0) (h2 : ¬ 31 < c.pg) (h3 : ¬ c.sl < 0) (h4 : ¬ 7 < c.sl) (h5 : ¬ 20 < (c.o.size : Int)) (h6 : ¬ 20 < (c.n.size : Int)) (hk : c.k = 1) (he : c.o.toList.isEmpty = false) :
    Calls Try.prog 54 #[.agg (chA c)] w fun e w' => e = .returned (.bool false) /\ Below w.heap.size w w' := by
  have hb0 : Below w.heap.size w (w.alloc (.cells (chA c) 44)) := (Below.refl _ _).alloc (Nat.le_refl _) _; obtain ⟨a0, a1, a2, a3, a4⟩ := Qve.all (show Qve (w.alloc (.cells (chA c) 44)) w.heap.size c from heap_alloc_new w _); rw [hk] at a0; clear hk; go_enter Try.func54, Try.ntmps54; generalize c.k = k at *; generalize c.pg = pg at *; generalize c.sl = sl at *; generalize c.o = o at *; generalize c.n = n at *; go_wp2; go_ret; exact ⟨rfl, hb0⟩
theorem Qht (c : Ch) (w : World) (h1 : ¬ c.pg < 0) (h2 : ¬ 31 < c.pg) (h3 : ¬ c.sl < 0) (h4 : ¬ 7 < c.sl) (h5 : ¬ 20 < (c.o.size : Int)) (h6 : ¬ 20 < (c.n.size : Int)) (hk : c.k = 2) :
    Calls Try.prog 54 #[.agg (chA c)] w fun e w' => e = .returned (.bool true) /\ Below w.heap.size w w' := by
  have hb0 : Below w.heap.size w (w.alloc (.cells (chA c) 44)) := (Below.refl _ _).alloc (Nat.le_refl _) _; obtain ⟨a0, a1, a2, a3, a4⟩ := Qve.all (show Qve (w.alloc (.cells (chA c) 44)) w.heap.size c from heap_alloc_new w _); rw [hk] at a0; clear hk; go_enter Try.func54, Try.ntmps54; generalize c.k = k at *; generalize c.pg = pg at *; generalize c.sl = sl at *; generalize c.o = o at *; generalize c.n = n at *; go_wp2; go_ret; exact ⟨rfl, hb0⟩
theorem Qor (c : Ch) (w : World) (h1 : ¬ c.pg < 0) (h2 : ¬ 31 < c.pg) (h3 : ¬ c.sl < 0) (h4 : ¬ 7 < c.sl) (h5 : ¬ 20 < (c.o.size : Int)) (h6 : ¬ 20 < (c.n.size : Int)) (hk : c.k = 3) (he : c.n.toList.isEmpty = true) :
    Calls Try.prog 54 #[.agg (chA c)] w fun e w' => e = .returned (.bool true) /\ Below w.heap.size w w' := by
  have hb0 : Below w.heap.size w (w.alloc (.cells (chA c) 44)) := (Below.refl _ _).alloc (Nat.le_refl _) _; obtain ⟨a0, a1, a2, a3, a4⟩ := Qve.all (show Qve (w.alloc (.cells (chA c) 44)) w.heap.size c from heap_alloc_new w _); rw [hk] at a0; clear hk; go_enter Try.func54, Try.ntmps54; generalize c.k = k at *; generalize c.pg = pg at *; generalize c.sl = sl at *; generalize c.o = o at *; generalize c.n = n at *; go_wp2; go_ret; exact ⟨rfl, hb0⟩
theorem Qsq (c : Ch) (w : World) (h1 : ¬ c.pg < 0) (h2 : ¬ 31 < c.pg) (h3 : ¬ c.sl < 0) (h4 : ¬ 7 < c.sl) (h5 : ¬ 20 < (c.o.size : Int)) (h6 : ¬ 20 < (c.n.size : Int)) (hk : c.k = 3) (he : c.n.toList.isEmpty = false) :
    Calls Try.prog 54 #[.agg (chA c)] w fun e w' => e = .returned (.bool false) /\ Below w.heap.size w w' := by
  have hb0 : Below w.heap.size w (w.alloc (.cells (chA c) 44)) := (Below.refl _ _).alloc (Nat.le_refl _) _; obtain ⟨a0, a1, a2, a3, a4⟩ := Qve.all (show Qve (w.alloc (.cells (chA c) 44)) w.heap.size c from heap_alloc_new w _); rw [hk] at a0; clear hk; go_enter Try.func54, Try.ntmps54; generalize c.k = k at *; generalize c.pg = pg at *; generalize c.sl = sl at *; generalize c.o = o at *; generalize c.n = n at *; go_wp2; go_ret; exact ⟨rfl, hb0⟩
theorem Qeu (c : Ch) (w : World) (h1 : ¬ c.pg < 0) (h2 : ¬ 31 < c.pg) (h3 : ¬ c.sl < 0) (h4 : ¬ 7 < c.sl) (h5 : ¬ 20 < (c.o.size : Int)) (h6 : ¬ 20 < (c.n.size : Int)) (hk1 : (c.k == 1) = false) (hk2 : (c.k == 2) = false) (hk3 : (c.k == 3) = false) :
    Calls Try.prog 54 #[.agg (chA c)] w fun e w' => e = .returned (.bool false) /\ Below w.heap.size w w' := by
  have hb0 : Below w.heap.size w (w.alloc (.cells (chA c) 44)) := (Below.refl _ _).alloc (Nat.le_refl _) _; obtain ⟨a0, a1, a2, a3, a4⟩ := Qve.all (show Qve (w.alloc (.cells (chA c) 44)) w.heap.size c from heap_alloc_new w _); go_enter Try.func54, Try.ntmps54; generalize c.k = k at *; generalize c.pg = pg at *; generalize c.sl = sl at *; generalize c.o = o at *; generalize c.n = n at *; go_wp2; go_ret; exact ⟨rfl, hb0⟩
theorem Qzp (c : Ch) (w : World) :
    Calls Try.prog 54 #[.agg (chA c)] w fun e w' => e = .returned (.bool (decide c.right)) /\ Below w.heap.size w w' := by
  by_cases h1 : c.pg < 0
  · rw [decide_eq_false (fun h => by have := h.1; omega)]; exact Qrt c w h1
  by_cases h2 : 31 < c.pg
  · rw [decide_eq_false (fun h => by have := h.1; omega)]; exact Qiu c w h1 h2
  by_cases h3 : c.sl < 0
  · rw [decide_eq_false (fun h => by have := h.1; omega)]; exact Qcu c w h1 h2 h3
  by_cases h4 : 7 < c.sl
  · rw [decide_eq_false (fun h => by have := h.1; omega)]; exact Qvt c w h1 h2 h3 h4
  by_cases h5 : 20 < (c.o.size : Int)
  · rw [decide_eq_false (fun h => by have := h.1; omega)]; exact Qjt c w h1 h2 h3 h4 h5
  by_cases h6 : 20 < (c.n.size : Int)
  · rw [decide_eq_false (fun h => by have := h.1; omega)]; exact Qou c w h1 h2 h3 h4 h5 h6
  have hr : c.kindOk -> c.right := fun h => ⟨⟨by omega, by omega, by omega, by omega, by omega, by omega⟩, h⟩
  by_cases k1 : c.k = 1
  · by_cases he : c.o.toList.isEmpty = true
    · rw [decide_eq_true (hr (.inl ⟨k1, (Qkd _).1 he⟩))]; exact Qmr c w h1 h2 h3 h4 h5 h6 k1 he
    · rw [decide_eq_false (fun h => by
        rcases h.2 with h | h | h
        · exact he ((Qkd _).2 h.2)
        · omega
        · omega)]
      exact Qcr c w h1 h2 h3 h4 h5 h6 k1 (by simpa using he)
  by_cases k2 : c.k = 2
  · rw [decide_eq_true (hr (.inr (.inl k2)))]; exact Qht c w h1 h2 h3 h4 h5 h6 k2
  by_cases k3 : c.k = 3
  · by_cases he : c.n.toList.isEmpty = true
    · rw [decide_eq_true (hr (.inr (.inr ⟨k3, (Qkd _).1 he⟩)))]; exact Qor c w h1 h2 h3 h4 h5 h6 k3 he
    · rw [decide_eq_false (fun h => by
        rcases h.2 with h | h | h
        · omega
        · omega
        · exact he ((Qkd _).2 h.2))]
      exact Qsq c w h1 h2 h3 h4 h5 h6 k3 (by simpa using he)
  rw [decide_eq_false (fun h => by rcases h.2 with h | h | h <;> omega)]; exact Qeu c w h1 h2 h3 h4 h5 h6 (by simpa using k1) (by simpa using k2) (by simpa using k3)
theorem Qrj : Ch.zero.fits := ⟨by decide, by decide, by decide, by show (0 : Nat) <= maxLen; omega, by show (0 : Nat) <= maxLen; omega⟩
theorem Qtf (c : Ch) (w : World) (r : Bool) (Hr : Hid (decide c.right = r)) :
    Calls Try.prog 54 #[.agg (chA c)] w fun e w' => e = .returned (.bool r) /\ Below w.heap.size w w' := by
  rw [<- Hr.out]; exact Qzp c w
theorem Qsc : (⟨#[]⟩ : ByteArray).toList = [] := by
  rw [ByteArray.toList_eq]
theorem Qqo (s : ByteArray) (h : s.toList = []) : s = ⟨#[]⟩ := size0 s ((Qkd s).1 (by rw [h]; rfl))
theorem Qim (c : Ch) (f1 : c.k = 0) (f2 : c.pg = 0) (f3 : c.sl = 0) (f4 : c.o.toList = []) (f5 : c.n.toList = []) : c = Ch.zero := by
  obtain ⟨k, pg, sl, o, n⟩ := c; simp only at f1 f2 f3 f4 f5; rw [f1, f2, f3, Qqo o f4, Qqo n f5]; rfl
theorem Qo {x : World} {g : Nat} {r : Rec} {va vb : Value} (h : Qa x g 46 (rcA r va vb)) :
    x.cell? ⟨g, 0, none⟩ = some (.int .i64 r.k) /\ x.cell? ⟨g, 1, none⟩ = some (.int .u64 (r.l : Int)) /\ x.cell? ⟨g, 2, none⟩ = some (.int .i64 r.t) /\ x.cell? ⟨g, 3, none⟩ = some (.int .u64 (r.p : Int)) /\ x.cell? ⟨g, 9, none⟩ = some (.int .u64 (r.n : Int)) /\ x.cell? ⟨g, 10, none⟩ = some (.int .i64 r.s) /\ x.cell? ⟨g, 11, none⟩ = some (.int .u64 (r.b : Int)) /\ x.cell? ⟨g, 12, none⟩ = some va /\ x.cell? ⟨g, 13, none⟩ = some vb :=
  ⟨h.cell 0 _ rfl, h.cell 1 _ rfl, h.cell 2 _ rfl, h.cell 3 _ rfl, h.cell 9 _ rfl, h.cell 10 _ rfl, h.cell 11 _ rfl, h.cell 12 _ rfl, h.cell 13 _ rfl⟩
theorem Qwd {x : World} {g : Nat} {r : Rec} {va vb : Value} (h : Qa x g 46 (rcA r va vb)) :
    x.cell? ⟨g, 4, none⟩ = some (.int .i64 r.c.k) /\ x.cell? ⟨g, 5, none⟩ = some (.int .i64 r.c.pg) /\ x.cell? ⟨g, 6, none⟩ = some (.int .i64 r.c.sl) /\ x.cell? ⟨g, 7, none⟩ = some (.string r.c.o) /\ x.cell? ⟨g, 8, none⟩ = some (.string r.c.n) :=
  ⟨h.cell 4 _ rfl, h.cell 5 _ rfl, h.cell 6 _ rfl, h.cell 7 _ rfl, h.cell 8 _ rfl⟩
theorem rc_change {x : World} {g : Nat} {r : Rec} {va vb : Value} (h : Qa x g 46 (rcA r va vb)) : x.rangeAt g 4 (chA r.c).toList := by
  intro j v hv; have hj : j < 5 := (List.getElem?_eq_some_iff.1 hv).1; refine h.cell (4 + j) v ?_; rw [<- hv, Array.getElem?_toList]
  match j, hj with
  | 0, _ => rfl
  | 1, _ => rfl
  | 2, _ => rfl
  | 3, _ => rfl
  | 4, _ => rfl
theorem Qik (k : Int) (w : World) (q : Bool) (Hq : Hid (decide (1 <= k /\ k <= 6) = q)) :
    Calls Try.prog 53 #[.int .i64 k] w fun e w' => e = .returned (.bool q) /\ w = w' := by
  by_cases h1 : 1 <= k
  · by_cases h2 : k <= 6
    · obtain rfl : q = true := by rw [<- Hq.out]; exact decide_eq_true ⟨h1, h2⟩
      clear Hq; go_enter Try.func53, Try.ntmps53; go_wp2; go_ret; exact ⟨rfl, rfl⟩
    · obtain rfl : q = false := by rw [<- Hq.out]; exact decide_eq_false (by omega)
      clear Hq; go_enter Try.func53, Try.ntmps53; go_wp2; go_ret; exact ⟨rfl, rfl⟩
  · obtain rfl : q = false := by rw [<- Hq.out]; exact decide_eq_false (by omega)
    clear Hq; go_enter Try.func53, Try.ntmps53; go_wp2; go_ret; exact ⟨rfl, rfl⟩
end Go.Proofs.Ytkgniegdefaieaa
