/-
  Texts that lean on one another, one behind the other: each opens with its own remark.
-/
import Derived.WalkKit
import Derived.Laws.CopyOwn
import Derived.Lib.ConvBytes
import Derived.Laws.IdiomStrings
import Derived.Laws.BytesArg
import Derived.Lib.AppendStr
import Derived.WalkSpells
import Derived.Laws.OwnMore
import Derived.Laws.ResultCell
import Derived.Laws.Tables
import Derived.Deep.Draws
import Derived.Test.YtohdmmfmjadipaaProg
import Derived.Deep.MidRow
import Derived.DeepKeys
import Derived.Laws.StructEq
import Derived.Deep.QuietTactic
import Derived.BigQuiet
import Derived.OpenShut

namespace Go.Proofs.Ytohdmmfmjadipaa
open Go.RowKit
set_option linter.unusedVariables false
set_option maxRecDepth 8000
set_option maxHeartbeats 25600000
theorem Qd {p : Prop} (h : p) : Hid p := h
def be (bs : List UInt8) : Nat := bs.foldl (fun n b => n * 256 + b.toNat) 0
theorem be_nil : be [] = 0 := rfl
theorem be_snoc (bs : List UInt8) (b : UInt8) : be (bs ++ [b]) = be bs * 256 + b.toNat := by
  simp [be, List.foldl_append]
theorem Qwr : ∀ (bs : List UInt8) (n k : Nat), n < 256 ^ k -> bs.foldl (fun n b => n * 256 + b.toNat) n < 256 ^ (k + bs.length)
  | [], n, k, h => by simpa using h
  | b :: bs, n, k, h => by
    have hb : b.toNat < 256 := b.toNat_lt; have h2 : n * 256 + b.toNat < 256 ^ (k + 1) := by rw [Nat.pow_succ]; omega
    have h3 := Qwr bs (n * 256 + b.toNat) (k + 1) h2; simp only [List.foldl_cons, List.length_cons]; have e : k + (bs.length + 1) = k + 1 + bs.length := by omega
    rw [e]; exact h3
theorem Qau (bs : List UInt8) : be bs < 256 ^ bs.length := by
  have h := Qwr bs 0 0 (by simp); rw [Nat.zero_add] at h; exact h
theorem Qgp (bs : List UInt8) (k : Nat) (h : k < bs.length) : be (bs.take (k + 1)) = be (bs.take k) * 256 + (bs.getD k 0).toNat := by
  rw [List.take_succ_eq_append_getElem h, be_snoc]; simp [List.getD, List.getElem?_eq_getElem h]
theorem pow256_le (k : Nat) (h : k <= 8) : 256 ^ k <= 18446744073709551616 := by
  have h2 : 256 ^ k <= 256 ^ 8 := Nat.pow_le_pow_right (by omega) h; have h3 : 256 ^ 8 = 18446744073709551616 := by decide
  omega
theorem pow256_le7 (k : Nat) (h : k <= 7) : 256 ^ k <= 72057594037927936 := by
  have h2 : 256 ^ k <= 256 ^ 7 := Nat.pow_le_pow_right (by omega) h; have h3 : 256 ^ 7 = 72057594037927936 := by decide
  omega
theorem Qgq (bs : List UInt8) (k : Nat) (h : k < 8) : be (bs.take k) < 72057594037927936 := by
  have h1 := Qau (bs.take k); have h2 : 256 ^ (bs.take k).length <= 256 ^ 7 := Nat.pow_le_pow_right (by omega) (by simp; omega); have h3 : 256 ^ 7 = 72057594037927936 := by decide
  omega
theorem Qeu (bs : List UInt8) (k : Nat) (h : k <= 8) : be (bs.take k) < 18446744073709551616 := by
  have h1 := Qau (bs.take k); have h2 : 256 ^ (bs.take k).length <= 256 ^ 8 := Nat.pow_le_pow_right (by omega) (by simp; omega); have h3 : 256 ^ 8 = 18446744073709551616 := by decide
  omega
def beAt (bs : List UInt8) (p k : Nat) : Nat := be ((bs.drop p).take k)
theorem beAt_zero (bs : List UInt8) (p : Nat) : beAt bs p 0 = 0 := by simp [beAt, be_nil]
theorem Qbp (bs : List UInt8) (p k : Nat) (h : p + k < bs.length) : beAt bs p (k + 1) = beAt bs p k * 256 + (bs.getD (p + k) 0).toNat := by
  unfold beAt; rw [Qgp _ _ (by simp; omega)]; simp [List.getD]
theorem Qys (bs : List UInt8) (p k : Nat) (h : k < 8) : beAt bs p k < 72057594037927936 := Qgq _ _ h
theorem beAt_lt (bs : List UInt8) (p k : Nat) (h : k <= 8) : beAt bs p k < 18446744073709551616 := Qeu _ _ h
theorem shl_or (n b : Nat) (hn : n < 72057594037927936) (hb : b < 256) : bits .or .u64 ((n : Int) * 256) (b : Int) = ((n * 256 + b : Nat) : Int) := by
  have e : ((n : Int) * 256) = ((n * 256 : Nat) : Int) := by omega
  rw [e, u64_or_nat (n * 256) b (by omega) (by omega), nat_join 8 (n * 256) b (by omega) (by omega)]
theorem take_step (bs : List UInt8) (p j : Nat) (hj : j < 8) (h : p + j < bs.length) :
    bits .or .u64 ((beAt bs p j : Nat) * 256 : Int) (IntKind.u64.wrap ((bs[p + j]?.getD 0).toNat : Int)) = ((beAt bs p (j + 1) : Nat) : Int) := by
  have hb : (bs[p + j]?.getD 0).toNat < 256 := (bs[p + j]?.getD 0).toNat_lt; have e : IntKind.u64.wrap ((bs[p + j]?.getD 0).toNat : Int) = ((bs[p + j]?.getD 0).toNat : Int) := by rw [IntKind.wrap_u64]; omega
  rw [e, shl_or _ _ (Qys bs p j hj) hb, Qbp bs p j h]; simp [List.getD]
theorem Qzs (s : ByteArray) (i : Nat) (h : i < s.size) : s.data.toList.getD i 0 = s[i] := by
  have h2 : i < s.data.toList.length := by simpa using h
  rw [List.getD, List.getElem?_eq_getElem h2]; rfl
theorem rtake_step (s : ByteArray) (p j : Nat) (hj : j < 8) (h : p + j < s.size) :
    IntKind.u64.wrap ((beAt s.data.toList p j : Nat) * 256 + IntKind.u64.wrap (s[p + j].toNat : Int)) = ((beAt s.data.toList p (j + 1) : Nat) : Int) := by
  have hb : s[p + j].toNat < 256 := s[p + j].toNat_lt; have hn := Qys s.data.toList p j hj; rw [Qbp s.data.toList p j (by simpa using h), Qzs s (p + j) h, IntKind.wrap_u64, IntKind.wrap_u64]; omega
theorem shr_zero (n k : Nat) : ((n : Int) / 2 ^ (8 * k) == 0) = decide (n < 256 ^ k) := by
  have e : (2 : Int) ^ (8 * k) = ((256 ^ k : Nat) : Int) := by
    rw [Int.pow_mul]; simp
  rw [e]; have hp : 0 < 256 ^ k := Nat.pow_pos (by omega); rw [Bool.eq_iff_iff]; simp only [beq_iff_eq, decide_eq_true_eq]
  constructor
  · intro h; have h2 : ((n / 256 ^ k : Nat) : Int) = 0 := by rw [Int.natCast_ediv]; exact h
    have h3 : n / 256 ^ k = 0 := by omega
    exact (Nat.div_eq_zero_iff_lt hp).1 h3
  · intro h; have h3 : n / 256 ^ k = 0 := (Nat.div_eq_zero_iff_lt hp).2 h; have h2 : ((n / 256 ^ k : Nat) : Int) = 0 := by omega
    rw [Int.natCast_ediv] at h2; exact h2
theorem byte_at (n m : Nat) : (n : Int) / 2 ^ (8 * m) % 256 = ((UInt8.ofNat (n / 256 ^ m)).toNat : Int) := by
  have e : (2 : Int) ^ (8 * m) = ((256 ^ m : Nat) : Int) := by
    rw [Int.pow_mul]; simp
  rw [e, <- Int.natCast_ediv]; simp
def IsB (w : World) (a : Option Addr) (len : Nat) (bs : List UInt8) : Prop :=
  bs.length = len /\ (0 < len -> ∃ b off, a = some ⟨b, off, none⟩ /\ b < w.heap.size /\ ∀ j, j < len -> w.cell? ⟨b, off + j, none⟩ = some (.int .u8 ((bs.getD j 0).toNat : Int)))
theorem IsB.below {w w' : World} {a : Option Addr} {len : Nat} {bs : List UInt8} (h : IsB w a len bs) (hb : Below w.heap.size w w') : IsB w' a len bs := by
  refine ⟨h.1, fun hp => ?_⟩; obtain ⟨b, off, ha, hlt, hc⟩ := h.2 hp; exact ⟨b, off, ha, Nat.lt_of_lt_of_le hlt hb.size, fun j hj => (hb.cell (p := ⟨b, off + j, none⟩) hlt).trans (hc j hj)⟩
theorem IsB.later {w w' : World} {a : Option Addr} {len B : Nat} {bs : List UInt8} (h : IsB w a len bs) (hb : Below B w w') (ha : ∀ b off, a = some ⟨b, off, none⟩ -> b < B) : IsB w' a len bs := by
  refine ⟨h.1, fun hp => ?_⟩; obtain ⟨b, off, hab, hlt, hc⟩ := h.2 hp; exact ⟨b, off, hab, Nat.lt_of_lt_of_le hlt hb.size, fun j hj => (hb.cell (p := ⟨b, off + j, none⟩) (ha b off hab)).trans (hc j hj)⟩
theorem IsB.nil (w : World) : IsB w none 0 [] := ⟨rfl, fun h => absurd h (by omega)⟩
def toV (bs : List UInt8) : List Value := bs.map fun b => Value.int .u8 (b.toNat : Int)
theorem Qn (bs : List UInt8) : (toV bs).length = bs.length := by simp [toV]
theorem Quc (a b : List UInt8) : toV (a ++ b) = toV a ++ toV b := by simp [toV]
theorem toV_one (bs : List UInt8) : ∀ v ∈ toV bs, v.oneCell' = true := by
  intro v hv; obtain ⟨b, _, rfl⟩ := List.mem_map.1 hv; rfl
theorem Qkg (bs : List UInt8) (j : Nat) (h : j < bs.length) : (toV bs)[j]? = some (.int .u8 ((bs.getD j 0).toNat : Int)) := by
  simp [toV, List.getD, List.getElem?_eq_getElem h]
theorem toV_some (bs : List UInt8) (j : Nat) (v : Value) (h : (toV bs)[j]? = some v) : j < bs.length /\ v = .int .u8 ((bs.getD j 0).toNat : Int) := by
  have hj : j < bs.length := by
    have := (List.getElem?_eq_some_iff.1 h).1; rwa [Qn] at this
  rw [Qkg bs j hj] at h; exact ⟨hj, (Option.some.inj h).symm⟩
theorem IsB.cells {w : World} {a : Option Addr} {len : Nat} {bs : List UInt8} (h : IsB w a len bs) (hp : 0 < bs.length) : ∃ ad, a = some ad /\ ad.block < w.heap.size /\ ∀ j v, (toV bs)[j]? = some v -> w.cell? (ad.add j) = some v := by
  obtain ⟨b, off, ha, hlt, hc⟩ := h.2 (by have := h.1; omega); refine ⟨_, ha, hlt, fun j v hv => ?_⟩; obtain ⟨hj, rfl⟩ := toV_some bs j v hv; rw [Addr.add_lit]; exact hc j (by have := h.1; omega)
def Qml (n : Nat) : List Value := List.replicate n (.int .u8 0)
theorem Qdc (n : Nat) : (Qml n).length = n := by simp [Qml]
theorem run_mk {P : Program} (t e : TypeId) (ht : P.underlying t = some (.slice e)) (hinfo : (P.info? e).map (fun i => (i.zero, i.size, i.bytes)) = some (some (.int .u8 0), 1, 1)) (l m : Nat) (h : l + m <= 281474976710656) (w : World) :
    (Instr.makeSlice t (.int .i64 (l : Int)) (.int .i64 ((l : Int) + (m : Int)))).run P w = .ok (.slice (some ⟨w.heap.size, 0, none⟩) l (l + m)) (w.alloc (.cells (Qml (l + m)).toArray e)) := by
  obtain ⟨i, hi, hz, hs, hb⟩ := info_parts hinfo; have hr := run_make (P := P) w t e i (.int .u8 0) ht hi hz .i64 .i64 (l : Int) ((l : Int) + (m : Int)) (by omega) (by omega) (by rw [hb]; omega) (by omega); have e1 : ((l : Int) + (m : Int)).toNat = l + m := by omega
  have e2 : (Value.int .u8 0).cells = #[.int .u8 0] := rfl; rw [hr, e1, hs, Nat.mul_one, e2]
  have e3 : madeCells #[Value.int .u8 0] (l + m) = (Qml (l + m)).toArray := by
    apply Array.ext'; rw [toList_madeCells_one]; rfl
  rw [e3]; rfl
theorem Qer (L cs : List Value) : splice L 0 cs = cs ++ L.drop cs.length := by simp [splice]
theorem owns_spliced {w : World} {base g len m : Nat} {e : TypeId} {bs : List UInt8} (hb : bs.length = len) (hbase : base <= g) (hm : len + m <= 281474976710656)
    (h : w.heap[g]? = some (.cells (splice (Qml (len + m)) 0 (toV bs)).toArray e (0, 0))) : w.ownsRow base e 1 (.slice (some ⟨g, 0, none⟩) len (len + m)) len (toV bs) := by
  refine ⟨by rw [Qn]; omega, .inr ⟨g, len + m, _, rfl, hbase, h, by omega, by unfold maxLen; omega, ?_, ?_⟩⟩
  · rw [List.size_toArray, length_splice _ _ _ (by rw [Qn, Qdc]; omega), Qdc]; omega
  · rw [Qer, Nat.mul_one]; exact List.take_left' (by rw [Qn]; omega)
theorem IsB.hpos {w : World} {a : Option Addr} {len : Nat} {bs : List UInt8} (hB : IsB w a len bs) (o : Obj) (x : Option Addr) : 0 < (toV bs).length -> x = x /\ ∃ ad, a = some ad /\ ∀ j v, (toV bs)[j]? = some v -> (w.alloc o).cell? (ad.add j) = some v := by
  intro hp; rw [Qn] at hp; obtain ⟨ad, ha, _, hc⟩ := hB.cells hp; refine ⟨rfl, ad, ha, fun j v hv => ?_⟩; have hx := hc j v hv; exact ((((Below.refl w.heap.size w).alloc (Nat.le_refl _) _).cell (p := ad.add j) (World.block_lt_of_cell? w _ hx))).trans hx
def beB (k n : Nat) : List UInt8 := (List.range k).map fun i => UInt8.ofNat (n / 256 ^ (k - 1 - i))
theorem Qz (k n : Nat) : (beB k n).length = k := by simp [beB]
theorem beB_take (k n j : Nat) (h : j < k) : (beB k n).take (j + 1) = (beB k n).take j ++ [UInt8.ofNat (n / 256 ^ (k - 1 - j))] := by
  rw [List.take_succ_eq_append_getElem (by rw [Qz]; exact h)]; simp [beB]
theorem put_row {w : World} {base g len j cap : Nat} {e : TypeId} {bs t t' : List UInt8} {x : UInt8} (h : w.ownsRow base e 1 (.slice (some ⟨g, 0, none⟩) (len + j + 1) cap) (len + j + 1) (toV (bs ++ t) ++ [.int .u8 (x.toNat : Int)])) (ht : t' = t ++ [x]) :
    w.ownsRow base e 1 (.slice (some ⟨g, 0, none⟩) (len + (j + 1)) cap) (len + (j + 1)) (toV (bs ++ t')) := by
  subst ht; have e1 : toV (bs ++ (t ++ [x])) = toV (bs ++ t) ++ [.int .u8 (x.toNat : Int)] := by simp [toV]
  rw [e1]; exact h
theorem isB_conv (w : World) (e : TypeId) (s : ByteArray) : IsB (Lib.bytesWorld w e s) (some ⟨w.heap.size, 0, none⟩) s.size s.data.toList := by
  refine ⟨by simp, fun _ => ⟨w.heap.size, 0, rfl, by rw [Lib.bytesWorld_size]; omega, fun j hj => ?_⟩⟩; rw [Nat.zero_add, Lib.bytesWorld_cell w e s j hj]
theorem below_conv (w : World) (e : TypeId) (s : ByteArray) : Below w.heap.size w (Lib.bytesWorld w e s) :=
  ⟨rfl, rfl, rfl, by rw [Lib.bytesWorld_size]; omega, fun k hk => Lib.bytesWorld_at_old w e s k hk⟩
theorem Qro {P : Program} (w : World) (src dst e : TypeId) (hs : P.underlying src = some (.slice e)) (he : P.underlying e = some (.int .u8)) (hd : P.underlying dst = some .string)
    (a : Option Addr) (len cap : Nat) (bs : List UInt8) (h : IsB w a len bs) : (convert src dst (.slice a len cap)).run P w = .ok (.string ⟨bs.toArray⟩) w := by
  obtain ⟨hl, hc⟩ := h
  cases a with
  | none =>
    have h0 : ¬ 0 < len := by
      intro hp; obtain ⟨b, off, ha, _⟩ := hc hp; simp at ha
    have h1 : bs = [] := List.eq_nil_of_length_eq_zero (by omega); subst h1; exact run_convert_bytes_nil w src e hs he len cap dst hd
  | some ad =>
    subst hl; refine run_convert_bytes_back w src dst e ad cap bs hs he hd fun j hj => ?_
    obtain ⟨b, off, ha, _, Qvc⟩ := hc (by omega); obtain rfl := Option.some.inj ha; rw [Addr.add_lit, Qvc j hj]; simp [List.getD, List.getElem?_eq_getElem hj]
theorem IsB.cut {w : World} {b off len : Nat} {bs : List UInt8} (hb : bs.length = len) (hlt : b < w.heap.size) (hc : ∀ j, j < len -> w.cell? ⟨b, off + j, none⟩ = some (.int .u8 ((bs.getD j 0).toNat : Int)))
    (p m : Nat) (h : p + m <= len) : IsB w (some ⟨b, off + p, none⟩) m ((bs.drop p).take m) := by
  refine ⟨by simp; omega, fun _ => ⟨b, off + p, rfl, hlt, fun j hj => ?_⟩⟩; rw [Nat.add_assoc, hc (p + j) (by omega)]; simp [List.getD, hj]
theorem IsB.none_left (w : World) (a : Option Addr) : IsB w a 0 [] := ⟨rfl, fun h => absurd h (by omega)⟩
theorem _root_.Go.World.ownsRow.isB {w : World} {base g n cap : Nat} {e : TypeId} {bs : List UInt8} (h : w.ownsRow base e 1 (.slice (some ⟨g, 0, none⟩) n cap) n (toV bs)) (hl : bs.length = n) : IsB w (some ⟨g, 0, none⟩) n bs := by
  refine ⟨hl, fun _ => ⟨g, 0, rfl, (h.lt g rfl).2, fun j hj => ?_⟩⟩; rw [Nat.zero_add, h.cellAt j (by omega), Qkg bs j (by omega)]
theorem run_oneByte {P : Program} (w : World) (src dst e : TypeId) (hs : P.underlying src = some (.slice e)) (he : P.underlying e = some (.int .u8)) (hd : P.underlying dst = some .string) (x : Int) (y : UInt8) (hx : x = (y.toNat : Int)) :
    (convert src dst (.slice (some ⟨w.heap.size, 0, none⟩) 1 1)).run P (w.alloc (.cells #[.int .u8 x] e)) = .ok (.string ⟨#[y]⟩) (w.alloc (.cells #[.int .u8 x] e)) := by
  subst hx; refine Qro (w.alloc (.cells #[.int .u8 (y.toNat : Int)] e)) src dst e hs he hd (some ⟨w.heap.size, 0, none⟩) 1 1 [y] ⟨rfl, fun _ => ⟨w.heap.size, 0, rfl, by simp, fun j hj => ?_⟩⟩; obtain rfl : j = 0 := by omega
  simp
def Qin (bs : List UInt8) (p k : Int) : Int × Int :=
  if k < 1 ∨ 8 < k ∨ p < 0 then (0, 1)
  else if (bs.length : Int) - p < k then (0, 4)
  else (((beAt bs p.toNat k.toNat : Nat) : Int), 0)
theorem takeS_arg (bs : List UInt8) (p k : Int) (h : k < 1 ∨ 8 < k ∨ p < 0) : Qin bs p k = (0, 1) := by simp [Qin, h]
theorem Qbr (bs : List UInt8) (p k : Int) (h : ¬ (k < 1 ∨ 8 < k ∨ p < 0)) (h2 : (bs.length : Int) - p < k) : Qin bs p k = (0, 4) := by
  unfold Qin; rw [if_neg h, if_pos h2]
theorem Qos (bs : List UInt8) (p k : Int) (h : ¬ (k < 1 ∨ 8 < k ∨ p < 0)) (h2 : ¬ (bs.length : Int) - p < k) : Qin bs p k = (((beAt bs p.toNat k.toNat : Nat) : Int), 0) := by
  unfold Qin; rw [if_neg h, if_neg h2]
def Qxi (bs : List UInt8) (p : Int) : List UInt8 × Int × Int :=
  if p < 0 then ([], 0, 1)
  else if (bs.length : Int) <= p then ([], 0, 4)
  else if (bs.length : Int) < p + 1 + ((bs.getD p.toNat 0).toNat : Int) then ([], 0, 4)
  else ((bs.drop (p.toNat + 1)).take (bs.getD p.toNat 0).toNat, p + 1 + ((bs.getD p.toNat 0).toNat : Int), 0)
theorem textS_arg (bs : List UInt8) (p : Int) (h : p < 0) : Qxi bs p = ([], 0, 1) := by simp [Qxi, h]
theorem Qzp (bs : List UInt8) (p : Int) (h : ¬ p < 0) (h2 : (bs.length : Int) <= p) : Qxi bs p = ([], 0, 4) := by
  unfold Qxi; rw [if_neg h, if_pos h2]
theorem textS_few (bs : List UInt8) (p m : Nat) (h2 : p < bs.length) (hm : (bs.getD p 0).toNat = m) (h3 : bs.length < p + 1 + m) : Qxi bs p = ([], 0, 4) := by
  unfold Qxi; rw [if_neg (by omega), if_neg (by omega), Int.toNat_natCast, hm, if_pos (by omega)]
theorem Qyr (bs : List UInt8) (p m : Nat) (h2 : p < bs.length) (hm : (bs.getD p 0).toNat = m) (h3 : p + 1 + m <= bs.length) : Qxi bs p = ((bs.drop (p + 1)).take m, (p : Int) + 1 + (m : Int), 0) := by
  unfold Qxi; rw [if_neg (by omega), if_neg (by omega), Int.toNat_natCast, hm, if_neg (by omega)]
theorem Qbi (s : ByteArray) (p m : Nat) (h : p + m <= s.size) : s.extract p (p + m) = ⟨((s.data.toList.drop p).take m).toArray⟩ := by
  apply ByteArray.ext; rw [ByteArray.data_extract]; apply Array.ext'; rw [Array.toList_extract]; simp [List.extract_eq_take_drop]
theorem Qnh (k n : Nat) : beB (k + 1) n = UInt8.ofNat (n / 256 ^ k) :: beB k n := by
  apply List.ext_getElem
  · simp [beB]
  · intro i h1 h2
    cases i with
    | zero => simp [beB]
    | succ i =>
      simp only [beB, List.getElem_map, List.getElem_range, List.getElem_cons_succ]; congr 3; omega
theorem div_pow (n j : Nat) : n / 256 ^ j / 256 = n / 256 ^ (j + 1) := by rw [Nat.div_div_eq_div_mul, Nat.pow_succ]
theorem Qjp (n k : Nat) : ((n / 256 ^ k : Nat) : Int) = 0 ↔ n < 256 ^ k := by
  have hp : 0 < 256 ^ k := Nat.pow_pos (by omega); have e := Nat.div_eq_zero_iff_lt (x := n) hp; omega
def sh (n j : Nat) : Nat := n / 256 ^ j
theorem sh_zero (n : Nat) : sh n 0 = n := by simp [sh]
theorem sh_succ (n j : Nat) : sh n j / 256 = sh n (j + 1) := div_pow n j
theorem sh_le (n j : Nat) : sh n j <= n := Nat.div_le_self _ _
theorem sh_test (n k : Nat) : (((sh n k : Nat) : Int) == 0) = decide (n < 256 ^ k) := by
  rw [Bool.eq_iff_iff]; simp only [beq_iff_eq, decide_eq_true_eq]; exact Qjp n k
theorem Qvb (a : Nat) : (UInt8.ofNat a).toNat = a % 256 := by simp
theorem Qgn (k n : Nat) : beB k n = beB k (n % 256 ^ k) := by
  apply List.ext_getElem
  · simp [beB]
  · intro i h1 h2; have hi : i < k := by simpa [beB] using h1
    simp only [beB, List.getElem_map, List.getElem_range]; apply UInt8.toNat_inj.1; rw [Qvb, Qvb]
    have e : 256 ^ k = 256 ^ (k - 1 - i) * (256 * 256 ^ i) := by
      rw [<- Nat.pow_succ', <- Nat.pow_add]; congr 1; omega
    rw [e, Nat.mod_mul_right_div_self, Nat.mod_mul_right_mod]
theorem order_lex (q a b c d : Nat) (h1 : c < q) (h2 : d < q) : (a < b ∨ a = b /\ c < d) ↔ q * a + c < q * b + d := by
  rcases Nat.lt_trichotomy a b with h | h | h
  · have e : q * (a + 1) <= q * b := Nat.mul_le_mul_left q h; rw [Nat.mul_add] at e; omega
  · subst h; omega
  · have e : q * (b + 1) <= q * a := Nat.mul_le_mul_left q h; rw [Nat.mul_add] at e; omega
theorem less_beB : ∀ (k n m : Nat), n < 256 ^ k -> m < 256 ^ k -> Op.bytesLess (beB k n) (beB k m) = decide (n < m)
  | 0, n, m, hn, hm => by
    have h1 : n = 0 := by simpa using hn
    have h2 : m = 0 := by simpa using hm
    subst h1; subst h2; rfl
  | k + 1, n, m, hn, hm => by
    have hp : 0 < 256 ^ k := Nat.pow_pos (by omega); rw [Qnh, Qnh, Qgn k n, Qgn k m]; have ih := less_beB k (n % 256 ^ k) (m % 256 ^ k) (Nat.mod_lt _ hp) (Nat.mod_lt _ hp); simp only [Op.bytesLess]; rw [ih]; have e1 := Nat.div_add_mod n (256 ^ k); have e2 := Nat.div_add_mod m (256 ^ k); have q1 : n / 256 ^ k < 256 := Nat.div_lt_of_lt_mul (by rw [Nat.pow_succ] at hn; exact hn); have q2 : m / 256 ^ k < 256 := Nat.div_lt_of_lt_mul (by rw [Nat.pow_succ] at hm; exact hm); have r1 := Nat.mod_lt n hp; have r2 := Nat.mod_lt m hp; generalize n / 256 ^ k = a at *; generalize m / 256 ^ k = b at *; generalize n % 256 ^ k = c at *; generalize m % 256 ^ k = d at *; generalize 256 ^ k = q at *; rw [Bool.eq_iff_iff]; simp only [Bool.or_eq_true, decide_eq_true_eq, Bool.and_eq_true, beq_iff_eq, UInt8.lt_iff_toNat_lt, <- UInt8.toNat_inj, Qvb]; rw [Nat.mod_eq_of_lt q1, Nat.mod_eq_of_lt q2]; subst e1; subst e2; exact order_lex q a b c d r1 r2
theorem Qcl (a b : List UInt8) : (⟨a.toArray⟩ : ByteArray) ++ ⟨b.toArray⟩ = ⟨(a ++ b).toArray⟩ := by
  rw [ByteArray.mk_append_mk]
theorem size_mk (l : List UInt8) : ByteArray.size ⟨l.toArray⟩ = l.length := by
  show l.toArray.size = l.length; rw [List.size_toArray]
theorem str_cons (j n : Nat) : (⟨#[UInt8.ofNat (sh n j)]⟩ : ByteArray) ++ ⟨(beB j n).toArray⟩ = ⟨(beB (j + 1) n).toArray⟩ := by
  rw [Qnh]; exact Qcl [UInt8.ofNat (sh n j)] (beB j n)
theorem str_append (s : ByteArray) (b : List UInt8) : s ++ ⟨b.toArray⟩ = ⟨(s.data.toList ++ b).toArray⟩ := by
  have e : s = ⟨s.data.toList.toArray⟩ := by
    apply ByteArray.ext; simp
  have h := Qcl s.data.toList b; rw [<- e] at h; exact h
def Qjd (s : List UInt8) : List UInt8 := UInt8.ofNat s.length :: s
theorem Qpi (s : List UInt8) : (Qjd s).length = 1 + s.length := by simp [Qjd]; omega
theorem Qhh {w w' : World} {base n size : Nat} {e : TypeId} {v : Value} {xs : List Value} (h : w.ownsRow base e size v n xs) (hb : Below w.heap.size w w') : w'.ownsRow base e size v n xs := by
  refine ⟨h.1, ?_⟩
  rcases h.2 with hn | ⟨g, cap, cur, rfl, hbg, hg, rest⟩
  · exact .inl hn
  · exact .inr ⟨g, cap, cur, rfl, hbg, by rw [hb.block g (Array.getElem?_eq_some_iff.1 hg).1]; exact hg, rest⟩
theorem mk_self (s : ByteArray) : (⟨s.data.toList.toArray⟩ : ByteArray) = s := by
  apply ByteArray.ext; simp
theorem Qkb (s : ByteArray) : s.data.toList.length = s.size := by simp
theorem shape_isB {w : World} {base n : Nat} {e : TypeId} {v : Value} {bs : List UInt8} (h : w.ownsRow base e 1 v n (toV bs)) : ∃ a cap, v = .slice a n cap /\ n <= cap /\ IsB w a n bs := by
  have hl : bs.length = n := by
    have := h.1; rw [Qn] at this; omega
  rcases h.2 with ⟨rfl, rfl⟩ | ⟨g, cap, cur, rfl, _, _, hn, _⟩
  · exact ⟨none, 0, rfl, Nat.le_refl _, ⟨hl, fun h => absurd h (by omega)⟩⟩
  · exact ⟨_, cap, rfl, hn, World.ownsRow.isB h hl⟩
theorem ofNat_len (s : List UInt8) (h : s.length <= 255) : (UInt8.ofNat s.length).toNat = s.length := by
  rw [Qvb]; omega
theorem textS_back (b s t : List UInt8) (h : s.length <= 255) : Qxi (b ++ Qjd s ++ t) (b.length : Int) = (s, (b.length : Int) + 1 + (s.length : Int), 0) := by
  have hg : ((b ++ Qjd s ++ t).getD b.length 0).toNat = s.length := by
    have e : (b ++ Qjd s ++ t).getD b.length 0 = UInt8.ofNat s.length := by simp [List.getD, Qjd]
    rw [e, ofNat_len s h]
  have hl : (b ++ Qjd s ++ t).length = b.length + (1 + s.length) + t.length := by
    rw [List.length_append, List.length_append, Qpi]
  rw [Qyr _ b.length s.length (by omega) hg (by omega)]
  have e : ((b ++ Qjd s ++ t).drop (b.length + 1)).take s.length = s := by
    have e1 : b ++ Qjd s ++ t = (b ++ [UInt8.ofNat s.length]) ++ (s ++ t) := by simp [Qjd]
    rw [e1, List.drop_left' (by simp), List.take_left' rfl]
  rw [e]
theorem toV_str (bs : List UInt8) (s : ByteArray) : toV bs ++ Lib.strCells s = toV (bs ++ s.data.toList) := by simp [toV, Lib.strCells]
theorem be_cons (b : UInt8) (bs : List UInt8) : be (b :: bs) = b.toNat * 256 ^ bs.length + be bs := by
  have h : ∀ (l : List UInt8) (x : Nat), l.foldl (fun n b => n * 256 + b.toNat) x = x * 256 ^ l.length + be l := by
    intro l
    induction l with
    | nil => intro x; simp [be]
    | cons c l ih =>
      intro x; have e : be (c :: l) = l.foldl (fun n b => n * 256 + b.toNat) (0 * 256 + c.toNat) := rfl; rw [List.foldl_cons, ih, e, ih, List.length_cons, Nat.pow_succ, Nat.add_mul, Nat.zero_mul, Nat.zero_add, Nat.mul_assoc, Nat.mul_comm 256]; omega
  have e : be (b :: bs) = bs.foldl (fun n b => n * 256 + b.toNat) (0 * 256 + b.toNat) := rfl; rw [e, h]; simp
theorem Qhk : ∀ (k n : Nat), n < 256 ^ k -> be (beB k n) = n
  | 0, n, h => by
    have h1 : n = 0 := by simpa using h
    subst h1; rfl
  | k + 1, n, h => by
    have hp : 0 < 256 ^ k := Nat.pow_pos (by omega); have q1 : n / 256 ^ k < 256 := Nat.div_lt_of_lt_mul (by rw [Nat.pow_succ] at h; exact h); rw [Qnh, be_cons, Qz, Qvb, Nat.mod_eq_of_lt q1, Qgn k n, Qhk k _ (Nat.mod_lt _ hp), Nat.mul_comm]; exact Nat.div_add_mod n (256 ^ k)
theorem takeS_back (b t : List UInt8) (k n : Nat) (h1 : 1 <= k) (h2 : k <= 8) (hn : n < 256 ^ k) : Qin (b ++ beB k n ++ t) (b.length : Int) (k : Int) = ((n : Int), 0) := by
  have hl : (b ++ beB k n ++ t).length = b.length + k + t.length := by rw [List.length_append, List.length_append, Qz]
  rw [Qos _ _ _ (by omega) (by omega), Int.toNat_natCast, Int.toNat_natCast]
  have e : beAt (b ++ beB k n ++ t) b.length k = n := by
    unfold beAt; rw [List.append_assoc, List.drop_left' rfl, List.take_left' (Qz k n), Qhk k n hn]
  rw [e]
theorem isB_lit (w : World) (C : Array Value) (e : TypeId) (fr : Nat × Nat) (bs : List UInt8) (n : Nat) (hC : C.toList = toV bs) (hn : bs.length = n) : IsB (w.alloc (.cells C e fr)) (some ⟨w.heap.size, 0, none⟩) n bs := by
  refine ⟨hn, fun _ => ⟨w.heap.size, 0, rfl, by simp, fun j hj => ?_⟩⟩; rw [Nat.zero_add, World.cell?_alloc_mark, <- Array.getElem?_toList, hC, Qkg bs j (by omega)]
theorem run_mkn {P : Program} (t e : TypeId) (ht : P.underlying t = some (.slice e)) (hinfo : (P.info? e).map (fun i => (i.zero, i.size, i.bytes)) = some (some (.int .u8 0), 1, 1)) (l : Nat) (h : l <= 281474976710656) (w : World) :
    (Instr.makeSlice t (.int .i64 (l : Int)) (.int .i64 (l : Int))).run P w = .ok (.slice (some ⟨w.heap.size, 0, none⟩) l l) (w.alloc (.cells (Qml l).toArray e)) := by
  have hr := run_mk t e ht hinfo l 0 (by omega) w; simpa using hr
theorem own_slice {w : World} {base n size : Nat} {e : TypeId} {v : Value} {xs : List Value} (h : w.ownsRow base e size v n xs) (hn : 0 < n) : ∃ g cap, v = .slice (some ⟨g, 0, none⟩) n cap /\ base <= g := by
  rcases h.2 with ⟨_, h0⟩ | ⟨g, cap, cur, hv, hb, _⟩
  · omega
  · exact ⟨g, cap, hv, hb⟩
theorem xlc (x y z : Nat) : x ^^^ (y ^^^ z) = y ^^^ (x ^^^ z) := by rw [<- Nat.xor_assoc, Nat.xor_comm x y, Nat.xor_assoc]
theorem xz (a b : Nat) : a ^^^ b = 0 ↔ a = b := by
  constructor
  · intro h; have h1 : a ^^^ b ^^^ b = 0 ^^^ b := by rw [h]
    rwa [Nat.xor_assoc, Nat.xor_self, Nat.xor_zero, Nat.zero_xor] at h1
  · intro h; rw [h, Nat.xor_self]
theorem xm2 (a b : Nat) : (a ^^^ b) % 2 = (a + b) % 2 := by
  have h : (a ^^^ b) % 2 = 1 ↔ ¬ (a % 2 = 1 ↔ b % 2 = 1) := Nat.xor_mod_two_eq_one; omega
def poly : Nat := 3988292384
def Qef : Nat := 4294967295
theorem poly_lt : poly < 2 ^ 32 := by decide
theorem Qvn : Qef < 2 ^ 32 := by decide
theorem poly_ge : 2 ^ 31 <= poly := by decide
def stp (r : Nat) : Nat := if r % 2 = 1 then r / 2 ^^^ poly else r / 2
theorem stp_zero : stp 0 = 0 := rfl
theorem Qlr (r : Nat) (h : r < 2 ^ 32) : stp r < 2 ^ 32 := by
  unfold stp
  split
  · exact Nat.xor_lt_two_pow (by omega) poly_lt
  · omega
theorem stp_xor (a b : Nat) : stp (a ^^^ b) = stp a ^^^ stp b := by
  unfold stp; have h1 : (a ^^^ b) / 2 = a / 2 ^^^ b / 2 := Nat.xor_div_two; have h2 : (a ^^^ b) % 2 = (a + b) % 2 := xm2 a b; rw [h1]; have c1 : ∀ x y z : Nat, x ^^^ (y ^^^ z) = y ^^^ (x ^^^ z) := xlc
  by_cases ha : a % 2 = 1
  · by_cases hb : b % 2 = 1
    · rw [if_pos ha, if_pos hb, if_neg (by omega)]; rw [Nat.xor_assoc, c1 poly, Nat.xor_self, Nat.xor_zero]
    · rw [if_pos ha, if_neg hb, if_pos (by omega)]; rw [Nat.xor_assoc, Nat.xor_assoc, Nat.xor_comm (b / 2)]
  · by_cases hb : b % 2 = 1
    · rw [if_neg ha, if_pos hb, if_pos (by omega), Nat.xor_assoc]
    · rw [if_neg ha, if_neg hb, if_neg (by omega)]
theorem stp_ker (r : Nat) (h : r < 2 ^ 32) (h0 : stp r = 0) : r = 0 := by
  unfold stp at h0
  split at h0
  · have h1 : r / 2 = poly := (xz _ _).1 h0; have h2 := poly_ge; omega
  · omega
def Qeg : Nat -> Nat -> Nat
  | 0, r => r
  | n + 1, r => Qeg n (stp r)
theorem stps_zero (n : Nat) : Qeg n 0 = 0 := by
  induction n with
  | zero => rfl
  | succ n ih => rw [Qeg, stp_zero, ih]
theorem stps_lt : ∀ (n r : Nat), r < 2 ^ 32 -> Qeg n r < 2 ^ 32
  | 0, _, h => h
  | n + 1, r, h => stps_lt n (stp r) (Qlr r h)
theorem Qjj : ∀ (n a b : Nat), Qeg n (a ^^^ b) = Qeg n a ^^^ Qeg n b
  | 0, _, _ => rfl
  | n + 1, a, b => by rw [Qeg, Qeg, Qeg, stp_xor, Qjj n]
theorem Qej : ∀ (n r : Nat), r < 2 ^ 32 -> Qeg n r = 0 -> r = 0
  | 0, _, _, h => h
  | n + 1, r, h, h0 => stp_ker r h (Qej n (stp r) (Qlr r h) h0)
theorem stps_inj (n a b : Nat) (ha : a < 2 ^ 32) (hb : b < 2 ^ 32) (h : Qeg n a = Qeg n b) : a = b := by
  have h1 : Qeg n (a ^^^ b) = 0 := by rw [Qjj, h, Nat.xor_self]
  exact (xz _ _).1 (Qej n _ (Nat.xor_lt_two_pow ha hb) h1)
theorem Qum : ∀ (m n r : Nat), Qeg (m + n) r = Qeg n (Qeg m r)
  | 0, n, r => by rw [Nat.zero_add]; rfl
  | m + 1, n, r => by
    have e : m + 1 + n = (m + n) + 1 := by omega
    rw [e, Qeg, Qeg, Qum m n]
theorem Qrp (n r : Nat) : Qeg (n + 1) r = stp (Qeg n r) := by
  rw [Qum n 1 r]; rfl
def Qti (r : Nat) (b : UInt8) : Nat := Qeg 8 (r ^^^ b.toNat)
def Qdf (r : Nat) (bs : List UInt8) : Nat := bs.foldl Qti r
def crc (bs : List UInt8) : Nat := Qef ^^^ Qdf Qef bs
def crcMore (s : Nat) (bs : List UInt8) : Nat := Qef ^^^ Qdf (Qef ^^^ s) bs
theorem u8_lt32 (b : UInt8) : b.toNat < 2 ^ 32 := by have := b.toNat_lt; omega
theorem byteS_lt (r : Nat) (b : UInt8) (h : r < 2 ^ 32) : Qti r b < 2 ^ 32 := stps_lt 8 _ (Nat.xor_lt_two_pow h (u8_lt32 b))
theorem Qir : ∀ (bs : List UInt8) (r : Nat), r < 2 ^ 32 -> Qdf r bs < 2 ^ 32
  | [], _, h => h
  | b :: bs, r, h => Qir bs (Qti r b) (byteS_lt r b h)
theorem Qur (bs : List UInt8) : crc bs < 2 ^ 32 := Nat.xor_lt_two_pow Qvn (Qir bs Qef Qvn)
theorem crun_nil (r : Nat) : Qdf r [] = r := rfl
theorem crun_snoc (r : Nat) (bs : List UInt8) (b : UInt8) : Qdf r (bs ++ [b]) = Qti (Qdf r bs) b := by simp [Qdf, List.foldl_append]
theorem Quj (r : Nat) (a b : List UInt8) : Qdf r (a ++ b) = Qdf (Qdf r a) b := by simp [Qdf, List.foldl_append]
theorem ones_ones (x : Nat) : Qef ^^^ (Qef ^^^ x) = x := by rw [<- Nat.xor_assoc, Nat.xor_self, Nat.zero_xor]
theorem crc_more (a b : List UInt8) : crc (a ++ b) = crcMore (crc a) b := by
  unfold crc crcMore; rw [ones_ones, Quj]
def Qpq (a b : List UInt8) : List UInt8 := List.zipWith (· ^^^ ·) a b
theorem xor4 (r s x y : Nat) : (r ^^^ s) ^^^ (x ^^^ y) = (r ^^^ x) ^^^ (s ^^^ y) := by
  rw [Nat.xor_assoc, xlc s, <- Nat.xor_assoc]
theorem byteS_xor (r s : Nat) (x y : UInt8) : Qti (r ^^^ s) (x ^^^ y) = Qti r x ^^^ Qti s y := by
  unfold Qti; rw [UInt8.toNat_xor, xor4, Qjj]
theorem Qnn : ∀ (a b : List UInt8) (r s : Nat), a.length = b.length -> Qdf (r ^^^ s) (Qpq a b) = Qdf r a ^^^ Qdf s b
  | [], [], _, _, _ => rfl
  | x :: a, y :: b, r, s, h => by
    have h1 : a.length = b.length := by simpa using h
    have e : Qpq (x :: a) (y :: b) = (x ^^^ y) :: Qpq a b := rfl; have e1 : Qdf (r ^^^ s) ((x ^^^ y) :: Qpq a b) = Qdf (Qti (r ^^^ s) (x ^^^ y)) (Qpq a b) := rfl; rw [e, e1, byteS_xor, Qnn a b _ _ h1]; rfl
  | [], _ :: _, _, _, h => by simp at h
  | _ :: _, [], _, _, h => by simp at h
theorem crc_linear (a b c : List UInt8) (h1 : b.length = a.length) (h2 : c.length = a.length) : crc a ^^^ crc b ^^^ crc c ^^^ crc (Qpq (Qpq a b) c) = 0 := by
  have e1 : Qef = Qef ^^^ Qef ^^^ Qef := by rw [Nat.xor_self, Nat.zero_xor]
  have hl : (Qpq a b).length = c.length := by simp [Qpq, h1, h2]
  have e2 : Qdf Qef (Qpq (Qpq a b) c) = Qdf Qef a ^^^ Qdf Qef b ^^^ Qdf Qef c := by
    have e3 : Qdf Qef (Qpq (Qpq a b) c) = Qdf (Qef ^^^ Qef ^^^ Qef) (Qpq (Qpq a b) c) := by rw [<- e1]
    rw [e3, Qnn _ _ _ _ hl, Qnn _ _ _ _ h1.symm]
  unfold crc; rw [e2]; generalize Qdf Qef a = x; generalize Qdf Qef b = y; generalize Qdf Qef c = z; rw [xz]; have e5 : Qef ^^^ x ^^^ (Qef ^^^ y) = x ^^^ y := by rw [xor4, Nat.xor_self, Nat.zero_xor]
  rw [e5]; rw [xlc]
def Qse (s : List UInt8) (j : Nat) : Bool := (s.getD (j / 8) 0).toNat.testBit (j % 8)
def bst (r : Nat) (b : Bool) : Nat := stp (r ^^^ b.toNat)
def Qqb (r : Nat) (f : Nat -> Bool) : Nat -> Nat
  | 0 => r
  | n + 1 => bst (Qqb r f n) (f n)
theorem stp_low (q c : Nat) : stp (q ^^^ c) = stp (q ^^^ (c % 2)) ^^^ (c / 2) := by
  have e1 : (q ^^^ c) / 2 = q / 2 ^^^ c / 2 := Nat.xor_div_two; have e2 : (q ^^^ (c % 2)) / 2 = q / 2 ^^^ (c % 2) / 2 := Nat.xor_div_two; have e3 : (c % 2) / 2 = 0 := by omega
  have p1 := xm2 q c; have p2 := xm2 q (c % 2); unfold stp; rw [e1, e2, e3, Nat.xor_zero]
  by_cases h : (q ^^^ c) % 2 = 1
  · rw [if_pos h, if_pos (by omega), Nat.xor_assoc, Nat.xor_assoc, Nat.xor_comm poly]
  · rw [if_neg h, if_neg (by omega)]
theorem bit_mod (c i : Nat) : (c.testBit i).toNat = c / 2 ^ i % 2 := by
  rw [Nat.testBit_eq_decide_div_mod_eq]; have h : c / 2 ^ i % 2 = 0 ∨ c / 2 ^ i % 2 = 1 := by omega
  rcases h with h | h <;> simp [h]
theorem Qxq (r : Nat) (f : Nat -> Bool) (n c : Nat) : ∀ (i : Nat), (∀ j, j < i -> f (n + j) = c.testBit j) -> Qeg i (Qqb r f n ^^^ c) = Qqb r f (n + i) ^^^ (c / 2 ^ i)
  | 0, _ => by simp [Qeg]
  | i + 1, h => by
    rw [Qrp, Qxq r f n c i (fun j hj => h j (by omega)), stp_low]; have e : Qqb r f (n + (i + 1)) = bst (Qqb r f (n + i)) (f (n + i)) := rfl; rw [e, h i (by omega), bst, bit_mod, Nat.div_div_eq_div_mul, <- Nat.pow_succ]
theorem Qmo (r : Nat) (s : List UInt8) : ∀ (k : Nat), k <= s.length -> Qdf r (s.take k) = Qqb r (Qse s) (8 * k)
  | 0, _ => by simp [Qdf, Qqb]
  | k + 1, h => by
    have hk : k < s.length := h; rw [List.take_succ_eq_append_getElem hk, crun_snoc, Qmo r s k (by omega), Qti]
    have hb := Qxq r (Qse s) (8 * k) s[k].toNat 8 (fun j hj => by
      have e1 : (8 * k + j) / 8 = k := by omega
      have e2 : (8 * k + j) % 8 = j := by omega
      simp [Qse, e1, e2, List.getD, List.getElem?_eq_getElem hk])
    have e3 : s[k].toNat / 2 ^ 8 = 0 := by have := s[k].toNat_lt; omega
    rw [e3, Nat.xor_zero] at hb; exact hb
theorem Qpl (r : Nat) (s : List UInt8) : Qdf r s = Qqb r (Qse s) (8 * s.length) := by
  have h := Qmo r s s.length (Nat.le_refl _); rwa [List.take_length] at h
theorem Qvj (r : Nat) (f g : Nat -> Bool) : ∀ (n : Nat), (∀ j, j < n -> f j = g j) -> Qqb r f n = Qqb r g n
  | 0, _ => rfl
  | n + 1, h => by rw [Qqb, Qqb, Qvj r f g n (fun j hj => h j (by omega)), h n (by omega)]
theorem bool_xor (a b : Bool) : (a ^^ b).toNat = a.toNat ^^^ b.toNat := by cases a <;> cases b <;> rfl
theorem Qxo (r s : Nat) (f g : Nat -> Bool) : ∀ (n : Nat), Qqb (r ^^^ s) (fun j => f j ^^ g j) n = Qqb r f n ^^^ Qqb s g n
  | 0 => rfl
  | n + 1 => by rw [Qqb, Qqb, Qqb, Qxo r s f g n, bst, bst, bst, bool_xor, xor4, stp_xor]
def win (k t : Nat) (j : Nat) : Bool := decide (k <= j) && decide (j < k + 32) && t.testBit (j - k)
theorem Qnp (k t : Nat) : ∀ (n : Nat), n <= k -> Qqb 0 (win k t) n = 0
  | 0, _ => rfl
  | n + 1, h => by
    have e : win k t n = false := by simp [win]; omega
    rw [Qqb, Qnp k t n (by omega), e]; rfl
theorem Qql (k t : Nat) : ∀ (m : Nat), Qqb 0 (win k t) (k + 32 + m) = Qeg m (Qqb 0 (win k t) (k + 32))
  | 0 => rfl
  | m + 1 => by
    have e : win k t (k + 32 + m) = false := by simp [win]; omega
    have e2 : Qqb 0 (win k t) (k + 32 + (m + 1)) = bst (Qqb 0 (win k t) (k + 32 + m)) (win k t (k + 32 + m)) := rfl; rw [e2, e, Qql k t m, Qrp, bst]; simp
theorem win_lt (k t : Nat) : ∀ (n : Nat), Qqb 0 (win k t) n < 2 ^ 32
  | 0 => by rw [Qqb]; omega
  | n + 1 => by
    rw [Qqb, bst]; refine Qlr _ (Nat.xor_lt_two_pow (win_lt k t n) ?_); have := Bool.toNat_lt (win k t n); omega
theorem win_told (k t n : Nat) (ht : t < 2 ^ 32) (h0 : t ≠ 0) (hn : k + 32 <= n) : Qqb 0 (win k t) n ≠ 0 := by
  have hb := Qxq 0 (win k t) k t 32 (fun j hj => by
    have e : k + j - k = j := by omega
    simp [win, hj])
  rw [Qnp k t k (Nat.le_refl _), Nat.zero_xor, Nat.div_eq_of_lt ht, Nat.xor_zero] at hb; intro h; obtain ⟨m, rfl⟩ := Nat.le.dest hn; rw [Qql] at h; have h1 := Qej m _ (win_lt k t _) h; rw [<- hb] at h1; exact h0 (Qej 32 t ht h1)
theorem turned (r : Nat) (s s' : List UInt8) (k t : Nat) (ht : t < 2 ^ 32) (h0 : t ≠ 0) (hl : s'.length = s.length) (hk : k + 32 <= 8 * s.length)
    (hb : ∀ j, j < 8 * s.length -> Qse s' j = (Qse s j ^^ win k t j)) : Qdf r s' ≠ Qdf r s := by
  intro h; rw [Qpl, Qpl, hl, Qvj r (Qse s') (fun j => Qse s j ^^ win k t j) _ hb] at h; have e := Qxo r 0 (Qse s) (win k t) (8 * s.length); rw [Nat.xor_zero] at e; rw [e] at h
  have h2 : Qqb 0 (win k t) (8 * s.length) = 0 := by
    have h3 : Qqb r (Qse s) (8 * s.length) ^^^ (Qqb r (Qse s) (8 * s.length) ^^^ Qqb 0 (win k t) (8 * s.length)) = Qqb r (Qse s) (8 * s.length) ^^^ Qqb r (Qse s) (8 * s.length) := by rw [h]
    rwa [<- Nat.xor_assoc, Nat.xor_self, Nat.zero_xor] at h3
  exact win_told k t _ ht h0 hk h2
def leN : List UInt8 -> Nat
  | [] => 0
  | b :: t => b.toNat + 256 * leN t
def leB (x : Nat) : List UInt8 := [UInt8.ofNat x, UInt8.ofNat (x / 256), UInt8.ofNat (x / 65536), UInt8.ofNat (x / 16777216)]
theorem Qle (x : Nat) : (leB x).length = 4 := rfl
theorem Qpn (x : Nat) (h : x < 2 ^ 32) : leN (leB x) = x := by
  simp only [leB, leN, UInt8.toNat_ofNat']; omega
theorem leN_lt : ∀ (t : List UInt8), leN t < 256 ^ t.length
  | [] => by simp [leN]
  | b :: t => by
    have := leN_lt t; have hb := b.toNat_lt; rw [List.length_cons, Nat.pow_succ, leN]; omega
theorem Qnk : ∀ (n x : Nat), Qeg n (2 ^ n * x) = x
  | 0, x => by simp [Qeg]
  | n + 1, x => by
    have e : stp (2 ^ (n + 1) * x) = 2 ^ n * x := by
      have e2 : 2 ^ (n + 1) * x = 2 * (2 ^ n * x) := by rw [Nat.pow_succ, Nat.mul_comm (2 ^ n) 2, Nat.mul_assoc]
      rw [e2, stp, if_neg (by omega)]; omega
    rw [Qeg, e, Qnk n x]
theorem add_xor (b y : Nat) (h : b < 256) : b + 256 * y = b ^^^ (256 * y) := by
  apply Nat.eq_of_testBit_eq; intro i; have e1 : b + 256 * y = 2 ^ 8 * y + b := by omega
  have e2 : 256 * y = 2 ^ 8 * y := by omega
  rw [e1, Nat.testBit_two_pow_mul_add y (show b < 2 ^ 8 by omega), e2, Nat.testBit_xor, Nat.testBit_two_pow_mul]
  by_cases hi : i < 8
  · have h8 : ¬ i ≥ 8 := by omega
    simp [hi, h8]
  · have h8 : i ≥ 8 := by omega
    have hb : b.testBit i = false := Nat.testBit_lt_two_pow (Nat.lt_of_lt_of_le (show b < 2 ^ 8 by omega) (Nat.pow_le_pow_right (by omega) h8)); simp [hi, h8, hb]
theorem crun_le : ∀ (t : List UInt8) (r : Nat), Qdf r t = Qeg (8 * t.length) (r ^^^ leN t)
  | [], r => by simp [Qdf, leN, Qeg]
  | b :: t, r => by
    have e : Qdf r (b :: t) = Qdf (Qti r b) t := rfl; have e1 : 8 * (b :: t).length = 8 + 8 * t.length := by rw [List.length_cons]; omega
    have e2 : Qeg 8 (256 * leN t) = leN t := Qnk 8 (leN t); have e3 : Qeg 8 (r ^^^ b.toNat ^^^ 256 * leN t) = Qeg 8 (r ^^^ b.toNat) ^^^ leN t := by rw [Qjj 8 (r ^^^ b.toNat), e2]
    rw [e, crun_le t, Qti, e1, Qum, leN, add_xor _ _ b.toNat_lt, <- Nat.xor_assoc, e3]
def rest : Nat := Qeg 32 Qef
theorem Qul (b t : List UInt8) (h : t.length = 4) : leN t = crc b ↔ Qdf Qef (b ++ t) = rest := by
  have h32 : leN t < 2 ^ 32 := by
    have := leN_lt t; rw [h] at this; exact this
  have hc := Qir b Qef Qvn; rw [Quj, crun_le t, h, rest]
  constructor
  · intro e; rw [e, crc, xlc, Nat.xor_self, Nat.xor_zero]
  · intro e; have e1 := stps_inj 32 _ _ (Nat.xor_lt_two_pow hc h32) Qvn e; generalize hx : Qdf Qef b = x at *; rw [crc, hx, <- e1, Nat.xor_comm x, Nat.xor_assoc, Nat.xor_self, Nat.xor_zero]
theorem sealed (b : List UInt8) : Qdf Qef (b ++ leB (crc b)) = rest := (Qul b _ (Qle _)).1 (Qpn _ (Qur b))
theorem bst_if (q : Nat) (b : Bool) : bst q b = if q % 2 = b.toNat then q / 2 else q / 2 ^^^ poly := by
  have e1 : (q ^^^ b.toNat) / 2 = q / 2 ^^^ b.toNat / 2 := Nat.xor_div_two; have e2 : b.toNat / 2 = 0 := by cases b <;> rfl
  have e3 := xm2 q b.toNat; have e4 : b.toNat < 2 := Bool.toNat_lt b; unfold bst stp; rw [e1, e2, Nat.xor_zero]
  by_cases h : q % 2 = b.toNat
  · rw [if_pos h, if_neg (by omega)]
  · rw [if_neg h, if_pos (by omega)]
theorem bruns_lt (r : Nat) (f : Nat -> Bool) (h : r < 2 ^ 32) : ∀ (n : Nat), Qqb r f n < 2 ^ 32
  | 0 => h
  | n + 1 => by
    rw [Qqb, bst]; refine Qlr _ (Nat.xor_lt_two_pow (bruns_lt r f h n) ?_); have := Bool.toNat_lt (f n); omega
theorem ones_sub (x : Nat) (h : x < 2 ^ 32) : 4294967295 - x = Qef ^^^ x := by
  have e1 : 4294967295 - x = 2 ^ 32 - (x + 1) := by omega
  have e2 : Qef = 2 ^ 32 - (0 + 1) := rfl; rw [e1, e2]; apply Nat.eq_of_testBit_eq; intro i; rw [Nat.testBit_xor, Nat.testBit_two_pow_sub_succ h, Nat.testBit_two_pow_sub_succ (by omega)]
  by_cases hi : i < 32
  · simp [hi]
  · have hb : x.testBit i = false := Nat.testBit_lt_two_pow (Nat.lt_of_lt_of_le h (Nat.pow_le_pow_right (by omega) (by omega))); simp [hi, hb]
theorem ones_subI (x : Nat) (h : x < 2 ^ 32) : (4294967295 : Int) - (x : Int) = ((Qef ^^^ x : Nat) : Int) := by
  rw [<- ones_sub x h]; omega
theorem leB_leN : ∀ (t : List UInt8), t.length = 4 -> leB (leN t) = t
  | [a, b, c, d], _ => by
    have ha := a.toNat_lt; have hb := b.toNat_lt; have hc := c.toNat_lt; have hd := d.toNat_lt
    have e : ∀ (x : UInt8) (n : Nat), n % 256 = x.toNat -> UInt8.ofNat n = x := by
      intro x n h; apply UInt8.toNat_inj.1; simp [h]
    simp only [leN, leB]; rw [e a _ (by omega), e b _ (by omega), e c _ (by omega), e d _ (by omega)]
  | [], h => by simp at h
  | [_], h => by simp at h
  | [_, _], h => by simp at h
  | [_, _, _], h => by simp at h
  | _ :: _ :: _ :: _ :: _ :: _, h => by simp at h
def Qke (bs : List UInt8) : List UInt8 × Int :=
  if bs.length < 4 then ([], 4)
  else if leN (bs.drop (bs.length - 4)) = crc (bs.take (bs.length - 4)) then (bs.take (bs.length - 4), 0)
  else ([], 3)
theorem Qyq (bs : List UInt8) (h : bs.length < 4) : Qke bs = ([], 4) := by unfold Qke; rw [if_pos h]
theorem Qwm (bs : List UInt8) (h : ¬ bs.length < 4) (h2 : leN (bs.drop (bs.length - 4)) = crc (bs.take (bs.length - 4))) : Qke bs = (bs.take (bs.length - 4), 0) := by unfold Qke; rw [if_neg h, if_pos h2]
theorem Qxr (bs : List UInt8) (h : ¬ bs.length < 4) (h2 : ¬ leN (bs.drop (bs.length - 4)) = crc (bs.take (bs.length - 4))) : Qke bs = ([], 3) := by unfold Qke; rw [if_neg h, if_neg h2]
theorem Qgr (bs : List UInt8) (h : ¬ bs.length < 4) : bs.take (bs.length - 4) ++ leB (crc (bs.take (bs.length - 4))) = bs ↔ leN (bs.drop (bs.length - 4)) = crc (bs.take (bs.length - 4)) := by
  have hd : (bs.drop (bs.length - 4)).length = 4 := by simp; omega
  constructor
  · intro e; have e1 := List.take_append_drop (bs.length - 4) bs; have e2 : leB (crc (bs.take (bs.length - 4))) = bs.drop (bs.length - 4) := List.append_cancel_left (e.trans e1.symm); rw [<- e2, Qpn _ (Qur _)]
  · intro e; rw [<- e, leB_leN _ hd, List.take_append_drop]
theorem openS_seal (b : List UInt8) : Qke (b ++ leB (crc b)) = (b, 0) := by
  have hl : (b ++ leB (crc b)).length = b.length + 4 := by rw [List.length_append, Qle]
  have e1 : (b ++ leB (crc b)).length - 4 = b.length := by omega
  have e2 : (b ++ leB (crc b)).take b.length = b := List.take_left' rfl; have e3 : (b ++ leB (crc b)).drop b.length = leB (crc b) := List.drop_left' rfl; rw [Qwm _ (by omega) (by rw [e1, e2, e3, Qpn _ (Qur b)]), e1, e2]
theorem openS_turned (b s' : List UInt8) (k t : Nat) (ht : t < 2 ^ 32) (h0 : t ≠ 0) (hl : s'.length = b.length + 4) (hk : k + 32 <= 8 * (b.length + 4))
    (hb : ∀ j, j < 8 * (b.length + 4) -> Qse s' j = (Qse (b ++ leB (crc b)) j ^^ win k t j)) : Qke s' = ([], 3) := by
  have hl2 : (b ++ leB (crc b)).length = b.length + 4 := by rw [List.length_append, Qle]
  refine Qxr s' (by omega) fun e => ?_
  have hd : (s'.drop (s'.length - 4)).length = 4 := by simp; omega
  have h1 := (Qul _ _ hd).1 e; rw [List.take_append_drop] at h1; have h2 := turned Qef (b ++ leB (crc b)) s' k t ht h0 (by omega) (by omega) (by rw [hl2]; exact hb); rw [h1, sealed b] at h2; exact h2 rfl
theorem leB_take (x j : Nat) (h : j < 4) : (leB x).take (j + 1) = (leB x).take j ++ [UInt8.ofNat (x / 256 ^ j)] := by
  match j, h with
  | 0, _ => simp [leB]
  | 1, _ => simp [leB]
  | 2, _ => simp [leB]
  | 3, _ => simp [leB]
def xrow (X : List UInt8) (n j : Nat) : List UInt8 := X.take j ++ List.replicate (n - j) 0
theorem xrow_length (X : List UInt8) (n j : Nat) (hX : X.length = n) (hj : j <= n) : (xrow X n j).length = n := by simp [xrow]; omega
theorem xrow_zero (X : List UInt8) (n : Nat) : toV (xrow X n 0) = Qml n := by simp [xrow, toV, Qml]
theorem xrow_full (X : List UInt8) (n : Nat) (hX : X.length = n) : xrow X n n = X := by
  subst hX; simp [xrow]
theorem xrow_step (X : List UInt8) (n j : Nat) (hX : X.length = n) (hj : j < n) : (toV (xrow X n j)).set j (.int .u8 ((X.getD j 0).toNat : Int)) = toV (xrow X n (j + 1)) := by
  have e1 : n - j = (n - (j + 1)) + 1 := by omega
  have e2 : xrow X n (j + 1) = X.take j ++ X.getD j 0 :: List.replicate (n - (j + 1)) 0 := by
    have e0 : X.getD j 0 = X[j]'(by omega) := by simp [List.getD, List.getElem?_eq_getElem (show j < X.length by omega)]
    rw [xrow, List.take_succ_eq_append_getElem (show j < X.length by omega), List.append_assoc, e0]; rfl
  rw [e2, xrow, e1, List.replicate_succ, Quc, Quc, List.set_append_right _ _ (by rw [Qn, List.length_take]; omega)]; have e3 : j - (toV (X.take j)).length = 0 := by rw [Qn, List.length_take]; omega
  rw [e3]; rfl
def fl (S : List UInt8) (k t : Nat) : Nat -> List UInt8
  | 0 => S
  | i + 1 => if t.testBit i then (fl S k t i).set ((k + i) / 8) ((fl S k t i).getD ((k + i) / 8) 0 ^^^ UInt8.ofNat (2 ^ ((k + i) % 8))) else fl S k t i
theorem Qqj (S : List UInt8) (k t : Nat) : ∀ (i : Nat), (fl S k t i).length = S.length
  | 0 => rfl
  | i + 1 => by
    rw [fl]
    split
    · rw [List.length_set, Qqj S k t i]
    · exact Qqj S k t i
theorem bitAt_set (L : List UInt8) (q r j : Nat) (hq : q < L.length) (hr : r < 8) (hj : j / 8 < L.length) :
    Qse (L.set q (L.getD q 0 ^^^ UInt8.ofNat (2 ^ r))) j = (Qse L j ^^ decide (j = 8 * q + r)) := by
  have hp : 2 ^ r < 256 := Nat.pow_lt_pow_right (a := 2) (m := r) (n := 8) (by omega) hr; have e : (UInt8.ofNat (2 ^ r)).toNat = 2 ^ r := by rw [Qvb, Nat.mod_eq_of_lt hp]
  unfold Qse
  by_cases hjq : j / 8 = q
  · have e1 : (L.set q (L.getD q 0 ^^^ UInt8.ofNat (2 ^ r))).getD (j / 8) 0 = L.getD q 0 ^^^ UInt8.ofNat (2 ^ r) := by
      rw [hjq]; simp [List.getD, hq]
    rw [e1, UInt8.toNat_xor, Nat.testBit_xor, e, hjq, Nat.testBit_two_pow]; congr 1; rw [Bool.eq_iff_iff]; simp only [decide_eq_true_eq]; omega
  · have e1 : (L.set q (L.getD q 0 ^^^ UInt8.ofNat (2 ^ r))).getD (j / 8) 0 = L.getD (j / 8) 0 := by
      simp [List.getD, Ne.symm hjq]
    have e2 : decide (j = 8 * q + r) = false := by
      rw [decide_eq_false_iff_not]; omega
    rw [e1, e2, Bool.xor_false]
theorem fl_bits (S : List UInt8) (k t : Nat) : ∀ (i : Nat), k + i <= 8 * S.length -> ∀ j, j < 8 * S.length -> Qse (fl S k t i) j = (Qse S j ^^ (decide (k <= j) && decide (j < k + i) && t.testBit (j - k)))
  | 0, _, j, _ => by
    have e : (decide (k <= j) && decide (j < k + 0) && t.testBit (j - k)) = false := by
      by_cases h : k <= j
      · have h2 : decide (j < k + 0) = false := by rw [decide_eq_false_iff_not]; omega
        rw [h2, Bool.and_false, Bool.false_and]
      · simp [h]
    rw [e, Bool.xor_false]; rfl
  | i + 1, hi, j, hj => by
    have ih := fl_bits S k t i (by omega) j hj; have hl := Qqj S k t i; rw [fl]
    by_cases ht : t.testBit i = true
    · rw [if_pos ht, bitAt_set _ _ _ _ (by rw [hl]; omega) (by omega) (by rw [hl]; omega), ih]
      by_cases hji : j = k + i
      · have e1 : decide (j = 8 * ((k + i) / 8) + (k + i) % 8) = true := by rw [decide_eq_true_eq]; omega
        have e2 : ¬ j < k + i := by omega
        have e3 : k <= j := by omega
        have e4 : j < k + (i + 1) := by omega
        have e5 : j - k = i := by omega
        rw [e1, e5, ht]; simp [e2, e3, e4]
      · have e1 : decide (j = 8 * ((k + i) / 8) + (k + i) % 8) = false := by rw [decide_eq_false_iff_not]; omega
        have e2 : (j < k + (i + 1)) ↔ (j < k + i) := by omega
        rw [e1, Bool.xor_false]; simp only [e2]
    · rw [if_neg ht, ih]
      by_cases hji : j = k + i
      · have e5 : j - k = i := by omega
        have e6 : t.testBit i = false := by simpa using ht
        rw [e5, e6, Bool.and_false, Bool.and_false]
      · have e2 : (j < k + (i + 1)) ↔ (j < k + i) := by omega
        simp only [e2]
theorem Qyl : ∀ (a b : List UInt8), leN (a ++ b) = leN a + 256 ^ a.length * leN b
  | [], b => by simp [leN]
  | x :: a, b => by
    have e : leN (x :: a ++ b) = x.toNat + 256 * leN (a ++ b) := rfl; rw [e, Qyl a b, leN, List.length_cons, Nat.pow_succ, Nat.mul_comm (256 ^ a.length) 256, Nat.mul_add, Nat.mul_assoc, Nat.add_assoc]
theorem leN_take (bs : List UInt8) (j : Nat) (h : j < bs.length) : leN (bs.take (j + 1)) = leN (bs.take j) + (bs.getD j 0).toNat * 256 ^ j := by
  rw [List.take_succ_eq_append_getElem h, Qyl, List.length_take, Nat.min_eq_left (by omega), Nat.mul_comm]; simp [List.getD, List.getElem?_eq_getElem h, leN]
structure Pg where
  l : Nat
  u : Nat -> Bool
  s : Nat -> ByteArray
def Pg.zero : Pg := ⟨0, fun _ => false, fun _ => ⟨#[]⟩⟩
def pgA (p : Pg) : Array Value := #[.int .u64 p.l, .bool (p.u 0), .string (p.s 0), .bool (p.u 1), .string (p.s 1), .bool (p.u 2), .string (p.s 2), .bool (p.u 3), .string (p.s 3), .bool (p.u 4), .string (p.s 4), .bool (p.u 5), .string (p.s 5), .bool (p.u 6), .string (p.s 6), .bool (p.u 7), .string (p.s 7)]
abbrev Pg.same (p q : Pg) : Prop := p.l = q.l /\ ∀ i, i < 8 -> p.u i = q.u i /\ p.s i = q.s i
theorem lt8 {i : Nat} (h : i < 8) : i = 0 ∨ i = 1 ∨ i = 2 ∨ i = 3 ∨ i = 4 ∨ i = 5 ∨ i = 6 ∨ i = 7 := by omega
theorem Pg.same.symm {p q : Pg} (h : p.same q) : q.same p := ⟨h.1.symm, fun i hi => ⟨(h.2 i hi).1.symm, (h.2 i hi).2.symm⟩⟩
theorem Pg.same.trans {p q r : Pg} (h : p.same q) (g : q.same r) : p.same r := ⟨h.1.trans g.1, fun i hi => ⟨(h.2 i hi).1.trans (g.2 i hi).1, (h.2 i hi).2.trans (g.2 i hi).2⟩⟩
theorem Pg.same.refl (p : Pg) : p.same p := ⟨rfl, fun _ _ => ⟨rfl, rfl⟩⟩
theorem Qnj {p q : Pg} (h : p.same q) : pgA p = pgA q := by
  have h0 := h.2 0 (by omega); have h1 := h.2 1 (by omega); have h2 := h.2 2 (by omega); have h3 := h.2 3 (by omega); have h4 := h.2 4 (by omega); have h5 := h.2 5 (by omega); have h6 := h.2 6 (by omega); have h7 := h.2 7 (by omega); unfold pgA; rw [h.1, h0.1, h0.2, h1.1, h1.2, h2.1, h2.2, h3.1, h3.2, h4.1, h4.2, h5.1, h5.2, h6.1, h6.2, h7.1, h7.2]
theorem Qdj (p : Pg) (i : Nat) (h : i < 8) : (pgA p)[1 + i * 2]? = some (.bool (p.u i)) := by
  rcases lt8 h with rfl | rfl | rfl | rfl | rfl | rfl | rfl | rfl <;> rfl
theorem Qzm (p : Pg) (i : Nat) (h : i < 8) : (pgA p)[1 + i * 2 + 1]? = some (.string (p.s i)) := by
  rcases lt8 h with rfl | rfl | rfl | rfl | rfl | rfl | rfl | rfl <;> rfl
theorem pgA_same {p q : Pg} (h : pgA p = pgA q) : p.same q := by
  have hl : (pgA p)[0]? = (pgA q)[0]? := by rw [h]
  have hl2 : some (Value.int .u64 (p.l : Int)) = some (Value.int .u64 (q.l : Int)) := hl
  refine ⟨?_, fun i hi => ⟨?_, ?_⟩⟩
  · injection hl2 with h1; injection h1 with h2 h3; omega
  · have h1 := Qdj p i hi; rw [h, Qdj q i hi] at h1; injection h1 with h1; injection h1 with h1; exact h1.symm
  · have h1 := Qzm p i hi; rw [h, Qzm q i hi] at h1; injection h1 with h1; injection h1 with h1; exact h1.symm
abbrev Qqc (u : Bool) (s : ByteArray) : Prop := s.size <= 20 /\ (u = false -> s.size = 0)
def Qce : Nat := 4611686018427387904
abbrev Pg.right (p : Pg) : Prop := p.l <= Qce /\ ∀ i, i < 8 -> Qqc (p.u i) (p.s i)
theorem Pg.same.right {p q : Pg} (h : p.same q) (hp : p.right) : q.right := by
  refine ⟨by rw [<- h.1]; exact hp.1, fun i hi => ?_⟩; have h1 := h.2 i hi; rw [<- h1.1, <- h1.2]; exact hp.2 i hi
def Pg.fits (p : Pg) : Prop := p.l < 18446744073709551616 /\ ∀ i, i < 8 -> (p.s i).size <= maxLen
theorem Pg.right.fits {p : Pg} (h : p.right) : p.fits := by
  have h1 := h.1; unfold Qce at h1; refine ⟨by omega, fun i hi => ?_⟩; have h2 := (h.2 i hi).1; unfold maxLen; omega
def lenB (u : Bool) (s : ByteArray) : UInt8 := if u then UInt8.ofNat s.size else 255
def Qgg (p : Pg) (k : Nat) : List UInt8 := (List.range k).map fun i => lenB (p.u i) (p.s i)
def valB (u : Bool) (s : ByteArray) : List UInt8 := if u then s.data.toList else []
def Qid (p : Pg) (k : Nat) : List UInt8 := (List.range k).flatMap fun i => valB (p.u i) (p.s i)
theorem lensB_succ (p : Pg) (k : Nat) : Qgg p (k + 1) = Qgg p k ++ [lenB (p.u k) (p.s k)] := by simp [Qgg, List.range_succ]
theorem Qyf (p : Pg) (k : Nat) : Qid p (k + 1) = Qid p k ++ valB (p.u k) (p.s k) := by simp [Qid, List.range_succ]
theorem Qlf (p : Pg) (k : Nat) : (Qgg p k).length = k := by simp [Qgg]
theorem Qlg (u : Bool) (s : ByteArray) (h : Qqc u s) : (valB u s).length = s.size := by
  unfold valB
  cases u
  · have := h.2 rfl; simp [this]
  · simp
theorem Qrs (p : Pg) (hp : p.right) : ∀ k, k <= 8 -> (Qid p k).length <= 20 * k
  | 0, _ => by simp [Qid]
  | k + 1, h => by
    have h1 := Qrs p hp k (by omega); have h2 := hp.2 k (by omega); have h3 := Qlg _ _ h2; have h4 := h2.1; rw [Qyf, List.length_append]; omega
theorem Pg.same.lens {p q : Pg} (h : p.same q) : Qgg p 8 = Qgg q 8 := by
  unfold Qgg; refine List.map_congr_left fun i hi => ?_
  have h1 := h.2 i (List.mem_range.1 hi); rw [h1.1, h1.2]
theorem Pg.same.vals {p q : Pg} (h : p.same q) : Qid p 8 = Qid q 8 := by
  unfold Qid; rw [List.flatMap_def, List.flatMap_def]; congr 1; refine List.map_congr_left fun i hi => ?_
  have h1 := h.2 i (List.mem_range.1 hi); rw [h1.1, h1.2]
def Qlh (id : Nat) (p : Pg) : List UInt8 := beB 2 id ++ Qgg p 8 ++ Qid p 8
def Qdi (id : Nat) (p : Pg) : List UInt8 := Qlh id p ++ List.replicate (236 - (Qlh id p).length) 0
def Qcc (id : Nat) (p : Pg) : List UInt8 := Qdi id p ++ leB (crc (Qdi id p))
def Qhb (id : Nat) (p : Pg) : List UInt8 := beB 8 p.l ++ (Qcc id p).take 120 ++ beB 8 p.l ++ (Qcc id p).drop 120
theorem Pg.same.image {p q : Pg} (h : p.same q) (id : Nat) : Qhb id p = Qhb id q := by
  unfold Qhb Qcc Qdi Qlh; rw [h.lens, h.vals, h.1]
theorem Qap (id : Nat) (p : Pg) : (Qlh id p).length = 10 + (Qid p 8).length := by
  unfold Qlh; rw [List.length_append, List.length_append, Qz, Qlf]
theorem headB_le (id : Nat) (p : Pg) (hp : p.right) : (Qlh id p).length <= 170 := by
  have := Qrs p hp 8 (by omega); rw [Qap]; omega
theorem Qno (id : Nat) (p : Pg) (hp : p.right) : (Qdi id p).length = 236 := by
  have := headB_le id p hp; unfold Qdi; rw [List.length_append, List.length_replicate]; omega
theorem Qli (id : Nat) (p : Pg) (hp : p.right) : (Qcc id p).length = 240 := by
  unfold Qcc; rw [List.length_append, Qno id p hp, Qle]
theorem imageB_length (id : Nat) (p : Pg) (hp : p.right) : (Qhb id p).length = 256 := by
  unfold Qhb; simp only [List.length_append, Qz, List.length_take, List.length_drop, Qli id p hp]; omega
def Qba (bs : List UInt8) : List UInt8 := (bs.drop 8).take 120 ++ bs.drop 136
theorem Qmn (bs : List UInt8) (h : bs.length = 256) : (Qba bs).length = 240 := by
  unfold Qba; simp only [List.length_append, List.length_take, List.length_drop]; omega
theorem Qog (id : Nat) (p : Pg) (hp : p.right) : (Qhb id p).take 8 = beB 8 p.l /\ ((Qhb id p).drop 128).take 8 = beB 8 p.l /\ Qba (Qhb id p) = Qcc id p := by
  have hl := Qli id p hp; have h1 : ((Qcc id p).take 120).length = 120 := by rw [List.length_take]; omega
  have h2 := Qz 8 p.l; have e : Qhb id p = beB 8 p.l ++ ((Qcc id p).take 120 ++ (beB 8 p.l ++ (Qcc id p).drop 120)) := by simp [Qhb]
  have e8 : (Qhb id p).drop 8 = (Qcc id p).take 120 ++ (beB 8 p.l ++ (Qcc id p).drop 120) := by rw [e, List.drop_left' h2]
  have e128 : (Qhb id p).drop 128 = beB 8 p.l ++ (Qcc id p).drop 120 := by
    have e1 : (Qhb id p).drop 128 = ((Qhb id p).drop 8).drop 120 := by rw [List.drop_drop]
    rw [e1, e8, List.drop_left' h1]
  have e136 : (Qhb id p).drop 136 = (Qcc id p).drop 120 := by
    have e1 : (Qhb id p).drop 136 = ((Qhb id p).drop 128).drop 8 := by rw [List.drop_drop]
    rw [e1, e128, List.drop_left' h2]
  refine ⟨by rw [e, List.take_left' h2], by rw [e128, List.take_left' h2], ?_⟩; unfold Qba; rw [e8, e136, List.take_left' h1, List.take_append_drop]
def nAt (t : List UInt8) (i : Nat) : Nat := (t.getD (2 + i) 0).toNat
def Qsb (t : List UInt8) (i : Nat) : Bool := decide (nAt t i ≠ 255)
def Qpg (t : List UInt8) (i : Nat) : Nat := if Qsb t i then nAt t i else 0
def Qgl (t : List UInt8) : Nat -> Nat
  | 0 => 10
  | i + 1 => Qgl t i + Qpg t i
def Qje (t : List UInt8) (i : Nat) : ByteArray := ⟨((t.drop (Qgl t i)).take (Qpg t i)).toArray⟩
def Qrm (bs : List UInt8) : Pg := ⟨beAt bs 0 8, Qsb (Qba bs), Qje (Qba bs)⟩
theorem getD_mid (a b : List UInt8) (i : Nat) (h : i < b.length) (c : List UInt8) : (a ++ (b ++ c)).getD (a.length + i) 0 = b.getD i 0 := by
  simp [List.getD, List.getElem?_append_right, List.getElem?_append_left h]
theorem tale_nAt (id : Nat) (p : Pg) (i : Nat) (h : i < 8) : (Qcc id p).getD (2 + i) 0 = lenB (p.u i) (p.s i) := by
  have e : Qcc id p = beB 2 id ++ (Qgg p 8 ++ (Qid p 8 ++ (List.replicate (236 - (Qlh id p).length) 0 ++ leB (crc (Qdi id p))))) := by simp [Qcc, Qdi, Qlh]
  have hb := Qz 2 id; have h1 := getD_mid (beB 2 id) (Qgg p 8) i (by rw [Qlf]; exact h) (Qid p 8 ++ (List.replicate (236 - (Qlh id p).length) 0 ++ leB (crc (Qdi id p)))); rw [hb] at h1; rw [e, h1]; simp [Qgg, List.getD, h]
theorem lenB_nat (u : Bool) (s : ByteArray) (h : Qqc u s) : (lenB u s).toNat = if u then s.size else 255 := by
  have h1 := h.1; unfold lenB
  cases u
  · rfl
  · simp; omega
theorem Qfk (id : Nat) (p : Pg) (hp : p.right) (i : Nat) (h : i < 8) : Qsb (Qcc id p) i = p.u i /\ Qpg (Qcc id p) i = (p.s i).size := by
  have h1 := hp.2 i h; have h2 := lenB_nat _ _ h1; have h3 : nAt (Qcc id p) i = if p.u i then (p.s i).size else 255 := by rw [nAt, tale_nAt id p i h, h2]
  have h4 := h1.1
  have h5 : Qsb (Qcc id p) i = p.u i := by
    unfold Qsb; rw [h3]
    cases hu : p.u i
    · simp
    · simp; omega
  refine ⟨h5, ?_⟩; unfold Qpg; rw [h5, h3]
  cases hu : p.u i
  · simp [h1.2 hu]
  · simp
theorem Qus (id : Nat) (p : Pg) (hp : p.right) : ∀ (i : Nat), i <= 8 -> Qgl (Qcc id p) i = 10 + (Qid p i).length
  | 0, _ => by simp [Qgl, Qid]
  | i + 1, h => by
    rw [Qgl, Qus id p hp i (by omega), (Qfk id p hp i (by omega)).2, Qyf, List.length_append, Qlg _ _ (hp.2 i (by omega))]; omega
theorem Qgu (p : Pg) (i : Nat) (h : i < 8) : ∃ c, Qid p 8 = Qid p i ++ (valB (p.u i) (p.s i) ++ c) := by
  have h1 : ∀ d, ∃ c, Qid p (i + 1 + d) = Qid p (i + 1) ++ c := by
    intro d
    induction d with
    | zero => exact ⟨[], by simp⟩
    | succ d ih =>
      obtain ⟨c, hc⟩ := ih; exact ⟨c ++ valB (p.u (i + 1 + d)) (p.s (i + 1 + d)), by rw [<- Nat.add_assoc, Qyf, hc, List.append_assoc]⟩
  obtain ⟨c, hc⟩ := h1 (8 - (i + 1)); have e : i + 1 + (8 - (i + 1)) = 8 := by omega
  rw [e] at hc; exact ⟨c, by rw [hc, Qyf, List.append_assoc]⟩
theorem Qth (s : ByteArray) : (⟨s.data.toList.toArray⟩ : ByteArray) = s := by
  obtain ⟨⟨l⟩⟩ := s; rfl
theorem tale_cut (id : Nat) (p : Pg) (hp : p.right) (i : Nat) (h : i < 8) : Qje (Qcc id p) i = p.s i := by
  have h1 := hp.2 i h; have hu := Qfk id p hp i h; have hpos := Qus id p hp i (by omega); obtain ⟨c, hc⟩ := Qgu p i h
  have e : Qcc id p = (beB 2 id ++ Qgg p 8 ++ Qid p i) ++ (valB (p.u i) (p.s i) ++ (c ++ (List.replicate (236 - (Qlh id p).length) 0 ++ leB (crc (Qdi id p))))) := by
    have e1 : Qcc id p = beB 2 id ++ Qgg p 8 ++ Qid p 8 ++ List.replicate (236 - (Qlh id p).length) 0 ++ leB (crc (Qdi id p)) := by simp [Qcc, Qdi, Qlh]
    rw [e1, hc]; simp
  have hl : (beB 2 id ++ Qgg p 8 ++ Qid p i).length = 10 + (Qid p i).length := by rw [List.length_append, List.length_append, Qz, Qlf]
  unfold Qje; rw [hpos, hu.2, <- Qlg _ _ h1]
  have e2 : ((Qcc id p).drop (10 + (Qid p i).length)).take (valB (p.u i) (p.s i)).length = valB (p.u i) (p.s i) := by
    rw [e, List.drop_left' hl, List.take_left' rfl]
  rw [e2]; unfold valB
  cases hb : p.u i
  · have hz := h1.2 hb; have hz2 : (p.s i).data.toList = [] := List.eq_nil_of_length_eq_zero (by rw [Array.length_toList]; exact hz); have := Qth (p.s i); rw [hz2] at this; exact this
  · exact Qth (p.s i)
theorem Qfm (id : Nat) (p : Pg) (hp : p.right) : (Qrm (Qhb id p)).same p := by
  obtain ⟨h1, _, h3⟩ := Qog id p hp
  refine ⟨?_, fun i hi => ?_⟩
  · show beAt (Qhb id p) 0 8 = p.l; unfold beAt; rw [List.drop_zero, h1]; refine Qhk 8 p.l ?_; have := hp.1; unfold Qce at this; have e : 256 ^ 8 = 18446744073709551616 := by decide
    omega
  · show Qsb (Qba (Qhb id p)) i = p.u i /\ Qje (Qba (Qhb id p)) i = p.s i; rw [h3]; exact ⟨(Qfk id p hp i hi).1, tale_cut id p hp i hi⟩
theorem image_inj {id jd : Nat} {p q : Pg} (hp : p.right) (hq : q.right) (hi : id < 65536) (hj : jd < 65536) (h : Qhb id p = Qhb jd q) : id = jd /\ p.same q := by
  refine ⟨?_, ?_⟩
  · have h1 := (Qog id p hp).2.2; have h2 := (Qog jd q hq).2.2; rw [h, h2] at h1
    have e : ∀ (k : Nat) (r : Pg), (Qcc k r).take 2 = beB 2 k := by
      intro k r; have e1 : Qcc k r = beB 2 k ++ (Qgg r 8 ++ (Qid r 8 ++ (List.replicate (236 - (Qlh k r).length) 0 ++ leB (crc (Qdi k r))))) := by simp [Qcc, Qdi, Qlh]
      rw [e1, List.take_left' (Qz 2 k)]
    have h3 : (Qcc jd q).take 2 = (Qcc id p).take 2 := by rw [h1]
    rw [e, e] at h3; have h4 := Qhk 2 jd (by omega); rw [h3, Qhk 2 id (by omega)] at h4; exact h4
  · have h1 := Qfm id p hp; rw [h] at h1; exact h1.symm.trans (Qfm jd q hq)
def tornB (bs : List UInt8) : Bool := decide (bs.length = 256 /\ bs.take 8 ≠ (bs.drop 128).take 8)
def stampB (bs : List UInt8) : Nat × Bool := if bs.length = 256 /\ tornB bs = false then (beAt bs 0 8, true) else (0, false)
def encB (id : Int) (p : Pg) : List UInt8 × Int := if 0 <= id /\ id <= 31 /\ p.right then (Qhb id.toNat p, 0) else ([], 1)
def decE (id : Int) (bs : List UInt8) : Int :=
  if ¬ (0 <= id /\ id <= 31) then 1 else if bs.length < 256 then 4 else if 256 < bs.length then 2 else if tornB bs = true then 14
  else if ¬ leN ((Qba bs).drop 236) = crc ((Qba bs).take 236) then 3
  else if (Qrm bs).right /\ Qhb id.toNat (Qrm bs) = bs then 0 else 2
def decP (id : Int) (bs : List UInt8) : Pg := if decE id bs = 0 then Qrm bs else Pg.zero
theorem decP_no (id : Int) (bs : List UInt8) (h : decE id bs ≠ 0) : decP id bs = Pg.zero := by unfold decP; rw [if_neg h]
theorem Qon {s t : ByteArray} : s.data.toList = t.data.toList ↔ s = t :=
  ⟨fun h => by rw [<- Qth s, h, Qth], fun h => by rw [h]⟩
structure Ch where
  k : Int
  pg : Int
  sl : Int
  o : ByteArray
  n : ByteArray
def Ch.zero : Ch := ⟨0, 0, 0, ⟨#[]⟩, ⟨#[]⟩⟩
def chA (c : Ch) : Array Value := #[.int .i64 c.k, .int .i64 c.pg, .int .i64 c.sl, .string c.o, .string c.n]
abbrev Ch.kindOk (c : Ch) : Prop := c.k = 1 /\ c.o.size = 0 ∨ c.k = 2 ∨ c.k = 3 /\ c.n.size = 0
abbrev Ch.right (c : Ch) : Prop := (0 <= c.pg /\ c.pg <= 31 /\ 0 <= c.sl /\ c.sl <= 7 /\ c.o.size <= 20 /\ c.n.size <= 20) /\ c.kindOk
def Ch.wantU (c : Ch) : Bool := decide (c.k ≠ 1)
def Ch.wantV (c : Ch) : ByteArray := if c.k = 1 then ⟨#[]⟩ else c.o
def Ch.makeU (c : Ch) : Bool := decide (c.k ≠ 3)
def Ch.makeV (c : Ch) : ByteArray := if c.k = 3 then ⟨#[]⟩ else c.n
def Ch.at (c : Ch) : Nat := c.sl.toNat
def Pg.put (p : Pg) (l i : Nat) (u : Bool) (s : ByteArray) : Pg := ⟨l, fun j => if j = i then u else p.u j, fun j => if j = i then s else p.s j⟩
def appE (p : Pg) (c : Ch) (l : Nat) : Int :=
  if ¬ (p.right /\ c.right /\ l <= Qce) then 1 else if l <= p.l then 13
  else if p.u c.at = true /\ c.wantU = false then 6 else if p.u c.at = false /\ c.wantU = true then 5
  else if p.s c.at ≠ c.wantV then 2 else 0
def Qsp (p : Pg) (c : Ch) (l : Nat) : Pg := if appE p c l = 0 then p.put l c.at c.makeU c.makeV else Pg.zero
def invE (c : Ch) : Int := if c.right then 0 else 1
def Qfe (c : Ch) : Ch := if c.right then ⟨4 - c.k, c.pg, c.sl, c.n, c.o⟩ else Ch.zero
def Qlq (pg sl : Int) (fu : Bool) (fv : ByteArray) (tu : Bool) (tv : ByteArray) : Ch := ⟨if tu = false then 3 else if fu = false then 1 else 2, pg, sl, fv, tv⟩
def ofE (pg sl : Int) (fu : Bool) (fv : ByteArray) (tu : Bool) (tv : ByteArray) : Int :=
  if (fu = false /\ fv.size ≠ 0) ∨ (tu = false /\ tv.size ≠ 0) then 1 else if ¬ (Qlq pg sl fu fv tu tv).right then 1 else if fu = false /\ tu = false then 5 else 0
def ofC (pg sl : Int) (fu : Bool) (fv : ByteArray) (tu : Bool) (tv : ByteArray) : Ch := if ofE pg sl fu fv tu tv = 0 then Qlq pg sl fu fv tu tv else Ch.zero
theorem app_no (p : Pg) (c : Ch) (l : Nat) (h : appE p c l ≠ 0) : Qsp p c l = Pg.zero := by unfold Qsp; rw [if_neg h]
theorem app_yes (p : Pg) (c : Ch) (l : Nat) : appE p c l = 0 ↔ p.right /\ c.right /\ l <= Qce /\ p.l < l /\ p.u c.at = c.wantU /\ p.s c.at = c.wantV := by
  unfold appE
  constructor
  · intro h
    split at h
    · cases h
    · rename_i h1; have h1 : p.right /\ c.right /\ l <= Qce := Decidable.of_not_not h1
      split at h
      · cases h
      · rename_i h2
        split at h
        · cases h
        · rename_i h3
          split at h
          · cases h
          · rename_i h4
            split at h
            · cases h
            · rename_i h5; refine ⟨h1.1, h1.2.1, h1.2.2, by omega, ?_, Decidable.of_not_not h5⟩; cases hu : p.u c.at <;> cases hw : c.wantU <;> simp_all
  · rintro ⟨h1, h2, h3, h4, h5, h6⟩; rw [if_neg (fun h => h ⟨h1, h2, h3⟩), if_neg (by omega), if_neg (by rw [h5]; intro h; rw [h.1] at h; cases h.2), if_neg (by rw [h5]; intro h; rw [h.1] at h; cases h.2), if_neg (by rw [h6]; simp)]
theorem size0 (s : ByteArray) (h : s.size = 0) : s = ⟨#[]⟩ := by
  obtain ⟨⟨l⟩⟩ := s; have : l = [] := List.eq_nil_of_length_eq_zero h; subst this; rfl
theorem Ch.right.at_lt {c : Ch} (h : c.right) : c.at < 8 := by
  have h1 := h.1; unfold Ch.at; omega
theorem Qyk (p : Pg) (c : Ch) (l : Nat) (hp : p.right) (hc : c.right) (hl : l <= Qce) : (p.put l c.at c.makeU c.makeV).right := by
  refine ⟨hl, fun i hi => ?_⟩; show Qqc (if i = c.at then c.makeU else p.u i) (if i = c.at then c.makeV else p.s i)
  by_cases h : i = c.at
  · rw [if_pos h, if_pos h]; have h1 := hc.1
    refine ⟨?_, ?_⟩
    · unfold Ch.makeV
      split
      · show (0 : Nat) <= 20; omega
      · exact h1.2.2.2.2.2
    · unfold Ch.makeU Ch.makeV; intro hk; have : c.k = 3 := by simpa using hk
      rw [if_pos this]; rfl
  · rw [if_neg h, if_neg h]; exact hp.2 i hi
theorem Qqe (c : Ch) (h : c.right) : (Qfe c).right /\ (Qfe c).at = c.at /\ (Qfe c).wantU = c.makeU /\ (Qfe c).wantV = c.makeV /\ (Qfe c).makeU = c.wantU /\ (Qfe c).makeV = c.wantV /\ (Qfe c).sl = c.sl := by
  have e : Qfe c = ⟨4 - c.k, c.pg, c.sl, c.n, c.o⟩ := by unfold Qfe; rw [if_pos h]
  rw [e]; obtain ⟨h1, h2⟩ := h
  refine ⟨⟨⟨h1.1, h1.2.1, h1.2.2.1, h1.2.2.2.1, h1.2.2.2.2.2, h1.2.2.2.2.1⟩, ?_⟩, rfl, ?_, ?_, ?_, ?_, rfl⟩
  · unfold Ch.kindOk at h2 |-
    rcases h2 with ⟨h3, h4⟩ | h3 | ⟨h3, h4⟩
    · exact .inr (.inr ⟨by show 4 - c.k = 3; omega, h4⟩)
    · exact .inr (.inl (by show 4 - c.k = 2; omega))
    · exact .inl ⟨by show 4 - c.k = 1; omega, h4⟩
  · unfold Ch.wantU Ch.makeU; exact decide_eq_decide.2 (by show 4 - c.k ≠ 1 ↔ c.k ≠ 3; omega)
  · unfold Ch.wantV Ch.makeV
    by_cases hk : c.k = 3
    · rw [if_pos hk, if_pos (by show 4 - c.k = 1; omega)]
    · rw [if_neg hk, if_neg (by show ¬ 4 - c.k = 1; omega)]
  · unfold Ch.wantU Ch.makeU; exact decide_eq_decide.2 (by show 4 - c.k ≠ 3 ↔ c.k ≠ 1; omega)
  · unfold Ch.wantV Ch.makeV
    by_cases hk : c.k = 1
    · rw [if_pos hk, if_pos (by show 4 - c.k = 3; omega)]
    · rw [if_neg hk, if_neg (by show ¬ 4 - c.k = 3; omega)]
theorem put_at (p : Pg) (l i : Nat) (u : Bool) (s : ByteArray) : (p.put l i u s).u i = u /\ (p.put l i u s).s i = s := by
  unfold Pg.put; simp
theorem put_other (p : Pg) (l i j : Nat) (u : Bool) (s : ByteArray) (h : j ≠ i) : (p.put l i u s).u j = p.u j /\ (p.put l i u s).s j = p.s j := by
  unfold Pg.put; simp [h]
structure Tx where
  t : Int
  s : Int
  f : Nat
  l : Nat
  n : Nat
structure Di where
  p : Int
  r : Nat
def Tx.zero : Tx := ⟨0, 0, 0, 0, 0⟩
def Di.zero : Di := ⟨0, 0⟩
structure Rec where
  k : Int
  l : Nat
  t : Int
  p : Nat
  c : Ch
  n : Nat
  s : Int
  b : Nat
  ts : List Tx
  ds : List Di
def Rec.zero : Rec := ⟨0, 0, 0, 0, Ch.zero, 0, 0, 0, [], []⟩
def Qdx (l : Nat) (x : Tx) : Prop := 1 <= x.t /\ x.t <= 1048575 /\ 1 <= x.s /\ x.s <= 3 /\ 1 <= x.f /\ x.f <= x.l /\ x.l < l /\ x.n <= x.l
def diOk (l : Nat) (d : Di) : Prop := 0 <= d.p /\ d.p <= 31 /\ 1 <= d.r /\ d.r < l
def txAt (l : Nat) (ts : List Tx) (i : Nat) : Prop := Qdx l (ts.getD i Tx.zero) /\ (0 < i -> (ts.getD (i - 1) Tx.zero).t < (ts.getD i Tx.zero).t)
def Qcx (l : Nat) (ds : List Di) (i : Nat) : Prop := diOk l (ds.getD i Di.zero) /\ (0 < i -> (ds.getD (i - 1) Di.zero).p < (ds.getD i Di.zero).p)
def Rec.rows (r : Rec) : Prop := r.ts.length <= 16 /\ r.ds.length <= 32 /\ (∀ i, i < r.ts.length -> txAt r.l r.ts i) /\ (∀ i, i < r.ds.length -> Qcx r.l r.ds i) /\ 1 <= r.b /\ r.b < r.l
structure Rec.right (r : Rec) : Prop where
  k1 : 1 <= r.k
  k8 : r.k <= 8
  l1 : 1 <= r.l
  lm : r.l <= Qce
  own : r.k <= 6 -> 1 <= r.t /\ r.t <= 1048575 /\ r.p < r.l
  none : 6 < r.k -> r.t = 0 /\ r.p = 0
  ch : r.k <= 2 -> r.c.right
  noch : 2 < r.k -> r.c = Ch.zero
  next : r.k = 2 -> r.n < r.l
  nonext : r.k ≠ 2 -> r.n = 0
  save : r.k = 6 -> 1 <= r.s /\ r.s <= 8
  nosave : r.k ≠ 6 -> r.s = 0
  check : r.k = 8 -> r.rows
  nocheck : r.k ≠ 8 -> r.b = 0 /\ r.ts = [] /\ r.ds = []
def txOkD (l : Nat) (x : Tx) : Decidable (Qdx l x) := inferInstanceAs (Decidable (1 <= x.t /\ x.t <= 1048575 /\ 1 <= x.s /\ x.s <= 3 /\ 1 <= x.f /\ x.f <= x.l /\ x.l < l /\ x.n <= x.l))
def diOkD (l : Nat) (d : Di) : Decidable (diOk l d) := inferInstanceAs (Decidable (0 <= d.p /\ d.p <= 31 /\ 1 <= d.r /\ d.r < l))
def txAtD (l : Nat) (ts : List Tx) (i : Nat) : Decidable (txAt l ts i) :=
  have := txOkD l (ts.getD i Tx.zero)
  inferInstanceAs (Decidable (Qdx l (ts.getD i Tx.zero) /\ (0 < i -> (ts.getD (i - 1) Tx.zero).t < (ts.getD i Tx.zero).t)))
def diAtD (l : Nat) (ds : List Di) (i : Nat) : Decidable (Qcx l ds i) :=
  have := diOkD l (ds.getD i Di.zero)
  inferInstanceAs (Decidable (diOk l (ds.getD i Di.zero) /\ (0 < i -> (ds.getD (i - 1) Di.zero).p < (ds.getD i Di.zero).p)))
def Rec.rowsD (r : Rec) : Decidable r.rows :=
  have : ∀ i, Decidable (txAt r.l r.ts i) := fun i => txAtD r.l r.ts i
  have : ∀ i, Decidable (Qcx r.l r.ds i) := fun i => diAtD r.l r.ds i
  inferInstanceAs (Decidable (r.ts.length <= 16 /\ r.ds.length <= 32 /\ (∀ i, i < r.ts.length -> txAt r.l r.ts i) /\ (∀ i, i < r.ds.length -> Qcx r.l r.ds i) /\ 1 <= r.b /\ r.b < r.l))
theorem Qbl (c : Ch) : (c.k = 0 /\ c.pg = 0 /\ c.sl = 0 /\ c.o.data.toList = [] /\ c.n.data.toList = []) ↔ c = Ch.zero := by
  constructor
  · rintro ⟨h1, h2, h3, h4, h5⟩; obtain ⟨k, pg, sl, ⟨o⟩, ⟨n⟩⟩ := c; simp only at h1 h2 h3 h4 h5; subst h1 h2 h3; have e4 : o = #[] := by simpa using h4
    have e5 : n = #[] := by simpa using h5
    subst e4 e5; rfl
  · rintro rfl; exact ⟨rfl, rfl, rfl, rfl, rfl⟩
theorem Qpm (r : Rec) : ((1 <= r.k /\ r.k <= 8 /\ 1 <= r.l /\ r.l <= Qce) /\ (r.k <= 6 -> 1 <= r.t /\ r.t <= 1048575 /\ r.p < r.l) /\ (6 < r.k -> r.t = 0 /\ r.p = 0) /\ (r.k <= 2 -> r.c.right) /\ (2 < r.k -> (r.c.k = 0 /\ r.c.pg = 0 /\ r.c.sl = 0 /\ r.c.o.data.toList = [] /\ r.c.n.data.toList = [])) /\ (r.k = 2 -> r.n < r.l) /\ (r.k ≠ 2 -> r.n = 0) /\ (r.k = 6 -> 1 <= r.s /\ r.s <= 8) /\ (r.k ≠ 6 -> r.s = 0) /\ (r.k = 8 -> r.rows) /\ (r.k ≠ 8 -> r.b = 0 /\ r.ts.length = 0 /\ r.ds.length = 0)) ↔ r.right := by
  constructor
  · rintro ⟨⟨h1, h2, h3, h4⟩, h5, h6, h7, h8, h9, h10, h11, h12, h13, h14⟩; exact ⟨h1, h2, h3, h4, h5, h6, h7, fun h => (Qbl _).1 (h8 h), h9, h10, h11, h12, h13, fun h => ⟨(h14 h).1, List.eq_nil_of_length_eq_zero (h14 h).2.1, List.eq_nil_of_length_eq_zero (h14 h).2.2⟩⟩
  · intro h; exact ⟨⟨h.k1, h.k8, h.l1, h.lm⟩, h.own, h.none, h.ch, fun q => (Qbl _).2 (h.noch q), h.next, h.nonext, h.save, h.nosave, h.check, fun q => ⟨(h.nocheck q).1, by rw [(h.nocheck q).2.1]; rfl, by rw [(h.nocheck q).2.2]; rfl⟩⟩
def Rec.rightD (r : Rec) : Decidable r.right :=
  have := r.rowsD
  have : Decidable (r.k <= 6 -> 1 <= r.t /\ r.t <= 1048575 /\ r.p < r.l) := inferInstance
  have : Decidable (6 < r.k -> r.t = 0 /\ r.p = 0) := inferInstance
  have : Decidable (r.k <= 2 -> r.c.right) := inferInstance
  have : Decidable (2 < r.k -> (r.c.k = 0 /\ r.c.pg = 0 /\ r.c.sl = 0 /\ r.c.o.data.toList = [] /\ r.c.n.data.toList = [])) := inferInstance
  have : Decidable (r.k = 6 -> 1 <= r.s /\ r.s <= 8) := inferInstance
  have : Decidable (r.k = 8 -> r.rows) := inferInstance
  have : Decidable (r.k ≠ 8 -> r.b = 0 /\ r.ts.length = 0 /\ r.ds.length = 0) := inferInstance
  decidable_of_iff _ (Qpm r)
def Rec.rightB (r : Rec) : Bool := @decide r.right r.rightD
theorem Qzh {r : Rec} (h : r.right) : r.rightB = true := by
  unfold Rec.rightB; exact @decide_eq_true _ r.rightD h
theorem Qjo {r : Rec} (h : ¬ r.right) : r.rightB = false := by
  unfold Rec.rightB; exact @decide_eq_false _ r.rightD h
theorem Qei {r : Rec} : r.rightB = true ↔ r.right := by
  constructor
  · intro h
    by_cases hr : r.right
    · exact hr
    · rw [Qjo hr] at h; cases h
  · exact Qzh
def chB (c : Ch) : List UInt8 := beB 1 c.k.toNat ++ (beB 2 c.pg.toNat ++ (beB 1 c.sl.toNat ++ (Qjd c.o.data.toList ++ Qjd c.n.data.toList)))
def txB (x : Tx) : List UInt8 := beB 4 x.t.toNat ++ (beB 1 x.s.toNat ++ (beB 8 x.f ++ (beB 8 x.l ++ beB 8 x.n)))
def diB (d : Di) : List UInt8 := beB 2 d.p.toNat ++ beB 8 d.r
def txsB (ts : List Tx) : List UInt8 := ts.flatMap txB
def disB (ds : List Di) : List UInt8 := ds.flatMap diB
def Qbf (b : Nat) (ts : List Tx) (ds : List Di) : List UInt8 := beB 8 b ++ (beB 1 ts.length ++ (txsB ts ++ (beB 1 ds.length ++ disB ds)))
def Qtg (q : Prop) [Decidable q] (b : List UInt8) : List UInt8 := if q then b else []
def Qjg (r : Rec) : List UInt8 :=
  beB 1 r.k.toNat ++ (beB 8 r.l ++ (beB 4 r.t.toNat ++ (beB 8 r.p ++ (Qtg (r.k <= 2) (chB r.c) ++ (Qtg (r.k = 2) (beB 8 r.n) ++ (Qtg (r.k = 6) (beB 1 r.s.toNat) ++ Qtg (r.k = 8) (Qbf r.b r.ts r.ds)))))))
structure St where
  l : List UInt8
  e : Int
def Qgb {α β : Type} (p : St -> α × St) (q : α -> St -> β × St) (s : St) : β × St := q (p s).1 (p s).2
def Qvi {α : Type} (a : α) (s : St) : α × St := (a, s)
def Qxa (w : Nat) (s : St) : Nat × St := if s.e ≠ 0 then (0, s) else if w <= s.l.length then (be (s.l.take w), ⟨s.l.drop w, 0⟩) else (0, ⟨[], 4⟩)
def Qrc (s : St) : ByteArray × St :=
  if s.e ≠ 0 then (⟨#[]⟩, s) else match s.l with
    | [] => (⟨#[]⟩, ⟨[], 4⟩)
    | b :: l => if b.toNat <= l.length then (⟨(l.take b.toNat).toArray⟩, ⟨l.drop b.toNat, 0⟩) else (⟨#[]⟩, ⟨[], 4⟩)
def pIn (lo hi : Nat) (s : St) : Nat × St := if (Qxa 1 s).2.e = 0 /\ ((Qxa 1 s).1 < lo ∨ hi < (Qxa 1 s).1) then ((Qxa 1 s).1, ⟨(Qxa 1 s).2.l, 2⟩) else Qxa 1 s
def pCh : St -> Ch × St := Qgb (Qxa 1) fun k => Qgb (Qxa 2) fun pg => Qgb (Qxa 1) fun sl => Qgb Qrc fun o => Qgb Qrc fun n => Qvi ⟨k, pg, sl, o, n⟩
def pTx : St -> Tx × St := Qgb (Qxa 4) fun t => Qgb (Qxa 1) fun s => Qgb (Qxa 8) fun f => Qgb (Qxa 8) fun l => Qgb (Qxa 8) fun n => Qvi ⟨t, s, f, l, n⟩
def pDi : St -> Di × St := Qgb (Qxa 2) fun p => Qgb (Qxa 8) fun r => Qvi ⟨p, r⟩
def Qua {α : Type} (p : St -> α × St) : Nat -> St -> List α × St
  | 0, s => ([], s)
  | n + 1, s => if s.e ≠ 0 then ([], s) else ((p s).1 :: (Qua p n (p s).2).1, (Qua p n (p s).2).2)
def Qtd : St -> (Nat × List Tx × List Di) × St := Qgb (Qxa 8) fun b => Qgb (pIn 0 16) fun n => Qgb (Qua pTx n) fun ts => Qgb (pIn 0 32) fun m => Qgb (Qua pDi m) fun ds => Qvi (b, ts, ds)
def Qoi {α : Type} (q : Prop) [Decidable q] (z : α) (p : St -> α × St) : St -> α × St := if q then p else Qvi z
def Qkl : St -> Rec × St :=
  Qgb (pIn 1 8) fun k => Qgb (Qxa 8) fun l => Qgb (Qxa 4) fun t => Qgb (Qxa 8) fun p => Qgb (Qoi (k <= 2) Ch.zero pCh) fun c => Qgb (Qoi (k = 2) 0 (Qxa 8)) fun n => Qgb (Qoi (k = 6) 0 (Qxa 1)) fun s =>
    Qgb (Qoi (k = 8) (0, [], []) Qtd) fun x => Qvi ⟨k, l, t, p, c, n, s, x.1, x.2.1, x.2.2⟩
def Qol (b : List UInt8) : Rec × Int :=
  if (Qkl ⟨b, 0⟩).2.e ≠ 0 then (Rec.zero, (Qkl ⟨b, 0⟩).2.e) else if (Qkl ⟨b, 0⟩).2.l ≠ [] ∨ (Qkl ⟨b, 0⟩).1.rightB = false then (Rec.zero, 2) else ((Qkl ⟨b, 0⟩).1, 0)
def Qw {α : Type} (p : St -> α × St) (a : α) (bs : List UInt8) : Prop := ∀ l, p ⟨bs ++ l, 0⟩ = (a, ⟨l, 0⟩)
theorem Qw.bind {α β : Type} {p : St -> α × St} {q : α -> St -> β × St} {a : α} {c : β} {bs cs : List UInt8} (h : Qw p a bs) (g : Qw (q a) c cs) : Qw (Qgb p q) c (bs ++ cs) := fun l => by
  unfold Qgb; rw [List.append_assoc, h (cs ++ l)]; exact g l
theorem Qw.pure {α : Type} (a : α) : Qw (Qvi a) a [] := fun l => rfl
theorem Qw.last {α β : Type} {p : St -> α × St} {q : α -> St -> β × St} {a : α} {c : β} {bs : List UInt8} (h : Qw p a bs) (g : Qw (q a) c []) : Qw (Qgb p q) c bs := by
  have := h.bind g; rwa [List.append_nil] at this
theorem Qw.num (w n : Nat) (h : n < 256 ^ w) : Qw (Qxa w) n (beB w n) := fun l => by
  unfold Qxa; have hl := Qz w n; rw [if_neg (by simp), if_pos (by simp only [List.length_append]; omega)]; simp only; rw [List.take_left' hl, List.drop_left' hl, Qhk w n h]
theorem Qw.text (s : ByteArray) (h : s.size <= 255) : Qw Qrc s (Qjd s.data.toList) := fun l => by
  unfold Qrc Qjd
  have hz : (UInt8.ofNat s.size).toNat = s.size := by
    rw [Qvb]; omega
  rw [if_neg (by simp)]; simp only [List.cons_append, Qkb, hz, List.length_append]; rw [if_pos (by omega), List.take_left' (Qkb s), List.drop_left' (Qkb s), mk_self]
theorem Qw.in (lo hi n : Nat) (h : n < 256) (h1 : lo <= n) (h2 : n <= hi) : Qw (pIn lo hi) n (beB 1 n) := fun l => by
  unfold pIn; rw [Qw.num 1 n (by omega) l, if_neg (by simp only; omega)]
theorem Qw.some {α : Type} {p : St -> α × St} {f : α -> List UInt8} : ∀ (xs : List α), (∀ x ∈ xs, Qw p x (f x)) -> Qw (Qua p xs.length) xs (xs.flatMap f)
  | [], _ => fun l => rfl
  | x :: xs, h => fun l => by
    have h1 := h x (by simp); have h2 := Qw.some xs (fun y hy => h y (by simp [hy])); show Qua p (xs.length + 1) ⟨(f x ++ xs.flatMap f) ++ l, 0⟩ = _; unfold Qua; rw [if_neg (by simp), List.append_assoc, h1 (xs.flatMap f ++ l), h2 l]
theorem Qw.may {α : Type} {q : Prop} [Decidable q] {z a : α} {p : St -> α × St} {bs : List UInt8} (h1 : q -> Qw p a bs) (h2 : ¬ q -> a = z) : Qw (Qoi q z p) a (Qtg q bs) := by
  unfold Qoi Qtg
  by_cases h : q
  · rw [if_pos h, if_pos h]; exact h1 h
  · rw [if_neg h, if_neg h, h2 h]; exact Qw.pure z
theorem Qw.same {α : Type} {a b : α} (h : b = a) : Qw (Qvi a) b [] := by
  subst h; exact Qw.pure _
theorem Qxc (k : Int) (h : 0 <= k) : ((k.toNat : Nat) : Int) = k := Int.toNat_of_nonneg h
theorem Qw.ch (c : Ch) (h : c.right) : Qw pCh c (chB c) := by
  obtain ⟨h1, h2⟩ := h; have hk : 1 <= c.k /\ c.k <= 3 := by rcases h2 with h | h | h <;> omega
  have e : c = ⟨(c.k.toNat : Nat), (c.pg.toNat : Nat), (c.sl.toNat : Nat), c.o, c.n⟩ := by
    rw [Qxc _ (by omega), Qxc _ (by omega), Qxc _ (by omega)]
  unfold pCh chB; refine (Qw.num 1 _ (by omega)).bind ((Qw.num 2 _ (by omega)).bind ((Qw.num 1 _ (by omega)).bind ((Qw.text c.o (by omega)).bind ((Qw.text c.n (by omega)).last ?_)))); exact Qw.same e
theorem Qw.tx (l : Nat) (x : Tx) (hl : l <= Qce) (h : Qdx l x) : Qw pTx x (txB x) := by
  obtain ⟨h1, h2, h3, h4, h5, h6, h7, h8⟩ := h
  have e : x = ⟨(x.t.toNat : Nat), (x.s.toNat : Nat), x.f, x.l, x.n⟩ := by
    rw [Qxc _ (by omega), Qxc _ (by omega)]
  unfold Qce at hl; unfold pTx txB; refine (Qw.num 4 _ (by omega)).bind ((Qw.num 1 _ (by omega)).bind ((Qw.num 8 _ (by omega)).bind ((Qw.num 8 _ (by omega)).bind ((Qw.num 8 _ (by omega)).last ?_)))); exact Qw.same e
theorem Qw.di (l : Nat) (d : Di) (hl : l <= Qce) (h : diOk l d) : Qw pDi d (diB d) := by
  obtain ⟨h1, h2, h3, h4⟩ := h; have e : d = ⟨(d.p.toNat : Nat), d.r⟩ := by rw [Qxc _ (by omega)]
  unfold Qce at hl; unfold pDi diB; refine (Qw.num 2 _ (by omega)).bind ((Qw.num 8 _ (by omega)).last ?_); exact Qw.same e
theorem Qpr {α : Type} (xs : List α) (z x : α) (h : x ∈ xs) : ∃ i, i < xs.length /\ xs.getD i z = x := by
  obtain ⟨i, hi, he⟩ := List.mem_iff_getElem.1 h; exact ⟨i, hi, by simp [List.getD, hi, he]⟩
theorem Qw.check (r : Rec) (hl : r.l <= Qce) (h : r.rows) : Qw Qtd (r.b, r.ts, r.ds) (Qbf r.b r.ts r.ds) := by
  obtain ⟨h1, h2, h3, h4, h5, h6⟩ := h
  have g1 : ∀ x ∈ r.ts, Qw pTx x (txB x) := fun x hx => by
    obtain ⟨i, hi, rfl⟩ := Qpr r.ts Tx.zero x hx; exact Qw.tx r.l _ hl (h3 i hi).1
  have g2 : ∀ x ∈ r.ds, Qw pDi x (diB x) := fun x hx => by
    obtain ⟨i, hi, rfl⟩ := Qpr r.ds Di.zero x hx; exact Qw.di r.l _ hl (h4 i hi).1
  unfold Qce at hl; unfold Qtd Qbf; exact (Qw.num 8 _ (by omega)).bind ((Qw.in 0 16 _ (by omega) (by omega) h1).bind ((Qw.some r.ts g1).bind ((Qw.in 0 32 _ (by omega) (by omega) h2).bind ((Qw.some r.ds g2).last (Qw.pure _)))))
theorem Qw.rec (r : Rec) (h : r.right) : Qw Qkl r (Qjg r) := by
  have hk1 := h.k1; have hk8 := h.k8
  have ht : 0 <= r.t /\ r.t < 4294967296 := by
    by_cases hk : r.k <= 6
    · have := h.own hk; omega
    · have := h.none (by omega); omega
  have hp : r.p < 256 ^ 8 := by
    have hl := h.lm; unfold Qce at hl
    by_cases hk : r.k <= 6
    · have := h.own hk; omega
    · have := h.none (by omega); omega
  have hll := h.lm
  have hs : 0 <= r.s /\ r.s < 256 := by
    by_cases hk : r.k = 6
    · have := h.save hk; omega
    · have := h.nosave hk; omega
  have hn : r.n < 256 ^ 8 := by
    unfold Qce at hll
    by_cases hk : r.k = 2
    · have := h.next hk; omega
    · have := h.nonext hk; omega
  have e : r = ⟨(r.k.toNat : Nat), r.l, (r.t.toNat : Nat), r.p, r.c, r.n, (r.s.toNat : Nat), (r.b, r.ts, r.ds).1, (r.b, r.ts, r.ds).2.1, (r.b, r.ts, r.ds).2.2⟩ := by
    rw [Qxc _ (by omega), Qxc _ ht.1, Qxc _ hs.1]
  have ek := Qxc r.k (by omega)
  have m1 : Qtg (r.k <= 2) (chB r.c) = Qtg (r.k.toNat <= 2) (chB r.c) := by
    unfold Qtg
    by_cases hk : r.k <= 2
    · rw [if_pos hk, if_pos (by omega)]
    · rw [if_neg hk, if_neg (by omega)]
  have m2 : Qtg (r.k = 2) (beB 8 r.n) = Qtg (r.k.toNat = 2) (beB 8 r.n) := by
    unfold Qtg
    by_cases hk : r.k = 2
    · rw [if_pos hk, if_pos (by omega)]
    · rw [if_neg hk, if_neg (by omega)]
  have m3 : Qtg (r.k = 6) (beB 1 r.s.toNat) = Qtg (r.k.toNat = 6) (beB 1 r.s.toNat) := by
    unfold Qtg
    by_cases hk : r.k = 6
    · rw [if_pos hk, if_pos (by omega)]
    · rw [if_neg hk, if_neg (by omega)]
  have m4 : Qtg (r.k = 8) (Qbf r.b r.ts r.ds) = Qtg (r.k.toNat = 8) (Qbf r.b r.ts r.ds) := by
    unfold Qtg
    by_cases hk : r.k = 8
    · rw [if_pos hk, if_pos (by omega)]
    · rw [if_neg hk, if_neg (by omega)]
  unfold Qkl Qjg; rw [m1, m2, m3, m4]
  refine (Qw.in 1 8 _ (by omega) (by omega) (by omega)).bind ((Qw.num 8 r.l (by unfold Qce at hll; omega)).bind ((Qw.num 4 _ (by omega)).bind ((Qw.num 8 r.p hp).bind ((Qw.may (a := r.c) (fun hk => Qw.ch r.c (h.ch (by omega))) (fun hk => h.noch (by omega))).bind ((Qw.may (a := r.n) (fun hk => Qw.num 8 r.n hn) (fun hk => h.nonext (by omega))).bind
    ((Qw.may (a := r.s.toNat) (fun hk => Qw.num 1 _ (by omega)) (fun hk => by have := h.nosave (by omega); omega)).bind ((Qw.may (a := (r.b, r.ts, r.ds)) (fun hk => Qw.check r hll (h.check (by omega))) (fun hk => by obtain ⟨a1, a2, a3⟩ := h.nocheck (by omega); rw [a1, a2, a3])).last ?_)))))))
  exact Qw.same e
theorem Qhq (r : Rec) (h : r.right) : Qol (Qjg r) = (r, 0) := by
  have h1 := Qw.rec r h []; rw [List.append_nil] at h1; unfold Qol; rw [h1, if_neg (by simp), if_neg]; simp [Qzh h]
theorem dec_more (r : Rec) (h : r.right) (t : List UInt8) (ht : t ≠ []) : Qol (Qjg r ++ t) = (Rec.zero, 2) := by
  unfold Qol; rw [Qw.rec r h t, if_neg (by simp), if_pos (.inl ht)]
theorem beB_be : ∀ (bs : List UInt8), beB bs.length (be bs) = bs
  | [] => rfl
  | b :: bs => by
    have h := Qau bs; have hp : 0 < 256 ^ bs.length := Nat.pow_pos (by omega); rw [be_cons, List.length_cons, Qnh, Qgn]
    have e1 : (b.toNat * 256 ^ bs.length + be bs) / 256 ^ bs.length = b.toNat := by
      rw [Nat.mul_comm, Nat.mul_add_div hp, Nat.div_eq_of_lt h, Nat.add_zero]
    have e2 : (b.toNat * 256 ^ bs.length + be bs) % 256 ^ bs.length = be bs := by
      rw [Nat.mul_comm, Nat.mul_add_mod, Nat.mod_eq_of_lt h]
    rw [e1, e2, beB_be bs]; congr 1; simp
def Qqa {α : Type} (p : St -> α × St) (f : α -> List UInt8) : Prop := ∀ s, (p s).2.e = 0 -> s.e = 0 /\ s.l = f (p s).1 ++ (p s).2.l
theorem Qqa.num (w : Nat) : ∀ s, (Qxa w s).2.e = 0 -> s.e = 0 /\ s.l = beB w (Qxa w s).1 ++ (Qxa w s).2.l /\ (Qxa w s).1 < 256 ^ w := by
  intro s; unfold Qxa
  by_cases he : s.e = 0
  · rw [if_neg (by simpa using he)]
    by_cases hw : w <= s.l.length
    · rw [if_pos hw]; intro _; have hl : (s.l.take w).length = w := by rw [List.length_take]; omega
      refine ⟨he, ?_, ?_⟩
      · show s.l = beB w (be (s.l.take w)) ++ s.l.drop w; have h := beB_be (s.l.take w); rw [hl] at h; rw [h, List.take_append_drop]
      · have h := Qau (s.l.take w); rwa [hl] at h
    · rw [if_neg hw]; intro h; cases h
  · rw [if_pos he]; intro h; exact absurd h he
theorem Qqa.text : ∀ s, (Qrc s).2.e = 0 -> s.e = 0 /\ s.l = Qjd (Qrc s).1.data.toList ++ (Qrc s).2.l := by
  intro s; unfold Qrc
  by_cases he : s.e = 0
  · rw [if_neg (by simpa using he)]; obtain ⟨l, e⟩ := s
    cases l with
    | nil => intro h; cases h
    | cons b l =>
      simp only
      by_cases hb : b.toNat <= l.length
      · rw [if_pos hb]; intro _; refine ⟨he, ?_⟩; show b :: l = Qjd (l.take b.toNat) ++ l.drop b.toNat; unfold Qjd; have hl : (l.take b.toNat).length = b.toNat := by rw [List.length_take]; omega
        rw [hl, List.cons_append, List.take_append_drop]; congr 1; simp
      · rw [if_neg hb]; intro h; cases h
  · rw [if_pos he]; intro h; exact absurd h he
theorem Qqa.in (lo hi : Nat) : ∀ s, (pIn lo hi s).2.e = 0 -> s.e = 0 /\ s.l = beB 1 (pIn lo hi s).1 ++ (pIn lo hi s).2.l /\ lo <= (pIn lo hi s).1 /\ (pIn lo hi s).1 <= hi := by
  intro s; unfold pIn
  by_cases h : (Qxa 1 s).2.e = 0 /\ ((Qxa 1 s).1 < lo ∨ hi < (Qxa 1 s).1)
  · rw [if_pos h]; intro h2; cases h2
  · rw [if_neg h]; intro h2; obtain ⟨h3, h4, _⟩ := Qqa.num 1 s h2; exact ⟨h3, h4, by omega, by omega⟩
theorem Qqa.ch : Qqa pCh chB := by
  intro s h; have h5 := Qqa.text _ h; have h4 := Qqa.text _ h5.1; have h3 := Qqa.num 1 _ h4.1; have h2 := Qqa.num 2 _ h3.1; have h1 := Qqa.num 1 _ h2.1; refine ⟨h1.1, ?_⟩; rw [h1.2.1, h2.2.1, h3.2.1, h4.2, h5.2]; show _ = (beB 1 _ ++ (beB 2 _ ++ (beB 1 _ ++ (Qjd _ ++ Qjd _)))) ++ _; simp only [List.append_assoc]; rfl
theorem Qqa.tx : Qqa pTx txB := by
  intro s h; have h5 := Qqa.num 8 _ h; have h4 := Qqa.num 8 _ h5.1; have h3 := Qqa.num 8 _ h4.1; have h2 := Qqa.num 1 _ h3.1; have h1 := Qqa.num 4 _ h2.1; refine ⟨h1.1, ?_⟩; rw [h1.2.1, h2.2.1, h3.2.1, h4.2.1, h5.2.1]; show _ = (beB 4 _ ++ (beB 1 _ ++ (beB 8 _ ++ (beB 8 _ ++ beB 8 _)))) ++ _; simp only [List.append_assoc]; rfl
theorem Qqa.di : Qqa pDi diB := by
  intro s h; have h2 := Qqa.num 8 _ h; have h1 := Qqa.num 2 _ h2.1; refine ⟨h1.1, ?_⟩; rw [h1.2.1, h2.2.1]; show _ = (beB 2 _ ++ beB 8 _) ++ _; simp only [List.append_assoc]; rfl
theorem Qqa.some {α : Type} {p : St -> α × St} {f : α -> List UInt8} (hp : Qqa p f) : ∀ n s, (Qua p n s).2.e = 0 -> s.e = 0 /\ s.l = (Qua p n s).1.flatMap f ++ (Qua p n s).2.l /\ (Qua p n s).1.length = n
  | 0, s => fun h => ⟨h, rfl, rfl⟩
  | n + 1, s => by
    unfold Qua
    by_cases he : s.e = 0
    · rw [if_neg (by simpa using he)]; intro h; obtain ⟨h1, h2, h3⟩ := Qqa.some hp n (p s).2 h; obtain ⟨_, h4⟩ := hp s h1; refine ⟨he, ?_, by show (Qua p n (p s).2).1.length + 1 = n + 1; rw [h3]⟩; rw [h4]; conv => lhs; rw [h2]
      show _ = (f _ ++ _) ++ _; rw [List.append_assoc]; rfl
    · rw [if_pos he]; intro h; exact absurd h he
theorem Qqa.check : ∀ s, (Qtd s).2.e = 0 -> s.e = 0 /\ s.l = Qbf (Qtd s).1.1 (Qtd s).1.2.1 (Qtd s).1.2.2 ++ (Qtd s).2.l := by
  intro s h; have h5 := Qqa.some Qqa.di _ _ h; have h4 := Qqa.in 0 32 _ h5.1; have h3 := Qqa.some Qqa.tx _ _ h4.1; have h2 := Qqa.in 0 16 _ h3.1; have h1 := Qqa.num 8 _ h2.1; refine ⟨h1.1, ?_⟩
  have e : ∀ (b n m : Nat) (ts : List Tx) (ds : List Di), ts.length = n -> ds.length = m -> Qbf b ts ds = beB 8 b ++ (beB 1 n ++ (txsB ts ++ (beB 1 m ++ disB ds))) := by
    rintro b n m ts ds rfl rfl; rfl
  unfold Qtd Qgb Qvi; simp only; rw [e _ _ _ _ _ h3.2.2 h5.2.2]; rw [h1.2.1, h2.2.1, h3.2.1, h4.2.1, h5.2.1]; simp only [List.append_assoc]; rfl
theorem Qqa.may {α : Type} {q : Prop} [Decidable q] {z : α} {p : St -> α × St} {f : α -> List UInt8} (h : Qqa p f) : ∀ s, (Qoi q z p s).2.e = 0 -> s.e = 0 /\ s.l = Qtg q (f (Qoi q z p s).1) ++ (Qoi q z p s).2.l := by
  intro s; unfold Qoi Qtg
  by_cases hq : q
  · rw [if_pos hq, if_pos hq]; exact h s
  · rw [if_neg hq, if_neg hq]; intro he; exact ⟨he, rfl⟩
theorem Qij {a b : Prop} [Decidable a] [Decidable b] (h : a ↔ b) (l : List UInt8) : Qtg a l = Qtg b l := by
  unfold Qtg
  by_cases hb : b
  · rw [if_pos (h.2 hb), if_pos hb]
  · rw [if_neg (fun g => hb (h.1 g)), if_neg hb]
theorem Qqa.rec : ∀ s, (Qkl s).2.e = 0 -> s.e = 0 /\ s.l = Qjg (Qkl s).1 ++ (Qkl s).2.l := by
  intro s h; have h8 := Qqa.may (f := fun x : Nat × List Tx × List Di => Qbf x.1 x.2.1 x.2.2) Qqa.check _ h; have h7 := Qqa.may (f := fun x : Nat => beB 1 x) (fun s hs => ⟨(Qqa.num 1 s hs).1, (Qqa.num 1 s hs).2.1⟩) _ h8.1; have h6 := Qqa.may (f := fun x : Nat => beB 8 x) (fun s hs => ⟨(Qqa.num 8 s hs).1, (Qqa.num 8 s hs).2.1⟩) _ h7.1; have h5 := Qqa.may Qqa.ch _ h6.1; have h4 := Qqa.num 8 _ h5.1; have h3 := Qqa.num 4 _ h4.1; have h2 := Qqa.num 8 _ h3.1; have h1 := Qqa.in 1 8 _ h2.1; refine ⟨h1.1, ?_⟩
  have e : ∀ (k l t p : Nat) (c : Ch) (n sv b : Nat) (ts : List Tx) (ds : List Di), Qjg ⟨k, l, t, p, c, n, sv, b, ts, ds⟩ = beB 1 k ++ (beB 8 l ++ (beB 4 t ++ (beB 8 p ++ (Qtg (k <= 2) (chB c) ++ (Qtg (k = 2) (beB 8 n) ++ (Qtg (k = 6) (beB 1 sv) ++ Qtg (k = 8) (Qbf b ts ds))))))) := by
    intro k l t p c n sv b ts ds; unfold Qjg; simp only [Int.toNat_natCast]; rw [Qij (show ((k : Int) <= 2) ↔ k <= 2 by omega), Qij (show ((k : Int) = 2) ↔ k = 2 by omega), Qij (show ((k : Int) = 6) ↔ k = 6 by omega), Qij (show ((k : Int) = 8) ↔ k = 8 by omega)]
  show s.l = Qjg _ ++ _; unfold Qkl Qgb Qvi; simp only; rw [e]; rw [h1.2.1, h2.2.1, h3.2.1, h4.2.1, h5.2, h6.2, h7.2, h8.2]; simp only [List.append_assoc]
theorem dec_ok (b : List UInt8) (h : (Qol b).2 = 0) : (Qol b).1.right /\ Qjg (Qol b).1 = b := by
  unfold Qol at h |-
  by_cases h1 : (Qkl ⟨b, 0⟩).2.e ≠ 0
  · rw [if_pos h1] at h; exact absurd h h1
  · rw [if_neg h1] at h |-
    by_cases h2 : (Qkl ⟨b, 0⟩).2.l ≠ [] ∨ (Qkl ⟨b, 0⟩).1.rightB = false
    · rw [if_pos h2] at h; cases h
    · rw [if_neg h2]; have h3 : (Qkl ⟨b, 0⟩).2.l = [] := Decidable.of_not_not fun h3 => h2 (.inl h3)
      have h4 : (Qkl ⟨b, 0⟩).1.rightB = true := by
        cases hb : (Qkl ⟨b, 0⟩).1.rightB
        · exact absurd (.inr hb) h2
        · rfl
      obtain ⟨_, h5⟩ := Qqa.rec ⟨b, 0⟩ (Decidable.of_not_not h1); refine ⟨Qei.1 h4, ?_⟩; rw [h3, List.append_nil] at h5; exact h5.symm
theorem dec_no (b : List UInt8) (h : (Qol b).2 ≠ 0) : (Qol b).1 = Rec.zero := by
  unfold Qol at h |-
  split
  · rfl
  · rename_i h1; rw [if_neg h1] at h
    split
    · rfl
    · rename_i h2; rw [if_neg h2] at h; exact absurd rfl h
def Rel (t : List UInt8) (s s' : St) : Prop := s.e = 4 ∨ (s.e = 0 /\ s'.e = 0 /\ s'.l = s.l ++ t)
structure Good {α : Type} (p : St -> α × St) : Prop where
  stick : ∀ s, s.e ≠ 0 -> (p s).2 = s
  sim : ∀ t s s', Rel t s s' -> (p s').2.e = 0 -> Rel t (p s).2 (p s').2 /\ ((p s).2.e = 0 -> (p s).1 = (p s').1)
theorem Good.pure {α : Type} (a : α) : Good (Qvi a) := ⟨fun s _ => rfl, fun t s s' h _ => ⟨h, fun _ => rfl⟩⟩
theorem Good.bind {α β : Type} {p : St -> α × St} {q : α -> St -> β × St} (hp : Good p) (hq : ∀ a, Good (q a)) : Good (Qgb p q) := by
  refine ⟨fun s hs => ?_, fun t s s' h h' => ?_⟩
  · unfold Qgb; have h1 := hp.stick s hs; rw [h1]; exact (hq _).stick s hs
  · unfold Qgb at h' |-
    have e' : (p s').2.e = 0 := by
      by_cases he : (p s').2.e = 0
      · exact he
      · rw [(hq _).stick _ he] at h'; exact h'
    obtain ⟨h1, h2⟩ := hp.sim t s s' h e'
    by_cases he : (p s).2.e = 0
    · rw [h2 he]; exact (hq _).sim t _ _ h1 h'
    · have h4 : (p s).2.e = 4 := by
        rcases h1 with h1 | h1
        · exact h1
        · exact absurd h1.1 he
      rw [(hq (p s).1).stick _ he]; exact ⟨.inl h4, fun h5 => absurd h5 he⟩
theorem Good.num (w : Nat) : Good (Qxa w) := by
  refine ⟨fun s hs => by unfold Qxa; rw [if_pos hs], fun t s s' h h' => ?_⟩
  rcases h with h | ⟨h1, h2, h3⟩
  · have hs : s.e ≠ 0 := by omega
    have e : Qxa w s = (0, s) := by unfold Qxa; rw [if_pos hs]
    rw [e]; exact ⟨.inl h, fun h5 => absurd h5 hs⟩
  · by_cases hw : w <= s.l.length
    · have e : Qxa w s = (be (s.l.take w), ⟨s.l.drop w, 0⟩) := by unfold Qxa; rw [if_neg (by simpa using h1), if_pos hw]
      have hw' : w <= s'.l.length := by rw [h3, List.length_append]; omega
      have e' : Qxa w s' = (be (s'.l.take w), ⟨s'.l.drop w, 0⟩) := by unfold Qxa; rw [if_neg (by simpa using h2), if_pos hw']
      rw [e, e', h3]
      refine ⟨.inr ⟨rfl, rfl, ?_⟩, fun _ => ?_⟩
      · show (s.l ++ t).drop w = s.l.drop w ++ t; rw [List.drop_append_of_le_length hw]
      · show be (s.l.take w) = be ((s.l ++ t).take w); rw [List.take_append_of_le_length hw]
    · have e : Qxa w s = (0, ⟨[], 4⟩) := by unfold Qxa; rw [if_neg (by simpa using h1), if_neg hw]
      rw [e]; exact ⟨.inl rfl, fun h5 => by cases h5⟩
theorem Good.text : Good Qrc := by
  refine ⟨fun s hs => by unfold Qrc; rw [if_pos hs], fun t s s' h h' => ?_⟩
  rcases h with h | ⟨h1, h2, h3⟩
  · have hs : s.e ≠ 0 := by omega
    have e : Qrc s = (⟨#[]⟩, s) := by unfold Qrc; rw [if_pos hs]
    rw [e]; exact ⟨.inl h, fun h5 => absurd h5 hs⟩
  · obtain ⟨l, e⟩ := s; obtain ⟨l', e'⟩ := s'; simp only at h1 h2 h3; subst h1 h2 h3
    cases l with
    | nil => exact ⟨.inl rfl, fun h5 => by cases h5⟩
    | cons b l =>
      by_cases hb : b.toNat <= l.length
      · have e1 : Qrc ⟨b :: l, 0⟩ = (⟨(l.take b.toNat).toArray⟩, ⟨l.drop b.toNat, 0⟩) := by
          unfold Qrc; rw [if_neg (by simp)]; simp only; rw [if_pos hb]
        have e2 : Qrc ⟨b :: l ++ t, 0⟩ = (⟨((l ++ t).take b.toNat).toArray⟩, ⟨(l ++ t).drop b.toNat, 0⟩) := by
          unfold Qrc; rw [if_neg (by simp)]; simp only [List.cons_append]; rw [if_pos (by rw [List.length_append]; omega)]
        rw [e1, e2, List.drop_append_of_le_length hb, List.take_append_of_le_length hb]; exact ⟨.inr ⟨rfl, rfl, rfl⟩, fun _ => rfl⟩
      · have e1 : Qrc ⟨b :: l, 0⟩ = (⟨#[]⟩, ⟨[], 4⟩) := by
          unfold Qrc; rw [if_neg (by simp)]; simp only; rw [if_neg hb]
        rw [e1]; exact ⟨.inl rfl, fun h5 => by cases h5⟩
theorem Good.in (lo hi : Nat) : Good (pIn lo hi) := by
  refine ⟨fun s hs => ?_, fun t s s' h h' => ?_⟩
  · unfold pIn; have h1 := (Good.num 1).stick s hs; rw [if_neg (by rw [h1]; exact fun h => hs h.1)]; exact h1
  · have hc' : ¬ ((Qxa 1 s').2.e = 0 /\ ((Qxa 1 s').1 < lo ∨ hi < (Qxa 1 s').1)) := by
      intro hc; unfold pIn at h'; rw [if_pos hc] at h'; cases h'
    have e' : pIn lo hi s' = Qxa 1 s' := by unfold pIn; rw [if_neg hc']
    rw [e'] at h' |-; obtain ⟨h1, h2⟩ := (Good.num 1).sim t s s' h h'
    have hc : ¬ ((Qxa 1 s).2.e = 0 /\ ((Qxa 1 s).1 < lo ∨ hi < (Qxa 1 s).1)) := by
      intro hc; rw [h2 hc.1] at hc; exact hc' ⟨h', hc.2⟩
    have e : pIn lo hi s = Qxa 1 s := by unfold pIn; rw [if_neg hc]
    rw [e]; exact ⟨h1, h2⟩
theorem Good.some {α : Type} {p : St -> α × St} (hp : Good p) : ∀ n, Good (Qua p n)
  | 0 => ⟨fun s _ => rfl, fun t s s' h _ => ⟨h, fun _ => rfl⟩⟩
  | n + 1 => by
    have ih := Good.some hp n; refine ⟨fun s hs => by unfold Qua; rw [if_pos hs], fun t s s' h h' => ?_⟩
    by_cases hs : s.e = 0
    · have hs' : s'.e = 0 := by
        rcases h with h | h
        · omega
        · exact h.2.1
      have e : Qua p (n + 1) s = ((p s).1 :: (Qua p n (p s).2).1, (Qua p n (p s).2).2) := by
        conv => lhs; unfold Qua
        rw [if_neg (by simpa using hs)]
      have e' : Qua p (n + 1) s' = ((p s').1 :: (Qua p n (p s').2).1, (Qua p n (p s').2).2) := by
        conv => lhs; unfold Qua
        rw [if_neg (by simpa using hs')]
      rw [e'] at h' |-; rw [e]
      have e1 : (p s').2.e = 0 := by
        by_cases he : (p s').2.e = 0
        · exact he
        · have := ih.stick _ he; simp only at h'; rw [this] at h'; exact h'
      obtain ⟨h1, h2⟩ := hp.sim t s s' h e1; obtain ⟨h3, h4⟩ := ih.sim t _ _ h1 h'; refine ⟨h3, fun h5 => ?_⟩
      have e2 : (p s).2.e = 0 := by
        by_cases he : (p s).2.e = 0
        · exact he
        · have := ih.stick _ he; simp only at h5; rw [this] at h5; exact h5
      show _ :: _ = _ :: _; rw [h2 e2, h4 h5]
    · have e : Qua p (n + 1) s = ([], s) := by
        conv => lhs; unfold Qua
        rw [if_pos hs]
      rw [e]
      have h4 : s.e = 4 := by
        rcases h with h | h
        · exact h
        · exact absurd h.1 hs
      exact ⟨.inl h4, fun h5 => absurd h5 hs⟩
theorem Good.may {α : Type} {q : Prop} [Decidable q] {z : α} {p : St -> α × St} (hp : Good p) : Good (Qoi q z p) := by
  unfold Qoi
  split
  · exact hp
  · exact Good.pure z
theorem Good.ch : Good pCh := (Good.num 1).bind fun _ => (Good.num 2).bind fun _ => (Good.num 1).bind fun _ => Good.text.bind fun _ => Good.text.bind fun _ => Good.pure _
theorem Good.tx : Good pTx := (Good.num 4).bind fun _ => (Good.num 1).bind fun _ => (Good.num 8).bind fun _ => (Good.num 8).bind fun _ => (Good.num 8).bind fun _ => Good.pure _
theorem Good.di : Good pDi := (Good.num 2).bind fun _ => (Good.num 8).bind fun _ => Good.pure _
theorem Good.check : Good Qtd := (Good.num 8).bind fun _ => (Good.in 0 16).bind fun n => (Good.some Good.tx n).bind fun _ => (Good.in 0 32).bind fun m => (Good.some Good.di m).bind fun _ => Good.pure _
theorem Good.record : Good Qkl := (Good.in 1 8).bind fun _ => (Good.num 8).bind fun _ => (Good.num 4).bind fun _ => (Good.num 8).bind fun _ => (Good.may Good.ch).bind fun _ => (Good.may (Good.num 8)).bind fun _ => (Good.may (Good.num 1)).bind fun _ => (Good.may Good.check).bind fun _ => Good.pure _
theorem dec_cut (r : Rec) (h : r.right) (b t : List UInt8) (hb : Qjg r = b ++ t) (ht : t ≠ []) : Qol b = (Rec.zero, 4) := by
  have h1 := Qw.rec r h []; rw [List.append_nil, hb] at h1; have h2 := (Good.record.sim t ⟨b, 0⟩ ⟨b ++ t, 0⟩ (.inr ⟨rfl, rfl, rfl⟩) (by rw [h1])).1; rw [h1] at h2
  have h3 : (Qkl ⟨b, 0⟩).2.e = 4 := by
    rcases h2 with h2 | ⟨_, _, h2⟩
    · exact h2
    · have h4 : ([] : List UInt8) = (Qkl ⟨b, 0⟩).2.l ++ t := h2; have h5 := congrArg List.length h4; rw [List.length_append] at h5; have h6 : t.length = 0 := by simp only [List.length_nil] at h5; omega
      exact absurd (List.eq_nil_of_length_eq_zero h6) ht
  unfold Qol; rw [h3, if_pos (by decide)]
theorem Qsr {q : Prop} [Decidable q] {b : List UInt8} : (Qtg q b).length = if q then b.length else 0 := by
  unfold Qtg; split <;> rfl
theorem chB_len (c : Ch) : (chB c).length = 6 + c.o.size + c.n.size := by
  unfold chB; simp only [List.length_append, Qz, Qpi, Qkb]; omega
theorem rec_room (r : Rec) (h : r.right) (h8 : r.k ≠ 8) : 21 <= (Qjg r).length /\ (Qjg r).length <= 75 /\ ((r.k = 3 ∨ r.k = 4 ∨ r.k = 5 ∨ r.k = 7) -> (Qjg r).length = 21) := by
  have e : (Qjg r).length = 21 + ((if r.k <= 2 then (chB r.c).length else 0) + ((if r.k = 2 then 8 else 0) + (if r.k = 6 then 1 else 0))) := by
    unfold Qjg; simp only [List.length_append, Qz, Qsr]; rw [if_neg h8]; omega
  rw [e, chB_len]
  have hc : r.k <= 2 -> r.c.o.size <= 20 /\ r.c.n.size <= 20 := fun hk => by
    have := (h.ch hk).1; omega
  by_cases h2 : r.k <= 2
  · have := hc h2; rw [if_pos h2]; split <;> split <;> exact ⟨by omega, by omega, fun hk => by omega⟩
  · rw [if_neg h2]; split <;> split <;> exact ⟨by omega, by omega, fun hk => by omega⟩
theorem txB_len (x : Tx) : (txB x).length = 29 := by
  unfold txB; simp only [List.length_append, Qz]
theorem diB_len (d : Di) : (diB d).length = 10 := by
  unfold diB; simp only [List.length_append, Qz]
theorem Qsm {α : Type} (f : α -> List UInt8) (n : Nat) (hf : ∀ x, (f x).length = n) : ∀ xs : List α, (xs.flatMap f).length = xs.length * n
  | [] => by simp
  | x :: xs => by
    rw [List.flatMap_cons, List.length_append, hf, Qsm f n hf xs, List.length_cons]; rw [Nat.add_mul, Nat.one_mul, Nat.add_comm]
theorem Qwt (b : Nat) (ts : List Tx) (ds : List Di) : (Qbf b ts ds).length = 10 + ts.length * 29 + ds.length * 10 := by
  unfold Qbf txsB disB; simp only [List.length_append, Qz, Qsm txB 29 txB_len, Qsm diB 10 diB_len]; omega
theorem rec_few (r : Rec) (h : r.right) : (Qjg r).length <= 1000 := by
  by_cases h8 : r.k = 8
  · have hr := h.check h8
    have e : (Qjg r).length = 21 + (Qbf r.b r.ts r.ds).length := by
      unfold Qjg; simp only [List.length_append, Qz, Qsr]; rw [if_neg (by omega), if_neg (by omega), if_neg (by omega), if_pos h8]; omega
    rw [e, Qwt]; have := hr.1; have := hr.2.1; omega
  · have := (rec_room r h h8).2.1; omega
theorem rec_inj {a b : Rec} (ha : a.right) (hb : b.right) (h : Qjg a = Qjg b) : a = b := by
  have h1 := Qhq a ha; rw [h, Qhq b hb] at h1; exact (Prod.mk.inj h1).1.symm
def Qck (bs : List UInt8) : List UInt8 := bs ++ leB (crc bs)
def Qva (r : Rec) : List UInt8 := Qck (beB 2 (Qjg r).length ++ Qjg r)
theorem Qqf (bs : List UInt8) : (Qck bs).length = bs.length + 4 := by
  unfold Qck; rw [List.length_append, Qle]
theorem Qld (r : Rec) : (Qva r).length = (Qjg r).length + 6 := by
  unfold Qva; rw [Qqf, List.length_append, Qz]; omega
theorem open_seal (bs : List UInt8) : Qke (Qck bs) = (bs, 0) := by
  have hl := Qqf bs; have e : (Qck bs).length - 4 = bs.length := by omega
  have t : (Qck bs).take bs.length = bs := List.take_left' rfl; have d : (Qck bs).drop bs.length = leB (crc bs) := List.drop_left' rfl; rw [Qwm _ (by omega) (by rw [e, t, d]; exact Qpn _ (Qur bs)), e, t]
theorem seal_open (f : List UInt8) (h : (Qke f).2 = 0) : f = Qck (Qke f).1 := by
  by_cases h1 : f.length < 4
  · rw [Qyq f h1] at h; cases h
  · by_cases h2 : leN (f.drop (f.length - 4)) = crc (f.take (f.length - 4))
    · rw [Qwm f h1 h2]; exact ((Qgr f h1).2 h2).symm
    · rw [Qxr f h1 h2] at h; cases h
def Qsa (l : List UInt8) : Rec × Nat × Int :=
  if l.length < 2 ∨ l.length < be (l.take 2) + 6 then (Rec.zero, 0, 4)
  else if (Qke (l.take (be (l.take 2) + 6))).2 ≠ 0 then (Rec.zero, 0, 3)
  else if (Qol ((Qke (l.take (be (l.take 2) + 6))).1.drop 2)).2 ≠ 0 then (Rec.zero, 0, 2)
  else ((Qol ((Qke (l.take (be (l.take 2) + 6))).1.drop 2)).1, be (l.take 2) + 6, 0)
theorem Qwn (r : Rec) (h : r.right) (y : List UInt8) : be ((Qva r ++ y).take 2) = (Qjg r).length := by
  have hf := rec_few r h
  have e : (Qva r ++ y).take 2 = beB 2 (Qjg r).length := by
    unfold Qva Qck; rw [List.append_assoc, List.append_assoc]; exact List.take_left' (Qz 2 _)
  rw [e]; exact Qhk 2 _ (by omega)
theorem Qbu (r : Rec) (h : r.right) (y : List UInt8) : Qsa (Qva r ++ y) = (r, (Qva r).length, 0) := by
  have h2 := Qwn r h y; have hl := Qld r; have ht : (Qva r ++ y).take ((Qjg r).length + 6) = Qva r := List.take_left' hl; have ho : Qke (Qva r) = (beB 2 (Qjg r).length ++ Qjg r, 0) := open_seal _; have hd : (beB 2 (Qjg r).length ++ Qjg r).drop 2 = Qjg r := List.drop_left' (Qz 2 _); unfold Qsa; rw [h2, ht, ho]; simp only; rw [hd, Qhq r h, if_neg (by rw [List.length_append]; omega), if_neg (by simp), if_neg (by simp), hl]
theorem head_ok (l : List UInt8) (h : (Qsa l).2.2 = 0) : (Qsa l).1.right /\ l.take (Qsa l).2.1 = Qva (Qsa l).1 /\ (Qsa l).2.1 = (Qva (Qsa l).1).length /\ (Qsa l).2.1 <= l.length := by
  unfold Qsa at h |-
  by_cases h1 : l.length < 2 ∨ l.length < be (l.take 2) + 6
  · rw [if_pos h1] at h; cases h
  rw [if_neg h1] at h |-
  by_cases h2 : (Qke (l.take (be (l.take 2) + 6))).2 ≠ 0
  · rw [if_pos h2] at h; cases h
  rw [if_neg h2] at h |-
  by_cases h3 : (Qol ((Qke (l.take (be (l.take 2) + 6))).1.drop 2)).2 ≠ 0
  · rw [if_pos h3] at h; cases h
  rw [if_neg h3] at h |-; simp only; have h2' : (Qke (l.take (be (l.take 2) + 6))).2 = 0 := by omega
  have h3' : (Qol ((Qke (l.take (be (l.take 2) + 6))).1.drop 2)).2 = 0 := by omega
  obtain ⟨hr, hb⟩ := dec_ok _ h3'; have hs := seal_open _ h2'; generalize hn : be (l.take 2) = n at *; generalize hq : (Qke (l.take (n + 6))).1 = q at *; have hlen : (l.take (n + 6)).length = n + 6 := by rw [List.length_take]; omega
  have hql : q.length = n + 2 := by
    have h5 := congrArg List.length hs; rw [hlen, Qqf] at h5; omega
  have hq2 : q.take 2 = l.take 2 := by
    have h6 : (l.take (n + 6)).take 2 = l.take 2 := by rw [List.take_take, Nat.min_eq_left (by omega)]
    have h7 : (Qck q).take 2 = q.take 2 := by
      unfold Qck; rw [List.take_append_of_le_length (by omega)]
    rw [<- h6, hs, h7]
  have hrl : (Qjg (Qol (q.drop 2)).1).length = n := by rw [hb, List.length_drop]; omega
  have hbe : beB 2 n = l.take 2 := by
    have h8 := beB_be (l.take 2); rw [List.length_take, Nat.min_eq_left (by omega), hn] at h8; exact h8
  have hfr : Qva (Qol (q.drop 2)).1 = l.take (n + 6) := by
    have e9 : beB 2 n ++ q.drop 2 = q := by rw [hbe, <- hq2]; exact List.take_append_drop 2 q
    unfold Qva; rw [hrl, hb, e9]; exact hs.symm
  exact ⟨hr, hfr.symm, by rw [hfr, hlen], by omega⟩
theorem Qts (r : Rec) (h : r.right) (p t : List UInt8) (hp : Qva r = p ++ t) (ht : t ≠ []) : Qsa p = (Rec.zero, 0, 4) := by
  have hl := congrArg List.length hp; rw [List.length_append, Qld] at hl; have htl : 0 < t.length := List.length_pos_iff.2 ht; unfold Qsa; rw [if_pos]
  by_cases h2 : p.length < 2
  · exact .inl h2
  · right; have h3 := Qwn r h []; rw [List.append_nil, hp, List.take_append_of_le_length (by omega)] at h3; rw [h3]; omega
def Qf (rs : List Rec) : List UInt8 := rs.flatMap Qva
def Qob : Nat -> List Rec -> Prop
  | _, [] => True
  | a, r :: rs => r.right /\ a < r.l /\ Qob r.l rs
def Qmd : Nat -> Nat -> List UInt8 -> List Rec × Nat
  | 0, _, _ => ([], 0)
  | f + 1, a, l =>
    if (Qsa l).2.2 ≠ 0 ∨ (Qsa l).1.l <= a then ([], 0)
    else ((Qsa l).1 :: (Qmd f (Qsa l).1.l (l.drop (Qsa l).2.1)).1, (Qsa l).2.1 + (Qmd f (Qsa l).1.l (l.drop (Qsa l).2.1)).2)
theorem Qkh (f a : Nat) (l : List UInt8) (h : (Qsa l).2.2 ≠ 0 ∨ (Qsa l).1.l <= a) : Qmd f a l = ([], 0) := by
  cases f with
  | zero => rfl
  | succ f => rw [Qmd, if_pos h]
theorem scan_one (f a : Nat) (r : Rec) (h : r.right) (ha : a < r.l) (y : List UInt8) : Qmd (f + 1) a (Qva r ++ y) = (r :: (Qmd f r.l y).1, (Qva r).length + (Qmd f r.l y).2) := by
  have hd : (Qva r ++ y).drop (Qva r).length = y := List.drop_left' rfl; rw [Qmd, Qbu r h y]; simp only; rw [if_neg (by omega), hd]
def Qfb : Nat -> List Rec -> Nat
  | a, [] => a
  | _, r :: rs => Qfb r.l rs
theorem Qrr : ∀ (rs : List Rec) (f a : Nat) (y : List UInt8), Qob a rs -> Qmd (rs.length + f) a (Qf rs ++ y) = (rs ++ (Qmd f (Qfb a rs) y).1, (Qf rs).length + (Qmd f (Qfb a rs) y).2)
  | [], f, a, y, _ => by
    show Qmd (0 + f) a y = _; rw [Nat.zero_add]; show _ = ((Qmd f a y).1, 0 + (Qmd f a y).2); rw [Nat.zero_add]
  | r :: rs, f, a, y, h => by
    obtain ⟨h1, h2, h3⟩ := h; have e1 : (r :: rs).length + f = (rs.length + f) + 1 := by rw [List.length_cons]; omega
    have e2 : Qf (r :: rs) ++ y = Qva r ++ (Qf rs ++ y) := by
      unfold Qf; rw [List.flatMap_cons, List.append_assoc]
    rw [e1, e2, scan_one _ a r h1 h2, Qrr rs f r.l y h3]; show (r :: (rs ++ (Qmd f (Qfb r.l rs) y).1), (Qva r).length + ((Qf rs).length + (Qmd f (Qfb r.l rs) y).2)) = _
    have e3 : (Qf (r :: rs)).length = (Qva r).length + (Qf rs).length := by
      unfold Qf; rw [List.flatMap_cons, List.length_append]
    rw [e3, Nat.add_assoc]; rfl
theorem Qdm : ∀ (f a : Nat) (l : List UInt8), Qob a (Qmd f a l).1 /\ l.take (Qmd f a l).2 = Qf (Qmd f a l).1 /\ (Qmd f a l).2 <= l.length
  | 0, a, l => ⟨trivial, rfl, Nat.zero_le _⟩
  | f + 1, a, l => by
    by_cases h : (Qsa l).2.2 ≠ 0 ∨ (Qsa l).1.l <= a
    · rw [Qkh _ a l h]; exact ⟨trivial, rfl, Nat.zero_le _⟩
    · obtain ⟨h1, h2, h3, h4⟩ := head_ok l (by omega); obtain ⟨i1, i2, i3⟩ := Qdm f (Qsa l).1.l (l.drop (Qsa l).2.1); rw [Qmd, if_neg h]; simp only; rw [List.length_drop] at i3; refine ⟨⟨h1, by omega, i1⟩, ?_, by omega⟩; rw [List.take_add, h2, i2]; unfold Qf; rw [List.flatMap_cons]
theorem scan_nil (f a : Nat) : Qmd f a [] = ([], 0) := Qkh f a [] (.inl (by unfold Qsa; rw [if_pos (.inl (by decide))]; decide))
theorem scan_cut (f a : Nat) (r : Rec) (h : r.right) (p t : List UInt8) (hp : Qva r = p ++ t) (ht : t ≠ []) : Qmd f a p = ([], 0) := Qkh f a p (.inl (by rw [Qts r h p t hp ht]; decide))
def Qbb (bs : List UInt8) : List Rec × Nat := Qmd (bs.length + 1) 0 bs
theorem Qof : ∀ rs : List Rec, rs.length * 6 <= (Qf rs).length
  | [] => Nat.le_refl _
  | r :: rs => by
    have h := Qof rs; have e : Qf (r :: rs) = Qva r ++ Qf rs := by simp [Qf]
    rw [e, List.length_append, Qld, List.length_cons]; omega
theorem scan_end {bs y : List UInt8} {rs : List Rec} (h : bs = Qf rs ++ y) (hr : Qob 0 rs) (hs : (Qsa y).2.2 ≠ 0 ∨ (Qsa y).1.l <= Qfb 0 rs) : Qbb bs = (rs, (Qf rs).length) := by
  have h1 := Qof rs; have h2 := congrArg List.length h; rw [List.length_append] at h2; have e : bs.length + 1 = rs.length + (bs.length + 1 - rs.length) := by omega
  unfold Qbb; rw [e, h, Qrr rs _ 0 y hr, Qkh _ _ y hs]; simp
theorem Qzd : ∀ (rs : List Rec) (a : Nat) (r : Rec), Qob a (rs ++ [r]) ↔ Qob a rs /\ r.right /\ Qfb a rs < r.l
  | [], a, r => ⟨fun h => ⟨trivial, h.1, h.2.1⟩, fun h => ⟨h.2.1, h.2.2, trivial⟩⟩
  | q :: rs, a, r => by
    have ih := Qzd rs q.l r
    constructor
    · rintro ⟨h1, h2, h3⟩; have h4 := ih.1 h3; exact ⟨⟨h1, h2, h4.1⟩, h4.2⟩
    · rintro ⟨⟨h1, h2, h3⟩, h4⟩; exact ⟨h1, h2, ih.2 ⟨h3, h4⟩⟩
theorem Qik : ∀ (rs : List Rec) (a : Nat) (r : Rec), Qfb a (rs ++ [r]) = r.l
  | [], _, _ => rfl
  | q :: rs, _, r => Qik rs q.l r
theorem last_lt : ∀ (rs : List Rec) (a : Nat), Qob a rs -> a < 18446744073709551616 -> Qfb a rs < 18446744073709551616
  | [], _, _, h => h
  | q :: rs, a, h, ha => last_lt rs q.l h.2.2 (by have := h.1.lm; unfold Qce at this; omega)
theorem Qga : ∀ (rs : List Rec) (a : Nat), Qob a rs -> ∀ r ∈ rs, r.right
  | [], _, _, _, h => nomatch h
  | q :: rs, a, h, r, hr => by
    rcases List.mem_cons.1 hr with rfl | hr
    · exact h.1
    · exact Qga rs q.l h.2.2 r hr
theorem eq_dec (a b : Nat) : ((a : Int) == (b : Int)) = decide (a = b) := by
  rw [Bool.eq_iff_iff]; simp; omega
def Qrq : Nat -> List Rec -> Bool
  | _, [] => true
  | a, r :: rs => r.rightB && decide (a < r.l) && Qrq r.l rs
theorem Qvd : ∀ (l : List Rec) (a : Nat), Qrq a l = true ↔ Qob a l
  | [], _ => ⟨fun _ => trivial, fun _ => rfl⟩
  | r :: rs, a => by
    unfold Qrq Qob; rw [Bool.and_eq_true, Bool.and_eq_true, decide_eq_true_iff, Qei, Qvd rs r.l, and_assoc]
theorem Qnr {l : List Rec} {a : Nat} (h : ¬ Qob a l) : Qrq a l = false := by
  rw [<- Qvd] at h; simpa using h
theorem Qfp : ∀ (l : List Rec) (a : Nat), Qob a l -> a <= Qfb a l
  | [], _, _ => Nat.le_refl _
  | q :: rs, a, h => by
    have := Qfp rs q.l h.2.2; have := h.2.1; show a <= Qfb q.l rs; omega
theorem Qod : ∀ (l : List Rec) (a : Nat), Qob a l -> ∀ r ∈ l, a < r.l /\ r.l <= Qfb a l
  | [], _, _, _, h => nomatch h
  | q :: rs, a, h, r, hr => by
    have h1 := Qfp rs q.l h.2.2
    rcases List.mem_cons.1 hr with rfl | hr
    · exact ⟨h.2.1, h1⟩
    · have := Qod rs q.l h.2.2 r hr; have := h.2.1; show a < r.l /\ r.l <= Qfb q.l rs; omega
theorem Qwc {l : List Rec} {s : Rec} (h : Qob 0 (l ++ [s])) : Qob 0 l /\ s.right /\ ∀ r ∈ l, r.l < s.l := by
  obtain ⟨h1, h2, h3⟩ := (Qzd l 0 s).1 h; exact ⟨h1, h2, fun r hr => by have := (Qod l 0 h1 r hr).2; omega⟩
theorem Qpb {α : Type} {C : List α -> Prop} (h0 : C []) (h1 : ∀ l s, C l -> C (l ++ [s])) (l : List α) : C l := by
  have h : ∀ m : List α, C m.reverse := by
    intro m
    induction m with
    | nil => exact h0
    | cons a m ih =>
      rw [List.reverse_cons]; exact h1 _ _ ih
  have := h l.reverse; rwa [List.reverse_reverse] at this
def Qtp (l : List Rec) (n : Nat) : Option Rec := l.find? (fun r => decide (r.l = n))
def Qfd (l : List Rec) (t : Int) : Nat := l.foldl (fun n r => if 1 <= t /\ r.t = t then r.l else n) 0
theorem lastT_nil (t : Int) : Qfd [] t = 0 := rfl
theorem Qhc (l : List Rec) (r : Rec) (t : Int) : Qfd (l ++ [r]) t = if 1 <= t /\ r.t = t then r.l else Qfd l t := by
  unfold Qfd; rw [List.foldl_append]; rfl
theorem Qxg (l : List Rec) (t : Int) : Qfd l t = 0 ∨ ∃ r ∈ l, r.l = Qfd l t /\ r.t = t /\ 1 <= t := by
  induction l using Qpb with
  | h0 => exact .inl rfl
  | h1 l s ih =>
    rw [Qhc]
    by_cases h : 1 <= t /\ s.t = t
    · rw [if_pos h]; exact .inr ⟨s, by simp, rfl, h.2, h.1⟩
    · rw [if_neg h]
      rcases ih with ih | ⟨r, h1, h2⟩
      · exact .inl ih
      · exact .inr ⟨r, List.mem_append.2 (.inl h1), h2⟩
theorem Qii (l : List Rec) (t : Int) (h : ∀ r ∈ l, ¬ (1 <= t /\ r.t = t)) : Qfd l t = 0 := by
  rcases Qxg l t with h1 | ⟨r, h1, h2, h3, h4⟩
  · exact h1
  · exact absurd ⟨h4, h3⟩ (h r h1)
theorem Qyc {l : List Rec} (hl : Qob 0 l) {r : Rec} (hr : r ∈ l) : Qtp l r.l = some r := by
  revert hr
  induction l using Qpb with
  | h0 => intro hr; cases hr
  | h1 l s ih =>
    intro hr; obtain ⟨h1, h2, h3⟩ := Qwc hl; unfold Qtp at ih |-; rw [List.find?_append]
    rcases List.mem_append.1 hr with hr | hr
    · rw [ih h1 hr]; rfl
    · rw [List.mem_singleton.1 hr]
      have h4 : l.find? (fun r => decide (r.l = s.l)) = none := by
        rw [List.find?_eq_none]; intro x hx; have := h3 x hx; simp; omega
      rw [h4]; simp
theorem Qso {l : List Rec} {n : Nat} (h : ∀ r ∈ l, r.l ≠ n) : Qtp l n = none := by
  unfold Qtp; rw [List.find?_eq_none]; intro x hx; simpa using h x hx
theorem Qbm (l : List Rec) (n : Nat) : (Qtp l n = none /\ ∀ r ∈ l, r.l ≠ n) ∨ ∃ r ∈ l, r.l = n /\ Qtp l n = some r := by
  unfold Qtp
  cases h : l.find? (fun r => decide (r.l = n)) with
  | none =>
    refine .inl ⟨rfl, fun r hr => ?_⟩; have := List.find?_eq_none.1 h r hr; simpa using this
  | some r =>
    have := List.find?_some h; exact .inr ⟨r, List.mem_of_find?_eq_some h, by simpa using this, rfl⟩
def Qmt : List Rec -> Nat -> Nat
  | [], _ => 0
  | r :: rs, at_ => if r.l = at_ then (if r.k = 1 then at_ else if r.k = 2 then Qmt rs r.n else Qmt rs r.p) else Qmt rs at_
def Qca (l : List Rec) (at_ : Nat) : Nat := Qmt l.reverse at_
def Qui (l : List Rec) (r : Rec) : Nat := if r.k = 1 then r.l else if r.k = 2 then Qca l r.n else Qca l r.p
theorem nextT_nil (n : Nat) : Qca [] n = 0 := rfl
theorem Qeb (l : List Rec) (r : Rec) (n : Nat) : Qca (l ++ [r]) n = if r.l = n then (if r.k = 1 then n else if r.k = 2 then Qca l r.n else Qca l r.p) else Qca l n := by
  unfold Qca; rw [List.reverse_append]; rfl
theorem Quh {l : List Rec} {n : Nat} (h : ∀ r ∈ l, r.l ≠ n) : Qca l n = 0 := by
  induction l using Qpb with
  | h0 => rfl
  | h1 l s ih =>
    rw [Qeb, if_neg (h s (by simp))]; exact ih (fun r hr => h r (List.mem_append.2 (.inl hr)))
theorem Qpe {l : List Rec} (hl : Qob 0 l) : Qca l 0 = 0 := Quh fun r hr => by
  have := (Qod l 0 hl r hr).1; omega
theorem Qic {r : Rec} (h : r.right) : r.p < r.l := by
  have h1 := h.l1
  by_cases hk : r.k <= 6
  · exact (h.own hk).2.2
  · have := (h.none (by omega)).2; omega
theorem Qpd {r : Rec} (h : r.right) : r.n < r.l := by
  have h1 := h.l1
  by_cases hk : r.k = 2
  · exact h.next hk
  · have := h.nonext hk; omega
theorem Quf {l : List Rec} (hl : Qob 0 l) {r : Rec} (hr : r ∈ l) : Qca l r.l = Qui l r := by
  revert hr
  induction l using Qpb with
  | h0 => intro hr; cases hr
  | h1 l s ih =>
    intro hr; obtain ⟨h1, h2, h3⟩ := Qwc hl; have up : ∀ n, n < s.l -> Qca (l ++ [s]) n = Qca l n := fun n hn => by rw [Qeb, if_neg (by omega)]
    unfold Qui
    rcases List.mem_append.1 hr with hr | hr
    · have h4 := h3 r hr; have hR := Qga l 0 h1 r hr; have h5 := Qic hR; have h6 := Qpd hR; rw [up _ h4, up _ (by omega), up _ (by omega)]; exact ih h1 hr
    · rw [List.mem_singleton.1 hr]; have h5 := Qic h2; have h6 := Qpd h2; rw [up _ h5, up _ h6, Qeb, if_pos rfl]
theorem Qfh {l : List Rec} (hl : Qob 0 l) (n : Nat) : Qca l n <= n := by
  induction l using Qpb generalizing n with
  | h0 => exact Nat.zero_le _
  | h1 l s ih =>
    obtain ⟨h1, h2, h3⟩ := Qwc hl; have h5 := Qic h2; have h6 := Qpd h2; rw [Qeb]
    by_cases e : s.l = n
    · rw [if_pos e]
      by_cases k1 : s.k = 1
      · rw [if_pos k1]; exact Nat.le_refl _
      · rw [if_neg k1]
        by_cases k2 : s.k = 2
        · rw [if_pos k2]; have := ih h1 s.n; omega
        · rw [if_neg k2]; have := ih h1 s.p; omega
    · rw [if_neg e]; exact ih h1 n
theorem Qgj {l : List Rec} (hl : Qob 0 l) (n : Nat) : Qca l n = 0 ∨ ∃ r ∈ l, r.l = Qca l n /\ r.k = 1 := by
  induction l using Qpb generalizing n with
  | h0 => exact .inl rfl
  | h1 l s ih =>
    obtain ⟨h1, h2, h3⟩ := Qwc hl; have up : ∀ n, Qca l n = 0 ∨ ∃ r ∈ l ++ [s], r.l = Qca l n /\ r.k = 1 := fun n => (ih h1 n).imp id fun ⟨r, h4, h5⟩ => ⟨r, List.mem_append.2 (.inl h4), h5⟩
    rw [Qeb]
    by_cases e : s.l = n
    · rw [if_pos e]
      by_cases k1 : s.k = 1
      · rw [if_pos k1]; exact .inr ⟨s, by simp, e, k1⟩
      · rw [if_neg k1]
        by_cases k2 : s.k = 2
        · rw [if_pos k2]; exact up _
        · rw [if_neg k2]; exact up _
    · rw [if_neg e]; exact up _
theorem Qbc {l : List Rec} (hl : Qob 0 l) (n : Nat) : Qca l (Qca l n) = Qca l n := by
  rcases Qgj hl n with h | ⟨r, h1, h2, h3⟩
  · rw [h]; exact Qpe hl
  · rw [<- h2, Quf hl h1]; unfold Qui; rw [if_pos h3]
def Qra (l : List Rec) (r : Rec) : Rec := ⟨2, 0, r.t, 0, Qfe r.c, Qca l r.p, 0, 0, [], []⟩
def Qjt : List Rec -> Nat -> Nat -> List Rec
  | [], _, _ => []
  | r :: rs, n, u => if r.l = n then (if u < n /\ r.k = 1 then Qra rs.reverse r :: Qjt rs (Qmt rs r.p) u else []) else Qjt rs n u
def Qdd (l : List Rec) (n u : Nat) : List Rec := Qjt l.reverse n u
def Qcf (l : List Rec) (t : Int) (u : Nat) : List Rec := Qdd l (Qca l (Qfd l t)) u
theorem planL_nil (n u : Nat) : Qdd [] n u = [] := rfl
theorem Qjc (l : List Rec) (r : Rec) (n u : Nat) : Qdd (l ++ [r]) n u = if r.l = n then (if u < n /\ r.k = 1 then Qra l r :: Qdd l (Qca l r.p) u else []) else Qdd l n u := by
  unfold Qdd Qca; rw [List.reverse_append]; show Qjt (r :: l.reverse) n u = _; rw [Qjt, List.reverse_reverse]
theorem Qvu {l : List Rec} {n u : Nat} (h : ∀ r ∈ l, r.l ≠ n) : Qdd l n u = [] := by
  induction l using Qpb with
  | h0 => rfl
  | h1 l s ih =>
    rw [Qjc, if_neg (h s (by simp))]; exact ih (fun r hr => h r (List.mem_append.2 (.inl hr)))
theorem Qre {l : List Rec} (hl : Qob 0 l) (u : Nat) : Qdd l 0 u = [] := Qvu fun r hr => by
  have := (Qod l 0 hl r hr).1; omega
theorem Qam {l : List Rec} {s r : Rec} (h : s.l ≠ r.p) : Qra (l ++ [s]) r = Qra l r := by
  unfold Qra; rw [Qeb, if_neg h]
theorem Qyh {l : List Rec} (hl : Qob 0 l) {r : Rec} (hr : r ∈ l) (hk : r.k = 1) (u : Nat) : Qdd l r.l u = if u < r.l then Qra l r :: Qdd l (Qra l r).n u else [] := by
  revert hr
  induction l using Qpb with
  | h0 => intro hr; cases hr
  | h1 l s ih =>
    intro hr; obtain ⟨h1, h2, h3⟩ := Qwc hl; have hR := Qga _ 0 hl r hr; have h5 := Qic hR
    rcases List.mem_append.1 hr with hr | hr
    · have h4 := h3 r hr; have h7 := Qfh h1 r.p; have e : (Qra l r).n = Qca l r.p := rfl; rw [Qjc, if_neg (by omega), Qam (by omega), Qjc, if_neg (show ¬ s.l = (Qra l r).n by rw [e]; omega)]; exact ih h1 hr
    · rw [List.mem_singleton.1 hr] at h5 hk |-; have h7 := Qfh h1 s.p; have e : (Qra l s).n = Qca l s.p := rfl; rw [Qjc, if_pos rfl, Qam (by omega), Qjc, e, if_neg (show ¬ s.l = Qca l s.p by omega)]
      by_cases hu : u < s.l
      · rw [if_pos ⟨hu, hk⟩, if_pos hu]
      · rw [if_neg (fun h => hu h.1), if_neg hu]
theorem Qvf {l : List Rec} (hl : Qob 0 l) (n u : Nat) (h : Qca l n = n) : (n <= u /\ Qdd l n u = []) ∨ ∃ r ∈ l, r.l = n /\ r.k = 1 /\ u < n /\ Qdd l n u = Qra l r :: Qdd l (Qra l r).n u := by
  by_cases hu : n <= u
  · refine .inl ⟨hu, ?_⟩
    rcases Qgj hl n with h1 | ⟨r, h1, h2, h3⟩
    · rw [h] at h1; subst h1; exact Qre hl u
    · rw [h] at h2; subst h2; rw [Qyh hl h1 h3, if_neg (by omega)]
  · rcases Qgj hl n with h1 | ⟨r, h1, h2, h3⟩
    · rw [h] at h1; omega
    · rw [h] at h2; subst h2; refine .inr ⟨r, h1, rfl, h3, by omega, ?_⟩; rw [Qyh hl h1 h3, if_pos (by omega)]
theorem Qjh {l : List Rec} (hl : Qob 0 l) (r : Rec) : Qca l (Qra l r).n = (Qra l r).n := Qbc hl r.p
theorem Qbj {l : List Rec} (hl : Qob 0 l) {r : Rec} (hr : r ∈ l) : (Qra l r).n < r.l := by
  have h1 := Qfh hl r.p; have h2 := Qic (Qga _ 0 hl r hr); show Qca l r.p < r.l; omega
theorem Qlt {l : List Rec} (hl : Qob 0 l) (u : Nat) : ∀ f n, n <= f -> Qca l n = n -> (Qdd l n u).length <= n
  | 0, n, hf, h => by
    obtain rfl : n = 0 := by omega
    rw [Qre hl]; exact Nat.zero_le _
  | f + 1, n, hf, h => by
    rcases Qvf hl n u h with ⟨_, e⟩ | ⟨r, h1, h2, h3, h4, e⟩
    · rw [e]; exact Nat.zero_le _
    · have h5 := Qbj hl h1; rw [e, List.length_cons]; have := Qlt hl u f _ (by omega) (Qjh hl r); omega
structure Ac where
  k : Int
  n : Int
  t : Int
  pg : Int
  sl : Int
  d : Bool
  v : ByteArray
def Ac.zero : Ac := ⟨0, 0, 0, 0, 0, false, ⟨#[]⟩⟩
def pick15 (n : Int) (m : Nat) : Nat := (if n < 0 then (-(n + 1)) % (m : Int) else n % (m : Int)).toNat
theorem Qrb (n : Int) (m : Nat) (h : 0 < m) : pick15 n m < m := by
  unfold pick15; have h1 := Int.emod_lt_of_pos (-(n + 1)) (show (0 : Int) < (m : Int) by omega); have h2 := Int.emod_nonneg (-(n + 1)) (show (m : Int) ≠ 0 by omega); have h3 := Int.emod_lt_of_pos n (show (0 : Int) < (m : Int) by omega); have h4 := Int.emod_nonneg n (show (m : Int) ≠ 0 by omega); split <;> omega
structure Tu where
  nr : Int
  st : Int
  last : Nat
  next : Nat
def Tu.zero : Tu := ⟨0, 0, 0, 0⟩
structure Lo where
  nd : Int
  nr : Int
  u : Bool
  s : ByteArray
def Lo.zero : Lo := ⟨0, 0, false, ⟨#[]⟩⟩
structure Hs where
  lg : Nat -> List Rec
  pg : Nat -> Pg
  past : Nat -> List Pg
  ck : Nat -> Nat
  ct : Nat -> Int
  tx : Nat -> Tu
  lk : Nat -> Lo
  hi : Nat
def Hs.zero : Hs := ⟨fun _ => [], fun _ => Pg.zero, fun _ => [Pg.zero], fun _ => 0, fun _ => 0, fun _ => Tu.zero, fun _ => Lo.zero, 0⟩
def upd {α : Type} (f : Nat -> α) (i : Nat) (x : α) : Nat -> α := fun j => if j = i then x else f j
theorem Qi {α : Type} (f : Nat -> α) (i : Nat) (x : α) : upd f i x i = x := by unfold upd; rw [if_pos rfl]
theorem Qk {α : Type} (f : Nat -> α) (i j : Nat) (x : α) (h : j ≠ i) : upd f i x j = f j := by unfold upd; rw [if_neg h]
def Hs.lsn (h : Hs) (n floor : Nat) : Nat := max (h.ck n) floor + 1
def Hs.entry (h : Hs) (n i : Nat) (r : Rec) (floor : Nat) : Rec := ⟨r.k, h.lsn n floor, (h.tx i).nr, (h.tx i).last, r.c, r.n, r.s, r.b, r.ts, r.ds⟩
def Hs.setTx (h : Hs) (i : Nat) (t : Tu) : Hs := { h with tx := upd h.tx i t }
def Hs.setLk (h : Hs) (i : Nat) (l : Lo) : Hs := { h with lk := upd h.lk i l }
def Hs.setCk (h : Hs) (n c : Nat) : Hs := { h with ck := upd h.ck n c }
def Hs.setCt (h : Hs) (n : Nat) (c : Int) : Hs := { h with ct := upd h.ct n c }
def Hs.setHi (h : Hs) (c : Nat) : Hs := { h with hi := c }
def Hs.push (h : Hs) (n : Nat) (r : Rec) : Hs := { h with lg := upd h.lg n (h.lg n ++ [r]) }
def Hs.setPg (h : Hs) (p : Nat) (q : Pg) : Hs := { h with pg := upd h.pg p q, past := upd h.past p (h.past p ++ [q]) }
def Tu.setLast (t : Tu) (l : Nat) : Tu := ⟨t.nr, t.st, l, t.next⟩
def Tu.setNext (t : Tu) (l : Nat) : Tu := ⟨t.nr, t.st, t.last, l⟩
def Tu.setSt (t : Tu) (s : Int) : Tu := ⟨t.nr, s, t.last, t.next⟩
def Hs.log (h : Hs) (n i : Nat) (r : Rec) (floor : Nat) : Hs :=
  ((h.setCk n (h.lsn n floor)).setTx i ((h.tx i).setLast (h.lsn n floor))).push n (h.entry n i r floor)
def Rec.page (r : Rec) : Nat := r.c.pg.toNat
def Hs.turn (h : Hs) (n i : Nat) (r : Rec) : Hs :=
  (h.log n i r (h.pg r.page).l).setPg r.page ((h.pg r.page).put (h.lsn n (h.pg r.page).l) r.c.at r.c.makeU r.c.makeV)
def Qs (k : Int) (c : Ch) (s : Int) : Rec := ⟨k, 0, 0, 0, c, 0, s, 0, [], []⟩
def Hs.begun (h : Hs) (n i : Nat) : Hs := if (h.tx i).nr = 0 then (h.setCt n (h.ct n + 1)).setTx i ⟨h.ct n + 1, 1, (h.tx i).last, (h.tx i).next⟩ else h
def cut20 (v : ByteArray) : ByteArray := v.extract 0 (min 20 v.size)
def Ac.toU (o : Ac) : Bool := !o.d
def Ac.toV (o : Ac) : ByteArray := if o.d = true then ⟨#[]⟩ else cut20 o.v
def Hs.barred (h : Hs) (n i x : Nat) : Bool := decide ((h.tx i).st ≠ 1) || (decide ((h.lk x).nr ≠ 0) && (decide ((h.lk x).nd ≠ (n : Int)) || decide ((h.lk x).nr ≠ (h.tx i).nr)))
def Hs.ofE (h : Hs) (p s : Nat) (o : Ac) : Int := Go.Proofs.Ytohdmmfmjadipaa.ofE (p : Int) (s : Int) ((h.pg p).u s) ((h.pg p).s s) o.toU o.toV
def Hs.ofC (h : Hs) (p s : Nat) (o : Ac) : Ch := Go.Proofs.Ytohdmmfmjadipaa.ofC (p : Int) (s : Int) ((h.pg p).u s) ((h.pg p).s s) o.toU o.toV
def Hs.locked (h : Hs) (n i p s : Nat) : Hs := if (h.lk (p * 8 + s)).nr = 0 then h.setLk (p * 8 + s) ⟨(n : Int), (h.tx i).nr, (h.pg p).u s, (h.pg p).s s⟩ else h
def Hs.nextIs (h : Hs) (i m : Nat) : Hs := h.setTx i ((h.tx i).setNext m)
def Hs.lockedUp (h : Hs) (n i p s : Nat) : Hs := (h.locked n i p s).setCk n (max (h.ck n) h.hi)
def Hs.turned (h : Hs) (n i p s : Nat) (o : Ac) : Hs := (h.lockedUp n i p s).turn n i (Qs 1 (h.ofC p s o) 0)
def Hs.made (h : Hs) (n i p s : Nat) (o : Ac) : Hs := (h.turned n i p s o).nextIs i ((h.turned n i p s o).tx i).last
def Hs.change1 (h : Hs) (n i p s : Nat) (o : Ac) : Hs := if h.barred n i (p * 8 + s) = true then h else if h.ofE p s o ≠ 0 then h else Hs.made h n i p s o
def Hs.change (h : Hs) (n i : Nat) (o : Ac) : Hs := (h.begun n i).change1 n i (pick15 o.pg 4) (pick15 o.sl 8) o
def Qqo (l : List Rec) (n : Nat) : Rec := (Qtp l n).getD Rec.zero
def Hs.back (h : Hs) (n i : Nat) : Hs :=
  if (h.tx i).next = 0 ∨ ((h.tx i).st ≠ 1 /\ (h.tx i).st ≠ 2) then h
  else (h.turn n i (Qra (h.lg n) (Qqo (h.lg n) (h.tx i).next))).nextIs i (Qra (h.lg n) (Qqo (h.lg n) (h.tx i).next)).n
def Hs.mine (h : Hs) (n i x : Nat) : Bool := decide ((h.lk x).nd = (n : Int)) && decide ((h.lk x).nr = (h.tx i).nr)
def Hs.free (h : Hs) (n i : Nat) : Hs := { h with lk := fun x => if x < 32 /\ h.mine n i x = true then Lo.zero else h.lk x }
def Hs.state (h : Hs) (i : Nat) (s : Int) : Hs := h.setTx i ((h.tx i).setSt s)
def Hs.does2 (h : Hs) (n i kind : Nat) (o : Ac) : Hs :=
  if kind = 6 /\ (h.tx i).st = 1 then (((h.log n i (Qs 3 Ch.zero 0) 0).setHi (max h.hi (h.lsn n 0))).state i 3).free n i
  else if kind = 7 /\ ((h.tx i).st = 3 ∨ (h.tx i).st = 2 /\ (h.tx i).next = 0) then ((h.log n i (Qs 5 Ch.zero 0) 0).free n i).setTx i Tu.zero
  else if kind = 8 /\ (h.tx i).st = 1 then (h.log n i (Qs 4 Ch.zero 0) 0).state i 2
  else if kind = 9 ∨ kind = 10 then h.back n i
  else if kind = 11 /\ (h.tx i).st = 1 then h.log n i (Qs 6 Ch.zero (1 + (pick15 o.sl 8 : Nat))) 0
  else h
def Hs.does (h : Hs) (o : Ac) : Hs :=
  if pick15 o.k 13 <= 5 then h.change (pick15 o.n 3) (pick15 o.n 3 * 3 + pick15 o.t 3) o
  else if pick15 o.k 13 = 12 then h.setCk (pick15 o.n 3) (max (h.ck (pick15 o.n 3)) (h.ck (pick15 o.t 3)))
  else if (h.tx (pick15 o.n 3 * 3 + pick15 o.t 3)).last = 0 then h
  else h.does2 (pick15 o.n 3) (pick15 o.n 3 * 3 + pick15 o.t 3) (pick15 o.k 13) o
def Hs.play (l : List Ac) : Hs := l.foldl Hs.does Hs.zero
theorem Hs.play_snoc (l : List Ac) (o : Ac) : Hs.play (l ++ [o]) = (Hs.play l).does o := by
  unfold Hs.play; rw [List.foldl_append]; rfl
section
def Qb (w : World) (b : Nat) (t : TypeId) (cs : Array Value) : Prop := w.heap[b]? = some (.cells cs t (0, 0))
theorem Qb.below {w w' : World} {b B : Nat} {t : TypeId} {cs : Array Value} (h : Qb w b t cs) (hb : Below B w w') (hB : b < B) : Qb w' b t cs := (hb.block b hB).trans h
theorem Qb.lt {w : World} {b : Nat} {t : TypeId} {cs : Array Value} (h : Qb w b t cs) : b < w.heap.size := (Array.getElem?_eq_some_iff.1 h).1
theorem Qb.later {w w' : World} {b : Nat} {t : TypeId} {cs : Array Value} (h : Qb w b t cs) (hb : Below w.heap.size w w') : Qb w' b t cs := h.below hb h.lt
theorem Qb.cell {w : World} {b : Nat} {t : TypeId} {cs : Array Value} (h : Qb w b t cs) (j : Nat) (v : Value) (hv : cs[j]? = some v) : w.cell? ⟨b, j, none⟩ = some v := by
  rw [cell_of_row w b j _ _ (0, 0) h]; exact hv
theorem Qb.free {w : World} {b : Nat} {t : TypeId} {cs : Array Value} (h : Qb w b t cs) (j : Nat) : w.frozen? ⟨b, j, none⟩ = false := frozen_of_row w b j _ _ h
theorem Qb.other {w : World} {b : Nat} {t : TypeId} {cs : Array Value} (h : Qb w b t cs) (a : Addr) (v : Value) (hn : b ≠ a.block) : Qb (w.setCell a v) b t cs := (heap_setCell_other w a b v hn).trans h
theorem Qb.set {w : World} {b : Nat} {t : TypeId} {cs : Array Value} (h : Qb w b t cs) (j : Nat) (v : Value) : Qb (w.setCell ⟨b, j, none⟩ v) b t (cs.setIfInBounds j v) := heap_setCell_same w b j _ _ v h
theorem Qb.new (w : World) (t : TypeId) (cs : Array Value) : Qb (w.alloc (.cells cs t)) w.heap.size t cs := heap_alloc_new w _
section
variable {P : Program} {ops : Array Oper} {rest : List Oper} {o : Oper} {a : Act} {w : World} {Q : Exit -> Act -> World -> Prop}
theorem Qe (hw : Region.wanted o (yielded ops a.tmps) = true) (t : TypeId) (x : Operand) (ho : o.op = .load t x) (g : Nat) (hx : a.eval x = .pointer (some ⟨g, 0, none⟩)) (cs : Array Value) (hg : Qb w g t cs) (d : TypeDesc)
    (hu : P.underlying t = some d) (hd : (match d with | .struct _ | .array _ _ => true | _ => false) = true) (hi : (P.info? t).map (·.size) = some cs.size) (h : wpList P ops Q rest (a.put o.dst (.agg cs)) w) : wpList P ops Q (o :: rest) a w :=
  wpList_step fun K hK => by
    simp only [hw, if_true]; exact wp_load_row t x ho g hx t cs (0, 0) d hg hu hd hi (hK _ _ h)
theorem Qc (hgd : o.guard = none) (t : TypeId) (x y : Operand) (ho : o.op = .store t x y) (g : Nat) (c0 cs : Array Value) (hx : a.eval x = .pointer (some ⟨g, 0, none⟩)) (hy : a.eval y = .agg cs) (hg : Qb w g t c0)
    (hi : (P.info? t).map (·.size) = some cs.size) (hz : c0.size = cs.size) (h1 : cs.all (·.oneCell') = true)
    (h : ∀ w2, Qb w2 g t cs -> (∀ B w0, Below B w0 w -> B <= g -> Below B w0 w2) -> (∀ k t' c', k ≠ g -> Qb w k t' c' -> Qb w2 k t' c') -> wpList P ops Q rest (a.put o.dst undef) w2) : wpList P ops Q (o :: rest) a w := by
  refine wpList_store_row hgd t x y ho g cs hx hy t c0 hg hi hz h1 (h _ ?_ (fun B w0 hb hB => ?_) (fun k t' c' hk hr => ?_))
  · exact setRow_heap w g c0 cs t (0, 0) hg
  · exact ⟨hb.1, hb.2, hb.3, by simp [World.setRow]; exact hb.4, fun k hk => (setRow_other w g k _ (by omega)).trans (hb.5 k hk)⟩
  · exact (setRow_other w g k _ hk).trans hr
theorem Qfc {fn : Func} {p u : Tmp} {t : TypeId} (h : fn.results = #[.cell p t, .tmp u]) (tmps : Array Value) (w : World) (g : Nat) (cs : Array Value) (d : TypeDesc) (hp : tmps.getD p undef = .pointer (some ⟨g, 0, none⟩)) (hg : Qb w g t cs)
    (hu : P.underlying t = some d) (hd : (match d with | .struct _ | .array _ _ => true | _ => false) = true) (hi : (P.info? t).map (·.size) = some cs.size) :
    (results fn tmps).run P w = .ok (.tuple #[.agg cs, tmps.getD u undef]) w := by
  have h1 := run_loadVar_row (P := P) w g t t cs (0, 0) d hg hu hd hi; rw [results_cell_tmp h, hp]; simp only [asAddr, Sem.run_pure, Result.andThen_ok, h1]
theorem Qen {fn : Func} {p q : Tmp} {t : TypeId} (h : fn.results = #[.cell p t, .cell q t]) (tmps : Array Value) (P : Program) (w : World) :
    (results fn tmps).run P w =
      ((asAddr (tmps.getD p undef)).run P w).andThen fun a w₁ => ((loadVar t a).run P w₁).andThen fun v w₂ => ((asAddr (tmps.getD q undef)).run P w₂).andThen fun b w₃ => ((loadVar t b).run P w₃).andThen fun u w₄ => .ok (.tuple #[v, u]) w₄ := by
  simp only [results, h]; simp [Sem.run_bind, Result.andThen]
theorem Qsh {fn : Func} {p q : Tmp} {t : TypeId} (h : fn.results = #[.cell p t, .cell q t]) (tmps : Array Value) (w : World) (g k : Nat) (cs ds : Array Value) (d : TypeDesc) (hp : tmps.getD p undef = .pointer (some ⟨g, 0, none⟩)) (hq : tmps.getD q undef = .pointer (some ⟨k, 0, none⟩)) (hg : Qb w g t cs) (hk : Qb w k t ds)
    (hu : P.underlying t = some d) (hd : (match d with | .struct _ | .array _ _ => true | _ => false) = true) (hi : (P.info? t).map (·.size) = some cs.size) (hj : (P.info? t).map (·.size) = some ds.size) :
    (results fn tmps).run P w = .ok (.tuple #[.agg cs, .agg ds]) w := by
  have h1 := run_loadVar_row (P := P) w g t t cs (0, 0) d hg hu hd hi; have h2 := run_loadVar_row (P := P) w k t t ds (0, 0) d hk hu hd hj; rw [Qen h, hp, hq]; simp only [asAddr, Sem.run_pure, Result.andThen_ok, h1, h2]
end
theorem Qyb {Q : World -> Prop} (H : World -> Prop) {x : World} (h : H x) (k : ∀ y, H y -> Q y) : Q x := k x h
theorem Qka (s : ByteArray) : s.toList.isEmpty = true ↔ s.size = 0 := by
  rw [ByteArray.toList_eq]; obtain ⟨⟨l⟩⟩ := s; cases l <;> simp [ByteArray.size]
theorem lt_alloc {w : World} {b : Nat} (hb : b < w.heap.size) (o : Obj) : b < (w.alloc o).heap.size := by
  simp; omega
theorem Qo {B : Nat} {w w' : World} (h : Below B w w') (k : Nat) : Below B w (w'.drewN k) := ⟨h.1, h.2, h.3, h.4, h.5⟩
theorem gen_world {Q : World -> Prop} (H : World -> Prop) {x : World} (h : H x) (k : ∀ y, H y -> Q y) : Q x := k x h
theorem Qda {P : Program} {f : FuncId} {args : Array Value} {Q : Ending -> World -> Prop} (H : World -> Prop) {x : World} (h : H x) (k : ∀ y, H y -> Calls P f args y Q) : Calls P f args x Q := k x h
theorem Qtc {P : Program} {c : Code} {Q : Exit -> Act -> World -> Prop} {a : Act} (H : World -> Prop) {x : World} (h : H x) (k : ∀ y, H y -> Code.wp P c Q a y) : Code.wp P c Q a x := k x h
theorem Qwf {P : Program} {ops : Array Oper} {rest : List Oper} {o : Oper} {a : Act} {w : World} {Q : Exit -> Act -> World -> Prop} (hw : Region.wanted o (yielded ops a.tmps) = true) (v : Value) (hv : (execOp a.eval o).run P w = .ok (.value v) w)
    (h : wpList P ops Q rest (a.put o.dst v) w) : wpList P ops Q (o :: rest) a w :=
  wpList_step fun K hK => by
    simp only [hw, if_true]; unfold Oper.wp; rw [hv]; exact hK _ _ h
theorem Qto {P : Program} {ops : Array Oper} {rest : List Oper} {o : Oper} {a : Act} {w : World} {Q : Exit -> Act -> World -> Prop} (hw : Region.wanted o (yielded ops a.tmps) = true) (op : BinOp) (t r : TypeId) (x y : Operand) (ho : o.op = .binOp op t x y r) (u v z : Value) (hu : a.eval x = u) (hv : a.eval y = v) (hg : (eqGuard op t x y u v).run P w = .ok () w)
    (hz : (binOp op t u v).run P w = .ok z w) (h : wpList P ops Q rest (a.put o.dst z) w) : wpList P ops Q (o :: rest) a w :=
  Qwf hw z (by unfold execOp; simp only [ho, hu, hv, Sem.run_bind, hg, hz, Result.andThen_ok, Sem.run_pure]) h
end
def Qoc (w : World) (b : Nat) (c : Ch) : Prop := w.heap[b]? = some (.cells (chA c) 26 (0, 0))
theorem Qoc.all {w : World} {b : Nat} {c : Ch} (h : Qoc w b c) : w.cell? ⟨b, 0, none⟩ = some (.int .i64 c.k) /\ w.cell? ⟨b, 1, none⟩ = some (.int .i64 c.pg) /\ w.cell? ⟨b, 2, none⟩ = some (.int .i64 c.sl) /\ w.cell? ⟨b, 3, none⟩ = some (.string c.o) /\ w.cell? ⟨b, 4, none⟩ = some (.string c.n) := by
  refine ⟨?_, ?_, ?_, ?_, ?_⟩ <;> (rw [cell_of_row w b _ _ _ (0, 0) h]; rfl)
theorem Qoc.below {w w' : World} {b B : Nat} {c : Ch} (h : Qoc w b c) (hb : Below B w w') (hB : b < B) : Qoc w' b c := (hb.block b hB).trans h
theorem Qoc.lt {w : World} {b : Nat} {c : Ch} (h : Qoc w b c) : b < w.heap.size := (Array.getElem?_eq_some_iff.1 h).1
theorem Qq : (Try.prog.info? 26).map (·.size) = some 5 := by kernel_rfl
theorem Qpa (c : Ch) : (chA c).all (·.oneCell') = true := by simp [chA, Value.oneCell']
def Has (x : World) : List (Nat × TypeId × Array Value) -> Prop
  | [] => True
  | e :: l => Qb x e.1 e.2.1 e.2.2 /\ Has x l
theorem Has.later {x y : World} (hb : Below x.heap.size x y) : ∀ {l : List (Nat × TypeId × Array Value)}, Has x l -> Has y l
  | [], _ => trivial
  | _ :: _, h => ⟨h.1.later hb, h.2.later hb⟩
theorem Has.drew {x : World} : ∀ {l : List (Nat × TypeId × Array Value)}, Has x l -> Has x.drew l
  | [], _ => trivial
  | _ :: _, h => ⟨h.1, h.2.drew⟩
def Qu (w x : World) (l : List (Nat × TypeId × Array Value)) : Prop := Has x l /\ Below w.heap.size w x
theorem Qu.later {w x y : World} {l : List (Nat × TypeId × Array Value)} (h : Qu w x l) (hb : Below x.heap.size x y) : Qu w y l := ⟨h.1.later hb, h.2.trans (hb.mono h.2.size)⟩
theorem Qu.drew {w x : World} {l : List (Nat × TypeId × Array Value)} (h : Qu w x l) : Qu w x.drew l := ⟨h.1.drew, ⟨h.2.1, h.2.2, h.2.3, h.2.4, h.2.5⟩⟩
theorem Qu.more {w x y : World} {l : List (Nat × TypeId × Array Value)} (h : Qu w x l) (hb : Below x.heap.size x y) {b : Nat} {t : TypeId} {cs : Array Value} (hr : Qb y b t cs) : Qu w y ((b, t, cs) :: l) :=
  ⟨⟨hr, h.1.later hb⟩, (h.later hb).2⟩
theorem Qu.laid {w x y : World} {l : List (Nat × TypeId × Array Value)} (h : Qu w x l) {o : Obj} {t : TypeId} {cs : Array Value} (hr : Qb y x.heap.size t cs) (hk : ∀ B w0, Below B w0 (x.alloc o) -> B <= x.heap.size -> Below B w0 y) : Qu w y ((x.heap.size, t, cs) :: l) :=
  h.more (hk _ _ ((Below.refl x.heap.size x).alloc (Nat.le_refl _) _) (Nat.le_refl _)) hr
theorem Qu.one (w : World) (t : TypeId) (cs : Array Value) : Qu w (w.alloc (.cells cs t)) [(w.heap.size, t, cs)] :=
  ⟨⟨Qb.new w t cs, trivial⟩, (Below.refl w.heap.size w).alloc (Nat.le_refl _) _⟩
theorem Qu.two (w : World) (t t2 : TypeId) (cs ds : Array Value) : Qu w ((w.alloc (.cells cs t)).alloc (.cells ds t2)) [(w.heap.size + 1, t2, ds), (w.heap.size, t, cs)] := by
  have e1 : (w.alloc (.cells cs t)).heap.size = w.heap.size + 1 := by simp
  have h := (Qu.one w t cs).more ((Below.refl _ (w.alloc (.cells cs t))).alloc (Nat.le_refl _) (.cells ds t2)) (Qb.new (w.alloc (.cells cs t)) t2 ds); rw [e1] at h; exact h
theorem Qu.three (w : World) (t t2 t3 : TypeId) (cs ds es : Array Value) : Qu w (((w.alloc (.cells cs t)).alloc (.cells ds t2)).alloc (.cells es t3)) [(w.heap.size + 1 + 1, t3, es), (w.heap.size + 1, t2, ds), (w.heap.size, t, cs)] := by
  have e1 : ((w.alloc (.cells cs t)).alloc (.cells ds t2)).heap.size = w.heap.size + 1 + 1 := by simp
  have h := (Qu.two w t t2 cs ds).more ((Below.refl _ ((w.alloc (.cells cs t)).alloc (.cells ds t2))).alloc (Nat.le_refl _) (.cells es t3)) (Qb.new ((w.alloc (.cells cs t)).alloc (.cells ds t2)) t3 es); rw [e1] at h; exact h
def Qsd {α : Type} (f : α -> Array Value) (z : α) (n : Nat) (w : World) (v : Value) (xs : List α) : Prop :=
  ∃ a cap, v = .slice a xs.length cap /\ (0 < xs.length -> ∃ b off, a = some ⟨b, off, none⟩ /\ b < w.heap.size /\ ∀ i, i < xs.length -> w.rangeAt b (off + i * n) (f (xs.getD i z)).toList)
theorem Qlc {w w' : World} {b o B : Nat} {cs : List Value} (h : w.rangeAt b o cs) (hb : Below B w w') (hB : b < B) : w'.rangeAt b o cs := fun j v hv => by
  rw [hb.cell (p := ⟨b, o + j, none⟩) hB]; exact h j v hv
theorem Qsd.below {α : Type} {f : α -> Array Value} {z : α} {n : Nat} {w w' : World} {v : Value} {xs : List α} (h : Qsd f z n w v xs) (hb : Below w.heap.size w w') : Qsd f z n w' v xs := by
  obtain ⟨a, cap, h1, h2⟩ := h; refine ⟨a, cap, h1, fun hp => ?_⟩; obtain ⟨b, off, h3, h4, h5⟩ := h2 hp; exact ⟨b, off, h3, Nat.lt_of_lt_of_le h4 hb.size, fun i hi => Qlc (h5 i hi) hb h4⟩
def rcA (r : Rec) (va vb : Value) : Array Value := #[.int .i64 r.k, .int .u64 (r.l : Int), .int .i64 r.t, .int .u64 (r.p : Int), .int .i64 r.c.k, .int .i64 r.c.pg, .int .i64 r.c.sl, .string r.c.o, .string r.c.n, .int .u64 (r.n : Int), .int .i64 r.s, .int .u64 (r.b : Int), va, vb]
def txA (x : Tx) : Array Value := #[.int .i64 x.t, .int .i64 x.s, .int .u64 (x.f : Int), .int .u64 (x.l : Int), .int .u64 (x.n : Int)]
def diA (d : Di) : Array Value := #[.int .i64 d.p, .int .u64 (d.r : Int)]
theorem Qv : (Try.prog.info? 30).map (·.size) = some 14 := by kernel_rfl
theorem Qgw : (Try.prog.info? 84).map (·.size) = some 5 := by kernel_rfl
theorem Qiw : (Try.prog.info? 86).map (·.size) = some 2 := by kernel_rfl
theorem Qrw (x : Tx) : (txA x).all (·.oneCell') = true := by simp [txA, Value.oneCell']
theorem Qnw (d : Di) : (diA d).all (·.oneCell') = true := by simp [diA, Value.oneCell']
abbrev TxIn := Qsd txA Tx.zero 5
abbrev DiIn := Qsd diA Di.zero 2
def Qhd (w : World) (r : Rec) (va vb : Value) : Prop := TxIn w va r.ts /\ DiIn w vb r.ds
theorem Qhd.below {w w' : World} {r : Rec} {va vb : Value} (h : Qhd w r va vb) (hb : Below w.heap.size w w') : Qhd w' r va vb := ⟨h.1.below hb, h.2.below hb⟩
theorem Qhd.drew {w : World} {r : Rec} {va vb : Value} (h : Qhd w r va vb) : Qhd w.drew r va vb := h
def Ch.fits (c : Ch) : Prop := (Lit.int .i64 c.k).wf = true /\ (Lit.int .i64 c.pg).wf = true /\ (Lit.int .i64 c.sl).wf = true /\ c.o.size <= maxLen /\ c.n.size <= maxLen
abbrev Ch.like (a b : Ch) : Prop := a.k = b.k /\ a.pg = b.pg /\ a.sl = b.sl /\ a.o = b.o /\ a.n = b.n
theorem Qym (a b : Ch) : a.like b ↔ a = b := by
  constructor
  · rintro ⟨h1, h2, h3, h4, h5⟩; cases a; cases b; simp_all
  · rintro rfl; exact ⟨rfl, rfl, rfl, rfl, rfl⟩
def Qrn (c : Ch) : List Lit := [.int .i64 c.k, .int .i64 c.pg, .int .i64 c.sl, .string c.o.data.toList, .string c.n.data.toList]
theorem Quo (c d : Ch) : Qrn c = Qrn d ↔ c = d := by
  unfold Qrn; simp only [List.cons.injEq, and_true, Lit.int.injEq, Lit.string.injEq, Qon, true_and]
  constructor
  · rintro ⟨h1, h2, h3, h4, h5⟩; cases c; cases d; simp_all
  · rintro rfl; exact ⟨rfl, rfl, rfl, rfl, rfl⟩
theorem Qaf (c : Ch) (h : c.fits) : Try.prog.keyLits 2 26 (chA c).toList = some (Qrn c) := by
  have e0 : Try.prog.cellsOf 3 = 1 := by kernel_rfl
  have e1 : Try.prog.cellsOf 9 = 1 := by kernel_rfl
  have e2 : Try.prog.cellsOf 26 = 5 := by kernel_rfl
  obtain ⟨h1, h2, h3, h4, h5⟩ := h; simp [Program.keyLits, Try.underlying26, Try.underlying3, Try.underlying9, e0, e1, e2, chA, Qrn, h1, h2, h3, h4, h5]
theorem run_change_eql (c d : Ch) (hc : c.fits) (hd : d.fits) (w : World) : (binOp .eql 26 (.agg (chA c)) (.agg (chA d))).run Try.prog w = .ok (.bool (decide (c.like d))) w := by
  obtain ⟨r, hr, hiff⟩ := run_equalIn_deep (P := Try.prog) 9998 2 26 (by kernel_rfl) w 2 2 (.agg (chA c)) (.agg (chA d)) (Qrn c) (Qrn d) (by kernel_rfl) (by kernel_rfl) (Qaf c hc) (Qaf d hd)
  have e : r = decide (c.like d) := by
    rw [Bool.eq_iff_iff, hiff, Quo, decide_eq_true_iff, Qym]
  rw [e] at hr; have hr2 : (Op.equal 26 (.agg (chA c)) (.agg (chA d))).run Try.prog w = .ok (decide (c.like d)) w := hr; simp [binOp, hr2]
theorem run_change_neq (c d : Ch) (hc : c.fits) (hd : d.fits) (w : World) : (binOp .neq 26 (.agg (chA c)) (.agg (chA d))).run Try.prog w = .ok (.bool (!decide (c.like d))) w := by
  obtain ⟨r, hr, hiff⟩ := run_equalIn_deep (P := Try.prog) 9998 2 26 (by kernel_rfl) w 2 2 (.agg (chA c)) (.agg (chA d)) (Qrn c) (Qrn d) (by kernel_rfl) (by kernel_rfl) (Qaf c hc) (Qaf d hd)
  have e : r = decide (c.like d) := by
    rw [Bool.eq_iff_iff, hiff, Quo, decide_eq_true_iff, Qym]
  rw [e] at hr; have hr2 : (Op.equal 26 (.agg (chA c)) (.agg (chA d))).run Try.prog w = .ok (decide (c.like d)) w := hr; simp [binOp, hr2]
theorem change_guard (op : BinOp) (x y : Operand) (c d : Ch) (w : World) : (eqGuard op 26 x y (.agg (chA c)) (.agg (chA d))).run Try.prog w = .ok () w := run_eqGuard_agg (P := Try.prog) w op 26 x y (chA c) (chA d) (by kernel_rfl)
def Tx.fits (x : Tx) : Prop := (Lit.int .i64 x.t).wf = true /\ (Lit.int .i64 x.s).wf = true /\ (Lit.int .u64 (x.f : Int)).wf = true /\ (Lit.int .u64 (x.l : Int)).wf = true /\ (Lit.int .u64 (x.n : Int)).wf = true
def Di.fits (d : Di) : Prop := (Lit.int .i64 d.p).wf = true /\ (Lit.int .u64 (d.r : Int)).wf = true
structure Rec.fits (r : Rec) : Prop where
  c : r.c.fits
  tl : r.ts.length <= maxLen
  dl : r.ds.length <= maxLen
  ts : ∀ x ∈ r.ts, x.fits
  ds : ∀ d ∈ r.ds, d.fits
def Qjq (x : Tx) : List Lit := [.int .i64 x.t, .int .i64 x.s, .int .u64 (x.f : Int), .int .u64 (x.l : Int), .int .u64 (x.n : Int)]
def Qwq (d : Di) : List Lit := [.int .i64 d.p, .int .u64 (d.r : Int)]
theorem litsT_iff (x y : Tx) : Qjq x = Qjq y ↔ x = y := by
  unfold Qjq; simp only [List.cons.injEq, and_true, Lit.int.injEq, true_and, Int.ofNat_inj]
  constructor
  · rintro ⟨h1, h2, h3, h4, h5⟩; cases x; cases y; simp_all
  · rintro rfl; exact ⟨rfl, rfl, rfl, rfl, rfl⟩
theorem litsD_iff (x y : Di) : Qwq x = Qwq y ↔ x = y := by
  unfold Qwq; simp only [List.cons.injEq, and_true, Lit.int.injEq, true_and, Int.ofNat_inj]
  constructor
  · rintro ⟨h1, h2⟩; cases x; cases y; simp_all
  · rintro rfl; exact ⟨rfl, rfl⟩
theorem lits_tx (x : Tx) (h : x.fits) : Try.prog.keyLits 2 84 (txA x).toList = some (Qjq x) := by
  have e0 : Try.prog.cellsOf 3 = 1 := by kernel_rfl
  have e1 : Try.prog.cellsOf 23 = 1 := by kernel_rfl
  have e2 : Try.prog.cellsOf 84 = 5 := by kernel_rfl
  obtain ⟨h1, h2, h3, h4, h5⟩ := h; simp [Program.keyLits, Try.underlying84, Try.underlying3, Try.underlying23, e0, e1, e2, txA, Qjq, h1, h2, h3, h4, h5]
theorem lits_di (x : Di) (h : x.fits) : Try.prog.keyLits 2 86 (diA x).toList = some (Qwq x) := by
  have e0 : Try.prog.cellsOf 3 = 1 := by kernel_rfl
  have e1 : Try.prog.cellsOf 23 = 1 := by kernel_rfl
  have e2 : Try.prog.cellsOf 86 = 2 := by kernel_rfl
  obtain ⟨h1, h2⟩ := h; simp [Program.keyLits, Try.underlying86, Try.underlying3, Try.underlying23, e0, e1, e2, diA, Qwq, h1, h2]
theorem Qht (x y : Tx) (hx : x.fits) (hy : y.fits) (q : Bool) (hq : q = false ↔ x = y) (w : World) : (binOp .neq 84 (.agg (txA x)) (.agg (txA y))).run Try.prog w = .ok (.bool q) w := by
  obtain ⟨r, hr, hiff⟩ := run_equalIn_deep (P := Try.prog) 9998 2 84 (by kernel_rfl) w 2 2 (.agg (txA x)) (.agg (txA y)) (Qjq x) (Qjq y) (by kernel_rfl) (by kernel_rfl) (lits_tx x hx) (lits_tx y hy); rw [litsT_iff, <- hq] at hiff; have e : r = !q := by cases r <;> cases q <;> simp_all
  rw [e] at hr; have hr2 : (Op.equal 84 (.agg (txA x)) (.agg (txA y))).run Try.prog w = .ok (!q) w := hr; simp [binOp, hr2]
theorem Qtu (x y : Di) (hx : x.fits) (hy : y.fits) (q : Bool) (hq : q = false ↔ x = y) (w : World) : (binOp .neq 86 (.agg (diA x)) (.agg (diA y))).run Try.prog w = .ok (.bool q) w := by
  obtain ⟨r, hr, hiff⟩ := run_equalIn_deep (P := Try.prog) 9998 2 86 (by kernel_rfl) w 2 2 (.agg (diA x)) (.agg (diA y)) (Qwq x) (Qwq y) (by kernel_rfl) (by kernel_rfl) (lits_di x hx) (lits_di y hy); rw [litsD_iff, <- hq] at hiff; have e : r = !q := by cases r <;> cases q <;> simp_all
  rw [e] at hr; have hr2 : (Op.equal 86 (.agg (diA x)) (.agg (diA y))).run Try.prog w = .ok (!q) w := hr; simp [binOp, hr2]
theorem Qpv (op : BinOp) (x y : Operand) (c d : Tx) (w : World) : (eqGuard op 84 x y (.agg (txA c)) (.agg (txA d))).run Try.prog w = .ok () w := run_eqGuard_agg (P := Try.prog) w op 84 x y (txA c) (txA d) (by kernel_rfl)
theorem Qtv (op : BinOp) (x y : Operand) (c d : Di) (w : World) : (eqGuard op 86 x y (.agg (diA c)) (.agg (diA d))).run Try.prog w = .ok () w := run_eqGuard_agg (P := Try.prog) w op 86 x y (diA c) (diA d) (by kernel_rfl)
theorem Qze {α : Type} (xs : List α) (i : Nat) (z : α) (h : i < xs.length) : xs.getD i z ∈ xs := by
  rw [List.getD_eq_getElem?_getD, List.getElem?_eq_getElem h]; exact List.getElem_mem h
theorem Qyn {α : Type} {xs ys : List α} {z : α} (hl : xs.length = ys.length) (h : ∀ i, i < xs.length -> xs.getD i z = ys.getD i z) : xs = ys := by
  apply List.ext_getElem hl; intro i h1 h2; have := h i h1; rwa [List.getD_eq_getElem?_getD, List.getD_eq_getElem?_getD, List.getElem?_eq_getElem h1, List.getElem?_eq_getElem h2] at this
theorem Qhv (y : World) (b k : Nat) (x : Tx) (h : y.rangeAt b k (txA x).toList) : (Instr.loadAt 84 (.pointer (some ⟨b, k, none⟩))).run Try.prog y = .ok (.agg (txA x)) y := by
  have h1 := run_loadAt_mid (P := Try.prog) y b k 84 (txA x).toList _ h Try.underlying84 rfl (by rw [Qgw]; rfl); rwa [Array.toArray_toList] at h1
theorem Qiv (y : World) (b k : Nat) (x : Di) (h : y.rangeAt b k (diA x).toList) : (Instr.loadAt 86 (.pointer (some ⟨b, k, none⟩))).run Try.prog y = .ok (.agg (diA x)) y := by
  have h1 := run_loadAt_mid (P := Try.prog) y b k 86 (diA x).toList _ h Try.underlying86 rfl (by rw [Qiw]; rfl); rwa [Array.toArray_toList] at h1
section
section
variable {P : Program} {ops : Array Oper} {C : World -> Prop} {Q : Act -> Prop} {a : Act} {o : Oper} {rest : List Oper}
theorem Qub {id : Nat} {Q : Exit -> Act -> World -> Prop} {a : Act} {w : World} {l : List Oper} (C : World -> Prop) (hm : P.follows .mixedOrders = true) (hB : Region.lexB .any l.toArray = true) (hC : C w.drew)
    (h : wpQuiet P l.toArray C (fun a' => ∀ w', C w' -> Q .normal a' w') l a) : (Code.region id l.toArray true).wp P Q a w :=
  wp_region_quiet (C := C) hm hB hC (by simpa using h)
theorem Qxe (hw : Region.wanted o (yielded ops a.tmps) = true) (v : Value) (hv : ∀ x, C x -> (execOp a.eval o).run P x = .ok (.value v) x) (h : wpQuiet P ops C Q rest (a.put o.dst v)) : wpQuiet P ops C Q (o :: rest) a :=
  BigFrame.wpQuiet_want hw fun K hK => ⟨v, fun x hx => by unfold Oper.quietAt; rw [hv x hx]; exact ⟨rfl, rfl⟩, hK _ h⟩
theorem wpQuiet_convert (hw : Region.wanted o (yielded ops a.tmps) = true) (s t : TypeId) (x : Operand) (ho : o.op = .convert s t x) (u v : Value) (hu : a.eval x = u) (hv : ∀ y, C y -> (convert s t u).run P y = .ok v y)
    (h : wpQuiet P ops C Q rest (a.put o.dst v)) : wpQuiet P ops C Q (o :: rest) a :=
  Qxe hw v (fun y hy => by unfold execOp; simp only [ho, hu, Sem.run_bind, hv y hy, Result.andThen_ok, Sem.run_pure]) h
theorem Qx (hw : Region.wanted o (yielded ops a.tmps) = true) (t : TypeId) (x : Operand) (ho : o.op = .load t x) (u v : Value) (hu : a.eval x = u) (hv : ∀ y, C y -> (Instr.loadAt t u).run P y = .ok v y)
    (h : wpQuiet P ops C Q rest (a.put o.dst v)) : wpQuiet P ops C Q (o :: rest) a :=
  Qxe hw v (fun y hy => by unfold execOp; simp only [ho, hu, Sem.run_bind, hv y hy, Result.andThen_ok, Sem.run_pure]) h
theorem Qih (hw : Region.wanted o (yielded ops a.tmps) = true) (op : BinOp) (t r : TypeId) (x y : Operand) (ho : o.op = .binOp op t x y r) (u v z : Value) (hu : a.eval x = u) (hv : a.eval y = v) (hg : ∀ w, (eqGuard op t x y u v).run P w = .ok () w)
    (hz : ∀ w, (binOp op t u v).run P w = .ok z w) (h : wpQuiet P ops C Q rest (a.put o.dst z)) : wpQuiet P ops C Q (o :: rest) a :=
  Qxe hw z (fun w hw => by unfold execOp; simp only [ho, hu, hv, Sem.run_bind, hg w, hz w, Result.andThen_ok, Sem.run_pure]) h
theorem Qjb (hw : Region.wanted o (yielded ops a.tmps) = true) (h : ∀ K : Act -> Prop, (∀ a, wpQuiet P ops C Q rest a -> K a) -> ∃ v, (∀ x : World, (execOp a.eval o).run P x = .ok (.value v) x) /\ K (a.put o.dst v)) : wpQuiet P ops C Q (o :: rest) a := by
  obtain ⟨v, h1, h2⟩ := h _ (fun _ h => h); exact Qxe hw v (fun x _ => h1 x) h2
theorem Qcd (hw : Region.wanted o (yielded ops a.tmps) = true) (f : FuncId) (args : Array Value) (v : Value) (he : ∀ x : World, (execOp a.eval o).run P x = .ok (.enter f args) x) (hc : ∀ x, C x -> Calls P f args x fun e x' => e = .returned v /\ C x')
    (h : wpQuiet P ops C Q rest (a.put o.dst v)) : wpQuiet P ops C Q (o :: rest) a :=
  BigFrame.wpQuiet_want hw fun K hK => ⟨v, fun x hx => by unfold Oper.quietAt; rw [he x]; exact ⟨rfl, hc x hx⟩, hK _ h⟩
end
end
theorem Qmc {P : Program} {ops : Array Oper} {rest : List Oper} {o : Oper} {a : Act} {w : World} {Q : Exit -> Act -> World -> Prop} (hw : Region.wanted o (yielded ops a.tmps) = true) (t : TypeId) (x : Operand) (ho : o.op = .load t x) (b k : Nat) (cs : Array Value)
    (hx : a.eval x = .pointer (some ⟨b, k, none⟩)) (hg : w.rangeAt b k cs.toList) (d : TypeDesc) (hu : P.underlying t = some d) (hd : d.isRow = true) (hi : (P.info? t).map (·.size) = some cs.size) (h : wpList P ops Q rest (a.put o.dst (.agg cs)) w) : wpList P ops Q (o :: rest) a w := by
  have h1 := run_loadAt_mid (P := P) w b k t cs.toList d hg hu hd (by rw [hi, Array.length_toList]); rw [Array.toArray_toList] at h1; exact Qwf hw (.agg cs) (by unfold execOp; simp only [ho, hx, Sem.run_bind, h1, Result.andThen_ok, Sem.run_pure]) h
theorem Qzv {b j : Nat} (x : World) (v : Int) (h : x.cell? ⟨b, j, none⟩ = some (.int .i64 v)) : (Instr.loadAt 3 (.pointer (some ⟨b, j, none⟩))).run Try.prog x = .ok (.int .i64 v) x := by go_simp
theorem Qrv {b j : Nat} (x : World) (a : Option Addr) (n cap : Nat) (h : x.cell? ⟨b, j, none⟩ = some (.slice a n cap)) : (Instr.loadAt 27 (.pointer (some ⟨b, j, none⟩))).run Try.prog x = .ok (.slice a n cap) x := by go_simp
theorem Qqv {b j : Nat} (x : World) (a : Option Addr) (n cap : Nat) (h : x.cell? ⟨b, j, none⟩ = some (.slice a n cap)) : (Instr.loadAt 28 (.pointer (some ⟨b, j, none⟩))).run Try.prog x = .ok (.slice a n cap) x := by go_simp
theorem Qhn {p : Nat -> Prop} {j : Nat} (h : ∀ i, i < j -> p i) (hj : p j) : ∀ i, i < j + 1 -> p i := by
  intro i hi
  by_cases hij : i = j
  · subst hij; exact hj
  · exact h i (by omega)
theorem eqtx_at (va vb : Value) (xs ys : List Tx) (w : World) (q : Bool) (Hq : Hid (q = true ↔ xs = ys)) (hx : TxIn w va xs) (hy : TxIn w vb ys) (fx : ∀ x ∈ xs, x.fits) (fy : ∀ x ∈ ys, x.fits) (lx : xs.length <= maxLen) :
    Calls Try.prog 63 #[va, vb] w fun e w' => e = .returned (.bool q) /\ Below w.heap.size w w' := by
  have HX := Qd hx; have HY := Qd hy; have HFX := Qd fx; have HFY := Qd fy; have hml : maxLen = 9223372036854775807 := rfl; obtain ⟨a1, cap1, rfl, -⟩ := hx; obtain ⟨a2, cap2, rfl, -⟩ := hy; clear fx fy; have hb0 := Below.refl w.heap.size w; by_cases hl : xs.length = ys.length
  case neg =>
    obtain rfl : q = false := by
      cases q
      · rfl
      · exact absurd (congrArg List.length (Hq.out.1 rfl)) hl
    have i1 : ((xs.length : Int) == (ys.length : Int)) = false := by rw [beq_eq_false_iff_ne]; omega
    have i2 : ((xs.length : Int) != (ys.length : Int)) = true := by rw [bne, i1]; rfl
    clear Hq HX HY HFX HFY lx hml; generalize xs.length = n1 at *; generalize ys.length = n2 at *; go_enter Try.func63, Try.ntmps63; go_wp2; go_ret; exact ⟨rfl, hb0⟩
  have i1 : ((xs.length : Int) != (ys.length : Int)) = false := by rw [bne, hl, beq_self_eq_true]; rfl
  have i2 : ((xs.length : Int) == (ys.length : Int)) = true := by rw [hl]; exact beq_self_eq_true _
  have HL := Qd hl; clear hl; rw [<- HL.out] at i1 i2 |-; go_enter Try.func63, Try.ntmps63; go_wp2; go_loopw [13, 5] (fun v _ wr => ∃ j : Nat, j <= xs.length /\ v = .int .i64 j /\ Below w.heap.size w wr /\ ∀ i, i < j -> xs.getD i Tx.zero = ys.getD i Tx.zero) (fun v _ _ => xs.length - (intOf v).toNat)
  case atStart => exact ⟨0, Nat.zero_le _, rfl, Below.refl _ _, fun i hi => absurd hi (by omega)⟩
  case round =>
    obtain ⟨j, hj, rfl, hb, hat⟩ := hrel; have HAT := Qd hat; have HB := Qd hb; clear hat hb hb0
    by_cases hlt : j < xs.length
    · have jlt : (j : Int) < (xs.length : Int) := by omega
      obtain ⟨u1, k1, e1, hrow1⟩ := HX.out.below HB.out; obtain ⟨u2, k2, e2, hrow2⟩ := HY.out.below HB.out; rw [<- HL.out] at e2; cases e1; cases e2; obtain ⟨b1, off1, rfl, -, hc1⟩ := hrow1 (by omega); obtain ⟨b2, off2, rfl, -, hc2⟩ := hrow2 (by rw [<- HL.out]; omega); have HR1 := Qd (hc1 j hlt); have HR2 := Qd (hc2 j (by rw [<- HL.out]; exact hlt)); clear hrow1 hrow2 hc1 hc2; have HF1 := Qd (HFX.out _ (Qze xs j Tx.zero hlt)); have HF2 := Qd (HFY.out _ (Qze ys j Tx.zero (by rw [<- HL.out]; exact hlt))); obtain ⟨x, hx⟩ : ∃ x, x = xs.getD j Tx.zero := ⟨_, rfl⟩; obtain ⟨y, hy⟩ : ∃ y, y = ys.getD j Tx.zero := ⟨_, rfl⟩; have HXY : Hid (x = xs.getD j Tx.zero /\ y = ys.getD j Tx.zero) := ⟨hx, hy⟩; rw [<- hx] at HR1 HF1; rw [<- hy] at HR2 HF2; clear hx hy; have hc := Qd (Classical.em (x = y)); obtain ⟨p, hp⟩ : ∃ p : Bool, p = false ↔ x = y := ⟨!(@decide (x = y) (Classical.propDecidable _)), by simp⟩; have HP := Qd hp; clear hp; go_wp2_with fail; refine Qub (fun z => Below w.heap.size w z /\ z.rangeAt b1 (off1 + j * 5) (txA x).toList /\ z.rangeAt b2 (off2 + j * 5) (txA y).toList) (by kernel_rfl) (by kernel_rfl) ⟨⟨HB.out.1, HB.out.2, HB.out.3, HB.out.4, HB.out.5⟩, HR1.out, HR2.out⟩ ?_; clear HB HR1 HR2
      repeat (first
        | go_big_quiet_skip
        | (refine Qx rfl 84 (.tmp 18) rfl _ (.agg (txA x)) rfl (fun z hz => Qhv z b1 _ x hz.2.1) ?_; simp only [Act.put, List.setIfInBounds_toArray, List.set])
        | (refine Qx rfl 84 (.tmp 22) rfl _ (.agg (txA y)) rfl (fun z hz => Qhv z b2 _ y hz.2.2) ?_; simp only [Act.put, List.setIfInBounds_toArray, List.set])
        | (refine Qih rfl .neq 84 _ (.tmp 19) (.tmp 23) rfl (.agg (txA x)) (.agg (txA y)) (.bool p) rfl rfl (fun z => Qpv .neq _ _ x y z) (fun z => Qht x y HF1.out HF2.out p HP.out z) ?_; simp only [Act.put, List.setIfInBounds_toArray, List.set])
        | (refine Qjb rfl (fun K hK => ?_); go_simp; refine hK _ ?_; clear hK K))
      refine wpQuiet_nil ?_; intro w3 h3; have H3 := Qd h3.1; clear h3
      cases p
      · have HE := Qd (HP.out.1 rfl); clear HP hc; go_wp2; go_roundw
        case rel => exact ⟨j + 1, by omega, by go_num, H3.out, Qhn HAT.out (by rw [<- HXY.out.1, <- HXY.out.2]; exact HE.out)⟩
        case measure => simp [intOf]; omega
      · obtain rfl : q = false := by
          cases q
          · rfl
          · have h1 := Hq.out.1 rfl; exact absurd (HP.out.2 (by rw [HXY.out.1, HXY.out.2, h1])) (by simp)
        have d3 := H3.out; clear Hq HP hc HXY HAT HX HY HFX HFY HF1 HF2 H3; go_wp2; go_ret; exact ⟨rfl, d3⟩
    · obtain rfl : j = xs.length := by omega
      obtain rfl : q = true := Hq.out.2 (Qyn (z := Tx.zero) HL.out HAT.out); have d3 := HB.out; clear Hq HAT HX HY HFX HFY HB; go_wp2; go_ret; exact ⟨rfl, d3⟩
theorem eqdi_at (va vb : Value) (xs ys : List Di) (w : World) (q : Bool) (Hq : Hid (q = true ↔ xs = ys)) (hx : DiIn w va xs) (hy : DiIn w vb ys) (fx : ∀ x ∈ xs, x.fits) (fy : ∀ x ∈ ys, x.fits) (lx : xs.length <= maxLen) :
    Calls Try.prog 64 #[va, vb] w fun e w' => e = .returned (.bool q) /\ Below w.heap.size w w' := by
  have HX := Qd hx; have HY := Qd hy; have HFX := Qd fx; have HFY := Qd fy; have hml : maxLen = 9223372036854775807 := rfl; obtain ⟨a1, cap1, rfl, -⟩ := hx; obtain ⟨a2, cap2, rfl, -⟩ := hy; clear fx fy; have hb0 := Below.refl w.heap.size w; by_cases hl : xs.length = ys.length
  case neg =>
    obtain rfl : q = false := by
      cases q
      · rfl
      · exact absurd (congrArg List.length (Hq.out.1 rfl)) hl
    have i1 : ((xs.length : Int) == (ys.length : Int)) = false := by rw [beq_eq_false_iff_ne]; omega
    have i2 : ((xs.length : Int) != (ys.length : Int)) = true := by rw [bne, i1]; rfl
    clear Hq HX HY HFX HFY lx hml; generalize xs.length = n1 at *; generalize ys.length = n2 at *; go_enter Try.func64, Try.ntmps64; go_wp2; go_ret; exact ⟨rfl, hb0⟩
  have i1 : ((xs.length : Int) != (ys.length : Int)) = false := by rw [bne, hl, beq_self_eq_true]; rfl
  have i2 : ((xs.length : Int) == (ys.length : Int)) = true := by rw [hl]; exact beq_self_eq_true _
  have HL := Qd hl; clear hl; rw [<- HL.out] at i1 i2 |-; go_enter Try.func64, Try.ntmps64; go_wp2; go_loopw [13, 5] (fun v _ wr => ∃ j : Nat, j <= xs.length /\ v = .int .i64 j /\ Below w.heap.size w wr /\ ∀ i, i < j -> xs.getD i Di.zero = ys.getD i Di.zero) (fun v _ _ => xs.length - (intOf v).toNat)
  case atStart => exact ⟨0, Nat.zero_le _, rfl, Below.refl _ _, fun i hi => absurd hi (by omega)⟩
  case round =>
    obtain ⟨j, hj, rfl, hb, hat⟩ := hrel; have HAT := Qd hat; have HB := Qd hb; clear hat hb hb0
    by_cases hlt : j < xs.length
    · have jlt : (j : Int) < (xs.length : Int) := by omega
      obtain ⟨u1, k1, e1, hrow1⟩ := HX.out.below HB.out; obtain ⟨u2, k2, e2, hrow2⟩ := HY.out.below HB.out; rw [<- HL.out] at e2; cases e1; cases e2; obtain ⟨b1, off1, rfl, -, hc1⟩ := hrow1 (by omega); obtain ⟨b2, off2, rfl, -, hc2⟩ := hrow2 (by rw [<- HL.out]; omega); have HR1 := Qd (hc1 j hlt); have HR2 := Qd (hc2 j (by rw [<- HL.out]; exact hlt)); clear hrow1 hrow2 hc1 hc2; have HF1 := Qd (HFX.out _ (Qze xs j Di.zero hlt)); have HF2 := Qd (HFY.out _ (Qze ys j Di.zero (by rw [<- HL.out]; exact hlt))); obtain ⟨x, hx⟩ : ∃ x, x = xs.getD j Di.zero := ⟨_, rfl⟩; obtain ⟨y, hy⟩ : ∃ y, y = ys.getD j Di.zero := ⟨_, rfl⟩; have HXY : Hid (x = xs.getD j Di.zero /\ y = ys.getD j Di.zero) := ⟨hx, hy⟩; rw [<- hx] at HR1 HF1; rw [<- hy] at HR2 HF2; clear hx hy; have hc := Qd (Classical.em (x = y)); obtain ⟨p, hp⟩ : ∃ p : Bool, p = false ↔ x = y := ⟨!(@decide (x = y) (Classical.propDecidable _)), by simp⟩; have HP := Qd hp; clear hp; go_wp2_with fail; refine Qub (fun z => Below w.heap.size w z /\ z.rangeAt b1 (off1 + j * 2) (diA x).toList /\ z.rangeAt b2 (off2 + j * 2) (diA y).toList) (by kernel_rfl) (by kernel_rfl) ⟨⟨HB.out.1, HB.out.2, HB.out.3, HB.out.4, HB.out.5⟩, HR1.out, HR2.out⟩ ?_; clear HB HR1 HR2
      repeat (first
        | go_big_quiet_skip
        | (refine Qx rfl 86 (.tmp 18) rfl _ (.agg (diA x)) rfl (fun z hz => Qiv z b1 _ x hz.2.1) ?_; simp only [Act.put, List.setIfInBounds_toArray, List.set])
        | (refine Qx rfl 86 (.tmp 22) rfl _ (.agg (diA y)) rfl (fun z hz => Qiv z b2 _ y hz.2.2) ?_; simp only [Act.put, List.setIfInBounds_toArray, List.set])
        | (refine Qih rfl .neq 86 _ (.tmp 19) (.tmp 23) rfl (.agg (diA x)) (.agg (diA y)) (.bool p) rfl rfl (fun z => Qtv .neq _ _ x y z) (fun z => Qtu x y HF1.out HF2.out p HP.out z) ?_; simp only [Act.put, List.setIfInBounds_toArray, List.set])
        | (refine Qjb rfl (fun K hK => ?_); go_simp; refine hK _ ?_; clear hK K))
      refine wpQuiet_nil ?_; intro w3 h3; have H3 := Qd h3.1; clear h3
      cases p
      · have HE := Qd (HP.out.1 rfl); clear HP hc; go_wp2; go_roundw
        case rel => exact ⟨j + 1, by omega, by go_num, H3.out, Qhn HAT.out (by rw [<- HXY.out.1, <- HXY.out.2]; exact HE.out)⟩
        case measure => simp [intOf]; omega
      · obtain rfl : q = false := by
          cases q
          · rfl
          · have h1 := Hq.out.1 rfl; exact absurd (HP.out.2 (by rw [HXY.out.1, HXY.out.2, h1])) (by simp)
        have d3 := H3.out; clear Hq HP hc HXY HAT HX HY HFX HFY HF1 HF2 H3; go_wp2; go_ret; exact ⟨rfl, d3⟩
    · obtain rfl : j = xs.length := by omega
      obtain rfl : q = true := Hq.out.2 (Qyn (z := Di.zero) HL.out HAT.out); have d3 := HB.out; clear Hq HAT HX HY HFX HFY HB; go_wp2; go_ret; exact ⟨rfl, d3⟩
theorem Qxt (c : Ch) (w : World) (h1 : c.pg < 0) :
    Calls Try.prog 45 #[.agg (chA c)] w fun e w' => e = .returned (.bool false) /\ Below w.heap.size w w' := by
  have hb0 : Below w.heap.size w (w.alloc (.cells (chA c) 26)) := (Below.refl _ _).alloc (Nat.le_refl _) _; obtain ⟨a0, a1, a2, a3, a4⟩ := Qoc.all (show Qoc (w.alloc (.cells (chA c) 26)) w.heap.size c from heap_alloc_new w _); go_enter Try.func45, Try.ntmps45; generalize c.k = k at *; generalize c.pg = pg at *; generalize c.sl = sl at *; generalize c.o = o at *; generalize c.n = n at *; go_wp2; go_ret; exact ⟨rfl, hb0⟩
theorem Qru (c : Ch) (w : World) (h1 : ¬ c.pg < 0) (h2 : 31 < c.pg) :
    Calls Try.prog 45 #[.agg (chA c)] w fun e w' => e = .returned (.bool false) /\ Below w.heap.size w w' := by
  have hb0 : Below w.heap.size w (w.alloc (.cells (chA c) 26)) := (Below.refl _ _).alloc (Nat.le_refl _) _; obtain ⟨a0, a1, a2, a3, a4⟩ := Qoc.all (show Qoc (w.alloc (.cells (chA c) 26)) w.heap.size c from heap_alloc_new w _); go_enter Try.func45, Try.ntmps45; generalize c.k = k at *; generalize c.pg = pg at *; generalize c.sl = sl at *; generalize c.o = o at *; generalize c.n = n at *; go_wp2; go_ret; exact ⟨rfl, hb0⟩
theorem Qcu (c : Ch) (w : World) (h1 : ¬ c.pg < 0) (h2 : ¬ 31 < c.pg) (h3 : c.sl < 0) :
    Calls Try.prog 45 #[.agg (chA c)] w fun e w' => e = .returned (.bool false) /\ Below w.heap.size w w' := by
  have hb0 : Below w.heap.size w (w.alloc (.cells (chA c) 26)) := (Below.refl _ _).alloc (Nat.le_refl _) _; obtain ⟨a0, a1, a2, a3, a4⟩ := Qoc.all (show Qoc (w.alloc (.cells (chA c) 26)) w.heap.size c from heap_alloc_new w _); go_enter Try.func45, Try.ntmps45; generalize c.k = k at *; generalize c.pg = pg at *; generalize c.sl = sl at *; generalize c.o = o at *; generalize c.n = n at *; go_wp2; go_ret; exact ⟨rfl, hb0⟩
theorem Qnu (c : Ch) (w : World) (h1 : ¬ c.pg < 0) (h2 : ¬ 31 < c.pg) (h3 : ¬ c.sl < 0) (h4 : 7 < c.sl) :
    Calls Try.prog 45 #[.agg (chA c)] w fun e w' => e = .returned (.bool false) /\ Below w.heap.size w w' := by
  have hb0 : Below w.heap.size w (w.alloc (.cells (chA c) 26)) := (Below.refl _ _).alloc (Nat.le_refl _) _; obtain ⟨a0, a1, a2, a3, a4⟩ := Qoc.all (show Qoc (w.alloc (.cells (chA c) 26)) w.heap.size c from heap_alloc_new w _); go_enter Try.func45, Try.ntmps45; generalize c.k = k at *; generalize c.pg = pg at *; generalize c.sl = sl at *; generalize c.o = o at *; generalize c.n = n at *; go_wp2; go_ret; exact ⟨rfl, hb0⟩
theorem Qju (c : Ch) (w : World) (h1 : ¬ c.pg < 0) (h2 : ¬ 31 < c.pg) (h3 : ¬ c.sl < 0) (h4 : ¬ 7 < c.sl) (h5 : 20 < (c.o.size : Int)) :
    Calls Try.prog 45 #[.agg (chA c)] w fun e w' => e = .returned (.bool false) /\ Below w.heap.size w w' := by
  have hb0 : Below w.heap.size w (w.alloc (.cells (chA c) 26)) := (Below.refl _ _).alloc (Nat.le_refl _) _; obtain ⟨a0, a1, a2, a3, a4⟩ := Qoc.all (show Qoc (w.alloc (.cells (chA c) 26)) w.heap.size c from heap_alloc_new w _); go_enter Try.func45, Try.ntmps45; generalize c.k = k at *; generalize c.pg = pg at *; generalize c.sl = sl at *; generalize c.o = o at *; generalize c.n = n at *; go_wp2; go_ret; exact ⟨rfl, hb0⟩
theorem Qvt (c : Ch) (w : World) (h1 : ¬ c.pg < 0) (h2 : ¬ 31 < c.pg) (h3 : ¬ c.sl < 0) (h4 : ¬ 7 < c.sl) (h5 : ¬ 20 < (c.o.size : Int)) (h6 : 20 < (c.n.size : Int)) :
    Calls Try.prog 45 #[.agg (chA c)] w fun e w' => e = .returned (.bool false) /\ Below w.heap.size w w' := by
  have hb0 : Below w.heap.size w (w.alloc (.cells (chA c) 26)) := (Below.refl _ _).alloc (Nat.le_refl _) _; obtain ⟨a0, a1, a2, a3, a4⟩ := Qoc.all (show Qoc (w.alloc (.cells (chA c) 26)) w.heap.size c from heap_alloc_new w _); go_enter Try.func45, Try.ntmps45; generalize c.k = k at *; generalize c.pg = pg at *; generalize c.sl = sl at *; generalize c.o = o at *; generalize c.n = n at *; go_wp2; go_ret; exact ⟨rfl, hb0⟩
theorem Qoq (c : Ch) (w : World) (h1 : ¬ c.pg < 0) (h2 : ¬ 31 < c.pg) (h3 : ¬ c.sl < 0) (h4 : ¬ 7 < c.sl) (h5 : ¬ 20 < (c.o.size : Int)) (h6 : ¬ 20 < (c.n.size : Int)) (hk : c.k = 1) (he : c.o.toList.isEmpty = true) :
    Calls Try.prog 45 #[.agg (chA c)] w fun e w' => e = .returned (.bool true) /\ Below w.heap.size w w' := by
  have hb0 : Below w.heap.size w (w.alloc (.cells (chA c) 26)) := (Below.refl _ _).alloc (Nat.le_refl _) _; obtain ⟨a0, a1, a2, a3, a4⟩ := Qoc.all (show Qoc (w.alloc (.cells (chA c) 26)) w.heap.size c from heap_alloc_new w _); rw [hk] at a0; clear hk; go_enter Try.func45, Try.ntmps45; generalize c.k = k at *; generalize c.pg = pg at *; generalize c.sl = sl at *; generalize c.o = o at *; generalize c.n = n at *; go_wp2; go_ret; exact ⟨rfl, hb0⟩
theorem Qtq (c : Ch) (w : World) (h1 : ¬ c.pg < 0) (h2 : ¬ 31 < c.pg) (h3 : ¬ c.sl < 0) (h4 : ¬ 7 < c.sl) (h5 : ¬ 20 < (c.o.size : Int)) (h6 : ¬ 20 < (c.n.size : Int)) (hk : c.k = 1) (he : c.o.toList.isEmpty = false) :
    Calls Try.prog 45 #[.agg (chA c)] w fun e w' => e = .returned (.bool false) /\ Below w.heap.size w w' := by
  have hb0 : Below w.heap.size w (w.alloc (.cells (chA c) 26)) := (Below.refl _ _).alloc (Nat.le_refl _) _; obtain ⟨a0, a1, a2, a3, a4⟩ := Qoc.all (show Qoc (w.alloc (.cells (chA c) 26)) w.heap.size c from heap_alloc_new w _); rw [hk] at a0; clear hk; go_enter Try.func45, Try.ntmps45; generalize c.k = k at *; generalize c.pg = pg at *; generalize c.sl = sl at *; generalize c.o = o at *; generalize c.n = n at *; go_wp2; go_ret; exact ⟨rfl, hb0⟩
theorem Qhu (c : Ch) (w : World) (h1 : ¬ c.pg < 0) (h2 : ¬ 31 < c.pg) (h3 : ¬ c.sl < 0) (h4 : ¬ 7 < c.sl) (h5 : ¬ 20 < (c.o.size : Int)) (h6 : ¬ 20 < (c.n.size : Int)) (hk : c.k = 2) :
    Calls Try.prog 45 #[.agg (chA c)] w fun e w' => e = .returned (.bool true) /\ Below w.heap.size w w' := by
  have hb0 : Below w.heap.size w (w.alloc (.cells (chA c) 26)) := (Below.refl _ _).alloc (Nat.le_refl _) _; obtain ⟨a0, a1, a2, a3, a4⟩ := Qoc.all (show Qoc (w.alloc (.cells (chA c) 26)) w.heap.size c from heap_alloc_new w _); rw [hk] at a0; clear hk; go_enter Try.func45, Try.ntmps45; generalize c.k = k at *; generalize c.pg = pg at *; generalize c.sl = sl at *; generalize c.o = o at *; generalize c.n = n at *; go_wp2; go_ret; exact ⟨rfl, hb0⟩
theorem Qwp (c : Ch) (w : World) (h1 : ¬ c.pg < 0) (h2 : ¬ 31 < c.pg) (h3 : ¬ c.sl < 0) (h4 : ¬ 7 < c.sl) (h5 : ¬ 20 < (c.o.size : Int)) (h6 : ¬ 20 < (c.n.size : Int)) (hk : c.k = 3) (he : c.n.toList.isEmpty = true) :
    Calls Try.prog 45 #[.agg (chA c)] w fun e w' => e = .returned (.bool true) /\ Below w.heap.size w w' := by
  have hb0 : Below w.heap.size w (w.alloc (.cells (chA c) 26)) := (Below.refl _ _).alloc (Nat.le_refl _) _; obtain ⟨a0, a1, a2, a3, a4⟩ := Qoc.all (show Qoc (w.alloc (.cells (chA c) 26)) w.heap.size c from heap_alloc_new w _); rw [hk] at a0; clear hk; go_enter Try.func45, Try.ntmps45; generalize c.k = k at *; generalize c.pg = pg at *; generalize c.sl = sl at *; generalize c.o = o at *; generalize c.n = n at *; go_wp2; go_ret; exact ⟨rfl, hb0⟩
theorem Qfq (c : Ch) (w : World) (h1 : ¬ c.pg < 0) (h2 : ¬ 31 < c.pg) (h3 : ¬ c.sl < 0) (h4 : ¬ 7 < c.sl) (h5 : ¬ 20 < (c.o.size : Int)) (h6 : ¬ 20 < (c.n.size : Int)) (hk : c.k = 3) (he : c.n.toList.isEmpty = false) :
    Calls Try.prog 45 #[.agg (chA c)] w fun e w' => e = .returned (.bool false) /\ Below w.heap.size w w' := by
  have hb0 : Below w.heap.size w (w.alloc (.cells (chA c) 26)) := (Below.refl _ _).alloc (Nat.le_refl _) _; obtain ⟨a0, a1, a2, a3, a4⟩ := Qoc.all (show Qoc (w.alloc (.cells (chA c) 26)) w.heap.size c from heap_alloc_new w _); rw [hk] at a0; clear hk; go_enter Try.func45, Try.ntmps45; generalize c.k = k at *; generalize c.pg = pg at *; generalize c.sl = sl at *; generalize c.o = o at *; generalize c.n = n at *; go_wp2; go_ret; exact ⟨rfl, hb0⟩
theorem Qqt (c : Ch) (w : World) (h1 : ¬ c.pg < 0) (h2 : ¬ 31 < c.pg) (h3 : ¬ c.sl < 0) (h4 : ¬ 7 < c.sl) (h5 : ¬ 20 < (c.o.size : Int)) (h6 : ¬ 20 < (c.n.size : Int)) (hk1 : (c.k == 1) = false) (hk2 : (c.k == 2) = false) (hk3 : (c.k == 3) = false) :
    Calls Try.prog 45 #[.agg (chA c)] w fun e w' => e = .returned (.bool false) /\ Below w.heap.size w w' := by
  have hb0 : Below w.heap.size w (w.alloc (.cells (chA c) 26)) := (Below.refl _ _).alloc (Nat.le_refl _) _; obtain ⟨a0, a1, a2, a3, a4⟩ := Qoc.all (show Qoc (w.alloc (.cells (chA c) 26)) w.heap.size c from heap_alloc_new w _); go_enter Try.func45, Try.ntmps45; generalize c.k = k at *; generalize c.pg = pg at *; generalize c.sl = sl at *; generalize c.o = o at *; generalize c.n = n at *; go_wp2; go_ret; exact ⟨rfl, hb0⟩
theorem Qcb (c : Ch) (w : World) :
    Calls Try.prog 45 #[.agg (chA c)] w fun e w' => e = .returned (.bool (decide c.right)) /\ Below w.heap.size w w' := by
  by_cases h1 : c.pg < 0
  · rw [decide_eq_false (fun h => by have := h.1; omega)]; exact Qxt c w h1
  by_cases h2 : 31 < c.pg
  · rw [decide_eq_false (fun h => by have := h.1; omega)]; exact Qru c w h1 h2
  by_cases h3 : c.sl < 0
  · rw [decide_eq_false (fun h => by have := h.1; omega)]; exact Qcu c w h1 h2 h3
  by_cases h4 : 7 < c.sl
  · rw [decide_eq_false (fun h => by have := h.1; omega)]; exact Qnu c w h1 h2 h3 h4
  by_cases h5 : 20 < (c.o.size : Int)
  · rw [decide_eq_false (fun h => by have := h.1; omega)]; exact Qju c w h1 h2 h3 h4 h5
  by_cases h6 : 20 < (c.n.size : Int)
  · rw [decide_eq_false (fun h => by have := h.1; omega)]; exact Qvt c w h1 h2 h3 h4 h5 h6
  have hr : c.kindOk -> c.right := fun h => ⟨⟨by omega, by omega, by omega, by omega, by omega, by omega⟩, h⟩
  by_cases k1 : c.k = 1
  · by_cases he : c.o.toList.isEmpty = true
    · rw [decide_eq_true (hr (.inl ⟨k1, (Qka _).1 he⟩))]; exact Qoq c w h1 h2 h3 h4 h5 h6 k1 he
    · rw [decide_eq_false (fun h => by
        rcases h.2 with h | h | h
        · exact he ((Qka _).2 h.2)
        · omega
        · omega)]
      exact Qtq c w h1 h2 h3 h4 h5 h6 k1 (by simpa using he)
  by_cases k2 : c.k = 2
  · rw [decide_eq_true (hr (.inr (.inl k2)))]; exact Qhu c w h1 h2 h3 h4 h5 h6 k2
  by_cases k3 : c.k = 3
  · by_cases he : c.n.toList.isEmpty = true
    · rw [decide_eq_true (hr (.inr (.inr ⟨k3, (Qka _).1 he⟩)))]; exact Qwp c w h1 h2 h3 h4 h5 h6 k3 he
    · rw [decide_eq_false (fun h => by
        rcases h.2 with h | h | h
        · omega
        · omega
        · exact he ((Qka _).2 h.2))]
      exact Qfq c w h1 h2 h3 h4 h5 h6 k3 (by simpa using he)
  rw [decide_eq_false (fun h => by rcases h.2 with h | h | h <;> omega)]; exact Qqt c w h1 h2 h3 h4 h5 h6 (by simpa using k1) (by simpa using k2) (by simpa using k3)
theorem Qwj : Ch.zero.fits := ⟨by decide, by decide, by decide, by show (0 : Nat) <= maxLen; omega, by show (0 : Nat) <= maxLen; omega⟩
theorem Qbw (c : Ch) (w : World) (r : Bool) (Hr : Hid (decide c.right = r)) :
    Calls Try.prog 45 #[.agg (chA c)] w fun e w' => e = .returned (.bool r) /\ Below w.heap.size w w' := by
  rw [<- Hr.out]; exact Qcb c w
theorem Qyv : (⟨#[]⟩ : ByteArray).toList = [] := by
  rw [ByteArray.toList_eq]
theorem Qgo (s : ByteArray) (h : s.toList = []) : s = ⟨#[]⟩ := size0 s ((Qka s).1 (by rw [h]; rfl))
theorem Qfw (c : Ch) (f1 : c.k = 0) (f2 : c.pg = 0) (f3 : c.sl = 0) (f4 : c.o.toList = []) (f5 : c.n.toList = []) : c = Ch.zero := by
  obtain ⟨k, pg, sl, o, n⟩ := c; simp only at f1 f2 f3 f4 f5; rw [f1, f2, f3, Qgo o f4, Qgo n f5]; rfl
theorem Qbh {x : World} {g : Nat} {r : Rec} {va vb : Value} (h : Qb x g 30 (rcA r va vb)) :
    x.cell? ⟨g, 0, none⟩ = some (.int .i64 r.k) /\ x.cell? ⟨g, 1, none⟩ = some (.int .u64 (r.l : Int)) /\ x.cell? ⟨g, 2, none⟩ = some (.int .i64 r.t) /\ x.cell? ⟨g, 3, none⟩ = some (.int .u64 (r.p : Int)) /\ x.cell? ⟨g, 9, none⟩ = some (.int .u64 (r.n : Int)) /\ x.cell? ⟨g, 10, none⟩ = some (.int .i64 r.s) /\ x.cell? ⟨g, 11, none⟩ = some (.int .u64 (r.b : Int)) /\ x.cell? ⟨g, 12, none⟩ = some va /\ x.cell? ⟨g, 13, none⟩ = some vb :=
  ⟨h.cell 0 _ rfl, h.cell 1 _ rfl, h.cell 2 _ rfl, h.cell 3 _ rfl, h.cell 9 _ rfl, h.cell 10 _ rfl, h.cell 11 _ rfl, h.cell 12 _ rfl, h.cell 13 _ rfl⟩
theorem Qfs {x : World} {g : Nat} {r : Rec} {va vb : Value} (h : Qb x g 30 (rcA r va vb)) :
    x.cell? ⟨g, 4, none⟩ = some (.int .i64 r.c.k) /\ x.cell? ⟨g, 5, none⟩ = some (.int .i64 r.c.pg) /\ x.cell? ⟨g, 6, none⟩ = some (.int .i64 r.c.sl) /\ x.cell? ⟨g, 7, none⟩ = some (.string r.c.o) /\ x.cell? ⟨g, 8, none⟩ = some (.string r.c.n) :=
  ⟨h.cell 4 _ rfl, h.cell 5 _ rfl, h.cell 6 _ rfl, h.cell 7 _ rfl, h.cell 8 _ rfl⟩
theorem rc_change {x : World} {g : Nat} {r : Rec} {va vb : Value} (h : Qb x g 30 (rcA r va vb)) : x.rangeAt g 4 (chA r.c).toList := by
  intro j v hv; have hj : j < 5 := (List.getElem?_eq_some_iff.1 hv).1; refine h.cell (4 + j) v ?_; rw [<- hv, Array.getElem?_toList]
  match j, hj with
  | 0, _ => rfl
  | 1, _ => rfl
  | 2, _ => rfl
  | 3, _ => rfl
  | 4, _ => rfl
theorem Qcw (k : Int) (w : World) (q : Bool) (Hq : Hid (decide (1 <= k /\ k <= 6) = q)) :
    Calls Try.prog 44 #[.int .i64 k] w fun e w' => e = .returned (.bool q) /\ w = w' := by
  by_cases h1 : 1 <= k
  · by_cases h2 : k <= 6
    · obtain rfl : q = true := by rw [<- Hq.out]; exact decide_eq_true ⟨h1, h2⟩
      clear Hq; go_enter Try.func44, Try.ntmps44; go_wp2; go_ret; exact ⟨rfl, rfl⟩
    · obtain rfl : q = false := by rw [<- Hq.out]; exact decide_eq_false (by omega)
      clear Hq; go_enter Try.func44, Try.ntmps44; go_wp2; go_ret; exact ⟨rfl, rfl⟩
  · obtain rfl : q = false := by rw [<- Hq.out]; exact decide_eq_false (by omega)
    clear Hq; go_enter Try.func44, Try.ntmps44; go_wp2; go_ret; exact ⟨rfl, rfl⟩
end Go.Proofs.Ytohdmmfmjadipaa
