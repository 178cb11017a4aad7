/-
  Plain facts on pages and their images, of no program: what a page's image is; that it tells its page; what its bytes answer.
-/
import Derived.Test.YtmapgfakfeddmaaPackMath
import Derived.Test.YtmapgfakfeddmaaSumMath
namespace Go.Proofs.Ytmapgfakfeddmaa
open Go.RowKit
set_option linter.unusedVariables false

/-- A page: its number's stamp, and eight cells (what the functions say beyond the eighth plays no part). -/
structure Pg where
  l : Nat
  u : Nat → Bool
  s : Nat → ByteArray

def Pg.zero : Pg := ⟨0, fun _ => false, fun _ => ⟨#[]⟩⟩

/-- The page's cells in memory. -/
def pgA (p : Pg) : Array Value := #[.int .u64 p.l, .bool (p.u 0), .string (p.s 0), .bool (p.u 1), .string (p.s 1), .bool (p.u 2), .string (p.s 2), .bool (p.u 3), .string (p.s 3), .bool (p.u 4), .string (p.s 4), .bool (p.u 5), .string (p.s 5), .bool (p.u 6), .string (p.s 6), .bool (p.u 7), .string (p.s 7)]

/-- The same page. -/
abbrev Pg.same (p q : Pg) : Prop := p.l = q.l ∧ ∀ i, i < 8 → p.u i = q.u i ∧ p.s i = q.s i

theorem lt8 {i : Nat} (h : i < 8) : i = 0 ∨ i = 1 ∨ i = 2 ∨ i = 3 ∨ i = 4 ∨ i = 5 ∨ i = 6 ∨ i = 7 := by omega

theorem Pg.same.symm {p q : Pg} (h : p.same q) : q.same p := ⟨h.1.symm, fun i hi => ⟨(h.2 i hi).1.symm, (h.2 i hi).2.symm⟩⟩
theorem Pg.same.trans {p q r : Pg} (h : p.same q) (g : q.same r) : p.same r := ⟨h.1.trans g.1, fun i hi => ⟨(h.2 i hi).1.trans (g.2 i hi).1, (h.2 i hi).2.trans (g.2 i hi).2⟩⟩
theorem Pg.same.refl (p : Pg) : p.same p := ⟨rfl, fun _ _ => ⟨rfl, rfl⟩⟩

theorem same_pgA {p q : Pg} (h : p.same q) : pgA p = pgA q := by
  have h0 := h.2 0 (by omega)
  have h1 := h.2 1 (by omega)
  have h2 := h.2 2 (by omega)
  have h3 := h.2 3 (by omega)
  have h4 := h.2 4 (by omega)
  have h5 := h.2 5 (by omega)
  have h6 := h.2 6 (by omega)
  have h7 := h.2 7 (by omega)
  unfold pgA
  rw [h.1, h0.1, h0.2, h1.1, h1.2, h2.1, h2.2, h3.1, h3.2, h4.1, h4.2, h5.1, h5.2, h6.1, h6.2, h7.1, h7.2]

theorem pgA_used (p : Pg) (i : Nat) (h : i < 8) : (pgA p)[1 + i * 2]? = some (.bool (p.u i)) := by
  rcases lt8 h with rfl | rfl | rfl | rfl | rfl | rfl | rfl | rfl <;> rfl
theorem pgA_val (p : Pg) (i : Nat) (h : i < 8) : (pgA p)[1 + i * 2 + 1]? = some (.string (p.s i)) := by
  rcases lt8 h with rfl | rfl | rfl | rfl | rfl | rfl | rfl | rfl <;> rfl

theorem pgA_same {p q : Pg} (h : pgA p = pgA q) : p.same q := by
  have hl : (pgA p)[0]? = (pgA q)[0]? := by rw [h]
  have hl2 : some (Value.int .u64 (p.l : Int)) = some (Value.int .u64 (q.l : Int)) := hl
  refine ⟨?_, fun i hi => ⟨?_, ?_⟩⟩
  · injection hl2 with h1
    injection h1 with h2 h3
    omega
  · have h1 := pgA_used p i hi
    rw [h, pgA_used q i hi] at h1
    injection h1 with h1
    injection h1 with h1
    exact h1.symm
  · have h1 := pgA_val p i hi
    rw [h, pgA_val q i hi] at h1
    injection h1 with h1
    injection h1 with h1
    exact h1.symm

/-- A cell that can be; a page that can be. -/
abbrev cellOk (u : Bool) (s : ByteArray) : Prop := s.size ≤ 20 ∧ (u = false → s.size = 0)
def maxP : Nat := 4611686018427387904
abbrev Pg.right (p : Pg) : Prop := p.l ≤ maxP ∧ ∀ i, i < 8 → cellOk (p.u i) (p.s i)

theorem Pg.same.right {p q : Pg} (h : p.same q) (hp : p.right) : q.right := by
  refine ⟨by rw [← h.1]; exact hp.1, fun i hi => ?_⟩
  have h1 := h.2 i hi
  rw [← h1.1, ← h1.2]
  exact hp.2 i hi

/-- A page whose numbers and texts a machine can have. -/
def Pg.fits (p : Pg) : Prop := p.l < 18446744073709551616 ∧ ∀ i, i < 8 → (p.s i).size ≤ maxLen

theorem Pg.right.fits {p : Pg} (h : p.right) : p.fits := by
  have h1 := h.1
  unfold maxP at h1
  refine ⟨by omega, fun i hi => ?_⟩
  have h2 := (h.2 i hi).1
  unfold maxLen
  omega

/-- What stands for a cell; the cells' bytes; the values. -/
def lenB (u : Bool) (s : ByteArray) : UInt8 := if u then UInt8.ofNat s.size else 255
def lensB (p : Pg) (k : Nat) : List UInt8 := (List.range k).map fun i => lenB (p.u i) (p.s i)
def valB (u : Bool) (s : ByteArray) : List UInt8 := if u then s.data.toList else []
def valsB (p : Pg) (k : Nat) : List UInt8 := (List.range k).flatMap fun i => valB (p.u i) (p.s i)

theorem lensB_succ (p : Pg) (k : Nat) : lensB p (k + 1) = lensB p k ++ [lenB (p.u k) (p.s k)] := by simp [lensB, List.range_succ]
theorem valsB_succ (p : Pg) (k : Nat) : valsB p (k + 1) = valsB p k ++ valB (p.u k) (p.s k) := by simp [valsB, List.range_succ]
theorem lensB_length (p : Pg) (k : Nat) : (lensB p k).length = k := by simp [lensB]
theorem valB_length (u : Bool) (s : ByteArray) (h : cellOk u s) : (valB u s).length = s.size := by
  unfold valB
  cases u
  · have := h.2 rfl
    simp [this]
  · simp
theorem valsB_le (p : Pg) (hp : p.right) : ∀ k, k ≤ 8 → (valsB p k).length ≤ 20 * k
  | 0, _ => by simp [valsB]
  | k + 1, h => by
    have h1 := valsB_le p hp k (by omega)
    have h2 := hp.2 k (by omega)
    have h3 := valB_length _ _ h2
    have h4 := h2.1
    rw [valsB_succ, List.length_append]
    omega

theorem Pg.same.lens {p q : Pg} (h : p.same q) : lensB p 8 = lensB q 8 := by
  unfold lensB
  refine List.map_congr_left fun i hi => ?_
  have h1 := h.2 i (List.mem_range.1 hi)
  rw [h1.1, h1.2]
theorem Pg.same.vals {p q : Pg} (h : p.same q) : valsB p 8 = valsB q 8 := by
  unfold valsB
  rw [List.flatMap_def, List.flatMap_def]
  congr 1
  refine List.map_congr_left fun i hi => ?_
  have h1 := h.2 i (List.mem_range.1 hi)
  rw [h1.1, h1.2]

/-- What stands ahead of the zeros; the 236 bytes; the tale; the image. -/
def headB (id : Nat) (p : Pg) : List UInt8 := beB 2 id ++ lensB p 8 ++ valsB p 8
def bodyB (id : Nat) (p : Pg) : List UInt8 := headB id p ++ List.replicate (236 - (headB id p).length) 0
def taleB (id : Nat) (p : Pg) : List UInt8 := bodyB id p ++ leB (crc (bodyB id p))
def imageB (id : Nat) (p : Pg) : List UInt8 := beB 8 p.l ++ (taleB id p).take 120 ++ beB 8 p.l ++ (taleB id p).drop 120

theorem Pg.same.image {p q : Pg} (h : p.same q) (id : Nat) : imageB id p = imageB id q := by
  unfold imageB taleB bodyB headB
  rw [h.lens, h.vals, h.1]

theorem headB_length (id : Nat) (p : Pg) : (headB id p).length = 10 + (valsB p 8).length := by
  unfold headB
  rw [List.length_append, List.length_append, beB_length, lensB_length]
theorem headB_le (id : Nat) (p : Pg) (hp : p.right) : (headB id p).length ≤ 170 := by
  have := valsB_le p hp 8 (by omega)
  rw [headB_length]
  omega
theorem bodyB_length (id : Nat) (p : Pg) (hp : p.right) : (bodyB id p).length = 236 := by
  have := headB_le id p hp
  unfold bodyB
  rw [List.length_append, List.length_replicate]
  omega
theorem taleB_length (id : Nat) (p : Pg) (hp : p.right) : (taleB id p).length = 240 := by
  unfold taleB
  rw [List.length_append, bodyB_length id p hp, leB_length]
theorem imageB_length (id : Nat) (p : Pg) (hp : p.right) : (imageB id p).length = 256 := by
  unfold imageB
  simp only [List.length_append, beB_length, List.length_take, List.length_drop, taleB_length id p hp]
  omega

/-- The tale that stands in 256 bytes. -/
def taleOf (bs : List UInt8) : List UInt8 := (bs.drop 8).take 120 ++ bs.drop 136
theorem taleOf_length (bs : List UInt8) (h : bs.length = 256) : (taleOf bs).length = 240 := by
  unfold taleOf
  simp only [List.length_append, List.length_take, List.length_drop]
  omega
theorem image_parts (id : Nat) (p : Pg) (hp : p.right) : (imageB id p).take 8 = beB 8 p.l ∧ ((imageB id p).drop 128).take 8 = beB 8 p.l ∧ taleOf (imageB id p) = taleB id p := by
  have hl := taleB_length id p hp
  have h1 : ((taleB id p).take 120).length = 120 := by rw [List.length_take]; omega
  have h2 := beB_length 8 p.l
  have e : imageB id p = beB 8 p.l ++ ((taleB id p).take 120 ++ (beB 8 p.l ++ (taleB id p).drop 120)) := by simp [imageB]
  have e8 : (imageB id p).drop 8 = (taleB id p).take 120 ++ (beB 8 p.l ++ (taleB id p).drop 120) := by rw [e, List.drop_left' h2]
  have e128 : (imageB id p).drop 128 = beB 8 p.l ++ (taleB id p).drop 120 := by
    have e1 : (imageB id p).drop 128 = ((imageB id p).drop 8).drop 120 := by rw [List.drop_drop]
    rw [e1, e8, List.drop_left' h1]
  have e136 : (imageB id p).drop 136 = (taleB id p).drop 120 := by
    have e1 : (imageB id p).drop 136 = ((imageB id p).drop 128).drop 8 := by rw [List.drop_drop]
    rw [e1, e128, List.drop_left' h2]
  refine ⟨by rw [e, List.take_left' h2], by rw [e128, List.take_left' h2], ?_⟩
  unfold taleOf
  rw [e8, e136, List.take_left' h1, List.take_append_drop]

/-- What bytes tell: a cell's byte, whether it is used, how long its value is, where it begins. -/
def nAt (t : List UInt8) (i : Nat) : Nat := (t.getD (2 + i) 0).toNat
def usedAt (t : List UInt8) (i : Nat) : Bool := decide (nAt t i ≠ 255)
def lenAt (t : List UInt8) (i : Nat) : Nat := if usedAt t i then nAt t i else 0
def posAt (t : List UInt8) : Nat → Nat
  | 0 => 10
  | i + 1 => posAt t i + lenAt t i
def cutAt (t : List UInt8) (i : Nat) : ByteArray := ⟨((t.drop (posAt t i)).take (lenAt t i)).toArray⟩
/-- The page that bytes tell, if they are a page's. -/
def scanP (bs : List UInt8) : Pg := ⟨beAt bs 0 8, usedAt (taleOf bs), cutAt (taleOf bs)⟩

theorem getD_mid (a b : List UInt8) (i : Nat) (h : i < b.length) (c : List UInt8) : (a ++ (b ++ c)).getD (a.length + i) 0 = b.getD i 0 := by
  simp [List.getD, List.getElem?_append_right, List.getElem?_append_left h]

theorem tale_nAt (id : Nat) (p : Pg) (i : Nat) (h : i < 8) : (taleB id p).getD (2 + i) 0 = lenB (p.u i) (p.s i) := by
  have e : taleB id p = beB 2 id ++ (lensB p 8 ++ (valsB p 8 ++ (List.replicate (236 - (headB id p).length) 0 ++ leB (crc (bodyB id p))))) := by simp [taleB, bodyB, headB]
  have hb := beB_length 2 id
  have h1 := getD_mid (beB 2 id) (lensB p 8) i (by rw [lensB_length]; exact h) (valsB p 8 ++ (List.replicate (236 - (headB id p).length) 0 ++ leB (crc (bodyB id p))))
  rw [hb] at h1
  rw [e, h1]
  simp [lensB, List.getD, h]

theorem lenB_nat (u : Bool) (s : ByteArray) (h : cellOk u s) : (lenB u s).toNat = if u then s.size else 255 := by
  have h1 := h.1
  unfold lenB
  cases u
  · rfl
  · simp
    omega

theorem tale_used (id : Nat) (p : Pg) (hp : p.right) (i : Nat) (h : i < 8) : usedAt (taleB id p) i = p.u i ∧ lenAt (taleB id p) i = (p.s i).size := by
  have h1 := hp.2 i h
  have h2 := lenB_nat _ _ h1
  have h3 : nAt (taleB id p) i = if p.u i then (p.s i).size else 255 := by rw [nAt, tale_nAt id p i h, h2]
  have h4 := h1.1
  have h5 : usedAt (taleB id p) i = p.u i := by
    unfold usedAt
    rw [h3]
    cases hu : p.u i
    · simp
    · simp
      omega
  refine ⟨h5, ?_⟩
  unfold lenAt
  rw [h5, h3]
  cases hu : p.u i
  · simp [h1.2 hu]
  · simp

theorem tale_pos (id : Nat) (p : Pg) (hp : p.right) : ∀ (i : Nat), i ≤ 8 → posAt (taleB id p) i = 10 + (valsB p i).length
  | 0, _ => by simp [posAt, valsB]
  | i + 1, h => by
    rw [posAt, tale_pos id p hp i (by omega), (tale_used id p hp i (by omega)).2, valsB_succ, List.length_append, valB_length _ _ (hp.2 i (by omega))]
    omega

theorem vals_split (p : Pg) (i : Nat) (h : i < 8) : ∃ c, valsB p 8 = valsB p i ++ (valB (p.u i) (p.s i) ++ c) := by
  have h1 : ∀ d, ∃ c, valsB p (i + 1 + d) = valsB p (i + 1) ++ c := by
    intro d
    induction d with
    | zero => exact ⟨[], by simp⟩
    | succ d ih =>
      obtain ⟨c, hc⟩ := ih
      exact ⟨c ++ valB (p.u (i + 1 + d)) (p.s (i + 1 + d)), by rw [← Nat.add_assoc, valsB_succ, hc, List.append_assoc]⟩
  obtain ⟨c, hc⟩ := h1 (8 - (i + 1))
  have e : i + 1 + (8 - (i + 1)) = 8 := by omega
  rw [e] at hc
  exact ⟨c, by rw [hc, valsB_succ, List.append_assoc]⟩

theorem mk_data (s : ByteArray) : (⟨s.data.toList.toArray⟩ : ByteArray) = s := by
  obtain ⟨⟨l⟩⟩ := s
  rfl

theorem tale_cut (id : Nat) (p : Pg) (hp : p.right) (i : Nat) (h : i < 8) : cutAt (taleB id p) i = p.s i := by
  have h1 := hp.2 i h
  have hu := tale_used id p hp i h
  have hpos := tale_pos id p hp i (by omega)
  obtain ⟨c, hc⟩ := vals_split p i h
  have e : taleB id p = (beB 2 id ++ lensB p 8 ++ valsB p i) ++ (valB (p.u i) (p.s i) ++ (c ++ (List.replicate (236 - (headB id p).length) 0 ++ leB (crc (bodyB id p))))) := by
    have e1 : taleB id p = beB 2 id ++ lensB p 8 ++ valsB p 8 ++ List.replicate (236 - (headB id p).length) 0 ++ leB (crc (bodyB id p)) := by simp [taleB, bodyB, headB]
    rw [e1, hc]
    simp
  have hl : (beB 2 id ++ lensB p 8 ++ valsB p i).length = 10 + (valsB p i).length := by rw [List.length_append, List.length_append, beB_length, lensB_length]
  unfold cutAt
  rw [hpos, hu.2, ← valB_length _ _ h1]
  have e2 : ((taleB id p).drop (10 + (valsB p i).length)).take (valB (p.u i) (p.s i)).length = valB (p.u i) (p.s i) := by
    rw [e, List.drop_left' hl, List.take_left' rfl]
  rw [e2]
  unfold valB
  cases hb : p.u i
  · have hz := h1.2 hb
    have hz2 : (p.s i).data.toList = [] := List.eq_nil_of_length_eq_zero (by rw [Array.length_toList]; exact hz)
    have := mk_data (p.s i)
    rw [hz2] at this
    exact this
  · exact mk_data (p.s i)

/-- What an image tells is its page. -/
theorem scan_image (id : Nat) (p : Pg) (hp : p.right) : (scanP (imageB id p)).same p := by
  obtain ⟨h1, _, h3⟩ := image_parts id p hp
  refine ⟨?_, fun i hi => ?_⟩
  · show beAt (imageB id p) 0 8 = p.l
    unfold beAt
    rw [List.drop_zero, h1]
    refine be_beB 8 p.l ?_
    have := hp.1
    unfold maxP at this
    have e : 256 ^ 8 = 18446744073709551616 := by decide
    omega
  · show usedAt (taleOf (imageB id p)) i = p.u i ∧ cutAt (taleOf (imageB id p)) i = p.s i
    rw [h3]
    exact ⟨(tale_used id p hp i hi).1, tale_cut id p hp i hi⟩

theorem image_inj {id jd : Nat} {p q : Pg} (hp : p.right) (hq : q.right) (hi : id < 65536) (hj : jd < 65536) (h : imageB id p = imageB jd q) : id = jd ∧ p.same q := by
  refine ⟨?_, ?_⟩
  · have h1 := (image_parts id p hp).2.2
    have h2 := (image_parts jd q hq).2.2
    rw [h, h2] at h1
    have e : ∀ (k : Nat) (r : Pg), (taleB k r).take 2 = beB 2 k := by
      intro k r
      have e1 : taleB k r = beB 2 k ++ (lensB r 8 ++ (valsB r 8 ++ (List.replicate (236 - (headB k r).length) 0 ++ leB (crc (bodyB k r))))) := by simp [taleB, bodyB, headB]
      rw [e1, List.take_left' (beB_length 2 k)]
    have h3 : (taleB jd q).take 2 = (taleB id p).take 2 := by rw [h1]
    rw [e, e] at h3
    have h4 := be_beB 2 jd (by omega)
    rw [h3, be_beB 2 id (by omega)] at h4
    exact h4
  · have h1 := scan_image id p hp
    rw [h] at h1
    exact h1.symm.trans (scan_image jd q hq)

/-- Whether 256 bytes are torn. -/
def tornB (bs : List UInt8) : Bool := decide (bs.length = 256 ∧ bs.take 8 ≠ (bs.drop 128).take 8)

/-- What 'Stamp' answers. -/
def stampB (bs : List UInt8) : Nat × Bool := if bs.length = 256 ∧ tornB bs = false then (beAt bs 0 8, true) else (0, false)

/-- What 'Encode' answers. -/
def encB (id : Int) (p : Pg) : List UInt8 × Int := if 0 ≤ id ∧ id ≤ 31 ∧ p.right then (imageB id.toNat p, 0) else ([], 1)

/-- What 'Decode' answers: the error's number, and the page. -/
def decE (id : Int) (bs : List UInt8) : Int :=
  if ¬ (0 ≤ id ∧ id ≤ 31) then 1 else if bs.length < 256 then 4 else if 256 < bs.length then 2 else if tornB bs = true then 14
  else if ¬ leN ((taleOf bs).drop 236) = crc ((taleOf bs).take 236) then 3
  else if (scanP bs).right ∧ imageB id.toNat (scanP bs) = bs then 0 else 2
def decP (id : Int) (bs : List UInt8) : Pg := if decE id bs = 0 then scanP bs else Pg.zero

theorem decP_no (id : Int) (bs : List UInt8) (h : decE id bs ≠ 0) : decP id bs = Pg.zero := by unfold decP; rw [if_neg h]

theorem data_inj {s t : ByteArray} : s.data.toList = t.data.toList ↔ s = t :=
  ⟨fun h => by rw [← mk_data s, h, mk_data], fun h => by rw [h]⟩
end Go.Proofs.Ytmapgfakfeddmaa
