/-
  Texts that lean on one another, one behind the other: each opens with its own remark.
-/
import Derived.WalkSpells
import Derived.Laws.CopyOwn
import Derived.Deep.QuietTactic
import Derived.BigQuiet
import Derived.Deep.RegionHeld3
import Derived.Test.YtfeghhgniahfkaaProg
import Derived.Test.YtfeghhgniahfkaaK00

/-
  The contracts of package sum.
-/
namespace Go.Proofs.Ytfeghhgniahfkaa
open Go.RowKit
set_option linter.unusedVariables false


theorem sx_yes (q : Nat) (hq : q < 2 ^ 32) (ht : q % 2 = 1) : bits .xor .u32 ((q : Int) / 2) 3988292384 = ((stp q : Nat) : Int) := by
  have e : ((q : Int) / 2) = ((q / 2 : Nat) : Int) := by omega
  have e2 : (3988292384 : Int) = ((3988292384 : Nat) : Int) := rfl
  rw [e, e2, u32_xor_nat (q / 2) 3988292384 (by omega) (by omega), stp, if_pos ht]
  rfl
theorem sx_no (q : Nat) (ht : ¬ q % 2 = 1) : (q : Int) / 2 = ((stp q : Nat) : Int) := by
  rw [stp, if_neg ht]
  omega

theorem sx_and (q : Nat) (hq : q < 2 ^ 32) : bits .and .u32 (q : Int) 1 = ((q % 2 : Nat) : Int) := by
  have e := u32_and_nat q 1 (by omega) (by omega)
  rw [Nat.and_one_is_mod] at e
  exact e
theorem sx_t (q : Nat) (hq : q < 2 ^ 32) (ht : q % 2 = 1) : (bits .and .u32 (q : Int) 1 == 1) = true := by
  rw [sx_and q hq, ht]
  rfl
theorem sx_f (q : Nat) (hq : q < 2 ^ 32) (ht : ¬ q % 2 = 1) : (bits .and .u32 (q : Int) 1 == 1) = false := by
  have h0 : q % 2 = 0 := by omega
  rw [sx_and q hq, h0]
  rfl

set_option maxRecDepth 4000 in
set_option maxHeartbeats 400000 in
theorem shift_at (r c x : Nat) (w : World) (hr : r < 2 ^ 32) (hc : c < 256) (hx : x < 2 ^ 32) (e0 : bits .xor .u32 (r : Int) (c : Int) = ((x : Nat) : Int)) :
    Calls Try.prog 79 #[.int .u32 r, .int .u8 c] w fun e w' => e = .returned (.int .u32 (stps 8 x : Nat)) ∧ w = w' := by
  go_enter Try.func79, Try.ntmps79
  go_wp2
  clear e0
  go_loop [0, 10] (fun q i => ∃ j : Nat, j ≤ 8 ∧ i = .int .i64 j ∧ q = .int .u32 (stps j x : Nat)) (fun _ i => 8 - (intOf i).toNat)
  case atStart => exact ⟨0, Nat.zero_le _, rfl, rfl⟩
  case round =>
    obtain ⟨j, hj, rfl, rfl⟩ := hrel
    by_cases hlt : j < 8
    · have hq := stps_lt j x hx
      have hs := stps_succ j x
      generalize stps j x = q at *
      by_cases ht : q % 2 = 1
      · have h1 := sx_t q hq ht
        go_wp2
        go_round
        case rel => exact ⟨j + 1, by omega, by go_num, by rw [hs]; exact congrArg (Value.int .u32) (sx_yes q hq ht)⟩
        case measure => simp [intOf]; omega
      · have h1 := sx_f q hq ht
        go_wp2
        go_round
        case rel => exact ⟨j + 1, by omega, by go_num, by rw [hs]; exact congrArg (Value.int .u32) (sx_no q ht)⟩
        case measure => simp [intOf]; omega
    · go_wp2
      go_ret
      obtain rfl : j = 8 := by omega
      exact ⟨rfl, rfl⟩

theorem shift_any (r : Nat) (c : UInt8) (w : World) (hr : r < 2 ^ 32) :
    Calls Try.prog 79 #[.int .u32 r, .int .u8 c.toNat] w fun e w' => e = .returned (.int .u32 (byteS r c : Nat)) ∧ w = w' :=
  shift_at r c.toNat (r ^^^ c.toNat) w hr c.toNat_lt (Nat.xor_lt_two_pow hr (u8_lt32 c)) (u32_xor_nat r c.toNat (by omega) (by have := c.toNat_lt; omega))

theorem told_step (q m j x : Nat) (hj : j < 4) (hm : m < 256) (hq : q < 256 ^ j) (hx : x = q + m * 256 ^ j) : bits .or .u32 (q : Int) ((m : Int) * 2 ^ (8 * j) % 4294967296) = ((x : Nat) : Int) := by
  subst hx
  have hp : 256 ^ j * 256 ≤ 4294967296 := by
    have h2 : 256 ^ (j + 1) ≤ 256 ^ 4 := Nat.pow_le_pow_right (by omega) (by omega)
    rw [Nat.pow_succ] at h2
    exact h2
  have e1 : (2 : Int) ^ (8 * j) = ((256 ^ j : Nat) : Int) := by
    rw [Int.pow_mul]
    simp
  have hmx : m * 256 ^ j + 256 ^ j ≤ 4294967296 := by
    have h3 : (m + 1) * 256 ^ j ≤ 256 * 256 ^ j := Nat.mul_le_mul_right _ (by omega)
    rw [Nat.add_mul, Nat.one_mul] at h3
    omega
  have e2 : (m : Int) * 2 ^ (8 * j) % 4294967296 = ((m * 256 ^ j : Nat) : Int) := by
    have e3 : (m : Int) * ((256 ^ j : Nat) : Int) = ((m * 256 ^ j : Nat) : Int) := by rw [Int.natCast_mul]
    rw [e1, e3]
    omega
  have hpw : 256 ^ j = 2 ^ (8 * j) := by rw [Nat.pow_mul]
  rw [e2, u32_or_nat q (m * 256 ^ j) (by omega) (by omega)]
  have e4 : q ||| m * 256 ^ j = q + m * 256 ^ j := by
    rw [Nat.or_comm, hpw, Nat.mul_comm m, ← Nat.two_pow_add_eq_or_of_lt (by rw [← hpw]; exact hq), Nat.add_comm]
  rw [e4]

set_option maxRecDepth 4000 in
set_option maxHeartbeats 400000 in
theorem told_ok (b off cap : Nat) (bs : List UInt8) (w : World) (hb : bs.length = 4)
    (hc : ∀ j, j < 4 → w.cell? ⟨b, off + j, none⟩ = some (.int .u8 ((bs.getD j 0).toNat : Int))) :
    Calls Try.prog 67 #[.slice (some ⟨b, off, none⟩) 4 cap] w fun e w' => e = .returned (.int .u32 (leN bs : Nat)) ∧ w = w' := by
  go_enter Try.func67, Try.ntmps67
  go_wp2
  go_loop [3, 5] (fun q i => ∃ j : Nat, j ≤ 4 ∧ i = .int .i64 j ∧ q = .int .u32 (leN (bs.take j) : Nat)) (fun _ i => 4 - (intOf i).toNat)
  case atStart => exact ⟨0, Nat.zero_le _, rfl, rfl⟩
  case round =>
    obtain ⟨j, hj, rfl, rfl⟩ := hrel
    by_cases hlt : j < 4
    · have hq := leN_lt (bs.take j)
      rw [List.length_take, Nat.min_eq_left (by omega)] at hq
      have hs := leN_take bs j (by omega)
      have hcj := hc j hlt
      have hm : (bs.getD j 0).toNat < 256 := (bs.getD j 0).toNat_lt
      clear hc
      generalize leN (bs.take j) = q at *
      generalize (bs.getD j 0).toNat = m at *
      go_wp2
      go_round
      case rel => exact ⟨j + 1, by omega, by go_num, congrArg (Value.int .u32) (told_step q m j _ hlt hm hq hs)⟩
      case measure => simp [intOf]; omega
    · go_wp2
      go_ret
      obtain rfl : j = 4 := by omega
      rw [List.take_of_length_le (by omega)]
      exact ⟨rfl, rfl⟩

theorem um_xor (m : Nat) (hm : m < 2 ^ 32) : bits .xor .u32 IntKind.u32.max (m : Int) = ((ones ^^^ m : Nat) : Int) := u32_xor_nat ones m (by decide) (by omega)

set_option maxRecDepth 4000 in
set_option maxHeartbeats 400000 in
theorem more_at (m x : Nat) (a : Option Addr) (len cap : Nat) (bs : List UInt8) (w : World) (hm : m < 2 ^ 32) (hx : x < 2 ^ 32) (hB : IsB w a len bs) (hl : len ≤ 140737488355328)
    (e0 : bits .xor .u32 IntKind.u32.max (m : Int) = ((x : Nat) : Int)) :
    Calls Try.prog 74 #[.int .u32 m, .slice a len cap] w fun e w' => e = .returned (.int .u32 (ones ^^^ crun x bs : Nat)) ∧ w = w' := by
  have hsg : ¬ IntKind.u32.signed = true := by decide
  go_enter Try.func74, Try.ntmps74
  go_wp2
  clear e0
  go_loop [5, 12] (fun q i => ∃ j : Nat, j ≤ len ∧ i = .int .i64 j ∧ q = .int .u32 (crun x (bs.take j) : Nat)) (fun _ i => len - (intOf i).toNat)
  case atStart => exact ⟨0, Nat.zero_le _, rfl, rfl⟩
  case round =>
    obtain ⟨j, hj, rfl, rfl⟩ := hrel
    by_cases hlt : j < len
    · obtain ⟨b, off, rfl, hbl, hc⟩ := hB.2 (by omega)
      have hq := crun_lt (bs.take j) x hx
      have hs : crun x (bs.take (j + 1)) = byteS (crun x (bs.take j)) (bs.getD j 0) := by
        have hjl : j < bs.length := by rw [hB.1]; exact hlt
        rw [List.take_succ_eq_append_getElem hjl, crun_snoc]
        simp [List.getD, List.getElem?_eq_getElem hjl]
      have hcj := hc j hlt
      clear hc hB
      generalize crun x (bs.take j) = q at *
      have R := shift_any q (bs.getD j 0) w hq
      have hm : (bs.getD j 0).toNat < 256 := (bs.getD j 0).toNat_lt
      generalize byteS q (bs.getD j 0) = q2 at *
      generalize (bs.getD j 0).toNat = c at *
      have HR := hide R
      clear R
      go_wp2_with fail
      refine HR.out.mono ?_
      rintro e w1 ⟨rfl, rfl⟩
      go_wp2
      go_round
      case rel => exact ⟨j + 1, by omega, by go_num, by rw [hs]⟩
      case measure => simp [intOf]; omega
    · obtain rfl : j = len := by omega
      have hx2 := crun_lt (bs.take j) x hx
      have e1 := um_xor _ hx2
      go_wp2
      go_ret
      have e2 := hB.1
      rw [List.take_of_length_le (by omega)]
      exact ⟨rfl, rfl⟩

theorem more_any (m : Nat) (a : Option Addr) (len cap : Nat) (bs : List UInt8) (w : World) (hm : m < 2 ^ 32) (hB : IsB w a len bs) (hl : len ≤ 140737488355328) :
    Calls Try.prog 74 #[.int .u32 m, .slice a len cap] w fun e w' => e = .returned (.int .u32 (crcMore m bs : Nat)) ∧ w = w' :=
  more_at m (ones ^^^ m) a len cap bs w hm (Nat.xor_lt_two_pow ones_lt hm) hB hl (um_xor m hm)

set_option maxRecDepth 4000 in
set_option maxHeartbeats 400000 in
theorem of_any (a : Option Addr) (len cap : Nat) (bs : List UInt8) (w : World) (hB : IsB w a len bs) (hl : len ≤ 140737488355328) :
    Calls Try.prog 66 #[.slice a len cap] w fun e w' => e = .returned (.int .u32 (crc bs : Nat)) ∧ w = w' := by
  have e0 : crcMore 0 bs = crc bs := by rw [crcMore, crc, Nat.xor_zero]
  have R := more_any 0 a len cap bs w (by decide) hB hl
  rw [e0] at R
  have HR := hide R
  clear R
  go_enter Try.func66, Try.ntmps66
  go_wp2_with fail
  refine HR.out.mono ?_
  rintro e w1 ⟨rfl, rfl⟩
  go_wp2
  go_ret
  exact ⟨rfl, rfl⟩

set_option maxRecDepth 4000 in
set_option maxHeartbeats 400000 in
theorem open_short (a : Option Addr) (len cap : Nat) (w : World) (h : len < 4) :
    Calls Try.prog 48 #[.slice a len cap] w fun e w' => e = .returned (.tuple #[.slice none 0 0, .int .i64 4]) ∧ w = w' := by
  go_enter Try.func48, Try.ntmps48
  go_wp2
  go_ret2
  exact ⟨rfl, rfl⟩

theorem below_drw {B : Nat} {w w' : World} (h : Below B w w') (k : Nat) : Below B w (w'.drewN k) := ⟨h.1, h.2, h.3, h.4, h.5⟩
theorem isB_drewN {w : World} {a : Option Addr} {len k : Nat} {bs : List UInt8} (h : IsB w a len bs) : IsB (w.drewN k) a len bs := h

theorem told_any (a : Option Addr) (cap : Nat) (bs : List UInt8) (w : World) (hB : IsB w a 4 bs) :
    Calls Try.prog 67 #[.slice a 4 cap] w fun e w' => e = .returned (.int .u32 (leN bs : Nat)) ∧ w = w' := by
  obtain ⟨b, off, rfl, _, hc⟩ := hB.2 (by omega)
  exact told_ok b off cap bs w hB.1 hc

theorem of_q (a : Option Addr) (len cap k : Nat) (bs : List UInt8) (w : World) (hB : IsB w a len bs) (hl : len ≤ 140737488355328) :
    Calls Try.prog 66 #[.slice a len cap] (w.drewN k) fun e w' => e = .returned (.int .u32 (crc bs : Nat)) ∧ w' = w.drewN k :=
  (of_any a len cap bs (w.drewN k) (isB_drewN hB) hl).mono fun e w' ⟨he, hw⟩ => ⟨he, hw.symm⟩
theorem told_q (a : Option Addr) (cap k : Nat) (bs : List UInt8) (w : World) (hB : IsB w a 4 bs) :
    Calls Try.prog 67 #[.slice a 4 cap] (w.drewN k) fun e w' => e = .returned (.int .u32 (leN bs : Nat)) ∧ w' = w.drewN k :=
  (told_any a cap bs (w.drewN k) (isB_drewN hB)).mono fun e w' ⟨he, hw⟩ => ⟨he, hw.symm⟩

set_option maxRecDepth 4000 in
set_option maxHeartbeats 400000 in
theorem open_no (b off n cap x y : Nat) (w : World) (hcap : n + 4 ≤ cap) (hl : n ≤ 140737488355328) (hne : ((x : Int) != (y : Int)) = true)
    (H1 : Hid (∀ k cap, Calls Try.prog 66 #[.slice (some ⟨b, off, none⟩) n cap] (w.drewN k) fun e w' => e = .returned (.int .u32 (x : Nat)) ∧ w' = w.drewN k))
    (H2 : Hid (∀ k cap, Calls Try.prog 67 #[.slice (some ⟨b, off + n, none⟩) 4 cap] (w.drewN k) fun e w' => e = .returned (.int .u32 (y : Nat)) ∧ w' = w.drewN k)) :
    Calls Try.prog 48 #[.slice (some ⟨b, off, none⟩) (n + 4) cap] w fun e w' => e = .returned (.tuple #[.slice none 0 0, .int .i64 3]) ∧ Below w.heap.size w w' := by
  go_enter Try.func48, Try.ntmps48
  go_wp2_with fail
  go_quiet (first | (go_at_call 66; exact Calls.quiet_of_same (H1.out _ _)) | (go_at_call 67; exact Calls.quiet_of_same (H2.out _ _)))
  go_wp2
  go_ret2
  exact ⟨rfl, below_drw (Below.refl _ _) nq⟩

set_option maxRecDepth 4000 in
set_option maxHeartbeats 400000 in
theorem open_yes (b off n cap x : Nat) (bs : List UInt8) (w : World) (hcap : n + 4 ≤ cap) (hl : n ≤ 140737488355328) (hB : IsB w (some ⟨b, off, none⟩) n bs)
    (H1 : Hid (∀ k cap, Calls Try.prog 66 #[.slice (some ⟨b, off, none⟩) n cap] (w.drewN k) fun e w' => e = .returned (.int .u32 (x : Nat)) ∧ w' = w.drewN k))
    (H2 : Hid (∀ k cap, Calls Try.prog 67 #[.slice (some ⟨b, off + n, none⟩) 4 cap] (w.drewN k) fun e w' => e = .returned (.int .u32 (x : Nat)) ∧ w' = w.drewN k)) :
    Calls Try.prog 48 #[.slice (some ⟨b, off, none⟩) (n + 4) cap] w fun e w' => ∃ v, e = .returned (.tuple #[v, .int .i64 0]) ∧ w'.ownsRow w.heap.size 5 1 v n (toV bs) ∧ Below w.heap.size w w' := by
  have hmk := run_mkn (P := Try.prog) 61 5 Try.underlying61 info8 n (by omega)
  have HB := hide hB
  clear hB
  go_enter Try.func48, Try.ntmps48
  go_wp2_with fail
  go_quiet (first | (go_at_call 66; exact Calls.quiet_of_same (H1.out _ _)) | (go_at_call 67; exact Calls.quiet_of_same (H2.out _ _)))
  have hB1 := isB_drewN (k := nq) HB.out
  have hb1 := below_drw (Below.refl w.heap.size w) nq
  generalize w.drewN nq = w1 at *
  clear H1 H2 HB
  have hrow : (w1.alloc (.cells (zrow n).toArray 5)).heap[w1.heap.size]? = some (.cells (zrow n).toArray 5 (0, 0)) := heap_alloc_new w1 _
  have hlb := hB1.1
  go_wp2_with (refine wpList_copy_splice rfl (.tmp 23) (.tmp 24) 61 61 rfl 5 Try.underlying61 info8s (some ⟨w1.heap.size, 0, none⟩) (some ⟨b, off, none⟩) n n (n + 4) cap rfl rfl w1.heap.size 0 (zrow n) 5 hrow (toV bs) (by rw [toV_length, hlb]; exact (Nat.min_eq_right (Nat.le_add_right n 4)).symm) (hB1.hpos _ _) (by rw [toV_length, zrow_length, hlb]; omega) (toV_one bs) w.heap.size w (hb1.alloc hb1.size _) hb1.size ?_)
  intro w2 HG hb2
  go_wp2
  go_ret2
  exact ⟨_, rfl, owns_spliced (m := 0) hlb hb1.size (by omega) HG.out, hb2⟩

theorem own_cap {w : World} {base n cap size : Nat} {e : TypeId} {a : Option Addr} {xs : List Value} (h : w.ownsRow base e size (.slice a n cap) n xs) : n ≤ cap := by
  rcases h.2 with ⟨hv, h0⟩ | ⟨g, cap', cur, hv, _, _, hn, _⟩
  · omega
  · injection hv with _ _ h3
    omega

/-- THE CONTRACT of Open. -/
theorem open_any (a : Option Addr) (len cap : Nat) (bs : List UInt8) (w : World) (hB : IsB w a len bs) (hl : len ≤ 140737488355328) (hcap : len ≤ cap) :
    Calls Try.prog 48 #[.slice a len cap] w fun e w' => ∃ v, e = .returned (.tuple #[v, .int .i64 (openS bs).2]) ∧ w'.ownsRow w.heap.size 5 1 v (openS bs).1.length (toV (openS bs).1) ∧ Below w.heap.size w w' := by
  have hb := hB.1
  by_cases h : len < 4
  · rw [openS_short bs (by omega)]
    refine (open_short a len cap w h).mono ?_
    rintro e w' ⟨rfl, rfl⟩
    exact ⟨_, rfl, World.ownsRow_nil _ _ _ _, Below.refl _ _⟩
  obtain ⟨n, rfl⟩ : ∃ n, len = n + 4 := ⟨len - 4, by omega⟩
  obtain ⟨b, off, rfl, hlt, hc⟩ := hB.2 (by omega)
  have e1 : bs.length - 4 = n := by omega
  have c1 : IsB w (some ⟨b, off, none⟩) n (bs.take n) := by
    have h1 := IsB.cut hb hlt hc 0 n (by omega)
    rwa [List.drop_zero] at h1
  have c2 : IsB w (some ⟨b, off + n, none⟩) 4 (bs.drop n) := by
    have h1 := IsB.cut hb hlt hc n 4 (by omega)
    rwa [List.take_of_length_le (by rw [List.length_drop]; omega)] at h1
  have H1 := fun k cap => of_q _ n cap k _ w c1 (by omega)
  have H2 := fun k cap => told_q _ cap k _ w c2
  by_cases h2 : leN (bs.drop (bs.length - 4)) = crc (bs.take (bs.length - 4))
  · rw [openS_ok bs (by omega) h2, e1]
    rw [e1] at h2
    rw [h2] at H2
    have e2 : (bs.take n).length = n := c1.1
    rw [e2]
    exact open_yes b off n cap _ _ w hcap (by omega) c1 H1 H2
  · rw [openS_no bs (by omega) h2]
    rw [e1] at h2
    refine (open_no b off n cap _ _ w hcap (by omega) (by rw [bne_iff_ne]; omega) H1 H2).mono ?_
    rintro e w' ⟨rfl, hbel⟩
    exact ⟨_, rfl, World.ownsRow_nil _ _ _ _, hbel⟩

set_option maxRecDepth 4000 in
set_option maxHeartbeats 400000 in
theorem seal_any (a : Option Addr) (len cap : Nat) (bs : List UInt8) (w : World) (hB : IsB w a len bs) (hl : len ≤ 140737488355328) :
    Calls Try.prog 52 #[.slice a len cap] w fun e w' => ∃ v, e = .returned v ∧ w'.ownsRow w.heap.size 5 1 v (len + 4) (toV (bs ++ leB (crc bs))) ∧ Below w.heap.size w w' := by
  obtain ⟨x, ex⟩ : ∃ x, x = crc bs := ⟨_, rfl⟩
  rw [← ex]
  obtain ⟨i0, hi, hz0, hz1, hz2⟩ := info_parts info8
  have hmk := run_mk (P := Try.prog) 61 5 Try.underlying61 info8 len 4 (by omega)
  have hmk2 : ∀ w : World, (Instr.makeSlice 61 (.int .i64 (len : Int)) (.int .i64 ((len : Int) + 4))).run Try.prog w = .ok (.slice (some ⟨w.heap.size, 0, none⟩) len (len + 4)) (w.alloc (.cells (zrow (len + 4)).toArray 5)) := hmk
  have hrow : (w.alloc (.cells (zrow (len + 4)).toArray 5)).heap[w.heap.size]? = some (.cells (zrow (len + 4)).toArray 5 (0, 0)) := heap_alloc_new w _
  clear hmk
  go_enter Try.func52, Try.ntmps52
  go_wp2_with (refine wpList_copy_splice rfl (.tmp 12) (.tmp 13) 61 61 rfl 5 Try.underlying61 info8s (some ⟨w.heap.size, 0, none⟩) a len (len + 4) len cap rfl rfl w.heap.size 0 (zrow (len + 4)) 5 hrow (toV bs) (by rw [toV_length, hB.1]; exact (Nat.min_self _).symm) (hB.hpos _ _) (by rw [toV_length, zrow_length, hB.1]; omega) (toV_one bs) w.heap.size w ((Below.refl _ _).alloc (Nat.le_refl _) _) (Nat.le_refl _) ?_)
  intro w2 HG hb2
  have hown := owns_spliced (m := 4) hB.1 (Nat.le_refl w.heap.size) (by omega) HG.out
  have R := of_any a len cap bs w2 (hB.below hb2) hl
  have hx := crc_lt bs
  rw [← ex] at R hx
  clear ex
  have HR := hide R
  clear R HG hrow hmk2
  go_wp2_with fail
  refine HR.out.mono ?_
  rintro e w1 ⟨rfl, rfl⟩
  go_wp2
  go_loopw [3, 17] (fun v i wr => ∃ j : Nat, j ≤ 4 ∧ i = .int .i64 j ∧ v = .slice (some ⟨w.heap.size, 0, none⟩) (len + j) (len + 4) ∧ wr.ownsRow w.heap.size 5 1 (.slice (some ⟨w.heap.size, 0, none⟩) (len + j) (len + 4)) (len + j) (toV (bs ++ (leB x).take j)) ∧ Below w.heap.size w wr) (fun _ i _ => 4 - (intOf i).toNat)
  case atStart => exact ⟨0, Nat.zero_le _, rfl, rfl, by simpa using hown, hb2⟩
  case round =>
    obtain ⟨j, hj, rfl, rfl, hownr, hbr⟩ := hrel
    clear hown hb2
    by_cases hlt : j < 4
    · go_wp2_with (at_builtin; refine wpList_append_fits _ rfl (.tmp 20) (.tmp 26) 61 rfl w.heap.size 5 i0 1 Try.underlying61 hi hz1 w.heap.size (len + j) (len + 4) _ rfl (hownr.alloc _) ⟨wr.heap.size, 0, none⟩ 1 1 [.int .u8 ((x : Int) / 2 ^ (8 * j) % 256)] rfl rfl (cell_one_new _ _ _) (by simp [Value.oneCell']) (by omega) ?_)
      intro w2 hown2 hgr
      rw [byte_at] at hown2
      have hown3 := put_row hown2 (leB_take x j hlt)
      have hb3 : Below w.heap.size w w2 := (hbr.alloc hbr.size _).grown hgr (by simp; have := hbr.size; omega) (by simp)
      clear hown2 hgr hownr
      go_wp2
      go_roundw
      case rel => exact ⟨j + 1, by omega, by go_num, by simp [Nat.add_assoc], hown3, hb3⟩
      case measure => simp [intOf]; omega
    · go_wp2
      go_ret
      obtain rfl : j = 4 := by omega
      exact ⟨_, rfl, hownr, hbr⟩
end Go.Proofs.Ytfeghhgniahfkaa

/-
  The contract of package page's Encode.
-/
namespace Go.Proofs.Ytfeghhgniahfkaa
open Go.RowKit
set_option linter.unusedVariables false

set_option maxRecDepth 4000 in
set_option maxHeartbeats 400000 in
theorem sector_any (a : Option Addr) (len cap st : Nat) (bs : List UInt8) (g off m c : Nat) (ys : List UInt8) (w : World) (hB : IsB w a len bs) (hl : len ≤ 1000) (hst : st < 18446744073709551616) (hm : m ≤ 1000) (hY : IsB w (some ⟨g, off, none⟩) m ys) :
    Calls Try.prog 54 #[.slice a len cap, .int .u64 st, .slice (some ⟨g, off, none⟩) m c] w fun e w' => ∃ v, e = .returned v ∧ w'.ownsRow w.heap.size 5 1 v (len + 8 + m) (toV (bs ++ beB 8 st ++ ys)) ∧ Below w.heap.size w w' := by
  have H1 := hide (put_ok a len cap 8 st bs w hB (by omega) (by omega) (by omega) (by have e : 256 ^ 8 = 18446744073709551616 := by decide
                                                                                      omega))
  have HY := hide hY
  clear hB hY
  go_enter Try.func54, Try.ntmps54
  go_wp2_with fail
  refine H1.out.mono ?_
  rintro e w1 ⟨rfl, hown1, hb1⟩
  have HO1 := hide hown1
  have HY1 := hide (HY.out.below hb1)
  clear hown1 HY H1
  obtain ⟨xs, hxs⟩ : ∃ xs, xs = bs ++ beB 8 st := ⟨_, rfl⟩
  rw [← hxs] at HO1
  have HX := hide hxs
  clear hxs
  go_wp2_with (at_builtin; refine wpList_append_ob _ rfl (.tmp 15) (.tmp 16) 61 rfl 5 Try.underlying61 info8 w.heap.size _ (len + 8) _ rfl HO1.out _ m c _ rfl HY1.out (fun h => nomatch h) (by omega) hb1.size ?_)
  intro v2 w2 hown2 hg2
  have d2 := hb1.grown hg2 hb1.size (fun k hk => (HO1.out.lt k hk).1)
  have HO2 := hide hown2
  clear hown2 hg2 hb1 HO1 HY1
  go_wp2
  go_ret
  exact ⟨_, rfl, by rw [← HX.out]; exact HO2.out, d2⟩

set_option maxRecDepth 4000 in
set_option maxHeartbeats 400000 in
theorem enc_id (id : Int) (p : Pg) (w : World) (h : ¬ (0 ≤ id ∧ id ≤ 31)) :
    Calls Try.prog 25 #[.int .i64 id, .agg (pgA p)] w fun e w' => e = .returned (.tuple #[.slice none 0 0, .int .i64 1]) ∧ Below w.heap.size w w' := by
  have hb0 : Below w.heap.size w (w.alloc (.cells (pgA p) 35)) := (Below.refl _ _).alloc (Nat.le_refl _) _
  have R := fun w => rightID_any id w
  rw [decide_eq_false h] at R
  have HR := hide R
  clear R h
  go_enter Try.func25, Try.ntmps25
  go_wp2_with fail
  refine (HR.out _).mono ?_
  rintro e w1 ⟨rfl, rfl⟩
  go_wp2
  go_ret2
  exact ⟨rfl, hb0⟩

set_option maxRecDepth 4000 in
set_option maxHeartbeats 400000 in
theorem enc_wrong (id : Int) (p : Pg) (w : World) (h : 0 ≤ id ∧ id ≤ 31) (hp : ¬ p.right) :
    Calls Try.prog 25 #[.int .i64 id, .agg (pgA p)] w fun e w' => e = .returned (.tuple #[.slice none 0 0, .int .i64 1]) ∧ Below w.heap.size w w' := by
  have hP : PgAt (w.alloc (.cells (pgA p) 35)) w.heap.size p := heap_alloc_new w _
  have hb0 : Below w.heap.size w (w.alloc (.cells (pgA p) 35)) := (Below.refl _ _).alloc (Nat.le_refl _) _
  have R := fun w => rightID_any id w
  rw [decide_eq_true h] at R
  have HR := hide R
  have S := fun w => right_any p w
  rw [decide_eq_false hp] at S
  have HS := hide S
  have HP := hide hP
  clear R S h hP hp
  go_enter Try.func25, Try.ntmps25
  go_wp2_with fail
  refine (HR.out _).mono ?_
  rintro e w1 ⟨rfl, rfl⟩
  go_wp2_with (refine wpList_load_page rfl (.tmp 3) rfl w.heap.size rfl p HP.out ?_)
  refine (HS.out _).mono ?_
  rintro e w2 ⟨rfl, hb2⟩
  have d2 := hb0.trans (hb2.mono hb0.size)
  clear hb0 hb2 HS HP HR
  go_wp2
  go_ret2
  exact ⟨rfl, d2⟩

theorem img_parts (id : Nat) (p : Pg) : [] ++ beB 8 p.l ++ (taleB id p).take 120 ++ beB 8 p.l ++ (taleB id p).drop 120 = imageB id p := by simp [imageB]

set_option maxRecDepth 4000 in
set_option maxHeartbeats 800000 in
theorem enc_right (id : Nat) (p : Pg) (w : World) (h : id < 32) (hp : p.right) :
    Calls Try.prog 25 #[.int .i64 id, .agg (pgA p)] w fun e w' => ∃ v, e = .returned (.tuple #[v, .int .i64 0]) ∧ w'.ownsRow w.heap.size 5 1 v 256 (toV (imageB id p)) ∧ Below w.heap.size w w' := by
  have hP : PgAt (w.alloc (.cells (pgA p) 35)) w.heap.size p := heap_alloc_new w _
  have hb0 : Below w.heap.size w (w.alloc (.cells (pgA p) 35)) := (Below.refl _ _).alloc (Nat.le_refl _) _
  have R := fun w => rightID_any id w
  rw [decide_eq_true (show 0 ≤ (id : Int) ∧ (id : Int) ≤ 31 by omega)] at R
  have HR := hide R
  have S := fun w => right_any p w
  rw [decide_eq_true hp] at S
  have HS := hide S
  have HL := hide (fun w => plain_any id p w h hp)
  have hst : p.l < 18446744073709551616 := by
    have := hp.1
    unfold maxP at this
    omega
  have hlen := taleB_length id p hp
  have HP := hide hP
  clear R S hP hp
  go_enter Try.func25, Try.ntmps25
  go_wp2_with fail
  refine (HR.out _).mono ?_
  rintro e w1 ⟨rfl, rfl⟩
  go_wp2_with (refine wpList_load_page rfl (.tmp 3) rfl w.heap.size rfl p HP.out ?_)
  refine (HS.out _).mono ?_
  rintro e w2 ⟨rfl, hb2⟩
  have d2 := hb0.trans (hb2.mono hb0.size)
  have HP2 := hide (HP.out.below hb2 (by simp))
  clear hb0 hb2 HS HP HR
  go_wp2_with (refine wpList_load_cs rfl (.tmp 17) rfl w.heap.size rfl p HP2.out ?_)
  refine (HL.out _).mono ?_
  rintro e w3 ⟨v3, rfl, hown3, hb3⟩
  obtain ⟨a3, cap3, rfl, hcap3, hB3⟩ := shape_isB hown3
  have d3 := d2.trans (hb3.mono d2.size)
  have HP3 := hide (HP2.out.below hb3 (Array.getElem?_eq_some_iff.1 HP2.out).1)
  have HSl := hide (seal_any a3 236 cap3 (bodyB id p) w3 hB3 (by omega))
  clear hb3 d2 HP2 HL hown3 hB3 hcap3
  go_wp2_with fail
  refine HSl.out.mono ?_
  rintro e w4 ⟨v4, rfl, hown4, hb4⟩
  have hown4' : w4.ownsRow w3.heap.size 5 1 v4 240 (toV (taleB id p)) := hown4
  obtain ⟨g4, cap4, rfl, hg4⟩ := own_slice hown4' (by omega)
  have hc4 := own_cap hown4'
  have i1 : (120 : Int) ≤ (cap4 : Int) := by omega
  have i2 : (240 : Int) ≤ (cap4 : Int) := by omega
  have i3 : ¬ cap4 = 120 := by omega
  have hB4 := hown4'.isB hlen
  have d4 := d3.trans (hb4.mono d3.size)
  have HP4 := hide (HP3.out.below hb4 (Array.getElem?_eq_some_iff.1 HP3.out).1)
  obtain ⟨b', o', he', hlt', hcell'⟩ := hB4.2 (by omega)
  cases he'
  have HB1 := hide (show IsB w4 (some ⟨g4, 0, none⟩) 120 ((taleB id p).take 120) from by simpa using IsB.cut hB4.1 hlt' hcell' 0 120 (by omega))
  have HB2 := hide (show IsB w4 (some ⟨g4, 120, none⟩) 120 ((taleB id p).drop 120) from by
    have h1 := IsB.cut hB4.1 hlt' hcell' 120 120 (by omega)
    rw [List.take_of_length_le (by rw [List.length_drop]; omega), Nat.zero_add] at h1
    exact h1)
  have HI := hide (img_parts id p)
  have hlt4 : w.heap.size < w4.heap.size := (Array.getElem?_eq_some_iff.1 HP4.out).1
  have c4 := HP4.out.lsn
  clear hb4 d3 HP3 HSl hown4 hown4' hB4 hcell' hlen HP4
  clear hg4
  generalize (taleB id p).take 120 = t1 at *
  generalize (taleB id p).drop 120 = t2 at *
  generalize p.l = st at *
  go_wp2_with fail
  go_region_held3 (fun x => x.cell? ⟨w.heap.size, 0, none⟩ = some (.int .u64 st)) (go_keep)
    (first | (go_at_call 54; refine (sector_any none 0 0 st [] g4 0 120 cap4 t1 _ (IsB.nil _) (by omega) hst (by omega) (isB_drewN (k := 1) HB1.out)).mono ?_; rintro e w5 ⟨v5, rfl, hown5, hb5⟩; have c5 : w5.cell? ⟨w.heap.size, 0, none⟩ = some (.int .u64 st) := (hb5.cell hlt4).trans c4; obtain ⟨a5, cap5, rfl, hcap5, hB5⟩ := shape_isB hown5))
  have d5 := d4.trans (Below.mono (show Below w4.heap.size w4 w5 from ⟨hb5.1, hb5.2, hb5.3, hb5.4, hb5.5⟩) d4.size)
  have HB25 := hide (IsB.below (isB_drewN (k := 1) HB2.out) hb5)
  have HB5 := hide hB5
  have hlt5 : w.heap.size < w5.heap.size := Nat.lt_of_lt_of_le hlt4 hb5.size
  clear hown5 hb5 hB5 HB1 HB2 c4 d4 hlt4
  go_wp2_with fail
  go_region_held3 (fun x => x.cell? ⟨w.heap.size, 0, none⟩ = some (.int .u64 st)) (go_keep)
    (first | (go_at_call 54; refine (sector_any a5 (0 + 8 + 120) cap5 st _ g4 120 120 (cap4 - 120) t2 _ (isB_drewN (k := 1) HB5.out) (by omega) hst (by omega) (isB_drewN (k := 1) HB25.out)).mono ?_; rintro e w6 ⟨v6, rfl, hown6, hb6⟩; have c6 : w6.cell? ⟨w.heap.size, 0, none⟩ = some (.int .u64 st) := (hb6.cell hlt5).trans c5))
  have d6 := d5.trans (Below.mono (show Below w5.heap.size w5 w6 from ⟨hb6.1, hb6.2, hb6.3, hb6.4, hb6.5⟩) d5.size)
  have ho6 := ownsRow_down hown6 d5.size
  rw [HI.out] at ho6
  have HO6 := hide ho6
  clear hown6 hb6 ho6 c5 c6 HB5 HB25
  go_wp2
  go_ret2
  exact ⟨_, rfl, HO6.out, d6⟩

/-- THE CONTRACT. -/
theorem enc_any (id : Int) (p : Pg) (w : World) :
    Calls Try.prog 25 #[.int .i64 id, .agg (pgA p)] w fun e w' => ∃ v, e = .returned (.tuple #[v, .int .i64 (encB id p).2]) ∧ w'.ownsRow w.heap.size 5 1 v (encB id p).1.length (toV (encB id p).1) ∧ Below w.heap.size w w' := by
  by_cases h : 0 ≤ id ∧ id ≤ 31
  · by_cases hp : p.right
    · have e : encB id p = (imageB id.toNat p, 0) := by unfold encB; rw [if_pos ⟨h.1, h.2, hp⟩]
      rw [e, imageB_length id.toNat p hp]
      obtain ⟨n, rfl⟩ := Int.eq_ofNat_of_zero_le h.1
      exact enc_right n p w (by omega) hp
    · have e : encB id p = ([], 1) := by unfold encB; rw [if_neg (fun g => hp g.2.2)]
      rw [e]
      exact (enc_wrong id p w h hp).mono fun e w' ⟨he, hb⟩ => ⟨_, he, World.ownsRow_nil _ _ _ _, hb⟩
  · have e : encB id p = ([], 1) := by unfold encB; rw [if_neg (fun g => h ⟨g.1, g.2.1⟩)]
    rw [e]
    exact (enc_id id p w h).mono fun e w' ⟨he, hb⟩ => ⟨_, he, World.ownsRow_nil _ _ _ _, hb⟩
end Go.Proofs.Ytfeghhgniahfkaa

/-
  The contract of pack.Take: of any bytes, at any place, in any width it answers 'takeS', and turns nothing.
-/
namespace Go.Proofs.Ytfeghhgniahfkaa
open Go.RowKit
set_option linter.unusedVariables false

set_option maxRecDepth 4000 in
set_option maxHeartbeats 400000 in
theorem take_arg1 (a : Option Addr) (len cap : Nat) (p k : Int) (w : World) (h : k < 1) :
    Calls Try.prog 68 #[.slice a len cap, .int .i64 p, .int .i64 k] w fun e w' => e = .returned (.tuple #[.int .u64 0, .int .i64 1]) ∧ w = w' := by
  have h1 : ¬ (1 : Int) ≤ k := by omega
  go_enter Try.func68, Try.ntmps68
  go_wp2
  go_ret2
  exact ⟨rfl, rfl⟩

set_option maxRecDepth 4000 in
set_option maxHeartbeats 400000 in
theorem take_arg2 (a : Option Addr) (len cap : Nat) (p k : Int) (w : World) (h : 8 < k) :
    Calls Try.prog 68 #[.slice a len cap, .int .i64 p, .int .i64 k] w fun e w' => e = .returned (.tuple #[.int .u64 0, .int .i64 1]) ∧ w = w' := by
  have h1 : (1 : Int) ≤ k := by omega
  have h2 : ¬ k ≤ 8 := by omega
  go_enter Try.func68, Try.ntmps68
  go_wp2
  go_ret2
  exact ⟨rfl, rfl⟩

set_option maxRecDepth 4000 in
set_option maxHeartbeats 400000 in
theorem take_arg3 (a : Option Addr) (len cap : Nat) (p k : Int) (w : World) (h1 : 1 ≤ k) (h2 : k ≤ 8) (h3 : p < 0) :
    Calls Try.prog 68 #[.slice a len cap, .int .i64 p, .int .i64 k] w fun e w' => e = .returned (.tuple #[.int .u64 0, .int .i64 1]) ∧ w = w' := by
  go_enter Try.func68, Try.ntmps68
  go_wp2
  go_ret2
  exact ⟨rfl, rfl⟩

set_option maxRecDepth 4000 in
set_option maxHeartbeats 400000 in
theorem take_short (a : Option Addr) (len cap : Nat) (p k : Int) (w : World) (hl : len ≤ 9223372036854775807) (hp : p ≤ 9223372036854775807) (h1 : 1 ≤ k) (h2 : k ≤ 8) (h3 : 0 ≤ p) (h4 : (len : Int) - p < k) :
    Calls Try.prog 68 #[.slice a len cap, .int .i64 p, .int .i64 k] w fun e w' => e = .returned (.tuple #[.int .u64 0, .int .i64 4]) ∧ w = w' := by
  have h5 : ¬ p < 0 := by omega
  go_enter Try.func68, Try.ntmps68
  go_wp2
  go_ret2
  exact ⟨rfl, rfl⟩

set_option maxRecDepth 4000 in
set_option maxHeartbeats 400000 in
theorem take_ok (b off : Nat) (len cap : Nat) (bs : List UInt8) (p k : Nat) (w : World) (hl : len ≤ 9223372036854775807) (h1 : 1 ≤ k) (h2 : k ≤ 8) (h4 : p + k ≤ len) (hb : bs.length = len)
    (hc : ∀ j, j < len → w.cell? ⟨b, off + j, none⟩ = some (.int .u8 ((bs.getD j 0).toNat : Int))) :
    Calls Try.prog 68 #[.slice (some ⟨b, off, none⟩) len cap, .int .i64 p, .int .i64 k] w fun e w' => e = .returned (.tuple #[.int .u64 (beAt bs p k : Nat), .int .i64 0]) ∧ w = w' := by
  have h3 : ¬ (p : Int) < 0 := by omega
  have h5 : ¬ (len : Int) - (p : Int) < (k : Int) := by omega
  have h6 : (1 : Int) ≤ (k : Int) := by omega
  have h7 : (k : Int) ≤ 8 := by omega
  go_enter Try.func68, Try.ntmps68
  go_wp2
  go_loop [8, 24] (fun n i => ∃ j : Nat, j ≤ k ∧ i = .int .i64 j ∧ n = .int .u64 (beAt bs p j : Nat)) (fun _ i => k - (intOf i).toNat)
  case atStart => exact ⟨0, Nat.zero_le _, rfl, by rw [beAt_zero]; rfl⟩
  case round =>
    obtain ⟨j, hj, rfl, rfl⟩ := hrel
    by_cases hlt : j < k
    · have hcj : w.cell? ⟨b, off + (p + j), none⟩ = some (.int .u8 ((bs.getD (p + j) 0).toNat : Int)) := hc (p + j) (by omega)
      have hby : (bs.getD (p + j) 0).toNat < 256 := (bs.getD (p + j) 0).toNat_lt
      have hn := beAt_lt7 bs p j (by omega)
      go_wp2
      go_round
      case rel => exact ⟨j + 1, by omega, by go_num, by rw [take_step bs p j (by omega) (by omega)]⟩
      case measure => simp [intOf]; omega
    · go_wp2
      go_ret2
      obtain rfl : j = k := by omega
      exact ⟨rfl, rfl⟩

/-- THE CONTRACT. -/
theorem take_any (a : Option Addr) (len cap : Nat) (bs : List UInt8) (p k : Int) (w : World) (hB : IsB w a len bs) (hl : len ≤ 9223372036854775807) (hp : p ≤ 9223372036854775807) :
    Calls Try.prog 68 #[.slice a len cap, .int .i64 p, .int .i64 k] w fun e w' => e = .returned (.tuple #[.int .u64 (takeS bs p k).1, .int .i64 (takeS bs p k).2]) ∧ w = w' := by
  obtain ⟨hb, hc⟩ := hB
  by_cases h1 : k < 1
  · rw [takeS_arg bs p k (Or.inl h1)]
    exact take_arg1 a len cap p k w h1
  by_cases h2 : 8 < k
  · rw [takeS_arg bs p k (Or.inr (Or.inl h2))]
    exact take_arg2 a len cap p k w h2
  by_cases h3 : p < 0
  · rw [takeS_arg bs p k (Or.inr (Or.inr h3))]
    exact take_arg3 a len cap p k w (by omega) (by omega) h3
  have h0 : ¬ (k < 1 ∨ 8 < k ∨ p < 0) := by omega
  by_cases h4 : (bs.length : Int) - p < k
  · rw [takeS_short bs p k h0 h4]
    exact take_short a len cap p k w hl hp (by omega) (by omega) (by omega) (by omega)
  · rw [takeS_ok bs p k h0 h4]
    obtain ⟨b, off, rfl, _, hcell⟩ := hc (by omega)
    obtain ⟨pn, rfl⟩ := Int.eq_ofNat_of_zero_le (show 0 ≤ p by omega)
    obtain ⟨kn, rfl⟩ := Int.eq_ofNat_of_zero_le (show 0 ≤ k by omega)
    exact take_ok b off len cap bs pn kn w hl (by omega) (by omega) (by omega) hb hcell
end Go.Proofs.Ytfeghhgniahfkaa

/-
  The contracts of package page's Torn and Stamp.
-/
namespace Go.Proofs.Ytfeghhgniahfkaa
open Go.RowKit
set_option linter.unusedVariables false

theorem take8 (bs : List UInt8) (h : bs.length = 256) (p : Nat) (hp : p + 8 ≤ 256) : takeS bs (p : Int) 8 = (((beAt bs p 8 : Nat) : Int), 0) := by
  rw [takeS_ok bs p 8 (by omega) (by omega), Int.toNat_natCast]
  rfl

set_option maxRecDepth 4000 in
set_option maxHeartbeats 400000 in
theorem stamps_any (a : Option Addr) (cap : Nat) (bs : List UInt8) (w : World) (hB : IsB w a 256 bs) :
    Calls Try.prog 63 #[.slice a 256 cap] w fun e w' => e = .returned (.tuple #[.int .u64 (beAt bs 0 8 : Nat), .int .u64 (beAt bs 128 8 : Nat)]) ∧ w = w' := by
  have R1 := take_any a 256 cap bs 0 8 w hB (by omega) (by omega)
  have R2 := take_any a 256 cap bs 128 8 w hB (by omega) (by omega)
  have e1 := take8 bs hB.1 0 (by omega)
  have e2 := take8 bs hB.1 128 (by omega)
  rw [show takeS bs 0 8 = _ from e1] at R1
  rw [show takeS bs 128 8 = _ from e2] at R2
  have H1 := hide R1
  have H2 := hide R2
  clear R1 R2 e1 e2 hB
  go_enter Try.func63, Try.ntmps63
  go_wp2_with fail
  refine H1.out.mono ?_
  rintro e w1 ⟨rfl, rfl⟩
  go_wp2_with fail
  refine H2.out.mono ?_
  rintro e w1 ⟨rfl, rfl⟩
  go_wp2
  go_ret2
  exact ⟨rfl, rfl⟩

theorem be_inj : ∀ (k : Nat) (a b : List UInt8), a.length = k → b.length = k → be a = be b → a = b
  | 0, a, b, ha, hb, _ => by
    rw [List.eq_nil_of_length_eq_zero ha, List.eq_nil_of_length_eq_zero hb]
  | k + 1, a, b, ha, hb, h => by
    cases a with
    | nil => simp at ha
    | cons x xs =>
      cases b with
      | nil => simp at hb
      | cons y ys =>
        simp only [List.length_cons, Nat.add_right_cancel_iff] at ha hb
        rw [be_cons, be_cons, ha, hb] at h
        have h1 := be_lt xs
        have h2 := be_lt ys
        rw [ha] at h1
        rw [hb] at h2
        have hp : 0 < 256 ^ k := Nat.pow_pos (by omega)
        have e1 : (x.toNat * 256 ^ k + be xs) / 256 ^ k = x.toNat := by
          rw [Nat.mul_comm, Nat.mul_add_div hp, Nat.div_eq_of_lt h1, Nat.add_zero]
        have e2 : (y.toNat * 256 ^ k + be ys) / 256 ^ k = y.toNat := by
          rw [Nat.mul_comm, Nat.mul_add_div hp, Nat.div_eq_of_lt h2, Nat.add_zero]
        have e3 : x.toNat = y.toNat := by rw [← e1, ← e2, h]
        have e4 : be xs = be ys := by rw [e3] at h; omega
        rw [UInt8.toNat_inj.1 e3, be_inj k xs ys ha hb e4]

theorem torn_be (bs : List UInt8) (h : bs.length = 256) : tornB bs = ((beAt bs 0 8 : Nat) != (beAt bs 128 8 : Nat)) := by
  rw [Bool.eq_iff_iff, bne_iff_ne]
  unfold tornB
  rw [decide_eq_true_eq]
  have l1 : (bs.take 8).length = 8 := by rw [List.length_take]; omega
  have l2 : ((bs.drop 128).take 8).length = 8 := by rw [List.length_take, List.length_drop]; omega
  have e0 : beAt bs 0 8 = be (bs.take 8) := by unfold beAt; rw [List.drop_zero]
  have e1 : beAt bs 128 8 = be ((bs.drop 128).take 8) := rfl
  rw [e0, e1]
  refine ⟨fun g k => g.2 (be_inj 8 _ _ l1 l2 k), fun g => ⟨h, fun k => g (by rw [k])⟩⟩
theorem torn_short (bs : List UInt8) (h : ¬ bs.length = 256) : tornB bs = false := by
  unfold tornB
  rw [decide_eq_false_iff_not]
  exact fun g => h g.1

set_option maxRecDepth 4000 in
set_option maxHeartbeats 400000 in
theorem torn_same (a : Option Addr) (len cap : Nat) (bs : List UInt8) (w : World) (hB : IsB w a len bs) (hl : len ≤ 140737488355328) :
    Calls Try.prog 32 #[.slice a len cap] w fun e w' => e = .returned (.bool (tornB bs)) ∧ w = w' := by
  by_cases h : len = 256
  · subst h
    have H := hide (stamps_any a cap bs w hB)
    have e := torn_be bs hB.1
    rw [e]
    clear hB e
    generalize beAt bs 0 8 = x at *
    generalize beAt bs 128 8 = y at *
    have e3 : (((x : Nat) : Int) != ((y : Nat) : Int)) = (x != y) := by
      rw [Bool.eq_iff_iff, bne_iff_ne, bne_iff_ne]
      omega
    go_enter Try.func32, Try.ntmps32
    go_wp2_with fail
    refine H.out.mono ?_
    rintro e w1 ⟨rfl, rfl⟩
    go_wp2
    go_ret
    rw [← e3]
    exact ⟨rfl, rfl⟩
  · have e := torn_short bs (by rw [hB.1]; exact h)
    rw [e]
    have h1 : (((len : Nat) : Int) != 256) = true := by rw [bne_iff_ne]; omega
    clear hB e h
    go_enter Try.func32, Try.ntmps32
    go_wp2
    go_ret
    exact ⟨rfl, rfl⟩

theorem torn_any (a : Option Addr) (len cap : Nat) (bs : List UInt8) (w : World) (hB : IsB w a len bs) (hl : len ≤ 140737488355328) (hcap : len ≤ cap) :
    Calls Try.prog 32 #[.slice a len cap] w fun e w' => e = .returned (.bool (tornB bs)) ∧ Below w.heap.size w w' :=
  (torn_same a len cap bs w hB hl).mono fun e w' ⟨he, hw⟩ => ⟨he, by rw [← hw]; exact Below.refl _ _⟩

set_option maxRecDepth 4000 in
set_option maxHeartbeats 400000 in
theorem stamp_same (a : Option Addr) (len cap : Nat) (bs : List UInt8) (w : World) (hB : IsB w a len bs) (hl : len ≤ 140737488355328) :
    Calls Try.prog 47 #[.slice a len cap] w fun e w' => e = .returned (.tuple #[.int .u64 (stampB bs).1, .bool (stampB bs).2]) ∧ w = w' := by
  by_cases h : len = 256
  · subst h
    have HS := hide (stamps_any a cap bs w hB)
    have T := torn_same a 256 cap bs w hB hl
    cases ht : tornB bs with
    | true =>
      rw [ht] at T
      have HT := hide T
      have e : stampB bs = (0, false) := by unfold stampB; rw [if_neg (fun g => by rw [ht] at g; exact absurd g.2 (by decide))]
      rw [e]
      clear e T ht hB HS
      go_enter Try.func47, Try.ntmps47
      go_wp2_with fail
      refine HT.out.mono ?_
      rintro e w1 ⟨rfl, rfl⟩
      go_wp2
      go_ret2
      exact ⟨rfl, rfl⟩
    | false =>
      rw [ht] at T
      have HT := hide T
      have e : stampB bs = (beAt bs 0 8, true) := by unfold stampB; rw [if_pos ⟨hB.1, ht⟩]
      rw [e]
      clear e T ht hB
      generalize beAt bs 0 8 = x at *
      generalize beAt bs 128 8 = y at *
      go_enter Try.func47, Try.ntmps47
      go_wp2_with fail
      refine HT.out.mono ?_
      rintro e w1 ⟨rfl, rfl⟩
      go_wp2_with fail
      refine HS.out.mono ?_
      rintro e w1 ⟨rfl, rfl⟩
      go_wp2
      go_ret2
      exact ⟨rfl, rfl⟩
  · have e : stampB bs = (0, false) := by unfold stampB; rw [if_neg (fun g => h (by rw [← hB.1]; exact g.1))]
    rw [e]
    have h1 : (((len : Nat) : Int) != 256) = true := by rw [bne_iff_ne]; omega
    clear hB e h
    go_enter Try.func47, Try.ntmps47
    go_wp2
    go_ret2
    exact ⟨rfl, rfl⟩

theorem stamp_any (a : Option Addr) (len cap : Nat) (bs : List UInt8) (w : World) (hB : IsB w a len bs) (hl : len ≤ 140737488355328) (hcap : len ≤ cap) :
    Calls Try.prog 47 #[.slice a len cap] w fun e w' => e = .returned (.tuple #[.int .u64 (stampB bs).1, .bool (stampB bs).2]) ∧ Below w.heap.size w w' :=
  (stamp_same a len cap bs w hB hl).mono fun e w' ⟨he, hw⟩ => ⟨he, by rw [← hw]; exact Below.refl _ _⟩
end Go.Proofs.Ytfeghhgniahfkaa

/-
  Plain facts on what bytes tell of a page: the page cell by cell, of no program.
-/
namespace Go.Proofs.Ytfeghhgniahfkaa
open Go.RowKit
set_option linter.unusedVariables false

/-- The first cells of the page that bytes tell. -/
def prefP (bs : List UInt8) (j : Nat) : Pg := ⟨beAt bs 0 8, fun i => decide (i < j) && usedAt (taleOf bs) i, fun i => if i < j then cutAt (taleOf bs) i else ⟨#[]⟩⟩

theorem pref_full (bs : List UInt8) : (prefP bs 8).same (scanP bs) := by
  refine ⟨rfl, fun i hi => ⟨?_, ?_⟩⟩
  · show (decide (i < 8) && usedAt (taleOf bs) i) = usedAt (taleOf bs) i
    simp [hi]
  · show (if i < 8 then cutAt (taleOf bs) i else ⟨#[]⟩) = cutAt (taleOf bs) i
    rw [if_pos hi]

theorem pref_zero (bs : List UInt8) : pgA (prefP bs 0) = pgA ⟨beAt bs 0 8, Pg.zero.u, Pg.zero.s⟩ := by
  refine same_pgA ⟨rfl, fun i hi => ⟨?_, ?_⟩⟩
  · show (decide (i < 0) && usedAt (taleOf bs) i) = false
    simp
  · show (if i < 0 then cutAt (taleOf bs) i else ⟨#[]⟩) = _
    rw [if_neg (by omega)]
    rfl

theorem cut_unused (t : List UInt8) (j : Nat) (h : usedAt t j = false) : cutAt t j = ⟨#[]⟩ := by
  unfold cutAt lenAt
  rw [h]
  simp

theorem pref_skip (bs : List UInt8) (j : Nat) (h : usedAt (taleOf bs) j = false) : pgA (prefP bs (j + 1)) = pgA (prefP bs j) := by
  refine same_pgA ⟨rfl, fun i hi => ⟨?_, ?_⟩⟩
  · show (decide (i < j + 1) && usedAt (taleOf bs) i) = (decide (i < j) && usedAt (taleOf bs) i)
    by_cases hij : i = j
    · subst hij
      simp [h]
    · have e : decide (i < j + 1) = decide (i < j) := decide_eq_decide.2 (by omega)
      rw [e]
  · show (if i < j + 1 then cutAt (taleOf bs) i else ⟨#[]⟩) = if i < j then cutAt (taleOf bs) i else ⟨#[]⟩
    by_cases hij : i = j
    · subst hij
      rw [if_pos (by omega), if_neg (by omega), cut_unused _ _ h]
    · by_cases h2 : i < j
      · rw [if_pos (by omega), if_pos h2]
      · rw [if_neg (by omega), if_neg h2]

theorem pgA_set (p : Pg) (j : Nat) (hj : j < 8) (b : Bool) (s : ByteArray) :
    ((pgA p).setIfInBounds (1 + j * 2) (.bool b)).setIfInBounds (1 + j * 2 + 1) (.string s) = pgA ⟨p.l, fun i => if i = j then b else p.u i, fun i => if i = j then s else p.s i⟩ := by
  rcases lt8 hj with rfl | rfl | rfl | rfl | rfl | rfl | rfl | rfl <;> simp [pgA]

theorem pref_more (bs : List UInt8) (j : Nat) (h : usedAt (taleOf bs) j = true) :
    pgA ⟨(prefP bs j).l, fun i => if i = j then true else (prefP bs j).u i, fun i => if i = j then cutAt (taleOf bs) j else (prefP bs j).s i⟩ = pgA (prefP bs (j + 1)) := by
  refine same_pgA ⟨rfl, fun i hi => ⟨?_, ?_⟩⟩
  · show (if i = j then true else (decide (i < j) && usedAt (taleOf bs) i)) = (decide (i < j + 1) && usedAt (taleOf bs) i)
    by_cases hij : i = j
    · subst hij
      simp [h]
    · have e : decide (i < j + 1) = decide (i < j) := decide_eq_decide.2 (by omega)
      rw [e, if_neg hij]
  · show (if i = j then cutAt (taleOf bs) j else if i < j then cutAt (taleOf bs) i else ⟨#[]⟩) = if i < j + 1 then cutAt (taleOf bs) i else ⟨#[]⟩
    by_cases hij : i = j
    · subst hij
      rw [if_pos rfl, if_pos (by omega)]
    · rw [if_neg hij]
      by_cases h2 : i < j
      · rw [if_pos h2, if_pos (by omega)]
      · rw [if_neg h2, if_neg (by omega)]

theorem pos_le (t : List UInt8) (j : Nat) (h : ∀ k, k < j → lenAt t k ≤ 20) : posAt t j ≤ 10 + 20 * j := by
  induction j with
  | zero => exact Nat.le_refl _
  | succ j ih =>
    have h1 := ih (fun k hk => h k (by omega))
    have h2 := h j (by omega)
    rw [posAt]
    omega

theorem cut_size (t : List UInt8) (j : Nat) (ht : t.length = 240) : (cutAt t j).size = min (lenAt t j) (240 - posAt t j) := by
  unfold cutAt
  rw [size_mk, List.length_take, List.length_drop, ht]

/-- A cell's byte between 21 and 254: no right page. -/
theorem scan_wrong (bs : List UInt8) (j : Nat) (hb : bs.length = 256) (hj : j < 8) (h : ∀ k, k < j → lenAt (taleOf bs) k ≤ 20) (hl : 20 < lenAt (taleOf bs) j) : ¬ (scanP bs).right := by
  intro hr
  have h1 := (hr.2 j hj).1
  have h2 := cut_size (taleOf bs) j (taleOf_length bs hb)
  have h3 := pos_le (taleOf bs) j h
  have h4 : (scanP bs).s j = cutAt (taleOf bs) j := rfl
  rw [h4, h2] at h1
  omega

theorem nAt_str (s : ByteArray) (T : ByteArray) (hT : T = ⟨(taleOf s.data.toList).toArray⟩) (j : Nat) (h : 2 + j < T.size) : T[2 + j].toNat = nAt (taleOf s.data.toList) j := by
  unfold nAt
  rw [← getD_str T (2 + j) h, hT]

theorem cut_str (s : ByteArray) (T : ByteArray) (hT : T = ⟨(taleOf s.data.toList).toArray⟩) (j : Nat) (h : posAt (taleOf s.data.toList) j + lenAt (taleOf s.data.toList) j ≤ T.size) :
    T.extract (posAt (taleOf s.data.toList) j) (posAt (taleOf s.data.toList) j + lenAt (taleOf s.data.toList) j) = cutAt (taleOf s.data.toList) j := by
  rw [extract_eq T _ _ h, hT]
  rfl
theorem len_used (t : List UInt8) (j m : Nat) (hm : nAt t j = m) (h : m ≠ 255) : lenAt t j = m ∧ usedAt t j = true := by
  have hu : usedAt t j = true := by unfold usedAt; rw [hm]; simp [h]
  exact ⟨by unfold lenAt; rw [hu, if_pos rfl, hm], hu⟩
theorem len_unused (t : List UInt8) (j : Nat) (hm : nAt t j = 255) : lenAt t j = 0 ∧ usedAt t j = false := by
  have hu : usedAt t j = false := by unfold usedAt; rw [hm]; simp
  exact ⟨by unfold lenAt; rw [hu]; simp, hu⟩

/-- What 'Decode' answers behind the sum. -/
theorem dec_last (id : Int) (bs : List UInt8) (h0 : 0 ≤ id ∧ id ≤ 31) (hb : bs.length = 256) (ht : tornB bs = false) (hs : leN ((taleOf bs).drop 236) = crc ((taleOf bs).take 236)) :
    decE id bs = if (scanP bs).right ∧ imageB id.toNat (scanP bs) = bs then 0 else 2 := by
  unfold decE
  rw [if_neg (by simpa using h0), if_neg (by omega), if_neg (by omega), if_neg (by simp [ht]), if_neg (by simp [hs])]
end Go.Proofs.Ytfeghhgniahfkaa

/-
  Plain facts on what 236 bytes tell of a page's cells, and when they are a right page's, of no program.
-/
namespace Go.Proofs.Ytfeghhgniahfkaa
open Go.RowKit
set_option linter.unusedVariables false

/-- The cells that bytes tell; the first of them. -/
def tellP (t : List UInt8) : Pg := ⟨0, usedAt t, cutAt t⟩
def prefT (t : List UInt8) (j : Nat) : Pg := ⟨0, fun i => decide (i < j) && usedAt t i, fun i => if i < j then cutAt t i else ⟨#[]⟩⟩
/-- Whether bytes are right as cells: no length is too great, and behind the values there are zeros. -/
abbrev okT (t : List UInt8) : Prop := (∀ i, i < 8 → lenAt t i ≤ 20) ∧ ∀ x ∈ t.drop (posAt t 8), x = 0

theorem prefT_zero (t : List UInt8) : (prefT t 0).same Pg.zero := by
  refine ⟨rfl, fun i hi => ⟨?_, ?_⟩⟩
  · show (decide (i < 0) && usedAt t i) = false
    simp
  · show (if i < 0 then cutAt t i else ⟨#[]⟩) = _
    rw [if_neg (by omega)]
    rfl
theorem prefT_full (t : List UInt8) : (prefT t 8).same (tellP t) := by
  refine ⟨rfl, fun i hi => ⟨?_, ?_⟩⟩
  · show (decide (i < 8) && usedAt t i) = usedAt t i
    simp [hi]
  · show (if i < 8 then cutAt t i else ⟨#[]⟩) = cutAt t i
    rw [if_pos hi]
theorem prefT_skip (t : List UInt8) (j : Nat) (h : usedAt t j = false) : (prefT t (j + 1)).same (prefT t j) := by
  refine ⟨rfl, fun i hi => ⟨?_, ?_⟩⟩
  · show (decide (i < j + 1) && usedAt t i) = (decide (i < j) && usedAt t i)
    by_cases hij : i = j
    · subst hij
      simp [h]
    · have e : decide (i < j + 1) = decide (i < j) := decide_eq_decide.2 (by omega)
      rw [e]
  · show (if i < j + 1 then cutAt t i else ⟨#[]⟩) = if i < j then cutAt t i else ⟨#[]⟩
    by_cases hij : i = j
    · subst hij
      rw [if_pos (by omega), if_neg (by omega), cut_unused _ _ h]
    · by_cases h2 : i < j
      · rw [if_pos (by omega), if_pos h2]
      · rw [if_neg (by omega), if_neg h2]
theorem prefT_more (t : List UInt8) (j : Nat) (h : usedAt t j = true) :
    Pg.same ⟨(prefT t j).l, fun i => if i = j then true else (prefT t j).u i, fun i => if i = j then cutAt t j else (prefT t j).s i⟩ (prefT t (j + 1)) := by
  refine ⟨rfl, fun i hi => ⟨?_, ?_⟩⟩
  · show (if i = j then true else (decide (i < j) && usedAt t i)) = (decide (i < j + 1) && usedAt t i)
    by_cases hij : i = j
    · subst hij
      simp [h]
    · have e : decide (i < j + 1) = decide (i < j) := decide_eq_decide.2 (by omega)
      rw [e, if_neg hij]
  · show (if i = j then cutAt t j else if i < j then cutAt t i else ⟨#[]⟩) = if i < j + 1 then cutAt t i else ⟨#[]⟩
    by_cases hij : i = j
    · subst hij
      rw [if_pos rfl, if_pos (by omega)]
    · rw [if_neg hij]
      by_cases h2 : i < j
      · rw [if_pos h2, if_pos (by omega)]
      · rw [if_neg h2, if_neg (by omega)]

/-- The first 236 bytes tell the same. -/
theorem nAt_take (t : List UInt8) (i : Nat) (h : i < 8) : nAt (t.take 236) i = nAt t i := by
  unfold nAt
  congr 1
  simp only [List.getD, List.getElem?_take]
  rw [if_pos (by omega)]
theorem usedAt_take (t : List UInt8) (i : Nat) (h : i < 8) : usedAt (t.take 236) i = usedAt t i := by
  unfold usedAt
  rw [nAt_take t i h]
theorem lenAt_take (t : List UInt8) (i : Nat) (h : i < 8) : lenAt (t.take 236) i = lenAt t i := by
  unfold lenAt
  rw [usedAt_take t i h, nAt_take t i h]
theorem posAt_take (t : List UInt8) : ∀ (i : Nat), i ≤ 8 → posAt (t.take 236) i = posAt t i
  | 0, _ => rfl
  | i + 1, h => by rw [posAt, posAt, posAt_take t i (by omega), lenAt_take t i (by omega)]
theorem cutAt_take (t : List UInt8) (i : Nat) (h : i < 8) (hl : posAt t i + lenAt t i ≤ 236) : cutAt (t.take 236) i = cutAt t i := by
  unfold cutAt
  rw [posAt_take t i (by omega), lenAt_take t i h]
  congr 2
  rw [List.drop_take, List.take_take, Nat.min_eq_left (by omega)]

theorem be_take_self : ∀ (k : Nat) (xs : List UInt8), xs.length = k → beB k (be xs) = xs
  | 0, xs, h => by
    rw [List.eq_nil_of_length_eq_zero h]
    rfl
  | k + 1, xs, h => by
    cases xs with
    | nil => simp at h
    | cons x xs =>
      simp only [List.length_cons, Nat.add_right_cancel_iff] at h
      have h1 := be_lt xs
      rw [h] at h1
      have hp : 0 < 256 ^ k := Nat.pow_pos (by omega)
      rw [be_cons, h, beB_cons, beB_low, Nat.mul_comm, Nat.mul_add_div hp, Nat.div_eq_of_lt h1, Nat.add_zero, Nat.mul_add_mod, Nat.mod_eq_of_lt h1, be_take_self k xs h]
      congr 1
      apply UInt8.toNat_inj.1
      rw [toNat_ofNat]
      have := x.toNat_lt
      omega

theorem lenB_told (t : List UInt8) (i : Nat) (hl : lenAt t i ≤ 20) (hc : (cutAt t i).size = lenAt t i) : lenB (usedAt t i) (cutAt t i) = t.getD (2 + i) 0 := by
  unfold lenB
  have hn : (t.getD (2 + i) 0).toNat = nAt t i := rfl
  apply UInt8.toNat_inj.1
  rw [hn]
  cases hu : usedAt t i with
  | true =>
    have e : lenAt t i = nAt t i := by unfold lenAt; rw [hu]; rfl
    simp only [if_true]
    rw [hc, toNat_ofNat, e]
    omega
  | false =>
    have h : nAt t i = 255 := by
      unfold usedAt at hu
      simpa using hu
    rw [h]
    rfl

theorem lens_told (t : List UInt8) (ht : t.length = 236) (hok : ∀ i, i < 8 → lenAt t i ≤ 20) : lensB (tellP t) 8 = (t.drop 2).take 8 := by
  apply List.ext_getElem
  · rw [lensB_length, List.length_take, List.length_drop]
    omega
  · intro i h1 h2
    rw [lensB_length] at h1
    have hp := pos_le t i (fun k hk => hok k (by omega))
    have hc : (cutAt t i).size = lenAt t i := by
      have h5 := hok i h1
      unfold cutAt
      rw [size_mk, List.length_take, List.length_drop, ht]
      omega
    have e := lenB_told t i (hok i h1) hc
    simp only [lensB, List.getElem_map, List.getElem_range, List.getElem_take, List.getElem_drop]
    show lenB (usedAt t i) (cutAt t i) = _
    rw [e, List.getD, List.getElem?_eq_getElem (by omega)]
    rfl

theorem vals_told (t : List UInt8) (ht : t.length = 236) (hok : ∀ i, i < 8 → lenAt t i ≤ 20) : ∀ (k : Nat), k ≤ 8 → valsB (tellP t) k = (t.drop 10).take (posAt t k - 10) ∧ 10 ≤ posAt t k
  | 0, _ => ⟨by simp [valsB, posAt], Nat.le_refl _⟩
  | k + 1, h => by
    obtain ⟨ih, hge⟩ := vals_told t ht hok k (by omega)
    have hp := pos_le t k (fun i hi => hok i (by omega))
    have hl := hok k (by omega)
    refine ⟨?_, by rw [posAt]; omega⟩
    rw [valsB_succ, ih]
    have e : valB ((tellP t).u k) ((tellP t).s k) = (t.drop (posAt t k)).take (lenAt t k) := by
      show valB (usedAt t k) (cutAt t k) = _
      unfold valB
      cases hu : usedAt t k with
      | true => rfl
      | false =>
        have e0 : lenAt t k = 0 := by unfold lenAt; rw [hu]; rfl
        rw [e0]
        rfl
    rw [e, posAt]
    have e2 : posAt t k + lenAt t k - 10 = (posAt t k - 10) + lenAt t k := by omega
    rw [e2, List.take_add, List.drop_drop]
    congr 3
    omega

/-- Bytes that are right as cells are the bytes of the cells that they tell. -/
theorem body_told (t : List UInt8) (ht : t.length = 236) (hok : okT t) : bodyB (beAt t 0 2) (tellP t) = t := by
  have h1 := lens_told t ht hok.1
  obtain ⟨h2, h3⟩ := vals_told t ht hok.1 8 (by omega)
  have hp := pos_le t 8 hok.1
  have h4 : t.drop (posAt t 8) = List.replicate (236 - posAt t 8) 0 := by
    rw [List.eq_replicate_iff]
    exact ⟨by rw [List.length_drop, ht], hok.2⟩
  have e2 : beB 2 (beAt t 0 2) = t.take 2 := by
    unfold beAt
    rw [List.drop_zero]
    exact be_take_self 2 _ (by rw [List.length_take]; omega)
  have hh : headB (beAt t 0 2) (tellP t) = t.take (posAt t 8) := by
    unfold headB
    rw [e2, h1, h2]
    have e3 : posAt t 8 = 2 + (8 + (posAt t 8 - 10)) := by omega
    rw [e3, List.take_add, List.take_add, List.drop_drop, List.append_assoc]
    congr 3
    omega
  unfold bodyB
  rw [hh, List.length_take, Nat.min_eq_left (by omega), ← h4, List.take_append_drop]

theorem tell_right (t : List UInt8) (ht : t.length = 236) (hok : okT t) (l : Nat) (hl : l ≤ maxP) : Pg.right ⟨l, usedAt t, cutAt t⟩ := by
  refine ⟨hl, fun i hi => ⟨?_, fun hu => ?_⟩⟩
  · show (cutAt t i).size ≤ 20
    have := hok.1 i hi
    unfold cutAt
    rw [size_mk, List.length_take]
    omega
  · show (cutAt t i).size = 0
    rw [cut_unused t i hu]
    rfl

theorem same_body {p q : Pg} (h : ∀ i, i < 8 → p.u i = q.u i ∧ p.s i = q.s i) (id : Nat) : bodyB id p = bodyB id q := by
  have h1 : Pg.same ⟨0, p.u, p.s⟩ ⟨0, q.u, q.s⟩ := ⟨rfl, h⟩
  have e1 : lensB p 8 = lensB q 8 := h1.lens
  have e2 : valsB p 8 = valsB q 8 := h1.vals
  unfold bodyB headB
  rw [e1, e2]

/-- The cells that a whole image tells are told by the first 236 bytes of its tale. -/
theorem scan_tell (bs : List UInt8) (hb : bs.length = 256) (hok : okT ((taleOf bs).take 236)) : ∀ i, i < 8 → (scanP bs).u i = (tellP ((taleOf bs).take 236)).u i ∧ (scanP bs).s i = (tellP ((taleOf bs).take 236)).s i := by
  intro i hi
  have hp := pos_le (taleOf bs) i (fun k hk => by rw [← lenAt_take _ k (by omega)]; exact hok.1 k (by omega))
  have hl : lenAt (taleOf bs) i ≤ 20 := by rw [← lenAt_take _ i hi]; exact hok.1 i hi
  exact ⟨(usedAt_take (taleOf bs) i hi).symm, (cutAt_take (taleOf bs) i hi (by omega)).symm⟩

/-- When 256 bytes, not torn, with the right sum, are a right page's image. -/
theorem tell_iff (id : Nat) (bs : List UInt8) (hid : id < 65536) (hb : bs.length = 256) (ht : tornB bs = false) (hs : leN ((taleOf bs).drop 236) = crc ((taleOf bs).take 236)) :
    ((scanP bs).right ∧ imageB id (scanP bs) = bs) ↔ (okT ((taleOf bs).take 236) ∧ beAt ((taleOf bs).take 236) 0 2 = id ∧ beAt bs 0 8 ≤ maxP) := by
  have htl := taleOf_length bs hb
  have hl : ((taleOf bs).take 236).length = 236 := by rw [List.length_take]; omega
  constructor
  · rintro ⟨hr, hi⟩
    have h1 := (image_parts id (scanP bs) hr).2.2
    rw [hi] at h1
    have hbl := bodyB_length id (scanP bs) hr
    have h2 : (taleOf bs).take 236 = bodyB id (scanP bs) := by
      rw [h1]
      unfold taleB
      rw [List.take_left' hbl]
    refine ⟨⟨fun i hi2 => ?_, ?_⟩, ?_, hr.1⟩
    · rw [lenAt_take _ i hi2, h1, (tale_used id _ hr i hi2).2]
      exact (hr.2 i hi2).1
    · rw [posAt_take _ 8 (by omega)]
      have h3 : posAt (taleOf bs) 8 = (headB id (scanP bs)).length := by rw [h1, tale_pos id _ hr 8 (by omega), headB_length]
      rw [h3, h2]
      unfold bodyB
      rw [List.drop_left' rfl]
      intro x hx
      exact List.eq_of_mem_replicate hx
    · rw [h2]
      unfold beAt bodyB headB
      rw [List.drop_zero, List.append_assoc, List.append_assoc, List.take_left' (beB_length 2 id)]
      exact be_beB 2 id (by omega)
  · rintro ⟨hok, hi, hm⟩
    have hsc := scan_tell bs hb hok
    have hr0 := tell_right _ hl hok (beAt bs 0 8) hm
    have hr : (scanP bs).right := Pg.same.right (p := ⟨beAt bs 0 8, usedAt ((taleOf bs).take 236), cutAt ((taleOf bs).take 236)⟩) ⟨rfl, fun i hi => ⟨(hsc i hi).1.symm, (hsc i hi).2.symm⟩⟩ hr0
    refine ⟨hr, ?_⟩
    have h1 := body_told _ hl hok
    rw [hi, ← same_body hsc id] at h1
    have h2 : taleB id (scanP bs) = taleOf bs := by
      unfold taleB
      rw [h1]
      have h5 := (seal_eq_iff (taleOf bs) (by omega)).2
      rw [htl] at h5
      exact h5 hs
    have hst : bs.take 8 = (bs.drop 128).take 8 := by
      have h6 : ¬ (bs.length = 256 ∧ bs.take 8 ≠ (bs.drop 128).take 8) := by
        unfold tornB at ht
        simpa using ht
      by_cases h7 : bs.take 8 = (bs.drop 128).take 8
      · exact h7
      · exact absurd ⟨hb, h7⟩ h6
    have hl8 : beB 8 (scanP bs).l = bs.take 8 := by
      show beB 8 (beAt bs 0 8) = _
      unfold beAt
      rw [List.drop_zero]
      exact be_take_self 8 _ (by rw [List.length_take]; omega)
    unfold imageB
    rw [h2, hl8]
    have l1 : ((bs.drop 8).take 120).length = 120 := by rw [List.length_take, List.length_drop]; omega
    have e1 : (taleOf bs).take 120 = (bs.drop 8).take 120 := by unfold taleOf; rw [List.take_left' l1]
    have e2 : (taleOf bs).drop 120 = bs.drop 136 := by unfold taleOf; rw [List.drop_left' l1]
    rw [e1, e2]
    have e3 : bs.take 8 ++ (bs.drop 8).take 120 ++ bs.take 8 ++ bs.drop 136 = bs.take 8 ++ (bs.drop 8).take 120 ++ (bs.drop 128).take 8 ++ bs.drop 136 := by rw [← hst]
    rw [e3, ← List.take_add, ← List.take_add, List.take_append_drop]
end Go.Proofs.Ytfeghhgniahfkaa

/-
  The contracts of package page's taleOf, tellsID and noughts.
-/
namespace Go.Proofs.Ytfeghhgniahfkaa
open Go.RowKit
set_option linter.unusedVariables false

set_option maxRecDepth 4000 in
set_option maxHeartbeats 400000 in
theorem taleOf_any (g off cap : Nat) (bs : List UInt8) (w : World) (hB : IsB w (some ⟨g, off, none⟩) 256 bs) (hcap : 256 ≤ cap) :
    Calls Try.prog 49 #[.slice (some ⟨g, off, none⟩) 256 cap] w fun e w' => ∃ v, e = .returned v ∧ w'.ownsRow w.heap.size 5 1 v 240 (toV (taleOf bs)) ∧ Below w.heap.size w w' := by
  have hmk : ∀ w : World, (Instr.makeSlice 61 (.int .i64 0) (.int .i64 240)).run Try.prog w = .ok (.slice (some ⟨w.heap.size, 0, none⟩) 0 240) (w.alloc (.cells (zrow 240).toArray 5)) := fun w => by
    simpa using run_mk (P := Try.prog) 61 5 Try.underlying61 info8 0 240 (by omega) w
  obtain ⟨b', o', he', hlt', hcell'⟩ := hB.2 (by omega)
  cases he'
  have HB1 := hide (IsB.cut hB.1 hlt' hcell' 8 120 (by omega))
  have HB2 := hide (show IsB w (some ⟨g, off + 136, none⟩) 120 (bs.drop 136) from by
    have h1 := IsB.cut hB.1 hlt' hcell' 136 120 (by omega)
    rw [List.take_of_length_le (by rw [List.length_drop, hB.1]; omega)] at h1
    exact h1)
  have hb0 : Below w.heap.size w (w.alloc (.cells (zrow 240).toArray 5)) := (Below.refl _ _).alloc (Nat.le_refl _) _
  have HO := hide (show (w.alloc (.cells (zrow 240).toArray 5)).ownsRow w.heap.size 5 1 (.slice (some ⟨w.heap.size, 0, none⟩) 0 240) 0 (toV []) from World.ownsRow_made w (zrow 240).toArray 240 (Nat.le_refl _) (by unfold maxLen; omega) (by rw [List.size_toArray, zrow_length]))
  have HT := hide (show [] ++ (bs.drop 8).take 120 ++ bs.drop 136 = taleOf bs by unfold taleOf; rw [List.nil_append])
  have i1 : (256 : Int) ≤ (cap : Int) := by omega
  have i2 : (128 : Int) ≤ (cap : Int) := by omega
  have i3 : ¬ cap = 8 := by omega
  have i4 : ¬ cap = 136 := by omega
  clear hB hcell'
  go_enter Try.func49, Try.ntmps49
  go_wp2_with (at_builtin; refine wpList_append_ob _ rfl (.tmp 5) (.tmp 7) 61 rfl 5 Try.underlying61 info8 w.heap.size _ 0 [] rfl HO.out _ 120 _ _ rfl (HB1.out.below hb0) (fun h => nomatch h) (by omega) hb0.size ?_)
  intro v2 w2 hown2 hg2
  have d2 := hb0.grown hg2 hb0.size (fun k hk => (HO.out.lt k hk).1)
  have HO2 := hide hown2
  have HB22 := hide (HB2.out.below d2)
  clear hown2 hg2 hb0 HO HB1 HB2 hmk
  go_wp2_with (at_builtin; refine wpList_append_ob _ rfl (.tmp 9) (.tmp 11) 61 rfl 5 Try.underlying61 info8 w.heap.size _ _ _ rfl HO2.out _ 120 _ _ rfl HB22.out (fun h => nomatch h) (by omega) d2.size ?_)
  intro v3 w3 hown3 hg3
  have d3 := d2.grown hg3 d2.size (fun k hk => (HO2.out.lt k hk).1)
  have HO3 := hide hown3
  clear hown3 hg3 HO2 HB22 d2
  go_wp2
  go_ret
  exact ⟨_, rfl, by rw [← HT.out]; simpa using HO3.out, d3⟩

set_option maxRecDepth 4000 in
set_option maxHeartbeats 400000 in
theorem tellsID_any (a : Option Addr) (cap : Nat) (t : List UInt8) (id : Nat) (w : World) (hB : IsB w a 236 t) (hid : id < 32) :
    Calls Try.prog 51 #[.slice a 236 cap, .int .i64 id] w fun e w' => e = .returned (.bool (decide (beAt t 0 2 = id))) ∧ w = w' := by
  have R1 := take_any a 236 cap t 0 2 w hB (by omega) (by omega)
  have e1 : takeS t 0 2 = (((beAt t 0 2 : Nat) : Int), 0) := by
    rw [takeS_ok t 0 2 (by omega) (by rw [hB.1]; omega)]
    rfl
  rw [e1] at R1
  have H1 := hide R1
  clear R1 e1 hB
  generalize beAt t 0 2 = x at *
  have e3 : decide (x = id) = (((x : Nat) : Int) == ((id : Nat) : Int)) := by
    rw [Bool.eq_iff_iff, beq_iff_eq, decide_eq_true_eq]
    omega
  rw [e3]
  clear e3
  go_enter Try.func51, Try.ntmps51
  go_wp2_with fail
  refine H1.out.mono ?_
  rintro e w1 ⟨rfl, rfl⟩
  go_wp2
  go_ret
  exact ⟨rfl, rfl⟩

theorem all_more {bs : List UInt8} {j : Nat} (h : ∀ x ∈ bs.take j, x = 0) (hj : j < bs.length) (h0 : (bs.getD j 0).toNat = 0) : ∀ x ∈ bs.take (j + 1), x = 0 := by
  intro x hx
  rw [List.take_succ_eq_append_getElem hj, List.mem_append] at hx
  rcases hx with hx | hx
  · exact h x hx
  · have e : bs.getD j 0 = bs[j] := by simp [List.getD, List.getElem?_eq_getElem hj]
    rw [List.mem_singleton.1 hx, ← e]
    exact UInt8.toNat_inj.1 h0

set_option maxRecDepth 4000 in
set_option maxHeartbeats 400000 in
theorem noughts_any (a : Option Addr) (len cap : Nat) (bs : List UInt8) (w : World) (hB : IsB w a len bs) (hl : len ≤ 140737488355328) :
    Calls Try.prog 69 #[.slice a len cap] w fun e w' => e = .returned (.bool (decide (∀ x ∈ bs, x = 0))) ∧ w = w' := by
  go_enter Try.func69, Try.ntmps69
  go_wp2
  go_loop [7] (fun i => ∃ j : Nat, j ≤ len ∧ i = .int .i64 j ∧ ∀ x ∈ bs.take j, x = 0) (fun i => len - (intOf i).toNat)
  case atStart => exact ⟨0, Nat.zero_le _, rfl, by simp⟩
  case round =>
    obtain ⟨j, hj, rfl, hz⟩ := hrel
    by_cases hlt : j < len
    · obtain ⟨b, off, rfl, hbl, hc⟩ := hB.2 (by omega)
      have hcj := hc j hlt
      have hm : (bs.getD j 0).toNat < 256 := (bs.getD j 0).toNat_lt
      have hjl : j < bs.length := by rw [hB.1]; exact hlt
      by_cases h0 : (bs.getD j 0).toNat = 0
      · have HZ := hide (all_more hz hjl h0)
        rw [h0] at hcj
        clear hc hB hz h0 hm
        go_wp2
        go_round
        case rel => exact ⟨j + 1, by omega, by go_num, HZ.out⟩
        case measure => simp [intOf]; omega
      · have e : decide (∀ x ∈ bs, x = 0) = false := by
          rw [decide_eq_false_iff_not]
          intro h
          apply h0
          have e1 : bs.getD j 0 = bs[j] := by simp [List.getD, List.getElem?_eq_getElem hjl]
          rw [e1, h _ (List.getElem_mem hjl)]
          rfl
        have HE := hide e
        clear hc hB hz e
        generalize (bs.getD j 0).toNat = m at *
        have h1 : (((m : Nat) : Int) != 0) = true := by rw [bne_iff_ne]; omega
        go_wp2
        go_ret
        rw [HE.out]
        exact ⟨rfl, rfl⟩
    · obtain rfl : j = len := by omega
      have e2 := hB.1
      rw [List.take_of_length_le (by omega)] at hz
      have HE := hide (decide_eq_true hz)
      clear hz hB
      go_wp2
      go_ret
      rw [HE.out]
      exact ⟨rfl, rfl⟩
end Go.Proofs.Ytfeghhgniahfkaa

/-
  The contract of package page's cellsOf: the cells that 236 bytes tell.
-/
namespace Go.Proofs.Ytfeghhgniahfkaa
open Go.RowKit
set_option linter.unusedVariables false

theorem csA_set (p : Pg) (j : Nat) (hj : j < 8) (b : Bool) (s : ByteArray) :
    ((csA p).setIfInBounds (j * 2) (.bool b)).setIfInBounds (j * 2 + 1) (.string s) = csA ⟨p.l, fun i => if i = j then b else p.u i, fun i => if i = j then s else p.s i⟩ := by
  rcases lt8 hj with rfl | rfl | rfl | rfl | rfl | rfl | rfl | rfl <;> simp [csA]

/-- The result's cells and the variable's, while the bytes are read. -/
def Tell (w : World) (q : Pg) (x : World) : Prop := RowAt x w.heap.size 33 (csA Pg.zero) ∧ RowAt x (w.heap.size + 1) 33 (csA q) ∧ Below w.heap.size w x
theorem Tell.same {w x : World} {p q : Pg} (h : Tell w p x) (hs : p.same q) : Tell w q x := ⟨h.1, by rw [← same_csA hs]; exact h.2.1, h.2.2⟩
theorem tell_more {w x : World} {t : List UInt8} {j : Nat} (h : Tell w (prefT t j) x) (hj : j < 8) (hu : usedAt t j = true) :
    Tell w (prefT t (j + 1)) ((x.setCell ⟨w.heap.size + 1, j * 2, none⟩ (.bool true)).setCell ⟨w.heap.size + 1, j * 2 + 1, none⟩ (.string (cutAt t j))) := by
  refine ⟨(h.1.other _ _ (by simp)).other _ _ (by simp), ?_, (h.2.2.setCell (by simp) _).setCell (by simp) _⟩
  have h1 := (h.2.1.set (j * 2) (.bool true)).set (j * 2 + 1) (.string (cutAt t j))
  rw [csA_set _ j hj, same_csA (prefT_more t j hu)] at h1
  exact h1
theorem okT_no (t : List UInt8) (j : Nat) (hj : j < 8) (h : 20 < lenAt t j) : ¬ okT t := fun g => by
  have := g.1 j hj
  omega
theorem len_next {t : List UInt8} {j : Nat} (h : ∀ k, k < j → lenAt t k ≤ 20) (hj : lenAt t j ≤ 20) : ∀ k, k < j + 1 → lenAt t k ≤ 20 := by
  intro k hk
  by_cases hkj : k = j
  · subst hkj
    exact hj
  · exact h k (by omega)

theorem take_one (t : List UInt8) (ht : t.length = 236) (j : Nat) (hj : j < 8) : takeS t (2 + (j : Int)) 1 = (((nAt t j : Nat) : Int), 0) := by
  rw [takeS_ok t _ 1 (by omega) (by omega)]
  have e : (2 + (j : Int)).toNat = 2 + j := by omega
  rw [e]
  have e2 : beAt t (2 + j) (1 : Int).toNat = nAt t j := by
    unfold beAt nAt
    have hl : 2 + j < t.length := by omega
    have e4 : (t.drop (2 + j)).take 1 = [t[2 + j]] := by
      rw [List.drop_eq_getElem_cons hl]
      rfl
    rw [show (1 : Int).toNat = 1 from rfl, e4, List.getD, List.getElem?_eq_getElem hl]
    simp [be]
  rw [e2]

set_option maxRecDepth 4000 in
set_option maxHeartbeats 800000 in
theorem tells_at (g off cap : Nat) (t : List UInt8) (w : World) (hB : IsB w (some ⟨g, off, none⟩) 236 t) (hcap : 236 ≤ cap) (q : Pg) (r : Bool) (HT0 : Hid (okT t → q = tellP t ∧ r = true)) (HF0 : Hid (¬ okT t → q = Pg.zero ∧ r = false)) :
    Calls Try.prog 50 #[.slice (some ⟨g, off, none⟩) 236 cap] w fun e w' => e = .returned (.tuple #[.agg (csA q), .bool r]) ∧ Below w.heap.size w w' := by
  have HQ0 : Hid (Tell w (prefT t 0) ((w.alloc (.cells (csA Pg.zero) 33)).alloc (.cells (csA Pg.zero) 33))) := by
    refine ⟨(RowAt.new w 33 (csA Pg.zero)).below ((Below.refl _ _).alloc (Nat.le_refl _) _) (by simp), ?_, ((Below.refl _ _).alloc (Nat.le_refl _) _).alloc (by simp) _⟩
    have h := RowAt.new (w.alloc (.cells (csA Pg.zero) 33)) 33 (csA Pg.zero)
    rw [same_csA (prefT_zero t)]
    simpa using h
  have HB := hide hB
  have hl := hB.1
  clear hB
  go_enter Try.func50, Try.ntmps50
  go_wp2_with fail
  refine gen_wp (fun x => Hid (Tell w (prefT t 0) x)) HQ0 ?_
  clear HQ0
  intro w0 HQ0
  go_loopw [5, 10] (fun a i wr => ∃ j : Nat, j ≤ 8 ∧ i = .int .i64 j ∧ a = .int .i64 (posAt t j : Nat) ∧ Tell w (prefT t j) wr ∧ (∀ k, k < j → lenAt t k ≤ 20)) (fun _ i _ => 8 - (intOf i).toNat)
  case atStart => exact ⟨0, Nat.zero_le _, rfl, rfl, HQ0.out, fun k hk => absurd hk (by omega)⟩
  case round =>
    obtain ⟨j, hj, rfl, rfl, hq, hlen⟩ := hrel
    clear HQ0
    have HQ := hide hq
    have HLN := hide hlen
    have hpl := pos_le _ _ hlen
    clear hq hlen
    by_cases hlt : j < 8
    · have R := take_any (some ⟨g, off, none⟩) 236 cap t (2 + (j : Int)) 1 wr (HB.out.below HQ.out.2.2) (by omega) (by omega)
      rw [take_one t hl j hlt] at R
      have hm2 : nAt t j < 256 := by unfold nAt; exact UInt8.toNat_lt _
      obtain ⟨mm, hmm⟩ : ∃ mm, nAt t j = mm := ⟨_, rfl⟩
      rw [hmm] at R hm2
      have HR := hide R
      have HMM := hide hmm
      clear hmm R
      by_cases h255 : mm = 255
      · subst h255
        have hn := len_unused _ _ HMM.out
        have HN := hide (HQ.out.same (prefT_skip t j hn.2).symm)
        have HP := hide (show posAt t (j + 1) = posAt t j by rw [posAt, hn.1]; rfl)
        have HL2 := hide (len_next HLN.out (show lenAt t j ≤ 20 by omega))
        clear hn HQ HLN
        generalize posAt t j = pp at *
        go_wp2_with fail
        refine HR.out.mono ?_
        rintro e w2 ⟨rfl, rfl⟩
        go_wp2
        go_roundw
        case rel => exact ⟨j + 1, by omega, by go_num, by rw [HP.out], HN.out, HL2.out⟩
        case measure => simp [intOf]; omega
      · have hn := len_used _ _ mm HMM.out h255
        by_cases h20 : 20 < mm
        · have hno := okT_no t j hlt (by rw [hn.1]; exact h20)
          have HE := hide (HF0.out hno)
          have h5 : ((mm : Int) == 255) = false := by simp; omega
          have h6 : (20 : Int) < (mm : Int) := by omega
          have HQ1 := hide HQ.out.1
          have hb1 := HQ.out.2.2
          clear hno hn HQ HLN h255
          generalize posAt t j = pp at *
          go_wp2_with fail
          refine HR.out.mono ?_
          rintro e w2 ⟨rfl, rfl⟩
          go_wp2_with (refine wpList_store_at rfl 33 (.tmp 2) (.tmp 25) rfl w.heap.size (csA Pg.zero) (csA Pg.zero) rfl rfl HQ1.out infoCs rfl (csA_one _) ?_)
          intro w6 hP6 hk _
          have HP6 := hide hP6
          have d6 := hk _ _ hb1 (Nat.le_refl _)
          clear hP6 hk hb1 HQ1
          go_wp2
          rw [HE.out.1, HE.out.2]
          exact bodyPost_ret (res_at rfl _ _ w.heap.size (csA Pg.zero) _ rfl HP6.out Try.underlying33 rfl infoCs) rfl ⟨rfl, d6⟩
        · have h5 : ((mm : Int) == 255) = false := by simp; omega
          have h6 : ¬ (20 : Int) < (mm : Int) := by omega
          have HP := hide (show posAt t (j + 1) = posAt t j + mm by rw [posAt, hn.1])
          have HL2 := hide (len_next HLN.out (show lenAt t j ≤ 20 by omega))
          have HN := hide (tell_more HQ.out hlt hn.2)
          have c1 := HQ.out.2.1.cell (j * 2) _ (csA_used _ j hlt)
          have c2 := HQ.out.2.1.cell (j * 2 + 1) _ (csA_val _ j hlt)
          have f1 := HQ.out.2.1.free (j * 2)
          have f2 := HQ.out.2.1.free (j * 2 + 1)
          obtain ⟨b', o', he', hlt', hcell'⟩ := (HB.out.below HQ.out.2.2).2 (by omega)
          cases he'
          have hcut := IsB.cut hl hlt' hcell' (posAt t j) mm (by omega)
          have hcv := run_toString (P := Try.prog) wr 61 9 5 Try.underlying61 Try.underlying5 Try.underlying9 (some ⟨g, off + posAt t j, none⟩) mm (cap - posAt t j) _ hcut
          have hce : (⟨((t.drop (posAt t j)).take mm).toArray⟩ : ByteArray) = cutAt t j := by unfold cutAt; rw [hn.1]
          rw [hce] at hcv
          have i3 : ¬ cap = posAt t j := by omega
          have i4 : (posAt t j : Int) + (mm : Int) ≤ (cap : Int) := by omega
          clear hn HLN h255 HQ hcell' hcut hce
          generalize posAt t j = pp at *
          generalize cutAt t j = C at *
          go_wp2_with fail
          refine HR.out.mono ?_
          rintro e w2 ⟨rfl, rfl⟩
          go_wp2
          go_roundw
          case rel => exact ⟨j + 1, by omega, by go_num, by rw [HP.out]; go_num, HN.out, HL2.out⟩
          case measure => simp [intOf]; omega
    · obtain rfl : j = 8 := by omega
      have HT := hide (HQ.out.same (prefT_full t))
      obtain ⟨b', o', he', hlt', hcell'⟩ := (HB.out.below HQ.out.2.2).2 (by omega)
      cases he'
      have hp2 : 10 ≤ posAt t 8 := (vals_told t hl HLN.out 8 (by omega)).2
      have hcut := IsB.cut hl hlt' hcell' (posAt t 8) (236 - posAt t 8) (by omega)
      rw [List.take_of_length_le (by rw [List.length_drop]; omega)] at hcut
      have R := noughts_any _ (236 - posAt t 8) (cap - posAt t 8) _ wr hcut (by omega)
      have hiff : okT t ↔ ∀ x ∈ t.drop (posAt t 8), x = 0 := ⟨fun h => h.2, fun h => ⟨HLN.out, h⟩⟩
      have i3 : ¬ cap = posAt t 8 := by omega
      have i4 : (posAt t 8 : Int) ≤ 236 := by omega
      have i5 : (236 : Int) ≤ (cap : Int) := by omega
      by_cases hok : okT t
      · rw [decide_eq_true (hiff.1 hok)] at R
        have HE := hide (HT0.out hok)
        have HR := hide R
        clear R hiff hcut hcell' HQ HLN hpl hlt hj hok HB
        generalize posAt t 8 = pp at *
        go_wp2_with fail
        refine HR.out.mono ?_
        rintro e w2 ⟨rfl, rfl⟩
        clear HR
        go_wp2_with (first | (refine wpList_load_at rfl 33 (.tmp 4) rfl (w.heap.size + 1) rfl (csA (tellP t)) HT.out.2.1 _ Try.underlying33 rfl infoCs ?_) | (refine wpList_store_at rfl 33 (.tmp 2) (.tmp 46) rfl w.heap.size (csA Pg.zero) (csA (tellP t)) rfl rfl HT.out.1 infoCs rfl (csA_one _) ?_))
        intro w6 hP6 hk _
        have HP6 := hide hP6
        have d6 := hk _ _ HT.out.2.2 (Nat.le_refl _)
        clear hP6 hk HT
        go_wp2
        rw [HE.out.1, HE.out.2]
        exact bodyPost_ret (res_at rfl _ _ w.heap.size (csA (tellP t)) _ rfl HP6.out Try.underlying33 rfl infoCs) rfl ⟨rfl, d6⟩
      · rw [decide_eq_false (fun h => hok (hiff.2 h))] at R
        have HE := hide (HF0.out hok)
        have HR := hide R
        clear R hiff hcut hcell' HQ HLN hpl hlt hj hok HB
        generalize posAt t 8 = pp at *
        go_wp2_with fail
        refine HR.out.mono ?_
        rintro e w2 ⟨rfl, rfl⟩
        clear HR
        go_wp2_with (refine wpList_store_at rfl 33 (.tmp 2) (.tmp 45) rfl w.heap.size (csA Pg.zero) (csA Pg.zero) rfl rfl HT.out.1 infoCs rfl (csA_one _) ?_)
        intro w6 hP6 hk _
        have HP6 := hide hP6
        have d6 := hk _ _ HT.out.2.2 (Nat.le_refl _)
        clear hP6 hk HT
        go_wp2
        rw [HE.out.1, HE.out.2]
        exact bodyPost_ret (res_at rfl _ _ w.heap.size (csA Pg.zero) _ rfl HP6.out Try.underlying33 rfl infoCs) rfl ⟨rfl, d6⟩

/-- THE CONTRACT. -/
theorem tells_any (g off cap : Nat) (t : List UInt8) (w : World) (hB : IsB w (some ⟨g, off, none⟩) 236 t) (hcap : 236 ≤ cap) :
    Calls Try.prog 50 #[.slice (some ⟨g, off, none⟩) 236 cap] w fun e w' => e = .returned (.tuple #[.agg (csA (if okT t then tellP t else Pg.zero)), .bool (decide (okT t))]) ∧ Below w.heap.size w w' :=
  tells_at g off cap t w hB hcap _ _ (hide fun h => ⟨if_pos h, decide_eq_true h⟩) (hide fun h => ⟨if_neg h, decide_eq_false h⟩)
end Go.Proofs.Ytfeghhgniahfkaa

/-
  The contract of package page's Decode.
-/
namespace Go.Proofs.Ytfeghhgniahfkaa
open Go.RowKit
set_option linter.unusedVariables false

theorem run_build_pg (l : Nat) (q : Pg) (w : World) : (Instr.build 35 #[(0, .int .u64 (l : Int)), (1, .agg (csA q))]).run Try.prog w = .ok (.agg (pgA ⟨l, q.u, q.s⟩)) w := by kernel_rfl
theorem wpList_build_pg {ops : Array Oper} {rest : List Oper} {o : Oper} {a : Act} {w : World} {Q : Exit → Act → World → Prop} (hw : Region.wanted o (yielded ops a.tmps) = true) (x y : Operand) (ho : o.op = .build 35 #[(0, x), (1, y)])
    (l : Nat) (q : Pg) (hx : a.eval x = .int .u64 (l : Int)) (hy : a.eval y = .agg (csA q)) (h : wpList Try.prog ops Q rest (a.put o.dst (.agg (pgA ⟨l, q.u, q.s⟩))) w) : wpList Try.prog ops Q (o :: rest) a w :=
  wpList_step fun K hK => by
    simp only [hw, if_true]
    unfold Oper.wp execOp
    have e : (#[(0, x), (1, y)] : Array (Nat × Operand)).map (fun z => (z.1, a.eval z.2)) = #[(0, .int .u64 (l : Int)), (1, .agg (csA q))] := by simp [hx, hy]
    have e2 : (#[(0, x), (1, y)] : Array (Nat × Operand)).map (fun (i, x) => (i, a.eval x)) = #[(0, .int .u64 (l : Int)), (1, .agg (csA q))] := e
    simp only [ho, e2, Sem.run_bind, run_build_pg l q w, Result.andThen_ok, Sem.run_pure]
    exact hK _ _ h

section
variable (id : Int) (a : Option Addr) (len cap : Nat) (w : World)

set_option maxRecDepth 4000 in
set_option maxHeartbeats 400000 in
theorem dec_id (h : ¬ (0 ≤ id ∧ id ≤ 31)) :
    Calls Try.prog 24 #[.int .i64 id, .slice a len cap] w fun e w' => e = .returned (.tuple #[.agg (pgA Pg.zero), .int .i64 1]) ∧ Below w.heap.size w w' := by
  have hb0 : Below w.heap.size w (w.alloc (.cells (pgA Pg.zero) 35)) := (Below.refl _ _).alloc (Nat.le_refl _) _
  have HP := hide (show PgAt (w.alloc (.cells (pgA Pg.zero) 35)) w.heap.size Pg.zero from heap_alloc_new w _)
  have R := fun w => rightID_any id w
  rw [decide_eq_false h] at R
  have HR := hide R
  clear R h
  go_enter Try.func24, Try.ntmps24
  go_wp2_with fail
  refine (HR.out _).mono ?_
  rintro e w1 ⟨rfl, rfl⟩
  clear HR
  go_wp2_with (refine wpList_store_page rfl (.tmp 4) (.tmp 15) rfl w.heap.size Pg.zero Pg.zero rfl rfl HP.out ?_)
  intro w2 hP2 hk
  have HP2 := hide hP2
  have d2 := hk _ _ hb0 (Nat.le_refl _)
  clear hP2 hk hb0 HP
  go_wp2
  exact bodyPost_ret (res_page rfl _ _ w.heap.size Pg.zero rfl HP2.out) rfl ⟨rfl, d2⟩

set_option maxRecDepth 4000 in
set_option maxHeartbeats 400000 in
theorem dec_few (h : 0 ≤ id ∧ id ≤ 31) (h3 : (len : Int) < 256) :
    Calls Try.prog 24 #[.int .i64 id, .slice a len cap] w fun e w' => e = .returned (.tuple #[.agg (pgA Pg.zero), .int .i64 4]) ∧ Below w.heap.size w w' := by
  have hb0 : Below w.heap.size w (w.alloc (.cells (pgA Pg.zero) 35)) := (Below.refl _ _).alloc (Nat.le_refl _) _
  have HP := hide (show PgAt (w.alloc (.cells (pgA Pg.zero) 35)) w.heap.size Pg.zero from heap_alloc_new w _)
  have R := fun w => rightID_any id w
  rw [decide_eq_true h] at R
  have HR := hide R
  clear R h
  go_enter Try.func24, Try.ntmps24
  go_wp2_with fail
  refine (HR.out _).mono ?_
  rintro e w1 ⟨rfl, rfl⟩
  clear HR
  go_wp2_with (refine wpList_store_page rfl (.tmp 4) (.tmp 19) rfl w.heap.size Pg.zero Pg.zero rfl rfl HP.out ?_)
  intro w2 hP2 hk
  have HP2 := hide hP2
  have d2 := hk _ _ hb0 (Nat.le_refl _)
  clear hP2 hk hb0 HP
  go_wp2
  exact bodyPost_ret (res_page rfl _ _ w.heap.size Pg.zero rfl HP2.out) rfl ⟨rfl, d2⟩

set_option maxRecDepth 4000 in
set_option maxHeartbeats 400000 in
theorem dec_many (h : 0 ≤ id ∧ id ≤ 31) (h3 : ¬ (len : Int) < 256) (h4 : 256 < (len : Int)) :
    Calls Try.prog 24 #[.int .i64 id, .slice a len cap] w fun e w' => e = .returned (.tuple #[.agg (pgA Pg.zero), .int .i64 2]) ∧ Below w.heap.size w w' := by
  have hb0 : Below w.heap.size w (w.alloc (.cells (pgA Pg.zero) 35)) := (Below.refl _ _).alloc (Nat.le_refl _) _
  have HP := hide (show PgAt (w.alloc (.cells (pgA Pg.zero) 35)) w.heap.size Pg.zero from heap_alloc_new w _)
  have R := fun w => rightID_any id w
  rw [decide_eq_true h] at R
  have HR := hide R
  clear R h
  go_enter Try.func24, Try.ntmps24
  go_wp2_with fail
  refine (HR.out _).mono ?_
  rintro e w1 ⟨rfl, rfl⟩
  clear HR
  go_wp2_with (refine wpList_store_page rfl (.tmp 4) (.tmp 23) rfl w.heap.size Pg.zero Pg.zero rfl rfl HP.out ?_)
  intro w2 hP2 hk
  have HP2 := hide hP2
  have d2 := hk _ _ hb0 (Nat.le_refl _)
  clear hP2 hk hb0 HP
  go_wp2
  exact bodyPost_ret (res_page rfl _ _ w.heap.size Pg.zero rfl HP2.out) rfl ⟨rfl, d2⟩

set_option maxRecDepth 4000 in
set_option maxHeartbeats 400000 in
theorem dec_tears (bs : List UInt8) (hB : IsB w a 256 bs) (h : 0 ≤ id ∧ id ≤ 31) (ht : tornB bs = true) :
    Calls Try.prog 24 #[.int .i64 id, .slice a 256 cap] w fun e w' => e = .returned (.tuple #[.agg (pgA Pg.zero), .int .i64 14]) ∧ Below w.heap.size w w' := by
  have hb0 : Below w.heap.size w (w.alloc (.cells (pgA Pg.zero) 35)) := (Below.refl _ _).alloc (Nat.le_refl _) _
  have HP := hide (show PgAt (w.alloc (.cells (pgA Pg.zero) 35)) w.heap.size Pg.zero from heap_alloc_new w _)
  have R := fun w => rightID_any id w
  rw [decide_eq_true h] at R
  have HR := hide R
  have S := stamp_same a 256 cap bs _ (hB.below hb0) (by omega)
  have e : stampB bs = (0, false) := by unfold stampB; rw [if_neg (fun g => by rw [ht] at g; exact absurd g.2 (by decide))]
  rw [e] at S
  have HS := hide S
  clear R h S e ht hB
  go_enter Try.func24, Try.ntmps24
  go_wp2_with fail
  refine (HR.out _).mono ?_
  rintro e w1 ⟨rfl, rfl⟩
  clear HR
  go_wp2_with fail
  refine HS.out.mono ?_
  rintro e w1 ⟨rfl, rfl⟩
  clear HS
  go_wp2_with (refine wpList_store_page rfl (.tmp 4) (.tmp 31) rfl w.heap.size Pg.zero Pg.zero rfl rfl HP.out ?_)
  intro w2 hP2 hk
  have HP2 := hide hP2
  have d2 := hk _ _ hb0 (Nat.le_refl _)
  clear hP2 hk hb0 HP
  go_wp2
  exact bodyPost_ret (res_page rfl _ _ w.heap.size Pg.zero rfl HP2.out) rfl ⟨rfl, d2⟩
end

set_option maxRecDepth 4000 in
set_option maxHeartbeats 400000 in
theorem dec_sum (id : Int) (g off cap : Nat) (w : World) (bs : List UInt8) (hB : IsB w (some ⟨g, off, none⟩) 256 bs) (hcap : 256 ≤ cap) (h : 0 ≤ id ∧ id ≤ 31) (ht : tornB bs = false) (hs : ¬ leN ((taleOf bs).drop 236) = crc ((taleOf bs).take 236)) :
    Calls Try.prog 24 #[.int .i64 id, .slice (some ⟨g, off, none⟩) 256 cap] w fun e w' => e = .returned (.tuple #[.agg (pgA Pg.zero), .int .i64 3]) ∧ Below w.heap.size w w' := by
  have hb0 : Below w.heap.size w (w.alloc (.cells (pgA Pg.zero) 35)) := (Below.refl _ _).alloc (Nat.le_refl _) _
  have HP := hide (show PgAt (w.alloc (.cells (pgA Pg.zero) 35)) w.heap.size Pg.zero from heap_alloc_new w _)
  have R := fun w => rightID_any id w
  rw [decide_eq_true h] at R
  have HR := hide R
  have S := stamp_same _ 256 cap bs _ (hB.below hb0) (by omega)
  have e : stampB bs = (beAt bs 0 8, true) := by unfold stampB; rw [if_pos ⟨hB.1, ht⟩]
  rw [e] at S
  have HS := hide S
  have HT := hide (taleOf_any g off cap bs _ (hB.below hb0) hcap)
  have htl := taleOf_length bs hB.1
  have ho := openS_no (taleOf bs) (by omega) (by rw [htl]; exact hs)
  have HO := hide ho
  clear R h S e ht hB hs ho
  generalize beAt bs 0 8 = st at *
  go_enter Try.func24, Try.ntmps24
  go_wp2_with fail
  refine (HR.out _).mono ?_
  rintro e w1 ⟨rfl, rfl⟩
  clear HR
  go_wp2_with fail
  refine HS.out.mono ?_
  rintro e w1 ⟨rfl, rfl⟩
  clear HS
  go_wp2_with fail
  refine HT.out.mono ?_
  rintro e w2 ⟨v2, rfl, hown2, hb2⟩
  obtain ⟨a2, cap2, rfl, hcap2, hB2⟩ := shape_isB hown2
  have d2 := hb0.trans (hb2.mono hb0.size)
  have HP2 := hide (HP.out.below hb2 (by simp))
  have O := open_any a2 240 cap2 _ w2 hB2 (by omega) hcap2
  rw [HO.out] at O
  have HOp := hide O
  clear hown2 hb2 hB2 O hb0 HP HT HO
  go_wp2_with fail
  refine HOp.out.mono ?_
  rintro e w3 ⟨v3, rfl, _, hb3⟩
  have d3 := d2.trans (hb3.mono d2.size)
  have HP3 := hide (HP2.out.below hb3 (Array.getElem?_eq_some_iff.1 HP2.out).1)
  clear d2 HP2 hb3 HOp
  go_wp2_with (refine wpList_store_page rfl (.tmp 4) (.tmp 40) rfl w.heap.size Pg.zero Pg.zero rfl rfl HP3.out ?_)
  intro w4 hP4 hk
  have HP4 := hide hP4
  have d4 := hk _ _ d3 (Nat.le_refl _)
  clear hP4 hk d3 HP3
  go_wp2
  exact bodyPost_ret (res_page rfl _ _ w.heap.size Pg.zero rfl HP4.out) rfl ⟨rfl, d4⟩

set_option maxRecDepth 4000 in
set_option maxHeartbeats 800000 in
theorem dec_tell (id : Nat) (g off cap : Nat) (w : World) (bs : List UInt8) (hB : IsB w (some ⟨g, off, none⟩) 256 bs) (hcap : 256 ≤ cap) (h : id < 32) (ht : tornB bs = false) (hs : leN ((taleOf bs).drop 236) = crc ((taleOf bs).take 236)) :
    Calls Try.prog 24 #[.int .i64 id, .slice (some ⟨g, off, none⟩) 256 cap] w fun e w' => e = .returned (.tuple #[.agg (pgA (decP id bs)), .int .i64 (decE id bs)]) ∧ Below w.heap.size w w' := by
  have hb0 : Below w.heap.size w (w.alloc (.cells (pgA Pg.zero) 35)) := (Below.refl _ _).alloc (Nat.le_refl _) _
  have HP := hide (show PgAt (w.alloc (.cells (pgA Pg.zero) 35)) w.heap.size Pg.zero from heap_alloc_new w _)
  have R := fun w => rightID_any id w
  rw [decide_eq_true (show 0 ≤ (id : Int) ∧ (id : Int) ≤ 31 by omega)] at R
  have HR := hide R
  have S := stamp_same _ 256 cap bs _ (hB.below hb0) (by omega)
  have e : stampB bs = (beAt bs 0 8, true) := by unfold stampB; rw [if_pos ⟨hB.1, ht⟩]
  rw [e] at S
  have HS := hide S
  have HT := hide (taleOf_any g off cap bs _ (hB.below hb0) hcap)
  have htl := taleOf_length bs hB.1
  have ho := openS_ok (taleOf bs) (by omega) (by rw [htl]; exact hs)
  rw [htl] at ho
  have HO := hide ho
  have hl236 : ((taleOf bs).take 236).length = 236 := by rw [List.length_take]; omega
  have HD := hide (dec_last id bs (by omega) hB.1 ht hs)
  have hiff := tell_iff id bs (by omega) hB.1 ht hs
  have HI := hide hiff
  have hsc := fun hok => scan_tell bs hB.1 hok
  have HSC := hide hsc
  have e2 : maxP = 4611686018427387904 := rfl
  clear R S e ht hB hs ho htl hiff hsc
  go_enter Try.func24, Try.ntmps24
  go_wp2_with fail
  refine (HR.out _).mono ?_
  rintro e w1 ⟨rfl, rfl⟩
  clear HR
  go_wp2_with fail
  refine HS.out.mono ?_
  rintro e w1 ⟨rfl, rfl⟩
  clear HS
  go_wp2_with fail
  refine HT.out.mono ?_
  rintro e w2 ⟨v2, rfl, hown2, hb2⟩
  obtain ⟨a2, cap2, rfl, hcap2, hB2⟩ := shape_isB hown2
  have d2 := hb0.trans (hb2.mono hb0.size)
  have HP2 := hide (HP.out.below hb2 (by simp))
  have O := open_any a2 240 cap2 _ w2 hB2 (by omega) hcap2
  rw [HO.out] at O
  have HOp := hide O
  clear hown2 hb2 hB2 O hb0 HP HT HO
  go_wp2_with fail
  refine HOp.out.mono ?_
  rintro e w3 ⟨v3, rfl, hown3, hb3⟩
  rw [hl236] at hown3
  obtain ⟨g3, cap3, rfl, hg3⟩ := own_slice hown3 (by omega)
  have hc3 := own_cap hown3
  have hB3 := hown3.isB hl236
  have d3 := d2.trans (hb3.mono d2.size)
  have HP3 := hide (HP2.out.below hb3 (Array.getElem?_eq_some_iff.1 HP2.out).1)
  have HC := hide (tells_any g3 0 cap3 _ w3 hB3 hc3)
  have HB3 := hide hB3
  clear d2 HP2 hb3 HOp hown3 hB3 hg3
  obtain ⟨T, hT⟩ : ∃ T, T = (taleOf bs).take 236 := ⟨_, rfl⟩
  rw [← hT] at HC HB3 HI hl236
  have HTT := hide hT
  clear hT
  obtain ⟨Q2, hQ2⟩ : ∃ q, q = (if okT T then tellP T else Pg.zero) := ⟨_, rfl⟩
  rw [← hQ2] at HC
  have HQQ := hide hQ2
  clear hQ2
  obtain ⟨st, hst⟩ : ∃ s, s = beAt bs 0 8 := ⟨_, rfl⟩
  rw [← hst] at HI ⊢
  have HST := hide hst
  clear hst
  by_cases hall : okT T ∧ beAt T 0 2 = id ∧ st ≤ maxP
  · have hr := HI.out.2 hall
    have he : decE id bs = 0 := by rw [HD.out, if_pos ⟨hr.1, by simpa using hr.2⟩]
    have hp : pgA (decP id bs) = pgA ⟨st, (tellP T).u, (tellP T).s⟩ := by
      unfold decP
      rw [if_pos he]
      refine same_pgA ⟨HST.out.symm, fun i hi => ?_⟩
      have h1 := HSC.out (by rw [← HTT.out]; exact hall.1) i hi
      rw [← HTT.out] at h1
      exact h1
    have HE := hide (And.intro hp he)
    have hq : Q2 = tellP T := by rw [HQQ.out, if_pos hall.1]
    rw [hq, decide_eq_true hall.1] at HC
    have K := fun w' (h' : IsB w' (some ⟨g3, 0, none⟩) 236 T) => tellsID_any (some ⟨g3, 0, none⟩) cap3 T id w' h' h
    rw [decide_eq_true hall.2.1] at K
    have HK := hide K
    have hmx : ((4611686018427387904 : Int) < (st : Int)) = False := by
      have := hall.2.2
      simp
      omega
    clear hr he hp hq K HD HI HSC HQQ HTT HST hall e2 Q2
    go_wp2_with fail
    refine HC.out.mono ?_
    rintro e w4 ⟨rfl, hb4⟩
    have HP4 := hide (HP3.out.below hb4 (Array.getElem?_eq_some_iff.1 HP3.out).1)
    have d4 := d3.trans (hb4.mono d3.size)
    have HB4 := hide (HB3.out.below hb4)
    clear HC hb4 HP3 d3 HB3
    go_wp2_with (refine wpList_store_at rfl 33 (.tmp 10) (.tmp 45) rfl w4.heap.size (csA Pg.zero) (csA (tellP T)) rfl rfl (RowAt.new w4 33 _) infoCs rfl (csA_one _) ?_)
    intro w5 hr5 hk5 _
    have s5 := hk5 _ _ ((Below.refl w4.heap.size w4).alloc (Nat.le_refl _) _) (Nat.le_refl _)
    have HR5 := hide hr5
    have HP5 := hide (HP4.out.below s5 (Array.getElem?_eq_some_iff.1 HP4.out).1)
    have d5 := d4.trans (s5.mono d4.size)
    have HB5 := hide (HB4.out.below s5)
    clear hr5 hk5 s5 HP4 d4 HB4
    go_wp2_with fail
    refine (HK.out _ HB5.out).mono ?_
    rintro e w6 ⟨rfl, rfl⟩
    clear HK HB5
    go_wp2_with (first | (refine wpList_load_at rfl 33 (.tmp 10) rfl w4.heap.size rfl (csA (tellP T)) HR5.out _ Try.underlying33 rfl infoCs ?_) | (refine wpList_build_pg rfl (.tmp 60) (.tmp 61) rfl st (tellP T) rfl rfl ?_) | (refine wpList_store_page rfl (.tmp 4) (.tmp 62) rfl w.heap.size Pg.zero ⟨st, (tellP T).u, (tellP T).s⟩ rfl rfl HP5.out ?_))
    intro w7 hP7 hk7
    have HP7 := hide hP7
    have d7 := hk7 _ _ d5 (Nat.le_refl _)
    clear hP7 hk7 d5 HP5 HR5
    go_wp2
    rw [HE.out.1, HE.out.2]
    exact bodyPost_ret (res_page rfl _ _ w.heap.size ⟨st, (tellP T).u, (tellP T).s⟩ rfl HP7.out) rfl ⟨rfl, d7⟩
  by_cases hok : okT T
  · have hq : Q2 = tellP T := by rw [HQQ.out, if_pos hok]
    rw [hq, decide_eq_true hok] at HC
    have he : decE id bs = 2 := by rw [HD.out, if_neg (fun g => hall (HI.out.1 ⟨g.1, by simpa using g.2⟩))]
    have hp : pgA (decP id bs) = pgA Pg.zero := by rw [decP_no _ _ (by rw [he]; decide)]
    have HE := hide (And.intro hp he)
    by_cases hi : beAt T 0 2 = id
    · have hmx : (4611686018427387904 : Int) < (st : Int) := by
        have h1 : ¬ st ≤ maxP := fun h1 => hall ⟨hok, hi, h1⟩
        omega
      have K := fun w' (h' : IsB w' (some ⟨g3, 0, none⟩) 236 T) => tellsID_any (some ⟨g3, 0, none⟩) cap3 T id w' h' h
      rw [decide_eq_true hi] at K
      have HK := hide K
      clear he hp hq K HD HI HSC HQQ HTT HST hall e2 Q2 hok hi
      go_wp2_with fail
      refine HC.out.mono ?_
      rintro e w4 ⟨rfl, hb4⟩
      have HP4 := hide (HP3.out.below hb4 (Array.getElem?_eq_some_iff.1 HP3.out).1)
      have d4 := d3.trans (hb4.mono d3.size)
      have HB4 := hide (HB3.out.below hb4)
      clear HC hb4 HP3 d3 HB3
      go_wp2_with (refine wpList_store_at rfl 33 (.tmp 10) (.tmp 45) rfl w4.heap.size (csA Pg.zero) (csA (tellP T)) rfl rfl (RowAt.new w4 33 _) infoCs rfl (csA_one _) ?_)
      intro w5 hr5 hk5 _
      have s5 := hk5 _ _ ((Below.refl w4.heap.size w4).alloc (Nat.le_refl _) _) (Nat.le_refl _)
      have HR5 := hide hr5
      have HP5 := hide (HP4.out.below s5 (Array.getElem?_eq_some_iff.1 HP4.out).1)
      have d5 := d4.trans (s5.mono d4.size)
      have HB5 := hide (HB4.out.below s5)
      clear hr5 hk5 s5 HP4 d4 HB4
      go_wp2_with fail
      refine (HK.out _ HB5.out).mono ?_
      rintro e w6 ⟨rfl, rfl⟩
      clear HK HB5
      go_wp2_with (refine wpList_store_page rfl (.tmp 4) (.tmp 59) rfl w.heap.size Pg.zero Pg.zero rfl rfl HP5.out ?_)
      intro w7 hP7 hk7
      have HP7 := hide hP7
      have d7 := hk7 _ _ d5 (Nat.le_refl _)
      clear hP7 hk7 d5 HP5 HR5
      go_wp2
      rw [HE.out.1, HE.out.2]
      exact bodyPost_ret (res_page rfl _ _ w.heap.size Pg.zero rfl HP7.out) rfl ⟨rfl, d7⟩
    · have K := fun w' (h' : IsB w' (some ⟨g3, 0, none⟩) 236 T) => tellsID_any (some ⟨g3, 0, none⟩) cap3 T id w' h' h
      rw [decide_eq_false hi] at K
      have HK := hide K
      clear he hp hq K HD HI HSC HQQ HTT HST hall e2 Q2 hok hi
      go_wp2_with fail
      refine HC.out.mono ?_
      rintro e w4 ⟨rfl, hb4⟩
      have HP4 := hide (HP3.out.below hb4 (Array.getElem?_eq_some_iff.1 HP3.out).1)
      have d4 := d3.trans (hb4.mono d3.size)
      have HB4 := hide (HB3.out.below hb4)
      clear HC hb4 HP3 d3 HB3
      go_wp2_with (refine wpList_store_at rfl 33 (.tmp 10) (.tmp 45) rfl w4.heap.size (csA Pg.zero) (csA (tellP T)) rfl rfl (RowAt.new w4 33 _) infoCs rfl (csA_one _) ?_)
      intro w5 hr5 hk5 _
      have s5 := hk5 _ _ ((Below.refl w4.heap.size w4).alloc (Nat.le_refl _) _) (Nat.le_refl _)
      have HR5 := hide hr5
      have HP5 := hide (HP4.out.below s5 (Array.getElem?_eq_some_iff.1 HP4.out).1)
      have d5 := d4.trans (s5.mono d4.size)
      have HB5 := hide (HB4.out.below s5)
      clear hr5 hk5 s5 HP4 d4 HB4
      go_wp2_with fail
      refine (HK.out _ HB5.out).mono ?_
      rintro e w6 ⟨rfl, rfl⟩
      clear HK HB5
      go_wp2_with (refine wpList_store_page rfl (.tmp 4) (.tmp 59) rfl w.heap.size Pg.zero Pg.zero rfl rfl HP5.out ?_)
      intro w7 hP7 hk7
      have HP7 := hide hP7
      have d7 := hk7 _ _ d5 (Nat.le_refl _)
      clear hP7 hk7 d5 HP5 HR5
      go_wp2
      rw [HE.out.1, HE.out.2]
      exact bodyPost_ret (res_page rfl _ _ w.heap.size Pg.zero rfl HP7.out) rfl ⟨rfl, d7⟩
  · have hq : Q2 = Pg.zero := by rw [HQQ.out, if_neg hok]
    rw [hq, decide_eq_false hok] at HC
    have he : decE id bs = 2 := by rw [HD.out, if_neg (fun g => hall (HI.out.1 ⟨g.1, by simpa using g.2⟩))]
    have hp : pgA (decP id bs) = pgA Pg.zero := by rw [decP_no _ _ (by rw [he]; decide)]
    have HE := hide (And.intro hp he)
    clear he hp hq HD HI HSC HQQ HTT HST hall e2 Q2 hok
    go_wp2_with fail
    refine HC.out.mono ?_
    rintro e w4 ⟨rfl, hb4⟩
    have HP4 := hide (HP3.out.below hb4 (Array.getElem?_eq_some_iff.1 HP3.out).1)
    have d4 := d3.trans (hb4.mono d3.size)
    have HB4 := hide (HB3.out.below hb4)
    clear HC hb4 HP3 d3 HB3
    go_wp2_with (refine wpList_store_at rfl 33 (.tmp 10) (.tmp 45) rfl w4.heap.size (csA Pg.zero) (csA Pg.zero) rfl rfl (RowAt.new w4 33 _) infoCs rfl (csA_one _) ?_)
    intro w5 hr5 hk5 _
    have s5 := hk5 _ _ ((Below.refl w4.heap.size w4).alloc (Nat.le_refl _) _) (Nat.le_refl _)
    have HR5 := hide hr5
    have HP5 := hide (HP4.out.below s5 (Array.getElem?_eq_some_iff.1 HP4.out).1)
    have d5 := d4.trans (s5.mono d4.size)
    have HB5 := hide (HB4.out.below s5)
    clear hr5 hk5 s5 HP4 d4 HB4
    go_wp2_with (refine wpList_store_page rfl (.tmp 4) (.tmp 59) rfl w.heap.size Pg.zero Pg.zero rfl rfl HP5.out ?_)
    intro w7 hP7 hk7
    have HP7 := hide hP7
    have d7 := hk7 _ _ d5 (Nat.le_refl _)
    clear hP7 hk7 d5 HP5 HR5
    go_wp2
    rw [HE.out.1, HE.out.2]
    exact bodyPost_ret (res_page rfl _ _ w.heap.size Pg.zero rfl HP7.out) rfl ⟨rfl, d7⟩

/-- THE CONTRACT. -/
theorem dec_any (id : Int) (a : Option Addr) (len cap : Nat) (bs : List UInt8) (w : World) (hB : IsB w a len bs) (hl : len ≤ 140737488355328) (hcap : len ≤ cap) :
    Calls Try.prog 24 #[.int .i64 id, .slice a len cap] w fun e w' => e = .returned (.tuple #[.agg (pgA (decP id bs)), .int .i64 (decE id bs)]) ∧ Below w.heap.size w w' := by
  have hb := hB.1
  by_cases h : 0 ≤ id ∧ id ≤ 31
  · obtain ⟨n, rfl⟩ := Int.eq_ofNat_of_zero_le h.1
    by_cases h3 : len < 256
    · have e : decE n bs = 4 := by unfold decE; rw [if_neg (by simpa using h), if_pos (by omega)]
      rw [decP_no n bs (by rw [e]; decide), e]
      exact dec_few n a len cap w h (by omega)
    · by_cases h4 : 256 < len
      · have e : decE n bs = 2 := by unfold decE; rw [if_neg (by simpa using h), if_neg (by omega), if_pos (by omega)]
        rw [decP_no n bs (by rw [e]; decide), e]
        exact dec_many n a len cap w h (by omega) (by omega)
      · obtain rfl : len = 256 := by omega
        cases ht : tornB bs with
        | true =>
          have e : decE n bs = 14 := by unfold decE; rw [if_neg (by simpa using h), if_neg (by omega), if_neg (by omega), if_pos ht]
          rw [decP_no n bs (by rw [e]; decide), e]
          exact dec_tears n a cap w bs hB h ht
        | false =>
          obtain ⟨g, off, rfl, _⟩ := hB.2 (by omega)
          by_cases hs : leN ((taleOf bs).drop 236) = crc ((taleOf bs).take 236)
          · exact dec_tell n g off cap w bs hB hcap (by omega) ht hs
          · have e : decE n bs = 3 := by unfold decE; rw [if_neg (by simpa using h), if_neg (by omega), if_neg (by omega), if_neg (by simp [ht]), if_pos hs]
            rw [decP_no n bs (by rw [e]; decide), e]
            exact dec_sum n g off cap w bs hB hcap h ht hs
  · have e : decE id bs = 1 := by unfold decE; rw [if_pos h]
    rw [decP_no id bs (by rw [e]; decide), e]
    exact dec_id id a len cap w h
end Go.Proofs.Ytfeghhgniahfkaa

/-
  The contracts of package page, together.
-/

/-
  The contracts of package store's small functions: Pages, hasPage, isNode, isMask, Out, Image, Read, stamp.
-/
namespace Go.Proofs.Ytfeghhgniahfkaa
open Go.RowKit
set_option linter.unusedVariables false

section
variable {w : World} {gs gp : Nat} {s : Sc}
set_option maxRecDepth 4000 in
set_option maxHeartbeats 400000 in
theorem pages10 (h : SAt w gs gp s) : Calls Try.prog 13 #[.pointer (some ⟨gs, 0, none⟩)] w fun e w' => e = .returned (.int .i64 (s.n : Int)) ∧ w = w' := by
  obtain ⟨cs, ps, h⟩ := h
  have c0 := h.c0
  clear h
  go_enter Try.func13, Try.ntmps13
  go_wp2
  go_ret
  exact ⟨rfl, rfl⟩
set_option maxRecDepth 4000 in
set_option maxHeartbeats 400000 in
theorem pages10_nil (w : World) : Calls Try.prog 13 #[.pointer none] w fun e w' => e = .returned (.int .i64 ((0 : Nat) : Int)) ∧ w = w' := by
  go_enter Try.func13, Try.ntmps13
  go_wp2
  go_ret
  exact ⟨rfl, rfl⟩
set_option maxRecDepth 4000 in
set_option maxHeartbeats 400000 in
theorem pages10_zero (w : World) (g : Nat) (h : w.cell? ⟨g, 0, none⟩ = some (.slice none 0 0)) : Calls Try.prog 13 #[.pointer (some ⟨g, 0, none⟩)] w fun e w' => e = .returned (.int .i64 ((0 : Nat) : Int)) ∧ w = w' := by
  go_enter Try.func13, Try.ntmps13
  go_wp2
  go_ret
  exact ⟨rfl, rfl⟩
set_option maxRecDepth 4000 in
set_option maxHeartbeats 400000 in
theorem has10 (v : Option Addr) (n : Nat) (id : Int) (w : World) (HP : Hid (Calls Try.prog 13 #[.pointer v] w fun e w' => e = .returned (.int .i64 (n : Int)) ∧ w = w')) :
    Calls Try.prog 35 #[.pointer v, .int .i64 id] w fun e w' => e = .returned (.bool (decide (0 ≤ id ∧ id < (n : Int)))) ∧ w = w' := by
  by_cases h0 : 0 ≤ id
  · by_cases h1 : id < (n : Int)
    · rw [decide_eq_true (And.intro h0 h1)]
      go_enter Try.func35, Try.ntmps35
      go_wp2_with fail
      refine HP.out.mono ?_
      rintro e w1 ⟨rfl, rfl⟩
      go_wp2
      go_ret
      exact ⟨rfl, rfl⟩
    · rw [decide_eq_false (fun g => h1 g.2)]
      go_enter Try.func35, Try.ntmps35
      go_wp2_with fail
      refine HP.out.mono ?_
      rintro e w1 ⟨rfl, rfl⟩
      go_wp2
      go_ret
      exact ⟨by simp [h1], rfl⟩
  · rw [decide_eq_false (fun g => h0 g.1)]
    go_enter Try.func35, Try.ntmps35
    go_wp2
    go_ret
    exact ⟨rfl, rfl⟩
set_option maxRecDepth 4000 in
set_option maxHeartbeats 400000 in
theorem isNode10 (n : Int) (w : World) : Calls Try.prog 31 #[.int .i64 n] w fun e w' => e = .returned (.bool (decide (0 ≤ n ∧ n < 8))) ∧ w = w' := by
  by_cases h0 : 0 ≤ n
  · by_cases h1 : n < 8
    · rw [decide_eq_true (And.intro h0 h1)]
      go_enter Try.func31, Try.ntmps31
      go_wp2
      go_ret
      exact ⟨rfl, rfl⟩
    · rw [decide_eq_false (fun g => h1 g.2)]
      go_enter Try.func31, Try.ntmps31
      go_wp2
      go_ret
      exact ⟨rfl, rfl⟩
  · rw [decide_eq_false (fun g => h0 g.1)]
    go_enter Try.func31, Try.ntmps31
    go_wp2
    go_ret
    exact ⟨rfl, rfl⟩

theorem and12 : ∀ m : Nat, m < 16 → (bits BinOp.and IntKind.i64 (m : Int) 12 == 0) = decide (m < 4) := by decide +kernel
theorem and3 : ∀ m : Nat, m < 16 → (bits BinOp.and IntKind.i64 (m : Int) 3 == 3) = decide (m % 4 = 3) := by decide +kernel
set_option maxRecDepth 4000 in
set_option maxHeartbeats 400000 in
theorem isMask10 (m : Int) (w : World) : Calls Try.prog 36 #[.int .i64 m] w fun e w' => e = .returned (.bool (decide (maskOk m))) ∧ w = w' := by
  by_cases h0 : m < 0
  · rw [decide_eq_false (fun g => by omega)]
    go_enter Try.func36, Try.ntmps36
    go_wp2
    go_ret
    exact ⟨rfl, rfl⟩
  · by_cases h1 : 15 < m
    · rw [decide_eq_false (fun g => by omega)]
      go_enter Try.func36, Try.ntmps36
      go_wp2
      go_ret
      exact ⟨rfl, rfl⟩
    · obtain ⟨k, rfl⟩ := Int.eq_ofNat_of_zero_le (show 0 ≤ m by omega)
      have b1 := and12 k (by omega)
      have b2 := and3 k (by omega)
      have h0' : ¬ ((k : Int) < 0) := by omega
      have h1' : ¬ ((15 : Int) < (k : Int)) := by omega
      by_cases h2 : k < 4
      · rw [decide_eq_true h2] at b1
        rw [decide_eq_true (show maskOk (k : Int) by omega)]
        clear h0 h1 h2
        go_enter Try.func36, Try.ntmps36
        go_wp2
        go_ret
        exact ⟨rfl, rfl⟩
      · rw [decide_eq_false h2] at b1
        by_cases h3 : k % 4 = 3
        · rw [decide_eq_true h3] at b2
          rw [decide_eq_true (show maskOk (k : Int) by omega)]
          clear h0 h1 h2 h3
          go_enter Try.func36, Try.ntmps36
          go_wp2
          go_ret
          exact ⟨rfl, rfl⟩
        · rw [decide_eq_false h3] at b2
          rw [decide_eq_false (show ¬ maskOk (k : Int) by omega)]
          clear h0 h1 h2 h3
          go_enter Try.func36, Try.ntmps36
          go_wp2
          go_ret
          exact ⟨rfl, rfl⟩

/-- Out. -/
def Sc.outB (s : Sc) (n : Int) : Bool := decide (0 ≤ n ∧ n < 8) && s.out n.toNat
set_option maxRecDepth 4000 in
set_option maxHeartbeats 400000 in
theorem out10 (n : Int) (h : SAt w gs gp s) : Calls Try.prog 16 #[.pointer (some ⟨gs, 0, none⟩), .int .i64 n] w fun e w' => e = .returned (.bool (s.outB n)) ∧ w = w' := by
  obtain ⟨cs, ps, h⟩ := h
  unfold Sc.outB
  have R := isNode10 n w
  by_cases h0 : 0 ≤ n ∧ n < 8
  · obtain ⟨k, rfl⟩ := Int.eq_ofNat_of_zero_le h0.1
    have c1 := h.cout k (by omega)
    rw [decide_eq_true h0] at R ⊢
    have HR := hide R
    have i1 : (k : Int) < 8 := by omega
    clear R h
    simp only [Bool.true_and, Int.toNat_natCast]
    go_enter Try.func16, Try.ntmps16
    go_wp2_with fail
    refine HR.out.mono ?_
    rintro e w1 ⟨rfl, rfl⟩
    go_wp2
    go_ret
    exact ⟨rfl, rfl⟩
  · rw [decide_eq_false h0] at R ⊢
    have HR := hide R
    clear R h
    simp only [Bool.false_and]
    go_enter Try.func16, Try.ntmps16
    go_wp2_with fail
    refine HR.out.mono ?_
    rintro e w1 ⟨rfl, rfl⟩
    go_wp2
    go_ret
    exact ⟨rfl, rfl⟩
set_option maxRecDepth 4000 in
set_option maxHeartbeats 400000 in
theorem out10_nil (n : Int) (w : World) : Calls Try.prog 16 #[.pointer none, .int .i64 n] w fun e w' => e = .returned (.bool false) ∧ w = w' := by
  go_enter Try.func16, Try.ntmps16
  go_wp2
  go_ret
  exact ⟨rfl, rfl⟩

set_option maxRecDepth 4000 in
set_option maxHeartbeats 400000 in
theorem image10 (i : Nat) (hi : i < s.n) (h : SAt w gs gp s) : Calls Try.prog 23 #[.pointer (some ⟨gs, 0, none⟩), .int .i64 (i : Int)] w fun e w' => ∃ v, e = .returned (.tuple #[v, .int .i64 0]) ∧ w'.ownsRow w.heap.size 5 1 v 256 (toV (s.pl i)) ∧ Below w.heap.size w w' := by
  have R := has10 (some ⟨gs, 0, none⟩) s.n (i : Int) w (pages10 h)
  rw [decide_eq_true (by omega)] at R
  have HR := hide R
  obtain ⟨cs, ps, h⟩ := h
  have c0 := h.c0
  have HE := hide (h.pb.ext h.wf i hi)
  have HP := hide h.pr
  have HBy := hide (bytes10 (s.pl i) w (h.wf.pl i hi))
  have i1 : (i : Int) < (s.n : Int) := by omega
  clear R h
  go_enter Try.func23, Try.ntmps23
  go_wp2_with fail
  refine HR.out.mono ?_
  rintro e w1 ⟨rfl, rfl⟩
  go_wp2_with (refine wpList_load_part rfl 70 _ rfl gp (i * 256) 256 rfl 70 ps HP.out _ Try.underlying70 rfl infoPl HE.out.2 _ HE.out.1 ?_)
  refine HBy.out.mono ?_
  rintro e w2 ⟨v, rfl, ho, hb⟩
  have HO := hide (And.intro ho hb)
  clear ho hb
  go_wp2
  go_ret2
  exact ⟨_, rfl, HO.out⟩
set_option maxRecDepth 4000 in
set_option maxHeartbeats 400000 in
theorem image10_no (v : Option Addr) (n : Nat) (id : Int) (w : World) (HP : Hid (Calls Try.prog 13 #[.pointer v] w fun e w' => e = .returned (.int .i64 (n : Int)) ∧ w = w')) (hid : ¬ (0 ≤ id ∧ id < (n : Int))) :
    Calls Try.prog 23 #[.pointer v, .int .i64 id] w fun e w' => e = .returned (.tuple #[.slice none 0 0, .int .i64 1]) ∧ w = w' := by
  have R := has10 v n id w HP
  rw [decide_eq_false hid] at R
  have HR := hide R
  clear R HP
  go_enter Try.func23, Try.ntmps23
  go_wp2_with fail
  refine HR.out.mono ?_
  rintro e w1 ⟨rfl, rfl⟩
  go_wp2
  go_ret2
  exact ⟨rfl, rfl⟩
set_option maxRecDepth 4000 in
set_option maxHeartbeats 400000 in
theorem stamp10 (i : Nat) (hi : i < s.n) (h : SAt w gs gp s) : Calls Try.prog 38 #[.pointer (some ⟨gs, 0, none⟩), .int .i64 (i : Int)] w fun e w' => e = .returned (.int .u64 ((stampB (s.pl i)).1 : Nat)) ∧ Below w.heap.size w w' := by
  obtain ⟨cs, ps, h⟩ := h
  have c0 := h.c0
  have HE := hide (h.pb.ext h.wf i hi)
  have HP := hide h.pr
  have HBy := hide (bytes10 (s.pl i) w (h.wf.pl i hi))
  have i1 : (i : Int) < (s.n : Int) := by omega
  clear h
  go_enter Try.func38, Try.ntmps38
  go_wp2_with (refine wpList_load_part rfl 70 _ rfl gp (i * 256) 256 rfl 70 ps HP.out _ Try.underlying70 rfl infoPl HE.out.2 _ HE.out.1 ?_)
  refine HBy.out.mono ?_
  rintro e w2 ⟨v, rfl, ho, hb⟩
  obtain ⟨a2, cap2, rfl, hcap2, hB2⟩ := shape_isB ho
  have HS := hide (stamp_any a2 256 cap2 (s.pl i) w2 hB2 (by omega) hcap2)
  have HB := hide hb
  clear ho hb hB2 hcap2
  go_wp2_with fail
  refine HS.out.mono ?_
  rintro e w3 ⟨rfl, hb3⟩
  have HB3 := hide (HB.out.trans (hb3.mono HB.out.size))
  clear hb3 HB HS
  go_wp2
  go_ret
  exact ⟨rfl, HB3.out⟩
set_option maxRecDepth 4000 in
set_option maxHeartbeats 400000 in
theorem read10 (i : Nat) (hi : i < s.n) (h : SAt w gs gp s) : Calls Try.prog 17 #[.pointer (some ⟨gs, 0, none⟩), .int .i64 (i : Int)] w fun e w' => e = .returned (.tuple #[.agg (pgA (decP i (s.pl i))), .int .i64 (decE i (s.pl i))]) ∧ Below w.heap.size w w' := by
  have hb0 : Below w.heap.size w (w.alloc (.cells (pgA Pg.zero) 35)) := (Below.refl _ _).alloc (Nat.le_refl _) _
  have hP0 : PgAt (w.alloc (.cells (pgA Pg.zero) 35)) w.heap.size Pg.zero := heap_alloc_new w _
  have h1 := h.later hb0
  have R := has10 (some ⟨gs, 0, none⟩) s.n (i : Int) _ (pages10 h1)
  rw [decide_eq_true (by omega)] at R
  have HR := hide R
  obtain ⟨cs, ps, h⟩ := h1
  have c0 := h.c0
  have HE := hide (h.pb.ext h.wf i hi)
  have HP := hide h.pr
  have HBy := hide (bytes10 (s.pl i) (w.alloc (.cells (pgA Pg.zero) 35)) (h.wf.pl i hi))
  have i1 : (i : Int) < (s.n : Int) := by omega
  have H0 := hide (And.intro hb0 hP0)
  clear R h hb0 hP0
  go_enter Try.func17, Try.ntmps17
  go_wp2_with fail
  refine HR.out.mono ?_
  rintro e w1 ⟨rfl, rfl⟩
  go_wp2_with (refine wpList_load_part rfl 70 _ rfl gp (i * 256) 256 rfl 70 ps HP.out _ Try.underlying70 rfl infoPl HE.out.2 _ HE.out.1 ?_)
  refine HBy.out.mono ?_
  rintro e w2 ⟨v, rfl, ho, hb⟩
  obtain ⟨a2, cap2, rfl, hcap2, hB2⟩ := shape_isB ho
  have HS := hide (dec_any (i : Int) a2 256 cap2 (s.pl i) w2 hB2 (by omega) hcap2)
  have HB := hide (And.intro (H0.out.1.trans (hb.mono H0.out.1.size)) (H0.out.2.below hb (by simp)))
  clear ho hb hB2 hcap2 H0 HBy HR
  go_wp2_with fail
  refine HS.out.mono ?_
  rintro e w3 ⟨rfl, hb3⟩
  have HB3 := hide (And.intro (HB.out.1.trans (hb3.mono HB.out.1.size)) (HB.out.2.below hb3 (Array.getElem?_eq_some_iff.1 HB.out.2).1))
  clear hb3 HB HS
  obtain ⟨q, hq⟩ : ∃ q, decP i (s.pl i) = q := ⟨_, rfl⟩
  have HQ := hide hq
  clear hq
  rw [HQ.out]
  go_wp2_with (refine wpList_store_page rfl _ _ rfl w.heap.size Pg.zero q rfl rfl HB3.out.2 ?_)
  intro w4 hP4 hk
  have hb4 := hk _ _ HB3.out.1 (Nat.le_refl _)
  have HP4 := hide hP4
  clear hP4 hk HB3
  go_wp2
  exact bodyPost_ret (res_page rfl _ _ w.heap.size q rfl HP4.out) rfl ⟨by rw [HQ.out]; rfl, hb4⟩
set_option maxRecDepth 4000 in
set_option maxHeartbeats 400000 in
theorem read10_no (v : Option Addr) (n : Nat) (id : Int) (w : World) (HP : ∀ x, Below w.heap.size w x → Calls Try.prog 13 #[.pointer v] x fun e w' => e = .returned (.int .i64 (n : Int)) ∧ x = w') (hid : ¬ (0 ≤ id ∧ id < (n : Int))) :
    Calls Try.prog 17 #[.pointer v, .int .i64 id] w fun e w' => e = .returned (.tuple #[.agg (pgA Pg.zero), .int .i64 1]) ∧ Below w.heap.size w w' := by
  have hb0 : Below w.heap.size w (w.alloc (.cells (pgA Pg.zero) 35)) := (Below.refl _ _).alloc (Nat.le_refl _) _
  have hP0 : PgAt (w.alloc (.cells (pgA Pg.zero) 35)) w.heap.size Pg.zero := heap_alloc_new w _
  have R := has10 v n id _ (HP _ hb0)
  rw [decide_eq_false hid] at R
  have HR := hide R
  have H0 := hide (And.intro hb0 hP0)
  clear R HP hb0 hP0
  go_enter Try.func17, Try.ntmps17
  go_wp2_with fail
  refine HR.out.mono ?_
  rintro e w1 ⟨rfl, rfl⟩
  go_wp2_with (refine wpList_store_page rfl _ _ rfl w.heap.size Pg.zero Pg.zero rfl rfl H0.out.2 ?_)
  intro w4 hP4 hk
  have hb4 := hk _ _ H0.out.1 (Nat.le_refl _)
  have HP4 := hide hP4
  clear hP4 hk H0
  go_wp2
  exact bodyPost_ret (res_page rfl _ _ w.heap.size Pg.zero rfl HP4.out) rfl ⟨rfl, hb4⟩
end
end Go.Proofs.Ytfeghhgniahfkaa

/-
  The contract of package store's isUnderWay.
-/
namespace Go.Proofs.Ytfeghhgniahfkaa
open Go.RowKit
set_option linter.unusedVariables false

/-- An area by value. -/
def arA (b : List UInt8) (i : Int) (o : Bool) : Array Value := (arL b i o).toArray
theorem arA_size (b : List UInt8) (i : Int) (o : Bool) (h : b.length = 256) : (arA b i o).size = 258 := by
  unfold arA
  rw [List.size_toArray, arL_length b i o h]
theorem arA_one (b : List UInt8) (i : Int) (o : Bool) : (arA b i o).all (·.oneCell') = true := all_oneCell_toArray (fun v hv => by
  unfold arL at hv
  rcases List.mem_append.1 hv with h | h
  · exact toV_one b v h
  · simp at h
    rcases h with rfl | rfl <;> rfl)
theorem infoAr : (Try.prog.info? 72).map (·.size) = some 258 := by kernel_rfl
theorem infoAs : (Try.prog.info? 73).map (·.size) = some 2064 := by kernel_rfl
theorem zeroAr : Try.zeroCells72.size = 258 := by kernel_rfl
theorem SB.nth {cs : Array Value} {gp : Nat} {s : Sc} (h : SB cs gp s) (hw : s.wf) (m : Nat) (hm : m < 8) : (cs.extract 1 (1 + 2064)).extract (m * 258) (m * 258 + 258) = arA (s.ar m) (s.id m) (s.out m) := by
  have h1 := (h.ar m hm).ext 258 (arL_length _ _ _ (hw.ar m hm)) (by rw [h.size]; omega)
  unfold arA
  rw [← h1]
  apply Array.ext'
  apply List.ext_getElem?
  intro j
  rw [Array.getElem?_toList, Array.getElem?_toList, Array.getElem?_extract, Array.getElem?_extract, Array.size_extract, Array.getElem?_extract, h.size]
  by_cases hj : j < 258
  · rw [if_pos (by omega), if_pos (by omega), if_pos (by omega)]
    congr 1
    omega
  · rw [if_neg (by omega), if_neg (by omega)]

set_option maxRecDepth 4000 in
set_option maxHeartbeats 800000 in
theorem under10 {w : World} {gs gp : Nat} {s : Sc} (id : Int) (h : SAt w gs gp s) : Calls Try.prog 37 #[.pointer (some ⟨gs, 0, none⟩), .int .i64 id] w fun e w' => e = .returned (.bool (s.busy id)) ∧ Below w.heap.size w w' := by
  obtain ⟨cs, ps, h⟩ := h
  have HN := hide (fun m hm => h.sb.nth h.wf m hm)
  have HS := hide h.st
  have HZ := hide h.sb.size
  have HW := hide h.wf
  clear h
  obtain ⟨A, hA⟩ : ∃ A, A = cs.extract 1 (1 + 2064) := ⟨_, rfl⟩
  rw [← hA] at HN
  have HA := hide hA.symm
  clear hA
  go_enter Try.func37, Try.ntmps37
  go_wp2_with (refine wpList_load_part rfl 73 _ rfl gs 1 2064 rfl 75 cs HS.out _ Try.underlying73 rfl infoAs (by rw [HZ.out]; omega) A HA.out ?_)
  go_loopw [11] (fun i wr => ∃ j : Nat, j ≤ 8 ∧ i = .int .i64 j ∧ Below w.heap.size w wr ∧ ∀ m, m < j → ¬ (s.out m = true ∧ s.id m = id)) (fun i _ => 8 - (intOf i).toNat)
  case atStart => exact ⟨0, by omega, rfl, Below.refl _ _, fun m hm => absurd hm (by omega)⟩
  case round =>
    obtain ⟨j, hj, rfl, hb, hno⟩ := hrel
    have HB := hide hb
    have HNo := hide hno
    clear hb hno
    by_cases hlt : j < 8
    · have i1 : (j : Int) < 8 := by omega
      have HJ := hide (HN.out j hlt)
      have HL := hide (HW.out.ar j hlt)
      obtain ⟨b, hb⟩ : ∃ b, s.ar j = b := ⟨_, rfl⟩
      obtain ⟨o, hoo⟩ : ∃ o, s.out j = o := ⟨_, rfl⟩
      obtain ⟨i, hii⟩ : ∃ i, s.id j = i := ⟨_, rfl⟩
      rw [hb, hoo, hii] at HJ
      rw [hb] at HL
      have HE := hide (And.intro hoo hii)
      clear hoo hii hb
      go_wp2_with (first | (refine wpList_index_part rfl 73 _ _ rfl 72 8 258 j _ A rfl rfl Try.underlying73 Try.underlying72 rfl infoAr hlt ?_; rw [HJ.out]) | (refine wpList_store_at rfl 72 _ _ rfl wr.heap.size _ (arA b i o) rfl rfl (heap_alloc_new wr _) (by rw [arA_size _ _ _ HL.out]; exact infoAr) (by rw [arA_size _ _ _ HL.out]; exact zeroAr) (arA_one _ _ _) ?_))
      intro w6 hP6 hk _
      have HB6 := hide (hk _ _ (HB.out.alloc HB.out.size _) HB.out.size)
      have c1 := hP6.cell 256 (.int .i64 i) (by unfold arA; rw [List.getElem?_toArray]; exact arL_id b i o HL.out)
      have c2 := hP6.cell 257 (.bool o) (by unfold arA; rw [List.getElem?_toArray]; exact arL_out b i o HL.out)
      clear hP6 hk HB
      cases o with
      | true =>
        by_cases hi : i = id
        · have hi2 : (i == id) = true := by simpa using hi
          have HT := hide (show s.busy id = true from (s.busy_iff id).2 ⟨j, hlt, HE.out.1, HE.out.2.trans hi⟩)
          clear hi
          go_wp2
          go_ret
          exact ⟨by rw [HT.out]; rfl, HB6.out⟩
        · have hi2 : (i == id) = false := by simpa using hi
          have HNo2 := hide (show ∀ m, m < j + 1 → ¬ (s.out m = true ∧ s.id m = id) from fun m hm g => by
            by_cases e : m = j
            · rw [e, HE.out.2] at g
              exact hi g.2
            · exact HNo.out m (by omega) g)
          clear hi HNo
          go_wp2
          go_roundw
          case rel => exact ⟨j + 1, by omega, by go_num, HB6.out, HNo2.out⟩
          case measure => simp [intOf]; omega
      | false =>
        have HNo2 := hide (show ∀ m, m < j + 1 → ¬ (s.out m = true ∧ s.id m = id) from fun m hm g => by
          by_cases e : m = j
          · rw [e, HE.out.1] at g
            exact absurd g.1 (by decide)
          · exact HNo.out m (by omega) g)
        clear HNo
        go_wp2
        go_roundw
        case rel => exact ⟨j + 1, by omega, by go_num, HB6.out, HNo2.out⟩
        case measure => simp [intOf]; omega
    · obtain rfl : j = 8 := by omega
      have HT := hide (show s.busy id = false from by
        cases e : s.busy id with
        | false => rfl
        | true =>
          obtain ⟨m, h1, h2⟩ := (s.busy_iff id).1 e
          exact absurd h2 (HNo.out m h1))
      go_wp2
      go_ret
      exact ⟨by rw [HT.out]; rfl, HB.out⟩
end Go.Proofs.Ytfeghhgniahfkaa

/-
  A region that draws its order, walked by hand, operation by operation, each by its number and the slot that it writes. Of no program.
-/
namespace Go.Proofs.Ytfeghhgniahfkaa
open Go.RowKit
set_option linter.unusedVariables false

section
variable {P : Program} {md : Region.Mode} {ops : Array Oper} {Q : Exit → Act → World → Prop} {S : World → Prop} {fuel : Nat} {listed : Array Bool} {a : Act} {w : World} {o : Oper}

theorem hand_take (i : Nat) (d : Option Tmp) (v : Value) (hi : ops[i]? = some o) (hd : o.dst = d) (hs : Region.noSelect ops = true) (hf : Region.free md ops listed i = true) (hr : (Region.ready md ops listed).contains i = true)
    (hQ : ∀ c a w, Q (.panic c) (a.put d v) w → Q (.panic c) a w) (hy : YieldsIf P ops S o v a) (hS : S w)
    (h : wpAnyH P md ops Q S fuel (listed.setIfInBounds i true) (a.put d v) w) : wpAnyH P md ops Q S (fuel + 1) listed a w := by
  subst hd
  exact wpAnyH_take hi hs hf hr hQ hy hS h
theorem hand_one (i : Nat) (hr : Region.ready md ops listed = [i]) (h : wpOp P ops Q i (fun a' w' => S w' ∧ wpAnyH P md ops Q S fuel (listed.setIfInBounds i true) a' w') a w) : wpAnyH P md ops Q S (fuel + 1) listed a w :=
  wpAnyH_all hr (by simp) (fun k hk => by
    obtain rfl : k = i := by simpa using hk
    exact h)
theorem hand_two (i j : Nat) (hr : Region.ready md ops listed = [i, j]) (h : wpOp P ops Q i (fun a' w' => S w' ∧ wpAnyH P md ops Q S fuel (listed.setIfInBounds i true) a' w') a w) (h2 : wpOp P ops Q j (fun a' w' => S w' ∧ wpAnyH P md ops Q S fuel (listed.setIfInBounds j true) a' w') a w) : wpAnyH P md ops Q S (fuel + 1) listed a w :=
  wpAnyH_all hr (by simp) (fun k hk => by
    rcases List.mem_cons.1 hk with rfl | hk
    · exact h
    · obtain rfl : k = j := by simpa using hk
      exact h2)
variable {K : Act → World → Prop} {i : Nat}
theorem hand_call (d : Option Tmp) (ho : ops[i]? = some o) (hd : o.dst = d) (hg : o.guard = none) (f : FuncId) (args : Array Value) (he : (execOp a.eval o).run P w = .ok (.enter f args) w)
    (hc : Calls P f args w fun e w' => ∃ v, e = .returned v ∧ K (a.put d v) w') : wpOp P ops Q i K a w := by
  subst hd
  exact wpOp_step ho (fun K' hK => step_call10 hg f args he (hc.mono fun e w' ⟨v, h1, h2⟩ => ⟨v, h1, hK _ _ h2⟩))
/-- An operation by what it answers. -/
theorem hand_run (d : Option Tmp) (ho : ops[i]? = some o) (hd : o.dst = d) (hg : o.guard = none) (v : Value) (w' : World) (he : (execOp a.eval o).run P w = .ok (.value v) w') (h : K (a.put d v) w') : wpOp P ops Q i K a w := by
  subst hd
  refine wpOp_step ho (fun K' hK => ?_)
  have hw : Region.wanted o (yielded ops a.tmps) = true := by simp [Region.wanted, hg]
  rw [if_pos hw]
  unfold Oper.wp
  rw [he]
  exact hK _ _ h
theorem hand_store (ho : ops[i]? = some o) (hd : o.dst = none) (hg : o.guard = none) (ty : TypeId) (x y : Operand) (hop : o.op = .store ty x y) (g off : Nat) (t : TypeId) (c0 cs : Array Value) (hx : a.eval x = .pointer (some ⟨g, off, none⟩)) (hy : a.eval y = .agg cs) (hr : RowAt w g t c0)
    (hi : (P.info? ty).map (·.size) = some cs.size) (hf : off + cs.size ≤ c0.size) (h1 : cs.all (·.oneCell') = true) (h : ∀ w2, RowAt w2 g t (partA c0 off cs.toList) → Only g w w2 → K a w2) : wpOp P ops Q i K a w := by
  refine wpOp_step ho (fun K' hK => ?_)
  refine step_store_part hg ty x y hop g off t c0 cs hx hy hr hi hf h1 (fun w2 h2 h3 => ?_)
  rw [hd]
  exact hK _ _ (h w2 h2 h3)
theorem exec_load (ty : TypeId) (x : Operand) (ho : o.op = .load ty x) (u : Value) (hu : a.eval x = u) (v : Value) (hv : (Instr.loadAt ty u).run P w = .ok v w) : (execOp a.eval o).run P w = .ok (.value v) w := by
  unfold execOp
  simp only [ho, hu, Sem.run_bind, hv, Result.andThen_ok, Sem.run_pure]
/-- A whole row stored anew. -/
theorem partA_all (c0 cs : Array Value) (h : c0.size = cs.size) : partA c0 0 cs.toList = cs := by
  unfold partA
  rw [List.take_zero, List.nil_append, Array.length_toList, Nat.zero_add, List.drop_of_length_le (by rw [Array.length_toList]; omega), List.append_nil, Array.toArray_toList]
end
end Go.Proofs.Ytfeghhgniahfkaa

/-
  The contract of package store's New.
-/
namespace Go.Proofs.Ytfeghhgniahfkaa
open Go.RowKit
set_option linter.unusedVariables false

/-- The store's block at the beginning. -/
def stZ (v : Value) : Array Value := (v :: (List.replicate 8 (arL (List.replicate 256 0) 0 false)).flatten).toArray
theorem zero66 (v : Value) : Try.zeroCells75.setIfInBounds 0 v = stZ v := by kernel_rfl
theorem stZ_size (v : Value) : (stZ v).size = 2065 := by kernel_rfl
theorem flat_get (c : List Value) (n : Nat) (hc : c.length = n) : ∀ k m j, m < k → j < n → ((List.replicate k c).flatten)[m * n + j]? = c[j]?
  | 0, m, j, hm, _ => absurd hm (by omega)
  | k + 1, 0, j, _, hj => by
    rw [List.replicate_succ, List.flatten_cons, Nat.zero_mul, Nat.zero_add, List.getElem?_append_left (by omega)]
  | k + 1, m + 1, j, hm, hj => by
    rw [List.replicate_succ, List.flatten_cons, List.getElem?_append_right (by rw [hc, Nat.succ_mul]; omega), hc, Nat.succ_mul, show m * n + n + j - n = m * n + j by omega]
    exact flat_get c n hc k m j (by omega) hj
/-- The store behind so many rounds. -/
def Sc.newJ (k j : Nat) : Sc := ⟨k, fun i => if i < j then imageB i Pg.zero else List.replicate 256 0, fun _ => List.replicate 256 0, fun _ => 0, fun _ => false⟩
theorem stZ_sb (gp k : Nat) (s : Sc) (h1 : s.n = k) (h2 : s.ar = fun _ => List.replicate 256 0) (h3 : s.id = fun _ => 0) (h4 : s.out = fun _ => false) : SB (stZ (.slice (some ⟨gp, 0, none⟩) k k)) gp s := by
  refine ⟨stZ_size _, ?_, fun m hm => ?_⟩
  · rw [h1]
    unfold stZ
    rw [List.getElem?_toArray, List.getElem?_cons_zero]
  rw [h2, h3, h4]
  show Lies _ _ (arL (List.replicate 256 0) 0 false)
  intro j hj
  have hl : (arL (List.replicate 256 0) 0 false).length = 258 := arL_length _ _ _ List.length_replicate
  rw [hl] at hj
  have h5 := flat_get (arL (List.replicate 256 0) 0 false) 258 hl 8 m j hm hj
  unfold stZ
  rw [List.getElem?_toArray, show 1 + m * 258 + j = (m * 258 + j) + 1 by omega, List.getElem?_cons_succ, h5]
theorem newJ_wf (k j : Nat) (h : k ≤ 32) : (Sc.newJ k j).wf := by
  refine ⟨h, fun i hi => ?_, fun m _ => List.length_replicate, fun m _ ho => absurd ho (by show ¬ false = true; decide)⟩
  show (if i < j then imageB i Pg.zero else List.replicate 256 0).length = 256
  split
  · exact imageB_length i _ zero_right
  · exact List.length_replicate
theorem infoZ : (Try.prog.info? 70).map (fun i => (i.zero, i.size, i.bytes)) = some (some (.agg (zrow 256).toArray), 256, 256) := by kernel_rfl
theorem agg_cells (z : Array Value) : (Value.agg z).cells = z := rfl
/-- The row of places that was made. -/
def mdP (k : Nat) : Array Value := madeCells (zrow 256).toArray (k * 256)
theorem mdP_eq (k : Nat) (z : Value) (hz : z = .agg (zrow 256).toArray) : madeCells z.cells (k * 256) = mdP k := by
  rw [hz]
  exact congrArg (fun z => madeCells z (k * 256)) (agg_cells _)
theorem zget (n m : Nat) (h : m < n) : (zrow n).toArray[m]! = .int .u8 0 := by
  rw [getElem!_pos _ _ (by simpa [zrow] using h)]
  simp [zrow]
theorem mdP_pb (k : Nat) : PB (mdP k) (Sc.newJ k 0) := by
  refine ⟨size_madeCells _ _, fun i hi => ?_⟩
  have e : (Sc.newJ k 0).pl i = List.replicate 256 0 := by
    show (if i < 0 then imageB i Pg.zero else List.replicate 256 0) = _
    rw [if_neg (by omega)]
  rw [e]
  intro j hj
  rw [toV_length, List.length_replicate] at hj
  have hi' : i < k := hi
  have h1 : i * 256 + j < k * 256 := by omega
  have h2 : (toV (List.replicate 256 0))[j]? = some (.int .u8 0) := by
    rw [← toV_zeros]
    unfold zrow
    rw [List.getElem?_replicate, if_pos hj]
  rw [h2]
  unfold mdP madeCells
  rw [Array.getElem?_map, Array.getElem?_range, if_pos h1, Option.map_some]
  have hz : (zrow 256).toArray.size = 256 := by rw [List.size_toArray, zrow_length]
  rw [hz]
  exact congrArg some (zget 256 _ (Nat.mod_lt _ (by omega)))
theorem run_mkP (k : Nat) (h : k ≤ 32) (w : World) : (Instr.makeSlice 66 (.int .i64 (k : Int)) (.int .i64 (k : Int))).run Try.prog w = .ok (.slice (some ⟨w.heap.size, 0, none⟩) k k) (w.alloc (.cells (mdP k) 70)) := by
  obtain ⟨z, hz0⟩ : ∃ z : Value, z = .agg (zrow 256).toArray := ⟨_, rfl⟩
  have hI := infoZ
  rw [← hz0] at hI
  obtain ⟨i, hi, hz, hs, hb⟩ := info_parts hI
  have hr := run_make (P := Try.prog) w 66 70 i z Try.underlying66 hi hz .i64 .i64 (k : Int) (k : Int) (by omega) (by omega) (by rw [hb]; omega) (by omega)
  rw [Int.toNat_natCast, hs, mdP_eq k z hz0] at hr
  exact hr
theorem newJ_more (k j : Nat) (hj : j < k) : { Sc.newJ k j with pl := put1 (Sc.newJ k j).pl j (imageB j Pg.zero) } = Sc.newJ k (j + 1) := by
  have e : put1 (Sc.newJ k j).pl j (imageB j Pg.zero) = (Sc.newJ k (j + 1)).pl := by
    funext i
    show put1 _ j _ i = if i < j + 1 then _ else _
    by_cases h : i = j
    · rw [h, put1_same, if_pos (by omega)]
    · rw [put1_other _ _ _ _ h]
      show (if i < j then _ else _) = _
      by_cases h2 : i < j
      · rw [if_pos h2, if_pos (by omega)]
      · rw [if_neg h2, if_neg (by omega)]
  rw [e]
  rfl
theorem newJ_done (k : Nat) (w : World) (gs gp : Nat) (h : SAt w gs gp (Sc.newJ k k)) : SAt w gs gp (Sc.new k) := by
  obtain ⟨cs, ps, h⟩ := h
  refine ⟨cs, ps, h.st, h.sb.other _ rfl rfl rfl rfl, h.pr, ⟨h.pb.size, fun i hi => ?_⟩, (Sc.new_ok k h.wf.n).wf⟩
  have h1 := h.pb.pl i hi
  have e : (Sc.newJ k k).pl i = imageB i Pg.zero := if_pos hi
  rw [e] at h1
  exact h1

def npg (p : Int) : Nat := (max 1 (min p 32)).toNat
theorem npg_le (p : Int) : 1 ≤ npg p ∧ npg p ≤ 32 := by unfold npg; omega

set_option maxRecDepth 4000 in
set_option maxHeartbeats 800000 in
theorem new10_go (p : Int) (k : Nat) (w : World) (hk : k ≤ 32) (hk1 : 1 ≤ k) (q : Int) (hq : (if p < 1 then 1 else p) = q) (hp : (if 32 < q then 32 else q) = (k : Int)) :
    Calls Try.prog 9 #[.int .i64 p] w fun e w' => e = .returned (.pointer (some ⟨w.heap.size + 1, 0, none⟩)) ∧ SAt w' (w.heap.size + 1) w.heap.size (Sc.new k) ∧ Below w.heap.size w w' := by
  have hmk := fun w => run_mkP k hk w
  have hs0 := stZ_sb w.heap.size k (Sc.newJ k 0) rfl rfl rfl rfl
  have H0 : Hid (SAt ((w.alloc (.cells (mdP k) 70)).alloc (.cells (stZ (.slice (some ⟨w.heap.size, 0, none⟩) k k)) 75)) (w.heap.size + 1) w.heap.size (Sc.newJ k 0) ∧ Below w.heap.size w ((w.alloc (.cells (mdP k) 70)).alloc (.cells (stZ (.slice (some ⟨w.heap.size, 0, none⟩) k k)) 75))) := by
    have h1 := RowAt.new w 70 (mdP k)
    have h2 := RowAt.new (w.alloc (.cells (mdP k) 70)) 75 (stZ (.slice (some ⟨w.heap.size, 0, none⟩) k k))
    rw [World.size_alloc] at h2
    exact ⟨⟨_, _, h2, hs0, h1.later ((Below.refl _ _).alloc (Nat.le_refl _) _), mdP_pb k, newJ_wf k 0 hk⟩, ((Below.refl _ _).alloc (Nat.le_refl _) _).alloc (by rw [World.size_alloc]; omega) _⟩
  clear hs0
  go_enter Try.func9, Try.ntmps9
  go_wp2_with fail
  rw [zero66]
  refine gen_wp (fun x => Hid (SAt x (w.heap.size + 1) w.heap.size (Sc.newJ k 0) ∧ Below w.heap.size w x)) H0 ?_
  clear H0
  intro w0 H0
  generalize stZ (.slice (some ⟨w.heap.size, 0, none⟩) k k) = Z0
  clear hq hp hmk
  go_loopw [18] (fun i wr => ∃ j : Nat, j ≤ k ∧ i = .int .i64 j ∧ SAt wr (w.heap.size + 1) w.heap.size (Sc.newJ k j) ∧ Below w.heap.size w wr) (fun i _ => k - (intOf i).toNat)
  case atStart => exact ⟨0, by omega, rfl, H0.out⟩
  case round =>
    obtain ⟨j, hj, rfl, hr⟩ := hrel
    have HR := hide hr
    clear hr H0
    by_cases hlt : j < k
    · have i1 : (j : Int) < (k : Int) := by omega
      obtain ⟨im, him⟩ : ∃ im, imageB j Pg.zero = im := ⟨_, rfl⟩
      have hE := enc_right j Pg.zero wr (by omega) zero_right
      have hil := imageB_length j _ zero_right
      rw [him] at hE hil
      have HIM := hide him
      have HE := hide hE
      clear hE him
      go_wp2_with fail
      refine HE.out.mono ?_
      rintro e w1 ⟨v1, rfl, ho1, hb1⟩
      obtain ⟨g1, cap1, rfl, hg1⟩ := own_slice ho1 (by omega)
      have hB1 := ho1.isB hil
      have hc1 := own_cap ho1
      have HR1 := hide (And.intro (HR.out.1.later hb1) (HR.out.2.trans (hb1.mono HR.out.2.size)))
      have HB1 := hide hB1
      clear ho1 hb1 hB1 HR HE hg1
      obtain ⟨cs, ps, hS⟩ := HR1.out.1
      have c0 : w1.cell? ⟨w.heap.size + 1, 0, none⟩ = some (.slice (some ⟨w.heap.size, 0, none⟩) k k) := hS.c0
      have HS := hide hS
      clear hS
      go_wp2_with fail
      refine wp_region_noPanic ?_
      refine wp_region_held_drew (S := fun x => x.cell? ⟨w.heap.size + 1, 0, none⟩ = some (.slice (some ⟨w.heap.size, 0, none⟩) k k)) (by kernel_rfl) (c0) (fun hHeld => ?_)
      refine hand_take 0 (some 27) (.pointer (some ⟨w.heap.size + 1, 0, none⟩)) rfl rfl (by kernel_rfl) (by kernel_rfl) (by kernel_rfl) (fun _ _ _ h => h) (Or.inl ⟨by kernel_rfl, fun x hSx => by go_simp⟩) hHeld ?_
      try simp only [Act.put, List.setIfInBounds_toArray, List.set_cons_zero, List.set_cons_succ]
      refine hand_take 1 (some 28) (.pointer (some ⟨w.heap.size + 1, 0, none⟩)) rfl rfl (by kernel_rfl) (by kernel_rfl) (by kernel_rfl) (fun _ _ _ h => h) (Or.inl ⟨by kernel_rfl, fun x hSx => by go_simp⟩) hHeld ?_
      try simp only [Act.put, List.setIfInBounds_toArray, List.set_cons_zero, List.set_cons_succ]
      refine hand_take 2 (some 29) (.pointer (some ⟨w.heap.size + 1, 0, none⟩)) rfl rfl (by kernel_rfl) (by kernel_rfl) (by kernel_rfl) (fun _ _ _ h => h) (Or.inl ⟨by kernel_rfl, fun x hSx => by go_simp⟩) hHeld ?_
      try simp only [Act.put, List.setIfInBounds_toArray, List.set_cons_zero, List.set_cons_succ]
      refine hand_take 3 (some 30) (.slice (some ⟨w.heap.size, 0, none⟩) k k) rfl rfl (by kernel_rfl) (by kernel_rfl) (by kernel_rfl) (fun _ _ _ h => h) (Or.inl ⟨by kernel_rfl, fun x hSx => by go_simp⟩) hHeld ?_
      try simp only [Act.put, List.setIfInBounds_toArray, List.set_cons_zero, List.set_cons_succ]
      refine hand_take 4 (some 31) (.int .i64 (j : Int)) rfl rfl (by kernel_rfl) (by kernel_rfl) (by kernel_rfl) (fun _ _ _ h => h) (Or.inl ⟨by kernel_rfl, fun x hSx => by go_simp⟩) hHeld ?_
      try simp only [Act.put, List.setIfInBounds_toArray, List.set_cons_zero, List.set_cons_succ]
      refine hand_take 5 (some 32) (.slice (some ⟨g1, 0, none⟩) 256 cap1) rfl rfl (by kernel_rfl) (by kernel_rfl) (by kernel_rfl) (fun _ _ _ h => h) (Or.inl ⟨by kernel_rfl, fun x hSx => by go_simp⟩) hHeld ?_
      try simp only [Act.put, List.setIfInBounds_toArray, List.set_cons_zero, List.set_cons_succ]
      refine hand_one 6 (by kernel_rfl) ?_
      refine hand_call (some 33) rfl rfl rfl 26 #[.slice (some ⟨g1, 0, none⟩) 256 cap1] ?he ((placeOf10 g1 0 cap1 im w1.drew HB1.out hc1).mono ?_)
      (case he => go_simp)
      rintro e w2 ⟨rfl, hb2⟩
      have hb2' : Below w1.heap.size w1 w2 := ⟨hb2.1, hb2.2, hb2.3, hb2.4, hb2.5⟩
      have hS2 := HS.out.later hb2'
      refine ⟨_, rfl, ?_⟩
      refine ⟨hS2.c0, ?_⟩
      try simp only [Act.put, List.setIfInBounds_toArray, List.set_cons_zero, List.set_cons_succ]
      have hHeld := (show w2.cell? ⟨w.heap.size + 1, 0, none⟩ = some (.slice (some ⟨w.heap.size, 0, none⟩) k k) from hS2.c0)
      refine hand_take 7 (some 34) (.pointer (some ⟨w.heap.size, j * 256, none⟩)) rfl rfl (by kernel_rfl) (by kernel_rfl) (by kernel_rfl) (fun _ _ _ h => h) (Or.inl ⟨by kernel_rfl, fun x hSx => by go_simp⟩) hHeld ?_
      try simp only [Act.put, List.setIfInBounds_toArray, List.set_cons_zero, List.set_cons_succ]
      refine hand_one 8 (by kernel_rfl) ?_
      refine hand_store rfl rfl rfl 70 (.tmp 34) (.tmp 33) rfl w.heap.size (j * 256) 70 ps (plA im) rfl rfl hS2.pr (infoPl' _ hil) (by rw [plA_size, hil, hS2.pb.size]; have : (Sc.newJ k j).n = k := rfl; rw [this]; omega) (plA_one _) ?_
      intro w3 h31 h32
      have hS3 : SV w3 (w.heap.size + 1) w.heap.size (Sc.newJ k (j + 1)) cs (partA ps (j * 256) (toV im)) := by
        have hq := hS2.pb.put hS2.wf j hlt im hil
        rw [← HIM.out, newJ_more k j hlt, HIM.out] at hq
        exact ⟨h32.row hS2.st (by omega), hS2.sb.other _ rfl rfl rfl rfl, h31, hq, newJ_wf k (j + 1) hk⟩
      have HR3 := hide (And.intro (show SAt w3 (w.heap.size + 1) w.heap.size (Sc.newJ k (j + 1)) from ⟨_, _, hS3⟩) (h32.below (HR1.out.2.trans (hb2'.mono HR1.out.2.size)) (Nat.le_refl _)))
      refine ⟨hS3.c0, ?_⟩
      try simp only [Act.put, List.setIfInBounds_toArray, List.set_cons_zero, List.set_cons_succ]
      refine wpAnyH_done (by kernel_rfl) ?_ _
      refine NoPanic.normal ?_
      clear hHeld hS3 h31 h32 hS2 hb2 hb2' HR1 HB1 HS c0
      go_wp2
      go_roundw
      case rel => exact ⟨j + 1, by omega, by go_num, HR3.out⟩
      case measure => simp [intOf]; omega
    · obtain rfl : j = k := by omega
      have HF := hide (And.intro (newJ_done _ _ _ _ HR.out.1) HR.out.2)
      clear HR
      go_wp2
      go_ret
      exact ⟨rfl, HF.out⟩
theorem new10 (p : Int) (w : World) :
    Calls Try.prog 9 #[.int .i64 p] w fun e w' => e = .returned (.pointer (some ⟨w.heap.size + 1, 0, none⟩)) ∧ SAt w' (w.heap.size + 1) w.heap.size (Sc.new (npg p)) ∧ Below w.heap.size w w' := by
  have h := npg_le p
  refine new10_go p (npg p) w h.2 h.1 _ rfl ?_
  unfold npg
  split <;> split <;> omega
end Go.Proofs.Ytfeghhgniahfkaa

/-
  A region that draws its order, walked once, in a class of worlds of our own: of no program.
-/
namespace Go.Proofs.Ytfeghhgniahfkaa
open Go.RowKit
set_option linter.unusedVariables false

section
variable {P : Program} {ops : Array Oper} {C : World → Prop} {Q : Act → Prop} {a : Act} {o : Oper} {rest : List Oper}

theorem wp_region_in {id : Nat} {Q : Exit → Act → World → Prop} {a : Act} {w : World} {l : List Oper} (C : World → Prop) (hm : P.follows .mixedOrders = true) (hB : Region.lexB .any l.toArray = true) (hC : C w.drew)
    (h : wpQuiet P l.toArray C (fun a' => ∀ w', C w' → Q .normal a' w') l a) : (Code.region id l.toArray true).wp P Q a w :=
  wp_region_quiet (C := C) hm hB hC (by simpa using h)

/-- An operation that only reads: its value in every world of the class. -/
theorem wpQuiet_val (hw : Region.wanted o (yielded ops a.tmps) = true) (v : Value) (hv : ∀ x, C x → (execOp a.eval o).run P x = .ok (.value v) x) (h : wpQuiet P ops C Q rest (a.put o.dst v)) : wpQuiet P ops C Q (o :: rest) a :=
  BigFrame.wpQuiet_want hw fun K hK => ⟨v, fun x hx => by unfold Oper.quietAt; rw [hv x hx]; exact ⟨rfl, rfl⟩, hK _ h⟩

theorem wpQuiet_convert (hw : Region.wanted o (yielded ops a.tmps) = true) (s t : TypeId) (x : Operand) (ho : o.op = .convert s t x) (u v : Value) (hu : a.eval x = u) (hv : ∀ y, C y → (convert s t u).run P y = .ok v y)
    (h : wpQuiet P ops C Q rest (a.put o.dst v)) : wpQuiet P ops C Q (o :: rest) a :=
  wpQuiet_val hw v (fun y hy => by unfold execOp; simp only [ho, hu, Sem.run_bind, hv y hy, Result.andThen_ok, Sem.run_pure]) h

theorem wpQuiet_load (hw : Region.wanted o (yielded ops a.tmps) = true) (t : TypeId) (x : Operand) (ho : o.op = .load t x) (u v : Value) (hu : a.eval x = u) (hv : ∀ y, C y → (Instr.loadAt t u).run P y = .ok v y)
    (h : wpQuiet P ops C Q rest (a.put o.dst v)) : wpQuiet P ops C Q (o :: rest) a :=
  wpQuiet_val hw v (fun y hy => by unfold execOp; simp only [ho, hu, Sem.run_bind, hv y hy, Result.andThen_ok, Sem.run_pure]) h

theorem wpQuiet_binop (hw : Region.wanted o (yielded ops a.tmps) = true) (op : BinOp) (t r : TypeId) (x y : Operand) (ho : o.op = .binOp op t x y r) (u v z : Value) (hu : a.eval x = u) (hv : a.eval y = v) (hg : ∀ w, (eqGuard op t x y u v).run P w = .ok () w)
    (hz : ∀ w, (binOp op t u v).run P w = .ok z w) (h : wpQuiet P ops C Q rest (a.put o.dst z)) : wpQuiet P ops C Q (o :: rest) a :=
  wpQuiet_val hw z (fun w hw => by unfold execOp; simp only [ho, hu, hv, Sem.run_bind, hg w, hz w, Result.andThen_ok, Sem.run_pure]) h
/-- An operation that no world plays a part in. -/
theorem wpQuiet_plain (hw : Region.wanted o (yielded ops a.tmps) = true) (h : ∀ K : Act → Prop, (∀ a, wpQuiet P ops C Q rest a → K a) → ∃ v, (∀ x : World, (execOp a.eval o).run P x = .ok (.value v) x) ∧ K (a.put o.dst v)) : wpQuiet P ops C Q (o :: rest) a := by
  obtain ⟨v, h1, h2⟩ := h _ (fun _ h => h)
  exact wpQuiet_val hw v (fun x _ => h1 x) h2

/-- A call that leaves a world of the class. -/
theorem wpQuiet_call (hw : Region.wanted o (yielded ops a.tmps) = true) (f : FuncId) (args : Array Value) (v : Value) (he : ∀ x : World, (execOp a.eval o).run P x = .ok (.enter f args) x) (hc : ∀ x, C x → Calls P f args x fun e x' => e = .returned v ∧ C x')
    (h : wpQuiet P ops C Q rest (a.put o.dst v)) : wpQuiet P ops C Q (o :: rest) a :=
  BigFrame.wpQuiet_want hw fun K hK => ⟨v, fun x hx => by unfold Oper.quietAt; rw [he x]; exact ⟨rfl, hc x hx⟩, hK _ h⟩
end
end Go.Proofs.Ytfeghhgniahfkaa

/-
  The contract of package store's Write: where it refuses.
-/
namespace Go.Proofs.Ytfeghhgniahfkaa
open Go.RowKit
set_option linter.unusedVariables false

/-- What the store's calls may turn. -/
def FS (gs gp k : Nat) : Prop := k = gs ∨ k = gp
theorem load10_b {b j : Nat} (x : World) (v : Bool) (h : x.cell? ⟨b, j, none⟩ = some (.bool v)) : (Instr.loadAt 4 (.pointer (some ⟨b, j, none⟩))).run Try.prog x = .ok (.bool v) x := by
  go_simp
theorem load10_u {b j : Nat} (x : World) (v : Int) (h : x.cell? ⟨b, j, none⟩ = some (.int .u64 v)) : (Instr.loadAt 30 (.pointer (some ⟨b, j, none⟩))).run Try.prog x = .ok (.int .u64 v) x := by
  go_simp

set_option maxRecDepth 4000 in
set_option maxHeartbeats 800000 in
theorem write10_arg (v : Option Addr) (n : Nat) (node id : Int) (p : Pg) (mask : Int) (w : World) (HP : ∀ x, Below w.heap.size w x → Calls Try.prog 13 #[.pointer v] x fun e w' => e = .returned (.int .i64 (n : Int)) ∧ x = w')
    (hbad : ¬ ((0 ≤ node ∧ node < 8) ∧ (0 ≤ id ∧ id < (n : Int)) ∧ maskOk mask)) :
    Calls Try.prog 15 #[.pointer v, .int .i64 node, .int .i64 id, .agg (pgA p), .int .i64 mask] w fun e w' => e = .returned (.int .i64 1) ∧ Below w.heap.size w w' := by
  have hb0 : Below w.heap.size w (w.alloc (.cells (pgA p) 35)) := (Below.refl _ _).alloc (Nat.le_refl _) _
  have N := fun w => isNode10 node w
  have H := has10 v n id _ (HP _ hb0)
  have M := fun w => isMask10 mask w
  by_cases h1 : 0 ≤ node ∧ node < 8
  · by_cases h2 : 0 ≤ id ∧ id < (n : Int)
    · have h3 : ¬ maskOk mask := fun g => hbad ⟨h1, h2, g⟩
      rw [decide_eq_true h1] at N
      rw [decide_eq_true h2] at H
      rw [decide_eq_false h3] at M
      have HN := hide N
      have HH := hide H
      have HM := hide M
      clear N H M h1 h2 h3 hbad HP
      go_enter Try.func15, Try.ntmps15
      go_wp2_with fail
      refine (HN.out _).mono ?_
      rintro e w1 ⟨rfl, rfl⟩
      go_wp2_with fail
      refine HH.out.mono ?_
      rintro e w1 ⟨rfl, rfl⟩
      go_wp2_with fail
      refine (HM.out _).mono ?_
      rintro e w1 ⟨rfl, rfl⟩
      go_wp2
      go_ret
      exact ⟨rfl, hb0⟩
    · rw [decide_eq_true h1] at N
      rw [decide_eq_false h2] at H
      have HN := hide N
      have HH := hide H
      clear N H M h1 h2 hbad HP
      go_enter Try.func15, Try.ntmps15
      go_wp2_with fail
      refine (HN.out _).mono ?_
      rintro e w1 ⟨rfl, rfl⟩
      go_wp2_with fail
      refine HH.out.mono ?_
      rintro e w1 ⟨rfl, rfl⟩
      go_wp2
      go_ret
      exact ⟨rfl, hb0⟩
  · rw [decide_eq_false h1] at N
    have HN := hide N
    clear N H M h1 hbad HP
    go_enter Try.func15, Try.ntmps15
    go_wp2_with fail
    refine (HN.out _).mono ?_
    rintro e w1 ⟨rfl, rfl⟩
    go_wp2
    go_ret
    exact ⟨rfl, hb0⟩

section
variable {gs gp : Nat} {s : Sc} (nd i : Nat) (p : Pg) (mask : Int) (w : World)
set_option maxRecDepth 4000 in
set_option maxHeartbeats 800000 in
theorem write10_wrong (h : SAt w gs gp s) (hn : nd < 8) (hi : i < s.n) (hm : maskOk mask) (hp : ¬ p.right) :
    Calls Try.prog 15 #[.pointer (some ⟨gs, 0, none⟩), .int .i64 (nd : Int), .int .i64 (i : Int), .agg (pgA p), .int .i64 mask] w fun e w' => e = .returned (.int .i64 1) ∧ Below w.heap.size w w' := by
  have hb0 : Below w.heap.size w (w.alloc (.cells (pgA p) 35)) := (Below.refl _ _).alloc (Nat.le_refl _) _
  have hP0 : PgAt (w.alloc (.cells (pgA p) 35)) w.heap.size p := heap_alloc_new w _
  have N := fun w => isNode10 nd w
  have H := has10 (some ⟨gs, 0, none⟩) s.n (i : Int) _ (pages10 (h.later hb0))
  have M := fun w => isMask10 mask w
  rw [decide_eq_true (by omega)] at N
  rw [decide_eq_true (by omega)] at H
  rw [decide_eq_true hm] at M
  have HN := hide N
  have HH := hide H
  have HM := hide M
  have HP := hide hP0
  have HE := hide (fun w => enc_wrong (i : Int) p w (by have := h.wf.n; omega) hp)
  clear N H M hP0 hm
  go_enter Try.func15, Try.ntmps15
  go_wp2_with fail
  refine (HN.out _).mono ?_
  rintro e w1 ⟨rfl, rfl⟩
  go_wp2_with fail
  refine HH.out.mono ?_
  rintro e w1 ⟨rfl, rfl⟩
  go_wp2_with fail
  refine (HM.out _).mono ?_
  rintro e w1 ⟨rfl, rfl⟩
  go_wp2_with (refine wpList_load_page rfl _ rfl w.heap.size rfl p HP.out ?_)
  refine (HE.out _).mono ?_
  rintro e w1 ⟨rfl, hb1⟩
  have d1 := hb0.trans (hb1.mono hb0.size)
  clear hb0 hb1
  go_wp2
  go_ret
  exact ⟨rfl, d1⟩

/-- What is kept while Write looks. -/
def Look (w : World) (gs gp : Nat) (s : Sc) (p : Pg) (x : World) : Prop := SAt x gs gp s ∧ PgAt x w.heap.size p ∧ Below w.heap.size w x
theorem Look.later {w x y : World} {gs gp : Nat} {s : Sc} {p : Pg} (h : Look w gs gp s p x) (hb : Below x.heap.size x y) : Look w gs gp s p y :=
  ⟨h.1.later hb, h.2.1.below hb (Array.getElem?_eq_some_iff.1 h.2.1).1, h.2.2.trans (hb.mono h.2.2.size)⟩
theorem SAt.cout {x : World} {gs gp : Nat} {s : Sc} (h : SAt x gs gp s) (m : Nat) (hm : m < 8) : x.cell? ⟨gs, 1 + m * 258 + 257, none⟩ = some (.bool (s.out m)) := by
  obtain ⟨cs, ps, h⟩ := h
  exact h.cout m hm
theorem SAt.cid {x : World} {gs gp : Nat} {s : Sc} (h : SAt x gs gp s) (m : Nat) (hm : m < 8) : x.cell? ⟨gs, 1 + m * 258 + 256, none⟩ = some (.int .i64 (s.id m)) := by
  obtain ⟨cs, ps, h⟩ := h
  exact h.cid m hm
theorem SAt.c0 {x : World} {gs gp : Nat} {s : Sc} (h : SAt x gs gp s) : x.cell? ⟨gs, 0, none⟩ = some (.slice (some ⟨gp, 0, none⟩) s.n s.n) := by
  obtain ⟨cs, ps, h⟩ := h
  exact h.c0

set_option maxRecDepth 4000 in
set_option maxHeartbeats 1600000 in
theorem write10_state (h : SAt w gs gp s) (hn : nd < 8) (hi : i < s.n) (hm : maskOk mask) (hp : p.right) (hst : s.out nd = true ∨ s.busy (i : Int) = true ∨ p.l ≤ (stampB (s.pl i)).1) :
    Calls Try.prog 15 #[.pointer (some ⟨gs, 0, none⟩), .int .i64 (nd : Int), .int .i64 (i : Int), .agg (pgA p), .int .i64 mask] w fun e w' => e = .returned (.int .i64 13) ∧ Below w.heap.size w w' := by
  have hb0 : Below w.heap.size w (w.alloc (.cells (pgA p) 35)) := (Below.refl _ _).alloc (Nat.le_refl _) _
  have hP0 : PgAt (w.alloc (.cells (pgA p) 35)) w.heap.size p := heap_alloc_new w _
  have N := fun w => isNode10 nd w
  have H := has10 (some ⟨gs, 0, none⟩) s.n (i : Int) _ (pages10 (h.later hb0))
  have M := fun w => isMask10 mask w
  rw [decide_eq_true (by omega)] at N
  rw [decide_eq_true (by omega)] at H
  rw [decide_eq_true hm] at M
  have HN := hide N
  have HH := hide H
  have HM := hide M
  have HP := hide (show Look w gs gp s p (w.alloc (.cells (pgA p) 35)) from ⟨h.later hb0, hP0, hb0⟩)
  have HE := hide (fun w => enc_right i p w (by have := h.wf.n; omega) hp)
  have HST := hide hst
  have HI := hide hi
  have hl64 : p.l < 18446744073709551616 := (Pg.right.fits hp).1
  have i1 : (nd : Int) < 8 := by omega
  clear N H M hP0 hm hst hp h hb0 hi
  go_enter Try.func15, Try.ntmps15
  go_wp2_with fail
  refine (HN.out _).mono ?_
  rintro e w1 ⟨rfl, rfl⟩
  go_wp2_with fail
  refine HH.out.mono ?_
  rintro e w1 ⟨rfl, rfl⟩
  go_wp2_with fail
  refine (HM.out _).mono ?_
  rintro e w1 ⟨rfl, rfl⟩
  go_wp2_with (refine wpList_load_page rfl _ rfl w.heap.size rfl p HP.out.2.1 ?_)
  refine (HE.out _).mono ?_
  rintro e w1 ⟨v1, rfl, ho1, hb1⟩
  have HL := hide (HP.out.later hb1)
  obtain ⟨g1, cap1, rfl, hg1⟩ := own_slice ho1 (by omega)
  clear HP HE HM HH HN ho1 hb1 hg1
  obtain ⟨o, hoo⟩ : ∃ o, s.out nd = o := ⟨_, rfl⟩
  obtain ⟨u, huu⟩ : ∃ u, s.busy (i : Int) = u := ⟨_, rfl⟩
  obtain ⟨t, htt⟩ : ∃ t, (stampB (s.pl i)).1 = t := ⟨_, rfl⟩
  obtain ⟨l, hll⟩ : ∃ l, p.l = l := ⟨_, rfl⟩
  rw [hoo, huu, htt, hll] at HST
  rw [hll] at hl64
  have HEQ := hide (And.intro hoo (And.intro huu (And.intro htt hll)))
  clear hoo huu htt hll
  have HQ : Hid (∀ x, Look w gs gp s p x → Look w gs gp s p x.drew) := fun x hx => hx.later ⟨rfl, rfl, rfl, Nat.le_refl _, fun _ _ => rfl⟩
  have fin : o = true ∨ u = true ∨ l ≤ t := HST.out
  cases o with
  | true =>
    go_wp2_with fail
    refine wp_region_in (fun x => Look w gs gp s p x) (by kernel_rfl) (by kernel_rfl) (HQ.out _ HL.out) ?_
    repeat (first
      | go_big_quiet_skip
      | (refine wpQuiet_load rfl 4 _ rfl _ (.bool true) rfl (fun y hy => load10_b y _ ((hy.1.cout nd hn).trans (by rw [HEQ.out.1]))) ?_; simp only [Act.put, Array.setIfInBounds, List.size_toArray, List.length_cons, List.length_nil, Nat.reduceAdd, Nat.reduceLT, ↓reduceDIte, List.set_toArray, List.set_cons_succ, List.set_cons_zero])
      | (refine wpQuiet_plain rfl (fun K hK => ?_); go_simp; refine hK _ ?_; clear hK K))
    refine wpQuiet_nil ?_
    intro x hx
    have hf := hx.2.2
    clear hx
    go_wp2
    go_ret
    exact ⟨rfl, hf⟩
  | false =>
    cases u with
    | true =>
      go_wp2_with fail
      refine wp_region_in (fun x => Look w gs gp s p x) (by kernel_rfl) (by kernel_rfl) (HQ.out _ HL.out) ?_
      repeat (first
        | go_big_quiet_skip
        | (refine wpQuiet_load rfl 4 _ rfl _ (.bool false) rfl (fun y hy => load10_b y _ ((hy.1.cout nd hn).trans (by rw [HEQ.out.1]))) ?_; simp only [Act.put, Array.setIfInBounds, List.size_toArray, List.length_cons, List.length_nil, Nat.reduceAdd, Nat.reduceLT, ↓reduceDIte, List.set_toArray, List.set_cons_succ, List.set_cons_zero])
        | (refine wpQuiet_call rfl 37 #[.pointer (some ⟨gs, 0, none⟩), .int .i64 (i : Int)] (.bool true) ?_ (fun x hC => (under10 (i : Int) hC.1).mono fun e x' h => ⟨h.1.trans (by rw [HEQ.out.2.1]), hC.later h.2⟩) ?_; (intro x; go_simp); simp only [Act.put, Array.setIfInBounds, List.size_toArray, List.length_cons, List.length_nil, Nat.reduceAdd, Nat.reduceLT, ↓reduceDIte, List.set_toArray, List.set_cons_succ, List.set_cons_zero])
        | (refine wpQuiet_plain rfl (fun K hK => ?_); go_simp; refine hK _ ?_; clear hK K))
      refine wpQuiet_nil ?_
      intro x hx
      have hf := hx.2.2
      clear hx
      go_wp2
      go_ret
      exact ⟨rfl, hf⟩
    | false =>
      have hle : l ≤ t := by simpa using fin
      have i3 : (l : Int) ≤ (t : Int) := by omega
      go_wp2_with fail
      refine wp_region_in (fun x => Look w gs gp s p x) (by kernel_rfl) (by kernel_rfl) (HQ.out _ HL.out) ?_
      repeat (first
        | go_big_quiet_skip
        | (refine wpQuiet_load rfl 4 _ rfl _ (.bool false) rfl (fun y hy => load10_b y _ ((hy.1.cout nd hn).trans (by rw [HEQ.out.1]))) ?_; simp only [Act.put, Array.setIfInBounds, List.size_toArray, List.length_cons, List.length_nil, Nat.reduceAdd, Nat.reduceLT, ↓reduceDIte, List.set_toArray, List.set_cons_succ, List.set_cons_zero])
        | (refine wpQuiet_load rfl 30 _ rfl _ (.int .u64 (l : Int)) rfl (fun y hy => load10_u y _ (hy.2.1.lsn.trans (by rw [HEQ.out.2.2.2]))) ?_; simp only [Act.put, Array.setIfInBounds, List.size_toArray, List.length_cons, List.length_nil, Nat.reduceAdd, Nat.reduceLT, ↓reduceDIte, List.set_toArray, List.set_cons_succ, List.set_cons_zero])
        | (refine wpQuiet_call rfl 37 #[.pointer (some ⟨gs, 0, none⟩), .int .i64 (i : Int)] (.bool false) ?_ (fun x hC => (under10 (i : Int) hC.1).mono fun e x' h => ⟨h.1.trans (by rw [HEQ.out.2.1]), hC.later h.2⟩) ?_; (intro x; go_simp); simp only [Act.put, Array.setIfInBounds, List.size_toArray, List.length_cons, List.length_nil, Nat.reduceAdd, Nat.reduceLT, ↓reduceDIte, List.set_toArray, List.set_cons_succ, List.set_cons_zero])
        | (refine wpQuiet_call rfl 38 #[.pointer (some ⟨gs, 0, none⟩), .int .i64 (i : Int)] (.int .u64 (t : Int)) ?_ (fun x hC => (stamp10 i HI.out hC.1).mono fun e x' h => ⟨h.1.trans (by rw [HEQ.out.2.2.1]), hC.later h.2⟩) ?_; (intro x; go_simp); simp only [Act.put, Array.setIfInBounds, List.size_toArray, List.length_cons, List.length_nil, Nat.reduceAdd, Nat.reduceLT, ↓reduceDIte, List.set_toArray, List.set_cons_succ, List.set_cons_zero])
        | (refine wpQuiet_plain rfl (fun K hK => ?_); go_simp; refine hK _ ?_; clear hK K))
      refine wpQuiet_nil ?_
      intro x hx
      have hf := hx.2.2
      clear hx
      go_wp2
      go_ret
      exact ⟨rfl, hf⟩
end
end Go.Proofs.Ytfeghhgniahfkaa

/-
  The contract of package store's Write: where it goes on.
-/
namespace Go.Proofs.Ytfeghhgniahfkaa
open Go.RowKit
set_option linter.unusedVariables false

theorem Only.tn {g : Nat} {w w' : World} (p : Only g w w') (F : Nat → Prop) (h : F g) : Tn F w w' := ⟨p.os, p.tape, p.output, Nat.le_of_eq p.size, fun k _ hn => p.block k (fun e => hn (by rw [e]; exact h))⟩
theorem dq {x : World} : Below x.heap.size x x.drew := ⟨rfl, rfl, rfl, Nat.le_refl _, fun _ _ => rfl⟩
theorem undq {x y : World} (h : Below x.drew.heap.size x.drew y) : Below x.heap.size x y := ⟨h.1, h.2, h.3, h.4, h.5⟩
theorem zPl : Try.zeroCells70.size = 256 := by rw [zero10, List.size_toArray, zrow_length]

section
variable {gs gp : Nat} {s : Sc} (nd i : Nat) (p : Pg) (mk : Nat) (w : World)
set_option maxRecDepth 4000 in
set_option maxHeartbeats 3200000 in
theorem write10_go (h : SAt w gs gp s) (hn : nd < 8) (hi : i < s.n) (hm : maskOk (mk : Int)) (hp : p.right) (ho : s.out nd = false) (hu : s.busy (i : Int) = false) (hl : (stampB (s.pl i)).1 < p.l) (r : Int) (HR : Hid (r = if mk = 15 then 0 else 9)) :
    Calls Try.prog 15 #[.pointer (some ⟨gs, 0, none⟩), .int .i64 (nd : Int), .int .i64 (i : Int), .agg (pgA p), .int .i64 (mk : Int)] w fun e w' => e = .returned (.int .i64 r) ∧ SAt w' gs gp (s.wGo nd i p mk) ∧ Tn (FS gs gp) w w' := by
  have hb0 : Below w.heap.size w (w.alloc (.cells (pgA p) 35)) := (Below.refl _ _).alloc (Nat.le_refl _) _
  have hP0 : PgAt (w.alloc (.cells (pgA p) 35)) w.heap.size p := heap_alloc_new w _
  have N := fun w => isNode10 nd w
  have H := has10 (some ⟨gs, 0, none⟩) s.n (i : Int) _ (pages10 (h.later hb0))
  have M := fun w => isMask10 mk w
  rw [decide_eq_true (by omega)] at N
  rw [decide_eq_true (by omega)] at H
  rw [decide_eq_true hm] at M
  have HN := hide N
  have HH := hide H
  have HM := hide M
  have HP := hide (show Look w gs gp s p (w.alloc (.cells (pgA p) 35)) from ⟨h.later hb0, hP0, hb0⟩)
  obtain ⟨im, him⟩ : ∃ im, imageB i p = im := ⟨_, rfl⟩
  have hE := fun w => enc_right i p w (by have := h.wf.n; omega) hp
  have hil := imageB_length i p hp
  rw [him] at hE hil
  have HE := hide hE
  have HIM := hide him
  have HI := hide hi
  have hm16 : mk < 16 := by omega
  have hl64 : p.l < 18446744073709551616 := (Pg.right.fits hp).1
  have i1 : (nd : Int) < 8 := by omega
  have HST := hide (And.intro ho hu)
  obtain ⟨t, htt⟩ : ∃ t, (stampB (s.pl i)).1 = t := ⟨_, rfl⟩
  obtain ⟨l, hll⟩ : ∃ l, p.l = l := ⟨_, rfl⟩
  rw [hll] at hl64
  rw [htt, hll] at hl
  have HEQ := hide (And.intro htt hll)
  have i3 : ¬ (l : Int) ≤ (t : Int) := by omega
  have hLT := h.lt
  have HLT := hide hLT
  clear N H M hP0 hp hb0 hE him ho hu htt hll hLT h
  go_enter Try.func15, Try.ntmps15
  go_wp2_with fail
  refine (HN.out _).mono ?_
  rintro e w1 ⟨rfl, rfl⟩
  go_wp2_with fail
  refine HH.out.mono ?_
  rintro e w1 ⟨rfl, rfl⟩
  go_wp2_with fail
  refine (HM.out _).mono ?_
  rintro e w1 ⟨rfl, rfl⟩
  go_wp2_with (refine wpList_load_page rfl _ rfl w.heap.size rfl p HP.out.2.1 ?_)
  refine (HE.out _).mono ?_
  rintro e w1 ⟨v1, rfl, ho1, hb1⟩
  obtain ⟨g1, cap1, rfl, hg1⟩ := own_slice ho1 (by omega)
  have HL := hide (And.intro ((HP.out.later hb1).later dq) (show IsB w1.drew (some ⟨g1, 0, none⟩) 256 im from (ho1.isB hil).below dq))
  have hc1 := own_cap ho1
  clear HP HE HM HH HN ho1 hb1 hg1
  go_wp2_with fail
  refine wp_region_in (fun x => Look w gs gp s p x ∧ IsB x (some ⟨g1, 0, none⟩) 256 im) (by kernel_rfl) (by kernel_rfl) HL.out ?_
  repeat (first
    | go_big_quiet_skip
    | (refine wpQuiet_load rfl 4 _ rfl _ (.bool false) rfl (fun y hy => load10_b y _ ((hy.1.1.cout nd hn).trans (by rw [HST.out.1]))) ?_; simp only [Act.put, Array.setIfInBounds, List.size_toArray, List.length_cons, List.length_nil, Nat.reduceAdd, Nat.reduceLT, ↓reduceDIte, List.set_toArray, List.set_cons_succ, List.set_cons_zero])
    | (refine wpQuiet_load rfl 30 _ rfl _ (.int .u64 (l : Int)) rfl (fun y hy => load10_u y _ (hy.1.2.1.lsn.trans (by rw [HEQ.out.2]))) ?_; simp only [Act.put, Array.setIfInBounds, List.size_toArray, List.length_cons, List.length_nil, Nat.reduceAdd, Nat.reduceLT, ↓reduceDIte, List.set_toArray, List.set_cons_succ, List.set_cons_zero])
    | (refine wpQuiet_call rfl 37 #[.pointer (some ⟨gs, 0, none⟩), .int .i64 (i : Int)] (.bool false) ?_ (fun x hC => (under10 (i : Int) hC.1.1).mono fun e x' h => ⟨h.1.trans (by rw [HST.out.2]), hC.1.later h.2, hC.2.below h.2⟩) ?_; (intro x; go_simp); simp only [Act.put, Array.setIfInBounds, List.size_toArray, List.length_cons, List.length_nil, Nat.reduceAdd, Nat.reduceLT, ↓reduceDIte, List.set_toArray, List.set_cons_succ, List.set_cons_zero])
    | (refine wpQuiet_call rfl 38 #[.pointer (some ⟨gs, 0, none⟩), .int .i64 (i : Int)] (.int .u64 (t : Int)) ?_ (fun x hC => (stamp10 i HI.out hC.1.1).mono fun e x' h => ⟨h.1.trans (by rw [HEQ.out.1]), hC.1.later h.2, hC.2.below h.2⟩) ?_; (intro x; go_simp); simp only [Act.put, Array.setIfInBounds, List.size_toArray, List.length_cons, List.length_nil, Nat.reduceAdd, Nat.reduceLT, ↓reduceDIte, List.set_toArray, List.set_cons_succ, List.set_cons_zero])
    | (refine wpQuiet_plain rfl (fun K hK => ?_); go_simp; refine hK _ ?_; clear hK K))
  refine wpQuiet_nil ?_
  intro x hx
  have HX := hide (And.intro hx.1.1 (And.intro hx.1.2.2 hx.2))
  clear hx HL HEQ
  go_wp2_with fail
  clear hl hl64 i3
  refine wp_region_noPanic ?_
  refine wp_region_held_drew (S := fun _ => True) (by kernel_rfl) (trivial) (fun hHeld => ?_)
  refine hand_take 0 (some 58) (.slice (some ⟨g1, 0, none⟩) 256 cap1) rfl rfl (by kernel_rfl) (by kernel_rfl) (by kernel_rfl) (fun _ _ _ h => h) (Or.inl ⟨by kernel_rfl, fun x hSx => by go_simp⟩) hHeld ?_
  try simp only [Act.put, List.setIfInBounds_toArray, List.set_cons_zero, List.set_cons_succ]
  refine hand_take 2 (some 60) (.pointer (some ⟨gs, 0, none⟩)) rfl rfl (by kernel_rfl) (by kernel_rfl) (by kernel_rfl) (fun _ _ _ h => h) (Or.inl ⟨by kernel_rfl, fun x hSx => by go_simp⟩) hHeld ?_
  try simp only [Act.put, List.setIfInBounds_toArray, List.set_cons_zero, List.set_cons_succ]
  refine hand_take 3 (some 61) (.int .i64 (nd : Int)) rfl rfl (by kernel_rfl) (by kernel_rfl) (by kernel_rfl) (fun _ _ _ h => h) (Or.inl ⟨by kernel_rfl, fun x hSx => by go_simp⟩) hHeld ?_
  try simp only [Act.put, List.setIfInBounds_toArray, List.set_cons_zero, List.set_cons_succ]
  refine hand_take 4 (some 62) (.pointer (some ⟨gs, 0, none⟩)) rfl rfl (by kernel_rfl) (by kernel_rfl) (by kernel_rfl) (fun _ _ _ h => h) (Or.inl ⟨by kernel_rfl, fun x hSx => by go_simp⟩) hHeld ?_
  try simp only [Act.put, List.setIfInBounds_toArray, List.set_cons_zero, List.set_cons_succ]
  refine hand_take 5 (some 63) (.pointer (some ⟨gs, 1, none⟩)) rfl rfl (by kernel_rfl) (by kernel_rfl) (by kernel_rfl) (fun _ _ _ h => h) (Or.inl ⟨by kernel_rfl, fun x hSx => by go_simp⟩) hHeld ?_
  try simp only [Act.put, List.setIfInBounds_toArray, List.set_cons_zero, List.set_cons_succ]
  refine hand_take 6 (some 64) (.pointer (some ⟨gs, 1 + nd * 258, none⟩)) rfl rfl (by kernel_rfl) (by kernel_rfl) (by kernel_rfl) (fun _ _ _ h => h) (Or.inl ⟨by kernel_rfl, fun x hSx => by go_simp⟩) hHeld ?_
  try simp only [Act.put, List.setIfInBounds_toArray, List.set_cons_zero, List.set_cons_succ]
  refine hand_two 1 7 (by kernel_rfl) ?_ ?_
  · refine hand_call (some 59) rfl rfl rfl 26 #[.slice (some ⟨g1, 0, none⟩) 256 cap1] ?he ((placeOf10 g1 0 cap1 im x.drew (HX.out.2.2.below dq) hc1).mono ?_)
    (case he => go_simp)
    rintro e w2 ⟨rfl, hb2⟩
    have hb2' := undq hb2
    refine ⟨_, rfl, ?_⟩
    refine ⟨trivial, ?_⟩
    try simp only [Act.put, List.setIfInBounds_toArray, List.set_cons_zero, List.set_cons_succ]
    refine hand_one 7 (by kernel_rfl) ?_
    refine hand_run (some 13) rfl rfl rfl (.pointer (some ⟨w2.heap.size, 0, none⟩)) (w2.alloc (.cells Try.zeroCells70 70)) ?hz ?_
    (case hz => go_simp)
    refine ⟨trivial, ?_⟩
    try simp only [Act.put, List.setIfInBounds_toArray, List.set_cons_zero, List.set_cons_succ]
    refine hand_one 8 (by kernel_rfl) ?_
    refine hand_store rfl rfl rfl 70 (.tmp 13) (.tmp 59) rfl w2.heap.size 0 70 Try.zeroCells70 (plA im) rfl rfl (RowAt.new w2 _ _) (infoPl' _ hil) (by rw [plA_size, hil, zPl]; omega) (plA_one _) ?_
    intro w3 h31 h32
    rw [partA_all _ _ (by rw [zPl, plA_size, hil])] at h31
    have hb3 := h32.below (hb2'.alloc hb2'.size (.cells Try.zeroCells70 70)) hb2'.size
    obtain ⟨gB, hgB⟩ : ∃ gB, w2.heap.size = gB := ⟨_, rfl⟩
    have H3 := hide (And.intro (HX.out.1.later hb3) (And.intro (HX.out.2.1.trans (hb3.mono HX.out.2.1.size)) (And.intro h31 (show gs < w2.heap.size ∧ gp < w2.heap.size from by have h1 := HX.out.1.lt; have h2 := hb2'.size; omega))))
    rw [hgB] at H3 ⊢
    refine ⟨trivial, ?_⟩
    try simp only [Act.put, List.setIfInBounds_toArray, List.set_cons_zero, List.set_cons_succ]
    refine hand_one 9 (by kernel_rfl) ?_
    refine hand_run (some 14) rfl rfl rfl (.pointer (some ⟨gs, 1 + nd * 258, none⟩)) w3 ?hz ?_
    (case hz => go_simp)
    refine ⟨trivial, ?_⟩
    try simp only [Act.put, List.setIfInBounds_toArray, List.set_cons_zero, List.set_cons_succ]
    refine wpAnyH_done (by kernel_rfl) ?_ _
    refine NoPanic.normal ?_
    clear hgB h31 h32 hb3 hb2 hb2' HX hHeld
    go_wp2_with fail
    obtain ⟨cs, ps, hS⟩ := H3.out.1
    have HS := hide hS
    have hLB := HLT.out
    have hgB : gs ≠ gB ∧ gp ≠ gB := by have := H3.out.2.2.2; omega
    have HGB := hide hgB
    clear hgB hLB hS
    refine wp_region_noPanic ?_
    refine wp_region_held_drew (S := fun y => RowAt y gB 70 (plA im)) (by kernel_rfl) (H3.out.2.2.1) (fun hHeld => ?_)
    refine hand_take 0 (some 65) (.pointer (some ⟨gs, 1 + nd * 258, none⟩)) rfl rfl (by kernel_rfl) (by kernel_rfl) (by kernel_rfl) (fun _ _ _ h => h) (Or.inl ⟨by kernel_rfl, fun x hSx => by go_simp⟩) hHeld ?_
    try simp only [Act.put, List.setIfInBounds_toArray, List.set_cons_zero, List.set_cons_succ]
    refine hand_take 1 (some 66) (.pointer (some ⟨gs, 1 + nd * 258, none⟩)) rfl rfl (by kernel_rfl) (by kernel_rfl) (by kernel_rfl) (fun _ _ _ h => h) (Or.inl ⟨by kernel_rfl, fun x hSx => by go_simp⟩) hHeld ?_
    try simp only [Act.put, List.setIfInBounds_toArray, List.set_cons_zero, List.set_cons_succ]
    refine hand_take 2 (some 67) (.pointer (some ⟨gs, 1 + nd * 258, none⟩)) rfl rfl (by kernel_rfl) (by kernel_rfl) (by kernel_rfl) (fun _ _ _ h => h) (Or.inl ⟨by kernel_rfl, fun x hSx => by go_simp⟩) hHeld ?_
    try simp only [Act.put, List.setIfInBounds_toArray, List.set_cons_zero, List.set_cons_succ]
    refine hand_take 3 (some 68) (.pointer (some ⟨gs, 1 + nd * 258, none⟩)) rfl rfl (by kernel_rfl) (by kernel_rfl) (by kernel_rfl) (fun _ _ _ h => h) (Or.inl ⟨by kernel_rfl, fun x hSx => by go_simp⟩) hHeld ?_
    try simp only [Act.put, List.setIfInBounds_toArray, List.set_cons_zero, List.set_cons_succ]
    refine hand_take 5 (some 70) (.agg (plA im)) rfl rfl (by kernel_rfl) (by kernel_rfl) (by kernel_rfl) (fun _ _ _ h => h) (yieldsIf_load_run (by kernel_rfl) 70 _ rfl (.pointer (some ⟨gB, 0, none⟩)) rfl _ (fun x hSx => load_whole x gB im hil hSx)) hHeld ?_
    try simp only [Act.put, List.setIfInBounds_toArray, List.set_cons_zero, List.set_cons_succ]
    refine hand_take 6 (some 71) (.int .i64 (mk : Int)) rfl rfl (by kernel_rfl) (by kernel_rfl) (by kernel_rfl) (fun _ _ _ h => h) (Or.inl ⟨by kernel_rfl, fun x hSx => by go_simp⟩) hHeld ?_
    try simp only [Act.put, List.setIfInBounds_toArray, List.set_cons_zero, List.set_cons_succ]
    refine hand_one 4 (by kernel_rfl) ?_
    refine hand_run (some 69) rfl rfl rfl (.agg (plA (s.ar nd))) _ (exec_load 70 _ rfl (.pointer (some ⟨gs, 1 + nd * 258, none⟩)) rfl _ (load_ar w3.drew (HS.out.later dq) nd hn)) ?_
    refine ⟨hHeld, ?_⟩
    try simp only [Act.put, List.setIfInBounds_toArray, List.set_cons_zero, List.set_cons_succ]
    refine hand_one 7 (by kernel_rfl) ?_
    refine hand_call (some 72) rfl rfl rfl 34 #[.agg (plA (s.ar nd)), .agg (plA im), .int .i64 (mk : Int)] ?he ((laid10 (s.ar nd) im mk w3.drew (HS.out.wf.ar nd hn) hil hm16).mono ?_)
    (case he => go_simp)
    rintro e w5 ⟨rfl, hb5⟩
    have hb5' := undq hb5
    have hS5 := HS.out.later hb5'
    have hB5 := H3.out.2.2.1.later hb5'
    refine ⟨_, rfl, ?_⟩
    refine ⟨hB5, ?_⟩
    try simp only [Act.put, List.setIfInBounds_toArray, List.set_cons_zero, List.set_cons_succ]
    have hHeld := hB5
    refine hand_take 8 (some 73) (.pointer (some ⟨gs, 1 + nd * 258, none⟩)) rfl rfl (by kernel_rfl) (by kernel_rfl) (by kernel_rfl) (fun _ _ _ h => h) (Or.inl ⟨by kernel_rfl, fun x hSx => by go_simp⟩) hHeld ?_
    try simp only [Act.put, List.setIfInBounds_toArray, List.set_cons_zero, List.set_cons_succ]
    refine hand_take 9 (some 74) (.pointer (some ⟨gs, 1 + nd * 258, none⟩)) rfl rfl (by kernel_rfl) (by kernel_rfl) (by kernel_rfl) (fun _ _ _ h => h) (Or.inl ⟨by kernel_rfl, fun x hSx => by go_simp⟩) hHeld ?_
    try simp only [Act.put, List.setIfInBounds_toArray, List.set_cons_zero, List.set_cons_succ]
    have hlay := layB_length (s.ar nd) im mk (HS.out.wf.ar nd hn) hil
    refine hand_one 10 (by kernel_rfl) ?_
    refine hand_store rfl rfl rfl 70 (.tmp 74) (.tmp 72) rfl gs (1 + nd * 258) 75 cs (plA (layB (s.ar nd) im mk)) rfl rfl hS5.st (infoPl' _ hlay) (by rw [plA_size, hlay]; exact (hS5.sb.ext hS5.wf nd hn).2) (plA_one _) ?_
    intro w6 h61 h62
    have hS6 : SV w6 gs gp { s with ar := put1 s.ar nd (layB (s.ar nd) im mk) } (partA cs (1 + nd * 258) (toV (layB (s.ar nd) im mk))) ps := ⟨h61, hS5.sb.put hS5.wf nd hn _ hlay, h62.row hS5.pr (fun e => hS5.ne e.symm), hS5.pb.other _ rfl rfl, ⟨hS5.wf.n, hS5.wf.pl, fun m hm => by
      show (put1 s.ar nd _ m).length = 256
      by_cases e : m = nd
      · rw [e, put1_same]
        exact hlay
      · rw [put1_other _ _ _ _ e]
        exact hS5.wf.ar m hm, hS5.wf.id⟩⟩
    have hB6 := h62.row hB5 (fun e => HGB.out.1 e.symm)
    have hT6 : Tn (FS gs gp) w w6 := (Tn.of_below (H3.out.2.1.trans (hb5'.mono H3.out.2.1.size))).then (h62.tn (FS gs gp) (.inl rfl))
    refine ⟨hB6, ?_⟩
    try simp only [Act.put, List.setIfInBounds_toArray, List.set_cons_zero, List.set_cons_succ]
    refine wpAnyH_done (by kernel_rfl) ?_ _
    refine NoPanic.normal ?_
    have H6 := hide (And.intro hS6 (And.intro hB6 hT6))
    obtain ⟨cs6, hcs6⟩ : ∃ c, partA cs (1 + nd * 258) (toV (layB (s.ar nd) im mk)) = c := ⟨_, rfl⟩
    rw [hcs6] at H6
    have c06 := hS6.c0
    have c06 : w6.cell? ⟨gs, 0, none⟩ = some (.slice (some ⟨gp, 0, none⟩) s.n s.n) := c06
    have C06 := hide c06
    clear hcs6 c06 hS6 hB6 hT6 h61 h62 hlay hS5 hB5 hb5 hb5' hHeld HS H3
    have i4 : (i : Int) < (s.n : Int) := by have := HI.out; omega
    obtain ⟨q, hq⟩ : ∃ q, mk / 4 = q := ⟨_, rfl⟩
    have i5 : ((mk : Int) / 4) = (q : Int) := by omega
    have i7 : q < 16 := by omega
    have HQ := hide hq
    clear hq
    go_wp2_with fail
    refine wp_region_noPanic ?_
    refine wp_region_held_drew (S := fun y => y.cell? ⟨gs, 0, none⟩ = some (.slice (some ⟨gp, 0, none⟩) s.n s.n) ∧ RowAt y gB 70 (plA im)) (by kernel_rfl) (⟨C06.out, H6.out.2.1⟩) (fun hHeld => ?_)
    refine hand_take 0 (some 75) (.pointer (some ⟨gs, 0, none⟩)) rfl rfl (by kernel_rfl) (by kernel_rfl) (by kernel_rfl) (fun _ _ _ h => h) (Or.inl ⟨by kernel_rfl, fun x hSx => by go_simp⟩) hHeld ?_
    try simp only [Act.put, List.setIfInBounds_toArray, List.set_cons_zero, List.set_cons_succ]
    refine hand_take 1 (some 76) (.pointer (some ⟨gs, 0, none⟩)) rfl rfl (by kernel_rfl) (by kernel_rfl) (by kernel_rfl) (fun _ _ _ h => h) (Or.inl ⟨by kernel_rfl, fun x hSx => by go_simp⟩) hHeld ?_
    try simp only [Act.put, List.setIfInBounds_toArray, List.set_cons_zero, List.set_cons_succ]
    refine hand_take 2 (some 77) (.pointer (some ⟨gs, 0, none⟩)) rfl rfl (by kernel_rfl) (by kernel_rfl) (by kernel_rfl) (fun _ _ _ h => h) (Or.inl ⟨by kernel_rfl, fun x hSx => by go_simp⟩) hHeld ?_
    try simp only [Act.put, List.setIfInBounds_toArray, List.set_cons_zero, List.set_cons_succ]
    refine hand_take 3 (some 78) (.slice (some ⟨gp, 0, none⟩) s.n s.n) rfl rfl (by kernel_rfl) (by kernel_rfl) (by kernel_rfl) (fun _ _ _ h => h) (Or.inl ⟨by kernel_rfl, fun x hSx => by have h := hSx.1; go_simp⟩) hHeld ?_
    try simp only [Act.put, List.setIfInBounds_toArray, List.set_cons_zero, List.set_cons_succ]
    refine hand_take 4 (some 79) (.int .i64 (i : Int)) rfl rfl (by kernel_rfl) (by kernel_rfl) (by kernel_rfl) (fun _ _ _ h => h) (Or.inl ⟨by kernel_rfl, fun x hSx => by go_simp⟩) hHeld ?_
    try simp only [Act.put, List.setIfInBounds_toArray, List.set_cons_zero, List.set_cons_succ]
    refine hand_take 5 (some 80) (.pointer (some ⟨gs, 0, none⟩)) rfl rfl (by kernel_rfl) (by kernel_rfl) (by kernel_rfl) (fun _ _ _ h => h) (Or.inl ⟨by kernel_rfl, fun x hSx => by go_simp⟩) hHeld ?_
    try simp only [Act.put, List.setIfInBounds_toArray, List.set_cons_zero, List.set_cons_succ]
    refine hand_take 6 (some 81) (.pointer (some ⟨gs, 0, none⟩)) rfl rfl (by kernel_rfl) (by kernel_rfl) (by kernel_rfl) (fun _ _ _ h => h) (Or.inl ⟨by kernel_rfl, fun x hSx => by go_simp⟩) hHeld ?_
    try simp only [Act.put, List.setIfInBounds_toArray, List.set_cons_zero, List.set_cons_succ]
    refine hand_take 7 (some 82) (.pointer (some ⟨gs, 0, none⟩)) rfl rfl (by kernel_rfl) (by kernel_rfl) (by kernel_rfl) (fun _ _ _ h => h) (Or.inl ⟨by kernel_rfl, fun x hSx => by go_simp⟩) hHeld ?_
    try simp only [Act.put, List.setIfInBounds_toArray, List.set_cons_zero, List.set_cons_succ]
    refine hand_take 8 (some 83) (.slice (some ⟨gp, 0, none⟩) s.n s.n) rfl rfl (by kernel_rfl) (by kernel_rfl) (by kernel_rfl) (fun _ _ _ h => h) (Or.inl ⟨by kernel_rfl, fun x hSx => by have h := hSx.1; go_simp⟩) hHeld ?_
    try simp only [Act.put, List.setIfInBounds_toArray, List.set_cons_zero, List.set_cons_succ]
    refine hand_take 9 (some 84) (.int .i64 (i : Int)) rfl rfl (by kernel_rfl) (by kernel_rfl) (by kernel_rfl) (fun _ _ _ h => h) (Or.inl ⟨by kernel_rfl, fun x hSx => by go_simp⟩) hHeld ?_
    try simp only [Act.put, List.setIfInBounds_toArray, List.set_cons_zero, List.set_cons_succ]
    refine hand_take 10 (some 85) (.pointer (some ⟨gp, i * 256, none⟩)) rfl rfl (by kernel_rfl) (by kernel_rfl) (by kernel_rfl) (fun _ _ _ h => h) (Or.inl ⟨by kernel_rfl, fun x hSx => by go_simp⟩) hHeld ?_
    try simp only [Act.put, List.setIfInBounds_toArray, List.set_cons_zero, List.set_cons_succ]
    refine hand_take 12 (some 87) (.agg (plA im)) rfl rfl (by kernel_rfl) (by kernel_rfl) (by kernel_rfl) (fun _ _ _ h => h) (yieldsIf_load_run (by kernel_rfl) 70 _ rfl (.pointer (some ⟨gB, 0, none⟩)) rfl _ (fun x hSx => load_whole x gB im hil hSx.2)) hHeld ?_
    try simp only [Act.put, List.setIfInBounds_toArray, List.set_cons_zero, List.set_cons_succ]
    refine hand_take 13 (some 88) (.int .i64 (mk : Int)) rfl rfl (by kernel_rfl) (by kernel_rfl) (by kernel_rfl) (fun _ _ _ h => h) (Or.inl ⟨by kernel_rfl, fun x hSx => by go_simp⟩) hHeld ?_
    try simp only [Act.put, List.setIfInBounds_toArray, List.set_cons_zero, List.set_cons_succ]
    refine hand_take 14 (some 89) (.int .i64 (q : Int)) rfl rfl (by kernel_rfl) (by kernel_rfl) (by kernel_rfl) (fun _ _ _ h => h) (Or.inl ⟨by kernel_rfl, fun x hSx => by go_simp⟩) hHeld ?_
    try simp only [Act.put, List.setIfInBounds_toArray, List.set_cons_zero, List.set_cons_succ]
    refine hand_one 11 (by kernel_rfl) ?_
    refine hand_run (some 86) rfl rfl rfl (.agg (plA (s.pl i))) _ (exec_load 70 _ rfl (.pointer (some ⟨gp, i * 256, none⟩)) rfl _ (load_pl w6.drew (H6.out.1.later dq) i HI.out)) ?_
    refine ⟨hHeld, ?_⟩
    try simp only [Act.put, List.setIfInBounds_toArray, List.set_cons_zero, List.set_cons_succ]
    refine hand_one 15 (by kernel_rfl) ?_
    refine hand_call (some 90) rfl rfl rfl 34 #[.agg (plA (s.pl i)), .agg (plA im), .int .i64 (q : Int)] ?he ((laid10 (s.pl i) im q w6.drew (H6.out.1.wf.pl i HI.out) hil i7).mono ?_)
    (case he => go_simp)
    rintro e w7 ⟨rfl, hb7⟩
    have hb7' := undq hb7
    have hS7 := H6.out.1.later hb7'
    have hB7 := H6.out.2.1.later hb7'
    have c07 : w7.cell? ⟨gs, 0, none⟩ = some (.slice (some ⟨gp, 0, none⟩) s.n s.n) := hS7.c0
    refine ⟨_, rfl, ?_⟩
    refine ⟨⟨c07, hB7⟩, ?_⟩
    try simp only [Act.put, List.setIfInBounds_toArray, List.set_cons_zero, List.set_cons_succ]
    have hHeld := And.intro c07 hB7
    refine hand_take 16 (some 91) (.pointer (some ⟨gp, i * 256, none⟩)) rfl rfl (by kernel_rfl) (by kernel_rfl) (by kernel_rfl) (fun _ _ _ h => h) (Or.inl ⟨by kernel_rfl, fun x hSx => by go_simp⟩) hHeld ?_
    try simp only [Act.put, List.setIfInBounds_toArray, List.set_cons_zero, List.set_cons_succ]
    have hlay := layB_length (s.pl i) im q (H6.out.1.wf.pl i HI.out) hil
    refine hand_one 17 (by kernel_rfl) ?_
    refine hand_store rfl rfl rfl 70 (.tmp 91) (.tmp 90) rfl gp (i * 256) 70 ps (plA (layB (s.pl i) im q)) rfl rfl hS7.pr (infoPl' _ hlay) (by rw [plA_size, hlay]; exact (hS7.pb.ext hS7.wf i HI.out).2) (plA_one _) ?_
    intro w8 h81 h82
    have hP8 := hS7.pb.put hS7.wf i HI.out _ hlay
    have hst8 := h82.row hS7.st hS7.ne
    have hB8 := h82.row hB7 (fun e => HGB.out.2 e.symm)
    have hT8 : Tn (FS gs gp) w w8 := (H6.out.2.2.later hb7').then (h82.tn (FS gs gp) (.inr rfl))
    have hS8 : SV w8 gs gp ⟨s.n, put1 s.pl i (layB (s.pl i) im q), put1 s.ar nd (layB (s.ar nd) im mk), s.id, s.out⟩ cs6 _ := ⟨hst8, hS7.sb.other _ rfl rfl rfl rfl, h81, hP8, ⟨hS7.wf.n, fun k hk => by
      show (put1 s.pl i _ k).length = 256
      by_cases e : k = i
      · rw [e, put1_same]
        exact hlay
      · rw [put1_other _ _ _ _ e]
        exact hS7.wf.pl k hk, hS7.wf.ar, hS7.wf.id⟩⟩
    refine ⟨⟨hst8.cell 0 _ hS7.sb.sl, hB8⟩, ?_⟩
    try simp only [Act.put, List.setIfInBounds_toArray, List.set_cons_zero, List.set_cons_succ]
    refine wpAnyH_done (by kernel_rfl) ?_ _
    refine NoPanic.normal ?_
    have H8 := hide (And.intro hS8 hT8)
    have d1 := hS8.cid nd hn
    have d2 := hS8.cout nd hn
    have f1 := hS8.st.free (1 + nd * 258 + 256)
    have f2 := hS8.st.free (1 + nd * 258 + 257)
    clear hS8 hT8 hB8 hst8 hP8 h81 h82 hlay hHeld c07 hB7 hS7 hb7 hb7' H6 C06 i5
    have d1 : w8.cell? ⟨gs, 1 + nd * 258 + 256, none⟩ = some (.int .i64 (s.id nd)) := d1
    have d2 : w8.cell? ⟨gs, 1 + nd * 258 + 257, none⟩ = some (.bool (s.out nd)) := d2
    by_cases e15 : mk = 15
    · have j1 : ((mk : Int) == 15) = true := by simp; omega
      have HF := hide (show SAt w8 gs gp (s.wGo nd i p mk) from by
        unfold Sc.wGo
        rw [if_pos e15, if_pos e15, HIM.out, HQ.out]
        exact ⟨_, _, H8.out.1⟩)
      have hr := HR.out
      rw [if_pos e15] at hr
      subst hr
      clear e15
      go_wp2
      go_ret
      exact ⟨rfl, HF.out, H8.out.2⟩
    · have j1 : ((mk : Int) == 15) = false := by simp; omega
      have HF := hide (show SAt ((w8.setCell ⟨gs, 1 + nd * 258 + 256, none⟩ (.int .i64 (i : Int))).setCell ⟨gs, 1 + nd * 258 + 257, none⟩ (.bool true)) gs gp (s.wGo nd i p mk) from by
        unfold Sc.wGo
        rw [if_neg e15, if_neg e15, HIM.out, HQ.out]
        have q1 := H8.out.1.sb.setId H8.out.1.wf nd hn (i : Int)
        have q0 : Sc.wf ⟨s.n, put1 s.pl i (layB (s.pl i) im q), put1 s.ar nd (layB (s.ar nd) im mk), put1 s.id nd (i : Int), s.out⟩ := ⟨H8.out.1.wf.n, H8.out.1.wf.pl, H8.out.1.wf.ar, fun m hm ho => by
          show 0 ≤ put1 s.id nd (i : Int) m ∧ put1 s.id nd (i : Int) m < (s.n : Int)
          by_cases e : m = nd
          · rw [e, put1_same]
            omega
          · rw [put1_other _ _ _ _ e]
            exact H8.out.1.wf.id m hm ho⟩
        have q2 := q1.setOut q0 nd hn true
        refine ⟨_, _, (H8.out.1.st.set (1 + nd * 258 + 256) (.int .i64 (i : Int))).set (1 + nd * 258 + 257) (.bool true), q2, (H8.out.1.pr.other _ _ (fun e => H8.out.1.ne e.symm)).other _ _ (fun e => H8.out.1.ne e.symm), H8.out.1.pb.other _ rfl rfl, ⟨q0.n, q0.pl, q0.ar, fun m hm ho => ?_⟩⟩
        show 0 ≤ put1 s.id nd (i : Int) m ∧ put1 s.id nd (i : Int) m < (s.n : Int)
        by_cases e : m = nd
        · rw [e, put1_same]
          omega
        · have ho2 : put1 s.out nd true m = true := ho
          rw [put1_other _ _ _ _ e] at ho2 ⊢
          exact H8.out.1.wf.id m hm ho2)
      have hr := HR.out
      rw [if_neg e15] at hr
      subst hr
      clear e15
      go_wp2
      go_ret
      exact ⟨rfl, HF.out, (H8.out.2.set gs _ _ (.inl rfl)).set gs _ _ (.inl rfl)⟩
  · refine hand_run (some 13) rfl rfl rfl (.pointer (some ⟨x.heap.size, 0, none⟩)) (x.drew.alloc (.cells Try.zeroCells70 70)) ?hz ?_
    (case hz => go_simp)
    refine ⟨trivial, ?_⟩
    try simp only [Act.put, List.setIfInBounds_toArray, List.set_cons_zero, List.set_cons_succ]
    have hba : Below x.heap.size x (x.drew.alloc (.cells Try.zeroCells70 70)) := dq.alloc (Nat.le_refl _) _
    have za : RowAt (x.drew.alloc (.cells Try.zeroCells70 70)) x.heap.size 70 Try.zeroCells70 := RowAt.new x.drew _ _
    refine hand_one 1 (by kernel_rfl) ?_
    refine hand_call (some 59) rfl rfl rfl 26 #[.slice (some ⟨g1, 0, none⟩) 256 cap1] ?he ((placeOf10 g1 0 cap1 im (x.drew.alloc (.cells Try.zeroCells70 70)) (HX.out.2.2.below hba) hc1).mono ?_)
    (case he => go_simp)
    rintro e w2 ⟨rfl, hb2⟩
    refine ⟨_, rfl, ?_⟩
    refine ⟨trivial, ?_⟩
    try simp only [Act.put, List.setIfInBounds_toArray, List.set_cons_zero, List.set_cons_succ]
    refine hand_one 8 (by kernel_rfl) ?_
    refine hand_store rfl rfl rfl 70 (.tmp 13) (.tmp 59) rfl x.heap.size 0 70 Try.zeroCells70 (plA im) rfl rfl (za.later hb2) (infoPl' _ hil) (by rw [plA_size, hil, zPl]; omega) (plA_one _) ?_
    intro w3 h31 h32
    rw [partA_all _ _ (by rw [zPl, plA_size, hil])] at h31
    have hb3 := h32.below (hba.trans (hb2.mono hba.size)) (Nat.le_refl _)
    obtain ⟨gB, hgB⟩ : ∃ gB, x.heap.size = gB := ⟨_, rfl⟩
    have H3 := hide (And.intro (HX.out.1.later hb3) (And.intro (HX.out.2.1.trans (hb3.mono HX.out.2.1.size)) (And.intro h31 (show gs < x.heap.size ∧ gp < x.heap.size from HX.out.1.lt))))
    rw [hgB] at H3 ⊢
    refine ⟨trivial, ?_⟩
    try simp only [Act.put, List.setIfInBounds_toArray, List.set_cons_zero, List.set_cons_succ]
    refine hand_one 9 (by kernel_rfl) ?_
    refine hand_run (some 14) rfl rfl rfl (.pointer (some ⟨gs, 1 + nd * 258, none⟩)) w3 ?hz ?_
    (case hz => go_simp)
    refine ⟨trivial, ?_⟩
    try simp only [Act.put, List.setIfInBounds_toArray, List.set_cons_zero, List.set_cons_succ]
    refine wpAnyH_done (by kernel_rfl) ?_ _
    refine NoPanic.normal ?_
    clear hgB h31 h32 hb3 hb2 hba za HX hHeld
    go_wp2_with fail
    obtain ⟨cs, ps, hS⟩ := H3.out.1
    have HS := hide hS
    have hLB := HLT.out
    have hgB : gs ≠ gB ∧ gp ≠ gB := by have := H3.out.2.2.2; omega
    have HGB := hide hgB
    clear hgB hLB hS
    refine wp_region_noPanic ?_
    refine wp_region_held_drew (S := fun y => RowAt y gB 70 (plA im)) (by kernel_rfl) (H3.out.2.2.1) (fun hHeld => ?_)
    refine hand_take 0 (some 65) (.pointer (some ⟨gs, 1 + nd * 258, none⟩)) rfl rfl (by kernel_rfl) (by kernel_rfl) (by kernel_rfl) (fun _ _ _ h => h) (Or.inl ⟨by kernel_rfl, fun x hSx => by go_simp⟩) hHeld ?_
    try simp only [Act.put, List.setIfInBounds_toArray, List.set_cons_zero, List.set_cons_succ]
    refine hand_take 1 (some 66) (.pointer (some ⟨gs, 1 + nd * 258, none⟩)) rfl rfl (by kernel_rfl) (by kernel_rfl) (by kernel_rfl) (fun _ _ _ h => h) (Or.inl ⟨by kernel_rfl, fun x hSx => by go_simp⟩) hHeld ?_
    try simp only [Act.put, List.setIfInBounds_toArray, List.set_cons_zero, List.set_cons_succ]
    refine hand_take 2 (some 67) (.pointer (some ⟨gs, 1 + nd * 258, none⟩)) rfl rfl (by kernel_rfl) (by kernel_rfl) (by kernel_rfl) (fun _ _ _ h => h) (Or.inl ⟨by kernel_rfl, fun x hSx => by go_simp⟩) hHeld ?_
    try simp only [Act.put, List.setIfInBounds_toArray, List.set_cons_zero, List.set_cons_succ]
    refine hand_take 3 (some 68) (.pointer (some ⟨gs, 1 + nd * 258, none⟩)) rfl rfl (by kernel_rfl) (by kernel_rfl) (by kernel_rfl) (fun _ _ _ h => h) (Or.inl ⟨by kernel_rfl, fun x hSx => by go_simp⟩) hHeld ?_
    try simp only [Act.put, List.setIfInBounds_toArray, List.set_cons_zero, List.set_cons_succ]
    refine hand_take 5 (some 70) (.agg (plA im)) rfl rfl (by kernel_rfl) (by kernel_rfl) (by kernel_rfl) (fun _ _ _ h => h) (yieldsIf_load_run (by kernel_rfl) 70 _ rfl (.pointer (some ⟨gB, 0, none⟩)) rfl _ (fun x hSx => load_whole x gB im hil hSx)) hHeld ?_
    try simp only [Act.put, List.setIfInBounds_toArray, List.set_cons_zero, List.set_cons_succ]
    refine hand_take 6 (some 71) (.int .i64 (mk : Int)) rfl rfl (by kernel_rfl) (by kernel_rfl) (by kernel_rfl) (fun _ _ _ h => h) (Or.inl ⟨by kernel_rfl, fun x hSx => by go_simp⟩) hHeld ?_
    try simp only [Act.put, List.setIfInBounds_toArray, List.set_cons_zero, List.set_cons_succ]
    refine hand_one 4 (by kernel_rfl) ?_
    refine hand_run (some 69) rfl rfl rfl (.agg (plA (s.ar nd))) _ (exec_load 70 _ rfl (.pointer (some ⟨gs, 1 + nd * 258, none⟩)) rfl _ (load_ar w3.drew (HS.out.later dq) nd hn)) ?_
    refine ⟨hHeld, ?_⟩
    try simp only [Act.put, List.setIfInBounds_toArray, List.set_cons_zero, List.set_cons_succ]
    refine hand_one 7 (by kernel_rfl) ?_
    refine hand_call (some 72) rfl rfl rfl 34 #[.agg (plA (s.ar nd)), .agg (plA im), .int .i64 (mk : Int)] ?he ((laid10 (s.ar nd) im mk w3.drew (HS.out.wf.ar nd hn) hil hm16).mono ?_)
    (case he => go_simp)
    rintro e w5 ⟨rfl, hb5⟩
    have hb5' := undq hb5
    have hS5 := HS.out.later hb5'
    have hB5 := H3.out.2.2.1.later hb5'
    refine ⟨_, rfl, ?_⟩
    refine ⟨hB5, ?_⟩
    try simp only [Act.put, List.setIfInBounds_toArray, List.set_cons_zero, List.set_cons_succ]
    have hHeld := hB5
    refine hand_take 8 (some 73) (.pointer (some ⟨gs, 1 + nd * 258, none⟩)) rfl rfl (by kernel_rfl) (by kernel_rfl) (by kernel_rfl) (fun _ _ _ h => h) (Or.inl ⟨by kernel_rfl, fun x hSx => by go_simp⟩) hHeld ?_
    try simp only [Act.put, List.setIfInBounds_toArray, List.set_cons_zero, List.set_cons_succ]
    refine hand_take 9 (some 74) (.pointer (some ⟨gs, 1 + nd * 258, none⟩)) rfl rfl (by kernel_rfl) (by kernel_rfl) (by kernel_rfl) (fun _ _ _ h => h) (Or.inl ⟨by kernel_rfl, fun x hSx => by go_simp⟩) hHeld ?_
    try simp only [Act.put, List.setIfInBounds_toArray, List.set_cons_zero, List.set_cons_succ]
    have hlay := layB_length (s.ar nd) im mk (HS.out.wf.ar nd hn) hil
    refine hand_one 10 (by kernel_rfl) ?_
    refine hand_store rfl rfl rfl 70 (.tmp 74) (.tmp 72) rfl gs (1 + nd * 258) 75 cs (plA (layB (s.ar nd) im mk)) rfl rfl hS5.st (infoPl' _ hlay) (by rw [plA_size, hlay]; exact (hS5.sb.ext hS5.wf nd hn).2) (plA_one _) ?_
    intro w6 h61 h62
    have hS6 : SV w6 gs gp { s with ar := put1 s.ar nd (layB (s.ar nd) im mk) } (partA cs (1 + nd * 258) (toV (layB (s.ar nd) im mk))) ps := ⟨h61, hS5.sb.put hS5.wf nd hn _ hlay, h62.row hS5.pr (fun e => hS5.ne e.symm), hS5.pb.other _ rfl rfl, ⟨hS5.wf.n, hS5.wf.pl, fun m hm => by
      show (put1 s.ar nd _ m).length = 256
      by_cases e : m = nd
      · rw [e, put1_same]
        exact hlay
      · rw [put1_other _ _ _ _ e]
        exact hS5.wf.ar m hm, hS5.wf.id⟩⟩
    have hB6 := h62.row hB5 (fun e => HGB.out.1 e.symm)
    have hT6 : Tn (FS gs gp) w w6 := (Tn.of_below (H3.out.2.1.trans (hb5'.mono H3.out.2.1.size))).then (h62.tn (FS gs gp) (.inl rfl))
    refine ⟨hB6, ?_⟩
    try simp only [Act.put, List.setIfInBounds_toArray, List.set_cons_zero, List.set_cons_succ]
    refine wpAnyH_done (by kernel_rfl) ?_ _
    refine NoPanic.normal ?_
    have H6 := hide (And.intro hS6 (And.intro hB6 hT6))
    obtain ⟨cs6, hcs6⟩ : ∃ c, partA cs (1 + nd * 258) (toV (layB (s.ar nd) im mk)) = c := ⟨_, rfl⟩
    rw [hcs6] at H6
    have c06 := hS6.c0
    have c06 : w6.cell? ⟨gs, 0, none⟩ = some (.slice (some ⟨gp, 0, none⟩) s.n s.n) := c06
    have C06 := hide c06
    clear hcs6 c06 hS6 hB6 hT6 h61 h62 hlay hS5 hB5 hb5 hb5' hHeld HS H3
    have i4 : (i : Int) < (s.n : Int) := by have := HI.out; omega
    obtain ⟨q, hq⟩ : ∃ q, mk / 4 = q := ⟨_, rfl⟩
    have i5 : ((mk : Int) / 4) = (q : Int) := by omega
    have i7 : q < 16 := by omega
    have HQ := hide hq
    clear hq
    go_wp2_with fail
    refine wp_region_noPanic ?_
    refine wp_region_held_drew (S := fun y => y.cell? ⟨gs, 0, none⟩ = some (.slice (some ⟨gp, 0, none⟩) s.n s.n) ∧ RowAt y gB 70 (plA im)) (by kernel_rfl) (⟨C06.out, H6.out.2.1⟩) (fun hHeld => ?_)
    refine hand_take 0 (some 75) (.pointer (some ⟨gs, 0, none⟩)) rfl rfl (by kernel_rfl) (by kernel_rfl) (by kernel_rfl) (fun _ _ _ h => h) (Or.inl ⟨by kernel_rfl, fun x hSx => by go_simp⟩) hHeld ?_
    try simp only [Act.put, List.setIfInBounds_toArray, List.set_cons_zero, List.set_cons_succ]
    refine hand_take 1 (some 76) (.pointer (some ⟨gs, 0, none⟩)) rfl rfl (by kernel_rfl) (by kernel_rfl) (by kernel_rfl) (fun _ _ _ h => h) (Or.inl ⟨by kernel_rfl, fun x hSx => by go_simp⟩) hHeld ?_
    try simp only [Act.put, List.setIfInBounds_toArray, List.set_cons_zero, List.set_cons_succ]
    refine hand_take 2 (some 77) (.pointer (some ⟨gs, 0, none⟩)) rfl rfl (by kernel_rfl) (by kernel_rfl) (by kernel_rfl) (fun _ _ _ h => h) (Or.inl ⟨by kernel_rfl, fun x hSx => by go_simp⟩) hHeld ?_
    try simp only [Act.put, List.setIfInBounds_toArray, List.set_cons_zero, List.set_cons_succ]
    refine hand_take 3 (some 78) (.slice (some ⟨gp, 0, none⟩) s.n s.n) rfl rfl (by kernel_rfl) (by kernel_rfl) (by kernel_rfl) (fun _ _ _ h => h) (Or.inl ⟨by kernel_rfl, fun x hSx => by have h := hSx.1; go_simp⟩) hHeld ?_
    try simp only [Act.put, List.setIfInBounds_toArray, List.set_cons_zero, List.set_cons_succ]
    refine hand_take 4 (some 79) (.int .i64 (i : Int)) rfl rfl (by kernel_rfl) (by kernel_rfl) (by kernel_rfl) (fun _ _ _ h => h) (Or.inl ⟨by kernel_rfl, fun x hSx => by go_simp⟩) hHeld ?_
    try simp only [Act.put, List.setIfInBounds_toArray, List.set_cons_zero, List.set_cons_succ]
    refine hand_take 5 (some 80) (.pointer (some ⟨gs, 0, none⟩)) rfl rfl (by kernel_rfl) (by kernel_rfl) (by kernel_rfl) (fun _ _ _ h => h) (Or.inl ⟨by kernel_rfl, fun x hSx => by go_simp⟩) hHeld ?_
    try simp only [Act.put, List.setIfInBounds_toArray, List.set_cons_zero, List.set_cons_succ]
    refine hand_take 6 (some 81) (.pointer (some ⟨gs, 0, none⟩)) rfl rfl (by kernel_rfl) (by kernel_rfl) (by kernel_rfl) (fun _ _ _ h => h) (Or.inl ⟨by kernel_rfl, fun x hSx => by go_simp⟩) hHeld ?_
    try simp only [Act.put, List.setIfInBounds_toArray, List.set_cons_zero, List.set_cons_succ]
    refine hand_take 7 (some 82) (.pointer (some ⟨gs, 0, none⟩)) rfl rfl (by kernel_rfl) (by kernel_rfl) (by kernel_rfl) (fun _ _ _ h => h) (Or.inl ⟨by kernel_rfl, fun x hSx => by go_simp⟩) hHeld ?_
    try simp only [Act.put, List.setIfInBounds_toArray, List.set_cons_zero, List.set_cons_succ]
    refine hand_take 8 (some 83) (.slice (some ⟨gp, 0, none⟩) s.n s.n) rfl rfl (by kernel_rfl) (by kernel_rfl) (by kernel_rfl) (fun _ _ _ h => h) (Or.inl ⟨by kernel_rfl, fun x hSx => by have h := hSx.1; go_simp⟩) hHeld ?_
    try simp only [Act.put, List.setIfInBounds_toArray, List.set_cons_zero, List.set_cons_succ]
    refine hand_take 9 (some 84) (.int .i64 (i : Int)) rfl rfl (by kernel_rfl) (by kernel_rfl) (by kernel_rfl) (fun _ _ _ h => h) (Or.inl ⟨by kernel_rfl, fun x hSx => by go_simp⟩) hHeld ?_
    try simp only [Act.put, List.setIfInBounds_toArray, List.set_cons_zero, List.set_cons_succ]
    refine hand_take 10 (some 85) (.pointer (some ⟨gp, i * 256, none⟩)) rfl rfl (by kernel_rfl) (by kernel_rfl) (by kernel_rfl) (fun _ _ _ h => h) (Or.inl ⟨by kernel_rfl, fun x hSx => by go_simp⟩) hHeld ?_
    try simp only [Act.put, List.setIfInBounds_toArray, List.set_cons_zero, List.set_cons_succ]
    refine hand_take 12 (some 87) (.agg (plA im)) rfl rfl (by kernel_rfl) (by kernel_rfl) (by kernel_rfl) (fun _ _ _ h => h) (yieldsIf_load_run (by kernel_rfl) 70 _ rfl (.pointer (some ⟨gB, 0, none⟩)) rfl _ (fun x hSx => load_whole x gB im hil hSx.2)) hHeld ?_
    try simp only [Act.put, List.setIfInBounds_toArray, List.set_cons_zero, List.set_cons_succ]
    refine hand_take 13 (some 88) (.int .i64 (mk : Int)) rfl rfl (by kernel_rfl) (by kernel_rfl) (by kernel_rfl) (fun _ _ _ h => h) (Or.inl ⟨by kernel_rfl, fun x hSx => by go_simp⟩) hHeld ?_
    try simp only [Act.put, List.setIfInBounds_toArray, List.set_cons_zero, List.set_cons_succ]
    refine hand_take 14 (some 89) (.int .i64 (q : Int)) rfl rfl (by kernel_rfl) (by kernel_rfl) (by kernel_rfl) (fun _ _ _ h => h) (Or.inl ⟨by kernel_rfl, fun x hSx => by go_simp⟩) hHeld ?_
    try simp only [Act.put, List.setIfInBounds_toArray, List.set_cons_zero, List.set_cons_succ]
    refine hand_one 11 (by kernel_rfl) ?_
    refine hand_run (some 86) rfl rfl rfl (.agg (plA (s.pl i))) _ (exec_load 70 _ rfl (.pointer (some ⟨gp, i * 256, none⟩)) rfl _ (load_pl w6.drew (H6.out.1.later dq) i HI.out)) ?_
    refine ⟨hHeld, ?_⟩
    try simp only [Act.put, List.setIfInBounds_toArray, List.set_cons_zero, List.set_cons_succ]
    refine hand_one 15 (by kernel_rfl) ?_
    refine hand_call (some 90) rfl rfl rfl 34 #[.agg (plA (s.pl i)), .agg (plA im), .int .i64 (q : Int)] ?he ((laid10 (s.pl i) im q w6.drew (H6.out.1.wf.pl i HI.out) hil i7).mono ?_)
    (case he => go_simp)
    rintro e w7 ⟨rfl, hb7⟩
    have hb7' := undq hb7
    have hS7 := H6.out.1.later hb7'
    have hB7 := H6.out.2.1.later hb7'
    have c07 : w7.cell? ⟨gs, 0, none⟩ = some (.slice (some ⟨gp, 0, none⟩) s.n s.n) := hS7.c0
    refine ⟨_, rfl, ?_⟩
    refine ⟨⟨c07, hB7⟩, ?_⟩
    try simp only [Act.put, List.setIfInBounds_toArray, List.set_cons_zero, List.set_cons_succ]
    have hHeld := And.intro c07 hB7
    refine hand_take 16 (some 91) (.pointer (some ⟨gp, i * 256, none⟩)) rfl rfl (by kernel_rfl) (by kernel_rfl) (by kernel_rfl) (fun _ _ _ h => h) (Or.inl ⟨by kernel_rfl, fun x hSx => by go_simp⟩) hHeld ?_
    try simp only [Act.put, List.setIfInBounds_toArray, List.set_cons_zero, List.set_cons_succ]
    have hlay := layB_length (s.pl i) im q (H6.out.1.wf.pl i HI.out) hil
    refine hand_one 17 (by kernel_rfl) ?_
    refine hand_store rfl rfl rfl 70 (.tmp 91) (.tmp 90) rfl gp (i * 256) 70 ps (plA (layB (s.pl i) im q)) rfl rfl hS7.pr (infoPl' _ hlay) (by rw [plA_size, hlay]; exact (hS7.pb.ext hS7.wf i HI.out).2) (plA_one _) ?_
    intro w8 h81 h82
    have hP8 := hS7.pb.put hS7.wf i HI.out _ hlay
    have hst8 := h82.row hS7.st hS7.ne
    have hB8 := h82.row hB7 (fun e => HGB.out.2 e.symm)
    have hT8 : Tn (FS gs gp) w w8 := (H6.out.2.2.later hb7').then (h82.tn (FS gs gp) (.inr rfl))
    have hS8 : SV w8 gs gp ⟨s.n, put1 s.pl i (layB (s.pl i) im q), put1 s.ar nd (layB (s.ar nd) im mk), s.id, s.out⟩ cs6 _ := ⟨hst8, hS7.sb.other _ rfl rfl rfl rfl, h81, hP8, ⟨hS7.wf.n, fun k hk => by
      show (put1 s.pl i _ k).length = 256
      by_cases e : k = i
      · rw [e, put1_same]
        exact hlay
      · rw [put1_other _ _ _ _ e]
        exact hS7.wf.pl k hk, hS7.wf.ar, hS7.wf.id⟩⟩
    refine ⟨⟨hst8.cell 0 _ hS7.sb.sl, hB8⟩, ?_⟩
    try simp only [Act.put, List.setIfInBounds_toArray, List.set_cons_zero, List.set_cons_succ]
    refine wpAnyH_done (by kernel_rfl) ?_ _
    refine NoPanic.normal ?_
    have H8 := hide (And.intro hS8 hT8)
    have d1 := hS8.cid nd hn
    have d2 := hS8.cout nd hn
    have f1 := hS8.st.free (1 + nd * 258 + 256)
    have f2 := hS8.st.free (1 + nd * 258 + 257)
    clear hS8 hT8 hB8 hst8 hP8 h81 h82 hlay hHeld c07 hB7 hS7 hb7 hb7' H6 C06 i5
    have d1 : w8.cell? ⟨gs, 1 + nd * 258 + 256, none⟩ = some (.int .i64 (s.id nd)) := d1
    have d2 : w8.cell? ⟨gs, 1 + nd * 258 + 257, none⟩ = some (.bool (s.out nd)) := d2
    by_cases e15 : mk = 15
    · have j1 : ((mk : Int) == 15) = true := by simp; omega
      have HF := hide (show SAt w8 gs gp (s.wGo nd i p mk) from by
        unfold Sc.wGo
        rw [if_pos e15, if_pos e15, HIM.out, HQ.out]
        exact ⟨_, _, H8.out.1⟩)
      have hr := HR.out
      rw [if_pos e15] at hr
      subst hr
      clear e15
      go_wp2
      go_ret
      exact ⟨rfl, HF.out, H8.out.2⟩
    · have j1 : ((mk : Int) == 15) = false := by simp; omega
      have HF := hide (show SAt ((w8.setCell ⟨gs, 1 + nd * 258 + 256, none⟩ (.int .i64 (i : Int))).setCell ⟨gs, 1 + nd * 258 + 257, none⟩ (.bool true)) gs gp (s.wGo nd i p mk) from by
        unfold Sc.wGo
        rw [if_neg e15, if_neg e15, HIM.out, HQ.out]
        have q1 := H8.out.1.sb.setId H8.out.1.wf nd hn (i : Int)
        have q0 : Sc.wf ⟨s.n, put1 s.pl i (layB (s.pl i) im q), put1 s.ar nd (layB (s.ar nd) im mk), put1 s.id nd (i : Int), s.out⟩ := ⟨H8.out.1.wf.n, H8.out.1.wf.pl, H8.out.1.wf.ar, fun m hm ho => by
          show 0 ≤ put1 s.id nd (i : Int) m ∧ put1 s.id nd (i : Int) m < (s.n : Int)
          by_cases e : m = nd
          · rw [e, put1_same]
            omega
          · rw [put1_other _ _ _ _ e]
            exact H8.out.1.wf.id m hm ho⟩
        have q2 := q1.setOut q0 nd hn true
        refine ⟨_, _, (H8.out.1.st.set (1 + nd * 258 + 256) (.int .i64 (i : Int))).set (1 + nd * 258 + 257) (.bool true), q2, (H8.out.1.pr.other _ _ (fun e => H8.out.1.ne e.symm)).other _ _ (fun e => H8.out.1.ne e.symm), H8.out.1.pb.other _ rfl rfl, ⟨q0.n, q0.pl, q0.ar, fun m hm ho => ?_⟩⟩
        show 0 ≤ put1 s.id nd (i : Int) m ∧ put1 s.id nd (i : Int) m < (s.n : Int)
        by_cases e : m = nd
        · rw [e, put1_same]
          omega
        · have ho2 : put1 s.out nd true m = true := ho
          rw [put1_other _ _ _ _ e] at ho2 ⊢
          exact H8.out.1.wf.id m hm ho2)
      have hr := HR.out
      rw [if_neg e15] at hr
      subst hr
      clear e15
      go_wp2
      go_ret
      exact ⟨rfl, HF.out, (H8.out.2.set gs _ _ (.inl rfl)).set gs _ _ (.inl rfl)⟩
end
end Go.Proofs.Ytfeghhgniahfkaa

/-
  The contract of package store's Mend.
-/
namespace Go.Proofs.Ytfeghhgniahfkaa
open Go.RowKit
set_option linter.unusedVariables false

set_option maxRecDepth 4000 in
set_option maxHeartbeats 800000 in
theorem mend10_arg (v : Option Addr) (n : Nat) (node mask : Int) (w : World) (HP : Calls Try.prog 13 #[.pointer v] w fun e w' => e = .returned (.int .i64 (n : Int)) ∧ w = w') (hbad : ¬ (0 < n ∧ 0 ≤ node ∧ node < 8 ∧ 0 ≤ mask ∧ mask ≤ 3)) :
    Calls Try.prog 14 #[.pointer v, .int .i64 node, .int .i64 mask] w fun e w' => e = .returned (.int .i64 1) ∧ w = w' := by
  have N := fun w => isNode10 node w
  have HPg := hide HP
  clear HP
  by_cases h0 : n = 0
  · subst h0
    clear N hbad
    go_enter Try.func14, Try.ntmps14
    go_wp2_with fail
    refine HPg.out.mono ?_
    rintro e w1 ⟨rfl, rfl⟩
    go_wp2
    go_ret
    exact ⟨rfl, rfl⟩
  · have j0 : ((n : Int) == 0) = false := by simp; omega
    by_cases h1 : 0 ≤ node ∧ node < 8
    · rw [decide_eq_true h1] at N
      have HN := hide N
      by_cases h2 : mask < 0
      · clear N hbad h1 h0
        go_enter Try.func14, Try.ntmps14
        go_wp2_with fail
        refine HPg.out.mono ?_
        rintro e w1 ⟨rfl, rfl⟩
        go_wp2_with fail
        refine (HN.out _).mono ?_
        rintro e w1 ⟨rfl, rfl⟩
        go_wp2
        go_ret
        exact ⟨rfl, rfl⟩
      · have h3 : 3 < mask := by omega
        clear N hbad h1 h0
        go_enter Try.func14, Try.ntmps14
        go_wp2_with fail
        refine HPg.out.mono ?_
        rintro e w1 ⟨rfl, rfl⟩
        go_wp2_with fail
        refine (HN.out _).mono ?_
        rintro e w1 ⟨rfl, rfl⟩
        go_wp2
        go_ret
        exact ⟨rfl, rfl⟩
    · rw [decide_eq_false h1] at N
      have HN := hide N
      clear N hbad h1 h0
      go_enter Try.func14, Try.ntmps14
      go_wp2_with fail
      refine HPg.out.mono ?_
      rintro e w1 ⟨rfl, rfl⟩
      go_wp2_with fail
      refine (HN.out _).mono ?_
      rintro e w1 ⟨rfl, rfl⟩
      go_wp2
      go_ret
      exact ⟨rfl, rfl⟩

section
variable {gs gp : Nat} {s : Sc} {cs ps : Array Value}
theorem SB.c0 {x : World} (h : SB cs gp s) (hr : RowAt x gs 75 cs) : x.cell? ⟨gs, 0, none⟩ = some (.slice (some ⟨gp, 0, none⟩) s.n s.n) := hr.cell 0 _ h.sl
theorem SB.cid {x : World} (h : SB cs gp s) (hw : s.wf) (hr : RowAt x gs 75 cs) (m : Nat) (hm : m < 8) : x.cell? ⟨gs, 1 + m * 258 + 256, none⟩ = some (.int .i64 (s.id m)) := hr.cell _ _ ((h.ar m hm).cell 256 _ (arL_id _ _ _ (hw.ar m hm)))
theorem load_ar2 (x : World) (h : RowAt x gs 75 cs) (hb : SB cs gp s) (hw : s.wf) (m : Nat) (hm : m < 8) : (Instr.loadAt 70 (.pointer (some ⟨gs, 1 + m * 258, none⟩))).run Try.prog x = .ok (.agg (plA (s.ar m))) x := by
  have h1 := load_part (P := Try.prog) x 75 70 gs (1 + m * 258) 256 cs h _ Try.underlying70 rfl infoPl (hb.ext hw m hm).2
  rwa [(hb.ext hw m hm).1] at h1
/-- A node that is out no more. -/
theorem SV.undone {x : World} {ps : Array Value} (h : SV x gs gp s cs ps) (m : Nat) (hm : m < 8) : SAt (x.setCell ⟨gs, 1 + m * 258 + 257, none⟩ (.bool false)) gs gp { s with out := put1 s.out m false } :=
  ⟨_, _, h.st.set _ _, h.sb.setOut h.wf m hm false, h.pr.other _ _ (fun e => h.ne e.symm), h.pb.other _ rfl rfl, ⟨h.wf.n, h.wf.pl, h.wf.ar, fun k hk ho => by
    have ho2 : put1 s.out m false k = true := ho
    by_cases e : k = m
    · rw [e, put1_same] at ho2
      cases ho2
    · rw [put1_other _ _ _ _ e] at ho2
      exact h.wf.id k hk ho2⟩⟩

variable (nd mk : Nat) (w : World)
set_option maxRecDepth 4000 in
set_option maxHeartbeats 800000 in
theorem mend10_idle (h : SAt w gs gp s) (hn : nd < 8) (h0 : 0 < s.n) (hm : mk ≤ 3) (ho : s.out nd = false) :
    Calls Try.prog 14 #[.pointer (some ⟨gs, 0, none⟩), .int .i64 (nd : Int), .int .i64 (mk : Int)] w fun e w' => e = .returned (.int .i64 0) ∧ w = w' := by
  have N := isNode10 nd w
  rw [decide_eq_true (by omega)] at N
  have HN := hide N
  have HPg := hide (pages10 h)
  have c1 := h.cout nd hn
  rw [ho] at c1
  have i1 : (nd : Int) < 8 := by omega
  have j0 : ((s.n : Int) == 0) = false := by simp; omega
  have j1 : ¬ (mk : Int) < 0 := by omega
  have j2 : ¬ (3 : Int) < (mk : Int) := by omega
  clear N h h0
  go_enter Try.func14, Try.ntmps14
  go_wp2_with fail
  refine HPg.out.mono ?_
  rintro e w1 ⟨rfl, rfl⟩
  go_wp2_with fail
  refine HN.out.mono ?_
  rintro e w1 ⟨rfl, rfl⟩
  go_wp2
  go_ret
  exact ⟨rfl, rfl⟩

set_option maxRecDepth 4000 in
set_option maxHeartbeats 3200000 in
theorem mend10_out (h : SAt w gs gp s) (hn : nd < 8) (h0 : 0 < s.n) (hm : mk ≤ 3) (ho : s.out nd = true) (r : Int) (HR : Hid (r = if tornB (s.pl (s.id nd).toNat) = true ∧ mk ≠ 3 then 9 else 0)) :
    Calls Try.prog 14 #[.pointer (some ⟨gs, 0, none⟩), .int .i64 (nd : Int), .int .i64 (mk : Int)] w fun e w' => e = .returned (.int .i64 r) ∧ SAt w' gs gp (if tornB (s.pl (s.id nd).toNat) = true then (if mk = 3 then { s.mPl nd mk with out := put1 s.out nd false } else s.mPl nd mk) else { s with out := put1 s.out nd false }) ∧ Tn (FS gs gp) w w' := by
  obtain ⟨F, hF⟩ : ∃ F, F = (if tornB (s.pl (s.id nd).toNat) = true then (if mk = 3 then { s.mPl nd mk with out := put1 s.out nd false } else s.mPl nd mk) else { s with out := put1 s.out nd false }) := ⟨_, rfl⟩
  rw [← hF]
  have N := isNode10 nd w
  rw [decide_eq_true (by omega)] at N
  have HN := hide N
  have HPg := hide (pages10 h)
  have c1 := h.cout nd hn
  rw [ho] at c1
  have i1 : (nd : Int) < 8 := by omega
  have j0 : ((s.n : Int) == 0) = false := by simp; omega
  have j1 : ¬ (mk : Int) < 0 := by omega
  have j2 : ¬ (3 : Int) < (mk : Int) := by omega
  have hid := h.wf.id nd hn ho
  obtain ⟨k, hk⟩ := Int.eq_ofNat_of_zero_le hid.1
  have hk' : s.id nd = (k : Int) := hk
  rw [hk', Int.toNat_natCast] at HR hF
  have hkn : k < s.n := by omega
  have HLT := hide h.lt
  obtain ⟨cs, ps, hS⟩ := h
  have hlk := hS.wf.pl k hkn
  have HS := hide hS
  have HK := hide (And.intro hk' hkn)
  have HF := hide hF
  have i4 : (k : Int) < (s.n : Int) := by omega
  clear N hS h0 hk hk' hid ho hF hkn
  obtain ⟨b, hb⟩ : ∃ b, s.pl k = b := ⟨_, rfl⟩
  rw [hb] at HR HF hlk
  have HB := hide hb
  clear hb
  go_enter Try.func14, Try.ntmps14
  go_wp2_with fail
  refine HPg.out.mono ?_
  rintro e w1 ⟨rfl, rfl⟩
  go_wp2_with fail
  refine HN.out.mono ?_
  rintro e w1 ⟨rfl, rfl⟩
  go_wp2_with fail
  clear c1 HPg HN j0
  refine wp_region_noPanic ?_
  refine wp_region_held_drew (S := fun y => SV y gs gp s cs ps) (by kernel_rfl) (HS.out.later dq) (fun hHeld => ?_)
  refine hand_take 0 (some 35) (.pointer (some ⟨gs, 0, none⟩)) rfl rfl (by kernel_rfl) (by kernel_rfl) (by kernel_rfl) (fun _ _ _ h => h) (Or.inl ⟨by kernel_rfl, fun x hSx => by go_simp⟩) hHeld ?_
  try simp only [Act.put, List.setIfInBounds_toArray, List.set_cons_zero, List.set_cons_succ]
  refine hand_take 1 (some 36) (.pointer (some ⟨gs, 0, none⟩)) rfl rfl (by kernel_rfl) (by kernel_rfl) (by kernel_rfl) (fun _ _ _ h => h) (Or.inl ⟨by kernel_rfl, fun x hSx => by go_simp⟩) hHeld ?_
  try simp only [Act.put, List.setIfInBounds_toArray, List.set_cons_zero, List.set_cons_succ]
  refine hand_take 2 (some 37) (.pointer (some ⟨gs, 0, none⟩)) rfl rfl (by kernel_rfl) (by kernel_rfl) (by kernel_rfl) (fun _ _ _ h => h) (Or.inl ⟨by kernel_rfl, fun x hSx => by go_simp⟩) hHeld ?_
  try simp only [Act.put, List.setIfInBounds_toArray, List.set_cons_zero, List.set_cons_succ]
  refine hand_take 3 (some 38) (.slice (some ⟨gp, 0, none⟩) s.n s.n) rfl rfl (by kernel_rfl) (by kernel_rfl) (by kernel_rfl) (fun _ _ _ h => h) (Or.inl ⟨by kernel_rfl, fun x hSx => by have h := hSx.c0; go_simp⟩) hHeld ?_
  try simp only [Act.put, List.setIfInBounds_toArray, List.set_cons_zero, List.set_cons_succ]
  refine hand_take 4 (some 39) (.pointer (some ⟨gs, 1 + nd * 258, none⟩)) rfl rfl (by kernel_rfl) (by kernel_rfl) (by kernel_rfl) (fun _ _ _ h => h) (Or.inl ⟨by kernel_rfl, fun x hSx => by go_simp⟩) hHeld ?_
  try simp only [Act.put, List.setIfInBounds_toArray, List.set_cons_zero, List.set_cons_succ]
  refine hand_take 5 (some 40) (.pointer (some ⟨gs, 1 + nd * 258, none⟩)) rfl rfl (by kernel_rfl) (by kernel_rfl) (by kernel_rfl) (fun _ _ _ h => h) (Or.inl ⟨by kernel_rfl, fun x hSx => by go_simp⟩) hHeld ?_
  try simp only [Act.put, List.setIfInBounds_toArray, List.set_cons_zero, List.set_cons_succ]
  refine hand_take 6 (some 41) (.pointer (some ⟨gs, 1 + nd * 258 + 256, none⟩)) rfl rfl (by kernel_rfl) (by kernel_rfl) (by kernel_rfl) (fun _ _ _ h => h) (Or.inl ⟨by kernel_rfl, fun x hSx => by go_simp⟩) hHeld ?_
  try simp only [Act.put, List.setIfInBounds_toArray, List.set_cons_zero, List.set_cons_succ]
  refine hand_take 7 (some 42) (.int .i64 (k : Int)) rfl rfl (by kernel_rfl) (by kernel_rfl) (by kernel_rfl) (fun _ _ _ h => h) (Or.inl ⟨by kernel_rfl, fun x hSx => by have h := hSx.cid nd hn; rw [HK.out.1] at h; go_simp⟩) hHeld ?_
  try simp only [Act.put, List.setIfInBounds_toArray, List.set_cons_zero, List.set_cons_succ]
  refine hand_take 8 (some 43) (.pointer (some ⟨gp, k * 256, none⟩)) rfl rfl (by kernel_rfl) (by kernel_rfl) (by kernel_rfl) (fun _ _ _ h => h) (Or.inl ⟨by kernel_rfl, fun x hSx => by go_simp⟩) hHeld ?_
  try simp only [Act.put, List.setIfInBounds_toArray, List.set_cons_zero, List.set_cons_succ]
  refine hand_take 9 (some 44) (.agg (plA b)) rfl rfl (by kernel_rfl) (by kernel_rfl) (by kernel_rfl) (fun _ _ _ h => h) (yieldsIf_load_run (by kernel_rfl) 70 _ rfl (.pointer (some ⟨gp, k * 256, none⟩)) rfl _ (fun x hSx => by have h := load_pl x hSx k HK.out.2; rw [HB.out] at h; exact h)) hHeld ?_
  try simp only [Act.put, List.setIfInBounds_toArray, List.set_cons_zero, List.set_cons_succ]
  refine hand_one 10 (by kernel_rfl) ?_
  refine hand_run (some 8) rfl rfl rfl (.pointer (some ⟨w.heap.size, 0, none⟩)) (w.drew.alloc (.cells Try.zeroCells70 70)) ?hz ?_
  (case hz => go_simp)
  have hba : Below w.heap.size w (w.drew.alloc (.cells Try.zeroCells70 70)) := dq.alloc (Nat.le_refl _) _
  have za : RowAt (w.drew.alloc (.cells Try.zeroCells70 70)) w.heap.size 70 Try.zeroCells70 := RowAt.new w.drew _ _
  refine ⟨HS.out.later hba, ?_⟩
  try simp only [Act.put, List.setIfInBounds_toArray, List.set_cons_zero, List.set_cons_succ]
  refine hand_one 11 (by kernel_rfl) ?_
  refine hand_store rfl rfl rfl 70 (.tmp 8) (.tmp 44) rfl w.heap.size 0 70 Try.zeroCells70 (plA b) rfl rfl za (infoPl' _ hlk) (by rw [plA_size, hlk, zPl]; omega) (plA_one _) ?_
  intro w3 h31 h32
  rw [partA_all _ _ (by rw [zPl, plA_size, hlk])] at h31
  have hb3 := h32.below hba (Nat.le_refl _)
  have H3 := hide (And.intro (HS.out.later hb3) (And.intro hb3 h31))
  refine ⟨HS.out.later hb3, ?_⟩
  try simp only [Act.put, List.setIfInBounds_toArray, List.set_cons_zero, List.set_cons_succ]
  refine wpAnyH_done (by kernel_rfl) ?_ _
  refine NoPanic.normal ?_
  clear hba za h31 h32 hb3 HS hHeld
  go_wp2_with (refine wpList_load_at rfl 70 _ rfl w.heap.size rfl (plA b) H3.out.2.2 _ Try.underlying70 rfl (infoPl' b hlk) ?_)
  refine (bytes10 b w3 hlk).mono ?_
  rintro e w4 ⟨v4, rfl, ho4, hb4⟩
  obtain ⟨a4, cap4, rfl, hcap4, hB4⟩ := shape_isB ho4
  have HTo := hide (torn_any a4 256 cap4 b w4 hB4 (by omega) hcap4)
  have H4 := hide (And.intro (H3.out.1.later hb4) (And.intro (H3.out.2.1.trans (hb4.mono H3.out.2.1.size)) (H3.out.2.2.later hb4)))
  clear ho4 hb4 hB4 hcap4 H3
  go_wp2_with fail
  refine HTo.out.mono ?_
  rintro e w5 ⟨rfl, hb5⟩
  have H5 := hide (And.intro (H4.out.1.later hb5) (And.intro (H4.out.2.1.trans (hb5.mono H4.out.2.1.size)) (H4.out.2.2.later hb5)))
  clear hb5 H4 HTo
  cases hto : tornB b with
  | false =>
    have HF2 := hide (show F = { s with out := put1 s.out nd false } from by rw [HF.out, if_neg (by rw [hto]; simp)])
    have hr : r = 0 := by rw [HR.out, if_neg (by rw [hto]; simp)]
    subst hr
    have d2 := H5.out.1.cout nd hn
    have f2 := H5.out.1.st.free (1 + nd * 258 + 257)
    go_wp2
    go_ret
    exact ⟨rfl, by rw [HF2.out]; exact H5.out.1.undone nd hn, (Tn.of_below H5.out.2.1).set gs _ _ (.inl rfl)⟩
  | true =>
    have HF2 := hide (show F = if mk = 3 then { s.mPl nd mk with out := put1 s.out nd false } else s.mPl nd mk from by rw [HF.out, if_pos hto])
    have HR2 := hide (show r = if mk = 3 then 0 else 9 from by
      rw [HR.out]
      by_cases e3 : mk = 3
      · rw [if_neg (fun g => g.2 e3), if_pos e3]
      · rw [if_pos ⟨hto, e3⟩, if_neg e3])
    clear hto HR HF
    go_wp2_with fail
    refine wp_region_noPanic ?_
    refine wp_region_held_drew (S := fun y => RowAt y gs 75 cs ∧ RowAt y w.heap.size 70 (plA b)) (by kernel_rfl) (⟨H5.out.1.st, H5.out.2.2⟩) (fun hHeld => ?_)
    refine hand_take 0 (some 48) (.pointer (some ⟨gs, 0, none⟩)) rfl rfl (by kernel_rfl) (by kernel_rfl) (by kernel_rfl) (fun _ _ _ h => h) (Or.inl ⟨by kernel_rfl, fun x hSx => by go_simp⟩) hHeld ?_
    try simp only [Act.put, List.setIfInBounds_toArray, List.set_cons_zero, List.set_cons_succ]
    refine hand_take 1 (some 49) (.pointer (some ⟨gs, 0, none⟩)) rfl rfl (by kernel_rfl) (by kernel_rfl) (by kernel_rfl) (fun _ _ _ h => h) (Or.inl ⟨by kernel_rfl, fun x hSx => by go_simp⟩) hHeld ?_
    try simp only [Act.put, List.setIfInBounds_toArray, List.set_cons_zero, List.set_cons_succ]
    refine hand_take 2 (some 50) (.pointer (some ⟨gs, 0, none⟩)) rfl rfl (by kernel_rfl) (by kernel_rfl) (by kernel_rfl) (fun _ _ _ h => h) (Or.inl ⟨by kernel_rfl, fun x hSx => by go_simp⟩) hHeld ?_
    try simp only [Act.put, List.setIfInBounds_toArray, List.set_cons_zero, List.set_cons_succ]
    refine hand_take 3 (some 51) (.slice (some ⟨gp, 0, none⟩) s.n s.n) rfl rfl (by kernel_rfl) (by kernel_rfl) (by kernel_rfl) (fun _ _ _ h => h) (Or.inl ⟨by kernel_rfl, fun x hSx => by have h := H5.out.1.sb.c0 hSx.1; go_simp⟩) hHeld ?_
    try simp only [Act.put, List.setIfInBounds_toArray, List.set_cons_zero, List.set_cons_succ]
    refine hand_take 4 (some 52) (.pointer (some ⟨gs, 1 + nd * 258, none⟩)) rfl rfl (by kernel_rfl) (by kernel_rfl) (by kernel_rfl) (fun _ _ _ h => h) (Or.inl ⟨by kernel_rfl, fun x hSx => by go_simp⟩) hHeld ?_
    try simp only [Act.put, List.setIfInBounds_toArray, List.set_cons_zero, List.set_cons_succ]
    refine hand_take 5 (some 53) (.pointer (some ⟨gs, 1 + nd * 258, none⟩)) rfl rfl (by kernel_rfl) (by kernel_rfl) (by kernel_rfl) (fun _ _ _ h => h) (Or.inl ⟨by kernel_rfl, fun x hSx => by go_simp⟩) hHeld ?_
    try simp only [Act.put, List.setIfInBounds_toArray, List.set_cons_zero, List.set_cons_succ]
    refine hand_take 6 (some 54) (.pointer (some ⟨gs, 1 + nd * 258 + 256, none⟩)) rfl rfl (by kernel_rfl) (by kernel_rfl) (by kernel_rfl) (fun _ _ _ h => h) (Or.inl ⟨by kernel_rfl, fun x hSx => by go_simp⟩) hHeld ?_
    try simp only [Act.put, List.setIfInBounds_toArray, List.set_cons_zero, List.set_cons_succ]
    refine hand_take 7 (some 55) (.int .i64 (k : Int)) rfl rfl (by kernel_rfl) (by kernel_rfl) (by kernel_rfl) (fun _ _ _ h => h) (Or.inl ⟨by kernel_rfl, fun x hSx => by have h := H5.out.1.sb.cid H5.out.1.wf hSx.1 nd hn; rw [HK.out.1] at h; go_simp⟩) hHeld ?_
    try simp only [Act.put, List.setIfInBounds_toArray, List.set_cons_zero, List.set_cons_succ]
    refine hand_take 8 (some 56) (.agg (plA b)) rfl rfl (by kernel_rfl) (by kernel_rfl) (by kernel_rfl) (fun _ _ _ h => h) (yieldsIf_load_run (by kernel_rfl) 70 _ rfl (.pointer (some ⟨w.heap.size, 0, none⟩)) rfl _ (fun x hSx => load_whole x w.heap.size b hlk hSx.2)) hHeld ?_
    try simp only [Act.put, List.setIfInBounds_toArray, List.set_cons_zero, List.set_cons_succ]
    refine hand_take 9 (some 57) (.pointer (some ⟨gs, 1 + nd * 258, none⟩)) rfl rfl (by kernel_rfl) (by kernel_rfl) (by kernel_rfl) (fun _ _ _ h => h) (Or.inl ⟨by kernel_rfl, fun x hSx => by go_simp⟩) hHeld ?_
    try simp only [Act.put, List.setIfInBounds_toArray, List.set_cons_zero, List.set_cons_succ]
    refine hand_take 10 (some 58) (.pointer (some ⟨gs, 1 + nd * 258, none⟩)) rfl rfl (by kernel_rfl) (by kernel_rfl) (by kernel_rfl) (fun _ _ _ h => h) (Or.inl ⟨by kernel_rfl, fun x hSx => by go_simp⟩) hHeld ?_
    try simp only [Act.put, List.setIfInBounds_toArray, List.set_cons_zero, List.set_cons_succ]
    refine hand_take 11 (some 59) (.pointer (some ⟨gs, 1 + nd * 258, none⟩)) rfl rfl (by kernel_rfl) (by kernel_rfl) (by kernel_rfl) (fun _ _ _ h => h) (Or.inl ⟨by kernel_rfl, fun x hSx => by go_simp⟩) hHeld ?_
    try simp only [Act.put, List.setIfInBounds_toArray, List.set_cons_zero, List.set_cons_succ]
    refine hand_take 12 (some 60) (.agg (plA (s.ar nd))) rfl rfl (by kernel_rfl) (by kernel_rfl) (by kernel_rfl) (fun _ _ _ h => h) (yieldsIf_load_run (by kernel_rfl) 70 _ rfl (.pointer (some ⟨gs, 1 + nd * 258, none⟩)) rfl _ (fun x hSx => load_ar2 x hSx.1 H5.out.1.sb H5.out.1.wf nd hn)) hHeld ?_
    try simp only [Act.put, List.setIfInBounds_toArray, List.set_cons_zero, List.set_cons_succ]
    refine hand_take 13 (some 61) (.int .i64 (mk : Int)) rfl rfl (by kernel_rfl) (by kernel_rfl) (by kernel_rfl) (fun _ _ _ h => h) (Or.inl ⟨by kernel_rfl, fun x hSx => by go_simp⟩) hHeld ?_
    try simp only [Act.put, List.setIfInBounds_toArray, List.set_cons_zero, List.set_cons_succ]
    refine hand_one 14 (by kernel_rfl) ?_
    refine hand_call (some 62) rfl rfl rfl 34 #[.agg (plA b), .agg (plA (s.ar nd)), .int .i64 (mk : Int)] ?he ((laid10 b (s.ar nd) mk w5.drew hlk (H5.out.1.wf.ar nd hn) (by omega)).mono ?_)
    (case he => go_simp)
    rintro e w7 ⟨rfl, hb7⟩
    have hb7' := undq hb7
    have hS7 := H5.out.1.later hb7'
    have hB7 := H5.out.2.2.later hb7'
    refine ⟨_, rfl, ?_⟩
    refine ⟨⟨hS7.st, hB7⟩, ?_⟩
    try simp only [Act.put, List.setIfInBounds_toArray, List.set_cons_zero, List.set_cons_succ]
    have hHeld := And.intro hS7.st hB7
    refine hand_take 15 (some 63) (.pointer (some ⟨gp, k * 256, none⟩)) rfl rfl (by kernel_rfl) (by kernel_rfl) (by kernel_rfl) (fun _ _ _ h => h) (Or.inl ⟨by kernel_rfl, fun x hSx => by go_simp⟩) hHeld ?_
    try simp only [Act.put, List.setIfInBounds_toArray, List.set_cons_zero, List.set_cons_succ]
    have hlay := layB_length b (s.ar nd) mk hlk (H5.out.1.wf.ar nd hn)
    refine hand_one 16 (by kernel_rfl) ?_
    refine hand_store rfl rfl rfl 70 (.tmp 63) (.tmp 62) rfl gp (k * 256) 70 ps (plA (layB b (s.ar nd) mk)) rfl rfl hS7.pr (infoPl' _ hlay) (by rw [plA_size, hlay]; exact (hS7.pb.ext hS7.wf k HK.out.2).2) (plA_one _) ?_
    intro w8 h81 h82
    have hP8 := hS7.pb.put hS7.wf k HK.out.2 _ hlay
    have hst8 := h82.row hS7.st hS7.ne
    have hB8 := h82.row hB7 (fun e => by have := HLT.out; omega)
    have hT8 : Tn (FS gs gp) w w8 := (Tn.of_below (H5.out.2.1.trans (hb7'.mono H5.out.2.1.size))).then (h82.tn (FS gs gp) (.inr rfl))
    have eP : s.mPl nd mk = { s with pl := put1 s.pl k (layB b (s.ar nd) mk) } := by
      unfold Sc.mPl
      rw [HK.out.1, Int.toNat_natCast, HB.out]
    have hS8 : SV w8 gs gp (s.mPl nd mk) cs (partA ps (k * 256) (toV (layB b (s.ar nd) mk))) := by
      rw [eP]
      exact ⟨hst8, hS7.sb.other _ rfl rfl rfl rfl, h81, hP8, ⟨hS7.wf.n, fun j hj => by
        show (put1 s.pl k _ j).length = 256
        by_cases e : j = k
        · rw [e, put1_same]
          exact hlay
        · rw [put1_other _ _ _ _ e]
          exact hS7.wf.pl j hj, hS7.wf.ar, hS7.wf.id⟩⟩
    refine ⟨⟨hst8, hB8⟩, ?_⟩
    try simp only [Act.put, List.setIfInBounds_toArray, List.set_cons_zero, List.set_cons_succ]
    refine wpAnyH_done (by kernel_rfl) ?_ _
    refine NoPanic.normal ?_
    have H8 := hide (And.intro hS8 hT8)
    have d2 : w8.cell? ⟨gs, 1 + nd * 258 + 257, none⟩ = some (.bool (s.out nd)) := hS8.cout nd hn
    have f2 := hS8.st.free (1 + nd * 258 + 257)
    clear hS8 hT8 hB8 hst8 hP8 h81 h82 hlay hHeld hB7 hS7 hb7 hb7' H5 eP
    by_cases e3 : mk = 3
    · have j1 : ((mk : Int) == 3) = true := by simp; omega
      have j5 : ((mk : Int) != 3) = false := by simp; omega
      have HF3 := HF2.out
      rw [if_pos e3] at HF3
      have hr := HR2.out
      rw [if_pos e3] at hr
      have HF4 := hide HF3
      subst hr
      clear e3 HF3 HF2 HR2
      go_wp2
      go_ret
      exact ⟨rfl, by rw [HF4.out]; exact H8.out.1.undone nd hn, H8.out.2.set gs _ _ (.inl rfl)⟩
    · have j1 : ((mk : Int) == 3) = false := by simp; omega
      have j5 : ((mk : Int) != 3) = true := by simp; omega
      have HF3 := HF2.out
      rw [if_neg e3] at HF3
      have hr := HR2.out
      rw [if_neg e3] at hr
      have HF4 := hide HF3
      subst hr
      clear e3 HF3 HF2 HR2
      go_wp2
      go_ret
      exact ⟨rfl, by rw [HF4.out]; exact ⟨_, _, H8.out.1⟩, H8.out.2⟩
end
/-- THE CONTRACTS of Write and Mend. -/
theorem write10 {gs gp : Nat} {s : Sc} {w : World} (node id : Int) (p : Pg) (mask : Int) (h : SAt w gs gp s) :
    Calls Try.prog 15 #[.pointer (some ⟨gs, 0, none⟩), .int .i64 node, .int .i64 id, .agg (pgA p), .int .i64 mask] w fun e w' => e = .returned (.int .i64 (s.wE node id p mask)) ∧ SAt w' gs gp (s.wS node id p mask) ∧ Tn (FS gs gp) w w' := by
  by_cases h1 : (0 ≤ node ∧ node < 8) ∧ (0 ≤ id ∧ id < (s.n : Int)) ∧ maskOk mask
  · obtain ⟨nd, rfl⟩ := Int.eq_ofNat_of_zero_le h1.1.1
    obtain ⟨i, rfl⟩ := Int.eq_ofNat_of_zero_le h1.2.1.1
    have hm := h1.2.2
    obtain ⟨mk, rfl⟩ := Int.eq_ofNat_of_zero_le (show 0 ≤ mask by omega)
    have hn : nd < 8 := by omega
    have hi : i < s.n := by omega
    by_cases hp : p.right
    · have hmay : s.may nd i p mk := ⟨h1.1.1, h1.1.2, h1.2.1.1, h1.2.1.2, h1.2.2, hp⟩
      by_cases hst : s.out nd = true ∨ s.busy (i : Int) = true ∨ p.l ≤ (stampB (s.pl i)).1
      · have e : s.wE nd i p mk = 13 := by
          unfold Sc.wE
          rw [if_neg (fun g => g hmay), Int.toNat_natCast, Int.toNat_natCast, if_pos hst]
        have e2 : s.wS nd i p mk = s := Sc.wS_no (by rw [e]; omega)
        rw [e, e2]
        exact (write10_state nd i p mk w h hn hi hm hp hst).mono fun e w' g => ⟨g.1, h.later g.2, Tn.of_below g.2⟩
      · have ho : s.out nd = false := by
          cases e : s.out nd with
          | false => rfl
          | true => exact absurd (.inl e) hst
        have hu : s.busy (i : Int) = false := by
          cases e : s.busy (i : Int) with
          | false => rfl
          | true => exact absurd (.inr (.inl e)) hst
        have hl : (stampB (s.pl i)).1 < p.l := by
          refine Classical.byContradiction fun g => hst (.inr (.inr ?_))
          omega
        have e : s.wE nd i p mk = if mk = 15 then 0 else 9 := by
          unfold Sc.wE
          rw [if_neg (fun g => g hmay), Int.toNat_natCast, Int.toNat_natCast, if_neg hst]
          by_cases e15 : mk = 15
          · rw [if_pos (by omega), if_pos e15]
          · rw [if_neg (by omega), if_neg e15]
        have e2 : s.wS nd i p mk = s.wGo nd i p mk := by
          unfold Sc.wS
          rw [if_pos (by rw [e]; split <;> omega), Int.toNat_natCast, Int.toNat_natCast, Int.toNat_natCast]
        rw [e2]
        exact write10_go nd i p mk w h hn hi hm hp ho hu hl _ e
    · have e : s.wE nd i p mk = 1 := by
        unfold Sc.wE
        rw [if_pos (fun g => hp g.2.2.2.2.2)]
      have e2 : s.wS nd i p mk = s := Sc.wS_no (by rw [e]; omega)
      rw [e, e2]
      exact (write10_wrong nd i p mk w h hn hi hm hp).mono fun e w' g => ⟨g.1, h.later g.2, Tn.of_below g.2⟩
  · have e : s.wE node id p mask = 1 := by
      unfold Sc.wE
      rw [if_pos (fun g => h1 ⟨⟨g.1, g.2.1⟩, ⟨g.2.2.1, g.2.2.2.1⟩, g.2.2.2.2.1⟩)]
    have e2 : s.wS node id p mask = s := Sc.wS_no (by rw [e]; omega)
    rw [e, e2]
    exact (write10_arg (some ⟨gs, 0, none⟩) s.n node id p mask w (fun x hx => pages10 (h.later hx)) h1).mono fun e w' g => ⟨g.1, h.later g.2, Tn.of_below g.2⟩
theorem mend10 {gs gp : Nat} {s : Sc} {w : World} (node mask : Int) (h : SAt w gs gp s) :
    Calls Try.prog 14 #[.pointer (some ⟨gs, 0, none⟩), .int .i64 node, .int .i64 mask] w fun e w' => e = .returned (.int .i64 (s.mE node mask)) ∧ SAt w' gs gp (s.mS node mask) ∧ Tn (FS gs gp) w w' := by
  by_cases h1 : 0 < s.n ∧ 0 ≤ node ∧ node < 8 ∧ 0 ≤ mask ∧ mask ≤ 3
  · obtain ⟨nd, rfl⟩ := Int.eq_ofNat_of_zero_le h1.2.1
    obtain ⟨mk, rfl⟩ := Int.eq_ofNat_of_zero_le h1.2.2.2.1
    have hn : nd < 8 := by omega
    have hm : mk ≤ 3 := by omega
    have eE : s.mE nd mk = if s.out nd = true ∧ tornB (s.pl (s.id nd).toNat) = true ∧ (mk : Int) ≠ 3 then 9 else 0 := by
      unfold Sc.mE
      rw [if_neg (fun g => g h1), Int.toNat_natCast]
    have eS : s.mS nd mk = if s.mE nd mk = 1 ∨ s.out nd = false then s else if tornB (s.pl (s.id nd).toNat) = true then (if (mk : Int) = 3 then { s.mPl nd mk with out := put1 s.out nd false } else s.mPl nd mk) else { s with out := put1 s.out nd false } := by
      unfold Sc.mS
      simp only [Int.toNat_natCast]
    cases ho : s.out nd with
    | false =>
      have e1 : s.mE nd mk = 0 := by rw [eE, if_neg (by rw [ho]; simp)]
      have e2 : s.mS nd mk = s := by rw [eS, if_pos (.inr ho)]
      rw [e1, e2]
      exact (mend10_idle nd mk w h hn h1.1 hm ho).mono fun e w' g => ⟨g.1, by rw [← g.2]; exact h, by rw [← g.2]; exact Tn.refl _ _⟩
    | true =>
      have e1 : s.mE nd mk = if tornB (s.pl (s.id nd).toNat) = true ∧ mk ≠ 3 then 9 else 0 := by
        rw [eE]
        by_cases g : tornB (s.pl (s.id nd).toNat) = true ∧ mk ≠ 3
        · rw [if_pos g, if_pos ⟨ho, g.1, by omega⟩]
        · rw [if_neg g, if_neg (fun q => g ⟨q.2.1, by omega⟩)]
      have e3 : s.mE nd mk ≠ 1 := by rw [e1]; split <;> omega
      have e2 : s.mS nd mk = if tornB (s.pl (s.id nd).toNat) = true then (if mk = 3 then { s.mPl nd mk with out := put1 s.out nd false } else s.mPl nd mk) else { s with out := put1 s.out nd false } := by
        rw [eS, if_neg (fun g => by rcases g with g | g; exact e3 g; rw [ho] at g; cases g)]
        by_cases g : mk = 3
        · rw [if_pos g, if_pos (show (mk : Int) = 3 by omega)]
        · rw [if_neg g, if_neg (show ¬ (mk : Int) = 3 by omega)]
      rw [e2]
      exact mend10_out nd mk w h hn h1.1 hm ho _ e1
  · have e : s.mE node mask = 1 := by
      unfold Sc.mE
      rw [if_pos h1]
    have e2 : s.mS node mask = s := by
      unfold Sc.mS
      rw [if_pos (.inl e)]
    rw [e, e2]
    exact (mend10_arg (some ⟨gs, 0, none⟩) s.n node mask w (pages10 h) h1).mono fun e w' g => ⟨g.1, by rw [← g.2]; exact h, by rw [← g.2]; exact Tn.refl _ _⟩
end Go.Proofs.Ytfeghhgniahfkaa
