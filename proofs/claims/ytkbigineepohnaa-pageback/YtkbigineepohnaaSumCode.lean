/-
  The contracts of package sum.
-/
import Derived.Test.YtkbigineepohnaaInfo8
import Derived.Test.YtkbigineepohnaaPackMath
import Derived.Test.YtkbigineepohnaaSumMath
import Derived.WalkSpells
import Derived.Laws.CopyOwn
import Derived.Deep.QuietTactic
import Derived.BigQuiet
namespace Go.Proofs.Ytkbigineepohnaa
open Go.RowKit
set_option linter.unusedVariables false


theorem sx_yes (q : Nat) (hq : q < 2 ^ 32) (ht : q % 2 = 1) : bits .xor .u32 ((q : Int) / 2) 3988292384 = ((stp q : Nat) : Int) := by
  have e : ((q : Int) / 2) = ((q / 2 : Nat) : Int) := by omega
  have e2 : (3988292384 : Int) = ((3988292384 : Nat) : Int) := rfl
  rw [e, e2, u32_xor_nat (q / 2) 3988292384 (by omega) (by omega), stp, if_pos ht]
  rfl
theorem sx_no (q : Nat) (ht : ¬ q % 2 = 1) : (q : Int) / 2 = ((stp q : Nat) : Int) := by
  rw [stp, if_neg ht]
  omega

theorem sx_and (q : Nat) (hq : q < 2 ^ 32) : bits .and .u32 (q : Int) 1 = ((q % 2 : Nat) : Int) := by
  have e := u32_and_nat q 1 (by omega) (by omega)
  rw [Nat.and_one_is_mod] at e
  exact e
theorem sx_t (q : Nat) (hq : q < 2 ^ 32) (ht : q % 2 = 1) : (bits .and .u32 (q : Int) 1 == 1) = true := by
  rw [sx_and q hq, ht]
  rfl
theorem sx_f (q : Nat) (hq : q < 2 ^ 32) (ht : ¬ q % 2 = 1) : (bits .and .u32 (q : Int) 1 == 1) = false := by
  have h0 : q % 2 = 0 := by omega
  rw [sx_and q hq, h0]
  rfl

set_option maxHeartbeats 400000 in
theorem shift_at (r c x : Nat) (w : World) (hr : r < 2 ^ 32) (hc : c < 256) (hx : x < 2 ^ 32) (e0 : bits .xor .u32 (r : Int) (c : Int) = ((x : Nat) : Int)) :
    Calls Try.prog 48 #[.int .u32 r, .int .u8 c] w fun e w' => e = .returned (.int .u32 (stps 8 x : Nat)) ∧ w = w' := by
  go_enter Try.func48, Try.ntmps48
  go_wp2
  clear e0
  go_loop [0, 10] (fun q i => ∃ j : Nat, j ≤ 8 ∧ i = .int .i64 j ∧ q = .int .u32 (stps j x : Nat)) (fun _ i => 8 - (intOf i).toNat)
  case atStart => exact ⟨0, Nat.zero_le _, rfl, rfl⟩
  case round =>
    obtain ⟨j, hj, rfl, rfl⟩ := hrel
    by_cases hlt : j < 8
    · have hq := stps_lt j x hx
      have hs := stps_succ j x
      generalize stps j x = q at *
      by_cases ht : q % 2 = 1
      · have h1 := sx_t q hq ht
        go_wp2
        go_round
        case rel => exact ⟨j + 1, by omega, by go_num, by rw [hs]; exact congrArg (Value.int .u32) (sx_yes q hq ht)⟩
        case measure => simp [intOf]; omega
      · have h1 := sx_f q hq ht
        go_wp2
        go_round
        case rel => exact ⟨j + 1, by omega, by go_num, by rw [hs]; exact congrArg (Value.int .u32) (sx_no q ht)⟩
        case measure => simp [intOf]; omega
    · go_wp2
      go_ret
      obtain rfl : j = 8 := by omega
      exact ⟨rfl, rfl⟩

theorem shift_any (r : Nat) (c : UInt8) (w : World) (hr : r < 2 ^ 32) :
    Calls Try.prog 48 #[.int .u32 r, .int .u8 c.toNat] w fun e w' => e = .returned (.int .u32 (byteS r c : Nat)) ∧ w = w' :=
  shift_at r c.toNat (r ^^^ c.toNat) w hr c.toNat_lt (Nat.xor_lt_two_pow hr (u8_lt32 c)) (u32_xor_nat r c.toNat (by omega) (by have := c.toNat_lt; omega))

theorem told_step (q m j x : Nat) (hj : j < 4) (hm : m < 256) (hq : q < 256 ^ j) (hx : x = q + m * 256 ^ j) : bits .or .u32 (q : Int) ((m : Int) * 2 ^ (8 * j) % 4294967296) = ((x : Nat) : Int) := by
  subst hx
  have hp : 256 ^ j * 256 ≤ 4294967296 := by
    have h2 : 256 ^ (j + 1) ≤ 256 ^ 4 := Nat.pow_le_pow_right (by omega) (by omega)
    rw [Nat.pow_succ] at h2
    exact h2
  have e1 : (2 : Int) ^ (8 * j) = ((256 ^ j : Nat) : Int) := by
    rw [Int.pow_mul]
    simp
  have hmx : m * 256 ^ j + 256 ^ j ≤ 4294967296 := by
    have h3 : (m + 1) * 256 ^ j ≤ 256 * 256 ^ j := Nat.mul_le_mul_right _ (by omega)
    rw [Nat.add_mul, Nat.one_mul] at h3
    omega
  have e2 : (m : Int) * 2 ^ (8 * j) % 4294967296 = ((m * 256 ^ j : Nat) : Int) := by
    have e3 : (m : Int) * ((256 ^ j : Nat) : Int) = ((m * 256 ^ j : Nat) : Int) := by rw [Int.natCast_mul]
    rw [e1, e3]
    omega
  have hpw : 256 ^ j = 2 ^ (8 * j) := by rw [Nat.pow_mul]
  rw [e2, u32_or_nat q (m * 256 ^ j) (by omega) (by omega)]
  have e4 : q ||| m * 256 ^ j = q + m * 256 ^ j := by
    rw [Nat.or_comm, hpw, Nat.mul_comm m, ← Nat.two_pow_add_eq_or_of_lt (by rw [← hpw]; exact hq), Nat.add_comm]
  rw [e4]

set_option maxHeartbeats 400000 in
theorem told_ok (b off cap : Nat) (bs : List UInt8) (w : World) (hb : bs.length = 4)
    (hc : ∀ j, j < 4 → w.cell? ⟨b, off + j, none⟩ = some (.int .u8 ((bs.getD j 0).toNat : Int))) :
    Calls Try.prog 39 #[.slice (some ⟨b, off, none⟩) 4 cap] w fun e w' => e = .returned (.int .u32 (leN bs : Nat)) ∧ w = w' := by
  go_enter Try.func39, Try.ntmps39
  go_wp2
  go_loop [3, 5] (fun q i => ∃ j : Nat, j ≤ 4 ∧ i = .int .i64 j ∧ q = .int .u32 (leN (bs.take j) : Nat)) (fun _ i => 4 - (intOf i).toNat)
  case atStart => exact ⟨0, Nat.zero_le _, rfl, rfl⟩
  case round =>
    obtain ⟨j, hj, rfl, rfl⟩ := hrel
    by_cases hlt : j < 4
    · have hq := leN_lt (bs.take j)
      rw [List.length_take, Nat.min_eq_left (by omega)] at hq
      have hs := leN_take bs j (by omega)
      have hcj := hc j hlt
      have hm : (bs.getD j 0).toNat < 256 := (bs.getD j 0).toNat_lt
      clear hc
      generalize leN (bs.take j) = q at *
      generalize (bs.getD j 0).toNat = m at *
      go_wp2
      go_round
      case rel => exact ⟨j + 1, by omega, by go_num, congrArg (Value.int .u32) (told_step q m j _ hlt hm hq hs)⟩
      case measure => simp [intOf]; omega
    · go_wp2
      go_ret
      obtain rfl : j = 4 := by omega
      rw [List.take_of_length_le (by omega)]
      exact ⟨rfl, rfl⟩

theorem um_xor (m : Nat) (hm : m < 2 ^ 32) : bits .xor .u32 IntKind.u32.max (m : Int) = ((ones ^^^ m : Nat) : Int) := u32_xor_nat ones m (by decide) (by omega)

set_option maxHeartbeats 400000 in
theorem more_at (m x : Nat) (a : Option Addr) (len cap : Nat) (bs : List UInt8) (w : World) (hm : m < 2 ^ 32) (hx : x < 2 ^ 32) (hB : IsB w a len bs) (hl : len ≤ 140737488355328)
    (e0 : bits .xor .u32 IntKind.u32.max (m : Int) = ((x : Nat) : Int)) :
    Calls Try.prog 43 #[.int .u32 m, .slice a len cap] w fun e w' => e = .returned (.int .u32 (ones ^^^ crun x bs : Nat)) ∧ w = w' := by
  have hsg : ¬ IntKind.u32.signed = true := by decide
  go_enter Try.func43, Try.ntmps43
  go_wp2
  clear e0
  go_loop [5, 12] (fun q i => ∃ j : Nat, j ≤ len ∧ i = .int .i64 j ∧ q = .int .u32 (crun x (bs.take j) : Nat)) (fun _ i => len - (intOf i).toNat)
  case atStart => exact ⟨0, Nat.zero_le _, rfl, rfl⟩
  case round =>
    obtain ⟨j, hj, rfl, rfl⟩ := hrel
    by_cases hlt : j < len
    · obtain ⟨b, off, rfl, hbl, hc⟩ := hB.2 (by omega)
      have hq := crun_lt (bs.take j) x hx
      have hs : crun x (bs.take (j + 1)) = byteS (crun x (bs.take j)) (bs.getD j 0) := by
        have hjl : j < bs.length := by rw [hB.1]; exact hlt
        rw [List.take_succ_eq_append_getElem hjl, crun_snoc]
        simp [List.getD, List.getElem?_eq_getElem hjl]
      have hcj := hc j hlt
      clear hc hB
      generalize crun x (bs.take j) = q at *
      have R := shift_any q (bs.getD j 0) w hq
      have hm : (bs.getD j 0).toNat < 256 := (bs.getD j 0).toNat_lt
      generalize byteS q (bs.getD j 0) = q2 at *
      generalize (bs.getD j 0).toNat = c at *
      have HR := hide R
      clear R
      go_wp2_with fail
      refine HR.out.mono ?_
      rintro e w1 ⟨rfl, rfl⟩
      go_wp2
      go_round
      case rel => exact ⟨j + 1, by omega, by go_num, by rw [hs]⟩
      case measure => simp [intOf]; omega
    · obtain rfl : j = len := by omega
      have hx2 := crun_lt (bs.take j) x hx
      have e1 := um_xor _ hx2
      go_wp2
      go_ret
      have e2 := hB.1
      rw [List.take_of_length_le (by omega)]
      exact ⟨rfl, rfl⟩

theorem more_any (m : Nat) (a : Option Addr) (len cap : Nat) (bs : List UInt8) (w : World) (hm : m < 2 ^ 32) (hB : IsB w a len bs) (hl : len ≤ 140737488355328) :
    Calls Try.prog 43 #[.int .u32 m, .slice a len cap] w fun e w' => e = .returned (.int .u32 (crcMore m bs : Nat)) ∧ w = w' :=
  more_at m (ones ^^^ m) a len cap bs w hm (Nat.xor_lt_two_pow ones_lt hm) hB hl (um_xor m hm)

set_option maxHeartbeats 400000 in
theorem of_any (a : Option Addr) (len cap : Nat) (bs : List UInt8) (w : World) (hB : IsB w a len bs) (hl : len ≤ 140737488355328) :
    Calls Try.prog 33 #[.slice a len cap] w fun e w' => e = .returned (.int .u32 (crc bs : Nat)) ∧ w = w' := by
  have e0 : crcMore 0 bs = crc bs := by rw [crcMore, crc, Nat.xor_zero]
  have R := more_any 0 a len cap bs w (by decide) hB hl
  rw [e0] at R
  have HR := hide R
  clear R
  go_enter Try.func33, Try.ntmps33
  go_wp2_with fail
  refine HR.out.mono ?_
  rintro e w1 ⟨rfl, rfl⟩
  go_wp2
  go_ret
  exact ⟨rfl, rfl⟩

set_option maxHeartbeats 400000 in
theorem open_short (a : Option Addr) (len cap : Nat) (w : World) (h : len < 4) :
    Calls Try.prog 26 #[.slice a len cap] w fun e w' => e = .returned (.tuple #[.slice none 0 0, .int .i64 4]) ∧ w = w' := by
  go_enter Try.func26, Try.ntmps26
  go_wp2
  go_ret2
  exact ⟨rfl, rfl⟩

theorem below_drw {B : Nat} {w w' : World} (h : Below B w w') (k : Nat) : Below B w (w'.drewN k) := ⟨h.1, h.2, h.3, h.4, h.5⟩
theorem isB_drewN {w : World} {a : Option Addr} {len k : Nat} {bs : List UInt8} (h : IsB w a len bs) : IsB (w.drewN k) a len bs := h

theorem told_any (a : Option Addr) (cap : Nat) (bs : List UInt8) (w : World) (hB : IsB w a 4 bs) :
    Calls Try.prog 39 #[.slice a 4 cap] w fun e w' => e = .returned (.int .u32 (leN bs : Nat)) ∧ w = w' := by
  obtain ⟨b, off, rfl, _, hc⟩ := hB.2 (by omega)
  exact told_ok b off cap bs w hB.1 hc

theorem of_q (a : Option Addr) (len cap k : Nat) (bs : List UInt8) (w : World) (hB : IsB w a len bs) (hl : len ≤ 140737488355328) :
    Calls Try.prog 33 #[.slice a len cap] (w.drewN k) fun e w' => e = .returned (.int .u32 (crc bs : Nat)) ∧ w' = w.drewN k :=
  (of_any a len cap bs (w.drewN k) (isB_drewN hB) hl).mono fun e w' ⟨he, hw⟩ => ⟨he, hw.symm⟩
theorem told_q (a : Option Addr) (cap k : Nat) (bs : List UInt8) (w : World) (hB : IsB w a 4 bs) :
    Calls Try.prog 39 #[.slice a 4 cap] (w.drewN k) fun e w' => e = .returned (.int .u32 (leN bs : Nat)) ∧ w' = w.drewN k :=
  (told_any a cap bs (w.drewN k) (isB_drewN hB)).mono fun e w' ⟨he, hw⟩ => ⟨he, hw.symm⟩

set_option maxHeartbeats 400000 in
theorem open_no (b off n cap x y : Nat) (w : World) (hcap : n + 4 ≤ cap) (hl : n ≤ 140737488355328) (hne : ((x : Int) != (y : Int)) = true)
    (H1 : Hid (∀ k cap, Calls Try.prog 33 #[.slice (some ⟨b, off, none⟩) n cap] (w.drewN k) fun e w' => e = .returned (.int .u32 (x : Nat)) ∧ w' = w.drewN k))
    (H2 : Hid (∀ k cap, Calls Try.prog 39 #[.slice (some ⟨b, off + n, none⟩) 4 cap] (w.drewN k) fun e w' => e = .returned (.int .u32 (y : Nat)) ∧ w' = w.drewN k)) :
    Calls Try.prog 26 #[.slice (some ⟨b, off, none⟩) (n + 4) cap] w fun e w' => e = .returned (.tuple #[.slice none 0 0, .int .i64 3]) ∧ Below w.heap.size w w' := by
  go_enter Try.func26, Try.ntmps26
  go_wp2_with fail
  go_quiet (first | (go_at_call 33; exact Calls.quiet_of_same (H1.out _ _)) | (go_at_call 39; exact Calls.quiet_of_same (H2.out _ _)))
  go_wp2
  go_ret2
  exact ⟨rfl, below_drw (Below.refl _ _) nq⟩

set_option maxHeartbeats 400000 in
theorem open_yes (b off n cap x : Nat) (bs : List UInt8) (w : World) (hcap : n + 4 ≤ cap) (hl : n ≤ 140737488355328) (hB : IsB w (some ⟨b, off, none⟩) n bs)
    (H1 : Hid (∀ k cap, Calls Try.prog 33 #[.slice (some ⟨b, off, none⟩) n cap] (w.drewN k) fun e w' => e = .returned (.int .u32 (x : Nat)) ∧ w' = w.drewN k))
    (H2 : Hid (∀ k cap, Calls Try.prog 39 #[.slice (some ⟨b, off + n, none⟩) 4 cap] (w.drewN k) fun e w' => e = .returned (.int .u32 (x : Nat)) ∧ w' = w.drewN k)) :
    Calls Try.prog 26 #[.slice (some ⟨b, off, none⟩) (n + 4) cap] w fun e w' => ∃ v, e = .returned (.tuple #[v, .int .i64 0]) ∧ w'.ownsRow w.heap.size 5 1 v n (toV bs) ∧ Below w.heap.size w w' := by
  have hmk := run_mkn (P := Try.prog) 29 5 Try.underlying29 info8 n (by omega)
  have HB := hide hB
  clear hB
  go_enter Try.func26, Try.ntmps26
  go_wp2_with fail
  go_quiet (first | (go_at_call 33; exact Calls.quiet_of_same (H1.out _ _)) | (go_at_call 39; exact Calls.quiet_of_same (H2.out _ _)))
  have hB1 := isB_drewN (k := nq) HB.out
  have hb1 := below_drw (Below.refl w.heap.size w) nq
  generalize w.drewN nq = w1 at *
  clear H1 H2 HB
  have hrow : (w1.alloc (.cells (zrow n).toArray 5)).heap[w1.heap.size]? = some (.cells (zrow n).toArray 5 (0, 0)) := heap_alloc_new w1 _
  have hlb := hB1.1
  go_wp2_with (refine wpList_copy_splice rfl (.tmp 23) (.tmp 24) 29 29 rfl 5 Try.underlying29 info8s (some ⟨w1.heap.size, 0, none⟩) (some ⟨b, off, none⟩) n n (n + 4) cap rfl rfl w1.heap.size 0 (zrow n) 5 hrow (toV bs) (by rw [toV_length, hlb]; exact (Nat.min_eq_right (Nat.le_add_right n 4)).symm) (hB1.hpos _ _) (by rw [toV_length, zrow_length, hlb]; omega) (toV_one bs) w.heap.size w (hb1.alloc hb1.size _) hb1.size ?_)
  intro w2 HG hb2
  go_wp2
  go_ret2
  exact ⟨_, rfl, owns_spliced (m := 0) hlb hb1.size (by omega) HG.out, hb2⟩

theorem own_cap {w : World} {base n cap size : Nat} {e : TypeId} {a : Option Addr} {xs : List Value} (h : w.ownsRow base e size (.slice a n cap) n xs) : n ≤ cap := by
  rcases h.2 with ⟨hv, h0⟩ | ⟨g, cap', cur, hv, _, _, hn, _⟩
  · omega
  · injection hv with _ _ h3
    omega

/-- THE CONTRACT of Open. -/
theorem open_any (a : Option Addr) (len cap : Nat) (bs : List UInt8) (w : World) (hB : IsB w a len bs) (hl : len ≤ 140737488355328) (hcap : len ≤ cap) :
    Calls Try.prog 26 #[.slice a len cap] w fun e w' => ∃ v, e = .returned (.tuple #[v, .int .i64 (openS bs).2]) ∧ w'.ownsRow w.heap.size 5 1 v (openS bs).1.length (toV (openS bs).1) ∧ Below w.heap.size w w' := by
  have hb := hB.1
  by_cases h : len < 4
  · rw [openS_short bs (by omega)]
    refine (open_short a len cap w h).mono ?_
    rintro e w' ⟨rfl, rfl⟩
    exact ⟨_, rfl, World.ownsRow_nil _ _ _ _, Below.refl _ _⟩
  obtain ⟨n, rfl⟩ : ∃ n, len = n + 4 := ⟨len - 4, by omega⟩
  obtain ⟨b, off, rfl, hlt, hc⟩ := hB.2 (by omega)
  have e1 : bs.length - 4 = n := by omega
  have c1 : IsB w (some ⟨b, off, none⟩) n (bs.take n) := by
    have h1 := IsB.cut hb hlt hc 0 n (by omega)
    rwa [List.drop_zero] at h1
  have c2 : IsB w (some ⟨b, off + n, none⟩) 4 (bs.drop n) := by
    have h1 := IsB.cut hb hlt hc n 4 (by omega)
    rwa [List.take_of_length_le (by rw [List.length_drop]; omega)] at h1
  have H1 := fun k cap => of_q _ n cap k _ w c1 (by omega)
  have H2 := fun k cap => told_q _ cap k _ w c2
  by_cases h2 : leN (bs.drop (bs.length - 4)) = crc (bs.take (bs.length - 4))
  · rw [openS_ok bs (by omega) h2, e1]
    rw [e1] at h2
    rw [h2] at H2
    have e2 : (bs.take n).length = n := c1.1
    rw [e2]
    exact open_yes b off n cap _ _ w hcap (by omega) c1 H1 H2
  · rw [openS_no bs (by omega) h2]
    rw [e1] at h2
    refine (open_no b off n cap _ _ w hcap (by omega) (by rw [bne_iff_ne]; omega) H1 H2).mono ?_
    rintro e w' ⟨rfl, hbel⟩
    exact ⟨_, rfl, World.ownsRow_nil _ _ _ _, hbel⟩

set_option maxHeartbeats 400000 in
theorem seal_any (a : Option Addr) (len cap : Nat) (bs : List UInt8) (w : World) (hB : IsB w a len bs) (hl : len ≤ 140737488355328) :
    Calls Try.prog 21 #[.slice a len cap] w fun e w' => ∃ v, e = .returned v ∧ w'.ownsRow w.heap.size 5 1 v (len + 4) (toV (bs ++ leB (crc bs))) ∧ Below w.heap.size w w' := by
  obtain ⟨x, ex⟩ : ∃ x, x = crc bs := ⟨_, rfl⟩
  rw [← ex]
  obtain ⟨i0, hi, hz0, hz1, hz2⟩ := info_parts info8
  have hmk := run_mk (P := Try.prog) 29 5 Try.underlying29 info8 len 4 (by omega)
  have hmk2 : ∀ w : World, (Instr.makeSlice 29 (.int .i64 (len : Int)) (.int .i64 ((len : Int) + 4))).run Try.prog w = .ok (.slice (some ⟨w.heap.size, 0, none⟩) len (len + 4)) (w.alloc (.cells (zrow (len + 4)).toArray 5)) := hmk
  have hrow : (w.alloc (.cells (zrow (len + 4)).toArray 5)).heap[w.heap.size]? = some (.cells (zrow (len + 4)).toArray 5 (0, 0)) := heap_alloc_new w _
  clear hmk
  go_enter Try.func21, Try.ntmps21
  go_wp2_with (refine wpList_copy_splice rfl (.tmp 12) (.tmp 13) 29 29 rfl 5 Try.underlying29 info8s (some ⟨w.heap.size, 0, none⟩) a len (len + 4) len cap rfl rfl w.heap.size 0 (zrow (len + 4)) 5 hrow (toV bs) (by rw [toV_length, hB.1]; exact (Nat.min_self _).symm) (hB.hpos _ _) (by rw [toV_length, zrow_length, hB.1]; omega) (toV_one bs) w.heap.size w ((Below.refl _ _).alloc (Nat.le_refl _) _) (Nat.le_refl _) ?_)
  intro w2 HG hb2
  have hown := owns_spliced (m := 4) hB.1 (Nat.le_refl w.heap.size) (by omega) HG.out
  have R := of_any a len cap bs w2 (hB.below hb2) hl
  have hx := crc_lt bs
  rw [← ex] at R hx
  clear ex
  have HR := hide R
  clear R HG hrow hmk2
  go_wp2_with fail
  refine HR.out.mono ?_
  rintro e w1 ⟨rfl, rfl⟩
  go_wp2
  go_loopw [3, 17] (fun v i wr => ∃ j : Nat, j ≤ 4 ∧ i = .int .i64 j ∧ v = .slice (some ⟨w.heap.size, 0, none⟩) (len + j) (len + 4) ∧ wr.ownsRow w.heap.size 5 1 (.slice (some ⟨w.heap.size, 0, none⟩) (len + j) (len + 4)) (len + j) (toV (bs ++ (leB x).take j)) ∧ Below w.heap.size w wr) (fun _ i _ => 4 - (intOf i).toNat)
  case atStart => exact ⟨0, Nat.zero_le _, rfl, rfl, by simpa using hown, hb2⟩
  case round =>
    obtain ⟨j, hj, rfl, rfl, hownr, hbr⟩ := hrel
    clear hown hb2
    by_cases hlt : j < 4
    · go_wp2_with (at_builtin; refine wpList_append_fits _ rfl (.tmp 20) (.tmp 26) 29 rfl w.heap.size 5 i0 1 Try.underlying29 hi hz1 w.heap.size (len + j) (len + 4) _ rfl (hownr.alloc _) ⟨wr.heap.size, 0, none⟩ 1 1 [.int .u8 ((x : Int) / 2 ^ (8 * j) % 256)] rfl rfl (cell_one_new _ _ _) (by simp [Value.oneCell']) (by omega) ?_)
      intro w2 hown2 hgr
      rw [byte_at] at hown2
      have hown3 := put_row hown2 (leB_take x j hlt)
      have hb3 : Below w.heap.size w w2 := (hbr.alloc hbr.size _).grown hgr (by simp; have := hbr.size; omega) (by simp)
      clear hown2 hgr hownr
      go_wp2
      go_roundw
      case rel => exact ⟨j + 1, by omega, by go_num, by simp [Nat.add_assoc], hown3, hb3⟩
      case measure => simp [intOf]; omega
    · go_wp2
      go_ret
      obtain rfl : j = 4 := by omega
      exact ⟨_, rfl, hownr, hbr⟩
end Go.Proofs.Ytkbigineepohnaa
