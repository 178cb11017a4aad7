/-
  The contracts of quaysideref04's functions.
-/
import Derived.Test.YtkbigineepohnaaPageMem
import Derived.Test.YtkbigineepohnaaPageRefRight
import Derived.Test.YtkbigineepohnaaPackRefNumber
import Derived.Test.YtkbigineepohnaaPackRefTake
import Derived.Test.YtkbigineepohnaaSumRefSeal
import Derived.WalkSpells
import Derived.Laws.OwnMore
namespace Go.Proofs.Ytkbigineepohnaa
open Go.RowKit
set_option linter.unusedVariables false

/-- A string's length. -/
def strLen : Value → Nat
  | .string s => s.size
  | _ => 0

theorem mk_vals (l : List UInt8) (s : ByteArray) : (⟨l.toArray⟩ : ByteArray) ++ s = ⟨(l ++ valB true s).toArray⟩ := by
  have h := mk_append l s.data.toList
  rw [mk_self] at h
  exact h

theorem num1 (n : Nat) (w : World) (hn : n < 256) : ∃ N : ByteArray, N.size = 1 ∧ N = ⟨#[UInt8.ofNat n]⟩ ∧
    ∀ w, Calls Try.prog 36 #[.int .i64 1, .int .u64 n] w fun e w' => e = .returned (.string N) ∧ Below w.heap.size w w' := by
  have e : beB 1 n = [UInt8.ofNat n] := by simp [beB]
  refine ⟨⟨#[UInt8.ofNat n]⟩, rfl, rfl, fun w => ?_⟩
  have h := number_any 1 n w (by omega) (by omega)
  rw [e] at h
  exact h

set_option maxRecDepth 4000 in
set_option maxHeartbeats 400000 in
theorem rtale_any (id : Nat) (p : Pg) (w : World) (hid : id < 32) (hp : p.right) :
    Calls Try.prog 37 #[.int .i64 id, .agg (pgA p)] w fun e w' => e = .returned (.string ⟨(taleB id p).toArray⟩) ∧ Below w.heap.size w w' := by
  have hP : PgAt (w.alloc (.cells (pgA p) 27)) w.heap.size p := heap_alloc_new w _
  have hb0 : Below w.heap.size w (w.alloc (.cells (pgA p) 27)) := (Below.refl _ _).alloc (Nat.le_refl _) _
  have hz0 : w.heap.size < (w.alloc (.cells (pgA p) 27)).heap.size := by simp
  have HR := hide hp
  clear hp
  go_enter Try.func37, Try.ntmps37
  go_wp2_with fail
  generalize w.alloc (.cells (pgA p) 27) = w0 at *
  refine (number_any 2 id w0 (by omega) (by omega)).mono ?_
  rintro e w1 ⟨rfl, hb1⟩
  have hP1 := hP.below hb1 hz0
  have c1 := hb0.trans (hb1.mono hb0.size)
  have hz1 : w.heap.size < w1.heap.size := Nat.lt_of_lt_of_le hz0 hb1.size
  clear hP hb0 hz0 hb1
  go_wp2
  go_loopw [5, 6, 7] (fun s v i wr => ∃ j : Nat, j ≤ 8 ∧ i = .int .i64 j ∧ s = .string ⟨(beB 2 id ++ lensB p j).toArray⟩ ∧ v = .string ⟨(valsB p j).toArray⟩ ∧ Below w.heap.size w wr ∧ w.heap.size < wr.heap.size ∧ PgAt wr w.heap.size p) (fun _ _ i _ => 8 - (intOf i).toNat)
  case atStart => exact ⟨0, Nat.zero_le _, rfl, by simp [lensB], rfl, c1, hz1, hP1⟩
  case round =>
    obtain ⟨j, hj, rfl, rfl, rfl, hbr, hzr, hPr⟩ := hrel
    clear hP1 c1 hz1
    have z1 := size_mk (beB 2 id ++ lensB p j)
    have z2 := size_mk (valsB p j)
    have z3 := valsB_le p HR.out j hj
    rw [List.length_append, beB_length, lensB_length] at z1
    by_cases hlt : j < 8
    · have c1 := hPr.used j hlt
      have c2 := hPr.val j hlt
      have HP := hide hPr
      have HL := hide (lensB_succ p j)
      have HV := hide (valsB_succ p j)
      have hok := HR.out.2 j hlt
      clear hPr
      generalize p.u j = u at *
      generalize p.s j = s at *
      generalize hS : (⟨(beB 2 id ++ lensB p j).toArray⟩ : ByteArray) = S at *
      generalize hV : (⟨(valsB p j).toArray⟩ : ByteArray) = V at *
      have HS := hide hS
      have HV2 := hide hV
      have h20 := hok.1
      clear hS hV hok
      cases u with
      | true =>
        obtain ⟨N, n1, n2, hN⟩ := num1 s.size wr (by omega)
        have HN := hide hN
        have HN2 := hide n2
        clear hN n2
        have hsz : S.size + N.size ≤ 9223372036854775807 := by omega
        have hvz : V.size + s.size ≤ 9223372036854775807 := by omega
        go_wp2_with fail
        refine (HN.out _).mono ?_
        rintro e w2 ⟨rfl, hb2⟩
        have hP2 := HP.out.below hb2 hzr
        have hz2 : w.heap.size < w2.heap.size := Nat.lt_of_lt_of_le hzr hb2.size
        have d2 := hbr.trans (hb2.mono hbr.size)
        have k2 := hP2.val j hlt
        have HP2 := hide hP2
        have hcv : p.s j = s := by
          have := (HP.out.val j hlt).symm.trans c2
          injection this with this
          injection this
        rw [hcv] at k2
        clear hb2 hP2 c1 c2 HN hcv
        go_wp2
        go_roundw
        case rel => exact ⟨j + 1, by omega, by go_num, by rw [HL.out, ← HS.out, HN2.out, ← List.append_assoc]; exact congrArg Value.string (mk_append _ [UInt8.ofNat s.size]), by rw [HV.out, ← HV2.out]; exact congrArg Value.string (mk_vals (valsB p j) s), d2, hz2, HP2.out⟩
        case measure => simp [intOf]; omega
      | false =>
        obtain ⟨N, n1, n2, hN⟩ := num1 255 wr (by omega)
        have HN := hide hN
        have HN2 := hide n2
        clear hN n2
        have hsz : S.size + N.size ≤ 9223372036854775807 := by omega
        go_wp2_with fail
        refine (HN.out _).mono ?_
        rintro e w2 ⟨rfl, hb2⟩
        have hP2 := HP.out.below hb2 hzr
        have hz2 : w.heap.size < w2.heap.size := Nat.lt_of_lt_of_le hzr hb2.size
        have d2 := hbr.trans (hb2.mono hbr.size)
        have HP2 := hide hP2
        clear hb2 hP2 c1 c2 HN
        go_wp2
        go_roundw
        case rel => exact ⟨j + 1, by omega, by go_num, by rw [HL.out, ← HS.out, HN2.out, ← List.append_assoc]; exact congrArg Value.string (mk_append _ [UInt8.ofNat 255]), by rw [HV.out, ← HV2.out]; simp [valB], d2, hz2, HP2.out⟩
        case measure => simp [intOf]; omega
    · obtain rfl : j = 8 := by omega
      have hsz : ByteArray.size ⟨(beB 2 id ++ lensB p 8).toArray⟩ + ByteArray.size ⟨(valsB p 8).toArray⟩ ≤ 9223372036854775807 := by omega
      clear hPr
      have hh := headB_le id p HR.out
      have HB := hide (show bodyB id p = headB id p ++ List.replicate (236 - (headB id p).length) 0 from rfl)
      have HT := hide (show taleB id p = bodyB id p ++ leB (crc (bodyB id p)) from rfl)
      have hbl := bodyB_length id p HR.out
      have hst : (⟨(beB 2 id ++ lensB p 8).toArray⟩ : ByteArray) ++ ⟨(valsB p 8).toArray⟩ = ⟨(headB id p).toArray⟩ := mk_append _ _
      generalize headB id p = hd at *
      generalize bodyB id p = bd at *
      obtain ⟨tl, htl⟩ : ∃ tl, taleB id p = tl := ⟨_, rfl⟩
      rw [htl] at HT
      have HTL := hide htl
      clear htl
      go_wp2
      clear hst hsz z1 z2 z3
      go_loop [5] (fun s => ∃ k : Nat, hd.length + k ≤ 236 ∧ s = .string ⟨(hd ++ List.replicate k 0).toArray⟩) (fun s => 236 - strLen s)
      case atStart => exact ⟨0, by omega, by simp⟩
      case round =>
        obtain ⟨k, hk, rfl⟩ := hrel
        have zk := size_mk (hd ++ List.replicate k 0)
        rw [List.length_append, List.length_replicate] at zk
        have hone : ByteArray.size ⟨#[0]⟩ = 1 := rfl
        by_cases hlt2 : hd.length + k < 236
        · have hmk := mk_append (hd ++ List.replicate k 0) [0]
          have hrep : hd ++ List.replicate (k + 1) 0 = hd ++ List.replicate k 0 ++ [0] := by rw [List.replicate_succ', List.append_assoc]
          have HM := hide (hmk.trans (by rw [← hrep]))
          have zk2 := size_mk (hd ++ List.replicate (k + 1) 0)
          rw [List.length_append, List.length_replicate] at zk2
          have HZ := hide zk2
          clear hmk hrep zk2 HB HT
          have hlt3 : (ByteArray.size ⟨(hd ++ List.replicate k 0).toArray⟩ : Int) < 236 := by omega
          have hlt4 : ByteArray.size ⟨(hd ++ List.replicate k 0).toArray⟩ + 1 ≤ 9223372036854775807 := by omega
          have HK := hide zk
          clear zk
          generalize (⟨(hd ++ List.replicate k 0).toArray⟩ : ByteArray) = S at *
          go_wp2
          go_round
          case rel => exact ⟨k + 1, by omega, congrArg Value.string HM.out⟩
          case measure =>
            have e1 := HM.out
            have e2 := HZ.out
            have e3 := HK.out
            rw [← e1] at e2
            show 236 - (S ++ ⟨#[0]⟩ : ByteArray).size < 236 - S.size
            rw [e2, e3]
            omega
        · obtain rfl : k = 236 - hd.length := by omega
          rw [← HB.out] at zk ⊢
          have R := rseal_any ⟨bd.toArray⟩ wr (by omega)
          have ed : (⟨bd.toArray⟩ : ByteArray).data.toList = bd := rfl
          rw [ed, ← HT.out] at R
          have HS := hide R
          clear R
          have hge : ¬ (ByteArray.size ⟨bd.toArray⟩ : Int) < 236 := by omega
          clear zk HB HT hbl
          generalize (⟨bd.toArray⟩ : ByteArray) = B at *
          go_wp2_with fail
          refine HS.out.mono ?_
          rintro e w3 ⟨rfl, hb3⟩
          go_wp2
          go_ret
          rw [HTL.out]
          exact ⟨rfl, hbr.trans (hb3.mono hbr.size)⟩
end Go.Proofs.Ytkbigineepohnaa
