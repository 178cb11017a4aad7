/-
  The writer of package record: dirty.
-/
import Derived.Test.YtmapgfakfeddmaaRecWriter2
namespace Go.Proofs.Ytmapgfakfeddmaa
open Go.RowKit
set_option linter.unusedVariables false

set_option maxRecDepth 4000 in
set_option maxHeartbeats 3200000 in
theorem wdirty_any (g : Nat) (va : Value) (xs : List Di) (bs : List UInt8) (w0 w : World) (h : Wr w g bs) (hg : w0.heap.size ≤ g) (hb : Below w0.heap.size w0 w) (hin : DiIn w0 va xs) (hx : ∀ i, i < xs.length → diFit (xs.getD i Di.zero)) (hn : xs.length ≤ 32) (hl : bs.length ≤ 10000) :
    Calls Try.prog 22 #[.pointer (some ⟨g, 0, none⟩), va] w fun e w' => e = .returned (.tuple #[]) ∧ Wr w' g (bs ++ (beB 1 xs.length ++ disB xs)) ∧ Mv g w w' := by
  have HIN := hide (hin.below hb)
  have HFX := hide hx
  have HBL : Hid (∀ b, b < w0.heap.size → b < g) := fun b h => Nat.lt_of_lt_of_le h hg
  obtain ⟨a, cap, rfl, hrow⟩ := hin
  have HRW := hide hrow
  have HW0 := hide hb
  have e1 := conv_nat (xs.length : Int) (by omega) (by omega)
  rw [Int.toNat_natCast] at e1
  have W0 := hide (wnum_any g 1 xs.length bs w h (by omega) (by omega) (by omega))
  have HL := hide hl
  have HN := hide hn
  have HWR := hide h
  clear hx hrow hb hg hl h
  go_enter Try.func22, Try.ntmps22
  go_wp2_with fail
  refine W0.out.mono ?_
  rintro e w1 ⟨rfl, hw, hm⟩
  have HK1 : Hid (WK g w w1 (bs ++ beB 1 xs.length) []) := ⟨hw, hm, trivial⟩
  clear hw hm W0 e1
  go_wp2
  go_loopw [13] (fun v wr => ∃ j : Nat, j ≤ xs.length ∧ v = .int .i64 j ∧ WK g w wr (bs ++ (beB 1 xs.length ++ disB (xs.take j))) []) (fun v _ => xs.length - (intOf v).toNat)
  case atStart => exact ⟨0, Nat.zero_le _, rfl, by have h := HK1.out; simpa [disB] using h⟩
  case round =>
    obtain ⟨j, hj, rfl, hk⟩ := hrel
    have HK := hide hk
    clear hk HK1
    by_cases hlt : j < xs.length
    · have jlt : (j : Int) < (xs.length : Int) := by omega
      obtain ⟨b, off, rfl, hb, hcell⟩ := HRW.out (by omega)
      have HRG := hide (rangeAt_below (hcell j hlt) (HW0.out.trans (HK.out.2.1.below.mono (Nat.le_of_lt_succ (Nat.lt_succ_of_le (Nat.le_of_not_lt (fun hc => by have := HBL.out; have h1 := this g hc; omega)))))) hb)
      clear hcell hb
      obtain ⟨x, hx⟩ : ∃ x, x = xs.getD j Di.zero := ⟨_, rfl⟩
      have HX := hide hx
      have HF := hide (HFX.out j hlt)
      rw [← hx] at HRG HF
      clear hx
      go_wp2_with (first | (refine wpList_load_mid rfl 67 (.tmp 15) rfl b (off + j * 2) (diA x) rfl HRG.out _ Try.underlying67 rfl infoDi ?_) | (refine wpList_store_at rfl 67 (.tmp 5) (.tmp 16) rfl wr.heap.size (diA Di.zero) (diA x) rfl rfl (RowAt.new wr 67 (diA Di.zero)) infoDi rfl (diA_one _) ?_))
      intro w2 hr2 hk2 _
      have hb2 := hk2 _ _ ((Below.refl wr.heap.size wr).alloc (Nat.le_refl _) _) (Nat.le_refl _)
      have HK2 : Hid (WK g w w2 (bs ++ (beB 1 xs.length ++ disB (xs.take j))) [(wr.heap.size, 67, diA x)]) := ⟨HK.out.1.later hb2, HK.out.2.1.trans (Mv.later (Nat.le_of_lt HK.out.1.lt) hb2), hr2, trivial⟩
      have hA : Hid (Aside g [(wr.heap.size, 67, diA x)]) := fun e he => by
        simp only [List.mem_cons, List.not_mem_nil, or_false] at he
        subst he
        exact ⟨by show wr.heap.size ≠ g; have := HK.out.1.lt; omega, by show (67 : TypeId) ≠ 5; decide⟩
      clear hr2 hk2 hb2 HK HRG
      generalize wr.heap.size = p at *
      obtain ⟨bs0, hbs0⟩ : ∃ bs0, bs0 = bs ++ (beB 1 xs.length ++ disB (xs.take j)) := ⟨_, rfl⟩
      have HBS := hide hbs0
      have HB0 : Hid (bs0.length ≤ 20000) := by
        have h1 := disB_len (xs.take j)
        rw [List.length_take] at h1
        have := HL.out
        have := HN.out
        show bs0.length ≤ 20000
        rw [hbs0]
        simp only [List.length_append, beB_length, h1]
        omega
      rw [← hbs0] at HK2
      clear hbs0
      have e0 := conv_nat x.p (by have := HF.out; unfold diFit at this; omega) (by have := HF.out; unfold diFit at this; omega)
      have W0 := hide (fun bs w h hl => wnum_any g 2 x.p.toNat bs w h (by omega) (by have := HF.out; unfold diFit at this; omega) hl)
      rw [← e0] at W0
      clear e0
      have W1 := hide (fun bs w h hl => wnum_any g 8 x.r bs w h (by omega) (by have := HF.out; unfold diFit at this; omega) hl)
      have d0 := HK2.out.2.2.1.cell 0 (.int .i64 x.p) rfl
      go_wp2_with fail
      refine (W0.out bs0 _ HK2.out.1 (by have := HB0.out; omega)).mono ?_
      rintro e v0 ⟨rfl, hw, hm⟩
      have HK3 := hide (HK2.out.step hw hm hA.out)
      clear hw hm d0 HK2 W0
      have d1 := HK3.out.2.2.1.cell 1 (.int .u64 (x.r : Int)) rfl
      go_wp2_with fail
      refine (W1.out (bs0 ++ beB 2 x.p.toNat) _ HK3.out.1 (by have := HB0.out; simp only [List.length_append, beB_length]; omega)).mono ?_
      rintro e v1 ⟨rfl, hw, hm⟩
      have HK4 := hide (HK3.out.step hw hm hA.out)
      clear hw hm d1 HK3 W1
      go_wp2
      go_roundw
      case rel =>
        refine ⟨j + 1, by omega, by go_num, ?_, HK4.out.2.1, trivial⟩
        have h := HK4.out.1
        rw [HBS.out] at h
        have e3 : disB (xs.take (j + 1)) = disB (xs.take j) ++ diB x := by
          rw [HX.out]
          exact disB_more xs j hlt
        rw [e3]
        simp only [diB, List.append_assoc] at h ⊢
        exact h
      case measure => simp [intOf]; omega
    · obtain rfl : j = xs.length := by omega
      go_wp2
      go_end0
      refine ⟨rfl, ?_, HK.out.2.1⟩
      have h := HK.out.1
      rwa [List.take_length] at h
end Go.Proofs.Ytmapgfakfeddmaa
