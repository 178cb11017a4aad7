/-
  The contracts of package page's taleOf, tellsID and noughts.
-/
import Derived.Test.YtkbigineepohnabPageMath
import Derived.Test.YtkbigineepohnabPackTake
import Derived.Test.YtkbigineepohnabAppendO
import Derived.Test.YtkbigineepohnabInfo8
namespace Go.Proofs.Ytkbigineepohnab
open Go.RowKit
set_option linter.unusedVariables false

set_option maxHeartbeats 400000 in
theorem taleOf_any (g off cap : Nat) (bs : List UInt8) (w : World) (hB : IsB w (some ⟨g, off, none⟩) 256 bs) (hcap : 256 ≤ cap) :
    Calls Try.prog 14 #[.slice (some ⟨g, off, none⟩) 256 cap] w fun e w' => ∃ v, e = .returned v ∧ w'.ownsRow w.heap.size 5 1 v 240 (toV (taleOf bs)) ∧ Below w.heap.size w w' := by
  have hmk : ∀ w : World, (Instr.makeSlice 31 (.int .i64 0) (.int .i64 240)).run Try.prog w = .ok (.slice (some ⟨w.heap.size, 0, none⟩) 0 240) (w.alloc (.cells (zrow 240).toArray 5)) := fun w => by
    simpa using run_mk (P := Try.prog) 31 5 Try.underlying31 info8 0 240 (by omega) w
  obtain ⟨b', o', he', hlt', hcell'⟩ := hB.2 (by omega)
  cases he'
  have HB1 := hide (IsB.cut hB.1 hlt' hcell' 8 120 (by omega))
  have HB2 := hide (show IsB w (some ⟨g, off + 136, none⟩) 120 (bs.drop 136) from by
    have h1 := IsB.cut hB.1 hlt' hcell' 136 120 (by omega)
    rw [List.take_of_length_le (by rw [List.length_drop, hB.1]; omega)] at h1
    exact h1)
  have hb0 : Below w.heap.size w (w.alloc (.cells (zrow 240).toArray 5)) := (Below.refl _ _).alloc (Nat.le_refl _) _
  have HO := hide (show (w.alloc (.cells (zrow 240).toArray 5)).ownsRow w.heap.size 5 1 (.slice (some ⟨w.heap.size, 0, none⟩) 0 240) 0 (toV []) from World.ownsRow_made w (zrow 240).toArray 240 (Nat.le_refl _) (by unfold maxLen; omega) (by rw [List.size_toArray, zrow_length]))
  have HT := hide (show [] ++ (bs.drop 8).take 120 ++ bs.drop 136 = taleOf bs by unfold taleOf; rw [List.nil_append])
  have i1 : (256 : Int) ≤ (cap : Int) := by omega
  have i2 : (128 : Int) ≤ (cap : Int) := by omega
  have i3 : ¬ cap = 8 := by omega
  have i4 : ¬ cap = 136 := by omega
  clear hB hcell'
  go_enter Try.func14, Try.ntmps14
  go_wp2_with (at_builtin; refine wpList_append_ob _ rfl (.tmp 5) (.tmp 7) 31 rfl 5 Try.underlying31 info8 w.heap.size _ 0 [] rfl HO.out _ 120 _ _ rfl (HB1.out.below hb0) (fun h => nomatch h) (by omega) hb0.size ?_)
  intro v2 w2 hown2 hg2
  have d2 := hb0.grown hg2 hb0.size (fun k hk => (HO.out.lt k hk).1)
  have HO2 := hide hown2
  have HB22 := hide (HB2.out.below d2)
  clear hown2 hg2 hb0 HO HB1 HB2 hmk
  go_wp2_with (at_builtin; refine wpList_append_ob _ rfl (.tmp 9) (.tmp 11) 31 rfl 5 Try.underlying31 info8 w.heap.size _ _ _ rfl HO2.out _ 120 _ _ rfl HB22.out (fun h => nomatch h) (by omega) d2.size ?_)
  intro v3 w3 hown3 hg3
  have d3 := d2.grown hg3 d2.size (fun k hk => (HO2.out.lt k hk).1)
  have HO3 := hide hown3
  clear hown3 hg3 HO2 HB22 d2
  go_wp2
  go_ret
  exact ⟨_, rfl, by rw [← HT.out]; simpa using HO3.out, d3⟩

set_option maxHeartbeats 400000 in
theorem tellsID_any (a : Option Addr) (cap : Nat) (t : List UInt8) (id : Nat) (w : World) (hB : IsB w a 236 t) (hid : id < 32) :
    Calls Try.prog 16 #[.slice a 236 cap, .int .i64 id] w fun e w' => e = .returned (.bool (decide (beAt t 0 2 = id))) ∧ w = w' := by
  have R1 := take_any a 236 cap t 0 2 w hB (by omega) (by omega)
  have e1 : takeS t 0 2 = (((beAt t 0 2 : Nat) : Int), 0) := by
    rw [takeS_ok t 0 2 (by omega) (by rw [hB.1]; omega)]
    rfl
  rw [e1] at R1
  have H1 := hide R1
  clear R1 e1 hB
  generalize beAt t 0 2 = x at *
  have e3 : decide (x = id) = (((x : Nat) : Int) == ((id : Nat) : Int)) := by
    rw [Bool.eq_iff_iff, beq_iff_eq, decide_eq_true_eq]
    omega
  rw [e3]
  clear e3
  go_enter Try.func16, Try.ntmps16
  go_wp2_with fail
  refine H1.out.mono ?_
  rintro e w1 ⟨rfl, rfl⟩
  go_wp2
  go_ret
  exact ⟨rfl, rfl⟩

theorem all_more {bs : List UInt8} {j : Nat} (h : ∀ x ∈ bs.take j, x = 0) (hj : j < bs.length) (h0 : (bs.getD j 0).toNat = 0) : ∀ x ∈ bs.take (j + 1), x = 0 := by
  intro x hx
  rw [List.take_succ_eq_append_getElem hj, List.mem_append] at hx
  rcases hx with hx | hx
  · exact h x hx
  · have e : bs.getD j 0 = bs[j] := by simp [List.getD, List.getElem?_eq_getElem hj]
    rw [List.mem_singleton.1 hx, ← e]
    exact UInt8.toNat_inj.1 h0

set_option maxHeartbeats 400000 in
theorem noughts_any (a : Option Addr) (len cap : Nat) (bs : List UInt8) (w : World) (hB : IsB w a len bs) (hl : len ≤ 140737488355328) :
    Calls Try.prog 25 #[.slice a len cap] w fun e w' => e = .returned (.bool (decide (∀ x ∈ bs, x = 0))) ∧ w = w' := by
  go_enter Try.func25, Try.ntmps25
  go_wp2
  go_loop [7] (fun i => ∃ j : Nat, j ≤ len ∧ i = .int .i64 j ∧ ∀ x ∈ bs.take j, x = 0) (fun i => len - (intOf i).toNat)
  case atStart => exact ⟨0, Nat.zero_le _, rfl, by simp⟩
  case round =>
    obtain ⟨j, hj, rfl, hz⟩ := hrel
    by_cases hlt : j < len
    · obtain ⟨b, off, rfl, hbl, hc⟩ := hB.2 (by omega)
      have hcj := hc j hlt
      have hm : (bs.getD j 0).toNat < 256 := (bs.getD j 0).toNat_lt
      have hjl : j < bs.length := by rw [hB.1]; exact hlt
      by_cases h0 : (bs.getD j 0).toNat = 0
      · have HZ := hide (all_more hz hjl h0)
        rw [h0] at hcj
        clear hc hB hz h0 hm
        go_wp2
        go_round
        case rel => exact ⟨j + 1, by omega, by go_num, HZ.out⟩
        case measure => simp [intOf]; omega
      · have e : decide (∀ x ∈ bs, x = 0) = false := by
          rw [decide_eq_false_iff_not]
          intro h
          apply h0
          have e1 : bs.getD j 0 = bs[j] := by simp [List.getD, List.getElem?_eq_getElem hjl]
          rw [e1, h _ (List.getElem_mem hjl)]
          rfl
        have HE := hide e
        clear hc hB hz e
        generalize (bs.getD j 0).toNat = m at *
        have h1 : (((m : Nat) : Int) != 0) = true := by rw [bne_iff_ne]; omega
        go_wp2
        go_ret
        rw [HE.out]
        exact ⟨rfl, rfl⟩
    · obtain rfl : j = len := by omega
      have e2 := hB.1
      rw [List.take_of_length_le (by omega)] at hz
      have HE := hide (decide_eq_true hz)
      clear hz hB
      go_wp2
      go_ret
      rw [HE.out]
      exact ⟨rfl, rfl⟩
end Go.Proofs.Ytkbigineepohnab
