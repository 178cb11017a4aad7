/-
  The walk of SumKeeps: it returns true, and turns nothing that was there.
-/
import Derived.Test.YtdcnfkndjjgobabSumAwake
import Derived.Test.YtdcnfkndjjgobabCopyStr
import Derived.OpenShut
namespace Go.Proofs.Ytdcnfkndjjgobab.sumKeeps
open Go.RowKit
set_option linter.unusedVariables false

set_option maxHeartbeats 400000 in
theorem walk_long (s : ByteArray) (w : World) (h : 4096 < (s.size : Int)) :
    Calls Try.prog 3 #[.string s] w fun e w' => e = .returned (.bool true) ∧ Below w.heap.size w w' := by
  go_enter Try.func3, Try.ntmps3
  go_wp2_with fail
  refine (awake_any _).mono ?_
  rintro e w1 ⟨rfl, hb1⟩
  go_wp2_with fail
  refine (awake_any _).mono ?_
  rintro e w2 ⟨rfl, hb2⟩
  go_wp2
  go_ret
  exact ⟨rfl, hb1.trans (hb2.mono hb1.size)⟩

theorem flip255 (x : UInt8) : bits .xor .u8 (x.toNat : Int) 255 = ((x ^^^ 255).toNat : Int) := by
  have e : (255 : Int) = ((255 : Nat) : Int) := rfl
  rw [e, u8_xor_nat _ _ x.toNat_lt (by omega), UInt8.toNat_xor]
  rfl

theorem toV_set (L : List UInt8) (q : Nat) (y : UInt8) : (toV L).set q (.int .u8 (y.toNat : Int)) = toV (L.set q y) := by simp [toV, List.map_set]

set_option maxHeartbeats 1600000 in
theorem walk_short (s : ByteArray) (w : World) (h : ¬ 4096 < (s.size : Int)) :
    Calls Try.prog 3 #[.string s] w fun e w' => e = .returned (.bool true) ∧ Below w.heap.size w w' := by
  have hd : decide (4096 < (s.size : Int)) = false := by simpa using h
  have hmk : ∀ w, (Instr.makeSlice 23 (.int .i64 (s.size : Int)) (.int .i64 ((s.size : Int) + 8))).run Try.prog w = .ok (.slice (some ⟨w.heap.size, 0, none⟩) s.size (s.size + 8)) (w.alloc (.cells (zrow (s.size + 8)).toArray 5)) :=
    fun w => run_mk (P := Try.prog) 23 5 Try.underlying23 info8 s.size 8 (by omega) w
  go_enter Try.func3, Try.ntmps3
  go_wp2_with fail
  refine (awake_any _).mono ?_
  rintro e w1 ⟨rfl, hb1⟩
  have hrow : (w1.alloc (.cells (zrow (s.size + 8)).toArray 5)).heap[w1.heap.size]? = some (.cells (zrow (s.size + 8)).toArray 5 (0, 0)) := heap_alloc_new w1 _
  go_wp2_with (refine wpList_copy_str rfl (.tmp 26) (.tmp 27) 23 9 rfl 5 Try.underlying23 info8s w1.heap.size (s.size + 8) s rfl rfl (zrow (s.size + 8)) 5 hrow (by rw [zrow_length]; omega) w1.heap.size w1 ((Below.refl _ _).alloc (Nat.le_refl _) _) (Nat.le_refl _) ?_)
  intro w2 HR hb2
  clear hrow hmk
  have hown := owns_spliced (base := w1.heap.size) (data_length s) (Nat.le_refl _) (show s.size + 8 ≤ 281474976710656 by omega) HR.out
  have hB2 := hown.isB (data_length s)
  have hlt2 := (hown.lt _ rfl).2
  go_wp2_with fail
  refine (seal_any _ _ _ s.data.toList _ hB2 (by omega)).mono ?_
  rintro e w3 ⟨v, rfl, hown3, hb3⟩
  obtain ⟨gs, caps, hv, hgs⟩ := own_slice hown3 (by omega)
  rw [hv]
  rw [hv] at hown3
  have hlt3 := (hown3.lt gs rfl).2
  have hcaps := own_cap hown3
  have HR3 : w3.heap[w1.heap.size]? = some (.cells (splice (zrow (s.size + 8)) 0 (toV s.data.toList)).toArray 5 (0, 0)) := (hb3.block w1.heap.size hlt2).trans HR.out
  have hzero : ∀ i, s.size ≤ i → i < s.size + 8 → w3.cell? ⟨w1.heap.size, i, none⟩ = some (.int .u8 0) := zeros (data_length s) HR3
  have hBr3 := hB2.below hb3
  have hBs3 := hown3.isB (by rw [List.length_append, leB_length, data_length])
  have c2 := hb1.trans (hb2.mono hb1.size)
  have c3 := c2.trans (hb3.mono c2.size)
  have hw3 := c3.size
  have hl3 : w1.heap.size < w3.heap.size := Nat.lt_of_lt_of_le hlt2 hb3.size
  have O1 := open_any (some ⟨gs, 0, none⟩) (s.size + 4) caps _ w3 hBs3 (by omega) hcaps
  rw [openS_seal] at O1
  have HO := hide O1
  clear O1 HR HR3 hown hB2 hown3 hb2 hb3 c2 hv hb1
  go_wp2
  go_loop [6] (fun i => ∃ j : Nat, s.size ≤ j ∧ j ≤ s.size + 8 ∧ i = .int .i64 j) (fun i => s.size + 8 - (intOf i).toNat)
  case atStart => exact ⟨s.size, Nat.le_refl _, by omega, rfl⟩
  case round =>
    obtain ⟨j, hj1, hj2, rfl⟩ := hrel
    by_cases hlt : j < s.size + 8
    · have hz := hzero j hj1 hlt
      clear hzero
      go_wp2
      go_round
      case rel => exact ⟨j + 1, by omega, by omega, by go_num⟩
      case measure => simp [intOf]; omega
    · clear hzero
      go_wp2_with fail
      refine HO.out.mono ?_
      rintro e w4 ⟨v4, rfl, hown4, hb4⟩
      obtain ⟨a4, cap4, hv4, hcap4, hB4⟩ := shape_isB hown4
      rw [data_length] at hown4 hv4 hcap4
      rw [hv4]
      rw [hv4] at hown4
      have ha4 : 0 < s.size → ∃ g4, a4 = some ⟨g4, 0, none⟩ ∧ w3.heap.size ≤ g4 := by
        intro hp
        obtain ⟨g4, cap4', he, hg4⟩ := own_slice hown4 hp
        injection he with he1 he2 he3
        exact ⟨g4, he1, hg4⟩
      have c4 := c3.trans (hb4.mono c3.size)
      have b4 : Below w3.heap.size w3 w4 := hb4
      clear hb4 HO hv4 hB4
      go_wp2
      go_loopw [9] (fun i wr => ∃ j : Nat, j ≤ s.size ∧ i = .int .i64 j ∧ (∃ X : List UInt8, X.length = s.size ∧ wr.ownsRow w3.heap.size 5 1 (.slice a4 s.size cap4) s.size (toV X)) ∧ Below w3.heap.size w3 wr ∧ Below w.heap.size w wr) (fun i _ => s.size - (intOf i).toNat)
      case atStart => exact ⟨0, Nat.zero_le _, rfl, ⟨s.data.toList, data_length s, hown4⟩, b4, c4⟩
      case round =>
        obtain ⟨m, hm, rfl, ⟨X, hX, hownr⟩, hbr3, hbr⟩ := hrel
        clear hown4 b4 c4
        by_cases hlt2 : m < s.size
        · obtain ⟨g4, rfl, hg4⟩ := ha4 (by omega)
          have hcm : wr.cell? ⟨g4, m, none⟩ = some (.int .u8 ((X.getD m 0).toNat : Int)) := (hownr.cellAt m (by omega)).trans (toV_get X m (by omega))
          have hfm : wr.frozen? ⟨g4, m, none⟩ = false := hownr.frozenAt m
          generalize X.getD m 0 = x at hcm
          have hst := (hownr.stored m (.int .u8 ((x ^^^ 255).toNat : Int))).1
          rw [toV_set, ← flip255 x] at hst
          have HS := hide hst
          clear hst ha4
          go_wp2
          go_roundw
          case rel => exact ⟨m + 1, by omega, by go_num, ⟨X.set m (x ^^^ 255), by rw [List.length_set]; exact hX, HS.out⟩, hbr3.setCell (by exact hg4) _, hbr.setCell (by exact Nat.le_trans hw3 hg4) _⟩
          case measure => simp [intOf]; omega
        · have hBs := hBs3.later hbr3 (by intro b off hh; cases hh; exact hlt3)
          have hBr := hBr3.later hbr3 (by intro b off hh; cases hh; exact hl3)
          have O2 := open_any (some ⟨gs, 0, none⟩) (s.size + 4) caps _ wr hBs (by omega) hcaps
          rw [openS_seal] at O2
          have HO2 := hide O2
          clear O2 hownr hBs ha4
          go_wp2_with fail
          refine HO2.out.mono ?_
          rintro e w5 ⟨v5, rfl, hown5, hb5⟩
          obtain ⟨a5, cap5, hv5, hcap5, hB5⟩ := shape_isB hown5
          rw [hv5]
          have k1 := run_toString (P := Try.prog) w5 23 9 5 Try.underlying23 Try.underlying5 Try.underlying9 a5 _ cap5 _ hB5
          have k2 := run_toString (P := Try.prog) w5 23 9 5 Try.underlying23 Try.underlying5 Try.underlying9 (some ⟨w1.heap.size, 0, none⟩) s.size (s.size + 8) _ (hBr.below hb5)
          rw [mk_self] at k1 k2
          rw [data_length] at k1
          have c5 := hbr.trans (hb5.mono hbr.size)
          clear hown5 hv5 hB5 HO2 hBr hb5
          go_wp2
          go_ret
          exact ⟨rfl, c5⟩

theorem walk (a0 : ByteArray) (z0 : a0.size ≤ 140737488351232) (w : World) :
    Calls Try.prog 3 #[.string a0] w fun e w' => e = .returned (.bool true) ∧ Below w.heap.size w w' := by
  by_cases h : 4096 < (a0.size : Int)
  · exact walk_long a0 w h
  · exact walk_short a0 w h
end Go.Proofs.Ytdcnfkndjjgobab.sumKeeps
