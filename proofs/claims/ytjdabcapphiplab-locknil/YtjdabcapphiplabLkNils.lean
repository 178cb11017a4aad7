/-
  A nil table: what each call tells of it.
-/
import Derived.Test.YtjdabcapphiplabLkAwake
namespace Go.Proofs.Ytjdabcapphiplab
open Go.RowKit
set_option linter.unusedVariables false

set_option maxRecDepth 4000 in
set_option maxHeartbeats 800000 in
theorem nwaits (who : Int) (w : World) : Calls Try.prog 6 #[.pointer none, .int .i64 who] w fun e w' => e = .returned (.tuple #[.agg zeroH, .bool false]) ∧ Below w.heap.size w w' := by
  have HS := hide (fun y => size13_nil y)
  have b0 : Below w.heap.size w (w.alloc (.cells zeroH 28)) := (Below.refl w.heap.size w).alloc (Nat.le_refl _) _
  have H0 := hide (And.intro (RowAt.new w 28 zeroH) b0)
  clear b0
  go_enter Try.func6, Try.ntmps6
  go_wp2_with fail
  refine (HS.out _).mono ?_
  rintro e w0 ⟨rfl, rfl⟩
  have H1 := hide (show RowAt (w.alloc (.cells zeroH 28)) w.heap.size 28 zeroH ∧ Below w.heap.size w (w.alloc (.cells zeroH 28)) from H0.out)
  go_wp2
  go_loopw [11] (fun v wr => v = .int .i64 0 ∧ Hid (RowAt wr w.heap.size 28 zeroH ∧ Below w.heap.size w wr)) (fun _ _ => 0)
  case atStart => exact ⟨rfl, H1⟩
  case round =>
    obtain ⟨rfl, HR⟩ := hrel
    go_wp2_with (with_reducible refine stop_at 33 rfl ?_)
    refine unstop10 ?_
    refine lst_run (some 33) rfl rfl (.agg zeroH) wr (by go_simp; rfl) ?_
    simp only [Act.put, Array.setIfInBounds, List.size_toArray, List.length_cons, List.length_nil, Nat.reduceAdd, Nat.reduceLT, ↓reduceDIte, List.set_toArray, List.set_cons_succ, List.set_cons_zero]
    refine wpList_store_part rfl 28 (.tmp 4) (.tmp 33) rfl w.heap.size 0 28 zeroH zeroH rfl rfl HR.out.1 infoHs (by show 0 + 3 ≤ 3; omega) (hdA_one hdZ) ?_
    intro w5 h51 h52
    rw [partA_all zeroH zeroH rfl] at h51
    simp only [Act.put]
    have HE := hide (And.intro h51 (h52.below HR.out.2 (Nat.le_refl _)))
    clear h51 h52
    go_wp2
    exact bodyPost_ret (res_at rfl _ _ w.heap.size zeroH _ rfl HE.out.1 Try.underlying28 rfl infoHs) rfl ⟨rfl, HE.out.2⟩
set_option maxRecDepth 4000 in
set_option maxHeartbeats 800000 in
theorem nreq (who x m : Int) (w : World) : Calls Try.prog 7 #[.pointer none, .int .i64 who, .int .i64 x, .int .i64 m] w fun e w' => e = .returned (.int .i64 1) ∧ w = w' := by
  have HA := hide (at13_no (.pointer none) w 0 (.inl ⟨rfl, rfl⟩) x (by omega))
  go_enter Try.func7, Try.ntmps7
  go_wp2_with fail
  refine HA.out.mono ?_
  rintro e w1 ⟨rfl, rfl⟩
  go_wp2
  go_ret
  exact ⟨rfl, rfl⟩
set_option maxRecDepth 4000 in
set_option maxHeartbeats 800000 in
theorem nholds (who x : Int) (w : World) : Calls Try.prog 8 #[.pointer none, .int .i64 who, .int .i64 x] w fun e w' => e = .returned (.int .i64 0) ∧ w = w' := by
  have HA := hide (at13_no (.pointer none) w 0 (.inl ⟨rfl, rfl⟩) x (by omega))
  go_enter Try.func8, Try.ntmps8
  go_wp2_with fail
  refine HA.out.mono ?_
  rintro e w1 ⟨rfl, rfl⟩
  go_wp2
  go_ret
  exact ⟨rfl, rfl⟩
set_option maxRecDepth 4000 in
set_option maxHeartbeats 800000 in
theorem nqueue (x : Int) (w : World) : Calls Try.prog 13 #[.pointer none, .int .i64 x] w fun e w' => e = .returned (.slice none 0 0) ∧ w = w' := by
  have HA := hide (at13_no (.pointer none) w 0 (.inl ⟨rfl, rfl⟩) x (by omega))
  go_enter Try.func13, Try.ntmps13
  go_wp2_with fail
  refine HA.out.mono ?_
  rintro e w1 ⟨rfl, rfl⟩
  go_wp2
  go_ret
  exact ⟨rfl, rfl⟩
set_option maxRecDepth 4000 in
set_option maxHeartbeats 800000 in
theorem nheld (w : World) : Calls Try.prog 12 #[.pointer none] w fun e w' => e = .returned (.slice none 0 0) ∧ Below w.heap.size w w' := by
  have HS := hide (fun y => size13_nil y)
  go_enter Try.func12, Try.ntmps12
  go_wp2_with fail
  refine (HS.out _).mono ?_
  rintro e w0 ⟨rfl, rfl⟩
  go_wp2
  go_loopw [3, 7] (fun v q wr => v = .slice none 0 0 ∧ q = .int .i64 0 ∧ wr = w) (fun _ _ _ => 0)
  case atStart => exact ⟨rfl, rfl, rfl⟩
  case round =>
    obtain ⟨rfl, rfl, rfl⟩ := hrel
    go_wp2
    go_ret
    exact ⟨rfl, Below.refl _ _⟩
set_option maxRecDepth 4000 in
set_option maxHeartbeats 800000 in
theorem nstop (who : Int) (w : World) : Calls Try.prog 10 #[.pointer none, .int .i64 who] w fun e w' => e = .returned (.slice none 0 0) ∧ Below w.heap.size w w' := by
  have HS := hide (fun y => size13_nil y)
  have HW := hide (nwaits who w)
  go_enter Try.func10, Try.ntmps10
  go_wp2_with fail
  refine HW.out.mono ?_
  rintro e w1 ⟨rfl, hb1⟩
  have HB1 := hide hb1
  clear hb1
  go_wp2_with (with_reducible refine stop_at 5 rfl ?_)
  refine unstop10 ?_
  refine lst_run (some 5) rfl rfl (.pointer (some ⟨w1.heap.size, 0, none⟩)) (w1.alloc (.cells zeroH 28)) (by go_simp; rfl) ?_
  simp only [Act.put, Array.setIfInBounds, List.size_toArray, List.length_cons, List.length_nil, Nat.reduceAdd, Nat.reduceLT, ↓reduceDIte, List.set_toArray, List.set_cons_succ, List.set_cons_zero]
  refine wpList_store_part rfl 28 (.tmp 5) (.tmp 13) rfl w1.heap.size 0 28 zeroH zeroH rfl rfl (RowAt.new w1 _ _) infoHs (by show 0 + 3 ≤ 3; omega) (hdA_one hdZ) ?_
  intro w2 h21 h22
  simp only [Act.put]
  have HB2 := hide (h22.below (HB1.out.alloc HB1.out.size (.cells zeroH 28)) HB1.out.size)
  clear h21 h22
  generalize w1.heap.size = gv at *
  go_wp2_with fail
  refine (HS.out _).mono ?_
  rintro e w0 ⟨rfl, rfl⟩
  go_wp2
  go_loopw [7, 26] (fun v q wr => v = .slice none 0 0 ∧ q = .int .i64 0 ∧ wr = w2) (fun _ _ _ => 0)
  case atStart => exact ⟨rfl, rfl, rfl⟩
  case round =>
    obtain ⟨rfl, rfl, rfl⟩ := hrel
    go_wp2
    go_ret
    exact ⟨rfl, HB2.out⟩
set_option maxRecDepth 4000 in
set_option maxHeartbeats 800000 in
theorem nfree (who : Int) (w : World) : Calls Try.prog 9 #[.pointer none, .int .i64 who] w fun e w' => e = .returned (.slice none 0 0) ∧ Below w.heap.size w w' := by
  have HS := hide (fun y => size13_nil y)
  have HT := hide (nstop who w)
  go_enter Try.func9, Try.ntmps9
  go_wp2_with fail
  refine (HS.out _).mono ?_
  rintro e w0 ⟨rfl, rfl⟩
  go_wp2
  go_loopw [8] (fun q wr => q = .int .i64 0 ∧ wr = w) (fun _ _ => 0)
  case atStart => exact ⟨rfl, rfl⟩
  case round =>
    obtain ⟨rfl, rfl⟩ := hrel
    go_wp2_with fail
    refine HT.out.mono ?_
    rintro e w1 ⟨rfl, hb⟩
    have HB := hide hb
    clear hb
    go_wp2
    go_ret
    exact ⟨rfl, HB.out⟩
set_option maxRecDepth 4000 in
set_option maxHeartbeats 800000 in
theorem nbehind (who : Int) (w : World) : Calls Try.prog 11 #[.pointer none, .int .i64 who] w fun e w' => e = .returned (.slice none 0 0) ∧ Below w.heap.size w w' := by
  have HW := hide (nwaits who w)
  go_enter Try.func11, Try.ntmps11
  go_wp2_with fail
  refine HW.out.mono ?_
  rintro e w1 ⟨rfl, hb1⟩
  have HB1 := hide hb1
  clear hb1
  go_wp2_with (with_reducible refine stop_at 5 rfl ?_)
  refine unstop10 ?_
  refine lst_run (some 5) rfl rfl (.pointer (some ⟨w1.heap.size, 0, none⟩)) (w1.alloc (.cells zeroH 28)) (by go_simp; rfl) ?_
  simp only [Act.put, Array.setIfInBounds, List.size_toArray, List.length_cons, List.length_nil, Nat.reduceAdd, Nat.reduceLT, ↓reduceDIte, List.set_toArray, List.set_cons_succ, List.set_cons_zero]
  refine wpList_store_part rfl 28 (.tmp 5) (.tmp 15) rfl w1.heap.size 0 28 zeroH zeroH rfl rfl (RowAt.new w1 _ _) infoHs (by show 0 + 3 ≤ 3; omega) (hdA_one hdZ) ?_
  intro w2 h21 h22
  simp only [Act.put]
  have HB2 := hide (h22.below (HB1.out.alloc HB1.out.size (.cells zeroH 28)) HB1.out.size)
  clear h21 h22
  go_wp2
  go_ret
  exact ⟨rfl, HB2.out⟩
end Go.Proofs.Ytjdabcapphiplab
