/-
  The contracts of quaysideref04's Image, Encode, Torn and Stamp.
-/
import Derived.Test.YtkbigineepohnaaPageRef
import Derived.Deep.RegionHeld3
import Derived.Deep.QuietTactic
import Derived.BigQuiet
namespace Go.Proofs.Ytkbigineepohnaa
open Go.RowKit
set_option linter.unusedVariables false

set_option maxRecDepth 4000 in
set_option maxHeartbeats 400000 in
theorem rimage_any (id : Nat) (p : Pg) (w : World) (hid : id < 32) (hp : p.right) :
    Calls Try.prog 24 #[.int .i64 id, .agg (pgA p)] w fun e w' => e = .returned (.string ⟨(imageB id p).toArray⟩) ∧ Below w.heap.size w w' := by
  have hP : PgAt (w.alloc (.cells (pgA p) 27)) w.heap.size p := heap_alloc_new w _
  have hb0 : Below w.heap.size w (w.alloc (.cells (pgA p) 27)) := (Below.refl _ _).alloc (Nat.le_refl _) _
  have hz0 : w.heap.size < (w.alloc (.cells (pgA p) 27)).heap.size := by simp
  have HR := hide hp
  have hl : p.l < 18446744073709551616 := by have := hp.1; unfold maxP at this; omega
  clear hp
  go_enter Try.func24, Try.ntmps24
  go_wp2_with fail
  generalize w.alloc (.cells (pgA p) 27) = w0 at *
  have hPd := pg_drew hP
  have hc := hPd.lsn
  have hbd := hb0.drew
  have ha := hPd.all
  have HPd := hide hPd
  clear hP hb0 hPd hc
  go_region_held3 (fun x => x.cell? ⟨w.heap.size, 0, none⟩ = some (.int .u64 p.l) ∧ x.cell? ⟨w.heap.size, 1, none⟩ = some (.bool (p.u 0)) ∧ x.cell? ⟨w.heap.size, 2, none⟩ = some (.string (p.s 0)) ∧ x.cell? ⟨w.heap.size, 3, none⟩ = some (.bool (p.u 1)) ∧ x.cell? ⟨w.heap.size, 4, none⟩ = some (.string (p.s 1)) ∧ x.cell? ⟨w.heap.size, 5, none⟩ = some (.bool (p.u 2)) ∧ x.cell? ⟨w.heap.size, 6, none⟩ = some (.string (p.s 2)) ∧ x.cell? ⟨w.heap.size, 7, none⟩ = some (.bool (p.u 3)) ∧ x.cell? ⟨w.heap.size, 8, none⟩ = some (.string (p.s 3)) ∧ x.cell? ⟨w.heap.size, 9, none⟩ = some (.bool (p.u 4)) ∧ x.cell? ⟨w.heap.size, 10, none⟩ = some (.string (p.s 4)) ∧ x.cell? ⟨w.heap.size, 11, none⟩ = some (.bool (p.u 5)) ∧ x.cell? ⟨w.heap.size, 12, none⟩ = some (.string (p.s 5)) ∧ x.cell? ⟨w.heap.size, 13, none⟩ = some (.bool (p.u 6)) ∧ x.cell? ⟨w.heap.size, 14, none⟩ = some (.string (p.s 6)) ∧ x.cell? ⟨w.heap.size, 15, none⟩ = some (.bool (p.u 7)) ∧ x.cell? ⟨w.heap.size, 16, none⟩ = some (.string (p.s 7))) (go_keep)
    (first | (go_at_call 36; refine (number_any 8 p.l _ (by omega) hl).mono ?_; rintro e w5 ⟨rfl, hb5⟩; have k2 := HPd.out.below hb5 hz0; have k1 := k2.all; have HK2 := hide k2; clear k2) | (go_at_call 37; refine (rtale_any id p _ hid HR.out).mono ?_; rintro e w6 ⟨rfl, hb6⟩; have k4 := HK2.out.below hb6 (Nat.lt_of_lt_of_le hz0 hb5.size); have k3 := k4.all; clear k4))
  have d6 : Below w.heap.size w w6 := (hbd.trans (hb5.mono hbd.size)).trans (hb6.mono (hbd.trans (hb5.mono hbd.size)).size)
  clear k1 k3 ha HPd HK2 hb5 hb6 hbd hz0 hl
  have zN := size_mk (beB 8 p.l)
  rw [beB_length] at zN
  have zT := size_mk (taleB id p)
  rw [taleB_length id p HR.out] at zT
  have x1 := extract_eq ⟨(taleB id p).toArray⟩ 0 120 (by omega)
  have x2 := extract_eq ⟨(taleB id p).toArray⟩ 120 120 (by omega)
  have ed : (⟨(taleB id p).toArray⟩ : ByteArray).data.toList = taleB id p := rfl
  rw [ed] at x1 x2
  rw [List.drop_zero] at x1
  rw [List.take_of_length_le (by rw [List.length_drop, taleB_length id p HR.out]; omega)] at x2
  have z1 := size_mk ((taleB id p).take 120)
  have z2 := size_mk ((taleB id p).drop 120)
  rw [List.length_take, taleB_length id p HR.out] at z1
  rw [List.length_drop, taleB_length id p HR.out] at z2
  have HE := hide (show imageB id p = beB 8 p.l ++ (taleB id p).take 120 ++ beB 8 p.l ++ (taleB id p).drop 120 from rfl)
  have HE2 := hide (show ((⟨(beB 8 p.l).toArray⟩ : ByteArray) ++ ⟨((taleB id p).take 120).toArray⟩ ++ ⟨(beB 8 p.l).toArray⟩ ++ ⟨((taleB id p).drop 120).toArray⟩ : ByteArray) = ⟨(imageB id p).toArray⟩ by rw [HE.out, mk_append, mk_append, mk_append])
  clear ed HE HR
  generalize (⟨(beB 8 p.l).toArray⟩ : ByteArray) = N at *
  generalize (⟨((taleB id p).take 120).toArray⟩ : ByteArray) = A at *
  generalize (⟨((taleB id p).drop 120).toArray⟩ : ByteArray) = B at *
  generalize (⟨(taleB id p).toArray⟩ : ByteArray) = T at *
  go_wp2_with fail
  go_quiet (fail)
  go_wp2
  go_ret
  rw [← HE2.out]
  exact ⟨rfl, d6.1, d6.2, d6.3, d6.4, d6.5⟩

set_option maxHeartbeats 400000 in
theorem rtorn_any (s : ByteArray) (w : World) (hs : s.size ≤ 140737488355328) :
    Calls Try.prog 19 #[.string s] w fun e w' => e = .returned (.bool (tornB s.data.toList)) ∧ ∃ m, w' = w.drewN m := by
  by_cases h : s.size = 256
  · have x1 := extract_eq s 0 8 (by omega)
    have x2 := extract_eq s 128 8 (by omega)
    rw [List.drop_zero] at x1
    have e : tornB s.data.toList = decide (s.data.toList.take 8 ≠ (s.data.toList.drop 128).take 8) := by
      unfold tornB
      rw [data_length]
      simp [h]
    have hi : (s.size : Int) = 256 := by omega
    generalize s.data.toList.take 8 = A at *
    generalize (s.data.toList.drop 128).take 8 = B at *
    have hAB : ((⟨A.toArray⟩ : ByteArray).toList != (⟨B.toArray⟩ : ByteArray).toList) = decide (A ≠ B) := by
      rw [ByteArray.toList_eq, ByteArray.toList_eq]
      have ea : ∀ l : List UInt8, (⟨l.toArray⟩ : ByteArray).data.toList = l := fun l => rfl
      rw [ea, ea]
      by_cases hab : A = B <;> simp [hab]
    have HE := hide e
    clear e
    go_enter Try.func19, Try.ntmps19
    go_wp2_with fail
    go_quiet (fail)
    go_wp2
    go_ret
    have e2 : decide (A ≠ B) = !(A == B) := by by_cases hab : A = B <;> simp [hab]
    rw [HE.out, e2]
    exact ⟨rfl, nq, rfl⟩
  · have e : tornB s.data.toList = false := by
      unfold tornB
      rw [data_length]
      simp [h]
    have hi : ((s.size : Int) == 256) = false := by simp; omega
    have HE := hide e
    clear e h
    go_enter Try.func19, Try.ntmps19
    go_wp2_with fail
    go_quiet (fail)
    go_wp2
    go_ret
    rw [HE.out]
    exact ⟨rfl, nq, rfl⟩

theorem quiet_more {f : FuncId} {args : Array Value} {w : World} {n : Nat} {v : Value} (h : ∀ w, Calls Try.prog f args w fun e w' => e = .returned v ∧ ∃ m, w' = w.drewN m) :
    Calls Try.prog f args (w.drewN n) fun e w'' => e = .returned v ∧ ∃ m, w'' = w.drewN m :=
  (h (w.drewN n)).mono fun _ _ ⟨he, m, hm⟩ => ⟨he, n + m, by rw [hm, World.drewN_drewN]⟩

set_option maxHeartbeats 400000 in
theorem rstamp_any (s : ByteArray) (w : World) (hs : s.size ≤ 140737488355328) :
    Calls Try.prog 17 #[.string s] w fun e w' => e = .returned (.tuple #[.int .u64 (stampB s.data.toList).1, .bool (stampB s.data.toList).2]) ∧ ∃ m, w' = w.drewN m := by
  have hd := data_length s
  have HT := hide (fun w => rtorn_any s w hs)
  by_cases h : s.size = 256
  · have hi : (s.size : Int) = 256 := by omega
    cases ht : tornB s.data.toList with
    | true =>
      have e : stampB s.data.toList = (0, false) := by unfold stampB; rw [ht]; simp
      rw [e]
      have HT2 : Hid (∀ w, Calls Try.prog 19 #[.string s] w fun e w' => e = .returned (.bool true) ∧ ∃ m, w' = w.drewN m) := by
        have := HT.out
        rw [ht] at this
        exact this
      clear HT e ht hd
      go_enter Try.func17, Try.ntmps17
      go_wp2_with fail
      refine (HT2.out _).mono ?_
      rintro e w1 ⟨rfl, nq, rfl⟩
      go_wp2
      go_ret2
      exact ⟨rfl, nq, rfl⟩
    | false =>
      have e : stampB s.data.toList = (beAt s.data.toList 0 8, true) := by unfold stampB; rw [ht, hd]; simp [h]
      rw [e]
      have HT2 : Hid (∀ w, Calls Try.prog 19 #[.string s] w fun e w' => e = .returned (.bool false) ∧ ∃ m, w' = w.drewN m) := by
        have := HT.out
        rw [ht] at this
        exact this
      have et : takeS s.data.toList 0 8 = (((beAt s.data.toList 0 8 : Nat) : Int), 0) := by
        rw [takeS_ok s.data.toList 0 8 (by omega) (by omega)]
        rfl
      have HK := hide (fun w => rtake_any s 0 8 w (by omega))
      have HK2 : Hid (∀ w, Calls Try.prog 31 #[.string s, .int .i64 0, .int .i64 8] w fun e w' => e = .returned (.tuple #[.int .u64 (beAt s.data.toList 0 8 : Nat), .int .i64 0]) ∧ w = w') := by
        have := HK.out
        rw [et] at this
        exact this
      clear HT e ht hd HK et
      go_enter Try.func17, Try.ntmps17
      go_wp2_with fail
      refine (HT2.out _).mono ?_
      rintro e w1 ⟨rfl, nq, rfl⟩
      go_wp2_with fail
      refine (HK2.out _).mono ?_
      rintro e w2 ⟨rfl, rfl⟩
      go_wp2
      go_ret2
      exact ⟨rfl, nq, rfl⟩
  · have e : stampB s.data.toList = (0, false) := by unfold stampB; rw [hd]; simp [h]
    rw [e]
    have hi : ((s.size : Int) != 256) = true := by simp; omega
    clear HT e hd h
    go_enter Try.func17, Try.ntmps17
    go_wp2
    go_ret2
    exact ⟨rfl, 0, rfl⟩
end Go.Proofs.Ytkbigineepohnaa
