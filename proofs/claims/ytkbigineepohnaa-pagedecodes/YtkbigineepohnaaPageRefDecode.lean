/-
  The contract of quaysideref04's Decode.
-/
import Derived.Test.YtkbigineepohnaaPageRefEncode
namespace Go.Proofs.Ytkbigineepohnaa
open Go.RowKit
set_option linter.unusedVariables false

set_option maxRecDepth 4000 in
set_option maxHeartbeats 400000 in
theorem rdec_id (id : Int) (s : ByteArray) (w : World) (h : id < 0 ∨ 31 < id) :
    Calls Try.prog 15 #[.int .i64 id, .string s] w fun e w' => e = .returned (.tuple #[.agg (pgA Pg.zero), .int .i64 1]) ∧ Below w.heap.size w w' := by
  by_cases h1 : id < 0
  · clear h
    go_enter Try.func15, Try.ntmps15
    go_wp2
    exact bodyPost_ret (res_page rfl _ _ w.heap.size Pg.zero rfl (heap_alloc_new w _)) rfl ⟨rfl, (Below.refl _ _).alloc (Nat.le_refl _) _⟩
  · have h2 : 31 < id := by omega
    clear h
    go_enter Try.func15, Try.ntmps15
    go_wp2
    exact bodyPost_ret (res_page rfl _ _ w.heap.size Pg.zero rfl (heap_alloc_new w _)) rfl ⟨rfl, (Below.refl _ _).alloc (Nat.le_refl _) _⟩

set_option maxRecDepth 4000 in
set_option maxHeartbeats 400000 in
theorem rdec_short (id : Int) (s : ByteArray) (w : World) (h1 : ¬ id < 0) (h2 : ¬ 31 < id) (h3 : (s.size : Int) < 256) :
    Calls Try.prog 15 #[.int .i64 id, .string s] w fun e w' => e = .returned (.tuple #[.agg (pgA Pg.zero), .int .i64 4]) ∧ Below w.heap.size w w' := by
  go_enter Try.func15, Try.ntmps15
  go_wp2
  exact bodyPost_ret (res_page rfl _ _ w.heap.size Pg.zero rfl (heap_alloc_new w _)) rfl ⟨rfl, (Below.refl _ _).alloc (Nat.le_refl _) _⟩

set_option maxRecDepth 4000 in
set_option maxHeartbeats 400000 in
theorem rdec_long (id : Int) (s : ByteArray) (w : World) (h1 : ¬ id < 0) (h2 : ¬ 31 < id) (h3 : ¬ (s.size : Int) < 256) (h4 : 256 < (s.size : Int)) :
    Calls Try.prog 15 #[.int .i64 id, .string s] w fun e w' => e = .returned (.tuple #[.agg (pgA Pg.zero), .int .i64 2]) ∧ Below w.heap.size w w' := by
  go_enter Try.func15, Try.ntmps15
  go_wp2
  exact bodyPost_ret (res_page rfl _ _ w.heap.size Pg.zero rfl (heap_alloc_new w _)) rfl ⟨rfl, (Below.refl _ _).alloc (Nat.le_refl _) _⟩

set_option maxRecDepth 4000 in
set_option maxHeartbeats 400000 in
theorem rdec_torn (id : Int) (s : ByteArray) (w : World) (h1 : ¬ id < 0) (h2 : ¬ 31 < id) (h3 : (s.size : Int) = 256) (ht : tornB s.data.toList = true) :
    Calls Try.prog 15 #[.int .i64 id, .string s] w fun e w' => e = .returned (.tuple #[.agg (pgA Pg.zero), .int .i64 14]) ∧ Below w.heap.size w w' := by
  have HT := hide (fun w => rtorn_any s w (by omega))
  rw [ht] at HT
  clear ht
  go_enter Try.func15, Try.ntmps15
  go_wp2_with fail
  refine (HT.out _).mono ?_
  rintro e w1 ⟨rfl, m, rfl⟩
  have hP1 : PgAt ((w.alloc (.cells (pgA Pg.zero) 27)).drewN m) w.heap.size Pg.zero := heap_alloc_new w _
  have hb1 : Below w.heap.size w ((w.alloc (.cells (pgA Pg.zero) 27)).drewN m) := below_dn ((Below.refl w.heap.size w).alloc (Nat.le_refl _) _) m
  have HP1 := hide hP1
  clear hP1 HT
  go_wp2_with (refine wpList_store_page rfl (.tmp 4) (.tmp 32) rfl w.heap.size Pg.zero Pg.zero rfl rfl HP1.out ?_)
  intro w2 hP2 hk
  have HP2 := hide hP2
  have d2 := hk _ _ hb1 (Nat.le_refl _)
  clear hP2 hk hb1 HP1
  go_wp2
  exact bodyPost_ret (res_page rfl _ _ w.heap.size Pg.zero rfl HP2.out) rfl ⟨rfl, d2⟩
end Go.Proofs.Ytkbigineepohnaa
