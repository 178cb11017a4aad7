/-
  The contracts of the code's tape: what it tells of itself, a new one, Sync.
-/
import Derived.Test.YtkdlmblkckmhaaaTapeMem
namespace Go.Proofs.Ytkdlmblkckmhaaa
open Go.RowKit
set_option linter.unusedVariables false

theorem tp_new (r x : Int) (w : World) (hx : x = max 0 (min r 65536)) : TpAt (w.alloc (.cells #[.slice none 0 0, .int .i64 0, .int .u64 0, .int .i64 x] 32)) w.heap.size w.heap.size (Tp.new r) := by
  have hm : x = ((Tp.new r).m : Int) := by
    rw [hx]
    unfold Tp.new
    simp only
    omega
  rw [hm]
  exact ⟨0, none, RowAt.new w 32 _, World.ownsRow_nil _ _ _ _, .inl ⟨rfl, rfl⟩⟩

set_option maxRecDepth 4000 in
set_option maxHeartbeats 400000 in
theorem new8_any (r : Int) (w : World) :
    Calls Try.prog 11 #[.int .i64 r] w fun e w' => e = .returned (.pointer (some ⟨w.heap.size, 0, none⟩)) ∧ TpAt w' w.heap.size w.heap.size (Tp.new r) ∧ Below w.heap.size w w' := by
  go_enter Try.func11, Try.ntmps11
  go_wp2
  all_goals
    go_ret
    exact ⟨rfl, tp_new r _ w (by omega), (Below.refl w.heap.size w).alloc (Nat.le_refl _) _⟩

set_option maxRecDepth 4000 in
set_option maxHeartbeats 400000 in
theorem len8_any (gt gb : Nat) (t : Tp) (w : World) (h : TpAt w gt gb t) :
    Calls Try.prog 15 #[.pointer (some ⟨gt, 0, none⟩)] w fun e w' => e = .returned (.int .i64 (t.b.size : Int)) ∧ w = w' := by
  obtain ⟨cap, a, h⟩ := h
  have c0 := h.1.cell 0 _ rfl
  clear h
  go_enter Try.func15, Try.ntmps15
  go_wp2
  go_ret
  exact ⟨rfl, rfl⟩
set_option maxRecDepth 4000 in
set_option maxHeartbeats 400000 in
theorem synced8_any (gt gb : Nat) (t : Tp) (w : World) (h : TpAt w gt gb t) :
    Calls Try.prog 18 #[.pointer (some ⟨gt, 0, none⟩)] w fun e w' => e = .returned (.int .i64 (t.f : Int)) ∧ w = w' := by
  obtain ⟨cap, a, h⟩ := h
  have c0 := h.1.cell 1 _ rfl
  clear h
  go_enter Try.func18, Try.ntmps18
  go_wp2
  go_ret
  exact ⟨rfl, rfl⟩
set_option maxRecDepth 4000 in
set_option maxHeartbeats 400000 in
theorem start8_any (gt gb : Nat) (t : Tp) (w : World) (h : TpAt w gt gb t) :
    Calls Try.prog 22 #[.pointer (some ⟨gt, 0, none⟩)] w fun e w' => e = .returned (.int .u64 (t.s : Int)) ∧ w = w' := by
  obtain ⟨cap, a, h⟩ := h
  have c0 := h.1.cell 2 _ rfl
  clear h
  go_enter Try.func22, Try.ntmps22
  go_wp2
  go_ret
  exact ⟨rfl, rfl⟩
set_option maxRecDepth 4000 in
set_option maxHeartbeats 400000 in
theorem room8_any (gt gb : Nat) (t : Tp) (w : World) (h : TpAt w gt gb t) :
    Calls Try.prog 23 #[.pointer (some ⟨gt, 0, none⟩)] w fun e w' => e = .returned (.int .i64 (t.m : Int)) ∧ w = w' := by
  obtain ⟨cap, a, h⟩ := h
  have c0 := h.1.cell 3 _ rfl
  clear h
  go_enter Try.func23, Try.ntmps23
  go_wp2
  go_ret
  exact ⟨rfl, rfl⟩

theorem TpV.setf {w : World} {gt gb cap : Nat} {a : Option Addr} {t : Tp} (h : TpV w gt gb cap a t) (f : Int) (n : Nat) (hf : f = (n : Int)) : TpV (w.setCell ⟨gt, 1, none⟩ (.int .i64 f)) gt gb cap a { t with f := n } := by
  subst hf
  refine ⟨RowAt.set h.1 1 _, ?_, h.2.2⟩
  rcases h.own with ⟨rfl, _, h2, rfl⟩ | ⟨rfl, h2, h3, h4, h5, cur, h6, h7, h8⟩
  · show World.ownsRow _ 0 5 1 (.slice none t.b.size 0) t.b.size (toV t.b.data.toList)
    have hd : t.b.data.toList = [] := List.eq_nil_of_length_eq_zero (by rw [data_length, h2])
    rw [h2, hd]
    exact World.ownsRow_nil _ _ _ _
  · exact ⟨h.2.1.1, .inr ⟨gb, cap, cur, rfl, Nat.zero_le _, (heap_setCell_other w ⟨gt, 1, none⟩ gb _ (fun e => h2 e.symm)).trans h6, h4, h5, by simpa using h7, by simpa using h8⟩⟩

set_option maxRecDepth 4000 in
set_option maxHeartbeats 400000 in
theorem sync8_any (gt gb : Nat) (t : Tp) (w : World) (h : TpAt w gt gb t) :
    Calls Try.prog 17 #[.pointer (some ⟨gt, 0, none⟩)] w fun e w' => e = .returned (.int .i64 0) ∧ TpAt w' gt gb t.sync ∧ Turn gt gb w w' := by
  obtain ⟨cap, a, h⟩ := h
  have H := hide h
  have c0 := h.1.cell 0 _ rfl
  have c1 := h.1.cell 1 _ rfl
  have f1 := h.1.free 1
  clear h
  go_enter Try.func17, Try.ntmps17
  go_wp2
  go_ret
  exact ⟨rfl, ⟨cap, a, H.out.setf _ _ rfl⟩, (Turn.refl gt gb w).set 1 _⟩
end Go.Proofs.Ytkdlmblkckmhaaa
