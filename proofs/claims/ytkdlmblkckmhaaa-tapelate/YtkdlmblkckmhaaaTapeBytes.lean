/-
  The contract of the code's Bytes.
-/
import Derived.Test.YtkdlmblkckmhaaaTapeApp
import Derived.Test.YtkdlmblkckmhaaaCopyRun
namespace Go.Proofs.Ytkdlmblkckmhaaa
open Go.RowKit
set_option linter.unusedVariables false

theorem TpV.isB {w : World} {gt gb cap : Nat} {a : Option Addr} {t : Tp} (h : TpV w gt gb cap a t) : IsB w a t.b.size t.b.data.toList := by
  rcases h.own with ⟨rfl, _, h2, rfl⟩ | ⟨rfl, _⟩
  · have hd : t.b.data.toList = [] := List.eq_nil_of_length_eq_zero (by rw [data_length, h2])
    rw [h2, hd]
    exact IsB.nil w
  · exact h.2.1.isB (data_length _)

set_option maxRecDepth 4000 in
set_option maxHeartbeats 800000 in
theorem bytes8_any (gt gb : Nat) (t : Tp) (w : World) (h : TpAt w gt gb t) (ok : t.ok) :
    Calls Try.prog 14 #[.pointer (some ⟨gt, 0, none⟩)] w fun e w' => ∃ v, e = .returned v ∧ w'.ownsRow w.heap.size 5 1 v t.b.size (toV t.b.data.toList) ∧ Below w.heap.size w w' := by
  obtain ⟨cap, a, h⟩ := h
  have hz := ok.few
  have hy := ok.room
  have hmk := fun w => run_mkn (P := Try.prog) 29 5 Try.underlying29 info8 t.b.size (by omega) w
  have hb : Below w.heap.size w (w.alloc (.cells (zrow t.b.size).toArray 5)) := (Below.refl _ _).alloc (Nat.le_refl _) _
  obtain ⟨w2, q1, q2, q3⟩ := run_copy_made (P := Try.prog) w (w.alloc (.cells (zrow t.b.size).toArray 5)) 29 3 5 Try.underlying29 info8s w.heap.size t.b.size hb (Nat.le_refl _) (heap_alloc_new w _) a cap t.b.data.toList (h.isB.below hb) (by unfold maxLen; omega)
  have c0 := h.1.cell 0 _ rfl
  have c1 := (h.1.later hb).cell 0 _ rfl
  have HR := hide (And.intro q2 q3)
  clear h ok hb q2 q3
  go_enter Try.func14, Try.ntmps14
  go_wp2_with (at_builtin; refine wpList_copy_run rfl (.tmp 12) (.tmp 16) 29 29 rfl _ _ _ rfl rfl q1 ?_)
  go_ret
  exact ⟨_, rfl, HR.out⟩
end Go.Proofs.Ytkdlmblkckmhaaa
