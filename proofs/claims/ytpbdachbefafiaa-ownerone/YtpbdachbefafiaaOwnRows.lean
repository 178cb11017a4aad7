/-
  Rows of one's own: behind calls, stores elsewhere, appends; their shape. Of no program.
-/
import Derived.Test.YtpbdachbefafiaaFoot
import Derived.Test.YtpbdachbefafiaaRowMem
import Derived.Laws.AppendOwn
import Derived.Laws.OwnMore
namespace Go.Proofs.Ytpbdachbefafiaa
open Go.RowKit
set_option linter.unusedVariables false

theorem ow_later {x y : World} {B n : Nat} {e : TypeId} {sz : Nat} {v : Value} {xs : List Value} (h : x.ownsRow B e sz v n xs) (hb : Below x.heap.size x y) : y.ownsRow B e sz v n xs := by
  obtain ⟨h1, h2⟩ := h
  refine ⟨h1, h2.imp id ?_⟩
  rintro ⟨g, cap, cur, a, b, c, d⟩
  exact ⟨g, cap, cur, a, b, RowAt.later (show RowAt x g e cur from c) hb, d⟩
theorem ow_below {w0 x y : World} {B C n : Nat} {e : TypeId} {sz : Nat} {v : Value} {xs : List Value} (h : x.ownsRow C e sz v n xs) (hC : B ≤ C) (hb : Below B w0 x) (hB : B ≤ x.heap.size) (hg : x.grownBy y v.ownBlock) : Below B w0 y := by
  have key : ∀ k, some k = v.ownBlock → B ≤ k := by
    intro k hk
    rcases h.2 with ⟨rfl, _⟩ | ⟨g, cap, cur, rfl, hB, _⟩
    · cases hk
    · injection hk with hk
      rw [hk]
      exact Nat.le_trans hC hB
  refine ⟨hg.os.trans hb.1, hg.tape.trans hb.2, hg.output.trans hb.3, Nat.le_trans hb.4 hg.size, fun k hk => ?_⟩
  exact (hg.block k (by omega) (fun e => by have := key k e; omega)).trans (hb.5 k hk)
theorem ow_turn {F : Nat → Prop} {x y : World} {B n : Nat} {e : TypeId} {sz : Nat} {v : Value} {xs : List Value} (h : x.ownsRow B e sz v n xs) (q : Tn F x y) (hF : ∀ k, F k → k < B) : y.ownsRow B e sz v n xs := by
  obtain ⟨h1, h2⟩ := h
  refine ⟨h1, h2.imp id ?_⟩
  rintro ⟨g, cap, cur, a, b, c, d⟩
  exact ⟨g, cap, cur, a, b, q.row (show RowAt x g e cur from c) (fun hf => by have := hF g hf; omega), d⟩
theorem ow_shape {w : World} {B n : Nat} {e : TypeId} {sz : Nat} {v : Value} {xs : List Value} (h : w.ownsRow B e sz v n xs) : ∃ a c, v = .slice a n c ∧ n ≤ c ∧ (0 < n → ∃ b, a = some ⟨b, 0, none⟩ ∧ B ≤ b) := by
  rcases h.2 with ⟨rfl, h0⟩ | ⟨g, cap, cur, rfl, hB, _, h1, _⟩
  · exact ⟨none, 0, by rw [h0], by omega, fun h => absurd h (by omega)⟩
  · exact ⟨_, _, rfl, h1, fun _ => ⟨g, rfl, hB⟩⟩
end Go.Proofs.Ytpbdachbefafiaa
