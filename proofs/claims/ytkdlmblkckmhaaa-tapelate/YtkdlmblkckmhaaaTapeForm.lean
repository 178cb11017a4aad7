/-
  What the code's tape keeps to, as the statements' walks lean on it: one form, whatever its fields are.
-/
import Derived.Test.YtkdlmblkckmhaaaTapeRef
namespace Go.Proofs.Ytkdlmblkckmhaaa
open Go.RowKit
set_option linter.unusedVariables false

/-- What a call of the code's tape leaves: all ahead of B, and every struct that is no tape of its kind. -/
structure Kc (B : Nat) (w w' : World) : Prop where
  below : Below B w w'
  rows : ∀ k t cs, t ≠ 32 → t ≠ 5 → RowAt w k t cs → RowAt w' k t cs
theorem Kc.refl (B : Nat) (w : World) : Kc B w w := ⟨Below.refl _ _, fun _ _ _ _ _ h => h⟩
theorem Kc.trans {B : Nat} {w x y : World} (h : Kc B w x) (k : Kc B x y) : Kc B w y := ⟨h.below.trans k.below, fun a t cs h1 h2 h3 => k.rows a t cs h1 h2 (h.rows a t cs h1 h2 h3)⟩
theorem Kc.later {B : Nat} {w x : World} (hg : B ≤ w.heap.size) (h : Below w.heap.size w x) : Kc B w x := ⟨h.mono hg, fun k t cs _ _ hr => hr.later h⟩
theorem Kc.rt {B g : Nat} {w x : World} {t : Tp} (h : Kc B w x) (hr : RtAt w g t) : RtAt x g t := h.rows _ _ _ (by decide) (by decide) hr

/-- The code's tape at a block: TA tells which tape it stands for. -/
structure Cd (gt gr B : Nat) (TA : World → Tp → Prop) : Prop where
  drew : ∀ x t, TA x t → TA x.drew t
  fresh : ∀ x y t, TA x t → Below x.heap.size x y → TA y t
  other : ∀ x y t u, TA x t → RtAt x gr u → But gr x y → TA y t
  app : ∀ x t a n cap bs, TA x t → t.ok → IsB x a n bs → (a = none → cap = 0) → n ≤ 70000 → Calls Try.prog 16 #[.pointer (some ⟨gt, 0, none⟩), .slice a n cap] x fun e x' => e = .returned (.int .i64 (t.app ⟨bs.toArray⟩).2) ∧ TA x' (t.app ⟨bs.toArray⟩).1 ∧ Kc B x x'
  sync : ∀ x t, TA x t → t.ok → Calls Try.prog 17 #[.pointer (some ⟨gt, 0, none⟩)] x fun e x' => e = .returned (.int .i64 0) ∧ TA x' t.sync ∧ Kc B x x'
  cut : ∀ x t n, TA x t → t.ok → (Lit.int .i64 n).wf = true → Calls Try.prog 20 #[.pointer (some ⟨gt, 0, none⟩), .int .i64 n] x fun e x' => e = .returned (.int .i64 (t.cut n).2) ∧ TA x' (t.cut n).1 ∧ Kc B x x'
  chop : ∀ x t n, TA x t → t.ok → (Lit.int .i64 n).wf = true → Calls Try.prog 21 #[.pointer (some ⟨gt, 0, none⟩), .int .i64 n] x fun e x' => e = .returned (.int .i64 (t.chop n).2) ∧ TA x' (t.chop n).1 ∧ Kc B x x'
  crash : ∀ x t n, TA x t → t.ok → (Lit.int .i64 n).wf = true → Calls Try.prog 19 #[.pointer (some ⟨gt, 0, none⟩), .int .i64 n] x fun e x' => e = .returned (.tuple #[]) ∧ TA x' (t.crash n) ∧ Kc B x x'
  len : ∀ x t, TA x t → t.ok → Calls Try.prog 15 #[.pointer (some ⟨gt, 0, none⟩)] x fun e x' => e = .returned (.int .i64 (t.b.size : Int)) ∧ TA x' t ∧ Kc B x x'
  synced : ∀ x t, TA x t → t.ok → Calls Try.prog 18 #[.pointer (some ⟨gt, 0, none⟩)] x fun e x' => e = .returned (.int .i64 (t.f : Int)) ∧ TA x' t ∧ Kc B x x'
  start : ∀ x t, TA x t → t.ok → Calls Try.prog 22 #[.pointer (some ⟨gt, 0, none⟩)] x fun e x' => e = .returned (.int .u64 (t.s : Int)) ∧ TA x' t ∧ Kc B x x'
  room : ∀ x t, TA x t → t.ok → Calls Try.prog 23 #[.pointer (some ⟨gt, 0, none⟩)] x fun e x' => e = .returned (.int .i64 (t.m : Int)) ∧ TA x' t ∧ Kc B x x'
  bytes : ∀ x t, TA x t → t.ok → Calls Try.prog 14 #[.pointer (some ⟨gt, 0, none⟩)] x fun e x' => ∃ v, e = .returned v ∧ x'.ownsRow x.heap.size 5 1 v t.b.size (toV t.b.data.toList) ∧ TA x' t ∧ Kc B x x' ∧ Below x.heap.size x x'
end Go.Proofs.Ytkdlmblkckmhaaa
