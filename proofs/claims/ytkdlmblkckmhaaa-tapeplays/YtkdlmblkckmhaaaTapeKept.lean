/-
  A tape of the code's that a walk keeps, call by call: all that was there when the walk began stays.
-/
import Derived.Test.YtkdlmblkckmhaaaTapeCut
import Derived.Test.YtkdlmblkckmhaaaTapeCrash
namespace Go.Proofs.Ytkdlmblkckmhaaa
open Go.RowKit
set_option linter.unusedVariables false

structure K8 (w0 w : World) (gt : Nat) (t : Tp) : Prop where
  low : w0.heap.size ≤ gt
  ok : t.ok
  tp : ∃ gb, w0.heap.size ≤ gb ∧ TpAt w gt gb t
  bel : Below w0.heap.size w0 w
theorem K8.later {w0 w x : World} {gt : Nat} {t : Tp} (h : K8 w0 w gt t) (p : Below w.heap.size w x) : K8 w0 x gt t := by
  obtain ⟨gb, hb, h1⟩ := h.tp
  exact ⟨h.low, h.ok, ⟨gb, hb, h1.later p⟩, h.bel.trans (p.mono h.bel.size)⟩
theorem K8.alloc {w0 w : World} {gt : Nat} {t : Tp} (h : K8 w0 w gt t) (o : Obj) : K8 w0 (w.alloc o) gt t := h.later ((Below.refl _ _).alloc (Nat.le_refl _) _)
theorem K8.drew {w0 w : World} {gt : Nat} {t : Tp} (h : K8 w0 w gt t) : K8 w0 w.drew gt t := h.later ⟨rfl, rfl, rfl, Nat.le_refl _, fun _ _ => rfl⟩
theorem K8.turn {w0 w x : World} {gt gb gb' : Nat} {t u : Tp} (h : K8 w0 w gt t) (hb : w0.heap.size ≤ gb) (hu : u.ok) (h1 : TpAt x gt gb' u) (p : Turn gt gb w x) (h2 : gb' = gb ∨ w.heap.size ≤ gb') : K8 w0 x gt u :=
  ⟨h.low, hu, ⟨gb', by have := h.bel.size; omega, h1⟩, h.bel.trans (p.below h.low hb h.bel.size)⟩
theorem knew8 (r : Int) (w0 w : World) (h : Below w0.heap.size w0 w) :
    Calls Try.prog 11 #[.int .i64 r] w fun e w' => e = .returned (.pointer (some ⟨w.heap.size, 0, none⟩)) ∧ K8 w0 w' w.heap.size (Tp.new r) ∧ Below w.heap.size w w' :=
  (new8_any r w).mono fun e w' he => ⟨he.1, ⟨h.size, Tp.new_ok r, ⟨w.heap.size, h.size, he.2.1⟩, h.trans (he.2.2.mono h.size)⟩, he.2.2⟩
theorem kapp8 (w0 w : World) (gt : Nat) (t : Tp) (h : K8 w0 w gt t) (ad : Option Addr) (n c : Nat) (bs : List UInt8) (hB : IsB w ad n bs) (hnil : ad = none → c = 0) (hs : n ≤ 70000) :
    Calls Try.prog 16 #[.pointer (some ⟨gt, 0, none⟩), .slice ad n c] w fun e w' => e = .returned (.int .i64 (t.app ⟨bs.toArray⟩).2) ∧ K8 w0 w' gt (t.app ⟨bs.toArray⟩).1 := by
  obtain ⟨gb, hb, h1⟩ := h.tp
  refine (app8_any gt gb t ad n c bs w h1 h.ok hB hnil hs).mono ?_
  rintro e w' ⟨rfl, gb', q1, q2, q3⟩
  exact ⟨rfl, h.turn hb (t.app_ok h.ok _) q1 q2 q3⟩
theorem ksync8 (w0 w : World) (gt : Nat) (t : Tp) (h : K8 w0 w gt t) :
    Calls Try.prog 17 #[.pointer (some ⟨gt, 0, none⟩)] w fun e w' => e = .returned (.int .i64 0) ∧ K8 w0 w' gt t.sync := by
  obtain ⟨gb, hb, h1⟩ := h.tp
  exact (sync8_any gt gb t w h1).mono fun e w' he => ⟨he.1, h.turn hb (t.sync_ok h.ok) he.2.1 he.2.2 (.inl rfl)⟩
theorem kcut8 (w0 w : World) (gt : Nat) (t : Tp) (h : K8 w0 w gt t) (n : Int) :
    Calls Try.prog 20 #[.pointer (some ⟨gt, 0, none⟩), .int .i64 n] w fun e w' => e = .returned (.int .i64 (t.cut n).2) ∧ K8 w0 w' gt (t.cut n).1 := by
  obtain ⟨gb, hb, h1⟩ := h.tp
  exact (cut8_any gt gb t n w h1 h.ok).mono fun e w' he => ⟨he.1, h.turn hb (t.cut_ok h.ok n) he.2.1 he.2.2 (.inl rfl)⟩
theorem kchop8 (w0 w : World) (gt : Nat) (t : Tp) (h : K8 w0 w gt t) (n : Int) :
    Calls Try.prog 21 #[.pointer (some ⟨gt, 0, none⟩), .int .i64 n] w fun e w' => e = .returned (.int .i64 (t.chop n).2) ∧ K8 w0 w' gt (t.chop n).1 := by
  obtain ⟨gb, hb, h1⟩ := h.tp
  exact (chop8_any gt gb t n w h1 h.ok).mono fun e w' he => ⟨he.1, h.turn hb (t.chop_ok h.ok n) he.2.1 he.2.2 (.inl rfl)⟩
theorem kcrash8 (w0 w : World) (gt : Nat) (t : Tp) (h : K8 w0 w gt t) (n : Int) :
    Calls Try.prog 19 #[.pointer (some ⟨gt, 0, none⟩), .int .i64 n] w fun e w' => e = .returned (.tuple #[]) ∧ K8 w0 w' gt (t.crash n) := by
  obtain ⟨gb, hb, h1⟩ := h.tp
  exact (crash8_any gt gb t n w h1 h.ok).mono fun e w' he => ⟨he.1, h.turn hb (t.crash_ok h.ok n) he.2.1 he.2.2 (.inl rfl)⟩
theorem klen8 (w0 w : World) (gt : Nat) (t : Tp) (h : K8 w0 w gt t) :
    Calls Try.prog 15 #[.pointer (some ⟨gt, 0, none⟩)] w fun e w' => e = .returned (.int .i64 (t.b.size : Int)) ∧ w = w' := by
  obtain ⟨gb, hb, h1⟩ := h.tp
  exact len8_any gt gb t w h1
theorem ksynced8 (w0 w : World) (gt : Nat) (t : Tp) (h : K8 w0 w gt t) :
    Calls Try.prog 18 #[.pointer (some ⟨gt, 0, none⟩)] w fun e w' => e = .returned (.int .i64 (t.f : Int)) ∧ w = w' := by
  obtain ⟨gb, hb, h1⟩ := h.tp
  exact synced8_any gt gb t w h1
theorem kroom8 (w0 w : World) (gt : Nat) (t : Tp) (h : K8 w0 w gt t) :
    Calls Try.prog 23 #[.pointer (some ⟨gt, 0, none⟩)] w fun e w' => e = .returned (.int .i64 (t.m : Int)) ∧ w = w' := by
  obtain ⟨gb, hb, h1⟩ := h.tp
  exact room8_any gt gb t w h1
theorem kbytes8 (w0 w : World) (gt : Nat) (t : Tp) (h : K8 w0 w gt t) :
    Calls Try.prog 14 #[.pointer (some ⟨gt, 0, none⟩)] w fun e w' => ∃ v, e = .returned v ∧ w'.ownsRow w.heap.size 5 1 v t.b.size (toV t.b.data.toList) ∧ K8 w0 w' gt t ∧ Below w.heap.size w w' := by
  obtain ⟨gb, hb, h1⟩ := h.tp
  exact (bytes8_any gt gb t w h1 h.ok).mono fun e w' ⟨v, h2, h3, h4⟩ => ⟨v, h2, h3, h.later h4, h4⟩
end Go.Proofs.Ytkdlmblkckmhaaa
