/-
  The contract of quaysidelaw08.does, whole.
-/
import Derived.Test.YtkdlmblkckmhaaaTapeDoesApp
import Derived.Test.YtkdlmblkckmhaaaTapeDoesSync
import Derived.Test.YtkdlmblkckmhaaaTapeDoesCut
import Derived.Test.YtkdlmblkckmhaaaTapeDoesChop
import Derived.Test.YtkdlmblkckmhaaaTapeDoesCrash
import Derived.Test.YtkdlmblkckmhaaaTapeDoesLook
namespace Go.Proofs.Ytkdlmblkckmhaaa
open Go.RowKit
set_option linter.unusedVariables false

/-- A tape behind a call. -/
def stepT (t : Tp) (c : Tc) : Tp := if c.k = 1 then (t.app c.b).1 else if c.k = 2 then t.sync else if c.k = 3 then (t.cut c.n).1 else if c.k = 4 then (t.chop c.n).1 else if c.k = 5 then t.crash c.n else t
theorem step_ok (t : Tp) (c : Tc) (h : t.ok) : (stepT t c).ok := by
  unfold stepT
  split
  · exact t.app_ok h _
  split
  · exact t.sync_ok h
  split
  · exact t.cut_ok h _
  split
  · exact t.chop_ok h _
  split
  · exact t.crash_ok h _
  · exact h

theorem does_any (gt gr B : Nat) (TA : World → Tp → Prop) (C : Hid (Cd gt gr B TA)) (t : Tp) (c : Tc) (w : World) (hB : B ≤ w.heap.size) (hg : B ≤ gr) (ht : TA w t) (hr : RtAt w gr t) (ok : t.ok) (hn : (Lit.int .i64 c.n).wf = true) (hb : c.b.size ≤ 65537) :
    Calls Try.prog 13 #[.pointer (some ⟨gt, 0, none⟩), .pointer (some ⟨gr, 0, none⟩), .agg (tcA c)] w fun e w' => e = .returned (.bool true) ∧ TA w' (stepT t c) ∧ RtAt w' gr (stepT t c) ∧ Below B w w' := by
  obtain ⟨k, n, b⟩ := c
  unfold stepT tcA
  simp only at hn hb ⊢
  by_cases k1 : k = 1
  · subst k1
    exact does_app gt gr B TA C t n b w hB hg ht hr ok hn hb
  rw [if_neg k1]
  by_cases k2 : k = 2
  · subst k2
    exact does_sync gt gr B TA C t n b w hB hg ht hr ok hn hb
  rw [if_neg k2]
  by_cases k3 : k = 3
  · subst k3
    exact does_cut gt gr B TA C t n b w hB hg ht hr ok hn hb
  rw [if_neg k3]
  by_cases k4 : k = 4
  · subst k4
    exact does_chop gt gr B TA C t n b w hB hg ht hr ok hn hb
  rw [if_neg k4]
  by_cases k5 : k = 5
  · subst k5
    exact does_crash gt gr B TA C t n b w hB hg ht hr ok hn hb
  rw [if_neg k5]
  exact does_look gt gr B TA C t k n b w hB hg ht hr ok hn hb (by simpa using k1) (by simpa using k2) (by simpa using k3) (by simpa using k4) (by simpa using k5)
end Go.Proofs.Ytkdlmblkckmhaaa
