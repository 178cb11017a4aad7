/-
  The reader of package record: what is written into its own block; what the parser answers.
-/
import Derived.Test.YtmapgfakfeddmaaRecRdTx
import Derived.Test.YtmapgfakfeddmaaRecRdDi
import Derived.Test.YtmapgfakfeddmaaRecUsed0
namespace Go.Proofs.Ytmapgfakfeddmaa
open Go.RowKit
set_option linter.unusedVariables false

theorem RbAt.setc {w : World} {g : Nat} {a : Option Addr} {len cap : Nat} {bs : List UInt8} {s : St} {r : Rec} {va vb : Value} (h : RbAt w g a len cap bs s r va vb) (j : Nat) (v : Value) (r' : Rec) (va' vb' : Value)
    (hs : ∀ k, (rdB (.slice a len cap) k s.e r va vb).setIfInBounds j v = rdB (.slice a len cap) k s.e r' va' vb') : RbAt (w.setCell ⟨g, j, none⟩ v) g a len cap bs s r' va' vb' := by
  obtain ⟨k, h1, h2, h3⟩ := h.row
  have hr := h1.set j v
  rw [hs] at hr
  exact ⟨⟨k, hr, h2, h3⟩, isB_grown h.bytes (grown_set v (grown_refl w (some g))) (apart_ne h.apart), h.room, h.apart⟩
theorem RbAt.setch {w : World} {g : Nat} {a : Option Addr} {len cap : Nat} {bs : List UInt8} {s : St} {r : Rec} {va vb : Value} (h : RbAt w g a len cap bs s r va vb) (c : Ch) : RbAt (w.setCells g 7 (chA c).toList) g a len cap bs s ⟨r.k, r.l, r.t, r.p, c, r.n, r.s, r.b, r.ts, r.ds⟩ va vb :=
  ((((h.setc 7 (.int .i64 c.k) ⟨r.k, r.l, r.t, r.p, ⟨c.k, r.c.pg, r.c.sl, r.c.o, r.c.n⟩, r.n, r.s, r.b, r.ts, r.ds⟩ va vb (fun _ => rfl)).setc 8 (.int .i64 c.pg) ⟨r.k, r.l, r.t, r.p, ⟨c.k, c.pg, r.c.sl, r.c.o, r.c.n⟩, r.n, r.s, r.b, r.ts, r.ds⟩ va vb (fun _ => rfl)).setc 9 (.int .i64 c.sl) ⟨r.k, r.l, r.t, r.p, ⟨c.k, c.pg, c.sl, r.c.o, r.c.n⟩, r.n, r.s, r.b, r.ts, r.ds⟩ va vb (fun _ => rfl)).setc 10 (.string c.o) ⟨r.k, r.l, r.t, r.p, ⟨c.k, c.pg, c.sl, c.o, r.c.n⟩, r.n, r.s, r.b, r.ts, r.ds⟩ va vb (fun _ => rfl)).setc 11 (.string c.n) ⟨r.k, r.l, r.t, r.p, c, r.n, r.s, r.b, r.ts, r.ds⟩ va vb (fun _ => rfl)
theorem grown_setch {w x : World} {g : Nat} (h : w.grownBy x (some g)) (c : Ch) : w.grownBy (x.setCells g 7 (chA c).toList) (some g) := grown_set _ (grown_set _ (grown_set _ (grown_set _ (grown_set _ h))))
theorem RbAt.there {w : World} {g : Nat} {a : Option Addr} {len cap : Nat} {bs : List UInt8} {s : St} {r : Rec} {va vb : Value} (h : RbAt w g a len cap bs s r va vb) : w.there g 7 5 := by
  obtain ⟨k, h1, _⟩ := h.row
  exact row_there h1 7 5 (by show 7 + 5 ≤ 17; omega)

theorem own_shape5 {w : World} {base n sz : Nat} {e : TypeId} {v : Value} {xs : List Value} (h : w.ownsRow base e sz v n xs) : ∃ a c, v = .slice a n c := by
  rcases h.2 with ⟨h1, h2⟩ | ⟨g', cap, cur, h2, _⟩
  · exact ⟨none, 0, by rw [h1, h2]⟩
  · exact ⟨_, _, h2⟩

theorem own_mono {w : World} {base base' n sz : Nat} {e : TypeId} {v : Value} {xs : List Value} (h : w.ownsRow base e sz v n xs) (hb : base' ≤ base) : w.ownsRow base' e sz v n xs := by
  refine ⟨h.1, h.2.imp id ?_⟩
  rintro ⟨g', cap, cur, h2, h3, h4⟩
  exact ⟨g', cap, cur, h2, Nat.le_trans hb h3, h4⟩

/-! ### The parser, in the order of the code -/
def recRest (k : Nat) : St → Rec × St := bindP (pNum 8) fun l => bindP (pNum 4) fun t => bindP (pNum 8) fun p => bindP (pMay (k ≤ 2) Ch.zero pCh) fun c => bindP (pMay (k = 2) 0 (pNum 8)) fun n => bindP (pMay (k = 6) 0 (pNum 1)) fun s =>
    bindP (pMay (k = 8) (0, [], []) pCheck) fun x => pureP ⟨k, l, t, p, c, n, s, x.1, x.2.1, x.2.2⟩
theorem rec_rest (s : St) : pRec s = recRest (pIn 1 8 s).1 (pIn 1 8 s).2 := rfl
theorem Good.rest (k : Nat) : Good (recRest k) := (Good.num 8).bind fun _ => (Good.num 4).bind fun _ => (Good.num 8).bind fun _ => (Good.may Good.ch).bind fun _ => (Good.may (Good.num 8)).bind fun _ => (Good.may (Good.num 1)).bind fun _ => (Good.may Good.check).bind fun _ => Good.pure _
theorem kind_bad {s : St} (hs : s.e = 0) (h : (pIn 1 8 s).2.e ≠ 0) : (pIn 1 8 s).1 < 1 ∨ 8 < (pIn 1 8 s).1 := by
  rw [in_val]
  by_cases h1 : (pNum 1 s).2.e = 0
  · by_cases hb : (pNum 1 s).1 < 1 ∨ 8 < (pNum 1 s).1
    · exact hb
    · have e : pIn 1 8 s = pNum 1 s := by unfold pIn; rw [if_neg (fun h => hb h.2)]
      rw [e] at h
      exact absurd h1 h
  · rw [num_zero h1]
    omega
theorem kind_good {s : St} (h : (pIn 1 8 s).2.e = 0) : 1 ≤ (pIn 1 8 s).1 ∧ (pIn 1 8 s).1 ≤ 8 := by
  by_cases hb : (pNum 1 s).2.e = 0 ∧ ((pNum 1 s).1 < 1 ∨ 8 < (pNum 1 s).1)
  · have e : pIn 1 8 s = ((pNum 1 s).1, ⟨(pNum 1 s).2.l, 2⟩) := by unfold pIn; rw [if_pos hb]
    rw [e] at h
    cases h
  · have e : pIn 1 8 s = pNum 1 s := by unfold pIn; rw [if_neg hb]
    rw [e] at h ⊢
    by_cases h2 : (pNum 1 s).1 < 1 ∨ 8 < (pNum 1 s).1
    · exact absurd ⟨h, h2⟩ hb
    · omega
theorem cnt_some {α : Type} {p : St → α × St} (hp : Good p) (m : Nat) (s : St) : (pSome p (pIn 0 m s).1 (pIn 0 m s).2).2 = itS p (cntN m s) (pIn 0 m s).2 ∧ ((pSome p (pIn 0 m s).1 (pIn 0 m s).2).2.e = 0 → (pSome p (pIn 0 m s).1 (pIn 0 m s).2).1 = itL p (cntN m s) (pIn 0 m s).2) := by
  by_cases h : (pIn 0 m s).2.e = 0
  · have e : cntN m s = (pIn 0 m s).1 := by unfold cntN; rw [if_pos h]
    rw [e]
    exact some_it hp _ _
  · have e : cntN m s = 0 := by unfold cntN; rw [if_neg h]
    rw [e, (Good.some hp _).stick _ h]
    exact ⟨rfl, fun h2 => absurd h2 h⟩
/-- What the call 'record' leaves. -/
def RecDone (w w' : World) (g : Nat) (a : Option Addr) (len cap : Nat) (bs : List UInt8) (s : St) : Prop :=
  ∃ r va vb, RbAt w' g a len cap bs (pRec s).2 r va vb ∧ ((pRec s).2.e = 0 → r = (pRec s).1) ∧ w'.ownsRow w.heap.size 65 5 va r.ts.length (flatT r.ts) ∧ w'.ownsRow w.heap.size 67 2 vb r.ds.length (flatD r.ds) ∧ w.grownBy w' (some g)
end Go.Proofs.Ytmapgfakfeddmaa
