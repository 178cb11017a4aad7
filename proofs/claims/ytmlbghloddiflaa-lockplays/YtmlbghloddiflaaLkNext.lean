/-
  The contract of a place's next: those who keep one out, and the one just ahead.
-/
import Derived.Test.YtmlbghloddiflaaLkLet
namespace Go.Proofs.Ytmlbghloddiflaa
open Go.RowKit
set_option linter.unusedVariables false

section
variable {w : World} {g : Nat} {p : Pt} {S : Nat → Sl} {x : Nat}
/-- Where one who waits stands. -/
structure Stands (l : List Hd) (k : Hd) (i : Nat) : Prop where
  at' : l[i]? = some k
  first : ∀ j q, j < i → l[j]? = some q → q ≠ k
theorem Stands.tail {q : Hd} {l : List Hd} {k : Hd} {i : Nat} (h : Stands (q :: l) k (i + 1)) : q ≠ k ∧ Stands l k i :=
  ⟨h.first 0 q (by omega) rfl, by simpa using h.at', fun j r hj e => h.first (j + 1) r (by omega) (by simpa using e)⟩
theorem Stands.ahead : ∀ {l : List Hd} {k : Hd} {i : Nat}, Stands l k i → aheadS l k = l.take i
  | [], k, i, h => absurd h.at' (by simp)
  | q :: l, k, 0, h => by
    have e : q = k := by simpa using h.at'
    simp [aheadS, e]
  | q :: l, k, i + 1, h => by
    have e := h.tail
    have e2 : aheadS (q :: l) k = q :: aheadS l k := by simp [aheadS, e.1]
    rw [e2, Stands.ahead e.2]
    rfl
theorem stands_of : ∀ {l : List Hd} {k : Hd}, k ∈ l → ∃ i, Stands l k i
  | [], k, h => absurd h (by simp)
  | q :: l, k, h => by
    by_cases e : q = k
    · exact ⟨0, by simp [e], fun j r hj => absurd hj (Nat.not_lt_zero _)⟩
    · have hl : k ∈ l := by
        rcases List.mem_cons.1 h with rfl | h
        · exact absurd rfl e
        · exact h
      obtain ⟨i, hi⟩ := stands_of hl
      refine ⟨i + 1, by simpa using hi.at', fun j r hj er => ?_⟩
      cases j with
      | zero =>
        simp at er
        rw [← er]
        exact e
      | succ j => exact hi.first j r (by omega) (by simpa using er)
theorem last_take {l : List Hd} {i : Nat} {m : Hd} (h : l[i]? = some m) : lastW (l.take (i + 1)) = [m.w] := by
  rw [take_snoc l i m h]
  simp [lastW]
set_option maxRecDepth 8000 in
set_option maxHeartbeats 3200000 in
theorem next13 (h : TAt w g p S) (hx : x < 288) (k : Hd) (i : Nat) (hf : k.fine) (hfl : ∀ q ∈ p.row x, q.fine) (hst : Stands (p.row x) k i) (hlh : (p.had x).length ≤ 1000000) (hl : (p.row x).length ≤ 1000000) :
    Calls Try.prog 76 #[.pointer (some ⟨g, x * 2, none⟩), .agg (hdA k)] w fun e w' => ∃ v, e = .returned v ∧ OwnI w.heap.size w' v (barL (p.had x) k ++ lastW (aheadS (p.row x) k)) ∧ Below w.heap.size w w' := by
  have H := hide h
  have H0 := hide (CB.new h (hdA k))
  obtain ⟨b, hb0, _⟩ := (h.rowB hx).at hst.at'
  have hil := (List.getElem?_eq_some_iff.1 hst.at').1
  have hcap := (h.rowB hx).cap
  have HAH := hide (fun y (hy : CB w g p S w.heap.size (hdA k) y) => ahead13 hy.1 hx k i hf hfl hst.at' hst.first hl)
  rw [slV_some hb0] at HAH
  have HBR := hide (barring13 (CB.new h (hdA k)).1 hx k hlh)
  have HST := hide hst
  have HB0 := hide hb0
  have d0 := (CB.new h (hdA k)).2.1.cell 0 (.int .i64 k.w) rfl
  have d1 := (CB.new h (hdA k)).2.1.cell 1 (.int .i64 k.x) rfl
  have d2 := (CB.new h (hdA k)).2.1.cell 2 (.int .i64 k.m) rfl
  have hi6 : i ≤ 1000000 := by omega
  have hic : i ≤ (S (x * 2 + 1)).c := by omega
  clear h hf hfl hst hb0 hil hcap
  generalize (S (x * 2 + 1)).c = c at *
  have HA3 := hide (show hdA k = #[.int .i64 k.w, .int .i64 k.x, .int .i64 k.m] from rfl)
  rw [HA3.out] at H0 HAH HBR d0 d1 d2 ⊢
  go_enter Try.func76, Try.ntmps76
  go_wp2_with fail
  refine HBR.out.mono ?_
  rintro e w1 ⟨v, rfl, hO, hb⟩
  have HC1 := hide (H0.out.later hb)
  have hO' : OwnI w.heap.size w1 v (barL (p.had x) k) := hO.weak H0.out.2.2.size
  have HO := hide hO'
  have d0 := HC1.out.2.1.cell 0 (.int .i64 k.w) rfl
  have d1 := HC1.out.2.1.cell 1 (.int .i64 k.x) rfl
  have d2 := HC1.out.2.1.cell 2 (.int .i64 k.m) rfl
  clear hO hO' hb HBR H0
  go_wp2_with fail
  refine (HAH.out w1 HC1.out).mono ?_
  rintro e w2 ⟨rfl, hb2⟩
  have HC2 := hide (HC1.out.later hb2)
  have HO2 := hide (HO.out.later hb2)
  clear hb2 HO HC1 HAH d0 d1 d2
  by_cases h0 : i = 0
  · have HE := hide (show lastW (aheadS (p.row x) k) = [] from by rw [HST.out.ahead, h0]; rfl)
    subst h0
    go_wp2
    go_ret
    exact ⟨_, rfl, by rw [HE.out, List.append_nil]; exact HO2.out, HC2.out.2.2⟩
  · obtain ⟨i', rfl⟩ : ∃ i', i = i' + 1 := ⟨i - 1, by omega⟩
    obtain ⟨m, hmm⟩ : ∃ m, (p.row x)[i']? = some m := ⟨_, List.getElem?_eq_getElem (by have := (List.getElem?_eq_some_iff.1 HST.out.at').1; omega)⟩
    have HE := hide (show lastW (aheadS (p.row x) k) = [m.w] from by rw [HST.out.ahead, last_take hmm])
    obtain ⟨b', hb', _, c0, c1, c2⟩ := (HC2.out.1.rowB hx).at hmm
    have : b' = b := by
      have e := HB0.out
      rw [hb'] at e
      injection e
    subst this
    have b5 : Below w2.heap.size w2 (w2.alloc (.cells #[.int .i64 m.w] 3)) := (Below.refl w2.heap.size w2).alloc (Nat.le_refl _) _
    have hcell : (w2.alloc (.cells #[.int .i64 m.w] 3)).cell? ⟨w2.heap.size, 0, none⟩ = some (.int .i64 m.w) := (RowAt.new w2 3 #[.int .i64 m.w]).cell 0 _ rfl
    have hO5 := HO2.out.later b5
    have hblen := bar_len (p.had x) k
    obtain ⟨v', w6, ha, hO6, hT6⟩ := hO5.push m.w w2.heap.size 1 hcell (Nat.le_trans HC2.out.2.2.size b5.size) (by omega) 50
    have hC5 := HC2.out.later b5
    have HEND := hide (And.intro hO6 (hC5.2.2.trans (hT6.below (fun q hq => (hO5.block hq).1) hC5.2.2.size)))
    have i1 : (0 : Int) < (i' : Int) + 1 := by omega
    have i2 : (i' : Int) < (i' : Int) + 1 := by omega
    have ecast : ((i' + 1 : Nat) : Int) = (i' : Int) + 1 := by omega
    clear b5 hcell hO5 hblen hO6 hT6 hC5 hmm hb' h0 HST HB0
    go_wp2_with (at_builtin; refine Lib.wpList_append_run _ rfl _ _ _ _ rfl _ _ rfl rfl _ _ ha ?_)
    go_ret
    exact ⟨_, rfl, by rw [HE.out]; exact HEND.out.1, HEND.out.2⟩
end
end Go.Proofs.Ytmlbghloddiflaa
