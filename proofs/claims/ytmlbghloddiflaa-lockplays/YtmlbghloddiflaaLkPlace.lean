/-
  The contracts of a place's calls that only read: find, holds, fits; of the table's size and at.
-/
import Derived.Test.YtmlbghloddiflaaLkTab
import Derived.Test.YtmlbghloddiflaaLkSearch
import Derived.Test.YtmlbghloddiflaaLkBars
namespace Go.Proofs.Ytmlbghloddiflaa
open Go.RowKit
set_option linter.unusedVariables false

theorem slV_some {s : Sl} {b : Nat} (h : s.b = some b) (n : Nat) : slV s n = .slice (some ⟨b, 0, none⟩) n s.c := by
  unfold slV adr
  rw [h]
  rfl
theorem slV_none {w : World} {s : Sl} {l : List Hd} (h : HB w s l) (hb : s.b = none) (n : Nat) : slV s n = .slice none n 0 ∧ l = [] := by
  rcases h with ⟨h1, h2, h3⟩ | ⟨b, cs, h1, _⟩
  · unfold slV adr
    rw [h1, h3]
    exact ⟨rfl, h2⟩
  · rw [hb] at h1; cases h1
set_option maxRecDepth 4000 in
set_option maxHeartbeats 400000 in
theorem size13 (a : Addr) (w : World) : Calls Try.prog 37 #[.pointer (some a)] w fun e w' => e = .returned (.int .i64 288) ∧ w = w' := by
  obtain ⟨b, o, q⟩ := a
  go_enter Try.func37, Try.ntmps37
  go_wp2
  go_ret
  simp
set_option maxRecDepth 4000 in
set_option maxHeartbeats 400000 in
theorem size13_nil (w : World) : Calls Try.prog 37 #[.pointer none] w fun e w' => e = .returned (.int .i64 0) ∧ w = w' := by
  go_enter Try.func37, Try.ntmps37
  go_wp2
  go_ret
  simp
set_option maxRecDepth 4000 in
set_option maxHeartbeats 400000 in
theorem at13_no (v : Value) (w : World) (z : Int) (hv : (v = .pointer none ∧ z = 0) ∨ ((∃ a, v = .pointer (some a)) ∧ z = 288)) (x : Int) (hx : ¬ (0 ≤ x ∧ x < z)) : Calls Try.prog 39 #[v, .int .i64 x] w fun e w' => e = .returned (.pointer none) ∧ w = w' := by
  have HS : Calls Try.prog 37 #[v] w fun e w' => e = .returned (.int .i64 z) ∧ w = w' := by
    rcases hv with ⟨rfl, rfl⟩ | ⟨⟨a, rfl⟩, rfl⟩
    · exact size13_nil w
    · exact size13 a w
  have HS := hide HS
  clear hv
  by_cases h0 : x < 0
  · go_enter Try.func39, Try.ntmps39
    go_wp2
    go_ret
    simp
  · have h1 : z ≤ x := by omega
    go_enter Try.func39, Try.ntmps39
    go_wp2_with fail
    refine HS.out.mono ?_
    rintro e w1 ⟨rfl, rfl⟩
    go_wp2
    go_ret
    simp
set_option maxRecDepth 4000 in
set_option maxHeartbeats 400000 in
theorem at13 (g : Nat) (w : World) (x : Nat) (hx : x < 288) : Calls Try.prog 39 #[.pointer (some ⟨g, 0, none⟩), .int .i64 (x : Int)] w fun e w' => e = .returned (.pointer (some ⟨g, x * 2, none⟩)) ∧ w = w' := by
  have HS := hide (size13 ⟨g, 0, none⟩ w)
  have h0 : ¬ (x : Int) < 0 := by omega
  have h1 : ¬ (288 : Int) ≤ (x : Int) := by omega
  have h2 : (x : Int) < 288 := by omega
  go_enter Try.func39, Try.ntmps39
  go_wp2_with fail
  refine HS.out.mono ?_
  rintro e w1 ⟨rfl, rfl⟩
  go_wp2
  go_ret
  simp
section
variable {w : World} {g : Nat} {p : Pt} {S : Nat → Sl} {x : Nat}
set_option maxRecDepth 4000 in
set_option maxHeartbeats 400000 in
theorem find13 (h : TAt w g p S) (hx : x < 288) (hs : SortW (p.had x)) (hl : (p.had x).length ≤ 1000000) (who : Int) : Calls Try.prog 67 #[.pointer (some ⟨g, x * 2, none⟩), .int .i64 who] w (Found13 (p.had x) who w) := by
  have c0 := h.had hx
  have HF := hide (search13 (S (x * 2)) (p.had x) who w (h.hadB hx) hs hl)
  clear h hs
  generalize slV (S (x * 2)) (p.had x).length = v at *
  go_enter Try.func67, Try.ntmps67
  go_wp2_with fail
  refine HF.out.mono ?_
  rintro e w1 ⟨i, q, rfl, hq⟩
  have HQ := hide hq
  clear hq
  go_wp2
  go_ret2
  exact ⟨i, q, rfl, HQ.out⟩
theorem found_at {l : List Hd} {n : Int} {i : Nat} (hs : SortW l) (h : ∃ k, l[i]? = some k ∧ k.w = n) : ∃ k, l[i]? = some k ∧ k.w = n ∧ atW l n = k.m := by
  obtain ⟨k, h1, h2⟩ := h
  exact ⟨k, h1, h2, by rw [← h2]; exact atW_of hs (List.mem_of_getElem? h1)⟩
theorem found_not {l : List Hd} {n : Int} {i : Nat} (h1 : ∀ j k, j < i → l[j]? = some k → k.w < n) (h2 : ∀ j k, i ≤ j → l[j]? = some k → n < k.w) : ∀ k ∈ l, k.w ≠ n := fun k hk e => by
  obtain ⟨j, hj, e2⟩ := List.getElem_of_mem hk
  have e3 : l[j]? = some k := by rw [List.getElem?_eq_getElem hj, e2]
  rcases Nat.lt_or_ge j i with h | h
  · have := h1 j k h e3; omega
  · have := h2 j k h e3; omega
set_option maxRecDepth 4000 in
set_option maxHeartbeats 800000 in
theorem holds13 (h : TAt w g p S) (hx : x < 288) (hs : SortW (p.had x)) (hl : (p.had x).length ≤ 1000000) (who : Int) : Calls Try.prog 40 #[.pointer (some ⟨g, x * 2, none⟩), .int .i64 who] w fun e w' => e = .returned (.int .i64 (atW (p.had x) who)) ∧ Below w.heap.size w w' := by
  have HF := hide (find13 h hx hs hl who)
  have H := hide h
  have HS := hide hs
  clear h hs
  go_enter Try.func40, Try.ntmps40
  go_wp2_with fail
  refine HF.out.mono ?_
  rintro e w1 ⟨i, q, rfl, hi, h1, h2, h3, hb⟩
  have HB := hide hb
  clear hb HF
  cases q with
  | false =>
    have HN := hide (atW_none (found_not h1 (h3 rfl)))
    clear h1 h2 h3
    go_wp2
    go_ret
    exact ⟨by rw [HN.out]; rfl, HB.out⟩
  | true =>
    obtain ⟨k, hk, hkw, hat⟩ := found_at HS.out (h2 rfl)
    have il : (i : Int) < ((p.had x).length : Int) := by
      have := (List.getElem?_eq_some_iff.1 hk).1
      omega
    obtain ⟨b, hb0, _, c1, c2, c3⟩ := ((H.out.later HB.out).hadB hx).at hk
    have c0 := (H.out.later HB.out).had hx
    rw [slV_some hb0] at c0
    have HN := hide hat
    clear h1 h2 h3 hat hkw hk hb0
    generalize (p.had x).length = n at *
    generalize (S (x * 2)).c = c at *
    go_wp2
    go_ret
    exact ⟨by rw [HN.out]; rfl, HB.out⟩
set_option maxRecDepth 4000 in
set_option maxHeartbeats 800000 in
theorem fits13 (h : TAt w g p S) (hx : x < 288) (hl : (p.had x).length ≤ 1000000) (k : Hd) : Calls Try.prog 46 #[.pointer (some ⟨g, x * 2, none⟩), .agg (hdA k)] w fun e w' => e = .returned (.bool (fitsS (p.had x) k)) ∧ Below w.heap.size w w' := by
  have b1 : Below w.heap.size w (w.alloc (.cells (hdA k) 46)) := (Below.refl w.heap.size w).alloc (Nat.le_refl _) _
  have h1 := h.later b1
  have c0 := h1.had hx
  have HF := hide (has13 (S (x * 2)) (p.had x) k w.heap.size _ (h1.hadB hx) (RowAt.new w 46 (hdA k)) hl)
  have HB := hide b1
  clear h h1 b1
  unfold fitsS
  generalize ((p.had x).any fun q => bars q k) = r at *
  generalize slV (S (x * 2)) (p.had x).length = v at *
  generalize hdA k = A at *
  go_enter Try.func46, Try.ntmps46
  go_wp2_with fail
  refine HF.out.mono ?_
  rintro e w1 ⟨rfl, hb⟩
  have HB2 := hide (HB.out.trans (hb.mono HB.out.size))
  clear hb
  go_wp2
  go_ret
  exact ⟨by simp, HB2.out⟩
end
end Go.Proofs.Ytmlbghloddiflaa
