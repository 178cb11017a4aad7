/-
  The contract of the statements' played: a table behind a script.
-/
import Derived.Test.YtmlbghloddiflaaLkAwake
import Derived.Test.YtmlbghloddiflaaLkArgs
namespace Go.Proofs.Ytmlbghloddiflaa
open Go.RowKit
set_option linter.unusedVariables false

/-- What a call of a script makes. -/
def stepT (t : Tb) (c : Lc) : Tb := if c.k = 2 then (t.free c.w).1 else if c.k = 3 then (t.stop c.w).1 else (t.request c.w c.x c.m).1
def playT (cs : List Lc) : Tb := cs.foldl stepT ⟨[], []⟩
theorem play_snoc (cs : List Lc) (j : Nat) (c : Lc) (h : cs[j]? = some c) : playT (cs.take (j + 1)) = stepT (playT (cs.take j)) c := by
  obtain ⟨hj, rfl⟩ := List.getElem?_eq_some_iff.1 h
  unfold playT
  rw [List.take_succ_eq_append_getElem hj, List.foldl_append]
  rfl
def lcZ : Array Value := #[.int .i64 0, .int .i64 0, .int .i64 0, .int .i64 0]
theorem lcA_one (c : Lc) : (lcA c).all (·.oneCell') = true := Array.all_eq_true_iff_forall_mem.2 (fun v hv => by
  have h : v ∈ [Value.int .i64 c.k, .int .i64 c.w, .int .i64 c.x, .int .i64 c.m] := by
    have : v ∈ (lcA c).toList := by simpa using hv
    exact this
  simp only [List.mem_cons, List.not_mem_nil, or_false] at h
  rcases h with rfl | rfl | rfl | rfl <;> rfl)
set_option maxRecDepth 8000 in
set_option maxHeartbeats 3200000 in
theorem played13 {w0 x : World} {a : Option Addr} {len cap : Nat} {cs : List Lc} (h : Scr13 w0 (.slice a len cap) cs) (hl : len ≤ 100) (hb : Below w0.heap.size w0 x) : Calls Try.prog 15 #[.slice a len cap] x fun e y => ∃ g F, e = .returned (.pointer (some ⟨g, 0, none⟩)) ∧ K13 w0 y g (playT cs) 100 F := by
  have hcap := h.cap _ _ _ rfl
  have HL := hide h.len
  have HS := hide h
  have HN := hide (knew13 hb)
  clear h hb
  go_enter Try.func15, Try.ntmps15
  go_wp2_with fail
  refine HN.out.mono ?_
  rintro e w1 ⟨g, rfl, h1, -, -⟩
  have H1 := hide h1
  clear h1 HN
  go_wp2
  go_loopw [9] (fun v wr => ∃ j : Nat, j ≤ len ∧ v = .int .i64 j ∧ Hid (∃ F, K13 w0 wr g (playT (cs.take j)) j F)) (fun v _ => len - (intOf v).toNat)
  case atStart => exact ⟨0, Nat.zero_le _, rfl, ⟨_, H1.out⟩⟩
  case round =>
    obtain ⟨j, hj, rfl, HK⟩ := hrel
    by_cases hlt : j < len
    · have i1 : (j : Int) < len := by omega
      obtain ⟨F, hK⟩ := HK.out
      obtain ⟨b, off, rfl, -, c, hc, hld, -, hfit⟩ := HS.out.at hK.bel (j := j) (by rw [← HL.out]; exact hlt)
      have HLD := hide hld
      have HST := hide (play_snoc cs j c hc)
      have HKK := hide hK
      clear hld hc hfit hK HK
      go_wp2_with (with_reducible refine stop_at 15 rfl ?_)
      refine unstop10 ?_
      refine lst_load (some 15) (.agg (lcA c)) rfl rfl 38 (.tmp 14) rfl _ rfl HLD.out ?_
      simp only [Act.put, Array.setIfInBounds, List.size_toArray, List.length_cons, List.length_nil, Nat.reduceAdd, Nat.reduceLT, ↓reduceDIte, List.set_toArray, List.set_cons_succ, List.set_cons_zero]
      refine lst_run (some 5) rfl rfl (.pointer (some ⟨wr.heap.size, 0, none⟩)) (wr.alloc (.cells lcZ 38)) (by go_simp; rfl) ?_
      simp only [Act.put, Array.setIfInBounds, List.size_toArray, List.length_cons, List.length_nil, Nat.reduceAdd, Nat.reduceLT, ↓reduceDIte, List.set_toArray, List.set_cons_succ, List.set_cons_zero]
      refine wpList_store_part rfl 38 (.tmp 5) (.tmp 15) rfl wr.heap.size 0 38 lcZ (lcA c) rfl rfl (RowAt.new wr _ _) infoLc (by show 0 + 4 ≤ 4; omega) (lcA_one c) ?_
      intro w2 h21 h22
      rw [partA_all lcZ (lcA c) rfl] at h21
      have b2 : Below wr.heap.size wr w2 := h22.below ((Below.refl wr.heap.size wr).alloc (Nat.le_refl _) (.cells lcZ 38)) (Nat.le_refl _)
      simp only [Act.put]
      have HK2 := hide (HKK.out.later b2)
      obtain ⟨gv, hgv⟩ : ∃ gv, gv = wr.heap.size := ⟨_, rfl⟩
      rw [← hgv] at h21 ⊢
      have d0 := h21.cell 0 (.int .i64 c.k) rfl
      have d1 := h21.cell 1 (.int .i64 c.w) rfl
      have d2 := h21.cell 2 (.int .i64 c.x) rfl
      have d3 := h21.cell 3 (.int .i64 c.m) rfl
      clear h21 h22 b2 hgv HLD HKK
      by_cases hk2 : c.k = 2
      · have e2 : (c.k == 2) = true := by simp [hk2]
        have HE := hide (show stepT (playT (cs.take j)) c = ((playT (cs.take j)).free c.w).1 from by unfold stepT; rw [if_pos hk2])
        clear hk2
        go_wp2_with fail
        refine (kfree HK2.out.tab (by omega) c.w).mono ?_
        rintro e w3 ⟨v, rfl, -, hA⟩
        obtain ⟨F3, hK3, -, -⟩ := HK2.out.aft hA
        have HK3 := hide (show ∃ F, K13 w0 w3 g (playT (cs.take (j + 1))) (j + 1) F from ⟨F3, by rw [HST.out, HE.out]; exact hK3.weak (by omega)⟩)
        clear hA hK3 HK2 d0 d1 d2 d3
        go_wp2
        go_roundw
        case rel => exact ⟨j + 1, by omega, by go_num, HK3⟩
        case measure => simp [intOf]; omega
      · have e2 : (c.k == 2) = false := by simpa using hk2
        by_cases hk3 : c.k = 3
        · have e3 : (c.k == 3) = true := by simp [hk3]
          have HE := hide (show stepT (playT (cs.take j)) c = ((playT (cs.take j)).stop c.w).1 from by unfold stepT; rw [if_neg hk2, if_pos hk3])
          clear hk2 hk3
          go_wp2_with fail
          refine (kstop HK2.out.tab (by omega) c.w).mono ?_
          rintro e w3 ⟨v, rfl, -, hA⟩
          obtain ⟨F3, hK3, -, -⟩ := HK2.out.aft hA
          have HK3 := hide (show ∃ F, K13 w0 w3 g (playT (cs.take (j + 1))) (j + 1) F from ⟨F3, by rw [HST.out, HE.out]; exact hK3.weak (by omega)⟩)
          clear hA hK3 HK2 d0 d1 d2 d3
          go_wp2
          go_roundw
          case rel => exact ⟨j + 1, by omega, by go_num, HK3⟩
          case measure => simp [intOf]; omega
        · have e3 : (c.k == 3) = false := by simpa using hk3
          have HE := hide (show stepT (playT (cs.take j)) c = ((playT (cs.take j)).request c.w c.x c.m).1 from by unfold stepT; rw [if_neg hk2, if_neg hk3])
          clear hk2 hk3
          go_wp2_with fail
          refine (kreq HK2.out.tab (by omega) c.w c.x c.m).mono ?_
          rintro e w3 ⟨rfl, hA⟩
          obtain ⟨F3, hK3, -, -⟩ := HK2.out.aft hA
          have HK3 := hide (show ∃ F, K13 w0 w3 g (playT (cs.take (j + 1))) (j + 1) F from ⟨F3, by rw [HST.out, HE.out]; exact hK3⟩)
          generalize ((playT (cs.take j)).request c.w c.x c.m).2 = r
          clear hA hK3 HK2 d0 d1 d2 d3
          go_wp2
          go_roundw
          case rel => exact ⟨j + 1, by omega, by go_num, HK3⟩
          case measure => simp [intOf]; omega
    · have i1 : ¬ (j : Int) < len := by omega
      have ej : j = len := by omega
      have HE := hide (show ∃ F, K13 w0 wr g (playT cs) 100 F from by
        obtain ⟨F, hK⟩ := HK.out
        rw [ej, HL.out, List.take_length] at hK
        exact ⟨F, hK.weak (by rw [← HL.out]; exact hl)⟩)
      clear HK
      go_wp2
      go_ret
      obtain ⟨F, hK⟩ := HE.out
      first | exact ⟨g, F, rfl, hK⟩ | exact ⟨g, rfl, F, hK⟩
end Go.Proofs.Ytmlbghloddiflaa
