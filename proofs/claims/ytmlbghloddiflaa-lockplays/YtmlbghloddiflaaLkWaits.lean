/-
  The contract of Waits: what somebody waits for.
-/
import Derived.Test.YtmlbghloddiflaaLkNext
namespace Go.Proofs.Ytmlbghloddiflaa
open Go.RowKit
set_option linter.unusedVariables false

/-- What Waits tells. -/
def WaitsAns (p : Pt) (who : Int) (w : World) (e : Ending) (w' : World) : Prop :=
  Below w.heap.size w w' ∧ ((∃ h x, x < 288 ∧ h ∈ p.row x ∧ h.w = who ∧ e = .returned (.tuple #[.agg (hdA h), .bool true])) ∨ ((∀ x h, x < 288 → h ∈ p.row x → h.w ≠ who) ∧ e = .returned (.tuple #[.agg zeroH, .bool false])))
section
variable {w : World} {g : Nat} {p : Pt} {S : Nat → Sl}
set_option maxRecDepth 8000 in
set_option maxHeartbeats 6400000 in
theorem waits13 (h : TAt w g p S) (hl : ∀ x, x < 288 → (p.row x).length ≤ 1000000) (who : Int) : Calls Try.prog 25 #[.pointer (some ⟨g, 0, none⟩), .int .i64 who] w (WaitsAns p who w) := by
  have H := hide h
  have HL := hide hl
  have HS := hide (fun y => size13 ⟨g, 0, none⟩ y)
  have b0 : Below w.heap.size w (w.alloc (.cells zeroH 46)) := (Below.refl w.heap.size w).alloc (Nat.le_refl _) _
  have H0 := hide (And.intro (RowAt.new w 46 zeroH) b0)
  clear h hl b0
  go_enter Try.func25, Try.ntmps25
  go_wp2_with fail
  refine (HS.out _).mono ?_
  rintro e w0 ⟨rfl, rfl⟩
  have H1 := hide (show RowAt (w.alloc (.cells zeroH 46)) w.heap.size 46 zeroH ∧ Below w.heap.size w (w.alloc (.cells zeroH 46)) from H0.out)
  go_wp2
  go_loopw [11] (fun v wr => ∃ x : Nat, x ≤ 288 ∧ v = .int .i64 x ∧ Hid (RowAt wr w.heap.size 46 zeroH ∧ Below w.heap.size w wr ∧ ∀ y h, y < x → h ∈ p.row y → h.w ≠ who)) (fun v _ => 288 - (intOf v).toNat)
  case atStart => exact ⟨0, Nat.zero_le _, rfl, ⟨H1.out.1, H1.out.2, fun y h hy => absurd hy (Nat.not_lt_zero _)⟩⟩
  case round =>
    obtain ⟨x, hx, rfl, HR⟩ := hrel
    by_cases hlt : x < 288
    · have i1 : (x : Int) < 288 := by omega
      have c0 := (H.out.later HR.out.2.1).rows hlt
      have hcap := (H.out.rowB hlt).cap
      have hlx := HL.out x hlt
      unfold slV at c0
      obtain ⟨n, hn⟩ : ∃ n, n = (p.row x).length := ⟨_, rfl⟩
      have HN := hide hn
      rw [← hn] at c0 hcap hlx
      clear hn
      obtain ⟨ad, had⟩ : ∃ ad, ad = adr (S (x * 2 + 1)).b := ⟨_, rfl⟩
      have HAD := hide had
      rw [← had] at c0
      clear had
      generalize (S (x * 2 + 1)).c = c at *
      go_wp2
      clear c0
      go_loopw [22] (fun v wr => ∃ j : Nat, j ≤ n ∧ v = .int .i64 j ∧ Hid (RowAt wr w.heap.size 46 zeroH ∧ Below w.heap.size w wr ∧ ∀ i h, i < j → (p.row x)[i]? = some h → h.w ≠ who)) (fun v _ => n - (intOf v).toNat)
      case atStart => exact ⟨0, Nat.zero_le _, rfl, ⟨HR.out.1, HR.out.2.1, fun i h hi => absurd hi (Nat.not_lt_zero _)⟩⟩
      case round =>
        obtain ⟨j, hj, rfl, HI⟩ := hrel
        by_cases hjn : j < n
        · have i2 : (j : Int) < n := by omega
          obtain ⟨m, hmm⟩ : ∃ m, (p.row x)[j]? = some m := ⟨_, List.getElem?_eq_getElem (by have := HN.out; omega)⟩
          obtain ⟨b, hb0, hbl, c0, c1, c2⟩ := ((H.out.later HI.out.2.1).rowB hlt).at hmm
          have hmeq := HAD.out
          rw [hb0] at hmeq
          have hmeq2 : ad = some ⟨b, 0, none⟩ := hmeq
          subst hmeq2
          have HLD := hide (load_hold c0 c1 c2)
          have HMM := hide hmm
          clear hmm hmeq hb0 c0 c1 c2 hbl
          go_wp2_with (with_reducible refine stop_at 25 rfl ?_)
          refine unstop10 ?_
          refine lst_load (some 25) (.agg (hdA m)) rfl rfl 46 (.tmp 24) rfl _ rfl (HLD.out) ?_
          simp only [Act.put, Array.setIfInBounds, List.size_toArray, List.length_cons, List.length_nil, Nat.reduceAdd, Nat.reduceLT, ↓reduceDIte, List.set_toArray, List.set_cons_succ, List.set_cons_zero]
          refine lst_run (some 8) rfl rfl (.pointer (some ⟨wr.heap.size, 0, none⟩)) (wr.alloc (.cells zeroH 46)) (by go_simp; rfl) ?_
          simp only [Act.put, Array.setIfInBounds, List.size_toArray, List.length_cons, List.length_nil, Nat.reduceAdd, Nat.reduceLT, ↓reduceDIte, List.set_toArray, List.set_cons_succ, List.set_cons_zero]
          refine wpList_store_part rfl 46 (.tmp 8) (.tmp 25) rfl wr.heap.size 0 46 zeroH (hdA m) rfl rfl (RowAt.new wr _ _) infoHs (by show 0 + 3 ≤ 3; omega) (hdA_one m) ?_
          intro w2 h21 h22
          rw [partA_all zeroH (hdA m) rfl] at h21
          have b2 : Below wr.heap.size wr w2 := h22.below ((Below.refl wr.heap.size wr).alloc (Nat.le_refl _) (.cells zeroH 46)) (Nat.le_refl _)
          simp only [Act.put]
          have d0 := h21.cell 0 (.int .i64 m.w) rfl
          have hb2 := HI.out.2.1.trans (b2.mono HI.out.2.1.size)
          have HW2 := hide (And.intro h21 (And.intro hb2 (HI.out.1.later b2)))
          have hne : wr.heap.size ≠ w.heap.size := by
            have := HI.out.1.lt
            omega
          obtain ⟨gv, hgv⟩ : ∃ gv, gv = wr.heap.size := ⟨_, rfl⟩
          obtain ⟨gr, hgr⟩ : ∃ gr, gr = w.heap.size := ⟨_, rfl⟩
          have HG := hide (And.intro hgv (And.intro hgr hne))
          rw [← hgv] at d0 ⊢
          clear h21 h22 b2 hb2 HLD hne hgv
          by_cases hq : m.w = who
          · have hq2 : (m.w == who) = true := by simp [hq]
            have HQ := hide hq
            clear hq
            go_wp2_with (with_reducible refine stop_at 30 rfl ?_)
            refine unstop10 ?_
            have hv : RowAt w2 gv 46 (hdA m) := by rw [HG.out.1]; exact HW2.out.1
            refine lst_load (some 30) (.agg (hdA m)) rfl rfl 46 (.tmp 8) rfl _ rfl (load_box hv) ?_
            simp only [Act.put, Array.setIfInBounds, List.size_toArray, List.length_cons, List.length_nil, Nat.reduceAdd, Nat.reduceLT, ↓reduceDIte, List.set_toArray, List.set_cons_succ, List.set_cons_zero]
            refine wpList_store_part rfl 46 (.tmp 4) (.tmp 30) rfl w.heap.size 0 46 zeroH (hdA m) rfl rfl HW2.out.2.2 infoHs (by show 0 + 3 ≤ 3; omega) (hdA_one m) ?_
            intro w5 h51 h52
            rw [partA_all zeroH (hdA m) rfl] at h51
            simp only [Act.put]
            have HE := hide (And.intro h51 (h52.below HW2.out.2.1 (Nat.le_refl _)))
            clear h51 h52 hv d0
            go_wp2
            try simp only [Exit.inBlock, Exit.then]
            exact bodyPost_ret (res_at rfl _ _ w.heap.size (hdA m) _ rfl HE.out.1 Try.underlying46 rfl infoHs) rfl ⟨HE.out.2, .inl ⟨m, x, hlt, List.mem_of_getElem? HMM.out, HQ.out, rfl⟩⟩
          · have hq2 : (m.w == who) = false := by simpa using hq
            have HQ := hide hq
            clear hq
            have HI2 := hide (show RowAt w2 w.heap.size 46 zeroH ∧ Below w.heap.size w w2 ∧ ∀ i h, i < j + 1 → (p.row x)[i]? = some h → h.w ≠ who from ⟨HW2.out.2.2, HW2.out.2.1, fun i h hi e => by
              by_cases eij : i = j
              · subst eij
                have e2 := HMM.out
                rw [e] at e2
                injection e2 with e2
                rw [e2]
                exact HQ.out
              · exact HI.out.2.2 i h (by omega) e⟩)
            go_wp2
            go_roundw
            case rel => exact ⟨j + 1, by omega, by go_num, HI2⟩
            case measure => simp [intOf]; omega
        · have i2 : ¬ (j : Int) < n := by omega
          have HR2 := hide (show RowAt wr w.heap.size 46 zeroH ∧ Below w.heap.size w wr ∧ ∀ y h, y < x + 1 → h ∈ p.row y → h.w ≠ who from ⟨HI.out.1, HI.out.2.1, fun y h hy hh => by
            by_cases e : y = x
            · subst e
              obtain ⟨i, hi, e2⟩ := List.getElem_of_mem hh
              exact HI.out.2.2 i h (by have := HN.out; omega) (by rw [List.getElem?_eq_getElem hi, e2])
            · exact HR.out.2.2 y h (by omega) hh⟩)
          go_wp2
          go_roundw
          case rel => exact ⟨x + 1, by omega, by go_num, HR2⟩
          case measure => simp [intOf]; omega
    · have i1 : ¬ (x : Int) < 288 := by omega
      go_wp2_with (with_reducible refine stop_at 33 rfl ?_)
      refine unstop10 ?_
      refine lst_run (some 33) rfl rfl (.agg zeroH) wr (by go_simp; rfl) ?_
      simp only [Act.put, Array.setIfInBounds, List.size_toArray, List.length_cons, List.length_nil, Nat.reduceAdd, Nat.reduceLT, ↓reduceDIte, List.set_toArray, List.set_cons_succ, List.set_cons_zero]
      refine wpList_store_part rfl 46 (.tmp 4) (.tmp 33) rfl w.heap.size 0 46 zeroH zeroH rfl rfl HR.out.1 infoHs (by show 0 + 3 ≤ 3; omega) (hdA_one hdZ) ?_
      intro w5 h51 h52
      rw [partA_all zeroH zeroH rfl] at h51
      simp only [Act.put]
      have HE := hide (And.intro h51 (And.intro (h52.below HR.out.2.1 (Nat.le_refl _)) HR.out.2.2))
      clear h51 h52
      go_wp2
      exact bodyPost_ret (res_at rfl _ _ w.heap.size zeroH _ rfl HE.out.1 Try.underlying46 rfl infoHs) rfl ⟨HE.out.2.1, .inr ⟨fun y h hy hh => HE.out.2.2 y h (by omega) hh, rfl⟩⟩
end
end Go.Proofs.Ytmlbghloddiflaa
