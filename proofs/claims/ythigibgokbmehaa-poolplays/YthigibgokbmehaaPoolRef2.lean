/-
  The document's pool in memory: Put, Full, Pages, Dirty. (gen11/ref2.py)
-/
import Derived.Test.YthigibgokbmehaaPoolRef
import Derived.Test.YthigibgokbmehaaPoolRows
namespace Go.Proofs.Ythigibgokbmehaa
open Go.RowKit
set_option linter.unusedVariables false

section
variable {w : World} {g gr b : Nat} {p : Po}
set_option maxRecDepth 4000 in
set_option maxHeartbeats 800000 in
theorem rfull11 (ho : p.ok b) (h : PD w g gr p) : Calls Try.prog 46 #[.pointer (some ⟨g, 0, none⟩)] w fun e w' => e = .returned (.bool p.gap.isNone) ∧ w = w' := by
  have HH := hide h
  have HO := hide ho
  have hn := ho.n16
  obtain ⟨cap, c0, c1, hc, hc2⟩ := h.c0
  clear h ho
  go_enter Try.func46, Try.ntmps46
  go_wp2
  go_loopw [9] (fun v wr => ∃ j : Nat, j ≤ p.n ∧ v = .int .i64 j ∧ wr = w ∧ Hid (∀ k, k < j → (p.fr k).u = true)) (fun v _ => p.n - (intOf v).toNat)
  case atStart => exact ⟨0, Nat.zero_le _, rfl, rfl, fun m hm => absurd hm (Nat.not_lt_zero _)⟩
  case round =>
    obtain ⟨j, hj, rfl, rfl, HNo⟩ := hrel
    by_cases hlt : j < p.n
    · have i1 : (j : Int) < p.n := by omega
      have d0 := (HH.out.dix hlt).1
      have HP := hide (page_gap HO.out hlt)
      generalize (if (p.fr j).u = true then (p.fr j).id else -1) = z at *
      by_cases hz : z < 0
      · have HT := hide (show p.gap = some j from Po.gap_some.2 ⟨hlt, HP.out.1 hz, HNo.out⟩)
        clear HP
        go_wp2
        go_ret
        exact ⟨by rw [HT.out]; rfl, rfl⟩
      · have HNo2 := hide (show ∀ m, m < j + 1 → (p.fr m).u = true from fun m hm => by
          by_cases e : m = j
          · rw [e]
            cases hu : (p.fr j).u with
            | true => rfl
            | false => exact absurd (HP.out.2 hu) hz
          · exact HNo.out m (by omega))
        clear HP HNo
        go_wp2
        go_roundw
        case rel => exact ⟨j + 1, by omega, by go_num, by first | rfl | trivial, HNo2⟩
        case measure => simp [intOf]; omega
    · have i1 : ¬ (j : Int) < p.n := by omega
      have HT := hide (show p.gap = none from Po.gap_none.2 (fun k hk => HNo.out k (by omega)))
      go_wp2
      go_ret
      exact ⟨by rw [HT.out]; rfl, rfl⟩
set_option maxRecDepth 4000 in
set_option maxHeartbeats 1600000 in
theorem rput11 (id : Int) (s : ByteArray) (ho : p.ok b) (h : PD w g gr p) : Calls Try.prog 37 #[.pointer (some ⟨g, 0, none⟩), .int .i64 id, .string s] w fun e w' => e = .returned (.int .i64 (p.putE id)) ∧ PD w' g gr (p.put id (.string s)) ∧ Tn (FP g gr) w w' := by
  have HF := hide (rat11 id ho h)
  have HH := hide h
  have HO := hide ho
  have hn := ho.n16
  by_cases g1 : id < 0
  · have HE := hide (show p.putE id = 1 ∧ p.put id (.string s) = p from by unfold Po.putE Po.put; rw [if_pos (.inl g1), if_pos (.inl g1)]; exact ⟨rfl, rfl⟩)
    rw [HE.out.1, HE.out.2]
    clear h ho
    go_enter Try.func37, Try.ntmps37
    go_wp2
    go_ret
    exact ⟨rfl, HH.out, Tn.refl _ _⟩
  by_cases g2 : 32 ≤ id
  · have HE := hide (show p.putE id = 1 ∧ p.put id (.string s) = p from by unfold Po.putE Po.put; rw [if_pos (.inr g2), if_pos (.inr g2)]; exact ⟨rfl, rfl⟩)
    have g3 : 31 < id := by omega
    rw [HE.out.1, HE.out.2]
    clear h ho
    go_enter Try.func37, Try.ntmps37
    go_wp2
    go_ret
    exact ⟨rfl, HH.out, Tn.refl _ _⟩
  have g3 : ¬ 31 < id := by omega
  have gn : ¬ (id < 0 ∨ 32 ≤ id) := by omega
  cases e : p.at id with
  | some i =>
    have HE := hide (show p.putE id = 6 ∧ p.put id (.string s) = p from by
      unfold Po.putE Po.put Po.has
      rw [if_neg gn, if_neg gn, e]
      exact ⟨rfl, rfl⟩)
    rw [HE.out.1, HE.out.2]
    rw [e] at HF
    have i2 : (0 : Int) ≤ (i : Int) := by omega
    clear h ho e
    go_enter Try.func37, Try.ntmps37
    go_wp2_with fail
    refine HF.out.mono ?_
    rintro e w1 ⟨rfl, rfl⟩
    simp only [atI]
    go_wp2
    go_ret
    exact ⟨rfl, HH.out, Tn.refl _ _⟩
  | none =>
    have HE := hide (show (p.gap = none → p.putE id = 8 ∧ p.put id (.string s) = p) ∧ (∀ i, p.gap = some i → p.putE id = 0 ∧ p.put id (.string s) = p.set i ⟨true, id, .string s, true, 0, 0⟩) from by
      unfold Po.putE Po.put Po.has
      rw [if_neg gn, if_neg gn, e]
      refine ⟨fun h => ?_, fun i h => ?_⟩
      · rw [h]; exact ⟨rfl, rfl⟩
      · rw [h]; exact ⟨rfl, rfl⟩)
    generalize p.putE id = E at *
    generalize p.put id (.string s) = P2 at *
    rw [e] at HF
    obtain ⟨cap, c0, c1, hc, hc2⟩ := h.c0
    obtain ⟨cap2, cs, hA, hB, hC, hD⟩ := h
    have HB := hide hB
    have HS := hide hC.size
    have HP := hide (show ∀ i, i < p.n → ∀ w2, RowAt w2 gr 72 (partA cs (i * 6) (dfL ⟨true, id, .string s, true, 0, 0⟩)) → Only gr w w2 → PD w2 g gr (p.set i ⟨true, id, .string s, true, 0, 0⟩) from fun i hi w2 h1 h2 => ⟨cap2, _, h2.row hA HH.out.apart, h1, hC.part hi _, hD⟩)
    clear hA hB hC hD e ho gn
    go_enter Try.func37, Try.ntmps37
    go_wp2_with fail
    refine HF.out.mono ?_
    rintro e w1 ⟨rfl, rfl⟩
    simp only [atI]
    clear HF
    go_wp2
    go_loopw [23] (fun v wr => ∃ j : Nat, j ≤ p.n ∧ v = .int .i64 j ∧ wr = w ∧ Hid (∀ k, k < j → (p.fr k).u = true)) (fun v _ => p.n - (intOf v).toNat)
    case atStart => exact ⟨0, Nat.zero_le _, rfl, rfl, fun m hm => absurd hm (Nat.not_lt_zero _)⟩
    case round =>
      obtain ⟨j, hj, rfl, rfl, HNo⟩ := hrel
      by_cases hlt : j < p.n
      · have i1 : (j : Int) < p.n := by omega
        have d0 := (HH.out.dix hlt).1
        have HG := hide (page_gap HO.out hlt)
        generalize hzz : (if (p.fr j).u = true then (p.fr j).id else -1) = z at *
        have HZZ := hide hzz
        clear hzz
        by_cases hz : z < 0
        · have hT : p.gap = some j := Po.gap_some.2 ⟨hlt, HG.out.1 hz, HNo.out⟩
          have HT := hide hT
          have HS2 := hide (show j * 6 + 6 ≤ cs.size from by have := HS.out; omega)
          clear HG hT HNo
          go_wp2_with (refine wpList_store_part rfl 72 _ _ rfl gr (j * 6) 72 cs (dfL ⟨true, id, .string s, true, 0, 0⟩).toArray rfl rfl HB.out infoD11f HS2.out ?_ ?_)
          · exact dfL_one _ rfl
          intro w2 hP hO
          have HQ := hide (HP.out j hlt w2 hP hO)
          have HT2 := hide (Tn.of_only (F := FP g gr) hO (.inr rfl))
          clear hP hO
          go_wp2
          go_ret
          rw [(HE.out.2 j HT.out).1, (HE.out.2 j HT.out).2]
          exact ⟨rfl, HQ.out, HT2.out⟩
        · have HNo2 := hide (show ∀ m, m < j + 1 → (p.fr m).u = true from fun m hm => by
            by_cases e : m = j
            · rw [e]
              cases hu : (p.fr j).u with
              | true => rfl
              | false => exact absurd (HG.out.2 hu) hz
            · exact HNo.out m (by omega))
          clear HG HNo
          go_wp2
          go_roundw
          case rel => exact ⟨j + 1, by omega, by go_num, by first | rfl | trivial, HNo2⟩
          case measure => simp [intOf]; omega
      · have i1 : ¬ (j : Int) < p.n := by omega
        have HT := hide (show p.gap = none from Po.gap_none.2 (fun k hk => HNo.out k (by omega)))
        go_wp2
        go_ret
        rw [(HE.out.1 HT.out).1, (HE.out.1 HT.out).2]
        exact ⟨rfl, HH.out, Tn.refl _ _⟩
set_option maxRecDepth 4000 in
set_option maxHeartbeats 1600000 in
theorem rpages11 (ho : p.ok b) (h : PD w g gr p) : Calls Try.prog 45 #[.pointer (some ⟨g, 0, none⟩)] w fun e w' => ∃ v, e = .returned v ∧ w'.ownsRow w.heap.size 3 1 v (p.idsTo 32).length (intsV (p.idsTo 32)) ∧ Below w.heap.size w w' := by
  have HH := hide h
  have HO := hide ho
  clear h ho
  go_enter Try.func45, Try.ntmps45
  go_wp2
  go_loopw [3, 4] (fun v i wr => ∃ j : Nat, j ≤ 32 ∧ i = .int .i64 j ∧ Hid (wr.ownsRow w.heap.size 3 1 v (p.idsTo j).length (intsV (p.idsTo j)) ∧ Below w.heap.size w wr)) (fun _ i _ => 32 - (intOf i).toNat)
  case atStart => exact ⟨0, by omega, rfl, World.ownsRow_nil _ _ _ _, Below.refl _ _⟩
  case round =>
    obtain ⟨j, hj, rfl, HR⟩ := hrel
    by_cases hlt : j < 32
    · have i1 : (j : Int) < 32 := by omega
      go_wp2_with fail
      refine (rat11 (j : Int) HO.out (HH.out.later HR.out.2)).mono ?_
      rintro e w1 ⟨rfl, rfl⟩
      cases e : p.at (j : Int) with
      | none =>
        have HL := hide (show p.idsTo (j + 1) = p.idsTo j from p.idsTo_no j (by unfold Po.has; rw [e]; rfl))
        clear e
        simp only [atI]
        go_wp2
        go_roundw
        case rel => exact ⟨j + 1, by omega, by go_num, by rw [HL.out]; exact HR.out⟩
        case measure => simp [intOf]; omega
      | some k =>
        have HL := hide (show p.idsTo (j + 1) = p.idsTo j ++ [(j : Int)] from p.idsTo_yes j (by unfold Po.has; rw [e]; rfl))
        have k0 : (0 : Int) ≤ (k : Int) := by omega
        clear e
        simp only [atI]
        have HZ := hide (p.idsTo_len j)
        have HO2 := hide (own11_later HR.out.1 ((Below.refl _ _).alloc (Nat.le_refl _) (.cells #[.int .i64 (j : Int)] 3)))
        have HB := hide (HR.out.2.alloc HR.out.2.size (.cells #[.int .i64 (j : Int)] 3))
        have hN := RowAt.new wr 3 #[.int .i64 (j : Int)]
        have hone : (#[Value.int .i64 (j : Int)]).all (·.oneCell') = true := by simp [Value.oneCell']
        go_wp2_with (refine wpList_append_st _ 45 3 1 8 (.int .i64 0) Try.underlying45 infoI11 rfl (by decide) (by decide) rfl _ _ rfl w.heap.size _ _ _ rfl HO2.out wr.heap.size #[.int .i64 (j : Int)] rfl hN rfl hone (by have := HZ.out; omega) HB.out.size ?_)
        intro v' w2 h1 h2
        have HQ := hide (And.intro h1 (own11_below HO2.out HB.out HB.out.size h2))
        clear h1 h2
        go_wp2
        go_roundw
        case rel =>
          refine ⟨j + 1, by omega, by go_num, ?_⟩
          rw [HL.out, List.length_append, intsV_snoc]
          exact HQ.out
        case measure => simp [intOf]; omega
    · have i1 : ¬ (j : Int) < 32 := by omega
      obtain rfl : j = 32 := by omega
      go_wp2
      go_ret
      exact ⟨_, rfl, HR.out.1, HR.out.2⟩
set_option maxRecDepth 4000 in
set_option maxHeartbeats 1600000 in
theorem rdirty11 (ho : p.ok b) (h : PD w g gr p) : Calls Try.prog 44 #[.pointer (some ⟨g, 0, none⟩)] w fun e w' => ∃ v, e = .returned v ∧ w'.ownsRow w.heap.size 62 2 v (p.dirTo 32).length (dirV (p.dirTo 32)) ∧ Below w.heap.size w w' := by
  have HH := hide h
  have HO := hide ho
  clear h ho
  go_enter Try.func44, Try.ntmps44
  go_wp2
  go_loopw [3, 4] (fun v i wr => ∃ j : Nat, j ≤ 32 ∧ i = .int .i64 j ∧ Hid (wr.ownsRow w.heap.size 62 2 v (p.dirTo j).length (dirV (p.dirTo j)) ∧ Below w.heap.size w wr)) (fun _ i _ => 32 - (intOf i).toNat)
  case atStart => exact ⟨0, by omega, rfl, World.ownsRow_nil _ _ _ _, Below.refl _ _⟩
  case round =>
    obtain ⟨j, hj, rfl, HR⟩ := hrel
    by_cases hlt : j < 32
    · have i1 : (j : Int) < 32 := by omega
      go_wp2_with fail
      refine (rrec11 (j : Int) HO.out (HH.out.later HR.out.2)).mono ?_
      rintro e w1 ⟨rfl, rfl⟩
      by_cases e : p.recN (j : Int) = 0
      · have HL := hide (show p.dirTo (j + 1) = p.dirTo j from p.dirTo_no j e)
        rw [e]
        clear e
        go_wp2
        go_roundw
        case rel => exact ⟨j + 1, by omega, by go_num, by rw [HL.out]; exact HR.out⟩
        case measure => simp [intOf]; omega
      · have HL := hide (show p.dirTo (j + 1) = p.dirTo j ++ [((j : Int), p.recN (j : Int))] from p.dirTo_yes j e)
        obtain ⟨r, hr⟩ : ∃ r, p.recN (j : Int) = r := ⟨_, rfl⟩
        rw [hr] at e HL ⊢
        have e2 : (decide (r ≠ 0)) = true := decide_eq_true e
        rw [e2]
        clear e e2 hr
        have HZ := hide (p.dirTo_len j)
        have HO2 := hide (own11_later HR.out.1 ((Below.refl _ _).alloc (Nat.le_refl _) (.cells #[.int .i64 (j : Int), .int .u64 r] 62)))
        have HB := hide (HR.out.2.alloc HR.out.2.size (.cells #[.int .i64 (j : Int), .int .u64 r] 62))
        have hN := RowAt.new wr 62 #[.int .i64 (j : Int), .int .u64 r]
        have hone : (#[Value.int .i64 (j : Int), .int .u64 r]).all (·.oneCell') = true := by simp [Value.oneCell']
        go_wp2_with (refine wpList_append_st _ 48 62 2 16 (.agg #[.int .i64 0, .int .u64 0]) Try.underlying48 infoD11 rfl (by decide) (by decide) rfl _ _ rfl w.heap.size _ _ _ rfl HO2.out wr.heap.size #[.int .i64 (j : Int), .int .u64 r] rfl hN rfl hone (by have := HZ.out; omega) HB.out.size ?_)
        intro v' w2 h1 h2
        have HQ := hide (And.intro h1 (own11_below HO2.out HB.out HB.out.size h2))
        clear h1 h2
        go_wp2
        go_roundw
        case rel =>
          refine ⟨j + 1, by omega, by go_num, ?_⟩
          rw [HL.out, List.length_append, dirV_snoc]
          exact HQ.out
        case measure => simp [intOf]; omega
    · have i1 : ¬ (j : Int) < 32 := by omega
      obtain rfl : j = 32 := by omega
      go_wp2
      go_ret
      exact ⟨_, rfl, HR.out.1, HR.out.2⟩
end
end Go.Proofs.Ythigibgokbmehaa
