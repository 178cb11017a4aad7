/-
  The contracts of package pool's Pages and Dirty, over texts. (gen11/lists.py)
-/
import Derived.Test.YthigibgokbmehaaPoolOps
import Derived.Test.YthigibgokbmehaaPoolRows
namespace Go.Proofs.Ythigibgokbmehaa
open Go.RowKit
set_option linter.unusedVariables false
set_option maxRecDepth 4000 in
set_option maxHeartbeats 1600000 in
theorem pages11 {w : World} {g gr : Nat} {p : Po} (hn : p.n ≤ 16) (h : PS w g gr p) : Calls Try.prog 20 #[.pointer (some ⟨g, 0, none⟩)] w fun e w' => ∃ v, e = .returned v ∧ w'.ownsRow w.heap.size 3 1 v (p.idsTo 32).length (intsV (p.idsTo 32)) ∧ Below w.heap.size w w' := by
  have HH := hide h
  clear h
  go_enter Try.func20, Try.ntmps20
  go_wp2
  go_loopw [3, 5] (fun v i wr => ∃ j : Nat, j ≤ 32 ∧ i = .int .i64 j ∧ Hid (wr.ownsRow w.heap.size 3 1 v (p.idsTo j).length (intsV (p.idsTo j)) ∧ Below w.heap.size w wr)) (fun _ i _ => 32 - (intOf i).toNat)
  case atStart => exact ⟨0, by omega, rfl, World.ownsRow_nil _ _ _ _, Below.refl _ _⟩
  case round =>
    obtain ⟨j, hj, rfl, HR⟩ := hrel
    by_cases hlt : j < 32
    · have i1 : (j : Int) < 32 := by omega
      go_wp2_with fail
      refine (find11 (j : Int) hn (HH.out.later HR.out.2)).mono ?_
      rintro e w1 ⟨rfl, rfl⟩
      cases e : p.at (j : Int) with
      | none =>
        have HL := hide (show p.idsTo (j + 1) = p.idsTo j from p.idsTo_no j (by unfold Po.has; rw [e]; rfl))
        clear e
        simp only [Option.map_none]
        go_wp2
        go_roundw
        case rel => exact ⟨j + 1, by omega, by go_num, by rw [HL.out]; exact HR.out⟩
        case measure => simp [intOf]; omega
      | some k =>
        have HL := hide (show p.idsTo (j + 1) = p.idsTo j ++ [(j : Int)] from p.idsTo_yes j (by unfold Po.has; rw [e]; rfl))
        clear e
        simp only [Option.map_some]
        have HZ := hide (p.idsTo_len j)
        have HO := hide (own11_later HR.out.1 ((Below.refl _ _).alloc (Nat.le_refl _) (.cells #[.int .i64 (j : Int)] 3)))
        have HB := hide (HR.out.2.alloc HR.out.2.size (.cells #[.int .i64 (j : Int)] 3))
        have hN := RowAt.new wr 3 #[.int .i64 (j : Int)]
        have hone : (#[Value.int .i64 (j : Int)]).all (·.oneCell') = true := by simp [Value.oneCell']
        go_wp2_with (refine wpList_append_st _ 45 3 1 8 (.int .i64 0) Try.underlying45 infoI11 rfl (by decide) (by decide) rfl _ _ rfl w.heap.size _ _ _ rfl HO.out wr.heap.size #[.int .i64 (j : Int)] rfl hN rfl hone (by have := HZ.out; omega) HB.out.size ?_)
        intro v' w2 h1 h2
        have HQ := hide (And.intro h1 (own11_below HO.out HB.out HB.out.size h2))
        clear h1 h2
        go_wp2
        go_roundw
        case rel =>
          refine ⟨j + 1, by omega, by go_num, ?_⟩
          rw [HL.out, List.length_append, intsV_snoc]
          exact HQ.out
        case measure => simp [intOf]; omega
    · have i1 : ¬ (j : Int) < 32 := by omega
      obtain rfl : j = 32 := by omega
      go_wp2
      go_ret
      exact ⟨_, rfl, HR.out.1, HR.out.2⟩
set_option maxRecDepth 4000 in
set_option maxHeartbeats 1600000 in
theorem dirty11 {w : World} {g gr : Nat} {p : Po} (hn : p.n ≤ 16) (h : PS w g gr p) : Calls Try.prog 23 #[.pointer (some ⟨g, 0, none⟩)] w fun e w' => ∃ v, e = .returned v ∧ w'.ownsRow w.heap.size 62 2 v (p.dirTo 32).length (dirV (p.dirTo 32)) ∧ Below w.heap.size w w' := by
  have HH := hide h
  clear h
  go_enter Try.func23, Try.ntmps23
  go_wp2
  go_loopw [3, 7] (fun v i wr => ∃ j : Nat, j ≤ 32 ∧ i = .int .i64 j ∧ Hid (wr.ownsRow w.heap.size 62 2 v (p.dirTo j).length (dirV (p.dirTo j)) ∧ Below w.heap.size w wr)) (fun _ i _ => 32 - (intOf i).toNat)
  case atStart => exact ⟨0, by omega, rfl, World.ownsRow_nil _ _ _ _, Below.refl _ _⟩
  case round =>
    obtain ⟨j, hj, rfl, HR⟩ := hrel
    by_cases hlt : j < 32
    · have i1 : (j : Int) < 32 := by omega
      go_wp2_with fail
      refine (rec11 (j : Int) hn (HH.out.later HR.out.2)).mono ?_
      rintro e w1 ⟨rfl, hb1⟩
      have HO1 := hide (own11_later HR.out.1 hb1)
      have HB1 := hide (HR.out.2.trans (hb1.mono HR.out.2.size))
      clear hb1 HR
      by_cases e : p.recN (j : Int) = 0
      · have HL := hide (show p.dirTo (j + 1) = p.dirTo j from p.dirTo_no j e)
        rw [e]
        clear e
        go_wp2
        go_roundw
        case rel => exact ⟨j + 1, by omega, by go_num, by rw [HL.out]; exact ⟨HO1.out, HB1.out⟩⟩
        case measure => simp [intOf]; omega
      · have HL := hide (show p.dirTo (j + 1) = p.dirTo j ++ [((j : Int), p.recN (j : Int))] from p.dirTo_yes j e)
        obtain ⟨r, hr⟩ : ∃ r, p.recN (j : Int) = r := ⟨_, rfl⟩
        rw [hr] at e HL ⊢
        have e2 : (decide (r ≠ 0)) = true := decide_eq_true e
        rw [e2]
        clear e e2 hr
        have HZ := hide (p.dirTo_len j)
        have HO := hide (own11_later HO1.out ((Below.refl _ _).alloc (Nat.le_refl _) (.cells #[.int .i64 (j : Int), .int .u64 r] 62)))
        have HB := hide (HB1.out.alloc HB1.out.size (.cells #[.int .i64 (j : Int), .int .u64 r] 62))
        have hN := RowAt.new w1 62 #[.int .i64 (j : Int), .int .u64 r]
        have hone : (#[Value.int .i64 (j : Int), .int .u64 r]).all (·.oneCell') = true := by simp [Value.oneCell']
        go_wp2_with (refine wpList_append_st _ 48 62 2 16 (.agg #[.int .i64 0, .int .u64 0]) Try.underlying48 infoD11 rfl (by decide) (by decide) rfl _ _ rfl w.heap.size _ _ _ rfl HO.out w1.heap.size #[.int .i64 (j : Int), .int .u64 r] rfl hN rfl hone (by have := HZ.out; omega) HB.out.size ?_)
        intro v' w2 h1 h2
        have HQ := hide (And.intro h1 (own11_below HO.out HB.out HB.out.size h2))
        clear h1 h2
        go_wp2
        go_roundw
        case rel =>
          refine ⟨j + 1, by omega, by go_num, ?_⟩
          rw [HL.out, List.length_append, dirV_snoc]
          exact HQ.out
        case measure => simp [intOf]; omega
    · have i1 : ¬ (j : Int) < 32 := by omega
      obtain rfl : j = 32 := by omega
      go_wp2
      go_ret
      exact ⟨_, rfl, HR.out.1, HR.out.2⟩
end Go.Proofs.Ythigibgokbmehaa
