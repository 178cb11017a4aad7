/-
  The contracts of record.Encode and Size, whole, and of awake.
-/
import Derived.Test.YtmapgfakfeddmaaRecEnc1
import Derived.Test.YtmapgfakfeddmaaRecEnc2
import Derived.Test.YtmapgfakfeddmaaRecEnc3
import Derived.Test.YtmapgfakfeddmaaRecEnc4
import Derived.Test.YtmapgfakfeddmaaRecEnc5
import Derived.Test.YtmapgfakfeddmaaRecEnc6
import Derived.Test.YtmapgfakfeddmaaRecEnc7
import Derived.Test.YtmapgfakfeddmaaRecEnc8
import Derived.Test.YtmapgfakfeddmaaRecRefEnc
namespace Go.Proofs.Ytmapgfakfeddmaa
open Go.RowKit
set_option linter.unusedVariables false

set_option maxRecDepth 4000 in
set_option maxHeartbeats 1600000 in
theorem enc_no (r : Rec) (va vb : Value) (w : World) (hr : ¬ r.right) (hf : r.fits) (hin : RcIn w r va vb) :
    Calls Try.prog 10 #[.agg (rcA r va vb)] w fun e w' => e = .returned (.tuple #[.slice none 0 0, .int .i64 1]) ∧ Below w.heap.size w w' := by
  have HIN := hide hin
  have HRT := hide (fun w h => right_at r va vb w false (hide ⟨fun h => (nomatch h), fun h => absurd h hr⟩) hf h)
  have HK0 := hide (Keeps.one w 28 (rcA r va vb))
  clear hr hf hin
  obtain ⟨A, hA⟩ : ∃ A, A = rcA r va vb := ⟨_, rfl⟩
  rw [← hA] at HK0 HRT ⊢
  have HIA : Hid ((Try.prog.info? 28).map (·.size) = some A.size) := by
    rw [hA]
    exact infoRc
  clear hA
  go_enter Try.func10, Try.ntmps10
  go_wp2_with (refine wpList_load_at rfl 28 (.tmp 1) rfl w.heap.size rfl A HK0.out.1.1 _ Try.underlying28 rfl HIA.out ?_)
  refine (HRT.out _ (HIN.out.below HK0.out.2)).mono ?_
  rintro e w1 ⟨rfl, hb1⟩
  have d1 := (HK0.out.later hb1).2
  clear HK0 HRT hb1
  go_wp2
  go_ret2
  exact ⟨rfl, d1⟩

/-- THE CONTRACT. -/
theorem enc_any (r : Rec) (va vb : Value) (w : World) (hf : r.fits) (hin : RcIn w r va vb) :
    Calls Try.prog 10 #[.agg (rcA r va vb)] w fun e w' => (∃ v, e = .returned (.tuple #[v, .int .i64 (encE r)]) ∧ EncIn w' v (encL r)) ∧ Below w.heap.size w w' := by
  by_cases hr : r.right
  · have e1 : encL r = recB r := by unfold encL; rw [if_pos (rightB_yes hr)]
    have e2 : encE r = 0 := by unfold encE; rw [if_pos (rightB_yes hr)]
    rw [e1, e2]
    have h1 := hr.k1
    have h8 := hr.k8
    by_cases k1 : r.k = 1
    · exact enc_1 r va vb w hr k1 hf hin
    by_cases k2 : r.k = 2
    · exact enc_2 r va vb w hr k2 hf hin
    by_cases k3 : r.k = 3
    · exact enc_3 r va vb w hr k3 hf hin
    by_cases k4 : r.k = 4
    · exact enc_4 r va vb w hr k4 hf hin
    by_cases k5 : r.k = 5
    · exact enc_5 r va vb w hr k5 hf hin
    by_cases k6 : r.k = 6
    · exact enc_6 r va vb w hr k6 hf hin
    by_cases k7 : r.k = 7
    · exact enc_7 r va vb w hr k7 hf hin
    exact enc_8 r va vb w hr (by omega) hf hin
  · have e1 : encL r = [] := by unfold encL; rw [if_neg (by rw [rightB_no hr]; decide)]
    have e2 : encE r = 1 := by unfold encE; rw [if_neg (by rw [rightB_no hr]; decide)]
    rw [e1, e2]
    refine (enc_no r va vb w hr hf hin).mono ?_
    rintro e w1 ⟨rfl, hb1⟩
    exact ⟨⟨_, rfl, none, 0, rfl, fun _ => rfl, Nat.le_refl _, isB_nil _⟩, hb1⟩

set_option maxRecDepth 4000 in
set_option maxHeartbeats 1600000 in
theorem size_any (r : Rec) (va vb : Value) (w : World) (hf : r.fits) (hin : RcIn w r va vb) :
    Calls Try.prog 12 #[.agg (rcA r va vb)] w fun e w' => e = .returned (.int .i64 ((encL r).length : Int)) ∧ Below w.heap.size w w' := by
  have HIN := hide hin
  have HE := hide (fun w h => enc_any r va vb w hf h)
  have HK0 := hide (Keeps.one w 28 (rcA r va vb))
  clear hf hin
  obtain ⟨A, hA⟩ : ∃ A, A = rcA r va vb := ⟨_, rfl⟩
  rw [← hA] at HK0 HE ⊢
  have HIA : Hid ((Try.prog.info? 28).map (·.size) = some A.size) := by
    rw [hA]
    exact infoRc
  clear hA
  go_enter Try.func12, Try.ntmps12
  go_wp2_with (refine wpList_load_at rfl 28 (.tmp 1) rfl w.heap.size rfl A HK0.out.1.1 _ Try.underlying28 rfl HIA.out ?_)
  refine (HE.out _ (HIN.out.below HK0.out.2)).mono ?_
  rintro e w1 ⟨⟨v, rfl, a, c, rfl, -⟩, hb1⟩
  have d1 := (HK0.out.later hb1).2
  clear HK0 HE hb1
  go_wp2
  go_ret
  exact ⟨rfl, d1⟩

/-! ### awake -/
def awR : Rec := ⟨3, 5, 2, 3, Ch.zero, 0, 0, 0, [], []⟩
theorem awR_right : awR.right := ⟨by decide, by decide, by decide, by decide, fun _ => by decide, fun h => absurd h (by decide), fun h => absurd h (by decide), fun _ => rfl, fun h => absurd h (by decide), fun _ => rfl, fun h => absurd h (by decide), fun _ => rfl, fun h => absurd h (by decide), fun _ => ⟨rfl, rfl, rfl⟩⟩
theorem awR_fits : awR.fits := ⟨zero_fits, Nat.zero_le _, Nat.zero_le _, fun x hx => (nomatch hx), fun x hx => (nomatch hx)⟩
theorem awR_in (w : World) : RcIn w awR (.slice none 0 0) (.slice none 0 0) := ⟨⟨none, 0, rfl, fun h => absurd h (by decide)⟩, ⟨none, 0, rfl, fun h => absurd h (by decide)⟩⟩
def awL : Array Value := #[.int .i64 3, .int .u64 5, .int .i64 2, .int .u64 3, .int .i64 0, .int .i64 0, .int .i64 0, .string ⟨#[]⟩, .string ⟨#[]⟩, .int .u64 0, .int .i64 0, .int .u64 0, .slice none 0 0, .slice none 0 0]
theorem awA : rcA awR (.slice none 0 0) (.slice none 0 0) = awL := rfl
theorem awB : recB awR = [3, 0, 0, 0, 0, 0, 0, 0, 5, 0, 0, 0, 2, 0, 0, 0, 0, 0, 0, 0, 3] := by decide

set_option maxRecDepth 4000 in
set_option maxHeartbeats 1600000 in
theorem awake_any (w : World) : Calls Try.prog 9 #[] w fun e w' => e = .returned (.bool true) ∧ Below w.heap.size w w' := by
  have HE := hide (fun w => enc_3 awR _ _ w awR_right rfl awR_fits (awR_in w))
  have HS := hide (fun w => same_at awR awR _ _ _ _ w true (hide ⟨fun _ => rfl, fun _ => rfl⟩) awR_fits awR_fits (awR_in w) (awR_in w))
  rw [awA] at HE HS
  rw [awB] at HE
  unfold awL at HE HS
  have HK0 := hide (Keeps.one w 28 awL)
  unfold awL at HK0
  have c0 := HK0.out.1.1.cell 0 (.int .i64 3) rfl
  have c1 := HK0.out.1.1.cell 1 (.int .u64 5) rfl
  have c2 := HK0.out.1.1.cell 2 (.int .i64 2) rfl
  have c3 := HK0.out.1.1.cell 3 (.int .u64 3) rfl
  have c4 := HK0.out.1.1.cell 4 (.int .i64 0) rfl
  have c5 := HK0.out.1.1.cell 5 (.int .i64 0) rfl
  have c6 := HK0.out.1.1.cell 6 (.int .i64 0) rfl
  have c7 := HK0.out.1.1.cell 7 (.string ⟨#[]⟩) rfl
  have c8 := HK0.out.1.1.cell 8 (.string ⟨#[]⟩) rfl
  have c9 := HK0.out.1.1.cell 9 (.int .u64 0) rfl
  have c10 := HK0.out.1.1.cell 10 (.int .i64 0) rfl
  have c11 := HK0.out.1.1.cell 11 (.int .u64 0) rfl
  have c12 := HK0.out.1.1.cell 12 (.slice none 0 0) rfl
  have c13 := HK0.out.1.1.cell 13 (.slice none 0 0) rfl
  go_enter Try.func9, Try.ntmps9
  go_wp2_with fail
  refine (HE.out _).mono ?_
  rintro e w1 ⟨⟨v, rfl, a, c, rfl, -, hcap, hB⟩, hb1⟩
  obtain ⟨b, off, rfl, -, hcell⟩ := hB.2 (by decide)
  have k0 := hcell 0 (by decide)
  have k8 := hcell 8 (by decide)
  have HK1 := hide (HK0.out.later hb1)
  clear HK0 hb1 hB hcell HE c0 c1 c2 c3 c4 c5 c6 c7 c8 c9 c10 c11 c12 c13
  have c0 := HK1.out.1.1.cell 0 (.int .i64 3) rfl
  have c1 := HK1.out.1.1.cell 1 (.int .u64 5) rfl
  have c2 := HK1.out.1.1.cell 2 (.int .i64 2) rfl
  have c3 := HK1.out.1.1.cell 3 (.int .u64 3) rfl
  have c4 := HK1.out.1.1.cell 4 (.int .i64 0) rfl
  have c5 := HK1.out.1.1.cell 5 (.int .i64 0) rfl
  have c6 := HK1.out.1.1.cell 6 (.int .i64 0) rfl
  have c7 := HK1.out.1.1.cell 7 (.string ⟨#[]⟩) rfl
  have c8 := HK1.out.1.1.cell 8 (.string ⟨#[]⟩) rfl
  have c9 := HK1.out.1.1.cell 9 (.int .u64 0) rfl
  have c10 := HK1.out.1.1.cell 10 (.int .i64 0) rfl
  have c11 := HK1.out.1.1.cell 11 (.int .u64 0) rfl
  have c12 := HK1.out.1.1.cell 12 (.slice none 0 0) rfl
  have c13 := HK1.out.1.1.cell 13 (.slice none 0 0) rfl
  simp only [Nat.add_zero] at k0
  have k0' : w1.cell? ⟨b, off, none⟩ = some (.int .u8 3) := k0
  have k8' : w1.cell? ⟨b, off + 8, none⟩ = some (.int .u8 5) := k8
  clear k0 k8
  have HBL := hide HK1.out.2
  go_wp2_with fail
  refine (HS.out _).mono ?_
  rintro e w2 ⟨rfl, hb2⟩
  have d2 := HBL.out.trans (hb2.mono HBL.out.size)
  clear HK1 HBL HS hb2 k0' k8' c0 c1 c2 c3 c4 c5 c6 c7 c8 c9 c10 c11 c12 c13
  go_wp2
  go_ret
  exact ⟨rfl, d2⟩
end Go.Proofs.Ytmapgfakfeddmaa
