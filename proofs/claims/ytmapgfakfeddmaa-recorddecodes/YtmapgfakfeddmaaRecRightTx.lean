/-
  The contract of record.rightTxns.
-/
import Derived.Test.YtmapgfakfeddmaaRecSmall
namespace Go.Proofs.Ytmapgfakfeddmaa
open Go.RowKit
set_option linter.unusedVariables false

set_option maxRecDepth 4000 in
set_option maxHeartbeats 3200000 in
theorem rtxns_at (va : Value) (xs : List Tx) (l : Nat) (w : World) (q : Bool) (Hq : Hid (q = true ↔ xs.length ≤ 16 ∧ ∀ i, i < xs.length → txAt l xs i)) (hin : TxIn w va xs) :
    Calls Try.prog 42 #[va, .int .u64 (l : Int)] w fun e w' => e = .returned (.bool q) ∧ Below w.heap.size w w' := by
  have HIN := hide hin
  obtain ⟨a1, cap1, rfl, -⟩ := hin
  have hb0 := Below.refl w.heap.size w
  have HF : Hid (¬ (xs.length ≤ 16 ∧ ∀ i, i < xs.length → txAt l xs i) → q = false) := fun h => by
    cases q
    · rfl
    · exact absurd (Hq.out.1 rfl) h
  have HT : Hid (xs.length ≤ 16 ∧ (∀ i, i < xs.length → txAt l xs i) → q = true) := fun h => Hq.out.2 h
  clear Hq
  by_cases hm : 16 < xs.length
  case pos =>
    obtain rfl := HF.out (fun h => by have := h.1; omega)
    have i1 : (16 : Int) < (xs.length : Int) := by omega
    clear HF HT HIN
    generalize xs.length = n1 at *
    go_enter Try.func42, Try.ntmps42
    go_wp2
    go_ret
    exact ⟨rfl, hb0⟩
  have i1 : ¬ (16 : Int) < (xs.length : Int) := by omega
  go_enter Try.func42, Try.ntmps42
  go_wp2
  go_loopw [13, 5] (fun v u wr => ∃ j : Nat, j ≤ xs.length ∧ v = .int .i64 j ∧ (∃ p : Int, u = .int .i64 p ∧ (j = 0 → p = 0) ∧ (0 < j → p = (xs.getD (j - 1) Tx.zero).t)) ∧ Below w.heap.size w wr ∧ ∀ i, i < j → txAt l xs i) (fun v _ _ => xs.length - (intOf v).toNat)
  case atStart => exact ⟨0, Nat.zero_le _, rfl, ⟨0, rfl, fun _ => rfl, fun h => absurd h (by omega)⟩, Below.refl _ _, fun i hi => absurd hi (by omega)⟩
  case round =>
    obtain ⟨j, hj, rfl, ⟨p, rfl, hp0, hp1⟩, hb, hat⟩ := hrel
    have HAT := hide hat
    have HB := hide hb
    have HP0 := hide hp0
    have HP1 := hide hp1
    clear hat hb hb0 hp0 hp1
    by_cases hlt : j < xs.length
    case neg =>
      obtain rfl : j = xs.length := by omega
      obtain rfl := HT.out ⟨by omega, HAT.out⟩
      have d3 := HB.out
      clear HF HT HAT HIN HB HP0 HP1
      go_wp2
      go_ret
      exact ⟨rfl, d3⟩
    have jlt : (j : Int) < (xs.length : Int) := by omega
    obtain ⟨u1, k1, e1, hrow1⟩ := HIN.out.below HB.out
    cases e1
    obtain ⟨b, off, rfl, -, hc⟩ := hrow1 (by omega)
    have HRG := hide (hc j hlt)
    clear hrow1 hc
    obtain ⟨x, hx⟩ : ∃ x, x = xs.getD j Tx.zero := ⟨_, rfl⟩
    have HX := hide hx
    rw [← hx] at HRG
    clear hx
    go_wp2_with (first | (refine wpList_load_mid rfl 65 (.tmp 15) rfl b (off + j * 5) (txA x) rfl HRG.out _ Try.underlying65 rfl infoTx ?_) | (refine wpList_store_at rfl 65 (.tmp 7) (.tmp 16) rfl wr.heap.size (txA Tx.zero) (txA x) rfl rfl (RowAt.new wr 65 (txA Tx.zero)) infoTx rfl (txA_one _) ?_))
    intro w2 hr2 hk2 _
    have HB2 := hide (HB.out.trans ((hk2 _ _ ((Below.refl wr.heap.size wr).alloc (Nat.le_refl _) _) (Nat.le_refl _)).mono HB.out.size))
    have HR2 := hide hr2
    clear hr2 hk2 HB HRG
    generalize wr.heap.size = g at *
    have c0 := HR2.out.cell 0 (.int .i64 x.t) rfl
    by_cases t1 : x.t ≤ p
    case pos =>
      obtain rfl := HF.out (fun h => by
        have h2 := h.2 j hlt
        unfold txAt at h2
        rw [← HX.out] at h2
        by_cases h0 : j = 0
        · have := HP0.out h0
          have := h2.1.1
          omega
        · have := HP1.out (by omega)
          have := h2.2 (by omega)
          omega)
      have d3 := HB2.out
      clear HF HT HAT HIN HB2 HP0 HP1 HX HR2
      generalize x.t = xt at *
      go_wp2
      go_ret
      exact ⟨rfl, d3⟩
    have c1 := HR2.out.cell 1 (.int .i64 x.s) rfl
    have c2 := HR2.out.cell 2 (.int .u64 (x.f : Int)) rfl
    have c3 := HR2.out.cell 3 (.int .u64 (x.l : Int)) rfl
    have c4 := HR2.out.cell 4 (.int .u64 (x.n : Int)) rfl
    by_cases ok : txOk l x
    case neg =>
      obtain rfl := HF.out (fun h => ok (by have h2 := (h.2 j hlt).1; rwa [← HX.out] at h2))
      have H := hide (fun w => rtxrow_at x l w false (hide ⟨fun h => (nomatch h), fun h => absurd h ok⟩))
      have d3 := HB2.out
      clear HF HT HAT HIN HB2 HP0 HP1 HX HR2 ok
      go_wp2_with fail
      refine (H.out _).mono ?_
      rintro e w3 ⟨rfl, hb3⟩
      have d4 := d3.trans (hb3.mono d3.size)
      clear hb3 d3 H c0 c1 c2 c3 c4
      go_wp2
      go_ret
      exact ⟨rfl, d4⟩
    have H := hide (fun w => rtxrow_at x l w true (hide ⟨fun _ => ok, fun _ => rfl⟩))
    have HOK := hide ok
    clear ok
    go_wp2_with fail
    refine (H.out _).mono ?_
    rintro e w3 ⟨rfl, hb3⟩
    have HB3 := hide (HB2.out.trans (hb3.mono HB2.out.size))
    have d0 := (HR2.out.later hb3).cell 0 (.int .i64 x.t) rfl
    clear hb3 H c0 c1 c2 c3 c4 HR2 HB2
    go_wp2
    go_roundw
    case rel =>
      refine ⟨j + 1, by omega, by go_num, ⟨x.t, rfl, fun h => absurd h (by omega), fun _ => by rw [HX.out]; rfl⟩, HB3.out, at_more HAT.out ⟨by rw [← HX.out]; exact HOK.out, fun h => ?_⟩⟩
      rw [← HX.out, ← HP1.out h]
      omega
    case measure => simp [intOf]; omega
end Go.Proofs.Ytmapgfakfeddmaa
