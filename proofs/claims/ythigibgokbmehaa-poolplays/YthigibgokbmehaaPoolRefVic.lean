/-
  The document's pool in memory: Victim.
-/
import Derived.Test.YthigibgokbmehaaPoolRef
import Derived.Test.YthigibgokbmehaaPoolFacts
namespace Go.Proofs.Ythigibgokbmehaa
open Go.RowKit
set_option linter.unusedVariables false

/-- The least number at which something holds. -/
theorem least_ex {P : Nat → Prop} : ∀ n, P n → ∃ k, P k ∧ ∀ m, P m → k ≤ m := by
  intro n
  induction n using Nat.strongRecOn with
  | _ n ih =>
    intro h
    by_cases g : ∃ m, m < n ∧ P m
    · obtain ⟨m, hm, hp⟩ := g
      exact ih m hm hp
    · exact ⟨n, h, fun m hm => Classical.byContradiction fun c => g ⟨m, by omega, hm⟩⟩
/-- A function that gives it, world by world. -/
theorem least_fn (P : World → Nat → Prop) : ∃ f : World → Nat, ∀ w k, P w k → P w (f w) ∧ f w ≤ k := by
  have h : ∀ w, ∃ m, ∀ k, P w k → P w m ∧ m ≤ k := by
    intro w
    by_cases g : ∃ k, P w k
    · obtain ⟨k, hk⟩ := g
      obtain ⟨m, h1, h2⟩ := least_ex k hk
      exact ⟨m, fun k' hk' => ⟨h1, h2 k' hk'⟩⟩
    · exact ⟨0, fun k hk => absurd ⟨k, hk⟩ g⟩
  exact ⟨fun w => Classical.choose (h w), fun w => Classical.choose_spec (h w)⟩
/-- How many frames are still to be passed. -/
def Left (g gr : Nat) (t : Po × Option Int) (w : World) (k : Nat) : Prop := ∃ q : Po, PD w g gr q ∧ Po.walk k q = t ∧ q.h < q.n
theorem Wanes.ok_back {q t : Po} {b : Nat} (h : Wanes q t) (k : t.ok b) (hh : q.h < q.n) : q.ok b := by
  refine ⟨by rw [← h.n]; exact k.n16, hh, fun i hi g => ?_, fun i l hi hl g1 g2 g3 => ?_, fun i hi => ?_⟩
  · rw [← (h.u i).2.1]
    rw [← (h.u i).1] at g
    exact k.ids i (by rw [h.n]; exact hi) g
  · rw [← (h.u i).1] at g1
    rw [← (h.u l).1] at g2
    rw [← (h.u i).2.1, ← (h.u l).2.1] at g3
    exact k.one i l (by rw [h.n]; exact hi) (by rw [h.n]; exact hl) g1 g2 g3
  · rw [← (h.u i).2.2.2.1]
    exact k.few i (by rw [h.n]; exact hi)
/-- The least number of frames that are still to be passed: it isn't 0, and one frame is passed. -/
theorem left_step {g gr b : Nat} {p : Po} {w : World} {lf : World → Nat} (hlf : ∀ w k, Left g gr p.vic w k → Left g gr p.vic w (lf w) ∧ lf w ≤ k) (hv : p.vic.2 ≠ none) (ho : p.ok b) {k : Nat} (h : Left g gr p.vic w k) : ∃ (m : Nat) (q : Po), lf w = m + 1 ∧ PD w g gr q ∧ q.ok b ∧ Po.walk (m + 1) q = p.vic ∧ q.n = p.n ∧ ∀ i, (q.fr i).x = (p.fr i).x := by
  have h1 := (hlf w k h).1
  cases e : lf w with
  | zero =>
    rw [e] at h1
    obtain ⟨q, _, hq, _⟩ := h1
    rw [← hq] at hv
    exact absurd rfl hv
  | succ m =>
    rw [e] at h1
    obtain ⟨q, hp, hq, hh⟩ := h1
    have hw := Po.walk_wanes (m + 1) q
    rw [hq] at hw
    exact ⟨m, q, rfl, hp, hw.ok_back ho.vic hh, hq, hw.n.symm.trans p.vic_wanes.n, fun i => ((hw.u i).2.2.1).symm.trans (p.vic_wanes.u i).2.2.1⟩
theorem left_less {g gr : Nat} {w : World} {m : Nat} {t : Po × Option Int} {lf : World → Nat} (hlf : ∀ w k, Left g gr t w k → Left g gr t w (lf w) ∧ lf w ≤ k) (h : Left g gr t w m) : lf w < m + 1 := Nat.lt_succ_of_le (hlf w m h).2
section
variable {w : World} {g gr b : Nat} {p : Po}
set_option maxRecDepth 4000 in
set_option maxHeartbeats 1600000 in
theorem rvic11 (ho : p.ok b) (hx : ∀ i, i < p.n → ∃ s, (p.fr i).x = .string s) (h : PD w g gr p) : Calls Try.prog 41 #[.pointer (some ⟨g, 0, none⟩)] w fun e w' => e = .returned (.tuple #[.int .i64 p.vicI, .int .i64 p.vicE]) ∧ PD w' g gr p.vic.1 ∧ Tn (FP g gr) w w' := by
  have HH := hide h
  have HO := hide ho
  have HX := hide hx
  obtain ⟨lf, hlf⟩ := least_fn (Left g gr p.vic)
  have HLF := hide hlf
  clear hlf
  have hn := ho.n16
  obtain ⟨cap, c0, c1, hc, hc2⟩ := h.c0
  clear h ho hx
  go_enter Try.func41, Try.ntmps41
  go_wp2
  go_loopw [13, 4] (fun v13 v4 wr => ∃ (j : Nat) (s : Bool), j ≤ p.n ∧ v13 = .int .i64 j ∧ v4 = .bool s ∧ wr = w ∧ Hid (s = true ↔ ∃ i, i < j ∧ (p.fr i).may)) (fun v13 _ _ => p.n - (intOf v13).toNat)
  case atStart => exact ⟨0, false, Nat.zero_le _, rfl, rfl, rfl, ⟨(fun h => nomatch h), fun ⟨i, hi, _⟩ => absurd hi (Nat.not_lt_zero _)⟩⟩
  case round =>
    obtain ⟨j, s, hj, rfl, rfl, rfl, HS⟩ := hrel
    by_cases hlt : j < p.n
    · have i1 : (j : Int) < p.n := by omega
      cases s with
      | true =>
        go_wp2
        go_roundw
        case rel => exact ⟨j + 1, true, by omega, by go_num, rfl, by first | rfl | trivial, ⟨fun _ => (HS.out.1 rfl).imp fun i hi => ⟨by omega, hi.2⟩, fun _ => rfl⟩⟩
        case measure => simp [intOf]; omega
      | false =>
        have HN := hide (show ∀ i, i < j → ¬ (p.fr i).may from fun i hi hm => by cases HS.out.2 ⟨i, hi, hm⟩)
        obtain ⟨d0, -, -, d3, -, -⟩ := HH.out.dix hlt
        have HG := hide (page_gap HO.out hlt)
        obtain ⟨z, hz⟩ : ∃ z, (if (p.fr j).u = true then (p.fr j).id else -1) = z := ⟨_, rfl⟩
        rw [hz] at d0 HG
        have HZ := hide hz
        clear hz HS
        by_cases z0 : z < 0
        · have z1 : ¬ 0 ≤ z := by omega
          have HM := hide (show ¬ (p.fr j).may from fun c => by
            have c1 := c.1
            rw [HG.out.1 z0] at c1
            cases c1)
          clear HG
          go_wp2
          go_roundw
          case rel => exact ⟨j + 1, false, by omega, by go_num, rfl, by first | rfl | trivial, ⟨(fun h => nomatch h), fun ⟨i, hi, hm⟩ => by
            by_cases e : i = j
            · exact absurd (e ▸ hm) HM.out
            · exact absurd hm (HN.out i (by omega))⟩⟩
          case measure => simp [intOf]; omega
        · have z1 : 0 ≤ z := by omega
          have HU := hide (show (p.fr j).u = true from by
            cases e : (p.fr j).u with
            | true => rfl
            | false => exact absurd (HG.out.2 e) z0)
          clear HG
          by_cases f0 : (p.fr j).f = 0
          · have HM := hide (show (p.fr j).may from ⟨HU.out, f0⟩)
            rw [f0] at d3
            clear f0
            go_wp2
            go_roundw
            case rel => exact ⟨j + 1, true, by omega, by go_num, rfl, by first | rfl | trivial, ⟨fun _ => ⟨j, by omega, HM.out⟩, fun _ => rfl⟩⟩
            case measure => simp [intOf]; omega
          · have f1 : (((p.fr j).f : Int) == 0) = false := by simpa using f0
            have HM := hide (show ¬ (p.fr j).may from fun c => f0 c.2)
            clear f0
            go_wp2
            go_roundw
            case rel => exact ⟨j + 1, false, by omega, by go_num, rfl, by first | rfl | trivial, ⟨(fun h => nomatch h), fun ⟨i, hi, hm⟩ => by
              by_cases e : i = j
              · exact absurd (e ▸ hm) HM.out
              · exact absurd hm (HN.out i (by omega))⟩⟩
            case measure => simp [intOf]; omega
    · have i1 : ¬ (j : Int) < p.n := by omega
      obtain rfl : j = p.n := by omega
      clear hj hlt i1
      cases s with
      | false =>
        have HV := hide (p.vic_none HO.out.hn (fun i hi hm => by cases HS.out.2 ⟨i, hi, hm⟩))
        have HV2 := hide (show p.vicI = 0 ∧ p.vicE = 8 from by unfold Po.vicI Po.vicE; rw [HV.out]; exact ⟨rfl, rfl⟩)
        clear HS
        go_wp2
        go_loopw [6] (fun _ wz => wz = wr) (fun _ _ => 0)
        case atStart => rfl
        case round =>
          obtain rfl := hrel
          go_wp2
          go_ret2
          rw [HV.out, HV2.out.1, HV2.out.2]
          exact ⟨rfl, HH.out, Tn.refl _ _⟩
      | true =>
        have HV := hide (show p.vic.2 ≠ none from by
          obtain ⟨i, hi, hm⟩ := HS.out.1 rfl
          exact p.vic_some HO.out.hn i hi hm)
        clear HS c0 c1 hc hc2
        go_wp2
        go_loopw [6] (fun _ wz => Hid ((∃ k, Left g gr p.vic wz k) ∧ Tn (FP g gr) wr wz)) (fun _ wz => lf wz)
        case atStart => exact ⟨⟨2 * p.n, p, HH.out, rfl, HO.out.hn⟩, Tn.refl _ _⟩
        case round =>
          have HT := hide hrel.out.2
          obtain ⟨k, hk⟩ := hrel.out.1
          obtain ⟨m, q, hm, hpd, hqo, hwk, hqn, hqx⟩ := left_step HLF.out HV.out HO.out hk
          have HM := hide hm
          have HW := hide hwk
          have HP := hide hpd
          have HQ := hide hqo
          have qn := hqo.n16
          have qh := hqo.hn
          obtain ⟨cap, c0, c1, hc, hc2⟩ := hpd.c0
          have f1 := (hpd.free 1).2
          obtain ⟨sx, hsx⟩ := HX.out q.h (by rw [← hqn]; exact qh)
          rw [← hqx] at hsx
          clear hrel hk hm hwk hpd hqo HH hqn hqx
          have hmd : (((q.h : Int) + 1).tmod (q.n : Int)) = ((nxt q.h q.n : Nat) : Int) := by
            rw [← nxt_mod _ _ qh, Int.tmod_eq_emod_of_nonneg (by omega)]
            simp
          have hne : ¬ (q.n : Int) = 0 := by omega
          have i1 : (q.h : Int) < q.n := by omega
          go_wp2_with fail
          go_region
          have HP3 := hide (show PD (wr.setCell ⟨g, 1, none⟩ (.int .i64 ((nxt q.h q.n : Nat) : Int))).drew g gr q.on from (HP.out.hand (nxt q.h q.n)).drewN 1)
          have HT3 := hide (show Tn (FP g gr) _ (wr.setCell ⟨g, 1, none⟩ (.int .i64 ((nxt q.h q.n : Nat) : Int))).drew from (HT.out.set g 1 _ (.inl rfl)).drew)
          generalize (wr.setCell ⟨g, 1, none⟩ (.int .i64 ((nxt q.h q.n : Nat) : Int))).drew = w3 at HP3 HT3 ⊢
          clear c0 c1 hc hc2 f1 HP HT
          obtain ⟨cap3, c0, c1, hc, hc2⟩ := HP3.out.c0
          obtain ⟨d0, d1, d2, d3, d4, d5⟩ := HP3.out.dix (i := q.h) qh
          have ht : q.on.fr q.h = q.fr q.h := rfl
          rw [ht] at d0 d1 d2 d3 d4 d5
          rw [hsx] at d1
          have HG := hide (page_gap HQ.out qh)
          have HI := hide (show (q.fr q.h).u = true → (if (q.fr q.h).u = true then (q.fr q.h).id else -1) = (q.fr q.h).id from fun c => if_pos c)
          have HW2 := hide (Po.walk_succ m q)
          generalize (if (q.fr q.h).u = true then (q.fr q.h).id else -1) = z at *
          generalize decide ((q.fr q.h).r ≠ 0) = dd at *
          obtain ⟨mk, hmk⟩ : ∃ mk, (q.fr q.h).m = mk := ⟨_, rfl⟩
          obtain ⟨ff, hff⟩ : ∃ ff, (q.fr q.h).f = ff := ⟨_, rfl⟩
          have HMF := hide (And.intro hmk hff)
          rw [hmk] at d2
          rw [hff] at d3
          clear ht hsx hmk hff
          have f2 := (HP3.out.free (q.h * 6 + 2)).1
          by_cases z0 : z < 0
          · have HS := hide (show (q.fr q.h).stays from .inl (HG.out.1 z0))
            have HE := hide HW.out
            rw [HW2.out, if_pos HS.out] at HE
            go_wp2
            rw [HM.out]
            have hb : Below w3.heap.size w3 (w3.alloc (.cells #[.int .i64 z, .string sx, .bool mk, .int .i64 (ff : Int), .bool dd, .int .u64 (q.fr q.h).r] 72)) := (Below.refl _ _).alloc (Nat.le_refl _) _
            have hl : Left g gr p.vic (w3.alloc (.cells #[.int .i64 z, .string sx, .bool mk, .int .i64 (ff : Int), .bool dd, .int .u64 (q.fr q.h).r] 72)) m := ⟨q.on, HP3.out.later hb, HE.out, nxt_lt _ _ qh⟩
            exact ⟨⟨⟨m, hl⟩, HT3.out.later hb⟩, left_less HLF.out hl⟩
          · have HU := hide (show (q.fr q.h).u = true from by
              cases e : (q.fr q.h).u with
              | true => rfl
              | false => exact absurd (HG.out.2 e) z0)
            by_cases hf : 0 < ff
            · have hf2 : (0 : Int) < (ff : Int) := by omega
              have HS := hide (show (q.fr q.h).stays from .inr (by rw [HMF.out.2]; exact hf))
              have HE := hide HW.out
              rw [HW2.out, if_pos HS.out] at HE
              go_wp2
              rw [HM.out]
              have hb : Below w3.heap.size w3 (w3.alloc (.cells #[.int .i64 z, .string sx, .bool mk, .int .i64 (ff : Int), .bool dd, .int .u64 (q.fr q.h).r] 72)) := (Below.refl _ _).alloc (Nat.le_refl _) _
              have hl : Left g gr p.vic (w3.alloc (.cells #[.int .i64 z, .string sx, .bool mk, .int .i64 (ff : Int), .bool dd, .int .u64 (q.fr q.h).r] 72)) m := ⟨q.on, HP3.out.later hb, HE.out, nxt_lt _ _ qh⟩
              exact ⟨⟨⟨m, hl⟩, HT3.out.later hb⟩, left_less HLF.out hl⟩
            · have hf2 : ¬ (0 : Int) < (ff : Int) := by omega
              have HS := hide (show ¬ (q.fr q.h).stays from fun c => by
                rcases c with c | c
                · rw [HU.out] at c; cases c
                · rw [HMF.out.2] at c; exact hf c)
              cases mk with
              | false =>
                have HE := hide HW.out
                rw [HW2.out, if_neg HS.out, if_neg (by rw [HMF.out.1]; decide), ← HI.out HU.out] at HE
                go_wp2
                go_ret2
                have hb : Below w3.heap.size w3 (w3.alloc (.cells #[.int .i64 z, .string sx, .bool false, .int .i64 (ff : Int), .bool dd, .int .u64 (q.fr q.h).r] 72)) := (Below.refl _ _).alloc (Nat.le_refl _) _
                refine ⟨?_, ?_, HT3.out.later hb⟩
                · unfold Po.vicI Po.vicE
                  rw [← HE.out]
                  rfl
                · rw [← HE.out]
                  exact HP3.out.later hb
              | true =>
                have HE := hide HW.out
                rw [HW2.out, if_neg HS.out, if_pos HMF.out.1] at HE
                have hb : Below w3.heap.size w3 (w3.alloc (.cells #[.int .i64 z, .string sx, .bool true, .int .i64 (ff : Int), .bool dd, .int .u64 (q.fr q.h).r] 72)) := (Below.refl _ _).alloc (Nat.le_refl _) _
                have HP4 := hide (HP3.out.later hb)
                have HT4 := hide (HT3.out.later hb)
                obtain ⟨cap4, c0', -, -, -⟩ := HP4.out.c0
                have d2' := (HP4.out.dix (i := q.h) qh).2.2.1
                have f2' := (HP4.out.free (q.h * 6 + 2)).1
                clear hb
                go_wp2
                rw [HM.out]
                have hl : Left g gr p.vic ((w3.alloc (.cells #[.int .i64 z, .string sx, .bool true, .int .i64 (ff : Int), .bool dd, .int .u64 (q.fr q.h).r] 72)).setCell ⟨gr, q.h * 6 + 2, none⟩ (.bool false)) m := ⟨q.on.set q.h (q.fr q.h).wane, HP4.out.one qh 2 (.bool false) (q.fr q.h).wane (by decide) rfl, HE.out, nxt_lt _ _ qh⟩
                exact ⟨⟨⟨m, hl⟩, HT4.out.set gr _ _ (.inr rfl)⟩, left_less HLF.out hl⟩
end
end Go.Proofs.Ythigibgokbmehaa
