/-
  The contract of package page's cellsOf: the cells that 236 bytes tell.
-/
import Derived.Test.YtkbigineepohnabPageCells
import Derived.Test.YtkbigineepohnabPageTell
import Derived.Test.YtkbigineepohnabPageTale
namespace Go.Proofs.Ytkbigineepohnab
open Go.RowKit
set_option linter.unusedVariables false

theorem csA_set (p : Pg) (j : Nat) (hj : j < 8) (b : Bool) (s : ByteArray) :
    ((csA p).setIfInBounds (j * 2) (.bool b)).setIfInBounds (j * 2 + 1) (.string s) = csA ⟨p.l, fun i => if i = j then b else p.u i, fun i => if i = j then s else p.s i⟩ := by
  rcases lt8 hj with rfl | rfl | rfl | rfl | rfl | rfl | rfl | rfl <;> simp [csA]

/-- The result's cells and the variable's, while the bytes are read. -/
def Tell (w : World) (q : Pg) (x : World) : Prop := RowAt x w.heap.size 25 (csA Pg.zero) ∧ RowAt x (w.heap.size + 1) 25 (csA q) ∧ Below w.heap.size w x
theorem Tell.same {w x : World} {p q : Pg} (h : Tell w p x) (hs : p.same q) : Tell w q x := ⟨h.1, by rw [← same_csA hs]; exact h.2.1, h.2.2⟩
theorem tell_more {w x : World} {t : List UInt8} {j : Nat} (h : Tell w (prefT t j) x) (hj : j < 8) (hu : usedAt t j = true) :
    Tell w (prefT t (j + 1)) ((x.setCell ⟨w.heap.size + 1, j * 2, none⟩ (.bool true)).setCell ⟨w.heap.size + 1, j * 2 + 1, none⟩ (.string (cutAt t j))) := by
  refine ⟨(h.1.other _ _ (by simp)).other _ _ (by simp), ?_, (h.2.2.setCell (by simp) _).setCell (by simp) _⟩
  have h1 := (h.2.1.set (j * 2) (.bool true)).set (j * 2 + 1) (.string (cutAt t j))
  rw [csA_set _ j hj, same_csA (prefT_more t j hu)] at h1
  exact h1
theorem okT_no (t : List UInt8) (j : Nat) (hj : j < 8) (h : 20 < lenAt t j) : ¬ okT t := fun g => by
  have := g.1 j hj
  omega
theorem len_next {t : List UInt8} {j : Nat} (h : ∀ k, k < j → lenAt t k ≤ 20) (hj : lenAt t j ≤ 20) : ∀ k, k < j + 1 → lenAt t k ≤ 20 := by
  intro k hk
  by_cases hkj : k = j
  · subst hkj
    exact hj
  · exact h k (by omega)

theorem take_one (t : List UInt8) (ht : t.length = 236) (j : Nat) (hj : j < 8) : takeS t (2 + (j : Int)) 1 = (((nAt t j : Nat) : Int), 0) := by
  rw [takeS_ok t _ 1 (by omega) (by omega)]
  have e : (2 + (j : Int)).toNat = 2 + j := by omega
  rw [e]
  have e2 : beAt t (2 + j) (1 : Int).toNat = nAt t j := by
    unfold beAt nAt
    have hl : 2 + j < t.length := by omega
    have e4 : (t.drop (2 + j)).take 1 = [t[2 + j]] := by
      rw [List.drop_eq_getElem_cons hl]
      rfl
    rw [show (1 : Int).toNat = 1 from rfl, e4, List.getD, List.getElem?_eq_getElem hl]
    simp [be]
  rw [e2]

set_option maxHeartbeats 800000 in
theorem tells_at (g off cap : Nat) (t : List UInt8) (w : World) (hB : IsB w (some ⟨g, off, none⟩) 236 t) (hcap : 236 ≤ cap) (q : Pg) (r : Bool) (HT0 : Hid (okT t → q = tellP t ∧ r = true)) (HF0 : Hid (¬ okT t → q = Pg.zero ∧ r = false)) :
    Calls Try.prog 15 #[.slice (some ⟨g, off, none⟩) 236 cap] w fun e w' => e = .returned (.tuple #[.agg (csA q), .bool r]) ∧ Below w.heap.size w w' := by
  have HQ0 : Hid (Tell w (prefT t 0) ((w.alloc (.cells (csA Pg.zero) 25)).alloc (.cells (csA Pg.zero) 25))) := by
    refine ⟨(RowAt.new w 25 (csA Pg.zero)).below ((Below.refl _ _).alloc (Nat.le_refl _) _) (by simp), ?_, ((Below.refl _ _).alloc (Nat.le_refl _) _).alloc (by simp) _⟩
    have h := RowAt.new (w.alloc (.cells (csA Pg.zero) 25)) 25 (csA Pg.zero)
    rw [same_csA (prefT_zero t)]
    simpa using h
  have HB := hide hB
  have hl := hB.1
  clear hB
  go_enter Try.func15, Try.ntmps15
  go_wp2_with fail
  refine gen_wp (fun x => Hid (Tell w (prefT t 0) x)) HQ0 ?_
  clear HQ0
  intro w0 HQ0
  go_loopw [5, 10] (fun a i wr => ∃ j : Nat, j ≤ 8 ∧ i = .int .i64 j ∧ a = .int .i64 (posAt t j : Nat) ∧ Tell w (prefT t j) wr ∧ (∀ k, k < j → lenAt t k ≤ 20)) (fun _ i _ => 8 - (intOf i).toNat)
  case atStart => exact ⟨0, Nat.zero_le _, rfl, rfl, HQ0.out, fun k hk => absurd hk (by omega)⟩
  case round =>
    obtain ⟨j, hj, rfl, rfl, hq, hlen⟩ := hrel
    clear HQ0
    have HQ := hide hq
    have HLN := hide hlen
    have hpl := pos_le _ _ hlen
    clear hq hlen
    by_cases hlt : j < 8
    · have R := take_any (some ⟨g, off, none⟩) 236 cap t (2 + (j : Int)) 1 wr (HB.out.below HQ.out.2.2) (by omega) (by omega)
      rw [take_one t hl j hlt] at R
      have hm2 : nAt t j < 256 := by unfold nAt; exact UInt8.toNat_lt _
      obtain ⟨mm, hmm⟩ : ∃ mm, nAt t j = mm := ⟨_, rfl⟩
      rw [hmm] at R hm2
      have HR := hide R
      have HMM := hide hmm
      clear hmm R
      by_cases h255 : mm = 255
      · subst h255
        have hn := len_unused _ _ HMM.out
        have HN := hide (HQ.out.same (prefT_skip t j hn.2).symm)
        have HP := hide (show posAt t (j + 1) = posAt t j by rw [posAt, hn.1]; rfl)
        have HL2 := hide (len_next HLN.out (show lenAt t j ≤ 20 by omega))
        clear hn HQ HLN
        generalize posAt t j = pp at *
        go_wp2_with fail
        refine HR.out.mono ?_
        rintro e w2 ⟨rfl, rfl⟩
        go_wp2
        go_roundw
        case rel => exact ⟨j + 1, by omega, by go_num, by rw [HP.out], HN.out, HL2.out⟩
        case measure => simp [intOf]; omega
      · have hn := len_used _ _ mm HMM.out h255
        by_cases h20 : 20 < mm
        · have hno := okT_no t j hlt (by rw [hn.1]; exact h20)
          have HE := hide (HF0.out hno)
          have h5 : ((mm : Int) == 255) = false := by simp; omega
          have h6 : (20 : Int) < (mm : Int) := by omega
          have HQ1 := hide HQ.out.1
          have hb1 := HQ.out.2.2
          clear hno hn HQ HLN h255
          generalize posAt t j = pp at *
          go_wp2_with fail
          refine HR.out.mono ?_
          rintro e w2 ⟨rfl, rfl⟩
          go_wp2_with (refine wpList_store_at rfl 25 (.tmp 2) (.tmp 25) rfl w.heap.size (csA Pg.zero) (csA Pg.zero) rfl rfl HQ1.out infoCs rfl (csA_one _) ?_)
          intro w6 hP6 hk _
          have HP6 := hide hP6
          have d6 := hk _ _ hb1 (Nat.le_refl _)
          clear hP6 hk hb1 HQ1
          go_wp2
          rw [HE.out.1, HE.out.2]
          exact bodyPost_ret (res_at rfl _ _ w.heap.size (csA Pg.zero) _ rfl HP6.out Try.underlying25 rfl infoCs) rfl ⟨rfl, d6⟩
        · have h5 : ((mm : Int) == 255) = false := by simp; omega
          have h6 : ¬ (20 : Int) < (mm : Int) := by omega
          have HP := hide (show posAt t (j + 1) = posAt t j + mm by rw [posAt, hn.1])
          have HL2 := hide (len_next HLN.out (show lenAt t j ≤ 20 by omega))
          have HN := hide (tell_more HQ.out hlt hn.2)
          have c1 := HQ.out.2.1.cell (j * 2) _ (csA_used _ j hlt)
          have c2 := HQ.out.2.1.cell (j * 2 + 1) _ (csA_val _ j hlt)
          have f1 := HQ.out.2.1.free (j * 2)
          have f2 := HQ.out.2.1.free (j * 2 + 1)
          obtain ⟨b', o', he', hlt', hcell'⟩ := (HB.out.below HQ.out.2.2).2 (by omega)
          cases he'
          have hcut := IsB.cut hl hlt' hcell' (posAt t j) mm (by omega)
          have hcv := run_toString (P := Try.prog) wr 31 9 5 Try.underlying31 Try.underlying5 Try.underlying9 (some ⟨g, off + posAt t j, none⟩) mm (cap - posAt t j) _ hcut
          have hce : (⟨((t.drop (posAt t j)).take mm).toArray⟩ : ByteArray) = cutAt t j := by unfold cutAt; rw [hn.1]
          rw [hce] at hcv
          have i3 : ¬ cap = posAt t j := by omega
          have i4 : (posAt t j : Int) + (mm : Int) ≤ (cap : Int) := by omega
          clear hn HLN h255 HQ hcell' hcut hce
          generalize posAt t j = pp at *
          generalize cutAt t j = C at *
          go_wp2_with fail
          refine HR.out.mono ?_
          rintro e w2 ⟨rfl, rfl⟩
          go_wp2
          go_roundw
          case rel => exact ⟨j + 1, by omega, by go_num, by rw [HP.out]; go_num, HN.out, HL2.out⟩
          case measure => simp [intOf]; omega
    · obtain rfl : j = 8 := by omega
      have HT := hide (HQ.out.same (prefT_full t))
      obtain ⟨b', o', he', hlt', hcell'⟩ := (HB.out.below HQ.out.2.2).2 (by omega)
      cases he'
      have hp2 : 10 ≤ posAt t 8 := (vals_told t hl HLN.out 8 (by omega)).2
      have hcut := IsB.cut hl hlt' hcell' (posAt t 8) (236 - posAt t 8) (by omega)
      rw [List.take_of_length_le (by rw [List.length_drop]; omega)] at hcut
      have R := noughts_any _ (236 - posAt t 8) (cap - posAt t 8) _ wr hcut (by omega)
      have hiff : okT t ↔ ∀ x ∈ t.drop (posAt t 8), x = 0 := ⟨fun h => h.2, fun h => ⟨HLN.out, h⟩⟩
      have i3 : ¬ cap = posAt t 8 := by omega
      have i4 : (posAt t 8 : Int) ≤ 236 := by omega
      have i5 : (236 : Int) ≤ (cap : Int) := by omega
      by_cases hok : okT t
      · rw [decide_eq_true (hiff.1 hok)] at R
        have HE := hide (HT0.out hok)
        have HR := hide R
        clear R hiff hcut hcell' HQ HLN hpl hlt hj hok HB
        generalize posAt t 8 = pp at *
        go_wp2_with fail
        refine HR.out.mono ?_
        rintro e w2 ⟨rfl, rfl⟩
        clear HR
        go_wp2_with (first | (refine wpList_load_at rfl 25 (.tmp 4) rfl (w.heap.size + 1) rfl (csA (tellP t)) HT.out.2.1 _ Try.underlying25 rfl infoCs ?_) | (refine wpList_store_at rfl 25 (.tmp 2) (.tmp 46) rfl w.heap.size (csA Pg.zero) (csA (tellP t)) rfl rfl HT.out.1 infoCs rfl (csA_one _) ?_))
        intro w6 hP6 hk _
        have HP6 := hide hP6
        have d6 := hk _ _ HT.out.2.2 (Nat.le_refl _)
        clear hP6 hk HT
        go_wp2
        rw [HE.out.1, HE.out.2]
        exact bodyPost_ret (res_at rfl _ _ w.heap.size (csA (tellP t)) _ rfl HP6.out Try.underlying25 rfl infoCs) rfl ⟨rfl, d6⟩
      · rw [decide_eq_false (fun h => hok (hiff.2 h))] at R
        have HE := hide (HF0.out hok)
        have HR := hide R
        clear R hiff hcut hcell' HQ HLN hpl hlt hj hok HB
        generalize posAt t 8 = pp at *
        go_wp2_with fail
        refine HR.out.mono ?_
        rintro e w2 ⟨rfl, rfl⟩
        clear HR
        go_wp2_with (refine wpList_store_at rfl 25 (.tmp 2) (.tmp 45) rfl w.heap.size (csA Pg.zero) (csA Pg.zero) rfl rfl HT.out.1 infoCs rfl (csA_one _) ?_)
        intro w6 hP6 hk _
        have HP6 := hide hP6
        have d6 := hk _ _ HT.out.2.2 (Nat.le_refl _)
        clear hP6 hk HT
        go_wp2
        rw [HE.out.1, HE.out.2]
        exact bodyPost_ret (res_at rfl _ _ w.heap.size (csA Pg.zero) _ rfl HP6.out Try.underlying25 rfl infoCs) rfl ⟨rfl, d6⟩

/-- THE CONTRACT. -/
theorem tells_any (g off cap : Nat) (t : List UInt8) (w : World) (hB : IsB w (some ⟨g, off, none⟩) 236 t) (hcap : 236 ≤ cap) :
    Calls Try.prog 15 #[.slice (some ⟨g, off, none⟩) 236 cap] w fun e w' => e = .returned (.tuple #[.agg (csA (if okT t then tellP t else Pg.zero)), .bool (decide (okT t))]) ∧ Below w.heap.size w w' :=
  tells_at g off cap t w hB hcap _ _ (hide fun h => ⟨if_pos h, decide_eq_true h⟩) (hide fun h => ⟨if_neg h, decide_eq_false h⟩)
end Go.Proofs.Ytkbigineepohnab
