/-
  The walk of PageOne: it returns true, and turns nothing that was there.
-/
import Derived.Test.YtkbigineepohnaaPageAwake
import Derived.Test.YtkbigineepohnaaPageCode
import Derived.Test.YtkbigineepohnaaPageEq
import Derived.Test.YtkbigineepohnaaPageKept
import Derived.Test.YtkbigineepohnaaQuietIn
import Derived.OpenShut
namespace Go.Proofs.Ytkbigineepohnaa.pageOne
open Go.RowKit
set_option linter.unusedVariables false

/-- What is decoded is just the image of what it tells. -/
theorem dec_yes (id : Int) (bs : List UInt8) (h : decE id bs = 0) : 0 ≤ id ∧ id ≤ 31 ∧ (decP id bs).right ∧ imageB id.toNat (decP id bs) = bs ∧ bs.length = 256 ∧ tornB bs = false := by
  have hp : decP id bs = scanP bs := by unfold decP; rw [if_pos h]
  rw [hp]
  unfold decE at h
  split at h
  · simp at h
  · rename_i h0
    split at h
    · simp at h
    · split at h
      · simp at h
      · split at h
        · simp at h
        · rename_i ht
          split at h
          · simp at h
          · split at h
            · rename_i hr
              exact ⟨by omega, by omega, hr.1, hr.2, by omega, by simpa using ht⟩
            · simp at h

set_option maxRecDepth 4000 in
set_option maxHeartbeats 400000 in
theorem core (id : Int) (s : ByteArray) (w : World) (hz : s.size ≤ 140737488351232) :
    Calls Try.prog 6 #[.int .i64 id, .string s] w fun e w' => e = .returned (.bool true) ∧ Below w.heap.size w w' := by
  have hcv := fun w => Lib.run_convert_string_bytes (P := Try.prog) w 9 29 5 s Try.underlying9 Try.underlying29 Try.underlying5
  go_enter Try.func6, Try.ntmps6
  go_wp2_with fail
  refine (awake_any _).mono ?_
  rintro e w1 ⟨rfl, hb1⟩
  go_wp2_with fail
  refine (dec_any id _ _ _ s.data.toList _ (isB_conv w1 _ s) (by omega) (grownCap_ge ..)).mono ?_
  rintro e w2 ⟨rfl, hb2⟩
  have c1 := hb1.trans ((below_conv w1 5 s).mono hb1.size)
  have c2 := c1.trans (hb2.mono c1.size)
  clear hb1 hb2 c1
  have hne := decP_no id s.data.toList
  have hyes := dec_yes id s.data.toList
  generalize decE id s.data.toList = er at *
  generalize decP id s.data.toList = q at *
  have HN := hide hne
  have HY := hide hyes
  clear hne hyes
  go_wp2_with (refine wpList_store_page rfl (.tmp 5) (.tmp 18) rfl w2.heap.size Pg.zero q rfl rfl (show PgAt _ w2.heap.size Pg.zero from heap_alloc_new w2 _) ?_)
  intro w3 hP3 hk
  have HK : Hid (Kept w.heap.size w w2.heap.size q w3) := ⟨hP3, hk _ _ (c2.alloc c2.size _) c2.size, c2.size⟩
  clear hP3 hk c2
  generalize w2.heap.size = gp at *
  by_cases he : er = 0
  · subst he
    obtain ⟨g1, g2, g3, g4, g5, g6⟩ := HY.out rfl
    have e1 : encB id q = (s.data.toList, 0) := by unfold encB; rw [if_pos ⟨g1, g2, g3⟩, g4]
    have e2 : stampB s.data.toList = (q.l, true) := by
      unfold stampB
      rw [if_pos ⟨g5, g6⟩]
      have h1 := (scan_image id.toNat q g3).1
      rw [g4] at h1
      have h2 : (scanP s.data.toList).l = beAt s.data.toList 0 8 := rfl
      rw [h2] at h1
      rw [h1]
    have E := fun w => enc_any id q w
    rw [e1] at E
    have hd := data_length s
    rw [hd] at E g5
    have T := fun (a : Option Addr) (len cap : Nat) (w : World) (hB : IsB w a len s.data.toList) (hl : len ≤ 140737488355328) (hcap : len ≤ cap) => stamp_any a len cap s.data.toList w hB hl hcap
    rw [e2] at T
    have R := fun w => right_any q w
    rw [decide_eq_true g3] at R
    have HE := hide E
    have HT := hide T
    have HR := hide R
    clear E T R e1 e2 g1 g2 g3 g4 g5 g6 HN HY hd
    go_wp2_with (refine wpList_load_page rfl (.tmp 5) rfl gp rfl q HK.out.1 ?_)
    refine (HE.out _).mono ?_
    rintro e w4 ⟨v, rfl, hown4, hb4⟩
    have HK4 := hide (HK.out.later hb4)
    obtain ⟨a4, cap4, hv, hcap4, hB4⟩ := shape_isB hown4
    rw [hv]
    clear hown4 hb4 HK hv HE
    go_wp2_with fail
    refine (HT.out _ _ _ _ (isB_conv w4 _ s) (by omega) (grownCap_ge ..)).mono ?_
    rintro e w5 ⟨rfl, hb5⟩
    have hb6 : Below w4.heap.size w4 w5 := (below_conv w4 5 s).trans (hb5.mono (below_conv w4 5 s).size)
    have HK5 := hide (HK4.out.later hb6)
    have hB5 := hB4.below hb6
    clear hB4 hb5 hb6 HK4 HT
    have hc1 := run_toString (P := Try.prog) w5 29 9 5 Try.underlying29 Try.underlying5 Try.underlying9 a4 s.size cap4 _ hB5
    rw [mk_self] at hc1
    clear hB5 hcv
    go_wp2_with (refine wpList_load_page rfl (.tmp 5) rfl gp rfl q HK5.out.1 ?_)
    refine (HR.out _).mono ?_
    rintro e w6 ⟨rfl, hb6⟩
    have HK6 := hide (HK5.out.later hb6)
    have c6 := HK6.out.1.lsn
    have hf := HK6.out.2.1
    clear HK5 hb6 HR hc1 HK6
    go_wp2
    go_ret
    exact ⟨rfl, hf⟩
  · have hq := HN.out he
    subst hq
    have he2 : (er != 0) = true := by simpa using he
    have hz0 : Pg.zero.fits := ⟨by decide, fun i _ => by show (0 : Nat) ≤ maxLen; omega⟩
    have HE := hide (run_page_eql Pg.zero Pg.zero hz0 hz0 w3)
    rw [decide_eq_true (Pg.same.refl Pg.zero)] at HE
    have hf := HK.out.2.1
    clear HN HY hz0 hcv
    go_wp2_with (first | (refine wpList_load_page rfl (.tmp 5) rfl gp rfl Pg.zero HK.out.1 ?_) | (refine wpList_binop rfl .eql 27 27 (.tmp 22) (.tmp 23) rfl (.agg (pgA Pg.zero)) (.agg (pgA Pg.zero)) (.bool true) rfl rfl (page_guard _ _ _ Pg.zero Pg.zero _) HE.out ?_))
    go_ret
    exact ⟨rfl, hf⟩

theorem walk (a0 : Int) (a1 : ByteArray) (w0 : (Lit.int .i64 a0).wf = true) (z1 : a1.size ≤ 140737488351232) (w : World) :
    Calls Try.prog 6 #[.int .i64 a0, .string a1] w fun e w' => e = .returned (.bool true) ∧ Below w.heap.size w w' := core a0 a1 w z1
end Go.Proofs.Ytkbigineepohnaa.pageOne
