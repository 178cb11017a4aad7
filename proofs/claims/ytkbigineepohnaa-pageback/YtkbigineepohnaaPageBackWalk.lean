/-
  The walk of PageBack: it returns true, and turns nothing that was there.
-/
import Derived.Test.YtkbigineepohnaaPageAwake
import Derived.Test.YtkbigineepohnaaPageCode
import Derived.Test.YtkbigineepohnaaPageEq
import Derived.Test.YtkbigineepohnaaPageKept
import Derived.Test.YtkbigineepohnaaPageImg
import Derived.Test.YtkbigineepohnaaQuietIn
import Derived.Test.YtkbigineepohnaaAppendB
import Derived.OpenShut
namespace Go.Proofs.Ytkbigineepohnaa.pageBack
open Go.RowKit
set_option linter.unusedVariables false

theorem new_kept (w : World) (p : Pg) : Kept w.heap.size w w.heap.size p (w.alloc (.cells (pgA p) 27)) := ⟨heap_alloc_new w _, (Below.refl _ _).alloc (Nat.le_refl _) _, Nat.le_refl _⟩

theorem own_cap {w : World} {base n cap size : Nat} {e : TypeId} {a : Option Addr} {xs : List Value} (h : w.ownsRow base e size (.slice a n cap) n xs) : n ≤ cap := by
  rcases h.2 with ⟨hv, h0⟩ | ⟨g, cap', cur, hv, _, _, hn, _⟩
  · omega
  · injection hv with _ _ h3
    omega

theorem isB_first {w : World} {b off n : Nat} {bs : List UInt8} (h : IsB w (some ⟨b, off, none⟩) n bs) (k : Nat) (hk : k ≤ n) : IsB w (some ⟨b, off, none⟩) k (bs.take k) := by
  refine ⟨by rw [List.length_take, h.1]; omega, fun hp => ?_⟩
  obtain ⟨b', off', hb, hlt, hc⟩ := h.2 (by omega)
  refine ⟨b', off', hb, hlt, fun j hj => ?_⟩
  rw [hc j (by omega)]
  have e : (bs.take k).getD j 0 = bs.getD j 0 := by simp [List.getD, hj]
  rw [e]

set_option maxRecDepth 4000 in
set_option maxHeartbeats 3200000 in
theorem core (id jd : Int) (p : Pg) (w : World) (hp : p.fits) :
    Calls Try.prog 5 #[.int .i64 id, .int .i64 jd, .agg (pgA p)] w fun e w' => e = .returned (.bool true) ∧ Below w.heap.size w w' := by
  have HF := hide hp
  have HP := hide (new_kept w p)
  clear hp
  go_enter Try.func5, Try.ntmps5
  go_wp2_with fail
  refine gen_calls (fun x => Hid (Kept w.heap.size w w.heap.size p x)) HP ?_
  clear HP
  intro w0 HP
  refine (awake_any _).mono ?_
  rintro e w1 ⟨rfl, hb1⟩
  have HP1 := hide (HP.out.later hb1)
  clear HP hb1
  go_wp2_with (refine wpList_load_page rfl _ rfl w.heap.size rfl p HP1.out.1 ?_)
  refine (enc_any id p _).mono ?_
  rintro e w2 ⟨v, rfl, hown2, hb2⟩
  have HP2 := hide (HP1.out.later hb2)
  by_cases h1 : 0 ≤ id ∧ id ≤ 31 ∧ p.right
  · rw [enc_yes id p h1] at hown2 ⊢
    simp only at hown2 ⊢
    rw [imageB_length _ _ h1.2.2] at hown2
    obtain ⟨a, cap, hv, hg⟩ := own_slice hown2 (by omega)
    rw [hv] at hown2 ⊢
    have hcap := own_cap hown2
    have hB2 := hown2.isB (imageB_length _ _ h1.2.2)
    have hlen := imageB_length id.toNat p h1.2.2
    have D1 := dec_image id p ⟨h1.1, h1.2.1⟩ h1.2.2
    have D2 := dec_other id jd p ⟨h1.1, h1.2.1⟩ h1.2.2
    have D3 := dec_short id ((imageB id.toNat p).take 255) ⟨h1.1, h1.2.1⟩ (by rw [List.length_take]; omega)
    have D4 := dec_long id (imageB id.toNat p ++ [0]) ⟨h1.1, h1.2.1⟩ (by rw [List.length_append, hlen]; simp)
    have HD := hide (And.intro D2 (And.intro D3 D4))
    generalize hbs : imageB id.toNat p = bs at *
    clear hbs D2 D3 D4 h1 hown2 hb2 HP1 hv
    have E := fun (w : World) (hB : IsB w (some ⟨a, 0, none⟩) 256 bs) => dec_any id _ _ cap _ w hB (by omega) hcap
    rw [D1.1, D1.2] at E
    have HE := hide E
    have HB2 := hide hB2
    have HN := hide (fun w => run_page_neq p p HF.out HF.out w)
    rw [decide_eq_true (Pg.same.refl p)] at HN
    clear E D1 hB2 HF
    go_wp2_with fail
    refine (HE.out _ HB2.out).mono ?_
    rintro e w3 ⟨rfl, hb3⟩
    have HP3 := hide (HP2.out.later hb3)
    have HB3 := hide (HB2.out.below hb3)
    clear hb3 HP2 HB2 HE
    go_wp2_with (refine wpList_store_page rfl _ _ rfl w3.heap.size Pg.zero p rfl rfl (show PgAt _ w3.heap.size Pg.zero from heap_alloc_new w3 _) ?_)
    intro w4 hP4 hk
    have hb4 := hk _ _ ((Below.refl w3.heap.size w3).alloc (Nat.le_refl _) _) (Nat.le_refl _)
    have HP4 := hide (HP3.out.later hb4)
    have HB4 := hide (HB3.out.below hb4)
    have HQ4 := hide hP4
    clear hP4 hk hb4 HP3 HB3
    generalize w3.heap.size = gq at *
    go_wp2_with (first | (refine wpList_load_page rfl _ rfl w.heap.size rfl p HP4.out.1 ?_) | (refine wpList_load_page rfl _ rfl gq rfl p HQ4.out ?_) | (refine wpList_binop rfl .neq 27 27 _ _ rfl (.agg (pgA p)) (.agg (pgA p)) (.bool false) rfl rfl (page_guard _ _ _ p p _) (HN.out _) ?_))
    have HE2 := hide (fun (w : World) (hB : IsB w (some ⟨a, 0, none⟩) 256 bs) => dec_any jd _ _ cap _ w hB (by omega) hcap)
    have hj := HD.out.1
    generalize decE jd bs = er at hj HE2
    generalize decP jd bs = q2 at HE2
    have HJ := hide hj
    have HD2 := hide HD.out.2
    clear hj HD
    refine (HE2.out _ HB4.out).mono ?_
    rintro e w5 ⟨rfl, hb5⟩
    have HP5 := hide (HP4.out.later hb5)
    have HB5 := hide (HB4.out.below hb5)
    clear hb5 HP4 HB4 HE2 HQ4 HN
    go_wp2_with (refine wpList_store_page rfl _ _ rfl w5.heap.size Pg.zero q2 rfl rfl (show PgAt _ w5.heap.size Pg.zero from heap_alloc_new w5 _) ?_)
    intro w6 hP6 hk
    have hb6 := hk _ _ ((Below.refl w5.heap.size w5).alloc (Nat.le_refl _) _) (Nat.le_refl _)
    have HP6 := hide (HP5.out.later hb6)
    have HB6 := hide (HB5.out.below hb6)
    clear hP6 hk hb6 HP5 HB5
    generalize w5.heap.size = g5 at *
    have HE3 := hide (fun (w : World) (hB : IsB w (some ⟨a, 0, none⟩) 255 (bs.take 255)) => dec_any id _ _ cap _ w hB (by omega) (by omega))
    rw [HD2.out.1] at HE3
    generalize decP id (bs.take 255) = q3 at HE3
    have HB7 := hide (isB_first HB6.out 255 (by omega))
    go_wp2_with fail
    refine (HE3.out _ HB7.out).mono ?_
    rintro e w7 ⟨rfl, hb7⟩
    have HP7 := hide (HP6.out.later hb7)
    have HB8 := hide (HB6.out.below hb7)
    clear hb7 HP6 HB6 HE3 HB7
    go_wp2_with (refine wpList_store_page rfl _ _ rfl w7.heap.size Pg.zero q3 rfl rfl (show PgAt _ w7.heap.size Pg.zero from heap_alloc_new w7 _) ?_)
    intro w8 hP8 hk
    have hb8 := hk _ _ ((Below.refl w7.heap.size w7).alloc (Nat.le_refl _) _) (Nat.le_refl _)
    have HP8 := hide (HP7.out.later hb8)
    have HB9 := hide (HB8.out.below hb8)
    clear hP8 hk hb8 HP7 HB8
    generalize w7.heap.size = g7 at *
    have hba := (Below.refl w8.heap.size w8).alloc (Nat.le_refl _) (.cells #[.int .u8 0] 5)
    have HBa := hide (And.intro (HB9.out.below hba) (isB_lit w8 #[.int .u8 0] 5 (0, 0) [0] 1 rfl rfl))
    have HPa := hide (HP8.out.later hba)
    clear hba HB9 HP8
    go_wp2_with (refine wpList_append_b _ rfl _ _ 29 rfl 5 Try.underlying29 info8 a 0 256 256 bs rfl HBa.out.1 w8.heap.size 0 1 1 [0] rfl HBa.out.2 (by omega) (by omega) ?_)
    intro v9 w9 hown9 hg9
    have hb9 : Below (w8.alloc (.cells #[.int .u8 0] 5)).heap.size (w8.alloc (.cells #[.int .u8 0] 5)) w9 := (Below.refl _ _).grown hg9 (Nat.le_refl _) (fun k hk => nomatch hk)
    have HP9 := hide (HPa.out.later hb9)
    obtain ⟨a9, cap9, hv9, hcap9, hB9⟩ := shape_isB hown9
    rw [hv9]
    have HB9 := hide hB9
    clear hown9 hg9 hb9 HPa HBa hB9 hv9
    have HE4 := hide (fun (w : World) (hB : IsB w a9 257 (bs ++ [0])) => dec_any id _ _ cap9 _ w hB (by omega) hcap9)
    rw [HD2.out.2] at HE4
    generalize decP id (bs ++ [0]) = q4 at HE4
    clear HD2
    go_wp2_with fail
    refine (HE4.out _ HB9.out).mono ?_
    rintro e w10 ⟨rfl, hb10⟩
    have HP10 := hide (HP9.out.later hb10)
    clear hb10 HP9 HB9 HE4
    go_wp2_with (refine wpList_store_page rfl _ _ rfl w10.heap.size Pg.zero q4 rfl rfl (show PgAt _ w10.heap.size Pg.zero from heap_alloc_new w10 _) ?_)
    intro w11 hP11 hk
    have hb11 := hk _ _ ((Below.refl w10.heap.size w10).alloc (Nat.le_refl _) _) (Nat.le_refl _)
    have hf := (HP10.out.later hb11).2.1
    clear hP11 hk hb11 HP10
    generalize w10.heap.size = g10 at *
    have hj := HJ.out
    clear HJ
    by_cases hij : jd = id
    · have h0 := hj.2 hij
      subst h0 hij
      clear hj
      go_wp2
      go_ret
      exact ⟨rfl, hf⟩
    · have h0 : ¬ er = 0 := fun h => hij (hj.1 h)
      have h1 : (er == 0) = false := by simpa using h0
      have h2 : (jd == id) = false := by simpa using hij
      clear hj
      go_wp2
      go_ret
      exact ⟨rfl, hf⟩
  · obtain ⟨a2, cap2, hv, hcap2, hB2⟩ := shape_isB hown2
    rw [hv]
    clear hown2 hb2 HP1 hv
    rw [enc_no id p h1]
    clear hB2 hcap2
    have R := fun w => right_any p w
    by_cases hr : p.right
    · rw [decide_eq_true hr] at R
      have HR := hide R
      by_cases h2 : id < 0
      · clear h1 R hr
        go_wp2_with (refine wpList_load_page rfl _ rfl w.heap.size rfl p HP2.out.1 ?_)
        refine (HR.out _).mono ?_
        rintro e w3 ⟨rfl, hb3⟩
        have hf := (HP2.out.later hb3).2.1
        clear HP2 HR hb3
        go_wp2
        go_ret
        exact ⟨rfl, hf⟩
      · have h3 : (32 : Int) ≤ id := by
          rcases Int.lt_or_le id 32 with h | h
          · exact absurd ⟨by omega, by omega, hr⟩ h1
          · exact h
        clear h1 R hr
        go_wp2_with (refine wpList_load_page rfl _ rfl w.heap.size rfl p HP2.out.1 ?_)
        refine (HR.out _).mono ?_
        rintro e w3 ⟨rfl, hb3⟩
        have hf := (HP2.out.later hb3).2.1
        clear HP2 HR hb3
        go_wp2
        go_ret
        exact ⟨rfl, hf⟩
    · rw [decide_eq_false hr] at R
      have HR := hide R
      clear h1 R hr
      go_wp2_with (refine wpList_load_page rfl _ rfl w.heap.size rfl p HP2.out.1 ?_)
      refine (HR.out _).mono ?_
      rintro e w3 ⟨rfl, hb3⟩
      have hf := (HP2.out.later hb3).2.1
      clear HP2 HR hb3
      go_wp2
      go_ret
      exact ⟨rfl, hf⟩

theorem walk (a0 a1 : Int) (p : Pg) (w : World) (w0 : (Lit.int .i64 a0).wf = true) (w1 : (Lit.int .i64 a1).wf = true) (hp : p.fits) :
    Calls Try.prog 5 #[.int .i64 a0, .int .i64 a1, .agg (pgA p)] w fun e w' => e = .returned (.bool true) ∧ Below w.heap.size w w' := core a0 a1 p w hp
end Go.Proofs.Ytkbigineepohnaa.pageBack
