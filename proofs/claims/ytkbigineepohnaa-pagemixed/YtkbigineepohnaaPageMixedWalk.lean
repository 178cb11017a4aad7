/-
  The walk of PageMixed: it returns true, and turns nothing that was there.
-/
import Derived.Test.YtkbigineepohnaaPageAwake
import Derived.Test.YtkbigineepohnaaPageCode
import Derived.Test.YtkbigineepohnaaPageKept
import Derived.Test.YtkbigineepohnaaPageImg
import Derived.Test.YtkbigineepohnaaPageBackWalk
import Derived.Test.YtkbigineepohnaaQuietIn
import Derived.Test.YtkbigineepohnaaAppendB
import Derived.OpenShut
namespace Go.Proofs.Ytkbigineepohnaa.pageMixed
open Go.RowKit pageBack
set_option linter.unusedVariables false

theorem mixed_torn (id jd : Nat) (p q : Pg) (hp : p.right) (hq : q.right) (h : p.l ≠ q.l) : tornB ((imageB id p).take 128 ++ (imageB jd q).drop 128) = true := by
  have lp := imageB_length id p hp
  have lq := imageB_length jd q hq
  have h1 := (image_parts id p hp).1
  have h2 := (image_parts jd q hq).2.1
  have l1 : ((imageB id p).take 128).length = 128 := by rw [List.length_take]; omega
  have e1 : ((imageB id p).take 128 ++ (imageB jd q).drop 128).take 8 = beB 8 p.l := by
    rw [List.take_append_of_le_length (by omega), List.take_take, ← h1]
    rfl
  have e2 : (((imageB id p).take 128 ++ (imageB jd q).drop 128).drop 128).take 8 = beB 8 q.l := by
    rw [List.drop_left' l1]
    exact h2
  unfold tornB
  rw [e1, e2]
  refine decide_eq_true ⟨by rw [List.length_append, l1, List.length_drop]; omega, fun e => h ?_⟩
  have a1 := hp.1
  have a2 := hq.1
  unfold maxP at a1 a2
  have e8 : 256 ^ 8 = 18446744073709551616 := by decide
  have b1 := be_beB 8 p.l (by omega)
  rw [e, be_beB 8 q.l (by omega)] at b1
  exact b1.symm

theorem stamp_torn (bs : List UInt8) (h : tornB bs = true) : stampB bs = (0, false) := by unfold stampB; rw [h]; simp

theorem three_later {x y : World} {a b c : Option Addr} {l m n : Nat} {A B C : List UInt8} (h : IsB x a l A ∧ IsB x b m B ∧ IsB x c n C) (hb : Below x.heap.size x y) : IsB y a l A ∧ IsB y b m B ∧ IsB y c n C := ⟨h.1.below hb, h.2.1.below hb, h.2.2.below hb⟩

set_option maxRecDepth 4000 in
set_option maxHeartbeats 3200000 in
theorem core (id jd : Int) (p q : Pg) (w : World) :
    Calls Try.prog 8 #[.int .i64 id, .int .i64 jd, .agg (pgA p), .agg (pgA q)] w fun e w' => e = .returned (.bool true) ∧ Below w.heap.size w w' := by
  go_enter Try.func8, Try.ntmps8
  go_wp2_with fail
  have HP := hide (Pair.new w p q)
  obtain ⟨k, hk⟩ : ∃ k, k = w.heap.size + 1 := ⟨_, rfl⟩
  rw [← hk] at HP ⊢
  refine gen_calls (fun x => Hid (Pair w w.heap.size k p q x)) HP ?_
  clear HP hk
  intro w0 HP
  refine (awake_any _).mono ?_
  rintro e w1 ⟨rfl, hb1⟩
  have HP1 := hide (HP.out.later hb1)
  clear HP hb1
  go_wp2_with (refine wpList_load_page rfl _ rfl w.heap.size rfl p HP1.out.1 ?_)
  refine (enc_any id p _).mono ?_
  rintro e w2 ⟨v, rfl, hown2, hb2⟩
  have HP2 := hide (HP1.out.later hb2)
  obtain ⟨a2, cap2, hv, hcap2, hB2⟩ := shape_isB hown2
  rw [hv]
  clear hown2 hb2 HP1 hv
  go_wp2_with (refine wpList_load_page rfl _ rfl k rfl q HP2.out.2.1 ?_)
  refine (enc_any jd q _).mono ?_
  rintro e w3 ⟨v3, rfl, hown3, hb3⟩
  have HP3 := hide (HP2.out.later hb3)
  obtain ⟨a3, cap3, hv3, hcap3, hB3⟩ := shape_isB hown3
  rw [hv3]
  have hB4 := hB2.below hb3
  clear hb3 HP2 hB2 hown3 hv3
  have cl := HP3.out.1.lsn
  have cm := HP3.out.2.1.lsn
  have hf := HP3.out.2.2.1
  by_cases h1 : 0 ≤ id ∧ id ≤ 31 ∧ p.right
  · by_cases h2 : 0 ≤ jd ∧ jd ≤ 31 ∧ q.right
    · by_cases hl : p.l = q.l
      · have hli : (p.l : Int) = (q.l : Int) := by omega
        rw [enc_yes id p h1, enc_yes jd q h2]
        rw [← hl] at cm
        clear hB3 hB4 h1 h2 HP3 hli hl
        go_wp2
        go_ret
        exact ⟨rfl, hf⟩
      · rw [enc_yes id p h1] at hB4 hcap2 ⊢
        rw [enc_yes jd q h2] at hB3 hcap3 ⊢
        have hli : ((p.l : Int) == (q.l : Int)) = false := by simp; omega
        have HM := hide (mixed_torn id.toNat jd.toNat p q h1.2.2 h2.2.2 hl)
        have HT1 := hide (torn_image id.toNat p h1.2.2)
        have HT2 := hide (torn_image jd.toNat q h2.2.2)
        simp only at hB3 hB4 hcap2 hcap3 ⊢
        rw [imageB_length _ _ h1.2.2] at hB4 hcap2 ⊢
        rw [imageB_length _ _ h2.2.2] at hB3 hcap3 ⊢
        have hid : 0 ≤ id ∧ id ≤ 31 := ⟨h1.1, h1.2.1⟩
        have HID := hide hid
        clear h1 h2 hl hid
        generalize imageB id.toNat p = L at *
        generalize imageB jd.toNat q = M at *
        obtain ⟨b2, o2, rfl, hlt2, hc2⟩ := hB4.2 (by omega)
        obtain ⟨b3, o3, rfl, hlt3, hc3⟩ := hB3.2 (by omega)
        have hB5 := isB_first hB4 128 (by omega)
        have hB6 := IsB.cut hB3.1 hlt3 hc3 128 128 (by omega)
        rw [List.take_of_length_le (by rw [List.length_drop, hB3.1]; omega)] at hB6
        have HB := hide (And.intro hB4 (And.intro hB3 (And.intro hB5 hB6)))
        clear hB3 hB4 hB5 hB6 hc2 hc3 hlt2 hlt3 HP3
        generalize p.l = pl at *
        generalize q.l = ql at *
        have HBd : Hid (IsB w3.drew (some ⟨b2, o2, none⟩) 128 (L.take 128) ∧ IsB w3.drew (some ⟨b3, o3 + 128, none⟩) 128 (M.drop 128)) := ⟨HB.out.2.2.1, HB.out.2.2.2⟩
        have i1 : (128 : Int) ≤ (cap2 : Int) := by omega
        have i2 : (128 : Int) ≤ (cap3 : Int) := by omega
        have i3 : (256 : Int) ≤ (cap3 : Int) := by omega
        have i4 : (256 : Int) ≤ (cap2 : Int) := by omega
        go_wp2_with fail
        go_region_law (refine step_append_b rfl _ _ 29 rfl 5 Try.underlying29 info8 b2 o2 128 128 (L.take 128) ?h1 HBd.out.1 b3 (o3 + 128) 128 (cap3 - 128) (M.drop 128) ?h2 HBd.out.2 (by omega) (by omega) ?_; (case h1 => simp [Act.eval, Act.put]); (case h2 => simp [Act.eval, Act.put]; omega); intro v4 w4 hown4 hg4)
        obtain ⟨a4, cap4, hv4, hcap4, hB4⟩ := shape_isB hown4
        rw [hv4]
        have hb4 : Below w3.heap.size w3 w4 := ((Below.refl w3.heap.size w3).grown (w' := w4) ⟨hg4.1, hg4.2, hg4.3, hg4.4, hg4.5⟩ (Nat.le_refl _) (fun k hk => nomatch hk))
        have HB4 := hide (And.intro hB4 (And.intro (HB.out.1.below hb4) (HB.out.2.1.below hb4)))
        have hf4 := hf.trans (hb4.mono hf.size)
        clear hown4 hg4 hv4 hB4 HB HBd hb4 hf cl cm
        have hml : ∀ (a : Option Addr) (cap : Nat) (w : World), IsB w a 256 (L.take 128 ++ M.drop 128) → 256 ≤ cap → _ := fun a cap w hB hc => dec_any id a 256 cap _ w hB (by omega) hc
        rw [dec_torn id _ HID.out HM.out] at hml
        have HE := hide hml
        have hst : ∀ (a : Option Addr) (cap : Nat) (w : World), IsB w a 256 (L.take 128 ++ M.drop 128) → 256 ≤ cap → _ := fun a cap w hB hc => stamp_any a 256 cap _ w hB (by omega) hc
        rw [stamp_torn _ HM.out] at hst
        have HST := hide hst
        have ht0 : ∀ (a : Option Addr) (cap : Nat) (w : World), IsB w a 256 (L.take 128 ++ M.drop 128) → 256 ≤ cap → _ := fun a cap w hB hc => torn_any a 256 cap _ w hB (by omega) hc
        rw [HM.out] at ht0
        have HT0 := hide ht0
        have ht1 : ∀ (a : Option Addr) (cap : Nat) (w : World), IsB w a 256 L → 256 ≤ cap → _ := fun a cap w hB hc => torn_any a 256 cap _ w hB (by omega) hc
        rw [HT1.out] at ht1
        have HTa := hide ht1
        have ht2 : ∀ (a : Option Addr) (cap : Nat) (w : World), IsB w a 256 M → 256 ≤ cap → _ := fun a cap w hB hc => torn_any a 256 cap _ w hB (by omega) hc
        rw [HT2.out] at ht2
        have HTb := hide ht2
        generalize decP id (L.take 128 ++ M.drop 128) = q4 at HE
        generalize L.take 128 ++ M.drop 128 = X at *
        clear hml hst ht0 ht1 ht2 HM HT1 HT2 HID
        go_wp2_with fail
        refine (HE.out _ _ _ HB4.out.1 hcap4).mono ?_
        rintro e w5 ⟨rfl, hb5⟩
        have HB5 := hide (three_later HB4.out hb5)
        have hf5 := hf4.trans (hb5.mono hf4.size)
        clear hb5 hf4 HB4 HE
        go_wp2_with (refine wpList_store_page rfl _ _ rfl w5.heap.size Pg.zero q4 rfl rfl (show PgAt _ w5.heap.size Pg.zero from heap_alloc_new w5 _) ?_)
        intro w6 hP6 hk
        have hb6 := hk _ _ ((Below.refl w5.heap.size w5).alloc (Nat.le_refl _) _) (Nat.le_refl _)
        have HB6 := hide (three_later HB5.out hb6)
        have hf6 := hf5.trans (hb6.mono hf5.size)
        clear hP6 hk hb6 HB5 hf5
        generalize w5.heap.size = g5 at *
        go_wp2_with fail
        refine (HST.out _ _ _ HB6.out.1 hcap4).mono ?_
        rintro e w7 ⟨rfl, hb7⟩
        have HB7 := hide (three_later HB6.out hb7)
        have hf7 := hf6.trans (hb7.mono hf6.size)
        clear hb7 HB6 hf6 HST
        go_wp2_with fail
        refine (HT0.out _ _ _ HB7.out.1 hcap4).mono ?_
        rintro e w8 ⟨rfl, hb8⟩
        have HB8 := hide (three_later HB7.out hb8)
        have hf8 := hf7.trans (hb8.mono hf7.size)
        clear hb8 HB7 hf7 HT0
        go_wp2_with fail
        refine (HTa.out _ _ _ HB8.out.2.1 hcap2).mono ?_
        rintro e w9 ⟨rfl, hb9⟩
        have HB9 := hide (three_later HB8.out hb9)
        have hf9 := hf8.trans (hb9.mono hf8.size)
        clear hb9 HB8 hf8 HTa
        go_wp2_with fail
        refine (HTb.out _ _ _ HB9.out.2.2 hcap3).mono ?_
        rintro e w10 ⟨rfl, hb10⟩
        have hf10 := hf9.trans (hb10.mono hf9.size)
        clear hb10 HB9 hf9 HTb
        go_wp2
        go_ret
        exact ⟨rfl, hf10⟩
    · rw [enc_no jd q h2, enc_yes id p h1]
      clear hB3 hB4 h1 h2 HP3 hcap2 hcap3
      go_wp2
      go_ret
      exact ⟨rfl, hf⟩
  · rw [enc_no id p h1]
    clear hB3 hB4 h1 HP3 hcap2 hcap3
    go_wp2
    go_ret
    exact ⟨rfl, hf⟩

theorem walk (a0 a1 : Int) (p q : Pg) (w : World) (w0 : (Lit.int .i64 a0).wf = true) (w1 : (Lit.int .i64 a1).wf = true) (hp : p.fits) (hq : q.fits) :
    Calls Try.prog 8 #[.int .i64 a0, .int .i64 a1, .agg (pgA p), .agg (pgA q)] w fun e w' => e = .returned (.bool true) ∧ Below w.heap.size w w' := core a0 a1 p q w
end Go.Proofs.Ytkbigineepohnaa.pageMixed
