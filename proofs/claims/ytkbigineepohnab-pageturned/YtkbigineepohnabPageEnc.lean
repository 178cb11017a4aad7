/-
  The contract of package page's Encode.
-/
import Derived.Test.YtkbigineepohnabPageRight
import Derived.Test.YtkbigineepohnabPagePlain
import Derived.Test.YtkbigineepohnabSumCode
import Derived.Deep.RegionHeld3
namespace Go.Proofs.Ytkbigineepohnab
open Go.RowKit
set_option linter.unusedVariables false

set_option maxHeartbeats 400000 in
theorem sector_any (a : Option Addr) (len cap st : Nat) (bs : List UInt8) (g off m c : Nat) (ys : List UInt8) (w : World) (hB : IsB w a len bs) (hl : len ≤ 1000) (hst : st < 18446744073709551616) (hm : m ≤ 1000) (hY : IsB w (some ⟨g, off, none⟩) m ys) :
    Calls Try.prog 11 #[.slice a len cap, .int .u64 st, .slice (some ⟨g, off, none⟩) m c] w fun e w' => ∃ v, e = .returned v ∧ w'.ownsRow w.heap.size 5 1 v (len + 8 + m) (toV (bs ++ beB 8 st ++ ys)) ∧ Below w.heap.size w w' := by
  have H1 := hide (put_ok a len cap 8 st bs w hB (by omega) (by omega) (by omega) (by have e : 256 ^ 8 = 18446744073709551616 := by decide
                                                                                      omega))
  have HY := hide hY
  clear hB hY
  go_enter Try.func11, Try.ntmps11
  go_wp2_with fail
  refine H1.out.mono ?_
  rintro e w1 ⟨rfl, hown1, hb1⟩
  have HO1 := hide hown1
  have HY1 := hide (HY.out.below hb1)
  clear hown1 HY H1
  obtain ⟨xs, hxs⟩ : ∃ xs, xs = bs ++ beB 8 st := ⟨_, rfl⟩
  rw [← hxs] at HO1
  have HX := hide hxs
  clear hxs
  go_wp2_with (at_builtin; refine wpList_append_ob _ rfl (.tmp 15) (.tmp 16) 31 rfl 5 Try.underlying31 info8 w.heap.size _ (len + 8) _ rfl HO1.out _ m c _ rfl HY1.out (fun h => nomatch h) (by omega) hb1.size ?_)
  intro v2 w2 hown2 hg2
  have d2 := hb1.grown hg2 hb1.size (fun k hk => (HO1.out.lt k hk).1)
  have HO2 := hide hown2
  clear hown2 hg2 hb1 HO1 HY1
  go_wp2
  go_ret
  exact ⟨_, rfl, by rw [← HX.out]; exact HO2.out, d2⟩

set_option maxHeartbeats 400000 in
theorem enc_id (id : Int) (p : Pg) (w : World) (h : ¬ (0 ≤ id ∧ id ≤ 31)) :
    Calls Try.prog 5 #[.int .i64 id, .agg (pgA p)] w fun e w' => e = .returned (.tuple #[.slice none 0 0, .int .i64 1]) ∧ Below w.heap.size w w' := by
  have hb0 : Below w.heap.size w (w.alloc (.cells (pgA p) 27)) := (Below.refl _ _).alloc (Nat.le_refl _) _
  have R := fun w => rightID_any id w
  rw [decide_eq_false h] at R
  have HR := hide R
  clear R h
  go_enter Try.func5, Try.ntmps5
  go_wp2_with fail
  refine (HR.out _).mono ?_
  rintro e w1 ⟨rfl, rfl⟩
  go_wp2
  go_ret2
  exact ⟨rfl, hb0⟩

set_option maxHeartbeats 400000 in
theorem enc_wrong (id : Int) (p : Pg) (w : World) (h : 0 ≤ id ∧ id ≤ 31) (hp : ¬ p.right) :
    Calls Try.prog 5 #[.int .i64 id, .agg (pgA p)] w fun e w' => e = .returned (.tuple #[.slice none 0 0, .int .i64 1]) ∧ Below w.heap.size w w' := by
  have hP : PgAt (w.alloc (.cells (pgA p) 27)) w.heap.size p := heap_alloc_new w _
  have hb0 : Below w.heap.size w (w.alloc (.cells (pgA p) 27)) := (Below.refl _ _).alloc (Nat.le_refl _) _
  have R := fun w => rightID_any id w
  rw [decide_eq_true h] at R
  have HR := hide R
  have S := fun w => right_any p w
  rw [decide_eq_false hp] at S
  have HS := hide S
  have HP := hide hP
  clear R S h hP hp
  go_enter Try.func5, Try.ntmps5
  go_wp2_with fail
  refine (HR.out _).mono ?_
  rintro e w1 ⟨rfl, rfl⟩
  go_wp2_with (refine wpList_load_page rfl (.tmp 3) rfl w.heap.size rfl p HP.out ?_)
  refine (HS.out _).mono ?_
  rintro e w2 ⟨rfl, hb2⟩
  have d2 := hb0.trans (hb2.mono hb0.size)
  clear hb0 hb2 HS HP HR
  go_wp2
  go_ret2
  exact ⟨rfl, d2⟩

theorem img_parts (id : Nat) (p : Pg) : [] ++ beB 8 p.l ++ (taleB id p).take 120 ++ beB 8 p.l ++ (taleB id p).drop 120 = imageB id p := by simp [imageB]

set_option maxHeartbeats 800000 in
theorem enc_right (id : Nat) (p : Pg) (w : World) (h : id < 32) (hp : p.right) :
    Calls Try.prog 5 #[.int .i64 id, .agg (pgA p)] w fun e w' => ∃ v, e = .returned (.tuple #[v, .int .i64 0]) ∧ w'.ownsRow w.heap.size 5 1 v 256 (toV (imageB id p)) ∧ Below w.heap.size w w' := by
  have hP : PgAt (w.alloc (.cells (pgA p) 27)) w.heap.size p := heap_alloc_new w _
  have hb0 : Below w.heap.size w (w.alloc (.cells (pgA p) 27)) := (Below.refl _ _).alloc (Nat.le_refl _) _
  have R := fun w => rightID_any id w
  rw [decide_eq_true (show 0 ≤ (id : Int) ∧ (id : Int) ≤ 31 by omega)] at R
  have HR := hide R
  have S := fun w => right_any p w
  rw [decide_eq_true hp] at S
  have HS := hide S
  have HL := hide (fun w => plain_any id p w h hp)
  have hst : p.l < 18446744073709551616 := by
    have := hp.1
    unfold maxP at this
    omega
  have hlen := taleB_length id p hp
  have HP := hide hP
  clear R S hP hp
  go_enter Try.func5, Try.ntmps5
  go_wp2_with fail
  refine (HR.out _).mono ?_
  rintro e w1 ⟨rfl, rfl⟩
  go_wp2_with (refine wpList_load_page rfl (.tmp 3) rfl w.heap.size rfl p HP.out ?_)
  refine (HS.out _).mono ?_
  rintro e w2 ⟨rfl, hb2⟩
  have d2 := hb0.trans (hb2.mono hb0.size)
  have HP2 := hide (HP.out.below hb2 (by simp))
  clear hb0 hb2 HS HP HR
  go_wp2_with (refine wpList_load_cs rfl (.tmp 17) rfl w.heap.size rfl p HP2.out ?_)
  refine (HL.out _).mono ?_
  rintro e w3 ⟨v3, rfl, hown3, hb3⟩
  obtain ⟨a3, cap3, rfl, hcap3, hB3⟩ := shape_isB hown3
  have d3 := d2.trans (hb3.mono d2.size)
  have HP3 := hide (HP2.out.below hb3 (Array.getElem?_eq_some_iff.1 HP2.out).1)
  have HSl := hide (seal_any a3 236 cap3 (bodyB id p) w3 hB3 (by omega))
  clear hb3 d2 HP2 HL hown3 hB3 hcap3
  go_wp2_with fail
  refine HSl.out.mono ?_
  rintro e w4 ⟨v4, rfl, hown4, hb4⟩
  have hown4' : w4.ownsRow w3.heap.size 5 1 v4 240 (toV (taleB id p)) := hown4
  obtain ⟨g4, cap4, rfl, hg4⟩ := own_slice hown4' (by omega)
  have hc4 := own_cap hown4'
  have i1 : (120 : Int) ≤ (cap4 : Int) := by omega
  have i2 : (240 : Int) ≤ (cap4 : Int) := by omega
  have i3 : ¬ cap4 = 120 := by omega
  have hB4 := hown4'.isB hlen
  have d4 := d3.trans (hb4.mono d3.size)
  have HP4 := hide (HP3.out.below hb4 (Array.getElem?_eq_some_iff.1 HP3.out).1)
  obtain ⟨b', o', he', hlt', hcell'⟩ := hB4.2 (by omega)
  cases he'
  have HB1 := hide (show IsB w4 (some ⟨g4, 0, none⟩) 120 ((taleB id p).take 120) from by simpa using IsB.cut hB4.1 hlt' hcell' 0 120 (by omega))
  have HB2 := hide (show IsB w4 (some ⟨g4, 120, none⟩) 120 ((taleB id p).drop 120) from by
    have h1 := IsB.cut hB4.1 hlt' hcell' 120 120 (by omega)
    rw [List.take_of_length_le (by rw [List.length_drop]; omega), Nat.zero_add] at h1
    exact h1)
  have HI := hide (img_parts id p)
  have hlt4 : w.heap.size < w4.heap.size := (Array.getElem?_eq_some_iff.1 HP4.out).1
  have c4 := HP4.out.lsn
  clear hb4 d3 HP3 HSl hown4 hown4' hB4 hcell' hlen HP4
  clear hg4
  generalize (taleB id p).take 120 = t1 at *
  generalize (taleB id p).drop 120 = t2 at *
  generalize p.l = st at *
  go_wp2_with fail
  go_region_held3 (fun x => x.cell? ⟨w.heap.size, 0, none⟩ = some (.int .u64 st)) (go_keep)
    (first | (go_at_call 11; refine (sector_any none 0 0 st [] g4 0 120 cap4 t1 _ (IsB.nil _) (by omega) hst (by omega) (isB_drewN (k := 1) HB1.out)).mono ?_; rintro e w5 ⟨v5, rfl, hown5, hb5⟩; have c5 : w5.cell? ⟨w.heap.size, 0, none⟩ = some (.int .u64 st) := (hb5.cell hlt4).trans c4; obtain ⟨a5, cap5, rfl, hcap5, hB5⟩ := shape_isB hown5))
  have d5 := d4.trans (Below.mono (show Below w4.heap.size w4 w5 from ⟨hb5.1, hb5.2, hb5.3, hb5.4, hb5.5⟩) d4.size)
  have HB25 := hide (IsB.below (isB_drewN (k := 1) HB2.out) hb5)
  have HB5 := hide hB5
  have hlt5 : w.heap.size < w5.heap.size := Nat.lt_of_lt_of_le hlt4 hb5.size
  clear hown5 hb5 hB5 HB1 HB2 c4 d4 hlt4
  go_wp2_with fail
  go_region_held3 (fun x => x.cell? ⟨w.heap.size, 0, none⟩ = some (.int .u64 st)) (go_keep)
    (first | (go_at_call 11; refine (sector_any a5 (0 + 8 + 120) cap5 st _ g4 120 120 (cap4 - 120) t2 _ (isB_drewN (k := 1) HB5.out) (by omega) hst (by omega) (isB_drewN (k := 1) HB25.out)).mono ?_; rintro e w6 ⟨v6, rfl, hown6, hb6⟩; have c6 : w6.cell? ⟨w.heap.size, 0, none⟩ = some (.int .u64 st) := (hb6.cell hlt5).trans c5))
  have d6 := d5.trans (Below.mono (show Below w5.heap.size w5 w6 from ⟨hb6.1, hb6.2, hb6.3, hb6.4, hb6.5⟩) d5.size)
  have ho6 := ownsRow_down hown6 d5.size
  rw [HI.out] at ho6
  have HO6 := hide ho6
  clear hown6 hb6 ho6 c5 c6 HB5 HB25
  go_wp2
  go_ret2
  exact ⟨_, rfl, HO6.out, d6⟩

/-- THE CONTRACT. -/
theorem enc_any (id : Int) (p : Pg) (w : World) :
    Calls Try.prog 5 #[.int .i64 id, .agg (pgA p)] w fun e w' => ∃ v, e = .returned (.tuple #[v, .int .i64 (encB id p).2]) ∧ w'.ownsRow w.heap.size 5 1 v (encB id p).1.length (toV (encB id p).1) ∧ Below w.heap.size w w' := by
  by_cases h : 0 ≤ id ∧ id ≤ 31
  · by_cases hp : p.right
    · have e : encB id p = (imageB id.toNat p, 0) := by unfold encB; rw [if_pos ⟨h.1, h.2, hp⟩]
      rw [e, imageB_length id.toNat p hp]
      obtain ⟨n, rfl⟩ := Int.eq_ofNat_of_zero_le h.1
      exact enc_right n p w (by omega) hp
    · have e : encB id p = ([], 1) := by unfold encB; rw [if_neg (fun g => hp g.2.2)]
      rw [e]
      exact (enc_wrong id p w h hp).mono fun e w' ⟨he, hb⟩ => ⟨_, he, World.ownsRow_nil _ _ _ _, hb⟩
  · have e : encB id p = ([], 1) := by unfold encB; rw [if_neg (fun g => h ⟨g.1, g.2.1⟩)]
    rw [e]
    exact (enc_id id p w h).mono fun e w' ⟨he, hb⟩ => ⟨_, he, World.ownsRow_nil _ _ _ _, hb⟩
end Go.Proofs.Ytkbigineepohnab
