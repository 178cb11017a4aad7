/-
  The walk of PageDecodes: it returns true, and turns nothing that was there.
-/
import Derived.Test.YtkbigineepohnaaPageAwake
import Derived.Test.YtkbigineepohnaaPageCode
import Derived.Test.YtkbigineepohnaaPageRefDecode3
import Derived.Test.YtkbigineepohnaaPageEq
import Derived.Test.YtkbigineepohnaaPageKept
import Derived.Test.YtkbigineepohnaaQuietIn
import Derived.OpenShut
namespace Go.Proofs.Ytkbigineepohnaa.pageDecodes
open Go.RowKit
set_option linter.unusedVariables false

/-- Two pages that the call keeps. -/
def Both (B : Nat) (w : World) (g k : Nat) (p : Pg) (x : World) : Prop := Kept B w g p x ∧ PgAt x k p
theorem Both.later {B g k : Nat} {w x y : World} {p : Pg} (h : Both B w g k p x) (hb : Below x.heap.size x y) : Both B w g k p y := ⟨h.1.later hb, h.2.below hb h.2.lt⟩
theorem Both.drew {B g k : Nat} {w x : World} {p : Pg} (h : Both B w g k p x) : Both B w g k p x.drew := ⟨h.1.drew, h.2⟩

/-- What bytes tell can be on a machine. -/
theorem dec_fits (id : Int) (bs : List UInt8) (hl : bs.length ≤ 140737488351232) : (decP id bs).fits := by
  unfold decP
  split
  · rename_i h
    refine ⟨?_, fun i hi => ?_⟩
    · show beAt bs 0 8 < 18446744073709551616
      exact beAt_lt bs 0 8 (by omega)
    · show (cutAt (taleOf bs) i).size ≤ maxLen
      unfold cutAt taleOf
      rw [size_mk]
      simp only [List.length_take, List.length_drop, List.length_append]
      unfold maxLen
      omega
  · exact ⟨by decide, fun i _ => by show (0 : Nat) ≤ maxLen; omega⟩

set_option maxRecDepth 4000 in
set_option maxHeartbeats 3200000 in
theorem core (id : Int) (s : ByteArray) (w : World) (hz : s.size ≤ 140737488351232) :
    Calls Try.prog 4 #[.int .i64 id, .string s] w fun e w' => e = .returned (.bool true) ∧ Below w.heap.size w w' := by
  have hcv := fun w => Lib.run_convert_string_bytes (P := Try.prog) w 9 29 5 s Try.underlying9 Try.underlying29 Try.underlying5
  have HFit := hide (dec_fits id s.data.toList (by rw [data_length]; exact hz))
  go_enter Try.func4, Try.ntmps4
  go_wp2_with fail
  refine (awake_any _).mono ?_
  rintro e w1 ⟨rfl, hb1⟩
  go_wp2_with fail
  refine (dec_any id _ _ _ s.data.toList _ (isB_conv w1 _ s) (by omega) (grownCap_ge ..)).mono ?_
  rintro e w2 ⟨rfl, hb2⟩
  have c1 := hb1.trans ((below_conv w1 5 s).mono hb1.size)
  have c2 := c1.trans (hb2.mono c1.size)
  clear hb1 hb2 c1
  have HR := hide (fun w => rdec_any id s w (by omega))
  generalize decE id s.data.toList = er at *
  generalize decP id s.data.toList = q at *
  go_wp2_with (refine wpList_store_page rfl _ _ rfl w2.heap.size Pg.zero q rfl rfl (show PgAt _ w2.heap.size Pg.zero from heap_alloc_new w2 _) ?_)
  intro w3 hP3 hk
  have HK : Hid (Kept w.heap.size w w2.heap.size q w3) := ⟨hP3, hk _ _ (c2.alloc c2.size _) c2.size, c2.size⟩
  clear hP3 hk c2
  generalize w2.heap.size = gp at *
  go_wp2_with fail
  refine (HR.out _).mono ?_
  rintro e w4 ⟨rfl, hb4⟩
  have HK4 := hide (HK.out.later hb4)
  clear HK HR hb4
  go_wp2_with (refine wpList_store_page rfl _ _ rfl w4.heap.size Pg.zero q rfl rfl (show PgAt _ w4.heap.size Pg.zero from heap_alloc_new w4 _) ?_)
  intro w5 hP5 hk
  have hb5 := hk _ _ ((Below.refl w4.heap.size w4).alloc (Nat.le_refl _) _) (Nat.le_refl _)
  have HK5 : Hid (Both w.heap.size w gp w4.heap.size q w5) := ⟨HK4.out.later hb5, hP5⟩
  clear hP5 hk hb5 HK4
  generalize w4.heap.size = gk at *
  have HS := hide (fun (w : World) => stamp_any _ _ (grownCap w s.size 0 5) s.data.toList _ (isB_conv w 5 s) (by omega) (grownCap_ge ..))
  have HRS := hide (fun w => rstamp_any s w (by omega))
  generalize stampB s.data.toList = sb at *
  obtain ⟨sn, so⟩ := sb
  go_wp2_with fail
  refine (HS.out w5).mono ?_
  rintro e w6 ⟨rfl, hb6⟩
  have hb7 : Below w5.heap.size w5 w6 := (below_conv w5 5 s).trans (hb6.mono (below_conv w5 5 s).size)
  have HK6 := hide (HK5.out.later hb7)
  clear hb6 hb7 HK5 HS
  go_wp2_with fail
  refine (HRS.out _).mono ?_
  rintro e w7 ⟨rfl, m, rfl⟩
  have HK7 : Hid (Both w.heap.size w gp gk q (w6.drewN m)) := ⟨⟨HK6.out.1.1, below_dn HK6.out.1.2.1 m, HK6.out.1.2.2⟩, HK6.out.2⟩
  clear HK6 HRS
  generalize w6.drewN m = w7 at *
  have HEQ := hide (run_page_eql q q HFit.out HFit.out w7)
  rw [decide_eq_true (Pg.same.refl q)] at HEQ
  have HT := hide (fun (w : World) => torn_any _ _ (grownCap w s.size 0 5) s.data.toList _ (isB_conv w 5 s) (by omega) (grownCap_ge ..))
  have HRT := hide (fun w => rtorn_any s w (by omega))
  generalize tornB s.data.toList = tb at *
  clear HFit
  go_wp2_with (first | (refine wpList_load_page rfl _ rfl gp rfl q HK7.out.1.1 ?_) | (refine wpList_load_page rfl _ rfl gk rfl q HK7.out.2 ?_) | (refine wpList_binop rfl .eql 27 27 _ _ rfl (.agg (pgA q)) (.agg (pgA q)) (.bool true) rfl rfl (page_guard _ _ _ q q _) HEQ.out ?_))
  refine (HT.out w7).mono ?_
  rintro e w8 ⟨rfl, hb8⟩
  have hb9 : Below w7.heap.size w7 w8 := (below_conv w7 5 s).trans (hb8.mono (below_conv w7 5 s).size)
  have hf := (HK7.out.later hb9).1.2.1
  clear hb8 hb9 HK7 HT HEQ
  go_wp2_with fail
  refine (HRT.out _).mono ?_
  rintro e w9 ⟨rfl, m9, rfl⟩
  clear HRT
  go_wp2
  go_ret
  exact ⟨rfl, below_dn hf m9⟩

theorem walk (a0 : Int) (a1 : ByteArray) (w0 : (Lit.int .i64 a0).wf = true) (z1 : a1.size ≤ 140737488351232) (w : World) :
    Calls Try.prog 4 #[.int .i64 a0, .string a1] w fun e w' => e = .returned (.bool true) ∧ Below w.heap.size w w' := core a0 a1 w z1
end Go.Proofs.Ytkbigineepohnaa.pageDecodes
