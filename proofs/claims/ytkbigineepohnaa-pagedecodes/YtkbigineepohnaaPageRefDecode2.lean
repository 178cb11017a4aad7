/-
  quaysideref04's Decode where the sum is wrong.
-/
import Derived.Test.YtkbigineepohnaaPageRefDecode
namespace Go.Proofs.Ytkbigineepohnaa
open Go.RowKit
set_option linter.unusedVariables false

theorem tale_str (s : ByteArray) (h : s.size = 256) : s.extract 8 128 ++ s.extract 136 s.size = ⟨(taleOf s.data.toList).toArray⟩ := by
  have x1 := extract_eq s 8 120 (by omega)
  have x2 := extract_eq s 136 120 (by omega)
  rw [h]
  rw [List.take_of_length_le (by rw [List.length_drop, data_length]; omega)] at x2
  rw [x1, x2, mk_append]
  rfl

set_option maxRecDepth 4000 in
set_option maxHeartbeats 3200000 in
theorem rdec_sum (id : Int) (s : ByteArray) (w : World) (h1 : ¬ id < 0) (h2 : ¬ 31 < id) (h3 : s.size = 256) (ht : tornB s.data.toList = false)
    (hs : ¬ leN ((taleOf s.data.toList).drop 236) = crc ((taleOf s.data.toList).take 236)) :
    Calls Try.prog 15 #[.int .i64 id, .string s] w fun e w' => e = .returned (.tuple #[.agg (pgA Pg.zero), .int .i64 3]) ∧ Below w.heap.size w w' := by
  have HT := hide (fun w => rtorn_any s w (by omega))
  rw [ht] at HT
  have h4 : (s.size : Int) = 256 := by omega
  have htl := taleOf_length s.data.toList (by rw [data_length]; exact h3)
  have xt := tale_str s h3
  have e := extract_eq ⟨(taleOf s.data.toList).toArray⟩ 0 236 (by rw [size_mk]; omega)
  have ed : (⟨(taleOf s.data.toList).toArray⟩ : ByteArray).data.toList = taleOf s.data.toList := rfl
  rw [ed, List.drop_zero, Nat.zero_add] at e
  have R := fun w => rseal_any ⟨((taleOf s.data.toList).take 236).toArray⟩ w (by rw [size_mk, List.length_take]; omega)
  have ed2 : (⟨((taleOf s.data.toList).take 236).toArray⟩ : ByteArray).data.toList = (taleOf s.data.toList).take 236 := rfl
  rw [ed2] at R
  have hne : ¬ (taleOf s.data.toList).take 236 ++ leB (crc ((taleOf s.data.toList).take 236)) = taleOf s.data.toList := by
    intro h
    have h5 := (seal_eq_iff (taleOf s.data.toList) (by omega)).1
    rw [htl] at h5
    exact hs (h5 h)
  have hne2 := ne_list2 ⟨(taleOf s.data.toList).toArray⟩ _ (by rw [ed]; exact hne)
  have zT := size_mk (taleOf s.data.toList)
  rw [htl] at zT
  have HS := hide R
  clear R ed ed2 hne hs ht htl h3
  generalize (⟨((taleOf s.data.toList).take 236 ++ leB (crc ((taleOf s.data.toList).take 236))).toArray⟩ : ByteArray) = X at *
  generalize (⟨((taleOf s.data.toList).take 236).toArray⟩ : ByteArray) = B at *
  generalize (⟨(taleOf s.data.toList).toArray⟩ : ByteArray) = T at *
  go_enter Try.func15, Try.ntmps15
  go_wp2_with fail
  refine (HT.out _).mono ?_
  rintro e w1 ⟨rfl, m, rfl⟩
  have hP1 : PgAt ((w.alloc (.cells (pgA Pg.zero) 27)).drewN m) w.heap.size Pg.zero := heap_alloc_new w _
  have hb1 : Below w.heap.size w ((w.alloc (.cells (pgA Pg.zero) 27)).drewN m) := below_dn ((Below.refl w.heap.size w).alloc (Nat.le_refl _) _) m
  have hz1 : w.heap.size < ((w.alloc (.cells (pgA Pg.zero) 27)).drewN m).heap.size := (by simp : w.heap.size < (w.alloc (.cells (pgA Pg.zero) 27)).heap.size)
  have HP1 := hide (And.intro hP1 (And.intro hb1 hz1))
  clear hP1 hb1 hz1 HT
  refine gen_world (fun x => Hid (PgAt x w.heap.size Pg.zero ∧ Below w.heap.size w x ∧ w.heap.size < x.heap.size)) HP1 ?_
  clear HP1
  intro w1 HP1
  go_wp2_with fail
  go_quiet (fail)
  have HP2 : Hid (PgAt (w1.drewN nq) w.heap.size Pg.zero ∧ Below w.heap.size w (w1.drewN nq) ∧ w.heap.size < (w1.drewN nq).heap.size) := ⟨HP1.out.1, below_dn HP1.out.2.1 nq, HP1.out.2.2⟩
  generalize w1.drewN nq = w2 at *
  clear HP1
  go_wp2_with fail
  refine (HS.out _).mono ?_
  rintro e w3 ⟨rfl, hb3⟩
  have hP3 := HP2.out.1.below hb3 HP2.out.2.2
  have d3 := HP2.out.2.1.trans (hb3.mono HP2.out.2.1.size)
  have HP3 := hide hP3
  clear hP3 hb3 HP2 HS
  go_wp2_with (refine wpList_store_page rfl (.tmp 4) (.tmp 43) rfl w.heap.size Pg.zero Pg.zero rfl rfl HP3.out ?_)
  intro w4 hP4 hk
  have HP4 := hide hP4
  have d4 := hk _ _ d3 (Nat.le_refl _)
  clear hP4 hk d3 HP3
  go_wp2
  exact bodyPost_ret (res_page rfl _ _ w.heap.size Pg.zero rfl HP4.out) rfl ⟨rfl, d4⟩
end Go.Proofs.Ytkbigineepohnaa
