/-
  FrameRooms: a frame has six bytes more than its record, and is taken at its place, whatever stands about it. FrameRooms returns true for every input, and its arguments read as before.
  Condition: none but those that the form of every such statement bears by itself (each string within the reach).
-/
import Derived.OpenShut
import Derived.Test.YtgobegpmojkhaabRows
import Derived.ProofKit
import Derived.ShutString
import Derived.SizedLaws
import Derived.JoinedCond
import Derived.Test.YtgobegpmojkhaabK05
import Derived.Test.YtgobegpmojkhaabK04
import Derived.Test.YtgobegpmojkhaabK06
import Derived.Test.YtgobegpmojkhaabK00

/-
  The walk of FrameRooms: it returns true, and turns nothing that was there.
-/
namespace Go.Proofs.Ytgobegpmojkhaab.frameRooms
open Go.RowKit
set_option linter.unusedVariables false

set_option maxRecDepth 4000 in
set_option maxHeartbeats 1600000 in
theorem big (A : Array Value) (a b : ByteArray) (w : World) (h : 20000 < a.size ∨ 20000 < b.size) :
    Calls Try.prog 3 #[.agg A, .string a, .string b] w fun e w' => e = .returned (.bool true) ∧ Below w.heap.size w w' := by
  have hb0 : Below w.heap.size w (w.alloc (.cells A 28)) := (Below.refl _ _).alloc (Nat.le_refl _) _
  have HB0 := hide hb0
  clear hb0
  by_cases h1 : 20000 < a.size
  · have hi : (20000 : Int) < (a.size : Int) := by omega
    clear h
    go_enter Try.func3, Try.ntmps3
    go_wp2_with fail
    refine (awake7_any _).mono ?_
    rintro e w1 ⟨rfl, hb1⟩
    have HB1 := hide (HB0.out.trans (hb1.mono HB0.out.size))
    clear HB0 hb1
    go_wp2_with fail
    refine (awake7_any _).mono ?_
    rintro e w2 ⟨rfl, hb2⟩
    have d := HB1.out.trans (hb2.mono HB1.out.size)
    clear HB1 hb2
    go_wp2
    go_ret
    exact ⟨rfl, d⟩
  · have hi : ¬ (20000 : Int) < (a.size : Int) := by omega
    have hj : (20000 : Int) < (b.size : Int) := by omega
    clear h
    go_enter Try.func3, Try.ntmps3
    go_wp2_with fail
    refine (awake7_any _).mono ?_
    rintro e w1 ⟨rfl, hb1⟩
    have HB1 := hide (HB0.out.trans (hb1.mono HB0.out.size))
    clear HB0 hb1
    go_wp2_with fail
    refine (awake7_any _).mono ?_
    rintro e w2 ⟨rfl, hb2⟩
    have d := HB1.out.trans (hb2.mono HB1.out.size)
    clear HB1 hb2
    go_wp2
    go_ret
    exact ⟨rfl, d⟩

set_option maxRecDepth 4000 in
set_option maxHeartbeats 3200000 in
theorem no (r : Rec) (va vb : Value) (a b : ByteArray) (w : World) (hr : ¬ r.right) (hf : r.fits) (hin : RcIn w r va vb) (ha : a.size ≤ 20000) (hb : b.size ≤ 20000) :
    Calls Try.prog 3 #[.agg (rcA r va vb), .string a, .string b] w fun e w' => e = .returned (.bool true) ∧ Below w.heap.size w w' := by
  have HIN := hide hin
  have HE := hide (fun w h => fput_no r va vb w hr hf h)
  have HRM := hide (fun w h => froom_any r va vb w hf h)
  have e0 : (putL r).length = 0 := by unfold putL; rw [if_neg (by rw [rightB_no hr]; decide)]; rfl
  rw [e0] at HRM
  have HR := hide (fun w h => right_at r va vb w false (hide ⟨fun h => (nomatch h), fun h => absurd h hr⟩) hf h)
  obtain ⟨⟨e1, cap1, rfl, -⟩, ⟨e2, cap2, rfl, -⟩⟩ := hin
  have HK0 := hide (Keeps.one w 28 (rcA r (.slice e1 r.ts.length cap1) (.slice e2 r.ds.length cap2)))
  have hi : ¬ (20000 : Int) < (a.size : Int) := by omega
  have hj : ¬ (20000 : Int) < (b.size : Int) := by omega
  clear hf hr e0
  go_enter Try.func3, Try.ntmps3
  go_wp2_with fail
  refine gen_calls (fun x => Hid (Keeps w x [(w.heap.size, 28, (rcA r (.slice e1 r.ts.length cap1) (.slice e2 r.ds.length cap2)))])) HK0 ?_
  clear HK0
  intro x0 HK0
  refine (awake7_any _).mono ?_
  rintro e w1 ⟨rfl, hb1⟩
  have HK1 := hide (HK0.out.later hb1)
  clear HK0 hb1
  go_wp2_with (refine wpList_load_at rfl 28 (.tmp 3) rfl w.heap.size rfl (rcA r (.slice e1 r.ts.length cap1) (.slice e2 r.ds.length cap2)) HK1.out.1.1 _ Try.underlying28 rfl infoRc ?_)
  refine (HE.out _ (HIN.out.below HK1.out.2)).mono ?_
  rintro e wa ⟨rfl, hba⟩
  have HKA := hide (HK1.out.later hba)
  clear HK1 hba HE
  go_wp2_with (refine wpList_load_at rfl 28 (.tmp 3) rfl w.heap.size rfl (rcA r (.slice e1 r.ts.length cap1) (.slice e2 r.ds.length cap2)) HKA.out.1.1 _ Try.underlying28 rfl infoRc ?_)
  refine (HRM.out _ (HIN.out.below HKA.out.2)).mono ?_
  rintro e w2 ⟨rfl, hb2⟩
  have HK2 := hide (HKA.out.later hb2)
  clear HKA hb2 HRM
  have c0 := HK2.out.1.1.cell 0 (.int .i64 r.k) rfl
  have c1 := HK2.out.1.1.cell 1 (.int .u64 (r.l : Int)) rfl
  have c2 := HK2.out.1.1.cell 2 (.int .i64 r.t) rfl
  have c3 := HK2.out.1.1.cell 3 (.int .u64 (r.p : Int)) rfl
  have c4 := HK2.out.1.1.cell 4 (.int .i64 r.c.k) rfl
  have c5 := HK2.out.1.1.cell 5 (.int .i64 r.c.pg) rfl
  have c6 := HK2.out.1.1.cell 6 (.int .i64 r.c.sl) rfl
  have c7 := HK2.out.1.1.cell 7 (.string r.c.o) rfl
  have c8 := HK2.out.1.1.cell 8 (.string r.c.n) rfl
  have c9 := HK2.out.1.1.cell 9 (.int .u64 (r.n : Int)) rfl
  have c10 := HK2.out.1.1.cell 10 (.int .i64 r.s) rfl
  have c11 := HK2.out.1.1.cell 11 (.int .u64 (r.b : Int)) rfl
  have c12 := HK2.out.1.1.cell 12 (.slice e1 r.ts.length cap1) rfl
  have c13 := HK2.out.1.1.cell 13 (.slice e2 r.ds.length cap2) rfl
  go_wp2_with fail
  refine (HR.out _ (HIN.out.below HK2.out.2)).mono ?_
  rintro e w3 ⟨rfl, hb3⟩
  have d3 := (HK2.out.later hb3).2
  clear HK2 hb3 HR HIN c0 c1 c2 c3 c4 c5 c6 c7 c8 c9 c10 c11 c12 c13
  go_wp2
  go_ret
  exact ⟨rfl, d3⟩

set_option maxRecDepth 4000 in
set_option maxHeartbeats 6400000 in
theorem yes (r : Rec) (va vb : Value) (a b : ByteArray) (w : World) (hr : r.right) (hf : r.fits) (hin : RcIn w r va vb) (ha : a.size ≤ 20000) (hb : b.size ≤ 20000) :
    Calls Try.prog 3 #[.agg (rcA r va vb), .string a, .string b] w fun e w' => e = .returned (.bool true) ∧ Below w.heap.size w w' := by
  have HIN := hide hin
  have HE := hide (fun w h => fput_ok r va vb w hr hf h)
  have HRM := hide (fun w h => froom_any r va vb w hf h)
  have e0 : (putL r).length = (frameB r).length := by unfold putL; rw [if_pos (rightB_yes hr)]
  rw [e0, frameB_length] at HRM
  have HSZ := hide (fun w h => size_any r va vb w hf h)
  have e1' : (encL r).length = (recB r).length := by unfold encL; rw [if_pos (rightB_yes hr)]
  rw [e1'] at HSZ
  have HSA := hide (fun w ua ub (h1 : RcIn w r ua ub) (h2 : RcIn w r va vb) => rsame_at r r ua ub va vb w true (hide ⟨fun _ => rfl, fun _ => rfl⟩) hf hf h1 h2)
  have HTK := hide (fun w g cap n (h : IsB w (some ⟨g, 0, none⟩) n (a.data.toList ++ frameB r ++ b.data.toList)) (hz : n ≤ 140737488355328) (hc : n ≤ cap) => ftake_any (some ⟨g, 0, none⟩) n cap (a.data.toList ++ frameB r ++ b.data.toList) (a.size : Int) w h hz hc)
  have etk : takF (a.data.toList ++ frameB r ++ b.data.toList) (a.size : Int) = (r, (a.size : Int) + (((recB r).length + 6 : Nat) : Int), 0) := by
    have hd : (a.data.toList ++ frameB r ++ b.data.toList).drop (a.size : Int).toNat = frameB r ++ b.data.toList := by
      rw [Int.toNat_natCast, List.append_assoc]
      exact List.drop_left' (data_length a)
    unfold takF
    rw [if_neg (by rw [List.length_append, List.length_append, data_length]; omega), hd, head_frame r hr, frameB_length]
    rfl
  rw [etk] at HTK
  unfold TakAns at HTK
  have hfl := frameB_length r
  have hfew := rec_few r hr
  obtain ⟨⟨e1, cap1, rfl, -⟩, ⟨e2, cap2, rfl, -⟩⟩ := hin
  have HK0 := hide (Keeps.one w 28 (rcA r (.slice e1 r.ts.length cap1) (.slice e2 r.ds.length cap2)))
  have hi : ¬ (20000 : Int) < (a.size : Int) := by omega
  have hj : ¬ (20000 : Int) < (b.size : Int) := by omega
  have hcv := fun w => Lib.run_convert_string_bytes (P := Try.prog) w 9 30 5 a Try.underlying9 Try.underlying30 Try.underlying5
  clear hf hr e0 e1' etk
  generalize frameB r = FB at *
  generalize (recB r).length = ln at *
  obtain ⟨lf, hlf⟩ : ∃ lf, lf = ln + 6 := ⟨_, rfl⟩
  rw [← hlf] at HRM HTK hfl
  rw [hfl] at HE
  have hlb : lf ≤ 1006 := by omega
  have hlp : 0 < lf := by omega
  have HLF := hide hlf
  have HFL := hide hfl
  clear hlf hfl hfew
  go_enter Try.func3, Try.ntmps3
  go_wp2_with fail
  refine gen_calls (fun x => Hid (Keeps w x [(w.heap.size, 28, (rcA r (.slice e1 r.ts.length cap1) (.slice e2 r.ds.length cap2)))])) HK0 ?_
  clear HK0
  intro x0 HK0
  refine (awake7_any _).mono ?_
  rintro e w1 ⟨rfl, hb1⟩
  have HK1 := hide (HK0.out.later hb1)
  clear HK0 hb1
  go_wp2_with (refine wpList_load_at rfl 28 (.tmp 3) rfl w.heap.size rfl (rcA r (.slice e1 r.ts.length cap1) (.slice e2 r.ds.length cap2)) HK1.out.1.1 _ Try.underlying28 rfl infoRc ?_)
  refine (HE.out _ (HIN.out.below HK1.out.2)).mono ?_
  rintro e w2 ⟨v2, rfl, hown2, hb2⟩
  have HK2 := hide (HK1.out.later hb2)
  obtain ⟨g2, cap3, rfl, hB2⟩ := bufC_own hown2 hlp
  clear HK1 hb2 HE hown2
  -- the three pieces, one behind the other
  have hbc : Below w2.heap.size w2 (Lib.bytesWorld w2 5 a) := below_conv w2 5 a
  obtain ⟨g3, cap4, w3, r3, hB3, hb3⟩ := run_append_c (Lib.bytesWorld w2 5 a) 30 5 Try.underlying30 info8 30 (bufC_conv w2 5 a) g2 0 lf cap3 FB (hB2.isB.below hbc) (by omega) (by omega) hbc.size
  obtain ⟨g4, cap5, w4, r4, hB4, hb4⟩ := run_append_cs w3 30 5 Try.underlying30 info8 9 30 Try.underlying9 hB3 b (by omega) (by omega) (Nat.le_trans hbc.size hb3.size)
  have hb24 : Below w2.heap.size w2 w4 := (hbc.trans hb3).trans hb4
  have HK4 := hide (HK2.out.later hb24)
  have HT4 := hide (HTK.out w4 g4 cap5 _ hB4.isB (by omega) hB4.room)
  have HR3 := hide r3
  have HR4 := hide r4
  clear hbc r3 r4 hB2 hB3 hB4 hb3 hb4 hb24 HTK HK2
  go_wp2_with (first | (refine wpList_append_run rfl (.tmp 42) (.tmp 43) 30 30 rfl _ _ _ rfl rfl HR3.out ?_) | (refine wpList_append_run rfl (.tmp 44) (.tmp 45) 30 9 rfl _ _ _ rfl rfl HR4.out ?_))
  refine HT4.out.mono ?_
  rintro e w5 ⟨⟨va5, vb5, rfl, hgot⟩, hb5⟩
  obtain ⟨av, cv, rfl⟩ := own_shape5 hgot.1
  obtain ⟨au, cu, rfl⟩ := own_shape5 hgot.2
  have HG5 := hide hgot
  have HK5 := hide (HK4.out.later hb5)
  clear hgot hb5 HK4 HT4 HR3 HR4 hcv
  go_wp2_with (refine wpList_store_at rfl 28 (.tmp 10) (.tmp 52) rfl w5.heap.size zeroA (rcA r (.slice av r.ts.length cv) (.slice au r.ds.length cu)) rfl rfl (RowAt.new w5 28 zeroA) infoRc rfl (by simp [rcA, Value.oneCell']) ?_)
  intro w6 hr6 hk6 _
  have hb6 := hk6 _ _ ((Below.refl w5.heap.size w5).alloc (Nat.le_refl _) _) (Nat.le_refl _)
  have HG6 := hide (HG5.out.below hb6).rc
  have HK6 : Hid (Keeps w w6 [(w5.heap.size, 28, (rcA r (.slice av r.ts.length cv) (.slice au r.ds.length cu))), (w.heap.size, 28, (rcA r (.slice e1 r.ts.length cap1) (.slice e2 r.ds.length cap2)))]) := HK5.out.laid hr6 hk6
  clear hr6 hk6 hb6 HG5 HK5
  generalize w5.heap.size = g6 at *
  have elf : (ln : Int) + 6 = (lf : Int) := by
    have := HLF.out
    omega
  have ewr : IntKind.i64.wrap ((a.size : Int) + (lf : Int)) = (a.size : Int) + (lf : Int) := by rw [IntKind.wrap_i64]; omega
  have ewf : IntKind.i64.wrap (lf : Int) = (lf : Int) := by rw [IntKind.wrap_i64]; omega
  have ewl : IntKind.i64.wrap ((ln : Int) + 6) = (lf : Int) := by
    rw [elf, IntKind.wrap_i64]
    omega
  go_wp2_with fail
  refine wp_region_in (fun x => Keeps w x [(g6, 28, (rcA r (.slice av r.ts.length cv) (.slice au r.ds.length cu))), (w.heap.size, 28, (rcA r (.slice e1 r.ts.length cap1) (.slice e2 r.ds.length cap2)))] ∧ RcIn x r (.slice av r.ts.length cv) (.slice au r.ds.length cu)) (by kernel_rfl) (by kernel_rfl) ⟨HK6.out.drew, HG6.out.drew⟩ ?_
  clear HK6 HG6
  repeat (first
    | go_big_quiet_skip
    | (refine wpQuiet_load rfl 28 (.tmp 10) rfl _ (.agg (rcA r (.slice av r.ts.length cv) (.slice au r.ds.length cu))) rfl (fun y hy => load_rc y _ _ hy.1.1.1 rfl) ?_; simp only [Act.put, Array.setIfInBounds, List.size_toArray, List.length_cons, List.length_nil, Nat.reduceAdd, Nat.reduceLT, ↓reduceDIte, List.set_toArray, List.set_cons_succ, List.set_cons_zero])
    | (refine wpQuiet_load rfl 28 (.tmp 3) rfl _ (.agg (rcA r (.slice e1 r.ts.length cap1) (.slice e2 r.ds.length cap2))) rfl (fun y hy => load_rc y _ _ hy.1.1.2.1 rfl) ?_; simp only [Act.put, Array.setIfInBounds, List.size_toArray, List.length_cons, List.length_nil, Nat.reduceAdd, Nat.reduceLT, ↓reduceDIte, List.set_toArray, List.set_cons_succ, List.set_cons_zero])
    | (refine wpQuiet_call rfl 10 #[.agg (rcA r (.slice av r.ts.length cv) (.slice au r.ds.length cu)), .agg (rcA r (.slice e1 r.ts.length cap1) (.slice e2 r.ds.length cap2))] (.bool true) ?_ (fun x hC => (HSA.out x _ _ hC.2 (HIN.out.below hC.1.2)).mono fun e x' h => ⟨h.1, hC.1.later h.2, hC.2.below h.2⟩) ?_; (intro x; go_simp); simp only [Act.put, Array.setIfInBounds, List.size_toArray, List.length_cons, List.length_nil, Nat.reduceAdd, Nat.reduceLT, ↓reduceDIte, List.set_toArray, List.set_cons_succ, List.set_cons_zero])
    | (refine wpQuiet_call rfl 7 #[.agg (rcA r (.slice e1 r.ts.length cap1) (.slice e2 r.ds.length cap2))] (.int .i64 (lf : Int)) ?_ (fun x hC => (HRM.out x (HIN.out.below hC.1.2)).mono fun e x' h => ⟨h.1, hC.1.later h.2, hC.2.below h.2⟩) ?_; (intro x; go_simp); simp only [Act.put, Array.setIfInBounds, List.size_toArray, List.length_cons, List.length_nil, Nat.reduceAdd, Nat.reduceLT, ↓reduceDIte, List.set_toArray, List.set_cons_succ, List.set_cons_zero])
    | (refine wpQuiet_call rfl 11 #[.agg (rcA r (.slice e1 r.ts.length cap1) (.slice e2 r.ds.length cap2))] (.int .i64 (ln : Int)) ?_ (fun x hC => (HSZ.out x (HIN.out.below hC.1.2)).mono fun e x' h => ⟨h.1, hC.1.later h.2, hC.2.below h.2⟩) ?_; (intro x; go_simp); simp only [Act.put, Array.setIfInBounds, List.size_toArray, List.length_cons, List.length_nil, Nat.reduceAdd, Nat.reduceLT, ↓reduceDIte, List.set_toArray, List.set_cons_succ, List.set_cons_zero])
    | (refine wpQuiet_plain rfl (fun K hK => ?_); go_simp; (try simp only [ewr, ewl, ewf, elf, beq_self_eq_true]); refine hK _ ?_; clear hK K))
  refine wpQuiet_nil ?_
  intro x hx
  have hfin := hx.1.2
  clear hx HSA HRM HSZ HIN HLF HFL
  go_wp2
  go_ret
  exact ⟨rfl, hfin⟩

theorem walk (m : Rec × Value × Value) (a1 a2 : ByteArray) (w : World) (hf : m.1.fits) (hin : RcIn w m.1 m.2.1 m.2.2) (z1 : a1.size ≤ 140737488351232) (z2 : a2.size ≤ 140737488351232) :
    Calls Try.prog 3 #[.agg (rcA m.1 m.2.1 m.2.2), .string a1, .string a2] w fun e w' => e = .returned (.bool true) ∧ Below w.heap.size w w' := by
  by_cases h : 20000 < a1.size ∨ 20000 < a2.size
  · exact big _ a1 a2 w h
  · by_cases hr : m.1.right
    · exact yes m.1 _ _ a1 a2 w hr hf hin (by omega) (by omega)
    · exact no m.1 _ _ a1 a2 w hr hf hin (by omega) (by omega)
end Go.Proofs.Ytgobegpmojkhaab.frameRooms

namespace Go.Proofs.Ytgobegpmojkhaab.frameRooms
open Go.ChangeShapes Go.WideShapes Go.ChangeAt Go.RowKit
open Go.ChangeMaps (open_string shut_string)
set_option linter.unusedVariables false

theorem laidOut : laidOutB Try.prog = true := by kernel_rfl
theorem own : ownKnob Try.prog.godebug = none := by kernel_rfl

set_option maxRecDepth 100000 in
theorem lifted (os : Os) (started : os.Started) (H : Type) (enc : TypeId × Value → H) :
    ReturnsInHanded {} Try.checked os 3 .any (Rows.frameRoomsSpec.pre6 enc Try.prog Try.f3 Rows.frameRoomsRow.domain false) (Rows.frameRoomsSpec.post enc Try.prog Try.f3 false true false false) := by
  refine returnsInHanded_of_change_sized (C := Try.checked) own started (by kernel_rfl) Try.func3
    (ChangeSpec.witness6 (enc := enc) (C := Try.checked) false ⟨#[], #[.agg #[.int .i64 0, .int .u64 0, .int .i64 0, .int .u64 0, .int .i64 0, .int .i64 0, .int .i64 0, .string ByteArray.empty, .string ByteArray.empty, .int .u64 0, .int .i64 0, .int .u64 0, .slice none 0 0, .slice none 0 0], .string ByteArray.empty, .string ByteArray.empty], []⟩ 8 (by kernel_rfl) (by kernel_rfl) (by kernel_rfl) (by kernel_rfl)) ?_
  intro W base args ds gs before hval0 hW hcnd hsz0 _
  have hval : ∀ (j : Nat) t v, Try.f3.params[j]? = some t → args[j]? = some v → Value.okWide Try.prog W .any base t v := hval0
  have hsz : (DataW.weightsEach Try.prog (Try.f3.params.toList ++ Rows.frameRoomsSpec.plain.varTypes Try.prog) (ds ++ gs)).all (· ≤ reachBytes) = true := hsz0
  have hW' := hW
  obtain ⟨p, q, hA0, hV, rfl, hfz, hnd⟩ := hW
  have hA : DataW.TrodAll enc Try.prog W 0 (fun _ => true) true Try.f3.params.toList args.toList ds p := hA0
  rw [Try.params3] at hA hval hsz
  obtain ⟨v0, vs0, d0, ds0, p0, q0, hargs, rfl, rfl, h0, r0⟩ := trodAll_cons hA
  obtain ⟨v1, vs1, d1, ds1, p1, q1, rfl, rfl, rfl, h1, r1⟩ := trodAll_cons r0
  obtain ⟨v2, vs2, d2, ds2, p2, q2, rfl, rfl, rfl, h2, r2⟩ := trodAll_cons r1
  obtain ⟨rfl, rfl, rfl⟩ := trodAll_nil r2
  obtain rfl : args = #[v0, v1, v2] := by cases args; simp_all
  obtain ⟨rfl, rfl⟩ := trodVars_none hV
  have k0 := h0
  have lt0 := trod_places h0
  obtain ⟨a1, rfl, rfl, rfl, w1⟩ := open_string Try.underlying9 (hval 1 9 v1 rfl rfl) h1
  obtain ⟨a2, rfl, rfl, rfl, w2⟩ := open_string Try.underlying9 (hval 2 9 v2 rfl rfl) h2
  have z1 : a1.size ≤ 140737488351232 := by
    have hz := sized_string hsz (j := 1) (t := 9) (bytes := a1.data.toList) rfl rfl
    simpa [reachBytes] using hz
  have z2 : a2.size ≤ 140737488351232 := by
    have hz := sized_string hsz (j := 2) (t := 9) (bytes := a2.data.toList) rfl rfl
    simpa [reachBytes] using hz
  obtain ⟨m0, rfl, w0a, w0b⟩ := op_record (hval 0 28 v0 rfl rfl) h0
  clear hA0 hval0 hsz0 hsz
  refine (walk m0 a1 a2 W w0a w0b z1 z2).mono fun e W' ⟨he, bel⟩ => ?_
  subst he
  exact ⟨_, rfl, _, _, _, [], _, [], hW', trodAll_mk1 (shut_bool Try.underlying4 _), (trodAll_cons_mk (Below.trod laidOut (by kernel_rfl) (of_decide_eq_true (by kernel_rfl)) k0 bel lt0) (trodAll_cons_mk (shut_string Try.underlying9 w1) (trodAll_cons_mk (shut_string Try.underlying9 w2) trodAll_mk0))), rfl, bel.frame _, fun h => by cases h⟩

theorem over : Rows.frameRoomsRow.holds Try.pinned (OpenSpec.ofChange Rows.frameRoomsSpec) :=
  OpenClaim.holds_of_wide 3 Try.f3 rfl rfl rfl rfl rfl rfl rfl ⟨rfl, rfl, rfl, rfl, rfl⟩ rfl rfl rfl rfl rfl (by kernel_rfl) Try.func3 (by kernel_rfl)
    (of_decide_eq_true (by kernel_rfl)) (by unfold Func.isWrapper; first | (rw [if_pos (by decide +kernel)]; kernel_rfl) | (rw [if_neg (by decide +kernel)]; exact ⟨rfl, rfl⟩))
    (fun os started H enc _ => lifted os started H enc)

/-- THE STATEMENT. -/
theorem proved : Rows.FrameRoomsSaid := over
end Go.Proofs.Ytgobegpmojkhaab.frameRooms
namespace Go.Proofs.Ytgobegpmojkhaab
theorem frameRooms_proved : Rows.FrameRoomsSaid := frameRooms.proved
end Go.Proofs.Ytgobegpmojkhaab
