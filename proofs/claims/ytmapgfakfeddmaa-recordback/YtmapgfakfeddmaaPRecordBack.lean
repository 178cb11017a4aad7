/-
  RecordBack: a record's bytes are decoded as it; cut off they end too early, and with a byte more they are none. RecordBack returns true for every input, and its arguments read as before.
  Condition: none but those that the form of every such statement bears by itself (each string within the reach).
-/
import Derived.OpenShut
import Derived.Test.YtmapgfakfeddmaaRows
import Derived.ProofKit
import Derived.ShutString
import Derived.SizedLaws
import Derived.JoinedCond
import Derived.Test.YtmapgfakfeddmaaK09
import Derived.Test.YtmapgfakfeddmaaK11
import Derived.Test.YtmapgfakfeddmaaK03

/-
  The walk of RecordBack: it returns true, and turns nothing that was there.
-/
namespace Go.Proofs.Ytmapgfakfeddmaa.recordBack
open Go.RowKit
set_option linter.unusedVariables false

theorem rec_pos (r : Rec) : 0 < (recB r).length := by
  unfold recB
  simp only [List.length_append, beB_length]
  omega
theorem isB_one (w : World) (y : UInt8) : IsB (w.alloc (.cells #[.int .u8 (y.toNat : Int)] 5)) (some ⟨w.heap.size, 0, none⟩) 1 [y] := by
  refine ⟨rfl, fun _ => ⟨w.heap.size, 0, rfl, by simp, fun j hj => ?_⟩⟩
  obtain rfl : j = 0 := by omega
  exact (RowAt.new w 5 #[.int .u8 (y.toNat : Int)]).cell 0 _ rfl
theorem isB_take {w : World} {a : Option Addr} {len m : Nat} {bs : List UInt8} (h : IsB w a len bs) (hm : m ≤ len) : IsB w a m (bs.take m) := by
  refine ⟨by rw [List.length_take, h.1, Nat.min_eq_left hm], fun hp => ?_⟩
  obtain ⟨b, off, ha, hb, hc⟩ := h.2 (by omega)
  refine ⟨b, off, ha, hb, fun j hj => ?_⟩
  rw [hc j (by omega)]
  have e : (bs.take m).getD j 0 = bs.getD j 0 := by
    rw [List.getD_eq_getElem?_getD, List.getD_eq_getElem?_getD, List.getElem?_take, if_pos hj]
  rw [e]

set_option maxRecDepth 4000 in
set_option maxHeartbeats 3200000 in
theorem no (r : Rec) (va vb : Value) (cut more : Int) (w : World) (hr : ¬ r.right) (hf : r.fits) (hin : RcIn w r va vb) :
    Calls Try.prog 5 #[.agg (rcA r va vb), .int .u64 cut, .int .u8 more] w fun e w' => e = .returned (.bool true) ∧ Below w.heap.size w w' := by
  have HIN := hide hin
  have HE := hide (fun w h => enc_no r va vb w hr hf h)
  have HR := hide (fun w h => right_at r va vb w false (hide ⟨fun h => (nomatch h), fun h => absurd h hr⟩) hf h)
  obtain ⟨⟨e1, cap1, rfl, -⟩, ⟨e2, cap2, rfl, -⟩⟩ := hin
  have HK0 := hide (Keeps.one w 28 (rcA r (.slice e1 r.ts.length cap1) (.slice e2 r.ds.length cap2)))
  clear hf hr
  go_enter Try.func5, Try.ntmps5
  go_wp2_with fail
  refine gen_calls (fun x => Hid (Keeps w x [(w.heap.size, 28, (rcA r (.slice e1 r.ts.length cap1) (.slice e2 r.ds.length cap2)))])) HK0 ?_
  clear HK0
  intro x0 HK0
  refine (awake_any _).mono ?_
  rintro e w1 ⟨rfl, hb1⟩
  have HK1 := hide (HK0.out.later hb1)
  clear HK0 hb1
  go_wp2_with (refine wpList_load_at rfl 28 (.tmp 3) rfl w.heap.size rfl (rcA r (.slice e1 r.ts.length cap1) (.slice e2 r.ds.length cap2)) HK1.out.1.1 _ Try.underlying28 rfl infoRc ?_)
  refine (HE.out _ (HIN.out.below HK1.out.2)).mono ?_
  rintro e w2 ⟨rfl, hb2⟩
  have HK2 := hide (HK1.out.later hb2)
  clear HK1 hb2 HE
  have c0 := HK2.out.1.1.cell 0 (.int .i64 r.k) rfl
  have c1 := HK2.out.1.1.cell 1 (.int .u64 (r.l : Int)) rfl
  have c2 := HK2.out.1.1.cell 2 (.int .i64 r.t) rfl
  have c3 := HK2.out.1.1.cell 3 (.int .u64 (r.p : Int)) rfl
  have c4 := HK2.out.1.1.cell 4 (.int .i64 r.c.k) rfl
  have c5 := HK2.out.1.1.cell 5 (.int .i64 r.c.pg) rfl
  have c6 := HK2.out.1.1.cell 6 (.int .i64 r.c.sl) rfl
  have c7 := HK2.out.1.1.cell 7 (.string r.c.o) rfl
  have c8 := HK2.out.1.1.cell 8 (.string r.c.n) rfl
  have c9 := HK2.out.1.1.cell 9 (.int .u64 (r.n : Int)) rfl
  have c10 := HK2.out.1.1.cell 10 (.int .i64 r.s) rfl
  have c11 := HK2.out.1.1.cell 11 (.int .u64 (r.b : Int)) rfl
  have c12 := HK2.out.1.1.cell 12 (.slice e1 r.ts.length cap1) rfl
  have c13 := HK2.out.1.1.cell 13 (.slice e2 r.ds.length cap2) rfl
  go_wp2_with fail
  refine (HR.out _ (HIN.out.below HK2.out.2)).mono ?_
  rintro e w3 ⟨rfl, hb3⟩
  have d3 := (HK2.out.later hb3).2
  clear HK2 hb3 HR HIN c0 c1 c2 c3 c4 c5 c6 c7 c8 c9 c10 c11 c12 c13
  go_wp2
  go_ret
  exact ⟨rfl, d3⟩

set_option maxRecDepth 4000 in
set_option maxHeartbeats 6400000 in
theorem yes (r : Rec) (va vb : Value) (cut : Nat) (y : UInt8) (w : World) (hr : r.right) (hcut : cut < 18446744073709551616) (hf : r.fits) (hin : RcIn w r va vb) :
    Calls Try.prog 5 #[.agg (rcA r va vb), .int .u64 (cut : Int), .int .u8 (y.toNat : Int)] w fun e w' => e = .returned (.bool true) ∧ Below w.heap.size w w' := by
  have HIN := hide hin
  have HE := hide (fun w h => enc_any r va vb w hf h)
  have eE : encE r = 0 := by unfold encE; rw [if_pos (rightB_yes hr)]
  have eL : encL r = recB r := by unfold encL; rw [if_pos (rightB_yes hr)]
  rw [eE, eL] at HE
  have HFI := hide hf
  have D1 := hide (dec_enc r hr)
  have D2 : Hid (∀ m, m < (recB r).length → decR ((recB r).take m) = (Rec.zero, 4)) := fun m hm => dec_cut r hr _ ((recB r).drop m) (List.take_append_drop m _).symm (fun h => by
    have h2 := congrArg List.length h
    rw [List.length_drop] at h2
    have h3 : (recB r).length - m = 0 := h2
    omega)
  have D3 : Hid (decR (recB r ++ [y]) = (Rec.zero, 2)) := dec_more r hr [y] (by simp)
  have hpos := rec_pos r
  have hfew := rec_few r hr
  obtain ⟨⟨e1, cap1, rfl, -⟩, ⟨e2, cap2, rfl, -⟩⟩ := hin
  have HK0 := hide (Keeps.one w 28 (rcA r (.slice e1 r.ts.length cap1) (.slice e2 r.ds.length cap2)))
  clear hf hr eE eL
  generalize recB r = L at *
  obtain ⟨ln, hln⟩ : ∃ ln, ln = L.length := ⟨_, rfl⟩
  rw [← hln] at hpos hfew D2
  have HLN := hide hln
  clear hln
  go_enter Try.func5, Try.ntmps5
  go_wp2_with fail
  refine gen_calls (fun x => Hid (Keeps w x [(w.heap.size, 28, (rcA r (.slice e1 r.ts.length cap1) (.slice e2 r.ds.length cap2)))])) HK0 ?_
  clear HK0
  intro x0 HK0
  refine (awake_any _).mono ?_
  rintro e w1 ⟨rfl, hb1⟩
  have HK1 := hide (HK0.out.later hb1)
  clear HK0 hb1
  go_wp2_with (refine wpList_load_at rfl 28 (.tmp 3) rfl w.heap.size rfl (rcA r (.slice e1 r.ts.length cap1) (.slice e2 r.ds.length cap2)) HK1.out.1.1 _ Try.underlying28 rfl infoRc ?_)
  refine (HE.out _ (HIN.out.below HK1.out.2)).mono ?_
  rintro e w2 ⟨⟨v2, rfl, p2, k2, rfl, -, hcap, hB2⟩, hb2⟩
  have HK2 := hide (HK1.out.later hb2)
  rw [← HLN.out] at hB2 hcap
  rw [← HLN.out]
  obtain ⟨pb, po, rfl, -, -⟩ := hB2.2 hpos
  have HB2 := hide hB2
  clear HK1 hb2 HE hB2
  have n0 : ((ln : Int) == 0) = false := by rw [beq_eq_false_iff_ne]; omega
  go_wp2_with fail
  refine (dec_any _ ln k2 L w2 HB2.out (by omega) hcap).mono ?_
  rw [D1.out]
  rintro e w3 ⟨⟨va3, vb3, rfl, hgot⟩, hb3⟩
  obtain ⟨av, cv, rfl⟩ := own_shape5 hgot.1
  obtain ⟨au, cu, rfl⟩ := own_shape5 hgot.2
  have HG3 := hide hgot.rc
  have HK3 := hide (HK2.out.later hb3)
  have HB3 := hide (HB2.out.below hb3)
  clear hgot hb3 HK2 HB2
  have ewl : IntKind.u64.wrap (ln : Int) = (ln : Int) := by rw [IntKind.wrap_u64]; omega
  have m1 : 0 ≤ (cut : Int) % (ln : Int) := Int.emod_nonneg _ (by omega)
  have m2 : (cut : Int) % (ln : Int) < (ln : Int) := Int.emod_lt_of_pos _ (by omega)
  have m3 : ¬ (ln : Int) = 0 := by omega
  have hmod : cut % ln < ln := Nat.mod_lt _ hpos
  go_wp2_with (refine wpList_store_at rfl 28 (.tmp 9) (.tmp 38) rfl w3.heap.size #[.int .i64 0, .int .u64 0, .int .i64 0, .int .u64 0, .int .i64 0, .int .i64 0, .int .i64 0, .string ⟨#[]⟩, .string ⟨#[]⟩, .int .u64 0, .int .i64 0, .int .u64 0, .slice none 0 0, .slice none 0 0] (rcA r (.slice av r.ts.length cv) (.slice au r.ds.length cu)) rfl rfl (RowAt.new w3 28 #[.int .i64 0, .int .u64 0, .int .i64 0, .int .u64 0, .int .i64 0, .int .i64 0, .int .i64 0, .string ⟨#[]⟩, .string ⟨#[]⟩, .int .u64 0, .int .i64 0, .int .u64 0, .slice none 0 0, .slice none 0 0]) infoRc rfl (by simp [rcA, Value.oneCell']) ?_)
  intro w4 hr4 hk4 _
  have hb4 := hk4 _ _ ((Below.refl w3.heap.size w3).alloc (Nat.le_refl _) _) (Nat.le_refl _)
  have HG4 := hide (HG3.out.below hb4)
  have HB4 := hide (HB3.out.below hb4)
  have HK4 : Hid (Keeps w w4 [(w3.heap.size, 28, (rcA r (.slice av r.ts.length cv) (.slice au r.ds.length cu))), (w.heap.size, 28, (rcA r (.slice e1 r.ts.length cap1) (.slice e2 r.ds.length cap2)))]) := HK3.out.laid hr4 hk4
  clear hr4 hk4 hb4 HG3 HB3 HK3
  generalize w3.heap.size = gx at *
  go_wp2_with fail
  refine (dec_any _ (cut % ln) k2 (L.take (cut % ln)) w4 (isB_take HB4.out (Nat.le_of_lt hmod)) (by omega) (by omega)).mono ?_
  rw [D2.out _ hmod]
  rintro e w5 ⟨⟨va5, vb5, rfl, hgot⟩, hb5⟩
  obtain ⟨a5, c5, rfl⟩ := own_shape5 hgot.1
  obtain ⟨b5, d5, rfl⟩ := own_shape5 hgot.2
  have HG5 := hide (HG4.out.below hb5)
  have HK5 := hide (HK4.out.later hb5)
  have HB5 := hide (HB4.out.below hb5)
  clear hgot hb5 HG4 HK4 HB4
  generalize cut % ln = cm at *
  go_wp2_with (refine wpList_store_at rfl 28 (.tmp 11) (.tmp 49) rfl w5.heap.size #[.int .i64 0, .int .u64 0, .int .i64 0, .int .u64 0, .int .i64 0, .int .i64 0, .int .i64 0, .string ⟨#[]⟩, .string ⟨#[]⟩, .int .u64 0, .int .i64 0, .int .u64 0, .slice none 0 0, .slice none 0 0] (rcA Rec.zero (.slice a5 Rec.zero.ts.length c5) (.slice b5 Rec.zero.ds.length d5)) rfl rfl (RowAt.new w5 28 #[.int .i64 0, .int .u64 0, .int .i64 0, .int .u64 0, .int .i64 0, .int .i64 0, .int .i64 0, .string ⟨#[]⟩, .string ⟨#[]⟩, .int .u64 0, .int .i64 0, .int .u64 0, .slice none 0 0, .slice none 0 0]) infoRc rfl (by simp [rcA, Value.oneCell']) ?_)
  intro w6 _ hk6 _
  have hb6 := hk6 _ _ ((Below.refl w5.heap.size w5).alloc (Nat.le_refl _) _) (Nat.le_refl _)
  have HG6 := hide (HG5.out.below hb6)
  have HK6 := hide (HK5.out.later hb6)
  have HB6 := hide (HB5.out.below hb6)
  clear hk6 hb6 HG5 HK5 HB5
  generalize w5.heap.size = g5 at *
  have HAL := hide ((Below.refl w6.heap.size w6).alloc (Nat.le_refl _) (.cells #[.int .u8 (y.toNat : Int)] 5))
  go_wp2_with (at_builtin; refine wpList_append_b _ rfl (.tmp 57) (.tmp 59) 30 rfl 5 Try.underlying30 info8 pb po ln ln L rfl (HB6.out.below HAL.out) w6.heap.size 0 1 1 [y] rfl (isB_one w6 y) (by omega) (by omega) ?_)
  intro v8 w8 ho8 hg8
  have hb8 := HAL.out.trans ((grown_none hg8).mono HAL.out.size)
  obtain ⟨a8, cap8, hv8, hcap8, hB8⟩ := shape_isB ho8
  have HG8 := hide (HG6.out.below hb8)
  have HK8 := hide (HK6.out.later hb8)
  have HB8 := hide hB8
  clear ho8 hg8 hb8 hB8 HAL HG6 HK6 HB6
  subst hv8
  go_wp2_with fail
  refine (dec_any a8 (ln + 1) cap8 (L ++ [y]) w8 HB8.out (by omega) hcap8).mono ?_
  rw [D3.out]
  rintro e w9 ⟨⟨va9, vb9, rfl, hgot⟩, hb9⟩
  obtain ⟨a9, c9, rfl⟩ := own_shape5 hgot.1
  obtain ⟨b9, d9, rfl⟩ := own_shape5 hgot.2
  have HG9 := hide (HG8.out.below hb9)
  have HK9 := hide (HK8.out.later hb9)
  clear hgot hb9 HG8 HK8 HB8
  go_wp2_with (refine wpList_store_at rfl 28 (.tmp 13) (.tmp 62) rfl w9.heap.size #[.int .i64 0, .int .u64 0, .int .i64 0, .int .u64 0, .int .i64 0, .int .i64 0, .int .i64 0, .string ⟨#[]⟩, .string ⟨#[]⟩, .int .u64 0, .int .i64 0, .int .u64 0, .slice none 0 0, .slice none 0 0] (rcA Rec.zero (.slice a9 Rec.zero.ts.length c9) (.slice b9 Rec.zero.ds.length d9)) rfl rfl (RowAt.new w9 28 #[.int .i64 0, .int .u64 0, .int .i64 0, .int .u64 0, .int .i64 0, .int .i64 0, .int .i64 0, .string ⟨#[]⟩, .string ⟨#[]⟩, .int .u64 0, .int .i64 0, .int .u64 0, .slice none 0 0, .slice none 0 0]) infoRc rfl (by simp [rcA, Value.oneCell']) ?_)
  intro w10 _ hk10 _
  have hb10 := hk10 _ _ ((Below.refl w9.heap.size w9).alloc (Nat.le_refl _) _) (Nat.le_refl _)
  have HG10 := hide (HG9.out.below hb10)
  have HK10 := hide (HK9.out.later hb10)
  clear hk10 hb10 HG9 HK9
  generalize w9.heap.size = g9 at *
  have c0 := HK10.out.1.1.cell 0 (.int .i64 r.k) rfl
  have c1 := HK10.out.1.1.cell 1 (.int .u64 (r.l : Int)) rfl
  have c2 := HK10.out.1.1.cell 2 (.int .i64 r.t) rfl
  have c3 := HK10.out.1.1.cell 3 (.int .u64 (r.p : Int)) rfl
  have c4 := HK10.out.1.1.cell 4 (.int .i64 r.c.k) rfl
  have c5 := HK10.out.1.1.cell 5 (.int .i64 r.c.pg) rfl
  have c6 := HK10.out.1.1.cell 6 (.int .i64 r.c.sl) rfl
  have c7 := HK10.out.1.1.cell 7 (.string r.c.o) rfl
  have c8 := HK10.out.1.1.cell 8 (.string r.c.n) rfl
  have c9 := HK10.out.1.1.cell 9 (.int .u64 (r.n : Int)) rfl
  have c10 := HK10.out.1.1.cell 10 (.int .i64 r.s) rfl
  have c11 := HK10.out.1.1.cell 11 (.int .u64 (r.b : Int)) rfl
  have c12 := HK10.out.1.1.cell 12 (.slice av r.ts.length cv) rfl
  have c13 := HK10.out.1.1.cell 13 (.slice au r.ds.length cu) rfl
  have d0 := HK10.out.1.2.1.cell 0 (.int .i64 r.k) rfl
  have d1 := HK10.out.1.2.1.cell 1 (.int .u64 (r.l : Int)) rfl
  have d2 := HK10.out.1.2.1.cell 2 (.int .i64 r.t) rfl
  have d3 := HK10.out.1.2.1.cell 3 (.int .u64 (r.p : Int)) rfl
  have d4 := HK10.out.1.2.1.cell 4 (.int .i64 r.c.k) rfl
  have d5 := HK10.out.1.2.1.cell 5 (.int .i64 r.c.pg) rfl
  have d6 := HK10.out.1.2.1.cell 6 (.int .i64 r.c.sl) rfl
  have d7 := HK10.out.1.2.1.cell 7 (.string r.c.o) rfl
  have d8 := HK10.out.1.2.1.cell 8 (.string r.c.n) rfl
  have d9 := HK10.out.1.2.1.cell 9 (.int .u64 (r.n : Int)) rfl
  have d10 := HK10.out.1.2.1.cell 10 (.int .i64 r.s) rfl
  have d11 := HK10.out.1.2.1.cell 11 (.int .u64 (r.b : Int)) rfl
  have d12 := HK10.out.1.2.1.cell 12 (.slice e1 r.ts.length cap1) rfl
  have d13 := HK10.out.1.2.1.cell 13 (.slice e2 r.ds.length cap2) rfl
  have HS := hide (same_at r r (.slice av r.ts.length cv) (.slice au r.ds.length cu) (.slice e1 r.ts.length cap1) (.slice e2 r.ds.length cap2) w10 true (hide ⟨fun _ => rfl, fun _ => rfl⟩) HFI.out HFI.out HG10.out (HIN.out.below HK10.out.2))
  go_wp2_with fail
  refine HS.out.mono ?_
  rintro e w11 ⟨rfl, hb11⟩
  have dd := (HK10.out.later hb11).2
  clear HK10 HG10 HS hb11 HIN HFI c0 c1 c2 c3 c4 c5 c6 c7 c8 c9 c10 c11 c12 c13 d0 d1 d2 d3 d4 d5 d6 d7 d8 d9 d10 d11 d12 d13
  go_wp2
  go_ret
  exact ⟨rfl, dd⟩

theorem walk (m : Rec × Value × Value) (a1 a2 : Int) (w : World) (hf : m.1.fits) (hin : RcIn w m.1 m.2.1 m.2.2) (h1 : (Lit.int .u64 a1).wf = true) (h2 : (Lit.int .u8 a2).wf = true) :
    Calls Try.prog 5 #[.agg (rcA m.1 m.2.1 m.2.2), .int .u64 a1, .int .u8 a2] w fun e w' => e = .returned (.bool true) ∧ Below w.heap.size w w' := by
  by_cases hr : m.1.right
  · have b1 := bounds_u64 h1
    have b2 : 0 ≤ a2 ∧ a2 ≤ 255 := by
      simp [Lit.wf, IntKind.min, IntKind.max, IntKind.signed, IntKind.bits] at h2
      omega
    obtain ⟨cut, rfl⟩ := Int.eq_ofNat_of_zero_le b1.1
    obtain ⟨y, rfl⟩ := Int.eq_ofNat_of_zero_le b2.1
    have hy : ((UInt8.ofNat y).toNat : Int) = (y : Int) := by
      rw [toNat_ofNat]
      omega
    have h := yes m.1 m.2.1 m.2.2 cut (UInt8.ofNat y) w hr (by omega) hf hin
    rw [hy] at h
    exact h
  · exact no m.1 m.2.1 m.2.2 a1 a2 w hr hf hin
end Go.Proofs.Ytmapgfakfeddmaa.recordBack

namespace Go.Proofs.Ytmapgfakfeddmaa.recordBack
open Go.ChangeShapes Go.WideShapes Go.ChangeAt Go.RowKit
open Go.ChangeMaps (open_string shut_string)
set_option linter.unusedVariables false

theorem laidOut : laidOutB Try.prog = true := by kernel_rfl
theorem own : ownKnob Try.prog.godebug = none := by kernel_rfl

set_option maxRecDepth 100000 in
theorem lifted (os : Os) (started : os.Started) (H : Type) (enc : TypeId × Value → H) :
    ReturnsInHanded {} Try.checked os 5 .any (Rows.recordBackSpec.pre6 enc Try.prog Try.f5 Rows.recordBackRow.domain false) (Rows.recordBackSpec.post enc Try.prog Try.f5 false true false false) := by
  refine returnsInHanded_of_change_sized (C := Try.checked) own started (by kernel_rfl) Try.func5
    (ChangeSpec.witness6 (enc := enc) (C := Try.checked) false ⟨#[], #[.agg #[.int .i64 0, .int .u64 0, .int .i64 0, .int .u64 0, .int .i64 0, .int .i64 0, .int .i64 0, .string ByteArray.empty, .string ByteArray.empty, .int .u64 0, .int .i64 0, .int .u64 0, .slice none 0 0, .slice none 0 0], .int .u64 0, .int .u8 0], []⟩ 8 (by kernel_rfl) (by kernel_rfl) (by kernel_rfl) (by kernel_rfl)) ?_
  intro W base args ds gs before hval0 hW hcnd hsz0 _
  have hval : ∀ (j : Nat) t v, Try.f5.params[j]? = some t → args[j]? = some v → Value.okWide Try.prog W .any base t v := hval0
  have hsz : (DataW.weightsEach Try.prog (Try.f5.params.toList ++ Rows.recordBackSpec.plain.varTypes Try.prog) (ds ++ gs)).all (· ≤ reachBytes) = true := hsz0
  have hW' := hW
  obtain ⟨p, q, hA0, hV, rfl, hfz, hnd⟩ := hW
  have hA : DataW.TrodAll enc Try.prog W 0 (fun _ => true) true Try.f5.params.toList args.toList ds p := hA0
  rw [Try.params5] at hA hval hsz
  obtain ⟨v0, vs0, d0, ds0, p0, q0, hargs, rfl, rfl, h0, r0⟩ := trodAll_cons hA
  obtain ⟨v1, vs1, d1, ds1, p1, q1, rfl, rfl, rfl, h1, r1⟩ := trodAll_cons r0
  obtain ⟨v2, vs2, d2, ds2, p2, q2, rfl, rfl, rfl, h2, r2⟩ := trodAll_cons r1
  obtain ⟨rfl, rfl, rfl⟩ := trodAll_nil r2
  obtain rfl : args = #[v0, v1, v2] := by cases args; simp_all
  obtain ⟨rfl, rfl⟩ := trodVars_none hV
  have k0 := h0
  have lt0 := trod_places h0
  obtain ⟨a1, rfl, rfl, rfl, w1⟩ := open_int Try.underlying44 (hval 1 44 v1 rfl rfl) h1
  obtain ⟨a2, rfl, rfl, rfl, w2⟩ := open_int Try.underlying5 (hval 2 5 v2 rfl rfl) h2
  obtain ⟨m0, rfl, w0a, w0b⟩ := op_record (hval 0 28 v0 rfl rfl) h0
  clear hA0 hval0 hsz0 hsz
  refine (walk m0 a1 a2 W w0a w0b w1 w2).mono fun e W' ⟨he, bel⟩ => ?_
  subst he
  exact ⟨_, rfl, _, _, _, [], _, [], hW', trodAll_mk1 (shut_bool Try.underlying4 _), (trodAll_cons_mk (Below.trod laidOut (by kernel_rfl) (of_decide_eq_true (by kernel_rfl)) k0 bel lt0) (trodAll_cons_mk (shut_int Try.underlying44 w1) (trodAll_cons_mk (shut_int Try.underlying5 w2) trodAll_mk0))), rfl, bel.frame _, fun h => by cases h⟩

theorem over : Rows.recordBackRow.holds Try.pinned (OpenSpec.ofChange Rows.recordBackSpec) :=
  OpenClaim.holds_of_wide 5 Try.f5 rfl rfl rfl rfl rfl rfl rfl ⟨rfl, rfl, rfl, rfl, rfl⟩ rfl rfl rfl rfl rfl (by kernel_rfl) Try.func5 (by kernel_rfl)
    (of_decide_eq_true (by kernel_rfl)) (by unfold Func.isWrapper; first | (rw [if_pos (by decide +kernel)]; kernel_rfl) | (rw [if_neg (by decide +kernel)]; exact ⟨rfl, rfl⟩))
    (fun os started H enc _ => lifted os started H enc)

/-- THE STATEMENT. -/
theorem proved : Rows.RecordBackSaid := over
end Go.Proofs.Ytmapgfakfeddmaa.recordBack
namespace Go.Proofs.Ytmapgfakfeddmaa
theorem recordBack_proved : Rows.RecordBackSaid := recordBack.proved
end Go.Proofs.Ytmapgfakfeddmaa
