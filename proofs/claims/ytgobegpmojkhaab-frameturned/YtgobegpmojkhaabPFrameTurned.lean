/-
  FrameTurned: with bits turned within 32 side by side, behind the two bytes of its length, a frame isn't taken: its sum is wrong. FrameTurned returns true for every input, and its arguments read as before.
  Condition: none but those that the form of every such statement bears by itself (each string within the reach).
-/
import Derived.OpenShut
import Derived.Test.YtgobegpmojkhaabRows
import Derived.ProofKit
import Derived.ShutString
import Derived.SizedLaws
import Derived.JoinedCond
import Derived.Test.YtgobegpmojkhaabK05
import Derived.Test.YtgobegpmojkhaabK06
import Derived.Test.YtgobegpmojkhaabK04

/-
  The walk of FrameTurned: it returns true, and turns nothing that was there.
-/
namespace Go.Proofs.Ytgobegpmojkhaab.frameTurned
open Go.RowKit
set_option linter.unusedVariables false

theorem rec_pos (r : Rec) : 0 < (recB r).length := by
  unfold recB
  simp only [List.length_append, beB_length]
  omega
theorem tb (t j : Nat) (ht : t < 2 ^ 32) : (bits .and .u32 ((t : Int) / 2 ^ j) 1 == 1) = t.testBit j := by
  have e : (t : Int) / 2 ^ j = ((t / 2 ^ j : Nat) : Int) := by simp
  have hl : t / 2 ^ j < 4294967296 := Nat.lt_of_le_of_lt (Nat.div_le_self _ _) ht
  have e1 : (1 : Int) = ((1 : Nat) : Int) := rfl
  rw [e, e1, u32_and_nat _ _ hl (by omega), nat_mask1, Nat.testBit_eq_decide_div_mod_eq]
  generalize t / 2 ^ j = q
  rw [Bool.eq_iff_iff]
  simp only [beq_iff_eq, decide_eq_true_eq]
  omega
theorem flip_cell (x : UInt8) (r : Nat) (hr : r < 8) : bits .xor .u8 (x.toNat : Int) ((2 : Int) ^ r % 256) = ((x ^^^ UInt8.ofNat (2 ^ r)).toNat : Int) := by
  have hp : 2 ^ r < 256 := Nat.pow_lt_pow_right (a := 2) (m := r) (n := 8) (by omega) hr
  have e1 : (2 : Int) ^ r % 256 = ((2 ^ r : Nat) : Int) := by
    have e2 : (2 : Int) ^ r = ((2 ^ r : Nat) : Int) := by simp
    rw [e2]
    exact Int.emod_eq_of_lt (Int.natCast_nonneg _) (Int.ofNat_lt.2 hp)
  rw [e1, u8_xor_nat _ _ x.toNat_lt hp, UInt8.toNat_xor, toNat_ofNat, Nat.mod_eq_of_lt hp]
theorem toV_set (L : List UInt8) (q : Nat) (y : UInt8) : (toV L).set q (.int .u8 (y.toNat : Int)) = toV (L.set q y) := by simp [toV, List.map_set]
/-- A round of the loop, with the place counted from the record's first byte. -/
theorem fl_step (S : List UInt8) (k t j : Nat) : fl S (k + 16) t (j + 1) = if t.testBit j then (fl S (k + 16) t j).set (2 + (k + j) / 8) ((fl S (k + 16) t j).getD (2 + (k + j) / 8) 0 ^^^ UInt8.ofNat (2 ^ ((k + j) % 8))) else fl S (k + 16) t j := by
  have e1 : 2 + (k + j) / 8 = (k + 16 + j) / 8 := by omega
  have e2 : (k + j) % 8 = (k + 16 + j) % 8 := by omega
  rw [e1, e2]
  rfl

set_option maxRecDepth 4000 in
set_option maxHeartbeats 1600000 in
theorem zero (A : Array Value) (p : Int) (w : World) :
    Calls Try.prog 4 #[.agg A, .int .u64 p, .int .u32 0] w fun e w' => e = .returned (.bool true) ∧ Below w.heap.size w w' := by
  have hb0 : Below w.heap.size w (w.alloc (.cells A 28)) := (Below.refl _ _).alloc (Nat.le_refl _) _
  have HB0 := hide hb0
  clear hb0
  go_enter Try.func4, Try.ntmps4
  go_wp2_with fail
  refine (awake7_any _).mono ?_
  rintro e w1 ⟨rfl, hb1⟩
  have HB1 := hide (HB0.out.trans (hb1.mono HB0.out.size))
  clear HB0 hb1
  go_wp2_with fail
  refine (awake7_any _).mono ?_
  rintro e w2 ⟨rfl, hb2⟩
  have d := HB1.out.trans (hb2.mono HB1.out.size)
  clear HB1 hb2
  go_wp2
  go_ret
  exact ⟨rfl, d⟩

set_option maxRecDepth 4000 in
set_option maxHeartbeats 3200000 in
theorem no (r : Rec) (va vb : Value) (p t : Nat) (w : World) (hr : ¬ r.right) (hf : r.fits) (hin : RcIn w r va vb) (h0 : t ≠ 0) :
    Calls Try.prog 4 #[.agg (rcA r va vb), .int .u64 (p : Int), .int .u32 (t : Int)] w fun e w' => e = .returned (.bool true) ∧ Below w.heap.size w w' := by
  have ht0 : ((t : Int) == 0) = false := by simpa using h0
  have HIN := hide hin
  have HE := hide (fun w h => fput_no r va vb w hr hf h)
  obtain ⟨⟨e1, cap1, rfl, -⟩, ⟨e2, cap2, rfl, -⟩⟩ := hin
  have HK0 := hide (Keeps.one w 28 (rcA r (.slice e1 r.ts.length cap1) (.slice e2 r.ds.length cap2)))
  clear hf hr
  go_enter Try.func4, Try.ntmps4
  go_wp2_with fail
  refine gen_calls (fun x => Hid (Keeps w x [(w.heap.size, 28, (rcA r (.slice e1 r.ts.length cap1) (.slice e2 r.ds.length cap2)))])) HK0 ?_
  clear HK0
  intro x0 HK0
  refine (awake7_any _).mono ?_
  rintro e w1 ⟨rfl, hb1⟩
  have HK1 := hide (HK0.out.later hb1)
  clear HK0 hb1
  go_wp2_with (refine wpList_load_at rfl 28 (.tmp 3) rfl w.heap.size rfl (rcA r (.slice e1 r.ts.length cap1) (.slice e2 r.ds.length cap2)) HK1.out.1.1 _ Try.underlying28 rfl infoRc ?_)
  refine (HE.out _ (HIN.out.below HK1.out.2)).mono ?_
  rintro e wa ⟨rfl, hba⟩
  have d := (HK1.out.later hba).2
  clear HK1 hba HE HIN
  go_wp2
  go_ret
  exact ⟨rfl, d⟩

set_option maxRecDepth 4000 in
set_option maxHeartbeats 6400000 in
theorem yes (r : Rec) (va vb : Value) (p t : Nat) (w : World) (hr : r.right) (hf : r.fits) (hin : RcIn w r va vb) (hp : p < 18446744073709551616) (ht : t < 2 ^ 32) (h0 : t ≠ 0) :
    Calls Try.prog 4 #[.agg (rcA r va vb), .int .u64 (p : Int), .int .u32 (t : Int)] w fun e w' => e = .returned (.bool true) ∧ Below w.heap.size w w' := by
  have ht0 : ((t : Int) == 0) = false := by simpa using h0
  have HIN := hide hin
  have HE := hide (fun w h => fput_ok r va vb w hr hf h)
  have HTT := hide (fun k hk => take_turned r hr k t ht h0 hk)
  have HTS := hide (fun k hk => scan_turned r hr k t ht h0 hk)
  have HSA := hide (fun w ua ub (h1 : RcIn w Rec.zero ua ub) => rsame_at Rec.zero Rec.zero ua ub (.slice none 0 0) (.slice none 0 0) w true (hide ⟨fun _ => rfl, fun _ => rfl⟩) zero_rec_fits zero_rec_fits h1 (zero_got 0 w).rc)
  have hfl := frameB_length r
  have hfew := rec_few r hr
  obtain ⟨⟨e1, cap1, rfl, -⟩, ⟨e2, cap2, rfl, -⟩⟩ := hin
  have HK0 := hide (Keeps.one w 28 (rcA r (.slice e1 r.ts.length cap1) (.slice e2 r.ds.length cap2)))
  have hpos := rec_pos r
  clear hf hr
  generalize frameB r = S at *
  have hlb : S.length ≤ 1006 := by omega
  have hl7 : 7 ≤ S.length := by omega
  clear hfl hfew hpos
  obtain ⟨lf, hlf⟩ : ∃ lf, S.length = lf := ⟨_, rfl⟩
  rw [hlf] at HE HTT HTS hlb hl7
  have HLF := hide hlf
  clear hlf
  obtain ⟨k, hk, hkle⟩ : ∃ k : Nat, (p : Int) % (8 * ((lf : Int) - 2) - 31) = (k : Int) ∧ k + 48 ≤ 8 * lf := by
    refine ⟨p % (8 * (lf - 6) + 1), ?_, ?_⟩
    · have e : (8 * ((lf : Int) - 2) - 31) = ((8 * (lf - 6) + 1 : Nat) : Int) := by omega
      rw [e]
      exact (Int.natCast_emod p (8 * (lf - 6) + 1)).symm
    · have := Nat.mod_lt p (show 0 < 8 * (lf - 6) + 1 by omega)
      omega
  have HT1 := hide (HTT.out k hkle)
  have HT2 := hide (HTS.out k hkle)
  clear HTT HTS
  go_enter Try.func4, Try.ntmps4
  go_wp2_with fail
  refine gen_calls (fun x => Hid (Keeps w x [(w.heap.size, 28, (rcA r (.slice e1 r.ts.length cap1) (.slice e2 r.ds.length cap2)))])) HK0 ?_
  clear HK0
  intro x0 HK0
  refine (awake7_any _).mono ?_
  rintro e w1 ⟨rfl, hb1⟩
  have HK1 := hide (HK0.out.later hb1)
  clear HK0 hb1
  go_wp2_with (refine wpList_load_at rfl 28 (.tmp 3) rfl w.heap.size rfl (rcA r (.slice e1 r.ts.length cap1) (.slice e2 r.ds.length cap2)) HK1.out.1.1 _ Try.underlying28 rfl infoRc ?_)
  refine (HE.out _ (HIN.out.below HK1.out.2)).mono ?_
  rintro e w2 ⟨v2, rfl, hown2, hb2⟩
  obtain ⟨g, cap, rfl, hg⟩ := own_slice hown2 (by omega)
  have hgw : w.heap.size ≤ g := Nat.le_trans HK1.out.2.size hg
  have c2 := (HK1.out.later hb2).2
  clear HK1 hb2 HE HIN hg
  have hge : ¬ (lf : Int) < 7 := by omega
  go_wp2
  clear hk
  go_loopw [10] (fun i wr => ∃ j : Nat, j ≤ 32 ∧ i = .int .i64 j ∧ wr.ownsRow w1.heap.size 5 1 (.slice (some ⟨g, 0, none⟩) lf cap) lf (toV (fl S (k + 16) t j)) ∧ Below w.heap.size w wr) (fun i _ => 32 - (intOf i).toNat)
  case atStart => exact ⟨0, Nat.zero_le _, rfl, hown2, c2⟩
  case round =>
    obtain ⟨j, hj, rfl, hownr, hbr⟩ := hrel
    clear hown2 c2
    by_cases hlt : j < 32
    · have hq : 2 + (k + j) / 8 < lf := by omega
      have hfl : (fl S (k + 16) t j).length = lf := by rw [fl_length]; exact HLF.out
      have hcj : wr.cell? ⟨g, 2 + (k + j) / 8, none⟩ = some (.int .u8 (((fl S (k + 16) t j).getD (2 + (k + j) / 8) 0).toNat : Int)) := (hownr.cellAt (2 + (k + j) / 8) (by omega)).trans (toV_get _ (2 + (k + j) / 8) (by rw [hfl]; exact hq))
      have hfs := fl_step S k t j
      generalize (fl S (k + 16) t j).getD (2 + (k + j) / 8) 0 = x at hcj hfs
      have HF := hide hfs
      have HT := hide (tb t j ht)
      clear hfs hfl
      have hfj : wr.frozen? ⟨g, 2 + (k + j) / 8, none⟩ = false := hownr.frozenAt _
      go_wp2
      · have hbit : t.testBit j = true := by rw [← HT.out]; assumption
        have hst := (hownr.stored (2 + (k + j) / 8) (.int .u8 ((x ^^^ UInt8.ofNat (2 ^ ((k + j) % 8))).toNat : Int))).1
        have hfs := HF.out
        rw [if_pos hbit] at hfs
        rw [toV_set, ← hfs, ← flip_cell x ((k + j) % 8) (by omega)] at hst
        go_roundw
        case rel => exact ⟨j + 1, by omega, by go_num, hst, hbr.setCell (by exact hgw) _⟩
        case measure => simp [intOf]; omega
      · have hbit : t.testBit j = false := by rw [← HT.out]; assumption
        have hfs := HF.out
        rw [hbit] at hfs
        have hfe : fl S (k + 16) t (j + 1) = fl S (k + 16) t j := hfs
        go_roundw
        case rel => exact ⟨j + 1, by omega, by go_num, by rw [hfe]; exact hownr, hbr⟩
        case measure => simp [intOf]; omega
    · obtain rfl : j = 32 := by omega
      have hB := hownr.isB (by rw [fl_length]; exact HLF.out)
      have hcap := own_cap hownr
      have T := ftake_any (some ⟨g, 0, none⟩) lf cap _ 0 wr hB (by omega) hcap
      rw [HT1.out] at T
      have HT := hide T
      have HB := hide hB
      clear T hB hownr HT1
      go_wp2_with fail
      refine HT.out.mono ?_
      rintro e w5 ⟨⟨va5, vb5, rfl, hgot⟩, hb5⟩
      obtain ⟨av, cv, rfl⟩ := own_shape5 hgot.1
      obtain ⟨au, cu, rfl⟩ := own_shape5 hgot.2
      have HG5 := hide hgot
      have HB5 := hide (HB.out.below hb5)
      have HD5 := hide (hbr.trans (hb5.mono hbr.size))
      clear hgot hb5 HB HT hbr
      go_wp2_with (refine wpList_store_at rfl 28 (.tmp 11) (.tmp 76) rfl w5.heap.size zeroA (rcA Rec.zero (.slice av Rec.zero.ts.length cv) (.slice au Rec.zero.ds.length cu)) rfl rfl (RowAt.new w5 28 zeroA) infoRc rfl (by simp [rcA, Value.oneCell']) ?_)
      intro w6 hr6 hk6 _
      have hb6 := hk6 _ _ ((Below.refl w5.heap.size w5).alloc (Nat.le_refl _) _) (Nat.le_refl _)
      have HG6 := hide (HG5.out.below hb6).rc
      have HB6 := hide (HB5.out.below hb6)
      have HD6 := hide (HD5.out.trans (hb6.mono HD5.out.size))
      have HR6 := hide hr6
      have hlt6 := hr6.lt
      clear hr6 hk6 hb6 HG5 HB5 HD5
      generalize w5.heap.size = g6 at *
      have T6 := scan7_any (some ⟨g, 0, none⟩) lf cap _ w6 HB6.out (by omega) hcap
      unfold ScanAns at T6
      rw [HT2.out] at T6
      have HS := hide T6
      clear T6 HT2 HB6
      go_wp2_with fail
      refine HS.out.mono ?_
      rintro e w7 ⟨v7, ms, rfl, hms, hown7, -, hb7⟩
      have hl7' : ms.length = 0 := by
        have := congrArg List.length hms
        simpa [msR] using this
      obtain ⟨a7, c7', rfl⟩ := own_shape5 hown7
      rw [hl7']
      have hz : decide ((0 : Nat) = lf) = false := by rw [decide_eq_false_iff_not]; omega
      have HG7 := hide (HG6.out.below hb7)
      have hr7 := HR6.out.below hb7 hlt6
      have HD7 := hide (HD6.out.trans (hb7.mono HD6.out.size))
      clear hms hown7 hb7 HS HG6 HR6 HD6 hl7'
      have c0 := hr7.cell 0 (.int .i64 0) rfl
      have c1 := hr7.cell 1 (.int .u64 0) rfl
      have c2 := hr7.cell 2 (.int .i64 0) rfl
      have c3 := hr7.cell 3 (.int .u64 0) rfl
      have c4 := hr7.cell 4 (.int .i64 0) rfl
      have c5 := hr7.cell 5 (.int .i64 0) rfl
      have c6 := hr7.cell 6 (.int .i64 0) rfl
      have c7 := hr7.cell 7 (.string ⟨#[]⟩) rfl
      have c8 := hr7.cell 8 (.string ⟨#[]⟩) rfl
      have c9 := hr7.cell 9 (.int .u64 0) rfl
      have c10 := hr7.cell 10 (.int .i64 0) rfl
      have c11 := hr7.cell 11 (.int .u64 0) rfl
      have c12 := hr7.cell 12 (.slice av 0 cv) rfl
      have c13 := hr7.cell 13 (.slice au 0 cu) rfl
      simp only [hz]
      go_wp2_with fail
      refine (HSA.out w7 _ _ HG7.out).mono ?_
      rintro e w8 ⟨rfl, hb8⟩
      have d8 := HD7.out.trans (hb8.mono HD7.out.size)
      clear HD7 hb8 HG7 HSA hr7 c0 c1 c2 c3 c4 c5 c6 c7 c8 c9 c10 c11 c12 c13
      go_wp2
      go_ret
      exact ⟨rfl, d8⟩

theorem walk (m : Rec × Value × Value) (a1 a2 : Int) (w : World) (hf : m.1.fits) (hin : RcIn w m.1 m.2.1 m.2.2) (w1 : (Lit.int .u64 a1).wf = true) (w2 : (Lit.int .u32 a2).wf = true) :
    Calls Try.prog 4 #[.agg (rcA m.1 m.2.1 m.2.2), .int .u64 a1, .int .u32 a2] w fun e w' => e = .returned (.bool true) ∧ Below w.heap.size w w' := by
  have b1 := bounds_u64 w1
  have b2 := bounds_u32 w2
  by_cases h0 : a2 = 0
  · subst h0
    exact zero _ a1 w
  · obtain ⟨p, rfl⟩ := Int.eq_ofNat_of_zero_le b1.1
    obtain ⟨t, rfl⟩ := Int.eq_ofNat_of_zero_le b2.1
    by_cases hr : m.1.right
    · exact yes m.1 _ _ p t w hr hf hin (by omega) (by omega) (by omega)
    · exact no m.1 _ _ p t w hr hf hin (by omega)
end Go.Proofs.Ytgobegpmojkhaab.frameTurned

namespace Go.Proofs.Ytgobegpmojkhaab.frameTurned
open Go.ChangeShapes Go.WideShapes Go.ChangeAt Go.RowKit
open Go.ChangeMaps (open_string shut_string)
set_option linter.unusedVariables false

theorem laidOut : laidOutB Try.prog = true := by kernel_rfl
theorem own : ownKnob Try.prog.godebug = none := by kernel_rfl

set_option maxRecDepth 100000 in
theorem lifted (os : Os) (started : os.Started) (H : Type) (enc : TypeId × Value → H) :
    ReturnsInHanded {} Try.checked os 4 .any (Rows.frameTurnedSpec.pre6 enc Try.prog Try.f4 Rows.frameTurnedRow.domain false) (Rows.frameTurnedSpec.post enc Try.prog Try.f4 false true false false) := by
  refine returnsInHanded_of_change_sized (C := Try.checked) own started (by kernel_rfl) Try.func4
    (ChangeSpec.witness6 (enc := enc) (C := Try.checked) false ⟨#[], #[.agg #[.int .i64 0, .int .u64 0, .int .i64 0, .int .u64 0, .int .i64 0, .int .i64 0, .int .i64 0, .string ByteArray.empty, .string ByteArray.empty, .int .u64 0, .int .i64 0, .int .u64 0, .slice none 0 0, .slice none 0 0], .int .u64 0, .int .u32 0], []⟩ 8 (by kernel_rfl) (by kernel_rfl) (by kernel_rfl) (by kernel_rfl)) ?_
  intro W base args ds gs before hval0 hW hcnd hsz0 _
  have hval : ∀ (j : Nat) t v, Try.f4.params[j]? = some t → args[j]? = some v → Value.okWide Try.prog W .any base t v := hval0
  have hsz : (DataW.weightsEach Try.prog (Try.f4.params.toList ++ Rows.frameTurnedSpec.plain.varTypes Try.prog) (ds ++ gs)).all (· ≤ reachBytes) = true := hsz0
  have hW' := hW
  obtain ⟨p, q, hA0, hV, rfl, hfz, hnd⟩ := hW
  have hA : DataW.TrodAll enc Try.prog W 0 (fun _ => true) true Try.f4.params.toList args.toList ds p := hA0
  rw [Try.params4] at hA hval hsz
  obtain ⟨v0, vs0, d0, ds0, p0, q0, hargs, rfl, rfl, h0, r0⟩ := trodAll_cons hA
  obtain ⟨v1, vs1, d1, ds1, p1, q1, rfl, rfl, rfl, h1, r1⟩ := trodAll_cons r0
  obtain ⟨v2, vs2, d2, ds2, p2, q2, rfl, rfl, rfl, h2, r2⟩ := trodAll_cons r1
  obtain ⟨rfl, rfl, rfl⟩ := trodAll_nil r2
  obtain rfl : args = #[v0, v1, v2] := by cases args; simp_all
  obtain ⟨rfl, rfl⟩ := trodVars_none hV
  have k0 := h0
  have lt0 := trod_places h0
  obtain ⟨a1, rfl, rfl, rfl, w1⟩ := open_int Try.underlying40 (hval 1 40 v1 rfl rfl) h1
  obtain ⟨a2, rfl, rfl, rfl, w2⟩ := open_int Try.underlying41 (hval 2 41 v2 rfl rfl) h2
  obtain ⟨m0, rfl, w0a, w0b⟩ := op_record (hval 0 28 v0 rfl rfl) h0
  clear hA0 hval0 hsz0 hsz
  refine (walk m0 a1 a2 W w0a w0b w1 w2).mono fun e W' ⟨he, bel⟩ => ?_
  subst he
  exact ⟨_, rfl, _, _, _, [], _, [], hW', trodAll_mk1 (shut_bool Try.underlying4 _), (trodAll_cons_mk (Below.trod laidOut (by kernel_rfl) (of_decide_eq_true (by kernel_rfl)) k0 bel lt0) (trodAll_cons_mk (shut_int Try.underlying40 w1) (trodAll_cons_mk (shut_int Try.underlying41 w2) trodAll_mk0))), rfl, bel.frame _, fun h => by cases h⟩

theorem over : Rows.frameTurnedRow.holds Try.pinned (OpenSpec.ofChange Rows.frameTurnedSpec) :=
  OpenClaim.holds_of_wide 4 Try.f4 rfl rfl rfl rfl rfl rfl rfl ⟨rfl, rfl, rfl, rfl, rfl⟩ rfl rfl rfl rfl rfl (by kernel_rfl) Try.func4 (by kernel_rfl)
    (of_decide_eq_true (by kernel_rfl)) (by unfold Func.isWrapper; first | (rw [if_pos (by decide +kernel)]; kernel_rfl) | (rw [if_neg (by decide +kernel)]; exact ⟨rfl, rfl⟩))
    (fun os started H enc _ => lifted os started H enc)

/-- THE STATEMENT. -/
theorem proved : Rows.FrameTurnedSaid := over
end Go.Proofs.Ytgobegpmojkhaab.frameTurned
namespace Go.Proofs.Ytgobegpmojkhaab
theorem frameTurned_proved : Rows.FrameTurnedSaid := frameTurned.proved
end Go.Proofs.Ytgobegpmojkhaab
