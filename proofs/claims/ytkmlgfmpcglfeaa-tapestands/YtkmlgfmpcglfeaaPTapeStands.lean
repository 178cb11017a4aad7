/-
  Behind any crash stands what stood fast, and a beginning of what was appended behind it. TapeStands returns true for every input, and its arguments read as before.
  Condition: none but those that the form of every such statement bears by itself (each string within the reach).
-/
import Derived.Test.YtkmlgfmpcglfeaaRows
import Derived.ProofKit
import Derived.OpenShut
import Derived.ShutString
import Derived.SizedLaws
import Derived.JoinedCond
import Derived.Test.YtkmlgfmpcglfeaaK00
import Derived.Test.YtkmlgfmpcglfeaaK01

/-
  The walk of TapeStands: it returns true, and turns nothing that was there.
-/
namespace Go.Proofs.Ytkmlgfmpcglfeaa.tapeStands
open Go.RowKit
set_option linter.unusedVariables false

theorem app_f (t : Tp) (x : ByteArray) : (t.app x).1.f = t.f := by
  unfold Tp.app
  split
  · rfl
  · rfl

set_option maxRecDepth 4000 in
set_option maxHeartbeats 1600000 in
theorem long (r k : Int) (a1 a2 : Option Addr) (l1 c1 l2 c2 : Nat) (w : World) (h : 200 < l1 ∨ 200 < l2) :
    Calls Try.prog 5 #[.int .i64 r, .slice a1 l1 c1, .slice a2 l2 c2, .int .i64 k] w fun e w' => e = .returned (.bool true) ∧ Below w.heap.size w w' := by
  by_cases h1 : (200 : Int) < (l1 : Int)
  all_goals by_cases h2 : (200 : Int) < (l2 : Int)
  all_goals first | (exfalso; omega) | skip
  all_goals
    clear h
    go_enter Try.func5, Try.ntmps5
    go_wp2_with fail
    refine (awake8_any _).mono ?_
    rintro e w1 ⟨rfl, hb1⟩
    go_wp2_with fail
    refine (awake8_any _).mono ?_
    rintro e w2 ⟨rfl, hb2⟩
    have HB := hide (hb1.trans (hb2.mono hb1.size))
    clear hb1 hb2
    go_wp2
    go_ret
    exact ⟨rfl, HB.out⟩

set_option maxRecDepth 4000 in
set_option maxHeartbeats 3200000 in
theorem core (r k : Int) (a1 a2 : Option Addr) (c1 c2 : Nat) (fs ms : List ByteArray) (w : World) (hI1 : RowsIn stA ⟨#[]⟩ 1 w (.slice a1 fs.length c1) fs) (hI2 : RowsIn stA ⟨#[]⟩ 1 w (.slice a2 ms.length c2) ms) (hc1 : fs.length ≤ c1) (hc2 : ms.length ≤ c2) (hl1 : fs.length ≤ 200) (hl2 : ms.length ≤ 200) :
    Calls Try.prog 5 #[.int .i64 r, .slice a1 fs.length c1, .slice a2 ms.length c2, .int .i64 k] w fun e w' => e = .returned (.bool true) ∧ Below w.heap.size w w' := by
  have HI1 := hide (sts_cell hI1)
  have HI2 := hide (sts_cell hI2)
  obtain ⟨n1, hn1⟩ : ∃ n, n = fs.length := ⟨_, rfl⟩
  obtain ⟨n2, hn2⟩ : ∃ n, n = ms.length := ⟨_, rfl⟩
  rw [← hn1] at HI1 hc1 hl1
  rw [← hn2] at HI2 hc2 hl2
  rw [← hn1, ← hn2]
  have e1 : ¬ (200 : Int) < (n1 : Int) := by omega
  have e2 : ¬ (200 : Int) < (n2 : Int) := by omega
  clear hI1 hI2 hn1 hn2
  go_enter Try.func5, Try.ntmps5
  go_wp2_with fail
  refine (awake8_any _).mono ?_
  rintro e w1 ⟨rfl, hb1⟩
  have HB1 := hide hb1
  clear hb1
  go_wp2_with fail
  refine (knew8 r w w1 HB1.out).mono ?_
  rintro e w2 ⟨rfl, hk2, -⟩
  obtain ⟨gt, hgt⟩ : ∃ gt, gt = w1.heap.size := ⟨_, rfl⟩
  have H2 := hide hk2
  rw [← hgt] at H2 ⊢
  clear hk2 HB1 hgt
  go_wp2
  go_loopw [35] (fun i wr => ∃ (j : Nat) (t : Tp), j ≤ n1 ∧ i = .int .i64 j ∧ K8 w wr gt t ∧ True) (fun i _ => n1 - (intOf i).toNat)
  case atStart => exact ⟨0, _, Nat.zero_le _, rfl, H2.out, trivial⟩
  case round =>
    obtain ⟨j, t, hj, rfl, hrest⟩ := hrel
    have H3 := hide hrest
    clear hrest H2
    by_cases hlt : j < n1
    · obtain ⟨b, off, rfl, hbl, hcell⟩ := HI1.out (by omega)
      have hcj := hcell j hlt
      obtain ⟨x, hx⟩ : ∃ x, x = fs.getD j ⟨#[]⟩ := ⟨_, rfl⟩
      rw [← hx] at hcj
      have c0 := (H3.out.1.bel.cell (p := ⟨b, off + j, none⟩) hbl).trans hcj
      have hjI : (j : Int) < (n1 : Int) := by omega
      clear hcj hx hcell
      by_cases hz : (65537 : Int) < (x.size : Int)
      · go_wp2
        go_ret
        exact ⟨rfl, H3.out.1.bel⟩
      · have hcv := fun w => Lib.run_convert_string_bytes (P := Try.prog) w 9 29 5 x Try.underlying9 Try.underlying29 Try.underlying5
        go_wp2_with fail
        have hib := isB_conv wr 5 x
        have T := kapp8 w _ gt t (H3.out.1.later (below_conv wr 5 x)) _ x.size (grownCap wr x.size 0 5) _ hib (fun h => nomatch h) (by omega)
        rw [mk_self] at T
        refine T.mono ?_
        clear T hib hcv
        rintro e w4 ⟨rfl, hk4⟩
        have H4 := hide hk4
        clear hk4 c0
        go_wp2
        go_roundw
        case rel => exact ⟨j + 1, (t.app x).1, by omega, by go_num, H4.out, trivial⟩
        case measure => simp [intOf]; omega
    · obtain rfl : j = n1 := by omega
      go_wp2_with fail
      refine (ksync8 w wr gt t H3.out.1).mono ?_
      rintro e w4 ⟨rfl, hk4⟩
      have H4 := hide hk4
      clear hk4 H3
      obtain ⟨N, hN⟩ : ∃ N, N = t.b.size := ⟨_, rfl⟩
      have HN := hide (show t.sync.f = N from hN.symm)
      go_wp2_with fail
      refine (klen8 w w4 gt t.sync H4.out).mono ?_
      rintro e w5 ⟨rfl, rfl⟩
      rw [show t.sync.b.size = N from hN.symm]
      generalize t.sync = t1 at H4 HN
      clear hN
      go_wp2
      go_loopw [59] (fun i wr => ∃ (j : Nat) (t : Tp), j ≤ n2 ∧ i = .int .i64 j ∧ K8 w wr gt t ∧ t.f = N) (fun i _ => n2 - (intOf i).toNat)
      case atStart => exact ⟨0, _, Nat.zero_le _, rfl, H4.out, HN.out⟩
      case round =>
        obtain ⟨j, t, hj, rfl, hrest⟩ := hrel
        have H6 := hide hrest
        have H3F := hide hrest.2
        clear hrest H4 HN
        by_cases hlt : j < n2
        · obtain ⟨b, off, rfl, hbl, hcell⟩ := HI2.out (by omega)
          have hcj := hcell j hlt
          obtain ⟨x, hx⟩ : ∃ x, x = ms.getD j ⟨#[]⟩ := ⟨_, rfl⟩
          rw [← hx] at hcj
          have c0 := (H6.out.1.bel.cell (p := ⟨b, off + j, none⟩) hbl).trans hcj
          have hjI : (j : Int) < (n2 : Int) := by omega
          clear hcj hx hcell
          by_cases hz : (65537 : Int) < (x.size : Int)
          · go_wp2
            go_ret
            exact ⟨rfl, H6.out.1.bel⟩
          · have hcv := fun w => Lib.run_convert_string_bytes (P := Try.prog) w 9 29 5 x Try.underlying9 Try.underlying29 Try.underlying5
            go_wp2_with fail
            have hib := isB_conv wr 5 x
            have T := kapp8 w _ gt t (H6.out.1.later (below_conv wr 5 x)) _ x.size (grownCap wr x.size 0 5) _ hib (fun h => nomatch h) (by omega)
            rw [mk_self] at T
            refine T.mono ?_
            clear T hib hcv
            rintro e w7 ⟨rfl, hk7⟩
            have H7 := hide hk7
            clear hk7 c0
            go_wp2
            go_roundw
            case rel => exact ⟨j + 1, (t.app x).1, by omega, by go_num, H7.out, (by rw [app_f]; exact H3F.out)⟩
            case measure => simp [intOf]; omega
        · obtain rfl : j = n2 := by omega
          have hfN := H6.out.2
          have hsN : N ≤ t.b.size := by rw [← hfN]; exact H6.out.1.ok.fast
          have hsm : t.b.size ≤ 65536 := Nat.le_trans H6.out.1.ok.few H6.out.1.ok.room
          go_wp2_with fail
          refine (kbytes8 w wr gt t H6.out.1).mono ?_
          rintro e w7 ⟨v7, rfl, ho7, hk7, -⟩
          obtain ⟨a7, c7, rfl, -, hB7⟩ := shape_isB ho7
          have k7 := run_toString (P := Try.prog) w7 29 9 5 Try.underlying29 Try.underlying5 Try.underlying9 a7 _ c7 _ hB7
          rw [mk_self] at k7
          have H7 := hide hk7
          have HF := hide hfN
          have hsI : ¬ (t.b.size : Int) < (N : Int) := by omega
          clear ho7 hk7 hB7 H6 H3F hfN
          go_wp2_with fail
          refine (ksynced8 w w7 gt t H7.out).mono ?_
          rintro e w8 ⟨rfl, rfl⟩
          rw [HF.out]
          go_wp2_with fail
          refine (kcrash8 w w7 gt t H7.out k).mono ?_
          rintro e w8 ⟨rfl, hk8⟩
          have H8 := hide hk8
          clear hk8 H7 k7
          obtain ⟨R, hR, eR⟩ : ∃ R : Nat, t.b.size = N + R ∧ (t.b.size : Int) - (N : Int) = (R : Int) := ⟨t.b.size - N, by omega, by omega⟩
          have HRR := hide hR
          by_cases g0 : k ≤ 0
          · by_cases g2 : k < (R : Int)
            · have g3 : ¬ (0 : Int) < k := by omega
              have hM : t.crash k = ⟨t.b.extract 0 (N), N, t.m, t.s⟩ := by
                have hf := HF.out
                have e : t.left k = N := by
                  unfold Tp.left
                  rw [hf]
                  omega
                unfold Tp.crash
                rw [e]
              have hxb : (t.b.extract 0 (N)).size = N := by rw [ByteArray.size_extract]; omega
              rw [hM] at H8
              go_wp2_with fail
              refine (kbytes8 w w8 gt _ H8.out).mono ?_
              rintro e w9 ⟨v9, rfl, ho9, hk9, -⟩
              simp only at ho9
              rw [hxb] at ho9
              obtain ⟨a9, c9, rfl, -, hB9⟩ := shape_isB ho9
              have k9 := run_toString (P := Try.prog) w9 29 9 5 Try.underlying29 Try.underlying5 Try.underlying9 a9 _ c9 _ hB9
              rw [mk_self] at k9
              have H9 := hide hk9
              clear ho9 hk9 hB9 H8 hM
              go_wp2_with fail
              refine (ksynced8 w w9 gt _ H9.out).mono ?_
              rintro e w10 ⟨rfl, rfl⟩
              have HXB := hide hxb
              clear hxb
              simp only
              go_wp2_with fail
              refine (klen8 w w9 gt _ H9.out).mono ?_
              rintro e w10 ⟨rfl, rfl⟩
              simp only [HXB.out]
              go_wp2
              go_ret
              exact ⟨rfl, H9.out.bel⟩
            · obtain rfl : k = 0 := by omega
              obtain rfl : R = 0 := by omega
              have hM : t.crash 0 = ⟨t.b.extract 0 (N), N, t.m, t.s⟩ := by
                have hf := HF.out
                have e : t.left 0 = N := by
                  unfold Tp.left
                  rw [hf]
                  omega
                unfold Tp.crash
                rw [e]
              have hxb : (t.b.extract 0 (N)).size = N := by rw [ByteArray.size_extract]; omega
              rw [hM] at H8
              go_wp2_with fail
              refine (kbytes8 w w8 gt _ H8.out).mono ?_
              rintro e w9 ⟨v9, rfl, ho9, hk9, -⟩
              simp only at ho9
              rw [hxb] at ho9
              obtain ⟨a9, c9, rfl, -, hB9⟩ := shape_isB ho9
              have k9 := run_toString (P := Try.prog) w9 29 9 5 Try.underlying29 Try.underlying5 Try.underlying9 a9 _ c9 _ hB9
              rw [mk_self] at k9
              have H9 := hide hk9
              clear ho9 hk9 hB9 H8 hM
              go_wp2_with fail
              refine (ksynced8 w w9 gt _ H9.out).mono ?_
              rintro e w10 ⟨rfl, rfl⟩
              have HXB := hide hxb
              clear hxb
              simp only
              go_wp2_with fail
              refine (klen8 w w9 gt _ H9.out).mono ?_
              rintro e w10 ⟨rfl, rfl⟩
              simp only [HXB.out]
              go_wp2
              go_ret
              exact ⟨rfl, H9.out.bel⟩
          · by_cases g1 : (R : Int) < k
            · by_cases g3 : 0 < R
              · have g4 : (0 : Int) < (R : Int) := by omega
                have hM : t.crash k = ⟨t.b.extract 0 (N + R), N + R, t.m, t.s⟩ := by
                  have hf := HF.out
                  have e : t.left k = N + R := by
                    unfold Tp.left
                    rw [hf]
                    omega
                  unfold Tp.crash
                  rw [e]
                have hxb : (t.b.extract 0 (N + R)).size = N + R := by rw [ByteArray.size_extract]; omega
                rw [hM] at H8
                go_wp2_with fail
                refine (kbytes8 w w8 gt _ H8.out).mono ?_
                rintro e w9 ⟨v9, rfl, ho9, hk9, -⟩
                simp only at ho9
                rw [hxb] at ho9
                obtain ⟨a9, c9, rfl, -, hB9⟩ := shape_isB ho9
                have k9 := run_toString (P := Try.prog) w9 29 9 5 Try.underlying29 Try.underlying5 Try.underlying9 a9 _ c9 _ hB9
                rw [mk_self] at k9
                have H9 := hide hk9
                clear ho9 hk9 hB9 H8 hM
                go_wp2_with fail
                refine (ksynced8 w w9 gt _ H9.out).mono ?_
                rintro e w10 ⟨rfl, rfl⟩
                have HXB := hide hxb
                clear hxb
                simp only
                go_wp2_with fail
                refine (klen8 w w9 gt _ H9.out).mono ?_
                rintro e w10 ⟨rfl, rfl⟩
                simp only [HXB.out]
                go_wp2
                go_ret
                exact ⟨rfl, H9.out.bel⟩
              · obtain rfl : R = 0 := by omega
                have g4 : ¬ k < 0 := by omega
                have hM : t.crash k = ⟨t.b.extract 0 (N), N, t.m, t.s⟩ := by
                  have hf := HF.out
                  have e : t.left k = N := by
                    unfold Tp.left
                    rw [hf]
                    omega
                  unfold Tp.crash
                  rw [e]
                have hxb : (t.b.extract 0 (N)).size = N := by rw [ByteArray.size_extract]; omega
                rw [hM] at H8
                go_wp2_with fail
                refine (kbytes8 w w8 gt _ H8.out).mono ?_
                rintro e w9 ⟨v9, rfl, ho9, hk9, -⟩
                simp only at ho9
                rw [hxb] at ho9
                obtain ⟨a9, c9, rfl, -, hB9⟩ := shape_isB ho9
                have k9 := run_toString (P := Try.prog) w9 29 9 5 Try.underlying29 Try.underlying5 Try.underlying9 a9 _ c9 _ hB9
                rw [mk_self] at k9
                have H9 := hide hk9
                clear ho9 hk9 hB9 H8 hM
                go_wp2_with fail
                refine (ksynced8 w w9 gt _ H9.out).mono ?_
                rintro e w10 ⟨rfl, rfl⟩
                have HXB := hide hxb
                clear hxb
                simp only
                go_wp2_with fail
                refine (klen8 w w9 gt _ H9.out).mono ?_
                rintro e w10 ⟨rfl, rfl⟩
                simp only [HXB.out]
                go_wp2
                go_ret
                exact ⟨rfl, H9.out.bel⟩
            · obtain ⟨q, rfl⟩ := Int.eq_ofNat_of_zero_le (show 0 ≤ k by omega)
              have hM : t.crash (q : Int) = ⟨t.b.extract 0 (N + q), N + q, t.m, t.s⟩ := by
                have hf := HF.out
                have e : t.left (q : Int) = N + q := by
                  unfold Tp.left
                  rw [hf]
                  omega
                unfold Tp.crash
                rw [e]
              have hxb : (t.b.extract 0 (N + q)).size = N + q := by rw [ByteArray.size_extract]; omega
              rw [hM] at H8
              go_wp2_with fail
              refine (kbytes8 w w8 gt _ H8.out).mono ?_
              rintro e w9 ⟨v9, rfl, ho9, hk9, -⟩
              simp only at ho9
              rw [hxb] at ho9
              obtain ⟨a9, c9, rfl, -, hB9⟩ := shape_isB ho9
              have k9 := run_toString (P := Try.prog) w9 29 9 5 Try.underlying29 Try.underlying5 Try.underlying9 a9 _ c9 _ hB9
              rw [mk_self] at k9
              have H9 := hide hk9
              clear ho9 hk9 hB9 H8 hM
              go_wp2_with fail
              refine (ksynced8 w w9 gt _ H9.out).mono ?_
              rintro e w10 ⟨rfl, rfl⟩
              have HXB := hide hxb
              clear hxb
              simp only
              go_wp2_with fail
              refine (klen8 w w9 gt _ H9.out).mono ?_
              rintro e w10 ⟨rfl, rfl⟩
              simp only [HXB.out]
              go_wp2
              go_ret
              exact ⟨rfl, H9.out.bel⟩
theorem walk (r : Int) (v1 : Value) (fs : List ByteArray) (v2 : Value) (ms : List ByteArray) (k : Int) (w : World) (hr : (Lit.int .i64 r).wf = true) (h1 : RowsIn stA ⟨#[]⟩ 1 w v1 fs) (h2 : fs.length ≤ maxLen) (h3 : ∀ s ∈ fs, s.size ≤ maxLen) (h4 : ∀ a len cap, v1 = .slice a len cap → len ≤ cap)
    (i1 : RowsIn stA ⟨#[]⟩ 1 w v2 ms) (i2 : ms.length ≤ maxLen) (i3 : ∀ s ∈ ms, s.size ≤ maxLen) (i4 : ∀ a len cap, v2 = .slice a len cap → len ≤ cap) (hk : (Lit.int .i64 k).wf = true) :
    Calls Try.prog 5 #[.int .i64 r, v1, v2, .int .i64 k] w fun e w' => e = .returned (.bool true) ∧ Below w.heap.size w w' := by
  have h1' := h1
  obtain ⟨a1, c1, rfl, -⟩ := h1'
  have i1' := i1
  obtain ⟨a2, c2, rfl, -⟩ := i1'
  by_cases h : 200 < fs.length ∨ 200 < ms.length
  · exact long r k a1 a2 _ c1 _ c2 w h
  · exact core r k a1 a2 c1 c2 fs ms w h1 i1 (h4 _ _ _ rfl) (i4 _ _ _ rfl) (by omega) (by omega)
end Go.Proofs.Ytkmlgfmpcglfeaa.tapeStands

namespace Go.Proofs.Ytkmlgfmpcglfeaa.tapeStands
open Go.ChangeShapes Go.WideShapes Go.ChangeAt Go.RowKit
open Go.ChangeMaps (open_string shut_string)
set_option linter.unusedVariables false

theorem laidOut : laidOutB Try.prog = true := by kernel_rfl
theorem own : ownKnob Try.prog.godebug = none := by kernel_rfl

set_option maxRecDepth 100000 in
theorem lifted (os : Os) (started : os.Started) (H : Type) (enc : TypeId × Value → H) :
    ReturnsInHanded {} Try.checked os 5 .any (Rows.tapeStandsSpec.pre6 enc Try.prog Try.f5 Rows.tapeStandsRow.domain false) (Rows.tapeStandsSpec.post enc Try.prog Try.f5 false true false false) := by
  refine returnsInHanded_of_change_sized (C := Try.checked) own started (by kernel_rfl) Try.func5
    (ChangeSpec.witness6 (enc := enc) (C := Try.checked) false ⟨#[], #[.int .i64 0, .slice none 0 0, .slice none 0 0, .int .i64 0], []⟩ 8 (by kernel_rfl) (by kernel_rfl) (by kernel_rfl) (by kernel_rfl)) ?_
  intro W base args ds gs before hval0 hW hcnd hsz0 _
  have hval : ∀ (j : Nat) t v, Try.f5.params[j]? = some t → args[j]? = some v → Value.okWide Try.prog W .any base t v := hval0
  have hsz : (DataW.weightsEach Try.prog (Try.f5.params.toList ++ Rows.tapeStandsSpec.plain.varTypes Try.prog) (ds ++ gs)).all (· ≤ reachBytes) = true := hsz0
  have hW' := hW
  obtain ⟨p, q, hA0, hV, rfl, hfz, hnd⟩ := hW
  have hA : DataW.TrodAll enc Try.prog W 0 (fun _ => true) true Try.f5.params.toList args.toList ds p := hA0
  rw [Try.params5] at hA hval hsz
  obtain ⟨v0, vs0, d0, ds0, p0, q0, hargs, rfl, rfl, h0, r0⟩ := trodAll_cons hA
  obtain ⟨v1, vs1, d1, ds1, p1, q1, rfl, rfl, rfl, h1, r1⟩ := trodAll_cons r0
  obtain ⟨v2, vs2, d2, ds2, p2, q2, rfl, rfl, rfl, h2, r2⟩ := trodAll_cons r1
  obtain ⟨v3, vs3, d3, ds3, p3, q3, rfl, rfl, rfl, h3, r3⟩ := trodAll_cons r2
  obtain ⟨rfl, rfl, rfl⟩ := trodAll_nil r3
  obtain rfl : args = #[v0, v1, v2, v3] := by cases args; simp_all
  obtain ⟨rfl, rfl⟩ := trodVars_none hV
  obtain ⟨a0, rfl, rfl, rfl, w0⟩ := open_int Try.underlying3 (hval 0 3 v0 rfl rfl) h0
  have k1 := h1
  have lt1 := trod_places h1
  have k2 := h2
  have lt2 := trod_places h2
  obtain ⟨a3, rfl, rfl, rfl, w3⟩ := open_int Try.underlying3 (hval 3 3 v3 rfl rfl) h3
  obtain ⟨m1, w1a, w1b, w1c, w1d⟩ := op_sts (hval 1 42 v1 rfl rfl) h1
  obtain ⟨m2, w2a, w2b, w2c, w2d⟩ := op_sts (hval 2 42 v2 rfl rfl) h2
  clear hA0 hval0 hsz0 hsz
  refine (walk a0 v1 m1 v2 m2 a3 W w0 w1a w1b w1c w1d w2a w2b w2c w2d w3).mono fun e W' ⟨he, bel⟩ => ?_
  subst he
  exact ⟨_, rfl, _, _, _, [], _, [], hW', trodAll_mk1 (shut_bool Try.underlying4 _), (trodAll_cons_mk (shut_int Try.underlying3 w0) (trodAll_cons_mk (Below.trod laidOut (by kernel_rfl) (of_decide_eq_true (by kernel_rfl)) k1 bel lt1) (trodAll_cons_mk (Below.trod laidOut (by kernel_rfl) (of_decide_eq_true (by kernel_rfl)) k2 bel lt2) (trodAll_cons_mk (shut_int Try.underlying3 w3) trodAll_mk0)))), rfl, bel.frame _, fun h => by cases h⟩

theorem over : Rows.tapeStandsRow.holds Try.pinned (OpenSpec.ofChange Rows.tapeStandsSpec) :=
  OpenClaim.holds_of_wide 5 Try.f5 rfl rfl rfl rfl rfl rfl rfl ⟨rfl, rfl, rfl, rfl, rfl⟩ rfl rfl rfl rfl rfl (by kernel_rfl) Try.func5 (by kernel_rfl)
    (of_decide_eq_true (by kernel_rfl)) (by unfold Func.isWrapper; first | (rw [if_pos (by decide +kernel)]; kernel_rfl) | (rw [if_neg (by decide +kernel)]; exact ⟨rfl, rfl⟩))
    (fun os started H enc _ => lifted os started H enc)

/-- THE STATEMENT. -/
theorem proved : Rows.TapeStandsSaid := over
end Go.Proofs.Ytkmlgfmpcglfeaa.tapeStands
namespace Go.Proofs.Ytkmlgfmpcglfeaa
theorem tapeStands_proved : Rows.TapeStandsSaid := tapeStands.proved
end Go.Proofs.Ytkmlgfmpcglfeaa
