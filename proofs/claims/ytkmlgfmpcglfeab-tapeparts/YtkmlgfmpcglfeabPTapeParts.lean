/-
  Bytes that are appended in pieces are as if they had been appended at once. TapeParts returns true for every input, and its arguments read as before.
  Condition: none but those that the form of every such statement bears by itself (each string within the reach).
-/
import Derived.Test.YtkmlgfmpcglfeabRows
import Derived.ProofKit
import Derived.OpenShut
import Derived.ShutString
import Derived.SizedLaws
import Derived.JoinedCond
import Derived.Test.YtkmlgfmpcglfeabK00

/-
  The walk of TapeParts: it returns true, and turns nothing that was there.
-/
namespace Go.Proofs.Ytkmlgfmpcglfeab.tapeParts
open Go.RowKit
set_option linter.unusedVariables false

/-- The first texts, one behind the other. -/
def catS (ss : List ByteArray) : Nat → ByteArray
  | 0 => ⟨#[]⟩
  | j + 1 => catS ss j ++ ss.getD j ⟨#[]⟩
theorem cat_size (ss : List ByteArray) : ∀ j, (∀ i, i < j → (ss.getD i ⟨#[]⟩).size ≤ 300) → (catS ss j).size ≤ 300 * j
  | 0, _ => Nat.le_refl _
  | j + 1, h => by
    have h1 := cat_size ss j (fun i hi => h i (by omega))
    have h2 := h j (by omega)
    show (catS ss j ++ ss.getD j ⟨#[]⟩).size ≤ _
    rw [ByteArray.size_append]
    omega
/-- A tape of the greatest room with these bytes. -/
def tpOf (s : ByteArray) : Tp := ⟨s, 0, 65536, 0⟩
theorem tp_max : Tp.new 65536 = tpOf ⟨#[]⟩ := rfl
theorem tp_app (s x : ByteArray) (h : s.size + x.size ≤ 65536) : (tpOf s).app x = (tpOf (s ++ x), 0) := by
  unfold Tp.app
  rw [if_neg (by show ¬ 65536 < s.size + x.size; omega)]
  rfl

theorem run_add_s (a b : ByteArray) (h : a.size + b.size ≤ 100000) (x : World) : (binOp .add 9 (.string a) (.string b)).run Try.prog x = .ok (.string (a ++ b)) x := by
  simp [binOp, Op.stringOp]
  omega

set_option maxRecDepth 4000 in
set_option maxHeartbeats 1600000 in
theorem long (k : Int) (a : Option Addr) (l c : Nat) (w : World) (h : 200 < l) :
    Calls Try.prog 3 #[.slice a l c, .int .i64 k] w fun e w' => e = .returned (.bool true) ∧ Below w.heap.size w w' := by
  have h1 : (200 : Int) < (l : Int) := by omega
  clear h
  go_enter Try.func3, Try.ntmps3
  go_wp2_with fail
  refine (awake8_any _).mono ?_
  rintro e w1 ⟨rfl, hb1⟩
  go_wp2_with fail
  refine (awake8_any _).mono ?_
  rintro e w2 ⟨rfl, hb2⟩
  have HB := hide (hb1.trans (hb2.mono hb1.size))
  clear hb1 hb2
  go_wp2
  go_ret
  exact ⟨rfl, HB.out⟩

/-- The text of the one, then of the other. -/
theorem two_a (w0 w : World) (g h : Nat) (t u : Tp) (p : P8 w0 w g h t u) :
    Calls Try.prog 7 #[.pointer (some ⟨g, 0, none⟩)] w fun e w' => ∃ a c, e = .returned (.slice a t.b.size c) ∧ (convert 28 9 (.slice a t.b.size c)).run Try.prog w' = .ok (.string t.b) w' ∧ Hid (IsB w' a t.b.size t.b.data.toList ∧ P8 w0 w' g h t u) := by
  refine (pbytes8 w0 w g h t u p).mono ?_
  rintro e w' ⟨a, c, rfl, hB, hp, -⟩
  have k1 := run_toString (P := Try.prog) w' 28 9 5 Try.underlying28 Try.underlying5 Try.underlying9 a _ c _ hB
  rw [mk_self] at k1
  exact ⟨a, c, rfl, k1, hide ⟨hB, hp⟩⟩
theorem two_b (w0 w : World) (g h : Nat) (t u : Tp) (a : Option Addr) (c : Nat) (p : Hid (IsB w a t.b.size t.b.data.toList ∧ P8 w0 w g h t u)) :
    Calls Try.prog 7 #[.pointer (some ⟨h, 0, none⟩)] w fun e w' => ∃ a2 c2, e = .returned (.slice a2 u.b.size c2) ∧ (convert 28 9 (.slice a t.b.size c)).run Try.prog w' = .ok (.string t.b) w' ∧ (convert 28 9 (.slice a2 u.b.size c2)).run Try.prog w' = .ok (.string u.b) w' ∧ Hid (P8 w0 w' g h t u) := by
  refine (pbytes8 w0 w h g u t p.out.2.swap).mono ?_
  rintro e w' ⟨a2, c2, rfl, hB, hp, hb⟩
  have k1 := run_toString (P := Try.prog) w' 28 9 5 Try.underlying28 Try.underlying5 Try.underlying9 a2 _ c2 _ hB
  have k2 := run_toString (P := Try.prog) w' 28 9 5 Try.underlying28 Try.underlying5 Try.underlying9 a _ c _ (p.out.1.below hb)
  rw [mk_self] at k1 k2
  exact ⟨a2, c2, rfl, k2, k1, hide hp.swap⟩

set_option maxRecDepth 4000 in
set_option maxHeartbeats 3200000 in
theorem core (k : Int) (a : Option Addr) (c : Nat) (ss : List ByteArray) (w : World) (hI : RowsIn stA ⟨#[]⟩ 1 w (.slice a ss.length c) ss) (hc : ss.length ≤ c) (hl : ss.length ≤ 200) :
    Calls Try.prog 3 #[.slice a ss.length c, .int .i64 k] w fun e w' => e = .returned (.bool true) ∧ Below w.heap.size w w' := by
  have HI := hide (sts_cell hI)
  obtain ⟨n, hn⟩ : ∃ n, n = ss.length := ⟨_, rfl⟩
  rw [← hn] at HI hc hl
  rw [← hn]
  have e1 : ¬ (200 : Int) < (n : Int) := by omega
  clear hI hn
  go_enter Try.func3, Try.ntmps3
  go_wp2_with fail
  refine (awake8_any _).mono ?_
  rintro e w1 ⟨rfl, hb1⟩
  have HB1 := hide hb1
  clear hb1
  go_wp2
  go_loopw [20, 5] (fun i v wr => ∃ j : Nat, j ≤ n ∧ i = .int .i64 j ∧ v = .string (catS ss j) ∧ (∀ i, i < j → (ss.getD i ⟨#[]⟩).size ≤ 300) ∧ w1 = wr) (fun i _ _ => n - (intOf i).toNat)
  case atStart => exact ⟨0, Nat.zero_le _, rfl, rfl, fun i hi => absurd hi (Nat.not_lt_zero _), rfl⟩
  case round =>
    obtain ⟨j, hj, rfl, rfl, hsm, rfl⟩ := hrel
    have HS := hide hsm
    by_cases hlt : j < n
    · obtain ⟨b, off, rfl, hbl, hcell⟩ := HI.out (by omega)
      have hcj := hcell j hlt
      have hcs := cat_size ss j hsm
      have hnx : catS ss (j + 1) = catS ss j ++ ss.getD j ⟨#[]⟩ := rfl
      have HX := hide (fun h i (hi : i < j + 1) => show (ss.getD i ⟨#[]⟩).size ≤ 300 from if e : i = j then by rw [e]; exact h else hsm i (by omega))
      generalize ss.getD j ⟨#[]⟩ = x at hcj hnx HX
      have HN := hide hnx
      have c0 := (HB1.out.cell (p := ⟨b, off + j, none⟩) hbl).trans hcj
      have hjI : (j : Int) < (n : Int) := by omega
      clear hcj hcell hsm hnx
      generalize catS ss j = y at *
      by_cases hz : (300 : Int) < (x.size : Int)
      · go_wp2
        go_ret
        exact ⟨rfl, HB1.out⟩
      · have hadd := run_add_s y x (by omega)
        go_wp2
        go_roundw
        case rel => exact ⟨j + 1, by omega, by go_num, by rw [HN.out], HX.out (by omega), trivial⟩
        case measure => simp [intOf]; omega
    · obtain rfl : j = n := by omega
      have hcs := cat_size ss j hsm
      clear hsm
      go_wp2_with fail
      refine (new8_any 65536 w1).mono ?_
      rintro e w2 ⟨rfl, h2, hb2⟩
      obtain ⟨g, hg⟩ : ∃ g, g = w1.heap.size := ⟨_, rfl⟩
      rw [← hg] at h2 ⊢
      have H2 := hide (And.intro h2 hb2)
      have HGG := hide hg
      clear h2 hb2 hg
      go_wp2_with fail
      refine (new8_any 65536 w2).mono ?_
      rintro e w3 ⟨rfl, h3, hb3⟩
      obtain ⟨h, hh⟩ : ∃ h, h = w2.heap.size := ⟨_, rfl⟩
      rw [← hh] at h3 ⊢
      have hlt2 := H2.out.1.lt.1
      have hg := HGG.out
      have hw1 := HB1.out.size
      have hb12 : Below w.heap.size w w3 := (HB1.out.trans (H2.out.2.mono hw1)).trans (hb3.mono (HB1.out.trans (H2.out.2.mono hw1)).size)
      have h2' := H2.out.1.later hb3
      rw [tp_max] at h2' h3
      have hbw := (HB1.out.trans (H2.out.2.mono hw1)).size
      have hto : (tpOf ⟨#[]⟩).ok := tp_max ▸ Tp.new_ok 65536
      have H3 := hide (show P8 w w3 g h (tpOf ⟨#[]⟩) (tpOf ⟨#[]⟩) from ⟨hto, hto, ⟨g, h, by omega, by omega, h2', h3, by omega, by omega, by omega, by omega⟩, by omega, by omega, hb12⟩)
      clear h3 hb3 hh H2 hlt2 hw1 hb12 h2' hbw hto hg HB1 HGG
      obtain ⟨N, hN⟩ : ∃ N, N = j := ⟨_, rfl⟩
      obtain ⟨y, hy⟩ : ∃ y, y = catS ss N := ⟨_, rfl⟩
      rw [← hN] at HI hcs hl hc HS hj hlt e1 ⊢
      rw [← hy] at hcs ⊢
      have HY := hide hy
      clear hN hy hlt hj
      go_wp2
      go_loopw [46] (fun i wr => ∃ j : Nat, j ≤ N ∧ i = .int .i64 j ∧ P8 w wr g h (tpOf (catS ss j)) (tpOf ⟨#[]⟩)) (fun i _ => N - (intOf i).toNat)
      case atStart => exact ⟨0, Nat.zero_le _, rfl, H3.out⟩
      case round =>
        obtain ⟨j, hj, rfl, hrest⟩ := hrel
        have H4 := hide hrest
        clear hrest H3
        by_cases hlt : j < N
        · obtain ⟨b, off, rfl, hbl, hcell⟩ := HI.out (by omega)
          have hcj := hcell j hlt
          have hz := HS.out j hlt
          have hcj2 := cat_size ss j (fun i hi => HS.out i (by omega))
          have hnx : catS ss (j + 1) = catS ss j ++ ss.getD j ⟨#[]⟩ := rfl
          generalize ss.getD j ⟨#[]⟩ = x at hcj hnx hz
          have HN := hide hnx
          have c0 := (H4.out.bel.cell (p := ⟨b, off + j, none⟩) hbl).trans hcj
          have hjI : (j : Int) < (N : Int) := by omega
          have hcv := fun w => Lib.run_convert_string_bytes (P := Try.prog) w 9 28 5 x Try.underlying9 Try.underlying28 Try.underlying5
          clear hcj hcell hnx
          generalize catS ss j = z at *
          go_wp2_with fail
          have hib := isB_conv wr 5 x
          have T := papp8 w _ g h _ _ (H4.out.later (below_conv wr 5 x)) _ x.size (grownCap wr x.size 0 5) _ hib (fun h => nomatch h) (by omega)
          rw [mk_self, tp_app z x (by omega)] at T
          refine T.mono ?_
          clear T hib hcv
          rintro e w4 ⟨rfl, hk4⟩
          rw [← HN.out] at hk4
          have H5 := hide hk4
          clear hk4 c0 H4
          go_wp2
          go_roundw
          case rel => exact ⟨j + 1, by omega, by go_num, H5.out⟩
          case measure => simp [intOf]; omega
        · obtain rfl : j = N := by omega
          rw [← HY.out] at H4
          clear HY HS HI
          have hcv := fun w => Lib.run_convert_string_bytes (P := Try.prog) w 9 28 5 y Try.underlying9 Try.underlying28 Try.underlying5
          go_wp2_with fail
          have hib := isB_conv wr 5 y
          have T := papp8 w _ h g _ _ (H4.out.swap.later (below_conv wr 5 y)) _ y.size (grownCap wr y.size 0 5) _ hib (fun h => nomatch h) (by omega)
          rw [mk_self, tp_app ⟨#[]⟩ y (by show 0 + y.size ≤ 65536; omega), show (⟨#[]⟩ : ByteArray) ++ y = y from ByteArray.empty_append] at T
          refine T.mono ?_
          clear T hib hcv
          rintro e w4 ⟨rfl, hk4⟩
          have H5 := hide hk4.swap
          clear hk4 H4
          go_wp2_with fail
          refine (pbytes8 w w4 g h _ _ H5.out).mono ?_
          rintro e w5 ⟨a5, c5, rfl, hB5, hp5, -⟩
          have k5 := run_toString (P := Try.prog) w5 28 9 5 Try.underlying28 Try.underlying5 Try.underlying9 a5 _ c5 _ hB5
          rw [mk_self] at k5
          have H6 := hide hp5
          clear hp5 hB5 H5
          rw [show (tpOf y).b = y from rfl] at k5 ⊢
          go_wp2_with fail
          refine (pbytes8 w w5 h g _ _ H6.out.swap).mono ?_
          rintro e w6 ⟨a6, c6, rfl, hB6, hp6, -⟩
          have k6 := run_toString (P := Try.prog) w6 28 9 5 Try.underlying28 Try.underlying5 Try.underlying9 a6 _ c6 _ hB6
          rw [mk_self] at k6
          have H7 := hide hp6.swap
          clear hp6 hB6 H6 k5
          rw [show (tpOf y).b = y from rfl] at k6 ⊢
          go_wp2_with fail
          refine (pcrash8 w w6 g h _ _ H7.out k).mono ?_
          rintro e w7 ⟨rfl, hp7⟩
          have H8 := hide hp7
          clear hp7 H7 k6
          go_wp2_with fail
          refine (pcrash8 w w7 h g _ _ H8.out.swap k).mono ?_
          rintro e w8 ⟨rfl, hp8⟩
          have H9 := hide hp8.swap
          clear hp8 H8
          generalize (tpOf y).crash k = z at H9
          have HA := hide (two_a w w8.drew g h z z H9.out.drew)
          go_wp2_with fail
          go_region_with (first
            | (go_at_call 7; with_reducible refine HA.out.mono ?_; rintro e w9 ⟨a1, d1, rfl, k1, HA1⟩)
            | (go_at_call 7; with_reducible refine (two_b w w9 g h z z a1 d1 HA1).mono ?_; rintro e w10 ⟨a2, d2, rfl, k2, k3, HA2⟩)
            | (go_at_call 9; with_reducible refine (psynced8 w w10 g h z z HA2.out).mono ?_; rintro e w11 ⟨rfl, rfl⟩)
            | (go_at_call 9; with_reducible refine (psynced8 w w10 h g z z HA2.out.swap).mono ?_; rintro e w11 ⟨rfl, rfl⟩))
          all_goals
            go_wp2
            go_ret
            exact ⟨rfl, HA2.out.bel⟩
theorem walk (v : Value) (ss : List ByteArray) (k : Int) (w : World) (h1 : RowsIn stA ⟨#[]⟩ 1 w v ss) (h2 : ss.length ≤ maxLen) (h3 : ∀ s ∈ ss, s.size ≤ maxLen) (h4 : ∀ a len cap, v = .slice a len cap → len ≤ cap) (hk : (Lit.int .i64 k).wf = true) :
    Calls Try.prog 3 #[v, .int .i64 k] w fun e w' => e = .returned (.bool true) ∧ Below w.heap.size w w' := by
  have h1' := h1
  obtain ⟨a, c, rfl, -⟩ := h1'
  by_cases h : 200 < ss.length
  · exact long k a _ c w h
  · exact core k a c ss w h1 (h4 _ _ _ rfl) (by omega)
end Go.Proofs.Ytkmlgfmpcglfeab.tapeParts

namespace Go.Proofs.Ytkmlgfmpcglfeab.tapeParts
open Go.ChangeShapes Go.WideShapes Go.ChangeAt Go.RowKit
open Go.ChangeMaps (open_string shut_string)
set_option linter.unusedVariables false

theorem laidOut : laidOutB Try.prog = true := by kernel_rfl
theorem own : ownKnob Try.prog.godebug = none := by kernel_rfl

set_option maxRecDepth 100000 in
theorem lifted (os : Os) (started : os.Started) (H : Type) (enc : TypeId × Value → H) :
    ReturnsInHanded {} Try.checked os 3 .any (Rows.tapePartsSpec.pre6 enc Try.prog Try.f3 Rows.tapePartsRow.domain false) (Rows.tapePartsSpec.post enc Try.prog Try.f3 false true false false) := by
  refine returnsInHanded_of_change_sized (C := Try.checked) own started (by kernel_rfl) Try.func3
    (ChangeSpec.witness6 (enc := enc) (C := Try.checked) false ⟨#[], #[.slice none 0 0, .int .i64 0], []⟩ 8 (by kernel_rfl) (by kernel_rfl) (by kernel_rfl) (by kernel_rfl)) ?_
  intro W base args ds gs before hval0 hW hcnd hsz0 _
  have hval : ∀ (j : Nat) t v, Try.f3.params[j]? = some t → args[j]? = some v → Value.okWide Try.prog W .any base t v := hval0
  have hsz : (DataW.weightsEach Try.prog (Try.f3.params.toList ++ Rows.tapePartsSpec.plain.varTypes Try.prog) (ds ++ gs)).all (· ≤ reachBytes) = true := hsz0
  have hW' := hW
  obtain ⟨p, q, hA0, hV, rfl, hfz, hnd⟩ := hW
  have hA : DataW.TrodAll enc Try.prog W 0 (fun _ => true) true Try.f3.params.toList args.toList ds p := hA0
  rw [Try.params3] at hA hval hsz
  obtain ⟨v0, vs0, d0, ds0, p0, q0, hargs, rfl, rfl, h0, r0⟩ := trodAll_cons hA
  obtain ⟨v1, vs1, d1, ds1, p1, q1, rfl, rfl, rfl, h1, r1⟩ := trodAll_cons r0
  obtain ⟨rfl, rfl, rfl⟩ := trodAll_nil r1
  obtain rfl : args = #[v0, v1] := by cases args; simp_all
  obtain ⟨rfl, rfl⟩ := trodVars_none hV
  have k0 := h0
  have lt0 := trod_places h0
  obtain ⟨a1, rfl, rfl, rfl, w1⟩ := open_int Try.underlying3 (hval 1 3 v1 rfl rfl) h1
  obtain ⟨m0, w0a, w0b, w0c, w0d⟩ := op_sts (hval 0 22 v0 rfl rfl) h0
  clear hA0 hval0 hsz0 hsz
  refine (walk v0 m0 a1 W w0a w0b w0c w0d w1).mono fun e W' ⟨he, bel⟩ => ?_
  subst he
  exact ⟨_, rfl, _, _, _, [], _, [], hW', trodAll_mk1 (shut_bool Try.underlying4 _), (trodAll_cons_mk (Below.trod laidOut (by kernel_rfl) (of_decide_eq_true (by kernel_rfl)) k0 bel lt0) (trodAll_cons_mk (shut_int Try.underlying3 w1) trodAll_mk0)), rfl, bel.frame _, fun h => by cases h⟩

theorem over : Rows.tapePartsRow.holds Try.pinned (OpenSpec.ofChange Rows.tapePartsSpec) :=
  OpenClaim.holds_of_wide 3 Try.f3 rfl rfl rfl rfl rfl rfl rfl ⟨rfl, rfl, rfl, rfl, rfl⟩ rfl rfl rfl rfl rfl (by kernel_rfl) Try.func3 (by kernel_rfl)
    (of_decide_eq_true (by kernel_rfl)) (by unfold Func.isWrapper; first | (rw [if_pos (by decide +kernel)]; kernel_rfl) | (rw [if_neg (by decide +kernel)]; exact ⟨rfl, rfl⟩))
    (fun os started H enc _ => lifted os started H enc)

/-- THE STATEMENT. -/
theorem proved : Rows.TapePartsSaid := over
end Go.Proofs.Ytkmlgfmpcglfeab.tapeParts
namespace Go.Proofs.Ytkmlgfmpcglfeab
theorem tapeParts_proved : Rows.TapePartsSaid := tapeParts.proved
end Go.Proofs.Ytkmlgfmpcglfeab
