/-
  Whatever is written, cut off, mended and read, each answer is the document's, and so are all places at the end. StorePlays returns true for every input, and its arguments read as before.
  Condition: none but those that the form of every such statement bears by itself (each string within the reach).
-/
import Derived.Test.YtfeghhgniahfkaaRows
import Derived.ProofKit
import Derived.OpenShut
import Derived.ShutString
import Derived.SizedLaws
import Derived.JoinedCond
import Derived.Test.YtfeghhgniahfkaaK03
import Derived.Test.YtfeghhgniahfkaaK02

/-
  The walk of StorePlays: it returns true, and turns nothing that was there.
-/
namespace Go.Proofs.Ytfeghhgniahfkaa.storePlays
open Go.RowKit
set_option linter.unusedVariables false

set_option maxRecDepth 4000 in
set_option maxHeartbeats 1600000 in
theorem walk (f : Int) (v : Value) (cs : List Oc) (w : World) (wf : (Lit.int .i64 f).wf = true) (h1 : RowsIn ocA Oc.zero 21 w v cs) (h2 : cs.length ≤ maxLen) (h3 : ∀ c ∈ cs, c.fits) (h4 : ∀ a len cap, v = .slice a len cap → len ≤ cap) :
    Calls Try.prog 3 #[.int .i64 f, v] w fun e w' => e = .returned (.bool true) ∧ Below w.heap.size w w' := by
  have h' := h1
  obtain ⟨a, cap, rfl, -⟩ := h'
  have hs : Scr10 w (.slice a cs.length cap) cs := ⟨h1, h3, h4⟩
  have hcap := h4 _ _ _ rfl
  obtain ⟨ln, hln⟩ : ∃ ln, cs.length = ln := ⟨_, rfl⟩
  rw [hln] at hs h2 hcap ⊢
  have HS := hide hs
  have HL := hide hln
  clear h1 h3 h4 hs hln
  go_enter Try.func3, Try.ntmps3
  go_wp2_with fail
  refine (awake10 _).mono ?_
  rintro e w1 ⟨rfl, hb1⟩
  by_cases hl : 200 < ln
  · have hl2 : (200 : Int) < (ln : Int) := by omega
    go_wp2_with fail
    refine (awake10 _).mono ?_
    rintro e w2 ⟨rfl, hb2⟩
    go_wp2
    go_ret
    exact ⟨rfl, hb1.trans (hb2.mono hb1.size)⟩
  have hl2 : ¬ (200 : Int) < (ln : Int) := by omega
  have HB1 := hide hb1
  clear hb1
  go_wp2_with fail
  refine (knew10 f w w1 HB1.out).mono ?_
  rintro e w2 ⟨gs, rfl, h, -⟩
  have H2 := hide h
  clear h
  go_wp2_with fail
  refine (rnew10 f w2).mono ?_
  rintro e w3 ⟨gd, rfl, ⟨gp, c, cs', ps, hgp, hv⟩, hgd, hbl⟩
  have H3 := hide (show D10 w w3 gs gd (Sc.new (npg f)) (Sc.newD (npg f)) from ⟨⟨_, _, H2.out.later hbl⟩, ⟨gp, c, cs', ps, Nat.le_trans H2.out.bel.size hgp, hv⟩, Nat.le_trans H2.out.bel.size hgd, new_pr _, (npg_le f).1⟩)
  clear hgp hv hgd hbl H2 HB1
  go_wp2_with fail
  refine (alike10 H3.out).mono ?_
  rintro e w4 ⟨rfl, h4, -⟩
  have H4 := hide h4
  clear h4 H3
  go_wp2
  go_loopw [30] (fun v wr => ∃ (j : Nat) (s d : Sc), j ≤ ln ∧ v = .int .i64 j ∧ Hid (D10 w wr gs gd s d)) (fun v _ => ln - (intOf v).toNat)
  case atStart => exact ⟨0, _, _, Nat.zero_le _, rfl, H4⟩
  case round =>
    obtain ⟨j, s, d, hj, rfl, HK⟩ := hrel
    clear H4
    by_cases hlt : j < ln
    · have i1 : (j : Int) < ln := by omega
      obtain ⟨old, tr, hk⟩ := HK.out.k
      obtain ⟨b, off, rfl, hld, -⟩ := HS.out.at hk.bel (j := j) (by rw [HL.out]; exact hlt)
      have HLD := hide hld
      clear hld HS hk
      go_wp2_with (refine wpList_load_run rfl 37 _ rfl _ _ rfl HLD.out ?_)
      refine (does10 _ HK.out).mono ?_
      rintro e w5 ⟨rfl, s', d', h5⟩
      have H5 := hide h5
      clear h5 HK HLD
      go_wp2
      go_roundw
      case rel => exact ⟨j + 1, _, _, by omega, by go_num, H5⟩
      case measure => simp [intOf]; omega
    · have i1 : ¬ (j : Int) < ln := by omega
      go_wp2_with fail
      refine (alike10 HK.out).mono ?_
      rintro e w5 ⟨rfl, h5, -⟩
      have H5 := hide h5
      clear h5 HK
      go_wp2
      go_ret
      obtain ⟨old, tr, hk⟩ := H5.out.k
      exact ⟨rfl, hk.bel⟩
end Go.Proofs.Ytfeghhgniahfkaa.storePlays

namespace Go.Proofs.Ytfeghhgniahfkaa.storePlays
open Go.ChangeShapes Go.WideShapes Go.ChangeAt Go.RowKit
open Go.ChangeMaps (open_string shut_string)
set_option linter.unusedVariables false

theorem laidOut : laidOutB Try.prog = true := by kernel_rfl
theorem own : ownKnob Try.prog.godebug = none := by kernel_rfl

set_option maxRecDepth 100000 in
theorem lifted (os : Os) (started : os.Started) (H : Type) (enc : TypeId × Value → H) :
    ReturnsInHanded {} Try.checked os 3 .any (Rows.storePlaysSpec.pre6 enc Try.prog Try.f3 Rows.storePlaysRow.domain false) (Rows.storePlaysSpec.post enc Try.prog Try.f3 false true false false) := by
  refine returnsInHanded_of_change_sized (C := Try.checked) own started (by kernel_rfl) Try.func3
    (ChangeSpec.witness6 (enc := enc) (C := Try.checked) false ⟨#[], #[.int .i64 0, .slice none 0 0], []⟩ 8 (by kernel_rfl) (by kernel_rfl) (by kernel_rfl) (by kernel_rfl)) ?_
  intro W base args ds gs before hval0 hW hcnd hsz0 _
  have hval : ∀ (j : Nat) t v, Try.f3.params[j]? = some t → args[j]? = some v → Value.okWide Try.prog W .any base t v := hval0
  have hsz : (DataW.weightsEach Try.prog (Try.f3.params.toList ++ Rows.storePlaysSpec.plain.varTypes Try.prog) (ds ++ gs)).all (· ≤ reachBytes) = true := hsz0
  have hW' := hW
  obtain ⟨p, q, hA0, hV, rfl, hfz, hnd⟩ := hW
  have hA : DataW.TrodAll enc Try.prog W 0 (fun _ => true) true Try.f3.params.toList args.toList ds p := hA0
  rw [Try.params3] at hA hval hsz
  obtain ⟨v0, vs0, d0, ds0, p0, q0, hargs, rfl, rfl, h0, r0⟩ := trodAll_cons hA
  obtain ⟨v1, vs1, d1, ds1, p1, q1, rfl, rfl, rfl, h1, r1⟩ := trodAll_cons r0
  obtain ⟨rfl, rfl, rfl⟩ := trodAll_nil r1
  obtain rfl : args = #[v0, v1] := by cases args; simp_all
  obtain ⟨rfl, rfl⟩ := trodVars_none hV
  obtain ⟨a0, rfl, rfl, rfl, w0⟩ := open_int Try.underlying3 (hval 0 3 v0 rfl rfl) h0
  have k1 := h1
  have lt1 := trod_places h1
  obtain ⟨m1, w1a, w1b, w1c, w1d⟩ := op_ocs (hval 1 22 v1 rfl rfl) h1
  clear hA0 hval0 hsz0 hsz
  refine (walk a0 v1 m1 W w0 w1a w1b w1c w1d).mono fun e W' ⟨he, bel⟩ => ?_
  subst he
  exact ⟨_, rfl, _, _, _, [], _, [], hW', trodAll_mk1 (shut_bool Try.underlying4 _), (trodAll_cons_mk (shut_int Try.underlying3 w0) (trodAll_cons_mk (Below.trod laidOut (by kernel_rfl) (of_decide_eq_true (by kernel_rfl)) k1 bel lt1) trodAll_mk0)), rfl, bel.frame _, fun h => by cases h⟩

theorem over : Rows.storePlaysRow.holds Try.pinned (OpenSpec.ofChange Rows.storePlaysSpec) :=
  OpenClaim.holds_of_wide 3 Try.f3 rfl rfl rfl rfl rfl rfl rfl ⟨rfl, rfl, rfl, rfl, rfl⟩ rfl rfl rfl rfl rfl (by kernel_rfl) Try.func3 (by kernel_rfl)
    (of_decide_eq_true (by kernel_rfl)) (by unfold Func.isWrapper; first | (rw [if_pos (by decide +kernel)]; kernel_rfl) | (rw [if_neg (by decide +kernel)]; exact ⟨rfl, rfl⟩))
    (fun os started H enc _ => lifted os started H enc)

/-- THE STATEMENT. -/
theorem proved : Rows.StorePlaysSaid := over
end Go.Proofs.Ytfeghhgniahfkaa.storePlays
namespace Go.Proofs.Ytfeghhgniahfkaa
theorem storePlays_proved : Rows.StorePlaysSaid := storePlays.proved
end Go.Proofs.Ytfeghhgniahfkaa
