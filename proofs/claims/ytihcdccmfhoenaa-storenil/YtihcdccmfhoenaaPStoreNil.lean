/-
  A nil store, and the zero one, keep nothing. StoreNil returns true for every input, and its arguments read as before.
  Condition: none but those that the form of every such statement bears by itself (each string within the reach).
-/
import Derived.Test.YtihcdccmfhoenaaRows
import Derived.ProofKit
import Derived.OpenShut
import Derived.ShutString
import Derived.SizedLaws
import Derived.JoinedCond
import Derived.Test.YtihcdccmfhoenaaK02

/-
  The walk of StoreNil: it returns true, and turns nothing that was there.
-/
namespace Go.Proofs.Ytihcdccmfhoenaa.storeNil
open Go.RowKit
set_option linter.unusedVariables false

theorem z66 : ∃ Z : Array Value, Z = Try.zeroCells66 ∧ Z[0]? = some (.slice none 0 0) ∧ ∀ m, m < 8 → Z[1 + m * 258 + 257]? = some (.bool false) := by
  refine ⟨_, rfl, by kernel_rfl, fun m hm => ?_⟩
  rcases lt8 hm with rfl | rfl | rfl | rfl | rfl | rfl | rfl | rfl <;> kernel_rfl
/-- A store without pages: nil, or the zero one. -/
def Bare (v : Option Addr) (x : World) : Prop := v = none ∨ ∃ g Z, v = some ⟨g, 0, none⟩ ∧ RowAt x g 66 Z ∧ Z[0]? = some (.slice none 0 0) ∧ ∀ m, m < 8 → Z[1 + m * 258 + 257]? = some (.bool false)
theorem Bare.later {v : Option Addr} {x y : World} (h : Bare v x) (hb : Below x.heap.size x y) : Bare v y := by
  rcases h with h | ⟨g, Z, h1, h2, h3, h4⟩
  · exact .inl h
  · exact .inr ⟨g, Z, h1, h2.later hb, h3, h4⟩
theorem Bare.pages {v : Option Addr} {x : World} (h : Bare v x) : Calls Try.prog 14 #[.pointer v] x fun e w' => e = .returned (.int .i64 ((0 : Nat) : Int)) ∧ x = w' := by
  rcases h with rfl | ⟨g, Z, rfl, h2, h3, h4⟩
  · exact pages10_nil x
  · exact pages10_zero x g (h2.cell 0 _ h3)
set_option maxRecDepth 4000 in
set_option maxHeartbeats 400000 in
theorem Bare.out {v : Option Addr} {x : World} (h : Bare v x) (n : Int) : Calls Try.prog 17 #[.pointer v, .int .i64 n] x fun e w' => e = .returned (.bool false) ∧ x = w' := by
  rcases h with rfl | ⟨g, Z, rfl, h2, h3, h4⟩
  · exact out10_nil n x
  · have R := isNode10 n x
    by_cases h0 : 0 ≤ n ∧ n < 8
    · obtain ⟨k, rfl⟩ := Int.eq_ofNat_of_zero_le h0.1
      have c1 := h2.cell _ _ (h4 k (by omega))
      rw [decide_eq_true h0] at R
      have HR := hide R
      have i1 : (k : Int) < 8 := by omega
      clear R h2 h3 h4
      go_enter Try.func17, Try.ntmps17
      go_wp2_with fail
      refine HR.out.mono ?_
      rintro e w1 ⟨rfl, rfl⟩
      go_wp2
      go_ret
      exact ⟨rfl, rfl⟩
    · rw [decide_eq_false h0] at R
      have HR := hide R
      clear R h2 h3 h4
      go_enter Try.func17, Try.ntmps17
      go_wp2_with fail
      refine HR.out.mono ?_
      rintro e w1 ⟨rfl, rfl⟩
      go_wp2
      go_ret
      exact ⟨rfl, rfl⟩
theorem ocA_ext (c : Oc) : (ocA c).extract 4 (4 + 17) = pgA c.p := by
  apply Array.ext'
  simp [ocA, pgA]
theorem infoPg : (Try.prog.info? 35).map (·.size) = some 17 := by kernel_rfl

set_option maxRecDepth 4000 in
set_option maxHeartbeats 3200000 in
theorem walk (c : Oc) (zero : Bool) (w : World) (hf : c.fits) :
    Calls Try.prog 8 #[.agg (ocA c), .bool zero] w fun e w' => e = .returned (.bool true) ∧ Below w.heap.size w w' := by
  have h0 := RowAt.new w 37 (ocA c)
  have hb0 : Below w.heap.size w (w.alloc (.cells (ocA c) 37)) := (Below.refl _ _).alloc (Nat.le_refl _) _
  have H0 := hide (And.intro h0 hb0)
  clear h0 hb0 hf
  go_enter Try.func8, Try.ntmps8
  go_wp2_with fail
  refine (awake10 _).mono ?_
  rintro e w1 ⟨rfl, hb1⟩
  have H1 := hide (And.intro (H0.out.1.later hb1) (H0.out.2.trans (hb1.mono H0.out.2.size)))
  clear hb1 H0
  cases zero with
  | false =>
    have HB := hide (show Bare none w1 from .inl rfl)
    have c1 := H1.out.1.cell 1 (.int .i64 c.n) rfl
    have c2 := H1.out.1.cell 2 (.int .i64 c.i) rfl
    have c3 := H1.out.1.cell 3 (.int .i64 c.m) rfl
    go_wp2_with fail
    refine (read10_no none 0 c.i w1 (fun x hx => (HB.out.later hx).pages) (by omega)).mono ?_
    rintro e w2 ⟨rfl, hb2⟩
    have H2 := hide (And.intro (H1.out.1.later hb2) (And.intro (H1.out.2.trans (hb2.mono H1.out.2.size)) (HB.out.later hb2)))
    clear hb2 H1 HB c1 c2 c3
    go_wp2_with (refine wpList_store_page rfl _ _ rfl w2.heap.size Pg.zero Pg.zero rfl rfl (heap_alloc_new w2 _) ?_)
    intro w3 hP3 hk
    have hb3 := hk _ _ ((Below.refl _ _).alloc (Nat.le_refl _) _) (Nat.le_refl _)
    have H3 := hide (And.intro (H2.out.1.later hb3) (And.intro (H2.out.2.1.trans (hb3.mono H2.out.2.1.size)) (H2.out.2.2.later hb3)))
    clear hP3 hk hb3 H2
    have c1 := H3.out.1.cell 1 (.int .i64 c.n) rfl
    have c2 := H3.out.1.cell 2 (.int .i64 c.i) rfl
    have c3 := H3.out.1.cell 3 (.int .i64 c.m) rfl
    go_wp2_with fail
    refine (image10_no none 0 c.i w3 H3.out.2.2.pages (by omega)).mono ?_
    rintro e w4 ⟨rfl, rfl⟩
    go_wp2_with (refine wpList_load_part rfl 35 _ rfl w.heap.size 4 17 rfl 37 (ocA c) H3.out.1 _ Try.underlying35 rfl infoPg (by show 4 + 17 ≤ 21; omega) _ (ocA_ext c) ?_)
    refine (write10_arg none 0 c.n c.i c.p c.m w3 (fun x hx => (H3.out.2.2.later hx).pages) (fun g => by have := g.2.1; omega)).mono ?_
    rintro e w5 ⟨rfl, hb5⟩
    have H5 := hide (And.intro (H3.out.1.later hb5) (And.intro (H3.out.2.1.trans (hb5.mono H3.out.2.1.size)) (H3.out.2.2.later hb5)))
    clear hb5 H3 c1 c2 c3
    have c1 := H5.out.1.cell 1 (.int .i64 c.n) rfl
    have c2 := H5.out.1.cell 2 (.int .i64 c.i) rfl
    have c3 := H5.out.1.cell 3 (.int .i64 c.m) rfl
    go_wp2_with fail
    refine (mend10_arg none 0 c.n c.m w5 H5.out.2.2.pages (fun g => by have := g.1; omega)).mono ?_
    rintro e w6 ⟨rfl, rfl⟩
    go_wp2_with fail
    refine H5.out.2.2.pages.mono ?_
    rintro e w6 ⟨rfl, rfl⟩
    go_wp2_with fail
    refine (H5.out.2.2.out c.n).mono ?_
    rintro e w6 ⟨rfl, rfl⟩
    go_wp2
    go_ret
    exact ⟨rfl, H5.out.2.1⟩
  | true =>
    obtain ⟨Z, hZ, hz0, hz1⟩ := z66
    have hba : Below w1.heap.size w1 (w1.alloc (.cells Z 66)) := (Below.refl _ _).alloc (Nat.le_refl _) _
    obtain ⟨x, hx⟩ : ∃ x, x = w1.alloc (.cells Z 66) := ⟨_, rfl⟩
    have H1' := hide (And.intro (H1.out.1.later hba) (H1.out.2.trans (hba.mono H1.out.2.size)))
    have HB := hide (show Bare (some ⟨w1.heap.size, 0, none⟩) (w1.alloc (.cells Z 66)) from .inr ⟨_, Z, rfl, RowAt.new w1 _ _, hz0, hz1⟩)
    rw [hZ] at H1' HB
    clear hba H1 hx x hz0 hz1 hZ Z
    have c1 := H1'.out.1.cell 1 (.int .i64 c.n) rfl
    have c2 := H1'.out.1.cell 2 (.int .i64 c.i) rfl
    have c3 := H1'.out.1.cell 3 (.int .i64 c.m) rfl
    go_wp2_with fail
    refine (read10_no (some ⟨w1.heap.size, 0, none⟩) 0 c.i (w1.alloc (.cells Try.zeroCells66 66)) (fun x hx => (HB.out.later hx).pages) (by omega)).mono ?_
    rintro e w2 ⟨rfl, hb2⟩
    have H2 := hide (And.intro (H1'.out.1.later hb2) (And.intro (H1'.out.2.trans (hb2.mono H1'.out.2.size)) (HB.out.later hb2)))
    clear hb2 H1' HB c1 c2 c3
    go_wp2_with (refine wpList_store_page rfl _ _ rfl w2.heap.size Pg.zero Pg.zero rfl rfl (heap_alloc_new w2 _) ?_)
    intro w3 hP3 hk
    have hb3 := hk _ _ ((Below.refl _ _).alloc (Nat.le_refl _) _) (Nat.le_refl _)
    have H3 := hide (And.intro (H2.out.1.later hb3) (And.intro (H2.out.2.1.trans (hb3.mono H2.out.2.1.size)) (H2.out.2.2.later hb3)))
    clear hP3 hk hb3 H2
    have c1 := H3.out.1.cell 1 (.int .i64 c.n) rfl
    have c2 := H3.out.1.cell 2 (.int .i64 c.i) rfl
    have c3 := H3.out.1.cell 3 (.int .i64 c.m) rfl
    go_wp2_with fail
    refine (image10_no (some ⟨w1.heap.size, 0, none⟩) 0 c.i w3 H3.out.2.2.pages (by omega)).mono ?_
    rintro e w4 ⟨rfl, rfl⟩
    go_wp2_with (refine wpList_load_part rfl 35 _ rfl w.heap.size 4 17 rfl 37 (ocA c) H3.out.1 _ Try.underlying35 rfl infoPg (by show 4 + 17 ≤ 21; omega) _ (ocA_ext c) ?_)
    refine (write10_arg (some ⟨w1.heap.size, 0, none⟩) 0 c.n c.i c.p c.m w3 (fun x hx => (H3.out.2.2.later hx).pages) (fun g => by have := g.2.1; omega)).mono ?_
    rintro e w5 ⟨rfl, hb5⟩
    have H5 := hide (And.intro (H3.out.1.later hb5) (And.intro (H3.out.2.1.trans (hb5.mono H3.out.2.1.size)) (H3.out.2.2.later hb5)))
    clear hb5 H3 c1 c2 c3
    have c1 := H5.out.1.cell 1 (.int .i64 c.n) rfl
    have c2 := H5.out.1.cell 2 (.int .i64 c.i) rfl
    have c3 := H5.out.1.cell 3 (.int .i64 c.m) rfl
    go_wp2_with fail
    refine (mend10_arg (some ⟨w1.heap.size, 0, none⟩) 0 c.n c.m w5 H5.out.2.2.pages (fun g => by have := g.1; omega)).mono ?_
    rintro e w6 ⟨rfl, rfl⟩
    go_wp2_with fail
    refine H5.out.2.2.pages.mono ?_
    rintro e w6 ⟨rfl, rfl⟩
    go_wp2_with fail
    refine (H5.out.2.2.out c.n).mono ?_
    rintro e w6 ⟨rfl, rfl⟩
    go_wp2
    go_ret
    exact ⟨rfl, H5.out.2.1⟩
end Go.Proofs.Ytihcdccmfhoenaa.storeNil

namespace Go.Proofs.Ytihcdccmfhoenaa.storeNil
open Go.ChangeShapes Go.WideShapes Go.ChangeAt Go.RowKit
open Go.ChangeMaps (open_string shut_string)
set_option linter.unusedVariables false

theorem laidOut : laidOutB Try.prog = true := by kernel_rfl
theorem own : ownKnob Try.prog.godebug = none := by kernel_rfl

set_option maxRecDepth 100000 in
theorem lifted (os : Os) (started : os.Started) (H : Type) (enc : TypeId × Value → H) :
    ReturnsInHanded {} Try.checked os 8 .any (Rows.storeNilSpec.pre6 enc Try.prog Try.f8 Rows.storeNilRow.domain false) (Rows.storeNilSpec.post enc Try.prog Try.f8 false true false false) := by
  refine returnsInHanded_of_change_sized (C := Try.checked) own started (by kernel_rfl) Try.func8
    (ChangeSpec.witness6 (enc := enc) (C := Try.checked) false ⟨#[], #[.agg #[.int .i64 0, .int .i64 0, .int .i64 0, .int .i64 0, .int .u64 0, .bool false, .string ByteArray.empty, .bool false, .string ByteArray.empty, .bool false, .string ByteArray.empty, .bool false, .string ByteArray.empty, .bool false, .string ByteArray.empty, .bool false, .string ByteArray.empty, .bool false, .string ByteArray.empty, .bool false, .string ByteArray.empty], .bool false], []⟩ 8 (by kernel_rfl) (by kernel_rfl) (by kernel_rfl) (by kernel_rfl)) ?_
  intro W base args ds gs before hval0 hW hcnd hsz0 _
  have hval : ∀ (j : Nat) t v, Try.f8.params[j]? = some t → args[j]? = some v → Value.okWide Try.prog W .any base t v := hval0
  have hsz : (DataW.weightsEach Try.prog (Try.f8.params.toList ++ Rows.storeNilSpec.plain.varTypes Try.prog) (ds ++ gs)).all (· ≤ reachBytes) = true := hsz0
  have hW' := hW
  obtain ⟨p, q, hA0, hV, rfl, hfz, hnd⟩ := hW
  have hA : DataW.TrodAll enc Try.prog W 0 (fun _ => true) true Try.f8.params.toList args.toList ds p := hA0
  rw [Try.params8] at hA hval hsz
  obtain ⟨v0, vs0, d0, ds0, p0, q0, hargs, rfl, rfl, h0, r0⟩ := trodAll_cons hA
  obtain ⟨v1, vs1, d1, ds1, p1, q1, rfl, rfl, rfl, h1, r1⟩ := trodAll_cons r0
  obtain ⟨rfl, rfl, rfl⟩ := trodAll_nil r1
  obtain rfl : args = #[v0, v1] := by cases args; simp_all
  obtain ⟨rfl, rfl⟩ := trodVars_none hV
  have k0 := h0
  have lt0 := trod_places h0
  obtain ⟨a1, rfl, rfl, rfl⟩ := open_bool Try.underlying4 (hval 1 4 v1 rfl rfl) h1
  obtain ⟨m0, rfl, w0⟩ := op_oc (hval 0 37 v0 rfl rfl) h0
  clear hA0 hval0 hsz0 hsz
  refine (walk m0 a1 W w0).mono fun e W' ⟨he, bel⟩ => ?_
  subst he
  exact ⟨_, rfl, _, _, _, [], _, [], hW', trodAll_mk1 (shut_bool Try.underlying4 _), (trodAll_cons_mk (Below.trod laidOut (by kernel_rfl) (of_decide_eq_true (by kernel_rfl)) k0 bel lt0) (trodAll_cons_mk (shut_bool Try.underlying4 a1) trodAll_mk0)), rfl, bel.frame _, fun h => by cases h⟩

theorem over : Rows.storeNilRow.holds Try.pinned (OpenSpec.ofChange Rows.storeNilSpec) :=
  OpenClaim.holds_of_wide 8 Try.f8 rfl rfl rfl rfl rfl rfl rfl ⟨rfl, rfl, rfl, rfl, rfl⟩ rfl rfl rfl rfl rfl (by kernel_rfl) Try.func8 (by kernel_rfl)
    (of_decide_eq_true (by kernel_rfl)) (by unfold Func.isWrapper; first | (rw [if_pos (by decide +kernel)]; kernel_rfl) | (rw [if_neg (by decide +kernel)]; exact ⟨rfl, rfl⟩))
    (fun os started H enc _ => lifted os started H enc)

/-- THE STATEMENT. -/
theorem proved : Rows.StoreNilSaid := over
end Go.Proofs.Ytihcdccmfhoenaa.storeNil
namespace Go.Proofs.Ytihcdccmfhoenaa
theorem storeNil_proved : Rows.StoreNilSaid := storeNil.proved
end Go.Proofs.Ytihcdccmfhoenaa
