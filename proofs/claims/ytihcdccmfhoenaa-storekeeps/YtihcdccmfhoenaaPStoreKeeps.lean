/-
  An image that is handed out is memory of its own. StoreKeeps returns true for every input, and its arguments read as before.
  Condition: none but those that the form of every such statement bears by itself (each string within the reach).
-/
import Derived.OpenShut
import Derived.Test.YtihcdccmfhoenaaRows
import Derived.ProofKit
import Derived.ShutString
import Derived.SizedLaws
import Derived.JoinedCond
import Derived.Test.YtihcdccmfhoenaaK02

/-
  The walk of StoreKeeps: it returns true, and turns nothing that was there.
-/
namespace Go.Proofs.Ytihcdccmfhoenaa.storeKeeps
open Go.RowKit
set_option linter.unusedVariables false

theorem new_free2 (k nd i : Nat) : ∀ m, m < 8 → (Sc.new k).out m = true → m ≠ nd ∧ (Sc.new k).id m ≠ (i : Int) := fun m _ h => absurd h (by show ¬ false = true; decide)
theorem n32 : npg 32 = 32 := by decide
set_option maxRecDepth 4000 in
set_option maxHeartbeats 3200000 in
theorem walk (i : Int) (p : Pg) (w : World) (hi : (Lit.int .u8 i).wf = true) (hf : p.fits) :
    Calls Try.prog 7 #[.int .u8 i, .agg (pgA p)] w fun e w' => e = .returned (.bool true) ∧ Below w.heap.size w w' := by
  have hb0 : Below w.heap.size w (w.alloc (.cells (pgA p) 35)) := (Below.refl _ _).alloc (Nat.le_refl _) _
  have hP0 : PgAt (w.alloc (.cells (pgA p) 35)) w.heap.size p := heap_alloc_new w _
  have H0 := hide (And.intro hb0 hP0)
  have hib := bounds_u8 hi
  have HF := hide hf
  clear hb0 hP0 hi hf
  go_enter Try.func7, Try.ntmps7
  go_wp2_with fail
  refine (awake10 _).mono ?_
  rintro e w1 ⟨rfl, hb1⟩
  have H1 := hide (And.intro (H0.out.1.trans (hb1.mono H0.out.1.size)) (H0.out.2.below hb1 (by simp)))
  clear hb1 H0
  go_wp2_with (refine wpList_load_page rfl _ rfl w.heap.size rfl p H1.out.2 ?_)
  refine (rright_any p w1).mono ?_
  rintro e w2 ⟨rfl, hb2⟩
  have H2 := hide (And.intro (H1.out.1.trans (hb2.mono H1.out.1.size)) (H1.out.2.below hb2 H1.out.2.lt))
  clear hb2 H1
  have cl := H2.out.2.lsn
  by_cases hr : p.right
  · rw [decide_eq_true hr]
    by_cases hl : p.l = 0
    · have hl2 : ((p.l : Int) == 0) = true := by simp; omega
      go_wp2_with fail
      refine (awake10 _).mono ?_
      rintro e w3 ⟨rfl, hb3⟩
      have d3 := H2.out.1.trans (hb3.mono H2.out.1.size)
      clear hb3
      go_wp2
      go_ret
      exact ⟨rfl, d3⟩
    · have hl2 : ((p.l : Int) == 0) = false := by simp; omega
      go_wp2_with fail
      refine (knew10 32 w w2 H2.out.1).mono ?_
      rintro e w3 ⟨gs, rfl, h3, hb3⟩
      rw [n32] at h3
      have H3 := hide (And.intro h3 (H2.out.2.below hb3 H2.out.2.lt))
      clear h3 hb3 H2 cl
      obtain ⟨k, hk⟩ := Int.eq_ofNat_of_zero_le (show 0 ≤ i % 32 by omega)
      have hk' : i % 32 = (k : Int) := hk
      have hk32 : k < 32 := by omega
      have hkm : Int.tmod i 32 = (k : Int) := by rw [Int.tmod_eq_emod_of_nonneg hib.1]; exact hk'
      have hwe := wE_new (Sc.new 32) (fun _ => Pg.zero) (fun _ => none) (Sc.new_ok 32 (by omega)) 0 k p 15 (by omega) hk32 (by omega) hr (new_free2 32 0 k) rfl (by show 0 < p.l; omega)
      rw [if_pos rfl] at hwe
      have HWE := hide hwe
      clear hk hk' hwe hl hl2
      go_wp2_with (refine wpList_load_page rfl _ rfl w.heap.size rfl p H3.out.2 ?_)
      refine (H3.out.1.write ((0 : Nat) : Int) (k : Int) p 15).mono ?_
      rintro e w4 ⟨rfl, h4, hs4⟩
      rw [HWE.out]
      have eO : wO (Sc.new 32) (fun _ => Pg.zero) ((0 : Nat) : Int) (k : Int) p 15 k = p := by
        unfold wO
        rw [if_pos (.inl HWE.out)]
        unfold wOld
        rw [if_pos rfl, Int.toNat_natCast]
        exact put1_same _ _ _
      have eT : wT (Sc.new 32) (fun _ => none) ((0 : Nat) : Int) (k : Int) p 15 k = none := by
        unfold wT
        rw [if_pos (.inl HWE.out)]
        rfl
      obtain ⟨s4, hs⟩ : ∃ s4, (Sc.new 32).wS ((0 : Nat) : Int) (k : Int) p 15 = s4 := ⟨_, rfl⟩
      have eN : s4.n = 32 := by rw [← hs]; exact Sc.wS_n _ _ _ _ _
      rw [hs] at h4
      generalize wO (Sc.new 32) (fun _ => Pg.zero) ((0 : Nat) : Int) (k : Int) p 15 = old4 at *
      generalize wT (Sc.new 32) (fun _ => none) ((0 : Nat) : Int) (k : Int) p 15 = tr4 at *
      have H4 := hide (And.intro h4 (hs4.page H3.out.2))
      have HE := hide (And.intro eO (And.intro eT eN))
      clear h4 hs4 H3 eO eT eN hs HWE
      go_wp2_with fail
      refine (H4.out.1.image k (by rw [HE.out.2.2]; exact hk32)).mono ?_
      rintro e w5 ⟨v5, rfl, ho5, hb5⟩
      obtain ⟨g5, cap5, rfl, hg5⟩ := own_slice ho5 (by omega)
      obtain ⟨cur, hcur, hcs, hcap⟩ : ∃ cur, RowAt w5 g5 5 cur ∧ cur.size = cap5 ∧ 256 ≤ cap5 := by
        rcases ho5.2 with ⟨_, h0⟩ | ⟨g, c, cur, e, _, hg, hc, hm, hs, ht⟩
        · omega
        · injection e with e1 e2 e3
          injection e1 with e1
          injection e1 with e1
          subst e1 e3
          exact ⟨cur, hg, by simpa using hs, hc⟩
      have hlow5 : w.heap.size ≤ g5 := Nat.le_trans H4.out.1.bel.size hg5
      have H5 := hide (And.intro (H4.out.1.later hb5) (And.intro (H4.out.2.below hb5 H4.out.2.lt) (show ∃ cur, RowAt w5 g5 5 cur ∧ cur.size = cap5 from ⟨cur, hcur, hcs⟩)))
      have hng : w.heap.size ≠ g5 := fun e => by
        have h1 := row_kind (show RowAt w5 w.heap.size 35 (pgA p) from H4.out.2.below hb5 H4.out.2.lt) (show RowAt w5 w.heap.size 5 cur from by rw [e]; exact hcur)
        exact absurd h1 (by decide)
      clear ho5 hb5 hcur hcs H4 hg5
      go_wp2_with fail
      go_loopw [46] (fun i wr => ∃ j : Nat, j ≤ 256 ∧ i = .int .i64 j ∧ Hid (K10 w wr gs s4 old4 tr4 ∧ PgAt wr w.heap.size p ∧ ∃ cur, RowAt wr g5 5 cur ∧ cur.size = cap5)) (fun i _ => 256 - (intOf i).toNat)
      case atStart => exact ⟨0, by omega, rfl, H5⟩
      case round =>
        obtain ⟨j, hj, rfl, HR⟩ := hrel
        clear H5
        by_cases hlt : j < 256
        · have i1 : (j : Int) < 256 := by omega
          obtain ⟨cur, hc1, hc2⟩ := HR.out.2.2
          have hz : j < cur.size := by omega
          have c0 := hc1.cell j _ (Array.getElem?_eq_getElem hz)
          have f0 := hc1.free j
          generalize cur[j] = v0 at c0
          have HR2 : Hid (K10 w (wr.setCell ⟨g5, j, none⟩ (.int .u8 77)) gs s4 old4 tr4 ∧ PgAt (wr.setCell ⟨g5, j, none⟩ (.int .u8 77)) w.heap.size p ∧ ∃ cur, RowAt (wr.setCell ⟨g5, j, none⟩ (.int .u8 77)) g5 5 cur ∧ cur.size = cap5) :=
            ⟨HR.out.1.set hc1 (by decide) (by decide) hlow5 j _, HR.out.2.1.other _ _ hng, _, hc1.set j _, by rw [Array.size_setIfInBounds]; exact hc2⟩
          clear hc1 HR hz
          go_wp2
          go_roundw
          case rel => exact ⟨j + 1, by omega, by go_num, HR2⟩
          case measure => simp [intOf]; omega
        · obtain rfl : j = 256 := by omega
          have hrd := HR.out.1.read k (by rw [HE.out.2.2]; exact hk32) HE.out.2.1
          rw [HE.out.1] at hrd
          have HRd := hide hrd
          clear hrd
          go_wp2_with fail
          refine HRd.out.mono ?_
          rintro e w6 ⟨rfl, hb6⟩
          have H6 := hide (And.intro (HR.out.1.bel.trans (hb6.mono HR.out.1.bel.size)) (HR.out.2.1.below hb6 HR.out.2.1.lt))
          clear hb6 HRd HR
          go_wp2_with (refine wpList_store_page rfl _ _ rfl w6.heap.size Pg.zero p rfl rfl (heap_alloc_new w6 _) ?_)
          intro w7 hP7 hk
          have H7 := hide (And.intro (hk _ _ (H6.out.1.alloc H6.out.1.size _) H6.out.1.size) (And.intro hP7 (H6.out.2.below (hk _ _ ((Below.refl _ _).alloc (Nat.le_refl _) _) (Nat.le_refl _)) H6.out.2.lt)))
          have hne : w.heap.size ≠ w6.heap.size := by have := H6.out.2.lt; omega
          clear hP7 hk H6
          have heq := run_page_eql p p HF.out HF.out w7
          rw [decide_eq_true (Pg.same.refl p)] at heq
          go_wp2_with (first | (refine wpList_load_page rfl _ rfl w6.heap.size rfl p H7.out.2.1 ?_) | (refine wpList_load_page rfl _ rfl w.heap.size rfl p H7.out.2.2 ?_) | (refine wpList_binop rfl .eql 35 _ _ _ rfl (.agg (pgA p)) (.agg (pgA p)) _ rfl rfl (page_guard _ _ _ p p _) heq ?_))
          go_ret
          exact ⟨rfl, H7.out.1⟩
  · rw [decide_eq_false hr]
    go_wp2_with fail
    refine (awake10 _).mono ?_
    rintro e w3 ⟨rfl, hb3⟩
    have d3 := H2.out.1.trans (hb3.mono H2.out.1.size)
    clear hb3
    go_wp2
    go_ret
    exact ⟨rfl, d3⟩
end Go.Proofs.Ytihcdccmfhoenaa.storeKeeps

namespace Go.Proofs.Ytihcdccmfhoenaa.storeKeeps
open Go.ChangeShapes Go.WideShapes Go.ChangeAt Go.RowKit
open Go.ChangeMaps (open_string shut_string)
set_option linter.unusedVariables false

theorem laidOut : laidOutB Try.prog = true := by kernel_rfl
theorem own : ownKnob Try.prog.godebug = none := by kernel_rfl

set_option maxRecDepth 100000 in
theorem lifted (os : Os) (started : os.Started) (H : Type) (enc : TypeId × Value → H) :
    ReturnsInHanded {} Try.checked os 7 .any (Rows.storeKeepsSpec.pre6 enc Try.prog Try.f7 Rows.storeKeepsRow.domain false) (Rows.storeKeepsSpec.post enc Try.prog Try.f7 false true false false) := by
  refine returnsInHanded_of_change_sized (C := Try.checked) own started (by kernel_rfl) Try.func7
    (ChangeSpec.witness6 (enc := enc) (C := Try.checked) false ⟨#[], #[.int .u8 0, .agg #[.int .u64 0, .bool false, .string ByteArray.empty, .bool false, .string ByteArray.empty, .bool false, .string ByteArray.empty, .bool false, .string ByteArray.empty, .bool false, .string ByteArray.empty, .bool false, .string ByteArray.empty, .bool false, .string ByteArray.empty, .bool false, .string ByteArray.empty]], []⟩ 8 (by kernel_rfl) (by kernel_rfl) (by kernel_rfl) (by kernel_rfl)) ?_
  intro W base args ds gs before hval0 hW hcnd hsz0 _
  have hval : ∀ (j : Nat) t v, Try.f7.params[j]? = some t → args[j]? = some v → Value.okWide Try.prog W .any base t v := hval0
  have hsz : (DataW.weightsEach Try.prog (Try.f7.params.toList ++ Rows.storeKeepsSpec.plain.varTypes Try.prog) (ds ++ gs)).all (· ≤ reachBytes) = true := hsz0
  have hW' := hW
  obtain ⟨p, q, hA0, hV, rfl, hfz, hnd⟩ := hW
  have hA : DataW.TrodAll enc Try.prog W 0 (fun _ => true) true Try.f7.params.toList args.toList ds p := hA0
  rw [Try.params7] at hA hval hsz
  obtain ⟨v0, vs0, d0, ds0, p0, q0, hargs, rfl, rfl, h0, r0⟩ := trodAll_cons hA
  obtain ⟨v1, vs1, d1, ds1, p1, q1, rfl, rfl, rfl, h1, r1⟩ := trodAll_cons r0
  obtain ⟨rfl, rfl, rfl⟩ := trodAll_nil r1
  obtain rfl : args = #[v0, v1] := by cases args; simp_all
  obtain ⟨rfl, rfl⟩ := trodVars_none hV
  obtain ⟨a0, rfl, rfl, rfl, w0⟩ := open_int Try.underlying5 (hval 0 5 v0 rfl rfl) h0
  have k1 := h1
  have lt1 := trod_places h1
  obtain ⟨m1, rfl, w1⟩ := op_page (hval 1 35 v1 rfl rfl) h1
  clear hA0 hval0 hsz0 hsz
  refine (walk a0 m1 W w0 w1).mono fun e W' ⟨he, bel⟩ => ?_
  subst he
  exact ⟨_, rfl, _, _, _, [], _, [], hW', trodAll_mk1 (shut_bool Try.underlying4 _), (trodAll_cons_mk (shut_int Try.underlying5 w0) (trodAll_cons_mk (Below.trod laidOut (by kernel_rfl) (of_decide_eq_true (by kernel_rfl)) k1 bel lt1) trodAll_mk0)), rfl, bel.frame _, fun h => by cases h⟩

theorem over : Rows.storeKeepsRow.holds Try.pinned (OpenSpec.ofChange Rows.storeKeepsSpec) :=
  OpenClaim.holds_of_wide 7 Try.f7 rfl rfl rfl rfl rfl rfl rfl ⟨rfl, rfl, rfl, rfl, rfl⟩ rfl rfl rfl rfl rfl (by kernel_rfl) Try.func7 (by kernel_rfl)
    (of_decide_eq_true (by kernel_rfl)) (by unfold Func.isWrapper; first | (rw [if_pos (by decide +kernel)]; kernel_rfl) | (rw [if_neg (by decide +kernel)]; exact ⟨rfl, rfl⟩))
    (fun os started H enc _ => lifted os started H enc)

/-- THE STATEMENT. -/
theorem proved : Rows.StoreKeepsSaid := over
end Go.Proofs.Ytihcdccmfhoenaa.storeKeeps
namespace Go.Proofs.Ytihcdccmfhoenaa
theorem storeKeeps_proved : Rows.StoreKeepsSaid := storeKeeps.proved
end Go.Proofs.Ytihcdccmfhoenaa
