/-
  What goes into a tape and comes out is memory of its own. TapeKeeps returns true for every input, and its arguments read as before.
  Condition: none but those that the form of every such statement bears by itself (each string within the reach).
-/
import Derived.OpenShut
import Derived.Test.YtkmlgfmpcglfeaaRows
import Derived.ProofKit
import Derived.ShutString
import Derived.SizedLaws
import Derived.JoinedCond
import Derived.Test.YtkmlgfmpcglfeaaK00
import Derived.Test.YtkmlgfmpcglfeaaK01

/-
  The walk of TapeKeeps: it returns true, and turns nothing that was there.
-/
namespace Go.Proofs.Ytkmlgfmpcglfeaa.tapeKeeps
open Go.RowKit
set_option linter.unusedVariables false

set_option maxRecDepth 4000 in
set_option maxHeartbeats 400000 in
theorem walk_long (s : ByteArray) (w : World) (h : 1000 < (s.size : Int)) :
    Calls Try.prog 7 #[.string s] w fun e w' => e = .returned (.bool true) ∧ Below w.heap.size w w' := by
  go_enter Try.func7, Try.ntmps7
  go_wp2_with fail
  refine (awake8_any _).mono ?_
  rintro e w1 ⟨rfl, hb1⟩
  go_wp2_with fail
  refine (awake8_any _).mono ?_
  rintro e w2 ⟨rfl, hb2⟩
  go_wp2
  go_ret
  exact ⟨rfl, hb1.trans (hb2.mono hb1.size)⟩

theorem flip255 (x : UInt8) : bits .xor .u8 (x.toNat : Int) 255 = ((x ^^^ 255).toNat : Int) := by
  have e : (255 : Int) = ((255 : Nat) : Int) := rfl
  rw [e, u8_xor_nat _ _ x.toNat_lt (by omega), UInt8.toNat_xor]
  rfl
theorem toV_set (L : List UInt8) (q : Nat) (y : UInt8) : (toV L).set q (.int .u8 (y.toNat : Int)) = toV (L.set q y) := by simp [toV, List.map_set]

/-- Bytes that may be written. -/
def Fl (w : World) (g n : Nat) : Prop := g < w.heap.size ∧ ∀ k, k < n → (∃ u : UInt8, w.cell? ⟨g, k, none⟩ = some (.int .u8 (u.toNat : Int))) ∧ w.frozen? ⟨g, k, none⟩ = false
theorem Fl.set {w : World} {g n j : Nat} (h : Fl w g n) (y : UInt8) (hj : j < n) : Fl (w.setCell ⟨g, j, none⟩ (.int .u8 (y.toNat : Int))) g n := by
  refine ⟨Nat.lt_of_lt_of_le h.1 ((Below.refl 0 w).setCell (Nat.zero_le _) _).size, fun k hk => ⟨?_, by rw [World.frozen?_setCell]; exact (h.2 k hk).2⟩⟩
  by_cases e : k = j
  · subst e
    obtain ⟨u, hu⟩ := (h.2 k hk).1
    exact ⟨y, World.cell?_setCell_same w _ _ hu⟩
  · obtain ⟨u, hu⟩ := (h.2 k hk).1
    exact ⟨u, (World.cell?_setCell_other w _ _ _ (by intro h3; injection h3 with _ h4; exact e h4.symm)).trans hu⟩
theorem Fl.keep {w x : World} {g n : Nat} (h : Fl w g n) (hg : x.heap[g]? = w.heap[g]?) (hs : w.heap.size ≤ x.heap.size) : Fl x g n :=
  ⟨Nat.lt_of_lt_of_le h.1 hs, fun k hk => by
    rw [World.cell?_of_block (a := ⟨g, k, none⟩) hg, World.frozen?_of_block (a := ⟨g, k, none⟩) hg]
    exact h.2 k hk⟩

set_option maxRecDepth 4000 in
set_option maxHeartbeats 1600000 in
theorem walk_short (s : ByteArray) (w : World) (h : ¬ 1000 < (s.size : Int)) :
    Calls Try.prog 7 #[.string s] w fun e w' => e = .returned (.bool true) ∧ Below w.heap.size w w' := by
  have hd : decide (1000 < (s.size : Int)) = false := by simpa using h
  have hcv := fun w => Lib.run_convert_string_bytes (P := Try.prog) w 9 29 5 s Try.underlying9 Try.underlying29 Try.underlying5
  go_enter Try.func7, Try.ntmps7
  go_wp2_with fail
  refine (awake8_any _).mono ?_
  rintro e w1 ⟨rfl, hb1⟩
  have HB1 := hide hb1
  clear hb1
  go_wp2_with fail
  refine (new8_any 1000 w1).mono ?_
  rintro e w2 ⟨rfl, h2, hb2⟩
  obtain ⟨gt, hgt⟩ : ∃ gt, gt = w1.heap.size := ⟨_, rfl⟩
  have H2 := hide (And.intro h2 (And.intro (HB1.out.trans (hb2.mono HB1.out.size)) (show w.heap.size ≤ w1.heap.size from HB1.out.size)))
  rw [← hgt] at H2 ⊢
  clear h2 hb2 HB1 hgt
  go_wp2_with fail
  have hbc := below_conv w2 5 s
  have hbf := bufC_conv w2 5 s
  obtain ⟨t, ht⟩ : ∃ t, t = ((Tp.new 1000).app ⟨s.data.toList.toArray⟩).1 := ⟨_, rfl⟩
  have hta : ((Tp.new 1000).app ⟨s.data.toList.toArray⟩).2 = 0 ∧ t.b = s := by
    rw [ht, mk_self]
    unfold Tp.app
    rw [if_neg (by show ¬ 1000 < 0 + s.size; omega)]
    refine ⟨rfl, ?_⟩
    show (⟨#[]⟩ : ByteArray) ++ s = s
    exact ByteArray.empty_append
  have T := app8_any gt gt (Tp.new 1000) (some ⟨w2.heap.size, 0, none⟩) s.size (grownCap w2 s.size 0 5) s.data.toList (Lib.bytesWorld w2 5 s) (H2.out.1.later hbc) (Tp.new_ok _) hbf.isB (fun h => nomatch h) (by omega)
  rw [hta.1, ← ht] at T
  refine T.mono ?_
  clear T
  rintro e w3 ⟨rfl, gb, h3, h4, h5⟩
  have hlt := H2.out.1.lt.1
  have hfl : Fl w3 w2.heap.size s.size := by
    refine Fl.keep (w := Lib.bytesWorld w2 5 s) ⟨hbf.lt, fun k hk => ⟨⟨_, hbf.cell k hk⟩, (hbf.free k (Nat.lt_of_lt_of_le hk hbf.room)).2⟩⟩ (h4.block _ hbf.lt (by omega) (by omega)) h4.size
  have hsz := Lib.bytesWorld_size w2 5 s
  have hw0 := H2.out.2.2
  have hw2 := H2.out.2.1.size
  have hgw : w.heap.size ≤ gt := H2.out.2.2
  have HG := hide (show gt ≠ w2.heap.size ∧ gb ≠ w2.heap.size ∧ w.heap.size ≤ gt ∧ w.heap.size ≤ gb ∧ w.heap.size ≤ w2.heap.size by omega)
  have hb2 : Below w.heap.size w (Lib.bytesWorld w2 5 s) := H2.out.2.1.trans (hbc.mono H2.out.2.1.size)
  have H3 := hide (And.intro h3 (And.intro hfl (hb2.trans (h4.below hgw hgw hb2.size))))
  have HT := hide (show t.b = s ∧ t.ok from ⟨hta.2, by rw [ht]; exact Tp.app_ok _ (Tp.new_ok _) _⟩)
  obtain ⟨go, hgo⟩ : ∃ go, go = w2.heap.size := ⟨_, rfl⟩
  rw [← hgo] at HG H3 ⊢
  clear hta ht hgo hb2 hw0 hw2 hgw
  clear hbc hbf h3 h4 h5 hfl H2 hlt hsz hcv
  go_wp2
  go_loopw [27] (fun i wr => ∃ j : Nat, j ≤ s.size ∧ i = .int .i64 j ∧ TpAt wr gt gb t ∧ Fl wr go s.size ∧ Below w.heap.size w wr) (fun i _ => s.size - (intOf i).toNat)
  case atStart => exact ⟨0, Nat.zero_le _, rfl, H3.out⟩
  case round =>
    obtain ⟨j, hj, rfl, hrest⟩ := hrel
    have H4 := hide hrest
    clear hrest H3
    by_cases hlt : j < s.size
    · obtain ⟨⟨x, hcx⟩, hfx⟩ := H4.out.2.1.2 j hlt
      have hf := flip255 x
      have HS := hide (show TpAt (wr.setCell ⟨go, j, none⟩ (.int .u8 (bits .xor .u8 (x.toNat : Int) 255))) gt gb t ∧ Fl (wr.setCell ⟨go, j, none⟩ (.int .u8 (bits .xor .u8 (x.toNat : Int) 255))) go s.size ∧ Below w.heap.size w (wr.setCell ⟨go, j, none⟩ (.int .u8 (bits .xor .u8 (x.toNat : Int) 255))) by
        rw [hf]
        exact ⟨H4.out.1.keep (heap_setCell_other wr ⟨go, j, none⟩ gt _ HG.out.1) (heap_setCell_other wr ⟨go, j, none⟩ gb _ HG.out.2.1), H4.out.2.1.set _ hlt, H4.out.2.2.setCell HG.out.2.2.2.2 _⟩)
      have hjI : (j : Int) < (s.size : Int) := by omega
      clear hf H4
      go_wp2
      go_roundw
      case rel => exact ⟨j + 1, by omega, by go_num, HS.out⟩
      case measure => simp [intOf]; omega
    · obtain rfl : j = s.size := by omega
      go_wp2_with fail
      refine (bytes8_any gt gb t wr H4.out.1 HT.out.2).mono ?_
      rintro e w5 ⟨v5, rfl, ho5, hb5⟩
      rw [HT.out.1] at ho5
      obtain ⟨a5, c5, rfl, hc5, hB5⟩ := shape_isB ho5
      have k5 := run_toString (P := Try.prog) w5 29 9 5 Try.underlying29 Try.underlying5 Try.underlying9 a5 _ c5 _ hB5
      rw [mk_self] at k5
      have ha5 : 0 < s.size → ∃ g5, a5 = some ⟨g5, 0, none⟩ ∧ wr.heap.size ≤ g5 := by
        intro hp
        obtain ⟨g5, c5', he, hg5⟩ := own_slice ho5 hp
        injection he with he1 he2 he3
        exact ⟨g5, he1, hg5⟩
      have HL := hide (And.intro H4.out.1.lt H4.out.2.2.size)
      have H5 := hide (And.intro (H4.out.1.later hb5) (And.intro ho5 (And.intro (H4.out.2.2.trans (hb5.mono H4.out.2.2.size)) hb5.size)))
      clear hB5 ho5 hb5 H4
      obtain ⟨B, hBw⟩ : ∃ B, B = wr.heap.size := ⟨_, rfl⟩
      rw [← hBw] at H5 HL ha5
      clear hBw
      go_wp2
      go_loopw [45] (fun i wq => ∃ m : Nat, m ≤ s.size ∧ i = .int .i64 m ∧ TpAt wq gt gb t ∧ (∃ X : List UInt8, X.length = s.size ∧ wq.ownsRow B 5 1 (.slice a5 s.size c5) s.size (toV X)) ∧ Below w.heap.size w wq ∧ B ≤ wq.heap.size) (fun i _ => s.size - (intOf i).toNat)
      case atStart => exact ⟨0, Nat.zero_le _, rfl, H5.out.1, ⟨s.data.toList, data_length s, H5.out.2.1⟩, H5.out.2.2⟩
      case round =>
        obtain ⟨m, hm, rfl, hrest⟩ := hrel
        have H6 := hide hrest
        clear hrest H5
        by_cases hlt2 : m < s.size
        · obtain ⟨g5, rfl, hg5⟩ := ha5 (by omega)
          obtain ⟨X, hX, hownr⟩ := H6.out.2.1
          have hcm : wr.cell? ⟨g5, m, none⟩ = some (.int .u8 ((X.getD m 0).toNat : Int)) := (hownr.cellAt m (by omega)).trans (toV_get X m (by omega))
          have hfm : wr.frozen? ⟨g5, m, none⟩ = false := hownr.frozenAt m
          generalize X.getD m 0 = x at hcm
          have hst := (hownr.stored m (.int .u8 ((x ^^^ 255).toNat : Int))).1
          rw [toV_set, ← flip255 x] at hst
          have hl1 := HL.out
          have HS := hide (show TpAt (wr.setCell ⟨g5, m, none⟩ (.int .u8 (bits .xor .u8 (x.toNat : Int) 255))) gt gb t ∧ (∃ X : List UInt8, X.length = s.size ∧ (wr.setCell ⟨g5, m, none⟩ (.int .u8 (bits .xor .u8 (x.toNat : Int) 255))).ownsRow B 5 1 (.slice (some ⟨g5, 0, none⟩) s.size c5) s.size (toV X)) ∧ Below w.heap.size w (wr.setCell ⟨g5, m, none⟩ (.int .u8 (bits .xor .u8 (x.toNat : Int) 255))) ∧ B ≤ (wr.setCell ⟨g5, m, none⟩ (.int .u8 (bits .xor .u8 (x.toNat : Int) 255))).heap.size from
            ⟨H6.out.1.keep (heap_setCell_other wr ⟨g5, m, none⟩ gt _ (by show gt ≠ g5; omega)) (heap_setCell_other wr ⟨g5, m, none⟩ gb _ (by show gb ≠ g5; omega)), ⟨X.set m (x ^^^ 255), by rw [List.length_set]; exact hX, hst⟩, H6.out.2.2.1.setCell (by show w.heap.size ≤ g5; omega) _, Nat.le_trans H6.out.2.2.2 ((Below.refl 0 wr).setCell (Nat.zero_le _) _).size⟩)
          have hmI : (m : Int) < (s.size : Int) := by omega
          clear hst ha5 H6 hownr hl1
          go_wp2
          go_roundw
          case rel => exact ⟨m + 1, by omega, by go_num, HS.out⟩
          case measure => simp [intOf]; omega
        · obtain ⟨X, hX, hownr⟩ := H6.out.2.1
          have HO := hide hownr
          clear hownr hX
          go_wp2_with (at_builtin; refine wpList_append_os _ rfl (.tmp 55) (.const (.string ⟨#[109, 111, 114, 101]⟩)) 29 9 rfl 5 Try.underlying29 Try.underlying9 info8 B _ s.size _ rfl HO.out ⟨#[109, 111, 114, 101]⟩ rfl (by show s.size + 4 ≤ _; omega) H6.out.2.2.2 ?_)
          intro v7 w7 ho7 hg7
          have hrow : ∀ k, (Value.slice a5 s.size c5).ownBlock = some k → B ≤ k := fun k hk => (HO.out.lt k hk).1
          obtain ⟨a7, c7, rfl, -, -⟩ := shape_isB ho7
          have hl1 := HL.out
          have H7 := hide (show TpAt w7 gt gb t ∧ Below w.heap.size w w7 from
            ⟨H6.out.1.keep (hg7.block _ H6.out.1.lt.1 (fun e => by have := hrow _ e.symm; omega)) (hg7.block _ H6.out.1.lt.2 (fun e => by have := hrow _ e.symm; omega)), H6.out.2.2.1.grown hg7 H6.out.2.2.1.size (fun k hk => by have := hrow k hk; omega)⟩)
          clear ho7 hg7 hrow hl1 H6 HO HL
          go_wp2_with fail
          refine (bytes8_any gt gb t w7 H7.out.1 HT.out.2).mono ?_
          rintro e w8 ⟨v8, rfl, ho8, hb8⟩
          rw [HT.out.1] at ho8
          obtain ⟨a8, c8, rfl, hc8, hB8⟩ := shape_isB ho8
          have k8 := run_toString (P := Try.prog) w8 29 9 5 Try.underlying29 Try.underlying5 Try.underlying9 a8 _ c8 _ hB8
          rw [mk_self] at k8
          have H8 := hide (H7.out.2.trans (hb8.mono H7.out.2.size))
          clear ho8 hb8 hB8 H7
          go_wp2
          go_ret
          exact ⟨rfl, H8.out⟩
theorem walk (a0 : ByteArray) (z0 : a0.size ≤ 140737488351232) (w : World) :
    Calls Try.prog 7 #[.string a0] w fun e w' => e = .returned (.bool true) ∧ Below w.heap.size w w' := by
  by_cases h : 1000 < (a0.size : Int)
  · exact walk_long a0 w h
  · exact walk_short a0 w h
end Go.Proofs.Ytkmlgfmpcglfeaa.tapeKeeps

namespace Go.Proofs.Ytkmlgfmpcglfeaa.tapeKeeps
open Go.ChangeShapes Go.WideShapes Go.ChangeAt Go.RowKit
open Go.ChangeMaps (open_string shut_string)
set_option linter.unusedVariables false

theorem own : ownKnob Try.prog.godebug = none := by kernel_rfl

set_option maxRecDepth 100000 in
theorem lifted (os : Os) (started : os.Started) (H : Type) (enc : TypeId × Value → H) :
    ReturnsInHanded {} Try.checked os 7 .any (Rows.tapeKeepsSpec.pre6 enc Try.prog Try.f7 Rows.tapeKeepsRow.domain false) (Rows.tapeKeepsSpec.post enc Try.prog Try.f7 false true false false) := by
  refine returnsInHanded_of_change_sized (C := Try.checked) own started (by kernel_rfl) Try.func7
    (ChangeSpec.witness6 (enc := enc) (C := Try.checked) false ⟨#[], #[.string ByteArray.empty], []⟩ 8 (by kernel_rfl) (by kernel_rfl) (by kernel_rfl) (by kernel_rfl)) ?_
  intro W base args ds gs before hval0 hW hcnd hsz0 _
  have hval : ∀ (j : Nat) t v, Try.f7.params[j]? = some t → args[j]? = some v → Value.okWide Try.prog W .any base t v := hval0
  have hsz : (DataW.weightsEach Try.prog (Try.f7.params.toList ++ Rows.tapeKeepsSpec.plain.varTypes Try.prog) (ds ++ gs)).all (· ≤ reachBytes) = true := hsz0
  have hW' := hW
  obtain ⟨p, q, hA0, hV, rfl, hfz, hnd⟩ := hW
  have hA : DataW.TrodAll enc Try.prog W 0 (fun _ => true) true Try.f7.params.toList args.toList ds p := hA0
  rw [Try.params7] at hA hval hsz
  obtain ⟨v0, vs0, d0, ds0, p0, q0, hargs, rfl, rfl, h0, r0⟩ := trodAll_cons hA
  obtain ⟨rfl, rfl, rfl⟩ := trodAll_nil r0
  obtain rfl : args = #[v0] := by cases args; simp_all
  obtain ⟨rfl, rfl⟩ := trodVars_none hV
  obtain ⟨a0, rfl, rfl, rfl, w0⟩ := open_string Try.underlying9 (hval 0 9 v0 rfl rfl) h0
  have z0 : a0.size ≤ 140737488351232 := by
    have hz := sized_string hsz (j := 0) (t := 9) (bytes := a0.data.toList) rfl rfl
    simpa [reachBytes] using hz
  clear hA0 hval0 hsz0 hsz
  refine (walk a0 z0 W).mono fun e W' ⟨he, bel⟩ => ?_
  subst he
  exact ⟨_, rfl, _, _, _, [], _, [], hW', trodAll_mk1 (shut_bool Try.underlying4 _), (trodAll_cons_mk (shut_string Try.underlying9 w0) trodAll_mk0), rfl, bel.frame _, fun h => by cases h⟩

theorem over : Rows.tapeKeepsRow.holds Try.pinned (OpenSpec.ofChange Rows.tapeKeepsSpec) :=
  OpenClaim.holds_of_wide 7 Try.f7 rfl rfl rfl rfl rfl rfl rfl ⟨rfl, rfl, rfl, rfl, rfl⟩ rfl rfl rfl rfl rfl (by kernel_rfl) Try.func7 (by kernel_rfl)
    (of_decide_eq_true (by kernel_rfl)) (by unfold Func.isWrapper; first | (rw [if_pos (by decide +kernel)]; kernel_rfl) | (rw [if_neg (by decide +kernel)]; exact ⟨rfl, rfl⟩))
    (fun os started H enc _ => lifted os started H enc)

/-- THE STATEMENT. -/
theorem proved : Rows.TapeKeepsSaid := over
end Go.Proofs.Ytkmlgfmpcglfeaa.tapeKeeps
namespace Go.Proofs.Ytkmlgfmpcglfeaa
theorem tapeKeeps_proved : Rows.TapeKeepsSaid := tapeKeeps.proved
end Go.Proofs.Ytkmlgfmpcglfeaa
