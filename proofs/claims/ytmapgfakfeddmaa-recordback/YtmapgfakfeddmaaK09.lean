/-
  Texts that lean on one another, one behind the other: each opens with its own remark.
-/
import Derived.WalkKit
import Derived.OpenShut
import Derived.ShutString
import Derived.SizedLaws
import Derived.ChangeOld
import Derived.Deep.Slices
import Derived.Lib.SmallJoins
import Derived.Test.YtmapgfakfeddmaaRows
import Derived.Test.YtmapgfakfeddmaaK07
import Derived.Test.YtmapgfakfeddmaaK08
import Derived.Test.YtmapgfakfeddmaaK03
import Derived.Test.YtmapgfakfeddmaaK04
import Derived.Test.YtmapgfakfeddmaaK00
import Derived.Test.YtmapgfakfeddmaaK01

/-
  The contract of quaysideref06.Encode.
-/
namespace Go.Proofs.Ytmapgfakfeddmaa
open Go.RowKit
set_option linter.unusedVariables false

theorem bytes_any (r : Rec) (va vb : Value) (w : World) (hr : r.right) (hin : RcIn w r va vb) :
    Calls Try.prog 23 #[.agg (rcA r va vb)] w fun e w' => e = .returned (.string (mkS (recB r))) ∧ Below w.heap.size w w' := by
  have h1 := hr.k1
  have h8 := hr.k8
  by_cases k1 : r.k = 1
  · exact bytes_update r va vb w hr k1 hin
  by_cases k2 : r.k = 2
  · exact bytes_clr r va vb w hr k2 hin
  by_cases k6 : r.k = 6
  · exact bytes_save r va vb w hr k6 hin
  by_cases k8 : r.k = 8
  · exact bytes_check r va vb w hr k8 hin
  exact bytes_end r va vb w hr (by omega) hin

/-- What 'Encode' answers. -/
noncomputable def encE (r : Rec) : Int := if r.rightB = true then 0 else 1
noncomputable def encL (r : Rec) : List UInt8 := if r.rightB = true then recB r else []

set_option maxRecDepth 4000 in
set_option maxHeartbeats 1600000 in
theorem renc6_any (r : Rec) (va vb : Value) (w : World) (hf : r.c.fits) (hin : RcIn w r va vb) :
    Calls Try.prog 11 #[.agg (rcA r va vb)] w fun e w' => e = .returned (.tuple #[.string (mkS (encL r)), .int .i64 (encE r)]) ∧ Below w.heap.size w w' := by
  have HK0 := hide (Keeps.one w 28 (rcA r va vb))
  have HR := hide (fun w hin => rright6_any r va vb w hf hin)
  have HI := hide hin
  obtain ⟨A, hA⟩ : ∃ A, A = rcA r va vb := ⟨_, rfl⟩
  rw [← hA] at HK0 HR ⊢
  have HA := hide hA
  clear hA hf hin
  have HIA : Hid ((Try.prog.info? 28).map (·.size) = some A.size) := by
    rw [HA.out]
    exact infoRc
  by_cases hr : r.right
  · have e1 : encL r = recB r := by unfold encL; rw [if_pos (rightB_yes hr)]
    have e2 : encE r = 0 := by unfold encE; rw [if_pos (rightB_yes hr)]
    rw [e1, e2]
    rw [rightB_yes hr] at HR
    have HB := hide (fun w hin => bytes_any r va vb w hr hin)
    rw [← HA.out] at HB
    clear e1 e2 hr
    go_enter Try.func11, Try.ntmps11
    go_wp2_with (refine wpList_load_at rfl 28 (.tmp 1) rfl w.heap.size rfl A HK0.out.1.1 _ Try.underlying28 rfl HIA.out ?_)
    refine (HR.out _ (HI.out.below HK0.out.2)).mono ?_
    rintro e w1 ⟨rfl, hb1⟩
    have HK1 := hide (HK0.out.later hb1)
    clear HK0 HR hb1
    go_wp2_with (refine wpList_load_at rfl 28 (.tmp 1) rfl w.heap.size rfl A HK1.out.1.1 _ Try.underlying28 rfl HIA.out ?_)
    refine (HB.out _ (HI.out.below HK1.out.2)).mono ?_
    rintro e w2 ⟨rfl, hb2⟩
    have d2 := (HK1.out.later hb2).2
    clear HK1 HB hb2
    go_wp2
    go_ret2
    exact ⟨rfl, d2⟩
  · have e1 : encL r = [] := by unfold encL; rw [if_neg (by rw [rightB_no hr]; decide)]
    have e2 : encE r = 1 := by unfold encE; rw [if_neg (by rw [rightB_no hr]; decide)]
    rw [e1, e2]
    rw [rightB_no hr] at HR
    clear e1 e2 hr
    go_enter Try.func11, Try.ntmps11
    go_wp2_with (refine wpList_load_at rfl 28 (.tmp 1) rfl w.heap.size rfl A HK0.out.1.1 _ Try.underlying28 rfl HIA.out ?_)
    refine (HR.out _ (HI.out.below HK0.out.2)).mono ?_
    rintro e w1 ⟨rfl, hb1⟩
    have d1 := (HK0.out.later hb1).2
    clear HK0 HR hb1
    go_wp2
    go_ret2
    exact ⟨rfl, d1⟩
end Go.Proofs.Ytmapgfakfeddmaa

/-
  The contracts of record.Encode and Size, whole, and of awake.
-/
namespace Go.Proofs.Ytmapgfakfeddmaa
open Go.RowKit
set_option linter.unusedVariables false

set_option maxRecDepth 4000 in
set_option maxHeartbeats 1600000 in
theorem enc_no (r : Rec) (va vb : Value) (w : World) (hr : ¬ r.right) (hf : r.fits) (hin : RcIn w r va vb) :
    Calls Try.prog 10 #[.agg (rcA r va vb)] w fun e w' => e = .returned (.tuple #[.slice none 0 0, .int .i64 1]) ∧ Below w.heap.size w w' := by
  have HIN := hide hin
  have HRT := hide (fun w h => right_at r va vb w false (hide ⟨fun h => (nomatch h), fun h => absurd h hr⟩) hf h)
  have HK0 := hide (Keeps.one w 28 (rcA r va vb))
  clear hr hf hin
  obtain ⟨A, hA⟩ : ∃ A, A = rcA r va vb := ⟨_, rfl⟩
  rw [← hA] at HK0 HRT ⊢
  have HIA : Hid ((Try.prog.info? 28).map (·.size) = some A.size) := by
    rw [hA]
    exact infoRc
  clear hA
  go_enter Try.func10, Try.ntmps10
  go_wp2_with (refine wpList_load_at rfl 28 (.tmp 1) rfl w.heap.size rfl A HK0.out.1.1 _ Try.underlying28 rfl HIA.out ?_)
  refine (HRT.out _ (HIN.out.below HK0.out.2)).mono ?_
  rintro e w1 ⟨rfl, hb1⟩
  have d1 := (HK0.out.later hb1).2
  clear HK0 HRT hb1
  go_wp2
  go_ret2
  exact ⟨rfl, d1⟩

/-- THE CONTRACT. -/
theorem enc_any (r : Rec) (va vb : Value) (w : World) (hf : r.fits) (hin : RcIn w r va vb) :
    Calls Try.prog 10 #[.agg (rcA r va vb)] w fun e w' => (∃ v, e = .returned (.tuple #[v, .int .i64 (encE r)]) ∧ EncIn w' v (encL r)) ∧ Below w.heap.size w w' := by
  by_cases hr : r.right
  · have e1 : encL r = recB r := by unfold encL; rw [if_pos (rightB_yes hr)]
    have e2 : encE r = 0 := by unfold encE; rw [if_pos (rightB_yes hr)]
    rw [e1, e2]
    have h1 := hr.k1
    have h8 := hr.k8
    by_cases k1 : r.k = 1
    · exact enc_1 r va vb w hr k1 hf hin
    by_cases k2 : r.k = 2
    · exact enc_2 r va vb w hr k2 hf hin
    by_cases k3 : r.k = 3
    · exact enc_3 r va vb w hr k3 hf hin
    by_cases k4 : r.k = 4
    · exact enc_4 r va vb w hr k4 hf hin
    by_cases k5 : r.k = 5
    · exact enc_5 r va vb w hr k5 hf hin
    by_cases k6 : r.k = 6
    · exact enc_6 r va vb w hr k6 hf hin
    by_cases k7 : r.k = 7
    · exact enc_7 r va vb w hr k7 hf hin
    exact enc_8 r va vb w hr (by omega) hf hin
  · have e1 : encL r = [] := by unfold encL; rw [if_neg (by rw [rightB_no hr]; decide)]
    have e2 : encE r = 1 := by unfold encE; rw [if_neg (by rw [rightB_no hr]; decide)]
    rw [e1, e2]
    refine (enc_no r va vb w hr hf hin).mono ?_
    rintro e w1 ⟨rfl, hb1⟩
    exact ⟨⟨_, rfl, none, 0, rfl, fun _ => rfl, Nat.le_refl _, isB_nil _⟩, hb1⟩

set_option maxRecDepth 4000 in
set_option maxHeartbeats 1600000 in
theorem size_any (r : Rec) (va vb : Value) (w : World) (hf : r.fits) (hin : RcIn w r va vb) :
    Calls Try.prog 12 #[.agg (rcA r va vb)] w fun e w' => e = .returned (.int .i64 ((encL r).length : Int)) ∧ Below w.heap.size w w' := by
  have HIN := hide hin
  have HE := hide (fun w h => enc_any r va vb w hf h)
  have HK0 := hide (Keeps.one w 28 (rcA r va vb))
  clear hf hin
  obtain ⟨A, hA⟩ : ∃ A, A = rcA r va vb := ⟨_, rfl⟩
  rw [← hA] at HK0 HE ⊢
  have HIA : Hid ((Try.prog.info? 28).map (·.size) = some A.size) := by
    rw [hA]
    exact infoRc
  clear hA
  go_enter Try.func12, Try.ntmps12
  go_wp2_with (refine wpList_load_at rfl 28 (.tmp 1) rfl w.heap.size rfl A HK0.out.1.1 _ Try.underlying28 rfl HIA.out ?_)
  refine (HE.out _ (HIN.out.below HK0.out.2)).mono ?_
  rintro e w1 ⟨⟨v, rfl, a, c, rfl, -⟩, hb1⟩
  have d1 := (HK0.out.later hb1).2
  clear HK0 HE hb1
  go_wp2
  go_ret
  exact ⟨rfl, d1⟩

/-! ### awake -/
def awR : Rec := ⟨3, 5, 2, 3, Ch.zero, 0, 0, 0, [], []⟩
theorem awR_right : awR.right := ⟨by decide, by decide, by decide, by decide, fun _ => by decide, fun h => absurd h (by decide), fun h => absurd h (by decide), fun _ => rfl, fun h => absurd h (by decide), fun _ => rfl, fun h => absurd h (by decide), fun _ => rfl, fun h => absurd h (by decide), fun _ => ⟨rfl, rfl, rfl⟩⟩
theorem awR_fits : awR.fits := ⟨zero_fits, Nat.zero_le _, Nat.zero_le _, fun x hx => (nomatch hx), fun x hx => (nomatch hx)⟩
theorem awR_in (w : World) : RcIn w awR (.slice none 0 0) (.slice none 0 0) := ⟨⟨none, 0, rfl, fun h => absurd h (by decide)⟩, ⟨none, 0, rfl, fun h => absurd h (by decide)⟩⟩
def awL : Array Value := #[.int .i64 3, .int .u64 5, .int .i64 2, .int .u64 3, .int .i64 0, .int .i64 0, .int .i64 0, .string ⟨#[]⟩, .string ⟨#[]⟩, .int .u64 0, .int .i64 0, .int .u64 0, .slice none 0 0, .slice none 0 0]
theorem awA : rcA awR (.slice none 0 0) (.slice none 0 0) = awL := rfl
theorem awB : recB awR = [3, 0, 0, 0, 0, 0, 0, 0, 5, 0, 0, 0, 2, 0, 0, 0, 0, 0, 0, 0, 3] := by decide

set_option maxRecDepth 4000 in
set_option maxHeartbeats 1600000 in
theorem awake_any (w : World) : Calls Try.prog 9 #[] w fun e w' => e = .returned (.bool true) ∧ Below w.heap.size w w' := by
  have HE := hide (fun w => enc_3 awR _ _ w awR_right rfl awR_fits (awR_in w))
  have HS := hide (fun w => same_at awR awR _ _ _ _ w true (hide ⟨fun _ => rfl, fun _ => rfl⟩) awR_fits awR_fits (awR_in w) (awR_in w))
  rw [awA] at HE HS
  rw [awB] at HE
  unfold awL at HE HS
  have HK0 := hide (Keeps.one w 28 awL)
  unfold awL at HK0
  have c0 := HK0.out.1.1.cell 0 (.int .i64 3) rfl
  have c1 := HK0.out.1.1.cell 1 (.int .u64 5) rfl
  have c2 := HK0.out.1.1.cell 2 (.int .i64 2) rfl
  have c3 := HK0.out.1.1.cell 3 (.int .u64 3) rfl
  have c4 := HK0.out.1.1.cell 4 (.int .i64 0) rfl
  have c5 := HK0.out.1.1.cell 5 (.int .i64 0) rfl
  have c6 := HK0.out.1.1.cell 6 (.int .i64 0) rfl
  have c7 := HK0.out.1.1.cell 7 (.string ⟨#[]⟩) rfl
  have c8 := HK0.out.1.1.cell 8 (.string ⟨#[]⟩) rfl
  have c9 := HK0.out.1.1.cell 9 (.int .u64 0) rfl
  have c10 := HK0.out.1.1.cell 10 (.int .i64 0) rfl
  have c11 := HK0.out.1.1.cell 11 (.int .u64 0) rfl
  have c12 := HK0.out.1.1.cell 12 (.slice none 0 0) rfl
  have c13 := HK0.out.1.1.cell 13 (.slice none 0 0) rfl
  go_enter Try.func9, Try.ntmps9
  go_wp2_with fail
  refine (HE.out _).mono ?_
  rintro e w1 ⟨⟨v, rfl, a, c, rfl, -, hcap, hB⟩, hb1⟩
  obtain ⟨b, off, rfl, -, hcell⟩ := hB.2 (by decide)
  have k0 := hcell 0 (by decide)
  have k8 := hcell 8 (by decide)
  have HK1 := hide (HK0.out.later hb1)
  clear HK0 hb1 hB hcell HE c0 c1 c2 c3 c4 c5 c6 c7 c8 c9 c10 c11 c12 c13
  have c0 := HK1.out.1.1.cell 0 (.int .i64 3) rfl
  have c1 := HK1.out.1.1.cell 1 (.int .u64 5) rfl
  have c2 := HK1.out.1.1.cell 2 (.int .i64 2) rfl
  have c3 := HK1.out.1.1.cell 3 (.int .u64 3) rfl
  have c4 := HK1.out.1.1.cell 4 (.int .i64 0) rfl
  have c5 := HK1.out.1.1.cell 5 (.int .i64 0) rfl
  have c6 := HK1.out.1.1.cell 6 (.int .i64 0) rfl
  have c7 := HK1.out.1.1.cell 7 (.string ⟨#[]⟩) rfl
  have c8 := HK1.out.1.1.cell 8 (.string ⟨#[]⟩) rfl
  have c9 := HK1.out.1.1.cell 9 (.int .u64 0) rfl
  have c10 := HK1.out.1.1.cell 10 (.int .i64 0) rfl
  have c11 := HK1.out.1.1.cell 11 (.int .u64 0) rfl
  have c12 := HK1.out.1.1.cell 12 (.slice none 0 0) rfl
  have c13 := HK1.out.1.1.cell 13 (.slice none 0 0) rfl
  simp only [Nat.add_zero] at k0
  have k0' : w1.cell? ⟨b, off, none⟩ = some (.int .u8 3) := k0
  have k8' : w1.cell? ⟨b, off + 8, none⟩ = some (.int .u8 5) := k8
  clear k0 k8
  have HBL := hide HK1.out.2
  go_wp2_with fail
  refine (HS.out _).mono ?_
  rintro e w2 ⟨rfl, hb2⟩
  have d2 := HBL.out.trans (hb2.mono HBL.out.size)
  clear HK1 HBL HS hb2 k0' k8' c0 c1 c2 c3 c4 c5 c6 c7 c8 c9 c10 c11 c12 c13
  go_wp2
  go_ret
  exact ⟨rfl, d2⟩
end Go.Proofs.Ytmapgfakfeddmaa

/-
  A slice that came in, by its cells: what a walk is told of it. Of no program.
-/
namespace Go.Proofs.Ytmapgfakfeddmaa
open Go.RowKit
set_option linter.unusedVariables false

/-- A slice value of so many elements, each of 'sz' cells: element i's cell k holds 'f i k'. -/
def IsRow (w : World) (a : Option Addr) (len sz : Nat) (f : Nat → Nat → Value) : Prop :=
  0 < len → ∃ b off, a = some ⟨b, off, none⟩ ∧ b < w.heap.size ∧ ∀ i k, i < len → k < sz → w.cell? ⟨b, off + (i * sz + k), none⟩ = some (f i k)

theorem IsRow.below {w w' : World} {a : Option Addr} {len sz B : Nat} {f : Nat → Nat → Value} (h : IsRow w a len sz f) (hB : w.heap.size ≤ B) (hb : Below B w w') : IsRow w' a len sz f := by
  intro hp
  obtain ⟨b, off, ha, hlt, hc⟩ := h hp
  exact ⟨b, off, ha, Nat.lt_of_lt_of_le hlt hb.size, fun i k hi hk => (hb.cell (p := ⟨b, off + (i * sz + k), none⟩) (Nat.lt_of_lt_of_le hlt hB)).trans (hc i k hi hk)⟩
end Go.Proofs.Ytmapgfakfeddmaa

/-
  How an argument that is a slice of plain things, or a struct by value, is opened: of no program.
-/
namespace Go.Proofs.Ytmapgfakfeddmaa
open Go.ChangeShapes Go.WideShapes Go.ChangeAt Go.RowKit Go.Deep Go.Joins
set_option linter.unusedVariables false

section
variable {H : Type} {enc : TypeId × Value → H} {P : Program} {W : World}

theorem trod_places {t : TypeId} {v : Value} {d : DataW H} {p : List MemPlace} (h : DataW.Trod enc P W 0 (fun _ => true) true t v d p) : ∀ x ∈ p, x.block < W.heap.size := by
  obtain ⟨m, hm⟩ := h
  exact DataW.trod_lt m _ _ _ hm

theorem sized_each {ts : List TypeId} {ds : List (DataW H)} {j : Nat} {t : TypeId} {d : DataW H} (h : (DataW.weightsEach P ts ds).all (· ≤ reachBytes) = true) (ht : ts[j]? = some t) (hd : ds[j]? = some d) : ∀ n ∈ d.weights P t, n ≤ reachBytes := by
  intro n hn
  have := List.all_eq_true.1 h _ (DataW.weights_mem_each ht hd n hn)
  simpa using this

/-- A slice's outer form as data. -/
def SlForm (d : DataW H) (len cap : Nat) : Prop := (d = .nil ∧ len = 0 ∧ cap = 0) ∨ ∃ es sp, d = .slice es sp ∧ es.length = len ∧ es.length + sp.length = cap

theorem SlForm.sized {d : DataW H} {len cap : Nat} {t e : TypeId} (h : SlForm d len cap) (ht : P.underlying t = some (.slice e)) (hb : 1 ≤ P.bytesOf e) (hs : ∀ n ∈ d.weights P t, n ≤ reachBytes) : len ≤ 140737488351232 := by
  rcases h with ⟨_, rfl, _⟩ | ⟨es, sp, rfl, h1, h2⟩
  · omega
  · have h3 := hs ((es.length + sp.length) * P.bytesOf e) (by simp [DataW.weights, ht])
    have h4 : (es.length + sp.length) * 1 ≤ (es.length + sp.length) * P.bytesOf e := Nat.mul_le_mul_left _ hb
    have h5 : reachBytes = 140737488351232 := rfl
    omega

/-- A slice opened: each element's cells by a way to read an element. -/
theorem open_rows {α : Type} [Inhabited α] {t e : TypeId} {sz : Nat} {v : Value} {d : DataW H} {p : List MemPlace} {r : Reach} {b0 : Nat} (F : α → Nat → Value) (G : α → Prop)
    (hel : ∀ n cs y, DataW.trod enc P W 0 (fun _ => true) true n e cs = some y → ∃ x, G x ∧ ∀ k, k < sz → cs[k]? = some (F x k))
    (ht : P.underlying t = some (.slice e)) (hsz : P.cellsOf e = sz) (hpos : 0 < sz) (hv : Value.okWide P W r b0 t v) (h : DataW.Trod enc P W 0 (fun _ => true) true t v d p) :
    ∃ (a : Option Addr) (len cap : Nat) (f : Nat → α), v = .slice a len cap ∧ SlForm d len cap ∧ len ≤ cap ∧ (a = none → cap = 0) ∧ (∀ i, i < cap → G (f i)) ∧ IsRow W a len sz (fun i k => F (f i) k) := by
  obtain ⟨a, len, cap, rfl⟩ := okWide_slice ht hv
  obtain ⟨fuel, hf⟩ := h
  rcases open_slice ht hf with ⟨hcs, hx⟩ | ⟨x, l, c, m, n, D, Pl, hcs, _, hl, hm, hmm, hx, hall⟩
  · simp [Value.cells] at hcs
    obtain ⟨rfl, rfl, rfl⟩ := hcs
    simp only [Prod.mk.injEq] at hx
    exact ⟨none, 0, 0, fun _ => default, rfl, .inl ⟨hx.1, rfl, rfl⟩, Nat.le_refl _, fun _ => rfl, fun i hi => absurd hi (by omega), fun h => absurd h (by omega)⟩
  · simp [Value.cells] at hcs
    obtain ⟨rfl, rfl, rfl⟩ := hcs
    simp only [if_true] at hmm
    subst hmm
    simp only [Prod.mk.injEq] at hx
    obtain ⟨f, hf2⟩ := choose_lt (α := α) (p := fun i y => G y ∧ ∀ k, k < sz → W.cell? (x.add (i * sz + k)) = some (F y k)) (fun i hi => by
      obtain ⟨cs', h1, h2⟩ := hall i hi
      obtain ⟨y, hG, hF⟩ := hel _ _ _ h2
      rw [hsz] at h1
      obtain ⟨_, _, h3⟩ := World.cells?_some h1
      refine ⟨y, hG, fun k hk => ?_⟩
      have h4 := h3 k hk
      rw [hF k hk] at h4
      rw [← h4, Addr.add_add])
    refine ⟨some x, len, m, f, rfl, .inr ⟨_, _, hx.1, by simp, by simp; omega⟩, hl, (fun h => nomatch h), fun i hi => (hf2 i hi).1, fun hp => ?_⟩
    have hc0 := (hf2 0 (by omega)).2 0 hpos
    obtain ⟨b, off, spot⟩ := x
    have hspot : spot = none := by simpa [Addr.add] using World.cell?_spot hc0
    subst hspot
    refine ⟨b, off, rfl, ?_, fun i k hi hk => ?_⟩
    · have := World.block_lt_of_cell? W _ hc0
      simpa [Addr.add] using this
    · have := (hf2 i (by omega)).2 k hk
      rw [Addr.add_lit] at this
      exact this

/-- .. with a property of all places, also of those behind its end. -/
theorem open_rows_all {α : Type} [Inhabited α] {t e : TypeId} {sz : Nat} {v : Value} {d : DataW H} {p : List MemPlace} {r : Reach} {b0 : Nat} (F : α → Nat → Value) (G : α → Prop) (hd : G default)
    (hel : ∀ n cs y, DataW.trod enc P W 0 (fun _ => true) true n e cs = some y → ∃ x, G x ∧ ∀ k, k < sz → cs[k]? = some (F x k))
    (ht : P.underlying t = some (.slice e)) (hsz : P.cellsOf e = sz) (hpos : 0 < sz) (hv : Value.okWide P W r b0 t v) (h : DataW.Trod enc P W 0 (fun _ => true) true t v d p) :
    ∃ (a : Option Addr) (len cap : Nat) (f : Nat → α), v = .slice a len cap ∧ SlForm d len cap ∧ len ≤ cap ∧ (a = none → cap = 0) ∧ (∀ i, G (f i)) ∧ IsRow W a len sz (fun i k => F (f i) k) := by
  obtain ⟨a, len, cap, f, h1, h2, h3, h4, h5, h6⟩ := open_rows F G hel ht hsz hpos hv h
  refine ⟨a, len, cap, fun i => if i < cap then f i else default, h1, h2, h3, h4, fun i => ?_, fun hp => ?_⟩
  · by_cases hi : i < cap
    · simp only [if_pos hi]
      exact h5 i hi
    · simp only [if_neg hi]
      exact hd
  · obtain ⟨b, off, ha, hb, hc⟩ := h6 hp
    refine ⟨b, off, ha, hb, fun i k hi hk => ?_⟩
    have hi2 : i < cap := by omega
    rw [hc i k hi hk]
    simp only [if_pos hi2]

theorem elem_bool {e : TypeId} (he : P.underlying e = some .bool) (n : Nat) (cs : List Value) (y : DataW H × List MemPlace) (h : DataW.trod enc P W 0 (fun _ => true) true n e cs = some y) : ∃ x : Bool, True ∧ ∀ k, k < 1 → cs[k]? = some (Value.bool x) := by
  obtain ⟨b, rfl, _⟩ := DataW.trod_bool he h
  refine ⟨b, trivial, fun k hk => ?_⟩
  obtain rfl : k = 0 := by omega
  rfl

theorem elem_int {e : TypeId} {q : IntKind} (he : P.underlying e = some (.int q)) (n : Nat) (cs : List Value) (y : DataW H × List MemPlace) (h : DataW.trod enc P W 0 (fun _ => true) true n e cs = some y) : ∃ x : Int, (Lit.int q x).wf = true ∧ ∀ k, k < 1 → cs[k]? = some (Value.int q x) := by
  obtain ⟨b, rfl, _, hw⟩ := DataW.trod_int he h
  refine ⟨b, hw, fun k hk => ?_⟩
  obtain rfl : k = 0 := by omega
  rfl
end
end Go.Proofs.Ytmapgfakfeddmaa

/-
  A record that comes in by value, opened.
-/
namespace Go.Proofs.Ytmapgfakfeddmaa
open Go.ChangeShapes Go.WideShapes Go.ChangeAt Go.RowKit Go.Deep Go.Joins
set_option linter.unusedVariables false

set_option maxRecDepth 40000 in
theorem u64_nat {i : Int} (h : (Lit.int .u64 i).wf = true) : ∃ n : Nat, i = (n : Int) := by
  have := (bounds_u64 h).1
  exact ⟨i.toNat, by omega⟩

section
variable {H : Type} {enc : TypeId × Value → H} {W : World}

set_option maxRecDepth 40000 in
theorem trod_st2 {P : Program} {t : TypeId} {f0 f1 : Field} {fuel : Nat} {cs : List Value} {x : DataW H × List MemPlace} (ht : P.underlying t = some (.struct #[f0, f1])) (h : DataW.trod enc P W 0 (fun _ => true) true fuel t cs = some x) :
    ∃ y0 y1 n, cs.length = P.cellsOf t ∧ DataW.trod enc P W 0 (fun _ => true) true n f0.type ((cs.drop f0.offset).take (P.cellsOf f0.type)) = some y0 ∧ DataW.trod enc P W 0 (fun _ => true) true n f1.type ((cs.drop f1.offset).take (P.cellsOf f1.type)) = some y1 := by
  obtain ⟨xs, n, _, rfl, hl, hlen, hf⟩ := DataW.trod_struct ht h
  match xs, hlen with
  | [y0, y1], _ => exact ⟨y0, y1, n, hl, by simpa using hf 0 f0 rfl, by simpa using hf 1 f1 rfl⟩

set_option maxRecDepth 40000 in
theorem trod_st5 {P : Program} {t : TypeId} {f0 f1 f2 f3 f4 : Field} {fuel : Nat} {cs : List Value} {x : DataW H × List MemPlace} (ht : P.underlying t = some (.struct #[f0, f1, f2, f3, f4])) (h : DataW.trod enc P W 0 (fun _ => true) true fuel t cs = some x) :
    ∃ y0 y1 y2 y3 y4 n, cs.length = P.cellsOf t ∧ DataW.trod enc P W 0 (fun _ => true) true n f0.type ((cs.drop f0.offset).take (P.cellsOf f0.type)) = some y0 ∧ DataW.trod enc P W 0 (fun _ => true) true n f1.type ((cs.drop f1.offset).take (P.cellsOf f1.type)) = some y1 ∧ DataW.trod enc P W 0 (fun _ => true) true n f2.type ((cs.drop f2.offset).take (P.cellsOf f2.type)) = some y2 ∧ DataW.trod enc P W 0 (fun _ => true) true n f3.type ((cs.drop f3.offset).take (P.cellsOf f3.type)) = some y3 ∧ DataW.trod enc P W 0 (fun _ => true) true n f4.type ((cs.drop f4.offset).take (P.cellsOf f4.type)) = some y4 := by
  obtain ⟨xs, n, _, rfl, hl, hlen, hf⟩ := DataW.trod_struct ht h
  match xs, hlen with
  | [y0, y1, y2, y3, y4], _ => exact ⟨y0, y1, y2, y3, y4, n, hl, by simpa using hf 0 f0 rfl, by simpa using hf 1 f1 rfl, by simpa using hf 2 f2 rfl, by simpa using hf 3 f3 rfl, by simpa using hf 4 f4 rfl⟩

set_option maxRecDepth 40000 in
theorem trod_st10 {P : Program} {t : TypeId} {f0 f1 f2 f3 f4 f5 f6 f7 f8 f9 : Field} {fuel : Nat} {cs : List Value} {x : DataW H × List MemPlace} (ht : P.underlying t = some (.struct #[f0, f1, f2, f3, f4, f5, f6, f7, f8, f9])) (h : DataW.trod enc P W 0 (fun _ => true) true fuel t cs = some x) :
    ∃ y0 y1 y2 y3 y4 y5 y6 y7 y8 y9 n, cs.length = P.cellsOf t ∧ DataW.trod enc P W 0 (fun _ => true) true n f0.type ((cs.drop f0.offset).take (P.cellsOf f0.type)) = some y0 ∧ DataW.trod enc P W 0 (fun _ => true) true n f1.type ((cs.drop f1.offset).take (P.cellsOf f1.type)) = some y1 ∧ DataW.trod enc P W 0 (fun _ => true) true n f2.type ((cs.drop f2.offset).take (P.cellsOf f2.type)) = some y2 ∧ DataW.trod enc P W 0 (fun _ => true) true n f3.type ((cs.drop f3.offset).take (P.cellsOf f3.type)) = some y3 ∧ DataW.trod enc P W 0 (fun _ => true) true n f4.type ((cs.drop f4.offset).take (P.cellsOf f4.type)) = some y4 ∧ DataW.trod enc P W 0 (fun _ => true) true n f5.type ((cs.drop f5.offset).take (P.cellsOf f5.type)) = some y5 ∧ DataW.trod enc P W 0 (fun _ => true) true n f6.type ((cs.drop f6.offset).take (P.cellsOf f6.type)) = some y6 ∧ DataW.trod enc P W 0 (fun _ => true) true n f7.type ((cs.drop f7.offset).take (P.cellsOf f7.type)) = some y7 ∧ DataW.trod enc P W 0 (fun _ => true) true n f8.type ((cs.drop f8.offset).take (P.cellsOf f8.type)) = some y8 ∧ DataW.trod enc P W 0 (fun _ => true) true n f9.type ((cs.drop f9.offset).take (P.cellsOf f9.type)) = some y9 := by
  obtain ⟨xs, n, _, rfl, hl, hlen, hf⟩ := DataW.trod_struct ht h
  match xs, hlen with
  | [y0, y1, y2, y3, y4, y5, y6, y7, y8, y9], _ => exact ⟨y0, y1, y2, y3, y4, y5, y6, y7, y8, y9, n, hl, by simpa using hf 0 f0 rfl, by simpa using hf 1 f1 rfl, by simpa using hf 2 f2 rfl, by simpa using hf 3 f3 rfl, by simpa using hf 4 f4 rfl, by simpa using hf 5 f5 rfl, by simpa using hf 6 f6 rfl, by simpa using hf 7 f7 rfl, by simpa using hf 8 f8 rfl, by simpa using hf 9 f9 rfl⟩

set_option maxRecDepth 40000 in
theorem op_rows {α : Type} (f : α → Array Value) (z : α) (G : α → Prop) {P : Program} {t e : TypeId} {sz fuel : Nat} {c : Value} {x : DataW H × List MemPlace} (hel : ∀ n cs y, DataW.trod enc P W 0 (fun _ => true) true n e cs = some y → ∃ x, cs = (f x).toList ∧ G x)
    (ht : P.underlying t = some (.slice e)) (hsz : P.cellsOf e = sz) (hfz : ∀ x, (f x).size = sz) (hpos : 0 < sz) (h : DataW.trod enc P W 0 (fun _ => true) true fuel t [c] = some x) : ∃ xs, RowsIn f z sz W c xs ∧ xs.length ≤ maxLen ∧ ∀ x ∈ xs, G x := by
  rcases open_slice ht h with ⟨hcs, _⟩ | ⟨a, len, cap, m, n, D, Pl, hcs, _, hl, hm, hmm, _, hall⟩
  · simp only [List.cons.injEq, and_true] at hcs
    exact ⟨[], ⟨none, 0, hcs, fun h => absurd h (by simp)⟩, Nat.zero_le _, fun x hx => nomatch hx⟩
  · simp only [List.cons.injEq, and_true] at hcs
    subst hcs
    simp only [if_true] at hmm
    subst hmm
    have : Nonempty α := ⟨z⟩
    obtain ⟨g, hg⟩ := @choose_lt α ⟨z⟩ m (fun i y => G y ∧ ∀ k, k < sz → W.cell? (a.add (i * sz + k)) = (f y).toList[k]?) (fun i hi => by
      obtain ⟨cs', h1, h2⟩ := hall i hi
      obtain ⟨y, rfl, hG⟩ := hel _ _ _ h2
      rw [hsz] at h1
      obtain ⟨_, _, h3⟩ := World.cells?_some h1
      refine ⟨y, hG, fun k hk => ?_⟩
      rw [← h3 k hk, Addr.add_add])
    have hL : ((List.range len).map g).length = len := by simp
    refine ⟨(List.range len).map g, ⟨some a, m, by rw [hL], fun hp => ?_⟩, by rw [hL]; omega, fun x hx => by
      obtain ⟨i, hi, rfl⟩ := List.mem_map.1 hx
      exact (hg i (by have := List.mem_range.1 hi; omega)).1⟩
    rw [hL] at hp
    have hf0 : ∀ y k, k < sz → ∃ v, (f y).toList[k]? = some v := fun y k hk => ⟨_, List.getElem?_eq_getElem (by rw [Array.length_toList, hfz]; exact hk)⟩
    have hc0 := (hg 0 (by omega)).2 0 hpos
    obtain ⟨v0, hv0⟩ := hf0 (g 0) 0 hpos
    rw [hv0] at hc0
    obtain ⟨b, off, spot⟩ := a
    have hspot : spot = none := by simpa [Addr.add] using World.cell?_spot hc0
    subst hspot
    refine ⟨b, off, rfl, ?_, fun i hi j v hv => ?_⟩
    · have := World.block_lt_of_cell? W _ hc0
      simpa [Addr.add] using this
    · rw [hL] at hi
      have hget : ((List.range len).map g).getD i z = g i := by
        rw [List.getD_eq_getElem?_getD, List.getElem?_map, List.getElem?_range hi]
        rfl
      rw [hget] at hv
      have hj : j < sz := by
        have := (List.getElem?_eq_some_iff.1 hv).1
        rw [Array.length_toList, hfz] at this
        exact this
      have := (hg i (by omega)).2 j hj
      rw [Addr.add_lit, hv] at this
      rw [← this, Nat.add_assoc]

set_option maxRecDepth 40000 in
theorem elem_ch (n : Nat) (cs : List Value) (y : DataW H × List MemPlace) (h : DataW.trod enc Try.prog W 0 (fun _ => true) true n 24 cs = some y) : ∃ c : Ch, cs = (chA c).toList ∧ c.fits := by
  obtain ⟨y0, y1, y2, y3, y4, m, hl, h0, h1, h2, h3, h4⟩ := trod_st5 Try.underlying24 h
  have hC : Try.prog.cellsOf 24 = 5 := by kernel_rfl
  rw [hC] at hl
  match cs, hl with
  | [c0, c1, c2, c3, c4], _ =>
    have e0 : Try.prog.cellsOf 3 = 1 := by kernel_rfl
    have e1 : Try.prog.cellsOf 9 = 1 := by kernel_rfl
    simp only [e0, e1, List.drop_zero, List.drop_succ_cons, List.take_succ_cons, List.take_zero] at h0 h1 h2 h3 h4
    obtain ⟨i0, g0, _, w0⟩ := DataW.trod_int Try.underlying3 h0
    obtain ⟨i1, g1, _, w1⟩ := DataW.trod_int Try.underlying3 h1
    obtain ⟨i2, g2, _, w2⟩ := DataW.trod_int Try.underlying3 h2
    obtain ⟨i3, g3, _, w3⟩ := DataW.trod_string Try.underlying9 h3
    obtain ⟨i4, g4, _, w4⟩ := DataW.trod_string Try.underlying9 h4
    simp only [List.cons.injEq, and_true] at g0 g1 g2 g3 g4
    subst g0 g1 g2 g3 g4
    exact ⟨⟨i0, i1, i2, i3, i4⟩, rfl, w0, w1, w2, w3, w4⟩

set_option maxRecDepth 40000 in
theorem elem_tx (n : Nat) (cs : List Value) (y : DataW H × List MemPlace) (h : DataW.trod enc Try.prog W 0 (fun _ => true) true n 65 cs = some y) : ∃ c : Tx, cs = (txA c).toList ∧ c.fits := by
  obtain ⟨y0, y1, y2, y3, y4, m, hl, h0, h1, h2, h3, h4⟩ := trod_st5 Try.underlying65 h
  have hC : Try.prog.cellsOf 65 = 5 := by kernel_rfl
  rw [hC] at hl
  match cs, hl with
  | [c0, c1, c2, c3, c4], _ =>
    have e0 : Try.prog.cellsOf 3 = 1 := by kernel_rfl
    have e1 : Try.prog.cellsOf 22 = 1 := by kernel_rfl
    simp only [e0, e1, List.drop_zero, List.drop_succ_cons, List.take_succ_cons, List.take_zero] at h0 h1 h2 h3 h4
    obtain ⟨i0, g0, _, w0⟩ := DataW.trod_int Try.underlying3 h0
    obtain ⟨i1, g1, _, w1⟩ := DataW.trod_int Try.underlying3 h1
    obtain ⟨i2, g2, _, w2⟩ := DataW.trod_int Try.underlying22 h2
    obtain ⟨i3, g3, _, w3⟩ := DataW.trod_int Try.underlying22 h3
    obtain ⟨i4, g4, _, w4⟩ := DataW.trod_int Try.underlying22 h4
    simp only [List.cons.injEq, and_true] at g0 g1 g2 g3 g4
    subst g0 g1 g2 g3 g4
    obtain ⟨j2, rfl⟩ := u64_nat w2
    obtain ⟨j3, rfl⟩ := u64_nat w3
    obtain ⟨j4, rfl⟩ := u64_nat w4
    exact ⟨⟨i0, i1, j2, j3, j4⟩, rfl, w0, w1, w2, w3, w4⟩

set_option maxRecDepth 40000 in
theorem elem_di (n : Nat) (cs : List Value) (y : DataW H × List MemPlace) (h : DataW.trod enc Try.prog W 0 (fun _ => true) true n 67 cs = some y) : ∃ c : Di, cs = (diA c).toList ∧ c.fits := by
  obtain ⟨y0, y1, m, hl, h0, h1⟩ := trod_st2 Try.underlying67 h
  have hC : Try.prog.cellsOf 67 = 2 := by kernel_rfl
  rw [hC] at hl
  match cs, hl with
  | [c0, c1], _ =>
    have e0 : Try.prog.cellsOf 3 = 1 := by kernel_rfl
    have e1 : Try.prog.cellsOf 22 = 1 := by kernel_rfl
    simp only [e0, e1, List.drop_zero, List.drop_succ_cons, List.take_succ_cons, List.take_zero] at h0 h1
    obtain ⟨i0, g0, _, w0⟩ := DataW.trod_int Try.underlying3 h0
    obtain ⟨i1, g1, _, w1⟩ := DataW.trod_int Try.underlying22 h1
    simp only [List.cons.injEq, and_true] at g0 g1
    subst g0 g1
    obtain ⟨j1, rfl⟩ := u64_nat w1
    exact ⟨⟨i0, j1⟩, rfl, w0, w1⟩

set_option maxRecDepth 40000 in
theorem op_record {v : Value} {d : DataW H} {p : List MemPlace} {r : Reach} {b0 : Nat} (hv : Value.okWide Try.prog W r b0 28 v) (h : DataW.Trod enc Try.prog W 0 (fun _ => true) true 28 v d p) :
    ∃ m : Rec × Value × Value, v = .agg (rcA m.1 m.2.1 m.2.2) ∧ m.1.fits ∧ RcIn W m.1 m.2.1 m.2.2 := by
  obtain ⟨cs, rfl, hsz⟩ := okWide_struct Try.underlying28 hv
  have hC : Try.prog.cellsOf 28 = 14 := by kernel_rfl
  rw [hC] at hsz
  obtain ⟨fuel, hf⟩ := h
  obtain ⟨l⟩ := cs
  have hl : l.length = 14 := hsz
  match l, hl with
  | [c0, c1, c2, c3, c4, c5, c6, c7, c8, c9, c10, c11, c12, c13], _ =>
    have ec : (Value.agg ⟨[c0, c1, c2, c3, c4, c5, c6, c7, c8, c9, c10, c11, c12, c13]⟩).cells.toList = [c0, c1, c2, c3, c4, c5, c6, c7, c8, c9, c10, c11, c12, c13] := rfl
    obtain ⟨y0, y1, y2, y3, y4, y5, y6, y7, y8, y9, m, _, h0, h1, h2, h3, h4, h5, h6, h7, h8, h9⟩ := trod_st10 Try.underlying28 hf
    have e0 : Try.prog.cellsOf 3 = 1 := by kernel_rfl
    have e1 : Try.prog.cellsOf 22 = 1 := by kernel_rfl
    have e2 : Try.prog.cellsOf 24 = 5 := by kernel_rfl
    have e3 : Try.prog.cellsOf 25 = 1 := by kernel_rfl
    have e4 : Try.prog.cellsOf 26 = 1 := by kernel_rfl
    simp only [ec, e0, e1, e2, e3, e4, List.drop_zero, List.drop_succ_cons, List.take_succ_cons, List.take_zero] at h0 h1 h2 h3 h4 h5 h6 h7 h8 h9
    obtain ⟨i0, g0, _, w0⟩ := DataW.trod_int Try.underlying3 h0
    obtain ⟨i1, g1, _, w1⟩ := DataW.trod_int Try.underlying22 h1
    obtain ⟨i2, g2, _, w2⟩ := DataW.trod_int Try.underlying3 h2
    obtain ⟨i3, g3, _, w3⟩ := DataW.trod_int Try.underlying22 h3
    obtain ⟨ch, g4, w4⟩ := elem_ch _ _ _ h4
    obtain ⟨i5, g5, _, w5⟩ := DataW.trod_int Try.underlying22 h5
    obtain ⟨i6, g6, _, w6⟩ := DataW.trod_int Try.underlying3 h6
    obtain ⟨i7, g7, _, w7⟩ := DataW.trod_int Try.underlying22 h7
    obtain ⟨ts, g8, w8, u8⟩ := op_rows (sz := 5) txA Tx.zero Tx.fits elem_tx Try.underlying25 (by kernel_rfl) (fun _ => rfl) (by decide) h8
    obtain ⟨ds, g9, w9, u9⟩ := op_rows (sz := 2) diA Di.zero Di.fits elem_di Try.underlying26 (by kernel_rfl) (fun _ => rfl) (by decide) h9
    simp only [chA, List.cons.injEq, and_true] at g0 g1 g2 g3 g4 g5 g6 g7
    obtain ⟨g40, g41, g42, g43, g44⟩ := g4
    subst g0 g1 g2 g3 g40 g41 g42 g43 g44 g5 g6 g7
    obtain ⟨j1, rfl⟩ := u64_nat w1
    obtain ⟨j3, rfl⟩ := u64_nat w3
    obtain ⟨j5, rfl⟩ := u64_nat w5
    obtain ⟨j7, rfl⟩ := u64_nat w7
    exact ⟨(⟨i0, j1, i2, j3, ch, j5, i6, j7, ts, ds⟩, c12, c13), rfl, ⟨w4, w8, w9, u8, u9⟩, g8, g9⟩
end
end Go.Proofs.Ytmapgfakfeddmaa

/-
  The contract of quaysideref06.Same: all but the lists.
-/
namespace Go.Proofs.Ytmapgfakfeddmaa
open Go.RowKit
set_option linter.unusedVariables false

theorem bne_yes {a b : Int} (h : ¬ a = b) : (a != b) = true := by rw [bne, beq_no h]; rfl
theorem bne_no {a b : Int} (h : a = b) : (a != b) = false := by rw [bne, beq_yes h]; rfl
/-- All is alike but the lists. -/
def Rec.flat (a b : Rec) : Prop := a.k = b.k ∧ a.l = b.l ∧ a.t = b.t ∧ a.p = b.p ∧ a.c = b.c ∧ a.n = b.n ∧ a.s = b.s ∧ a.b = b.b

set_option maxRecDepth 4000 in
set_option maxHeartbeats 6400000 in
theorem rsame_no (a b : Rec) (va vb ua ub : Value) (w : World) (hn : ¬ Rec.flat a b) (ha : RcIn w a va vb) (hb : RcIn w b ua ub) :
    Calls Try.prog 17 #[.agg (rcA a va vb), .agg (rcA b ua ub)] w fun e w' => e = .returned (.bool false) ∧ Below w.heap.size w w' := by
  have HN := hide hn
  clear hn
  have HA := hide ha
  have HB := hide hb
  obtain ⟨⟨a1, cap1, rfl, -⟩, ⟨a2, cap2, rfl, -⟩⟩ := ha
  obtain ⟨⟨b1, dap1, rfl, -⟩, ⟨b2, dap2, rfl, -⟩⟩ := hb
  have K0 := Keeps.two w 28 28 (rcA a (.slice a1 a.ts.length cap1) (.slice a2 a.ds.length cap2)) (rcA b (.slice b1 b.ts.length dap1) (.slice b2 b.ds.length dap2))
  have HK := hide K0
  obtain ⟨c0, c1, c2, c3, c9, c10, c11, c12, c13⟩ := rc_cells K0.1.2.1
  obtain ⟨d0, d1, d2, d3, d9, d10, d11, d12, d13⟩ := rc_cells K0.1.1
  obtain ⟨c4, c5, c6, c7, c8⟩ := rc_chg K0.1.2.1
  obtain ⟨d4, d5, d6, d7, d8⟩ := rc_chg K0.1.1
  have hb0 := K0.2
  clear K0
  clear HK HA HB
  by_cases hk : a.k = b.k
  case neg =>
    have gk := beq_no hk
    have kk := bne_yes hk
    clear hk
    clear HN
    go_enter Try.func17, Try.ntmps17
    go_wp2
    go_ret
    exact ⟨rfl, hb0⟩
  have Hk := hide hk
  have gk := beq_yes hk
  have kk := bne_no hk
  clear hk
  by_cases hl : (a.l : Int) = (b.l : Int)
  case neg =>
    have gl := beq_no hl
    have kl := bne_yes hl
    clear hl
    clear HN
    go_enter Try.func17, Try.ntmps17
    go_wp2
    go_ret
    exact ⟨rfl, hb0⟩
  have Hl := hide hl
  have gl := beq_yes hl
  have kl := bne_no hl
  clear hl
  by_cases ht : a.t = b.t
  case neg =>
    have gt := beq_no ht
    have kt := bne_yes ht
    clear ht
    clear HN
    go_enter Try.func17, Try.ntmps17
    go_wp2
    go_ret
    exact ⟨rfl, hb0⟩
  have Ht := hide ht
  have gt := beq_yes ht
  have kt := bne_no ht
  clear ht
  by_cases hp : (a.p : Int) = (b.p : Int)
  case neg =>
    have gp := beq_no hp
    have kp := bne_yes hp
    clear hp
    clear HN
    go_enter Try.func17, Try.ntmps17
    go_wp2
    go_ret
    exact ⟨rfl, hb0⟩
  have Hp := hide hp
  have gp := beq_yes hp
  have kp := bne_no hp
  clear hp
  by_cases hck : a.c.k = b.c.k
  case neg =>
    have gck := beq_no hck
    have kck := bne_yes hck
    clear hck
    clear HN
    go_enter Try.func17, Try.ntmps17
    go_wp2
    go_ret
    exact ⟨rfl, hb0⟩
  have Hck := hide hck
  have gck := beq_yes hck
  have kck := bne_no hck
  clear hck
  by_cases hcp : a.c.pg = b.c.pg
  case neg =>
    have gcp := beq_no hcp
    have kcp := bne_yes hcp
    clear hcp
    clear HN
    go_enter Try.func17, Try.ntmps17
    go_wp2
    go_ret
    exact ⟨rfl, hb0⟩
  have Hcp := hide hcp
  have gcp := beq_yes hcp
  have kcp := bne_no hcp
  clear hcp
  by_cases hcs : a.c.sl = b.c.sl
  case neg =>
    have gcs := beq_no hcs
    have kcs := bne_yes hcs
    clear hcs
    clear HN
    go_enter Try.func17, Try.ntmps17
    go_wp2
    go_ret
    exact ⟨rfl, hb0⟩
  have Hcs := hide hcs
  have gcs := beq_yes hcs
  have kcs := bne_no hcs
  clear hcs
  by_cases hco : a.c.o.toList = b.c.o.toList
  case neg =>
    clear HN
    go_enter Try.func17, Try.ntmps17
    go_wp2
    go_ret
    exact ⟨rfl, hb0⟩
  have Hco := hide hco
  by_cases hcn : a.c.n.toList = b.c.n.toList
  case neg =>
    clear HN
    go_enter Try.func17, Try.ntmps17
    go_wp2
    go_ret
    exact ⟨rfl, hb0⟩
  have Hcn := hide hcn
  by_cases hn : (a.n : Int) = (b.n : Int)
  case neg =>
    have gn := beq_no hn
    have kn := bne_yes hn
    clear hn
    clear HN
    go_enter Try.func17, Try.ntmps17
    go_wp2
    go_ret
    exact ⟨rfl, hb0⟩
  have Hn := hide hn
  have gn := beq_yes hn
  have kn := bne_no hn
  clear hn
  by_cases hs : a.s = b.s
  case neg =>
    have gs := beq_no hs
    have ks := bne_yes hs
    clear hs
    clear HN
    go_enter Try.func17, Try.ntmps17
    go_wp2
    go_ret
    exact ⟨rfl, hb0⟩
  have Hs := hide hs
  have gs := beq_yes hs
  have ks := bne_no hs
  clear hs
  by_cases hb : (a.b : Int) = (b.b : Int)
  case neg =>
    have gb := beq_no hb
    have kb := bne_yes hb
    clear hb
    clear HN
    go_enter Try.func17, Try.ntmps17
    go_wp2
    go_ret
    exact ⟨rfl, hb0⟩
  have Hb := hide hb
  have gb := beq_yes hb
  have kb := bne_no hb
  clear hb
  exact absurd ⟨Hk.out, Int.ofNat_inj.1 Hl.out, Ht.out, Int.ofNat_inj.1 Hp.out, (like_iff _ _).1 ⟨Hck.out, Hcp.out, Hcs.out, str_same Hco.out, str_same Hcn.out⟩, Int.ofNat_inj.1 Hn.out, Hs.out, Int.ofNat_inj.1 Hb.out⟩ HN.out
end Go.Proofs.Ytmapgfakfeddmaa
