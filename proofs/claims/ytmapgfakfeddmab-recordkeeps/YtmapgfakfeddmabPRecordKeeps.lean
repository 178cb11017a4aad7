/-
  RecordKeeps: what comes out is new memory: lists that are written over change nothing. RecordKeeps returns true for every input, and its arguments read as before.
  Condition: none but those that the form of every such statement bears by itself (each string within the reach).
-/
import Derived.OpenShut
import Derived.Test.YtmapgfakfeddmabRows
import Derived.ProofKit
import Derived.ShutString
import Derived.SizedLaws
import Derived.JoinedCond
import Derived.Test.YtmapgfakfeddmabK03
import Derived.Test.YtmapgfakfeddmabK04

/-
  The walk of RecordKeeps: it returns true, and turns nothing that was there.
-/
namespace Go.Proofs.Ytmapgfakfeddmab.recordKeeps
open Go.RowKit
set_option linter.unusedVariables false

theorem rec_pos (r : Rec) : 0 < (recB r).length := by
  unfold recB
  simp only [List.length_append, beB_length]
  omega
/-- A world that is as another one but for some blocks. -/
structure Near (Bad : Nat → Prop) (w z : World) : Prop where
  os : z.os = w.os
  tape : z.tape = w.tape
  output : z.output = w.output
  size : w.heap.size ≤ z.heap.size
  block : ∀ k, k < w.heap.size → ¬ Bad k → z.heap[k]? = w.heap[k]?
theorem Near.refl (Bad : Nat → Prop) (w : World) : Near Bad w w := ⟨rfl, rfl, rfl, Nat.le_refl _, fun _ _ _ => rfl⟩
theorem Near.set {Bad : Nat → Prop} {w z : World} (h : Near Bad w z) {g : Nat} (hg : Bad g) (j : Nat) (v : Value) : Near Bad w (z.setCell ⟨g, j, none⟩ v) := by
  have hs := grown_set (g := g) (j := j) v (grown_refl z (some g))
  exact ⟨hs.os.trans h.os, hs.tape.trans h.tape, hs.output.trans h.output, Nat.le_trans h.size hs.size, fun k hk hb => (hs.block k (Nat.lt_of_lt_of_le hk h.size) (fun e => by cases e; exact hb hg)).trans (h.block k hk hb)⟩
theorem Near.row {Bad : Nat → Prop} {w z : World} (h : Near Bad w z) {b : Nat} {t : TypeId} {cs : Array Value} (hr : RowAt w b t cs) (hb : ¬ Bad b) : RowAt z b t cs := (h.block b hr.lt hb).trans hr
theorem Near.rows {α : Type} {f : α → Array Value} {z0 : α} {n : Nat} {Bad : Nat → Prop} {w z : World} (h : Near Bad w z) {v : Value} {xs : List α} (hr : RowsIn f z0 n w v xs) (hb : ∀ a l c, v = .slice (some a) l c → 0 < xs.length → ¬ Bad a.block) : RowsIn f z0 n z v xs := by
  obtain ⟨a, cap, h1, h2⟩ := hr
  refine ⟨a, cap, h1, fun hp => ?_⟩
  obtain ⟨b, off, h3, h4, h5⟩ := h2 hp
  refine ⟨b, off, h3, Nat.lt_of_lt_of_le h4 h.size, fun i hi j u hu => ?_⟩
  rw [World.cell?_of_block (a := ⟨b, off + i * n + j, none⟩) (h.block b h4 (hb ⟨b, off, none⟩ _ _ (by rw [h1, h3]) hp))]
  exact h5 i hi j u hu
/-- A row that may be written to. -/
def Wt (z : World) (v : Value) (t : TypeId) (n : Nat) : Prop := ∀ g, v.ownBlock = some g → ∃ cur, RowAt z g t cur ∧ n ≤ cur.size
theorem Wt.set {z : World} {v : Value} {t : TypeId} {n : Nat} (h : Wt z v t n) (g j : Nat) (u : Value) : Wt (z.setCell ⟨g, j, none⟩ u) v t n := fun k hk => by
  obtain ⟨cur, h1, h2⟩ := h k hk
  by_cases e : k = g
  · subst e
    exact ⟨_, h1.set j u, by simpa using h2⟩
  · exact ⟨cur, h1.other _ _ e, h2⟩
theorem own_wt {z : World} {base n sz : Nat} {e : TypeId} {v : Value} {xs : List Value} (h : z.ownsRow base e sz v n xs) : Wt z v e (n * sz) := fun g hg => by
  rcases h.2 with ⟨h1, _⟩ | ⟨g', cap, cur, h1, h2, h3, h4, h5, h6, h7⟩
  · subst h1
    cases hg
  · subst h1
    simp only [Value.ownBlock, Option.some.injEq] at hg
    subst hg
    exact ⟨cur, h3, by rw [h6]; exact Nat.mul_le_mul_right _ h4⟩
theorem own_first {z : World} {base n sz : Nat} {e : TypeId} {a : Option Addr} {c : Nat} {xs : List Value} (h : z.ownsRow base e sz (.slice a n c) n xs) (hn : 0 < n) : ∃ g, a = some ⟨g, 0, none⟩ := by
  rcases h.2 with ⟨_, h2⟩ | ⟨g', cap, cur, h1, _⟩
  · omega
  · cases h1
    exact ⟨g', rfl⟩

set_option maxRecDepth 4000 in
set_option maxHeartbeats 3200000 in
theorem no (r : Rec) (va vb : Value) (w : World) (hr : ¬ r.right) (hf : r.fits) (hin : RcIn w r va vb) :
    Calls Try.prog 3 #[.agg (rcA r va vb)] w fun e w' => e = .returned (.bool true) ∧ Below w.heap.size w w' := by
  have HIN := hide hin
  have HE := hide (fun w h => enc_no r va vb w hr hf h)
  obtain ⟨⟨e1, cap1, rfl, -⟩, ⟨e2, cap2, rfl, -⟩⟩ := hin
  have HK0 := hide (Keeps.one w 28 (rcA r (.slice e1 r.ts.length cap1) (.slice e2 r.ds.length cap2)))
  clear hf hr
  go_enter Try.func3, Try.ntmps3
  go_wp2_with fail
  refine gen_calls (fun x => Hid (Keeps w x [(w.heap.size, 28, (rcA r (.slice e1 r.ts.length cap1) (.slice e2 r.ds.length cap2)))])) HK0 ?_
  clear HK0
  intro x0 HK0
  refine (awake_any _).mono ?_
  rintro e w1 ⟨rfl, hb1⟩
  have HK1 := hide (HK0.out.later hb1)
  clear HK0 hb1
  go_wp2_with (refine wpList_load_at rfl 28 (.tmp 1) rfl w.heap.size rfl (rcA r (.slice e1 r.ts.length cap1) (.slice e2 r.ds.length cap2)) HK1.out.1.1 _ Try.underlying28 rfl infoRc ?_)
  refine (HE.out _ (HIN.out.below HK1.out.2)).mono ?_
  rintro e w2 ⟨rfl, hb2⟩
  have d2 := (HK1.out.later hb2).2
  clear HK1 hb2 HE HIN
  go_wp2
  go_ret
  exact ⟨rfl, d2⟩

set_option maxRecDepth 4000 in
set_option maxHeartbeats 6400000 in
theorem yes (r : Rec) (va vb : Value) (w : World) (hr : r.right) (hf : r.fits) (hin : RcIn w r va vb) :
    Calls Try.prog 3 #[.agg (rcA r va vb)] w fun e w' => e = .returned (.bool true) ∧ Below w.heap.size w w' := by
  have HIN := hide hin
  have HE := hide (fun w h => enc_any r va vb w hf h)
  have eE : encE r = 0 := by unfold encE; rw [if_pos (rightB_yes hr)]
  have eL : encL r = recB r := by unfold encL; rw [if_pos (rightB_yes hr)]
  rw [eE, eL] at HE
  have HFI := hide hf
  have D1 := hide (dec_enc r hr)
  have hpos := rec_pos r
  have hfew := rec_few r hr
  have ht16 : r.ts.length ≤ 16 ∧ r.ds.length ≤ 32 := by
    have := enc_bounds hr
    omega
  obtain ⟨⟨e1, cap1, rfl, -⟩, ⟨e2, cap2, rfl, -⟩⟩ := hin
  have HK0 := hide (Keeps.one w 28 (rcA r (.slice e1 r.ts.length cap1) (.slice e2 r.ds.length cap2)))
  clear hf hr eE eL
  generalize recB r = L at *
  obtain ⟨ln, hln⟩ : ∃ ln, ln = L.length := ⟨_, rfl⟩
  rw [← hln] at hpos hfew
  have HLN := hide hln
  clear hln
  go_enter Try.func3, Try.ntmps3
  go_wp2_with fail
  refine gen_calls (fun x => Hid (Keeps w x [(w.heap.size, 28, (rcA r (.slice e1 r.ts.length cap1) (.slice e2 r.ds.length cap2)))])) HK0 ?_
  clear HK0
  intro x0 HK0
  refine (awake_any _).mono ?_
  rintro e w1 ⟨rfl, hb1⟩
  have HK1 := hide (HK0.out.later hb1)
  clear HK0 hb1
  go_wp2_with (refine wpList_load_at rfl 28 (.tmp 1) rfl w.heap.size rfl (rcA r (.slice e1 r.ts.length cap1) (.slice e2 r.ds.length cap2)) HK1.out.1.1 _ Try.underlying28 rfl infoRc ?_)
  refine (HE.out _ (HIN.out.below HK1.out.2)).mono ?_
  rintro e w2 ⟨⟨v2, rfl, p2, k2, rfl, -, hcap, hB2, hown2⟩, hb2⟩
  rw [← HLN.out] at hB2 hcap hown2
  rw [← HLN.out]
  obtain ⟨pb, rfl⟩ := own_first hown2 hpos
  have HO2 := hide (own_base hown2 HK1.out.2.size)
  have HK2 := hide (HK1.out.later hb2)
  have HB2 := hide hB2
  clear HK1 hb2 HE hB2 hown2
  go_wp2_with fail
  refine (dec_any _ ln k2 L w2 HB2.out (by omega) hcap).mono ?_
  rw [D1.out]
  rintro e w3 ⟨⟨va3, vb3, rfl, hgot⟩, hb3⟩
  obtain ⟨av, cv, rfl⟩ := own_shape5 hgot.1
  obtain ⟨au, cu, rfl⟩ := own_shape5 hgot.2
  have HG3 : Hid (GotIn w.heap.size w3 r (.slice av r.ts.length cv) (.slice au r.ds.length cu)) := ⟨own_mono hgot.1 HK2.out.2.size, own_mono hgot.2 HK2.out.2.size⟩
  have HK3 := hide (HK2.out.later hb3)
  have HB3 := hide (HB2.out.below hb3)
  have HO3 := hide (ownsRow_below HO2.out hb3)
  clear hgot hb3 HK2 HB2 HO2
  go_wp2_with (refine wpList_store_at rfl 28 (.tmp 5) (.tmp 24) rfl w3.heap.size #[.int .i64 0, .int .u64 0, .int .i64 0, .int .u64 0, .int .i64 0, .int .i64 0, .int .i64 0, .string ⟨#[]⟩, .string ⟨#[]⟩, .int .u64 0, .int .i64 0, .int .u64 0, .slice none 0 0, .slice none 0 0] (rcA r (.slice av r.ts.length cv) (.slice au r.ds.length cu)) rfl rfl (RowAt.new w3 28 #[.int .i64 0, .int .u64 0, .int .i64 0, .int .u64 0, .int .i64 0, .int .i64 0, .int .i64 0, .string ⟨#[]⟩, .string ⟨#[]⟩, .int .u64 0, .int .i64 0, .int .u64 0, .slice none 0 0, .slice none 0 0]) infoRc rfl (by simp [rcA, Value.oneCell']) ?_)
  intro w4 hr4 hk4 _
  have hb4 := hk4 _ _ ((Below.refl w3.heap.size w3).alloc (Nat.le_refl _) _) (Nat.le_refl _)
  have HG4 := hide (HG3.out.below hb4)
  have HB4 := hide (HB3.out.below hb4)
  have HO4 := hide (ownsRow_below HO3.out hb4)
  have HK4 : Hid (Keeps w w4 [(w3.heap.size, 28, (rcA r (.slice av r.ts.length cv) (.slice au r.ds.length cu))), (w.heap.size, 28, (rcA r (.slice e1 r.ts.length cap1) (.slice e2 r.ds.length cap2)))]) := HK3.out.laid hr4 hk4
  clear hr4 hk4 hb4 HG3 HB3 HK3 HO3
  generalize w3.heap.size = gx at *
  go_wp2_with fail
  refine (dec_any _ ln k2 L w4 HB4.out (by omega) hcap).mono ?_
  rw [D1.out]
  rintro e w5 ⟨⟨va5, vb5, rfl, hgot⟩, hb5⟩
  obtain ⟨bv, dv, rfl⟩ := own_shape5 hgot.1
  obtain ⟨bu, du, rfl⟩ := own_shape5 hgot.2
  have HY5 := hide hgot
  have HX5 := hide (HG4.out.below hb5)
  have HK5 := hide (HK4.out.later hb5)
  have HO5 := hide (ownsRow_below HO4.out hb5)
  have HLT : Hid (∀ k, ((.slice av r.ts.length cv) : Value).ownBlock = some k ∨ ((.slice au r.ds.length cu) : Value).ownBlock = some k ∨ (Value.slice (some ⟨pb, 0, none⟩) ln k2).ownBlock = some k → w.heap.size ≤ k ∧ k < w4.heap.size) := fun k hk => by
    rcases hk with hk | hk | hk
    · exact HG4.out.1.lt k hk
    · exact HG4.out.2.lt k hk
    · exact HO4.out.lt k hk
  clear hgot hb5 HG4 HK4 HB4 HO4 D1
  go_wp2_with (refine wpList_store_at rfl 28 (.tmp 7) (.tmp 29) rfl w5.heap.size #[.int .i64 0, .int .u64 0, .int .i64 0, .int .u64 0, .int .i64 0, .int .i64 0, .int .i64 0, .string ⟨#[]⟩, .string ⟨#[]⟩, .int .u64 0, .int .i64 0, .int .u64 0, .slice none 0 0, .slice none 0 0] (rcA r (.slice bv r.ts.length dv) (.slice bu r.ds.length du)) rfl rfl (RowAt.new w5 28 #[.int .i64 0, .int .u64 0, .int .i64 0, .int .u64 0, .int .i64 0, .int .i64 0, .int .i64 0, .string ⟨#[]⟩, .string ⟨#[]⟩, .int .u64 0, .int .i64 0, .int .u64 0, .slice none 0 0, .slice none 0 0]) infoRc rfl (by simp [rcA, Value.oneCell']) ?_)
  intro w6 hr6 hk6 _
  have hb6 := hk6 _ _ ((Below.refl w5.heap.size w5).alloc (Nat.le_refl _) _) (Nat.le_refl _)
  have HY6 := hide (HY5.out.below hb6)
  have HX6 := hide (HX5.out.below hb6)
  have HO6 := hide (ownsRow_below HO5.out hb6)
  have HK6 : Hid (Keeps w w6 [(w5.heap.size, 28, (rcA r (.slice bv r.ts.length dv) (.slice bu r.ds.length du))), (gx, 28, (rcA r (.slice av r.ts.length cv) (.slice au r.ds.length cu))), (w.heap.size, 28, (rcA r (.slice e1 r.ts.length cap1) (.slice e2 r.ds.length cap2)))]) := HK5.out.laid hr6 hk6
  clear hr6 hk6 hb6 HY5 HX5 HO5 HK5
  generalize w5.heap.size = gy at *
  generalize hM : w4.heap.size = M at *
  clear hM
  obtain ⟨Bad, hBad⟩ : ∃ Bad : Nat → Prop, Bad = fun k => ((.slice av r.ts.length cv) : Value).ownBlock = some k ∨ ((.slice au r.ds.length cu) : Value).ownBlock = some k ∨ (Value.slice (some ⟨pb, 0, none⟩) ln k2).ownBlock = some k := ⟨_, rfl⟩
  have HBD := hide hBad
  have HW6 : Hid (Wt w6 (.slice av r.ts.length cv) 37 (r.ts.length * 5) ∧ Wt w6 (.slice au r.ds.length cu) 39 (r.ds.length * 2) ∧ Wt w6 (.slice (some ⟨pb, 0, none⟩) ln k2) 5 (ln * 1)) := ⟨own_wt HX6.out.1, own_wt HX6.out.2, own_wt HO6.out⟩
  have HNB : Hid (∀ b cs, RowAt w6 b 28 cs → ¬ Bad b) := fun b cs hrow hbad => by
    rw [HBD.out] at hbad
    rcases hbad with h | h | h
    · obtain ⟨cur, h1, _⟩ := HW6.out.1 b h
      have h5 := hrow.symm.trans h1
      simp only [Option.some.injEq, Obj.cells.injEq] at h5
      exact absurd h5.2.1 (by decide)
    · obtain ⟨cur, h1, _⟩ := HW6.out.2.1 b h
      have h5 := hrow.symm.trans h1
      simp only [Option.some.injEq, Obj.cells.injEq] at h5
      exact absurd h5.2.1 (by decide)
    · obtain ⟨cur, h1, _⟩ := HW6.out.2.2 b h
      have h5 := hrow.symm.trans h1
      simp only [Option.some.injEq, Obj.cells.injEq] at h5
      exact absurd h5.2.1 (by decide)
  clear hBad
  have HXC : Hid (∀ z, Near Bad w6 z → z.cell? ⟨gx, 12, none⟩ = some (.slice av r.ts.length cv) ∧ z.cell? ⟨gx, 13, none⟩ = some (.slice au r.ds.length cu)) := fun z hz => by
    have h := hz.row HK6.out.1.2.1 (HNB.out _ _ HK6.out.1.2.1)
    exact ⟨h.cell 12 _ rfl, h.cell 13 _ rfl⟩
  have c12 := (HXC.out w6 (Near.refl _ _)).1
  go_wp2
  clear c12
  go_loopw [40, 9] (fun v _ z => ∃ j : Nat, j ≤ r.ts.length ∧ v = .int .i64 j ∧ Near Bad w6 z ∧ Wt z (.slice av r.ts.length cv) 37 (r.ts.length * 5) ∧ Wt z (.slice au r.ds.length cu) 39 (r.ds.length * 2) ∧ Wt z (.slice (some ⟨pb, 0, none⟩) ln k2) 5 (ln * 1)) (fun v _ _ => r.ts.length - (intOf v).toNat)
  case atStart => exact ⟨0, Nat.zero_le _, rfl, Near.refl _ _, HW6.out⟩
  case round =>
    obtain ⟨j, hj, rfl, hn, hw⟩ := hrel
    have HN := hide hn
    have HW := hide hw
    clear hn hw
    have c12 := (HXC.out wr HN.out).1
    by_cases hlt : j < r.ts.length
    case pos =>
      have jlt : (j : Int) < (r.ts.length : Int) := by omega
      obtain ⟨g1, hg1⟩ := own_first HX6.out.1 (by omega)
      subst hg1
      obtain ⟨cur, hrow, hsz⟩ := HW.out.1 g1 rfl
      have hjs : j * 5 < cur.size := by omega
      have cc := hrow.cell (j * 5) _ (Array.getElem?_eq_getElem hjs)
      have ff := hrow.free (j * 5)
      generalize cur[j * 5] = u at *
      clear hrow hsz hjs
      go_wp2_with fail
      clear cc ff
      go_roundw
      case rel => exact ⟨j + 1, by omega, by go_num, HN.out.set (by rw [HBD.out]; exact .inl rfl) _ _, HW.out.1.set _ _ _, HW.out.2.1.set _ _ _, HW.out.2.2.set _ _ _⟩
      case measure => simp [intOf]; omega
    obtain rfl : j = r.ts.length := by omega
    have c13 := (HXC.out wr HN.out).2
    clear c12
    go_wp2
    clear c13
    go_loopw [52, 10] (fun v _ z => ∃ j : Nat, j ≤ r.ds.length ∧ v = .int .i64 j ∧ Near Bad w6 z ∧ Wt z (.slice av r.ts.length cv) 37 (r.ts.length * 5) ∧ Wt z (.slice au r.ds.length cu) 39 (r.ds.length * 2) ∧ Wt z (.slice (some ⟨pb, 0, none⟩) ln k2) 5 (ln * 1)) (fun v _ _ => r.ds.length - (intOf v).toNat)
    case atStart => exact ⟨0, Nat.zero_le _, rfl, HN.out, HW.out⟩
    case round =>
      obtain ⟨j, hj, rfl, hn, hw⟩ := hrel
      have HN := hide hn
      have HW := hide hw
      clear hn hw
      have c13 := (HXC.out wr HN.out).2
      by_cases hlt : j < r.ds.length
      case pos =>
        have jlt : (j : Int) < (r.ds.length : Int) := by omega
        obtain ⟨g1, hg1⟩ := own_first HX6.out.2 (by omega)
        subst hg1
        obtain ⟨cur, hrow, hsz⟩ := HW.out.2.1 g1 rfl
        have hjs : j * 2 + 1 < cur.size := by omega
        have cc := hrow.cell (j * 2 + 1) _ (Array.getElem?_eq_getElem hjs)
        have ff := hrow.free (j * 2 + 1)
        generalize cur[j * 2 + 1] = u at *
        clear hrow hsz hjs
        go_wp2_with fail
        clear cc ff
        go_roundw
        case rel => exact ⟨j + 1, by omega, by go_num, HN.out.set (by rw [HBD.out]; exact .inr (.inl rfl)) _ _, HW.out.1.set _ _ _, HW.out.2.1.set _ _ _, HW.out.2.2.set _ _ _⟩
        case measure => simp [intOf]; omega
      obtain rfl : j = r.ds.length := by omega
      clear c13
      go_wp2
      go_loopw [63, 11] (fun v _ z => ∃ j : Nat, j ≤ ln ∧ v = .int .i64 j ∧ Near Bad w6 z ∧ Wt z (.slice av r.ts.length cv) 37 (r.ts.length * 5) ∧ Wt z (.slice au r.ds.length cu) 39 (r.ds.length * 2) ∧ Wt z (.slice (some ⟨pb, 0, none⟩) ln k2) 5 (ln * 1)) (fun v _ _ => ln - (intOf v).toNat)
      case atStart => exact ⟨0, Nat.zero_le _, rfl, HN.out, HW.out⟩
      case round =>
        obtain ⟨j, hj, rfl, hn, hw⟩ := hrel
        have HN := hide hn
        have HW := hide hw
        clear hn hw
        by_cases hlt : j < ln
        case pos =>
          have jlt : (j : Int) < (ln : Int) := by omega
          obtain ⟨g1, hg1⟩ : ∃ g1, g1 = pb := ⟨_, rfl⟩
          subst hg1
          obtain ⟨cur, hrow, hsz⟩ := HW.out.2.2 g1 rfl
          have hjs : j < cur.size := by omega
          have cc := hrow.cell (j) _ (Array.getElem?_eq_getElem hjs)
          have ff := hrow.free (j)
          generalize cur[j] = u at *
          clear hrow hsz hjs
          go_wp2_with fail
          clear cc ff
          go_roundw
          case rel => exact ⟨j + 1, by omega, by go_num, HN.out.set (by rw [HBD.out]; exact .inr (.inr rfl)) _ _, HW.out.1.set _ _ _, HW.out.2.1.set _ _ _, HW.out.2.2.set _ _ _⟩
          case measure => simp [intOf]; omega
        obtain rfl : j = ln := by omega
        have RY := HN.out.row HK6.out.1.1 (HNB.out _ _ HK6.out.1.1)
        have RR0 := HN.out.row HK6.out.1.2.2.1 (HNB.out _ _ HK6.out.1.2.2.1)
        have HRY := hide RY
        have HRR0 := hide RR0
        have HBB : Hid (∀ k, Bad k → w.heap.size ≤ k ∧ k < M) := fun k hk => HLT.out k (by rw [HBD.out] at hk; exact hk)
        have HYI : Hid (RcIn wr r (.slice bv r.ts.length dv) (.slice bu r.ds.length du)) := ⟨HN.out.rows HY6.out.rc.1 (fun a l c e _ hbad => by
          have h1 := (HY6.out.1.lt a.block (by rw [e]; rfl)).1
          have h2 := (HBB.out _ hbad).2
          omega), HN.out.rows HY6.out.rc.2 (fun a l c e _ hbad => by
          have h1 := (HY6.out.2.lt a.block (by rw [e]; rfl)).1
          have h2 := (HBB.out _ hbad).2
          omega)⟩
        have HRI : Hid (RcIn wr r (.slice e1 r.ts.length cap1) (.slice e2 r.ds.length cap2)) := ⟨HN.out.rows (HIN.out.below HK6.out.2).1 (fun a l c e hp hbad => by
          obtain ⟨a', cap', h1, h2⟩ := HIN.out.1
          obtain ⟨b, off, h3, h4, _⟩ := h2 hp
          rw [h1, h3] at e
          cases e
          have h5 := (HBB.out _ hbad).1
          have h6 : b < w.heap.size := h4
          have h7 : w.heap.size ≤ b := h5
          omega), HN.out.rows (HIN.out.below HK6.out.2).2 (fun a l c e hp hbad => by
          obtain ⟨a', cap', h1, h2⟩ := HIN.out.2
          obtain ⟨b, off, h3, h4, _⟩ := h2 hp
          rw [h1, h3] at e
          cases e
          have h5 := (HBB.out _ hbad).1
          have h6 : b < w.heap.size := h4
          have h7 : w.heap.size ≤ b := h5
          omega)⟩
        have hbl : Below w.heap.size w wr := ⟨HN.out.os.trans HK6.out.2.os, HN.out.tape.trans HK6.out.2.tape, HN.out.output.trans HK6.out.2.output, Nat.le_trans HK6.out.2.size HN.out.size, fun k hk => (HN.out.block k (Nat.lt_of_lt_of_le hk HK6.out.2.size) (fun hbad => by have := (HBB.out k hbad).1; omega)).trans (HK6.out.2.block k hk)⟩
        have HBL := hide hbl
        clear RY RR0 hbl
        go_wp2_with (first | (refine wpList_load_at rfl 28 (.tmp 7) rfl gy rfl (rcA r (.slice bv r.ts.length dv) (.slice bu r.ds.length du)) HRY.out _ Try.underlying28 rfl infoRc ?_) | (refine wpList_load_at rfl 28 (.tmp 1) rfl w.heap.size rfl (rcA r (.slice e1 r.ts.length cap1) (.slice e2 r.ds.length cap2)) HRR0.out _ Try.underlying28 rfl infoRc ?_))
        refine (same_at r r (.slice bv r.ts.length dv) (.slice bu r.ds.length du) (.slice e1 r.ts.length cap1) (.slice e2 r.ds.length cap2) wr true (hide ⟨fun _ => rfl, fun _ => rfl⟩) HFI.out HFI.out HYI.out HRI.out).mono ?_
        rintro e w9 ⟨rfl, hb9⟩
        have d9 := HBL.out.trans (hb9.mono HBL.out.size)
        clear hb9 HBL HRY HRR0 HYI HRI HN HW HX6 HY6 HK6 HO6
        go_wp2
        go_ret
        exact ⟨rfl, d9⟩

theorem walk (m : Rec × Value × Value) (w : World) (hf : m.1.fits) (hin : RcIn w m.1 m.2.1 m.2.2) :
    Calls Try.prog 3 #[.agg (rcA m.1 m.2.1 m.2.2)] w fun e w' => e = .returned (.bool true) ∧ Below w.heap.size w w' := by
  by_cases hr : m.1.right
  · exact yes m.1 m.2.1 m.2.2 w hr hf hin
  · exact no m.1 m.2.1 m.2.2 w hr hf hin
end Go.Proofs.Ytmapgfakfeddmab.recordKeeps

namespace Go.Proofs.Ytmapgfakfeddmab.recordKeeps
open Go.ChangeShapes Go.WideShapes Go.ChangeAt Go.RowKit
open Go.ChangeMaps (open_string shut_string)
set_option linter.unusedVariables false

theorem laidOut : laidOutB Try.prog = true := by kernel_rfl
theorem own : ownKnob Try.prog.godebug = none := by kernel_rfl

set_option maxRecDepth 100000 in
theorem lifted (os : Os) (started : os.Started) (H : Type) (enc : TypeId × Value → H) :
    ReturnsInHanded {} Try.checked os 3 .any (Rows.recordKeepsSpec.pre6 enc Try.prog Try.f3 Rows.recordKeepsRow.domain false) (Rows.recordKeepsSpec.post enc Try.prog Try.f3 false true false false) := by
  refine returnsInHanded_of_change_sized (C := Try.checked) own started (by kernel_rfl) Try.func3
    (ChangeSpec.witness6 (enc := enc) (C := Try.checked) false ⟨#[], #[.agg #[.int .i64 0, .int .u64 0, .int .i64 0, .int .u64 0, .int .i64 0, .int .i64 0, .int .i64 0, .string ByteArray.empty, .string ByteArray.empty, .int .u64 0, .int .i64 0, .int .u64 0, .slice none 0 0, .slice none 0 0]], []⟩ 8 (by kernel_rfl) (by kernel_rfl) (by kernel_rfl) (by kernel_rfl)) ?_
  intro W base args ds gs before hval0 hW hcnd hsz0 _
  have hval : ∀ (j : Nat) t v, Try.f3.params[j]? = some t → args[j]? = some v → Value.okWide Try.prog W .any base t v := hval0
  have hsz : (DataW.weightsEach Try.prog (Try.f3.params.toList ++ Rows.recordKeepsSpec.plain.varTypes Try.prog) (ds ++ gs)).all (· ≤ reachBytes) = true := hsz0
  have hW' := hW
  obtain ⟨p, q, hA0, hV, rfl, hfz, hnd⟩ := hW
  have hA : DataW.TrodAll enc Try.prog W 0 (fun _ => true) true Try.f3.params.toList args.toList ds p := hA0
  rw [Try.params3] at hA hval hsz
  obtain ⟨v0, vs0, d0, ds0, p0, q0, hargs, rfl, rfl, h0, r0⟩ := trodAll_cons hA
  obtain ⟨rfl, rfl, rfl⟩ := trodAll_nil r0
  obtain rfl : args = #[v0] := by cases args; simp_all
  obtain ⟨rfl, rfl⟩ := trodVars_none hV
  have k0 := h0
  have lt0 := trod_places h0
  obtain ⟨m0, rfl, w0a, w0b⟩ := op_record (hval 0 28 v0 rfl rfl) h0
  clear hA0 hval0 hsz0 hsz
  refine (walk m0 W w0a w0b).mono fun e W' ⟨he, bel⟩ => ?_
  subst he
  exact ⟨_, rfl, _, _, _, [], _, [], hW', trodAll_mk1 (shut_bool Try.underlying4 _), (trodAll_cons_mk (Below.trod laidOut (by kernel_rfl) (of_decide_eq_true (by kernel_rfl)) k0 bel lt0) trodAll_mk0), rfl, bel.frame _, fun h => by cases h⟩

theorem over : Rows.recordKeepsRow.holds Try.pinned (OpenSpec.ofChange Rows.recordKeepsSpec) :=
  OpenClaim.holds_of_wide 3 Try.f3 rfl rfl rfl rfl rfl rfl rfl ⟨rfl, rfl, rfl, rfl, rfl⟩ rfl rfl rfl rfl rfl (by kernel_rfl) Try.func3 (by kernel_rfl)
    (of_decide_eq_true (by kernel_rfl)) (by unfold Func.isWrapper; first | (rw [if_pos (by decide +kernel)]; kernel_rfl) | (rw [if_neg (by decide +kernel)]; exact ⟨rfl, rfl⟩))
    (fun os started H enc _ => lifted os started H enc)

/-- THE STATEMENT. -/
theorem proved : Rows.RecordKeepsSaid := over
end Go.Proofs.Ytmapgfakfeddmab.recordKeeps
namespace Go.Proofs.Ytmapgfakfeddmab
theorem recordKeeps_proved : Rows.RecordKeepsSaid := recordKeeps.proved
end Go.Proofs.Ytmapgfakfeddmab
