/-
  An older page is never written over a newer one. StoreRises returns true for every input, and its arguments read as before.
  Condition: none but those that the form of every such statement bears by itself (each string within the reach).
-/
import Derived.Test.YtihcdccmfhoenaaRows
import Derived.ProofKit
import Derived.OpenShut
import Derived.ShutString
import Derived.SizedLaws
import Derived.JoinedCond
import Derived.Test.YtihcdccmfhoenaaK02
import Derived.Test.YtihcdccmfhoenaaK01

/-
  The walk of StoreRises: it returns true, and turns nothing that was there.
-/
namespace Go.Proofs.Ytihcdccmfhoenaa.storeRises
open Go.RowKit
set_option linter.unusedVariables false

/-- The numbers that were read last. -/
def laA (la : Nat → Nat) : Array Value := #[.int .u64 (la 0 : Int), .int .u64 (la 1 : Int), .int .u64 (la 2 : Int), .int .u64 (la 3 : Int)]
theorem lt4 {i : Nat} (h : i < 4) : i = 0 ∨ i = 1 ∨ i = 2 ∨ i = 3 := by omega
theorem laA_at (la : Nat → Nat) (k : Nat) (h : k < 4) : (laA la)[k]? = some (.int .u64 (la k : Int)) := by
  rcases lt4 h with rfl | rfl | rfl | rfl <;> rfl
theorem laA_set (la : Nat → Nat) (k n : Nat) (h : k < 4) : (laA la).setIfInBounds k (.int .u64 (n : Int)) = laA (put1 la k n) := by
  rcases lt4 h with rfl | rfl | rfl | rfl <;> simp [laA, put1]
/-- What is kept. -/
structure R (w : World) (gs gl : Nat) (s : Sc) (old : Nat → Pg) (tr : Nat → Option (Pg × Bool)) (la : Nat → Nat) (x : World) : Prop where
  k : K10 w x gs s old tr
  n : s.n = 4
  r : RowAt x gl 51 (laA la)
  low : w.heap.size ≤ gl
  le : ∀ k, k < 4 → la k ≤ (old k).l
theorem R.later {w x y : World} {gs gl : Nat} {s : Sc} {old : Nat → Pg} {tr : Nat → Option (Pg × Bool)} {la : Nat → Nat} (h : R w gs gl s old tr la x) (hb : Below x.heap.size x y) : R w gs gl s old tr la y := ⟨h.k.later hb, h.n, h.r.later hb, h.low, h.le⟩
theorem R.set {w x : World} {gs gl : Nat} {s : Sc} {old : Nat → Pg} {tr : Nat → Option (Pg × Bool)} {la : Nat → Nat} (h : R w gs gl s old tr la x) (k : Nat) (hk : k < 4) : R w gs gl s old tr (put1 la k (old k).l) (x.setCell ⟨gl, k, none⟩ (.int .u64 ((old k).l : Int))) := by
  refine ⟨h.k.set h.r (by decide) (by decide) h.low k _, h.n, ?_, h.low, fun j hj => ?_⟩
  · rw [← laA_set la k _ hk]
    exact h.r.set k _
  · by_cases e : j = k
    · rw [e, put1_same]
      exact Nat.le_refl _
    · rw [put1_other _ _ _ _ e]
      exact h.le j hj
/-- The pages' numbers never fall. -/
theorem came_le {s : Sc} {old old' : Nat → Pg} {tr tr' : Nat → Option (Pg × Bool)} (h : s.ok old tr) (hc : Came old old' tr tr') (k : Nat) (hk : k < s.n) : (old k).l ≤ (old' k).l := by
  rcases hc k with ⟨h1, _⟩ | ⟨b, h1, _⟩
  · rw [h1]
    exact Nat.le_refl _
  · exact Nat.le_of_lt (h.tor k _ b hk h1).2.2.1
theorem wO_le {s : Sc} {old : Nat → Pg} {tr : Nat → Option (Pg × Bool)} (h : s.ok old tr) (node id : Int) (p : Pg) (mask : Int) (k : Nat) : (old k).l ≤ (wO s old node id p mask k).l := by
  unfold wO
  split
  · rename_i g
    have h2 := (h.write node id p mask g).2.2
    unfold wOld
    split
    · by_cases e : k = id.toNat
      · rw [e, put1_same]
        omega
      · rw [put1_other _ _ _ _ e]
        exact Nat.le_refl _
    · exact Nat.le_refl _
  · exact Nat.le_refl _

set_option maxRecDepth 4000 in
set_option maxHeartbeats 6400000 in
theorem walk (v : Value) (cs : List Oc) (w : World) (hr : RowsIn ocA Oc.zero 21 w v cs) (hml : cs.length ≤ maxLen) (hf : ∀ c ∈ cs, c.fits) (hcap : ∀ a len cap, v = .slice a len cap → len ≤ cap) :
    Calls Try.prog 6 #[v] w fun e w' => e = .returned (.bool true) ∧ Below w.heap.size w w' := by
  have hs : Scr10 w v cs := ⟨hr, hf, hcap⟩
  obtain ⟨a, cap, rfl, -⟩ := hr
  have hcap := hcap _ _ _ rfl
  have HS := hide hs
  clear hs hf
  obtain ⟨ln, hln⟩ : ∃ ln, ln = cs.length := ⟨_, rfl⟩
  rw [← hln] at HS hml hcap ⊢
  have HLN := hide hln
  have hml2 : ln ≤ 9223372036854775807 := by unfold maxLen at hml; omega
  clear hln hml
  go_enter Try.func6, Try.ntmps6
  go_wp2_with fail
  refine (awake10 _).mono ?_
  rintro e w1 ⟨rfl, hb1⟩
  by_cases hl : 200 < ln
  · have i0 : (200 : Int) < (ln : Int) := by omega
    go_wp2_with fail
    refine (awake10 _).mono ?_
    rintro e w2 ⟨rfl, hb2⟩
    have d2 := hb1.trans (hb2.mono hb1.size)
    clear hb1 hb2
    go_wp2
    go_ret
    exact ⟨rfl, d2⟩
  · have i0 : ¬ (200 : Int) < (ln : Int) := by omega
    have HB1 := hide hb1
    clear hb1
    go_wp2_with fail
    refine (knew10 4 w w1 HB1.out).mono ?_
    rintro e w2 ⟨gs, rfl, h2, hb2⟩
    have h2' : K10 w w2 gs (Sc.new 4) (fun _ => Pg.zero) (fun _ => none) := h2
    have HR0 := hide (show R w gs w2.heap.size (Sc.new 4) (fun _ => Pg.zero) (fun _ => none) (fun _ => 0) (w2.alloc (.cells (laA (fun _ => 0)) 51)) from ⟨h2'.alloc _, rfl, RowAt.new w2 _ _, h2'.bel.size, fun k _ => Nat.zero_le _⟩)
    clear h2 h2' hb2 HB1
    go_wp2_with fail
    obtain ⟨gl, hgl⟩ : ∃ gl, gl = w2.heap.size := ⟨_, rfl⟩
    rw [← hgl] at HR0 ⊢
    refine gen_wp (fun x => Hid (R w gs gl (Sc.new 4) (fun _ => Pg.zero) (fun _ => none) (fun _ => 0) x)) HR0 ?_
    clear HR0 hgl
    intro w3 HR0
    go_loopw [23] (fun i wr => ∃ j : Nat, j ≤ ln ∧ i = .int .i64 (j : Int) ∧ ∃ s old tr la, Hid (R w gs gl s old tr la wr)) (fun i _ => ln - (intOf i).toNat)
    case atStart => exact ⟨0, Nat.zero_le _, rfl, _, _, _, _, HR0⟩
    case round =>
      obtain ⟨j, hj, rfl, s, old, tr, la, HK⟩ := hrel
      clear HR0
      by_cases hlt : j < ln
      · have ij : (j : Int) < (ln : Int) := by omega
        obtain ⟨b, off, rfl, hld, hft⟩ := HS.out.at HK.out.k.bel (j := j) (by have := HLN.out; omega)
        obtain ⟨c, hc⟩ : ∃ c, c = cs.getD j Oc.zero := ⟨_, rfl⟩
        rw [← hc] at hld hft
        have HLD := hide hld
        clear hc hld
        have hb1 : Below wr.heap.size wr (wr.alloc (.cells ocZ 37)) := (Below.refl _ _).alloc (Nat.le_refl _) _
        have HZ := hide (And.intro (RowAt.new wr 37 ocZ) hb1)
        clear hb1
        go_wp2_with (first | (refine wpList_load_run rfl 37 _ rfl _ _ rfl HLD.out ?_) | (refine wpList_store_at rfl 37 _ _ rfl wr.heap.size ocZ (ocA c) rfl rfl HZ.out.1 infoOc rfl (ocA_all c) ?_; intro w3 hr3 hk3 hrow3; refine stop10 ?_))
        have hb3 := hk3 _ _ HZ.out.2 (Nat.le_refl _)
        have H3 := hide (And.intro (HK.out.later hb3) hr3)
        obtain ⟨go, hgo⟩ : ∃ go, go = wr.heap.size := ⟨_, rfl⟩
        rw [← hgo] at H3 ⊢
        clear hr3 hk3 hrow3 hb3 HZ HLD HK hgo hft
        have z0 := H3.out.2.cell 0 (.int .i64 c.k) rfl
        have z1 := H3.out.2.cell 1 (.int .i64 c.n) rfl
        have z2 := H3.out.2.cell 2 (.int .i64 c.i) rfl
        have z3 := H3.out.2.cell 3 (.int .i64 c.m) rfl
        refine unstop10 ?_
        by_cases k2 : c.k = 2
        · have b2 : (c.k == 2) = true := by simpa using k2
          clear k2
          go_wp2_with fail
          refine (H3.out.1.k.mend c.n c.m).mono ?_
          rintro e w4 ⟨rfl, ⟨old4, tr4, h4, hcm⟩, hsd⟩
          obtain ⟨s4, hs4⟩ : ∃ s4, s.mS c.n c.m = s4 := ⟨_, rfl⟩
          rw [hs4] at h4
          have H4 := hide (show R w gs gl s4 old4 tr4 la w4 from ⟨h4, by rw [← hs4, Sc.mS_n]; exact H3.out.1.n, hsd.row H3.out.1.r (by decide) (by decide), H3.out.1.low, fun k hk => Nat.le_trans (H3.out.1.le k hk) (came_le H3.out.1.k.ok hcm k (by rw [H3.out.1.n]; exact hk))⟩)
          clear h4 hcm hsd hs4 H3 z0 z1 z2 z3 b2
          go_wp2_with fail
          go_loopw [49] (fun i wr => ∃ k : Nat, k ≤ 4 ∧ i = .int .i64 (k : Int) ∧ ∃ la, Hid (R w gs gl s4 old4 tr4 la wr)) (fun i _ => 4 - (intOf i).toNat)
          case atStart => exact ⟨0, by omega, rfl, _, H4⟩
          case round =>
            obtain ⟨k, hk, rfl, la, HQ⟩ := hrel
            clear H4
            by_cases hk4 : k < 4
            · have ik : (k : Int) < 4 := by omega
              by_cases ht : tr4 k = none
              · have HRd := hide (HQ.out.k.read k (by rw [HQ.out.n]; exact hk4) ht)
                go_wp2_with fail
                refine HRd.out.mono ?_
                rintro e w5 ⟨rfl, hb5⟩
                have H5 := hide (HQ.out.later hb5)
                clear hb5 HRd HQ
                obtain ⟨q, hq⟩ : ∃ q, old4 k = q := ⟨_, rfl⟩
                rw [hq]
                have HQQ := hide hq
                clear hq
                go_wp2_with (refine wpList_store_page rfl _ _ rfl w5.heap.size Pg.zero q rfl rfl (heap_alloc_new w5 _) ?_; intro w6 hP6 hk6; refine stop10 ?_)
                have hb6 := hk6 _ _ ((Below.refl _ _).alloc (Nat.le_refl _) _) (Nat.le_refl _)
                have H6 := hide (And.intro (H5.out.later hb6) hP6)
                obtain ⟨g6, hg6⟩ : ∃ g6, g6 = w5.heap.size := ⟨_, rfl⟩
                rw [← hg6] at H6 ⊢
                have hle := H6.out.1.le k hk4
                rw [HQQ.out] at hle
                have i9 : ¬ (q.l : Int) < (la k : Int) := by omega
                have HC6 := hide (show R w gs gl s4 old4 tr4 la w6.drew ∧ PgAt w6.drew g6 q from ⟨H6.out.1.later dq, H6.out.2⟩)
                clear hP6 hk6 hb6 H5 hg6 hle H6
                refine unstop10 ?_
                go_wp2_with fail
                refine wp_region_in (fun x => R w gs gl s4 old4 tr4 la x ∧ PgAt x g6 q) (by kernel_rfl) (by kernel_rfl) HC6.out ?_
                repeat (first
                  | go_big_quiet_skip
                  | (refine wpQuiet_load rfl 30 _ rfl (.pointer (some ⟨g6, 0, none⟩)) (.int .u64 (q.l : Int)) rfl (fun y hy => load10_u y _ hy.2.lsn) ?_; simp only [Act.put, Array.setIfInBounds, List.size_toArray, List.length_cons, List.length_nil, Nat.reduceAdd, Nat.reduceLT, ↓reduceDIte, List.set_toArray, List.set_cons_succ, List.set_cons_zero])
                  | (refine wpQuiet_load rfl 30 _ rfl (.pointer (some ⟨gl, k, none⟩)) (.int .u64 (la k : Int)) rfl (fun y hy => load10_u y _ (hy.1.r.cell k _ (laA_at la k hk4))) ?_; simp only [Act.put, Array.setIfInBounds, List.size_toArray, List.length_cons, List.length_nil, Nat.reduceAdd, Nat.reduceLT, ↓reduceDIte, List.set_toArray, List.set_cons_succ, List.set_cons_zero])
                  | (refine wpQuiet_plain rfl (fun K hK => ?_); go_simp; refine hK _ ?_; clear hK K))
                refine wpQuiet_nil ?_
                intro x hx
                have cl := hx.2.lsn
                have cg := hx.1.r.cell k _ (laA_at la k hk4)
                have fg := hx.1.r.free k
                have hn := hx.1.set k hk4
                rw [HQQ.out] at hn
                have HN := hide hn
                clear hx hn HC6
                go_wp2
                go_roundw
                case rel => exact ⟨k + 1, by omega, by go_num, _, HN⟩
                case measure => simp [intOf]; omega
              · have HRd := hide (HQ.out.k.torn k (by rw [HQ.out.n]; exact hk4) ht)
                go_wp2_with fail
                refine HRd.out.mono ?_
                rintro e w5 ⟨rfl, hb5⟩
                have H5 := hide (HQ.out.later hb5)
                clear hb5 HRd HQ ht
                go_wp2_with (refine wpList_store_page rfl _ _ rfl w5.heap.size Pg.zero Pg.zero rfl rfl (heap_alloc_new w5 _) ?_; intro w6 hP6 hk6; refine stop10 ?_)
                have hb6 := hk6 _ _ ((Below.refl _ _).alloc (Nat.le_refl _) _) (Nat.le_refl _)
                have H6 := hide (H5.out.later hb6)
                clear hP6 hk6 hb6 H5
                refine unstop10 ?_
                go_wp2
                go_roundw
                case rel => exact ⟨k + 1, by omega, by go_num, _, H6⟩
                case measure => simp [intOf]; omega
            · obtain rfl : k = 4 := by omega
              go_wp2
              go_roundw
              case rel => exact ⟨j + 1, by omega, by go_num, _, _, _, _, HQ⟩
              case measure => simp [intOf]; omega
        · have b2 : (c.k == 2) = false := by simpa using k2
          clear k2
          go_wp2_with (refine wpList_load_part rfl 35 _ rfl go 4 17 rfl 37 (ocA c) H3.out.2 _ Try.underlying35 rfl infoPg10 (by show 4 + 17 ≤ 21; omega) _ (ocA_page c) ?_)
          refine (H3.out.1.k.write c.n c.i c.p c.m).mono ?_
          rintro e w4 ⟨rfl, h4, hsd⟩
          have hwl := fun k => wO_le H3.out.1.k.ok c.n c.i c.p c.m k
          have hsn := Sc.wS_n s c.n c.i c.p c.m
          generalize s.wS c.n c.i c.p c.m = s4 at *
          generalize wO s old c.n c.i c.p c.m = old4 at *
          generalize wT s tr c.n c.i c.p c.m = tr4 at *
          generalize s.wE c.n c.i c.p c.m = er at *
          have H4 := hide (show R w gs gl s4 old4 tr4 la w4 from ⟨h4, hsn.trans H3.out.1.n, hsd.row H3.out.1.r (by decide) (by decide), H3.out.1.low, fun k hk => Nat.le_trans (H3.out.1.le k hk) (hwl k)⟩)
          clear h4 hsd hwl hsn H3 z0 z1 z2 z3 b2
          go_wp2_with fail
          go_loopw [49] (fun i wr => ∃ k : Nat, k ≤ 4 ∧ i = .int .i64 (k : Int) ∧ ∃ la, Hid (R w gs gl s4 old4 tr4 la wr)) (fun i _ => 4 - (intOf i).toNat)
          case atStart => exact ⟨0, by omega, rfl, _, H4⟩
          case round =>
            obtain ⟨k, hk, rfl, la, HQ⟩ := hrel
            clear H4
            by_cases hk4 : k < 4
            · have ik : (k : Int) < 4 := by omega
              by_cases ht : tr4 k = none
              · have HRd := hide (HQ.out.k.read k (by rw [HQ.out.n]; exact hk4) ht)
                go_wp2_with fail
                refine HRd.out.mono ?_
                rintro e w5 ⟨rfl, hb5⟩
                have H5 := hide (HQ.out.later hb5)
                clear hb5 HRd HQ
                obtain ⟨q, hq⟩ : ∃ q, old4 k = q := ⟨_, rfl⟩
                rw [hq]
                have HQQ := hide hq
                clear hq
                go_wp2_with (refine wpList_store_page rfl _ _ rfl w5.heap.size Pg.zero q rfl rfl (heap_alloc_new w5 _) ?_; intro w6 hP6 hk6; refine stop10 ?_)
                have hb6 := hk6 _ _ ((Below.refl _ _).alloc (Nat.le_refl _) _) (Nat.le_refl _)
                have H6 := hide (And.intro (H5.out.later hb6) hP6)
                obtain ⟨g6, hg6⟩ : ∃ g6, g6 = w5.heap.size := ⟨_, rfl⟩
                rw [← hg6] at H6 ⊢
                have hle := H6.out.1.le k hk4
                rw [HQQ.out] at hle
                have i9 : ¬ (q.l : Int) < (la k : Int) := by omega
                have HC6 := hide (show R w gs gl s4 old4 tr4 la w6.drew ∧ PgAt w6.drew g6 q from ⟨H6.out.1.later dq, H6.out.2⟩)
                clear hP6 hk6 hb6 H5 hg6 hle H6
                refine unstop10 ?_
                go_wp2_with fail
                refine wp_region_in (fun x => R w gs gl s4 old4 tr4 la x ∧ PgAt x g6 q) (by kernel_rfl) (by kernel_rfl) HC6.out ?_
                repeat (first
                  | go_big_quiet_skip
                  | (refine wpQuiet_load rfl 30 _ rfl (.pointer (some ⟨g6, 0, none⟩)) (.int .u64 (q.l : Int)) rfl (fun y hy => load10_u y _ hy.2.lsn) ?_; simp only [Act.put, Array.setIfInBounds, List.size_toArray, List.length_cons, List.length_nil, Nat.reduceAdd, Nat.reduceLT, ↓reduceDIte, List.set_toArray, List.set_cons_succ, List.set_cons_zero])
                  | (refine wpQuiet_load rfl 30 _ rfl (.pointer (some ⟨gl, k, none⟩)) (.int .u64 (la k : Int)) rfl (fun y hy => load10_u y _ (hy.1.r.cell k _ (laA_at la k hk4))) ?_; simp only [Act.put, Array.setIfInBounds, List.size_toArray, List.length_cons, List.length_nil, Nat.reduceAdd, Nat.reduceLT, ↓reduceDIte, List.set_toArray, List.set_cons_succ, List.set_cons_zero])
                  | (refine wpQuiet_plain rfl (fun K hK => ?_); go_simp; refine hK _ ?_; clear hK K))
                refine wpQuiet_nil ?_
                intro x hx
                have cl := hx.2.lsn
                have cg := hx.1.r.cell k _ (laA_at la k hk4)
                have fg := hx.1.r.free k
                have hn := hx.1.set k hk4
                rw [HQQ.out] at hn
                have HN := hide hn
                clear hx hn HC6
                go_wp2
                go_roundw
                case rel => exact ⟨k + 1, by omega, by go_num, _, HN⟩
                case measure => simp [intOf]; omega
              · have HRd := hide (HQ.out.k.torn k (by rw [HQ.out.n]; exact hk4) ht)
                go_wp2_with fail
                refine HRd.out.mono ?_
                rintro e w5 ⟨rfl, hb5⟩
                have H5 := hide (HQ.out.later hb5)
                clear hb5 HRd HQ ht
                go_wp2_with (refine wpList_store_page rfl _ _ rfl w5.heap.size Pg.zero Pg.zero rfl rfl (heap_alloc_new w5 _) ?_; intro w6 hP6 hk6; refine stop10 ?_)
                have hb6 := hk6 _ _ ((Below.refl _ _).alloc (Nat.le_refl _) _) (Nat.le_refl _)
                have H6 := hide (H5.out.later hb6)
                clear hP6 hk6 hb6 H5
                refine unstop10 ?_
                go_wp2
                go_roundw
                case rel => exact ⟨k + 1, by omega, by go_num, _, H6⟩
                case measure => simp [intOf]; omega
            · obtain rfl : k = 4 := by omega
              go_wp2
              go_roundw
              case rel => exact ⟨j + 1, by omega, by go_num, _, _, _, _, HQ⟩
              case measure => simp [intOf]; omega
      · obtain rfl : j = ln := by omega
        have hb := HK.out.k.bel
        clear HK
        go_wp2
        go_ret
        exact ⟨rfl, hb⟩
end Go.Proofs.Ytihcdccmfhoenaa.storeRises

namespace Go.Proofs.Ytihcdccmfhoenaa.storeRises
open Go.ChangeShapes Go.WideShapes Go.ChangeAt Go.RowKit
open Go.ChangeMaps (open_string shut_string)
set_option linter.unusedVariables false

theorem laidOut : laidOutB Try.prog = true := by kernel_rfl
theorem own : ownKnob Try.prog.godebug = none := by kernel_rfl

set_option maxRecDepth 100000 in
theorem lifted (os : Os) (started : os.Started) (H : Type) (enc : TypeId × Value → H) :
    ReturnsInHanded {} Try.checked os 6 .any (Rows.storeRisesSpec.pre6 enc Try.prog Try.f6 Rows.storeRisesRow.domain false) (Rows.storeRisesSpec.post enc Try.prog Try.f6 false true false false) := by
  refine returnsInHanded_of_change_sized (C := Try.checked) own started (by kernel_rfl) Try.func6
    (ChangeSpec.witness6 (enc := enc) (C := Try.checked) false ⟨#[], #[.slice none 0 0], []⟩ 8 (by kernel_rfl) (by kernel_rfl) (by kernel_rfl) (by kernel_rfl)) ?_
  intro W base args ds gs before hval0 hW hcnd hsz0 _
  have hval : ∀ (j : Nat) t v, Try.f6.params[j]? = some t → args[j]? = some v → Value.okWide Try.prog W .any base t v := hval0
  have hsz : (DataW.weightsEach Try.prog (Try.f6.params.toList ++ Rows.storeRisesSpec.plain.varTypes Try.prog) (ds ++ gs)).all (· ≤ reachBytes) = true := hsz0
  have hW' := hW
  obtain ⟨p, q, hA0, hV, rfl, hfz, hnd⟩ := hW
  have hA : DataW.TrodAll enc Try.prog W 0 (fun _ => true) true Try.f6.params.toList args.toList ds p := hA0
  rw [Try.params6] at hA hval hsz
  obtain ⟨v0, vs0, d0, ds0, p0, q0, hargs, rfl, rfl, h0, r0⟩ := trodAll_cons hA
  obtain ⟨rfl, rfl, rfl⟩ := trodAll_nil r0
  obtain rfl : args = #[v0] := by cases args; simp_all
  obtain ⟨rfl, rfl⟩ := trodVars_none hV
  have k0 := h0
  have lt0 := trod_places h0
  obtain ⟨m0, w0a, w0b, w0c, w0d⟩ := op_ocs (hval 0 22 v0 rfl rfl) h0
  clear hA0 hval0 hsz0 hsz
  refine (walk v0 m0 W w0a w0b w0c w0d).mono fun e W' ⟨he, bel⟩ => ?_
  subst he
  exact ⟨_, rfl, _, _, _, [], _, [], hW', trodAll_mk1 (shut_bool Try.underlying4 _), (trodAll_cons_mk (Below.trod laidOut (by kernel_rfl) (of_decide_eq_true (by kernel_rfl)) k0 bel lt0) trodAll_mk0), rfl, bel.frame _, fun h => by cases h⟩

theorem over : Rows.storeRisesRow.holds Try.pinned (OpenSpec.ofChange Rows.storeRisesSpec) :=
  OpenClaim.holds_of_wide 6 Try.f6 rfl rfl rfl rfl rfl rfl rfl ⟨rfl, rfl, rfl, rfl, rfl⟩ rfl rfl rfl rfl rfl (by kernel_rfl) Try.func6 (by kernel_rfl)
    (of_decide_eq_true (by kernel_rfl)) (by unfold Func.isWrapper; first | (rw [if_pos (by decide +kernel)]; kernel_rfl) | (rw [if_neg (by decide +kernel)]; exact ⟨rfl, rfl⟩))
    (fun os started H enc _ => lifted os started H enc)

/-- THE STATEMENT. -/
theorem proved : Rows.StoreRisesSaid := over
end Go.Proofs.Ytihcdccmfhoenaa.storeRises
namespace Go.Proofs.Ytihcdccmfhoenaa
theorem storeRises_proved : Rows.StoreRisesSaid := storeRises.proved
end Go.Proofs.Ytihcdccmfhoenaa
