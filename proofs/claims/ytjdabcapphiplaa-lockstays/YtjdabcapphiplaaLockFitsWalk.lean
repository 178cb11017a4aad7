/-
  The walk of LockFits: it returns true, and turns nothing that was there.
-/
import Derived.Test.YtjdabcapphiplaaLkPlayed
namespace Go.Proofs.Ytjdabcapphiplaa.lockFits
open Go.RowKit
set_option linter.unusedVariables false

/-- The table and a list of its locks. -/
def CF (w : World) (g : Nat) (t : Tb) (F : Nat → Prop) (B : Nat) (v : Value) (l : List Hd) (y : World) : Prop := K13 w y g t 100 F ∧ OwnH B y v l
theorem CF.later {w : World} {g : Nat} {t : Tb} {F : Nat → Prop} {B : Nat} {v : Value} {l : List Hd} {y z : World} (h : CF w g t F B v l y) (q : Below y.heap.size y z) : CF w g t F B v l z := ⟨h.1.later q, h.2.later q⟩
theorem CF.drew {w : World} {g : Nat} {t : Tb} {F : Nat → Prop} {B : Nat} {v : Value} {l : List Hd} {y : World} (h : CF w g t F B v l y) : CF w g t F B v l y.drew := h.later ((Below.refl y.heap.size y).drew)
theorem load_mode {y : World} {b o : Nat} {m : Int} (h : y.cell? ⟨b, o, none⟩ = some (.int .i64 m)) : (Instr.loadAt 44 (.pointer (some ⟨b, o, none⟩))).run Try.prog y = .ok (.int .i64 m) y := by go_simp
theorem load_num {y : World} {b o : Nat} {m : Int} (h : y.cell? ⟨b, o, none⟩ = some (.int .i64 m)) : (Instr.loadAt 3 (.pointer (some ⟨b, o, none⟩))).run Try.prog y = .ok (.int .i64 m) y := by go_simp
theorem CF.at {w : World} {g : Nat} {t : Tb} {F : Nat → Prop} {B : Nat} {b n c : Nat} {l : List Hd} {y : World} (h : CF w g t F B (.slice (some ⟨b, 0, none⟩) n c) l y) {j : Nat} {k : Hd} (hj : l[j]? = some k) : y.cell? ⟨b, j * 3, none⟩ = some (.int .i64 k.w) ∧ y.cell? ⟨b, j * 3 + 1, none⟩ = some (.int .i64 k.x) ∧ y.cell? ⟨b, j * 3 + 2, none⟩ = some (.int .i64 k.m) := by
  obtain ⟨b', e, h1⟩ := h.2.at hj
  injection e with e
  injection e with e
  subst e
  exact h1
theorem bound_held {w : World} {g : Nat} {t : Tb} {N : Nat} {F : Nat → Prop} (h : Kt w g t N F) (hN : N ≤ 3000) : t.held.length ≤ 1000000 := by
  obtain ⟨p, S, h1, h2, h3, h4⟩ := h
  rw [← heldP_eq h2]
  have := held_len h2.ok 288 (Nat.le_refl _)
  have h5 : 288 * N ≤ 288 * 3000 := Nat.mul_le_mul (Nat.le_refl _) hN
  omega

set_option maxRecDepth 8000 in
set_option maxHeartbeats 6400000 in
theorem walk (v : Value) (cs : List Lc) (w : World) (h1 : RowsIn lcA Lc.zero 4 w v cs) (h2 : cs.length ≤ maxLen) (h3 : ∀ c ∈ cs, c.fits) (h4 : ∀ a len cap, v = .slice a len cap → len ≤ cap) :
    Calls Try.prog 4 #[v] w fun e w' => e = .returned (.bool true) ∧ Below w.heap.size w w' := by
  have h' := h1
  obtain ⟨a, cap, rfl, -⟩ := h'
  have hs : Scr13 w (.slice a cs.length cap) cs := ⟨h1, h3, h4⟩
  obtain ⟨ln, hln⟩ : ∃ ln, cs.length = ln := ⟨_, rfl⟩
  rw [hln] at hs h2 ⊢
  have HS := hide hs
  clear h1 h3 h4 hs hln
  go_enter Try.func4, Try.ntmps4
  go_wp2_with fail
  refine (awake13 _).mono ?_
  rintro e w1 ⟨rfl, hb1⟩
  by_cases hl : 100 < ln
  · have hl2 : (100 : Int) < (ln : Int) := by omega
    go_wp2_with fail
    refine (awake13 _).mono ?_
    rintro e w2 ⟨rfl, hb2⟩
    go_wp2
    go_ret
    exact ⟨rfl, hb1.trans (hb2.mono hb1.size)⟩
  have hl2 : ¬ (100 : Int) < (ln : Int) := by omega
  have HB1 := hide hb1
  clear hb1
  go_wp2_with fail
  refine (played13 (w0 := w) HS.out (by omega) HB1.out).mono ?_
  rintro e w2 ⟨g, F, rfl, hK⟩
  obtain ⟨t, ht⟩ : ∃ t, t = playT cs := ⟨_, rfl⟩
  rw [← ht] at hK
  have HK := hide hK
  clear hK HB1 HS ht
  go_wp2_with fail
  refine (kheld HK.out.tab (by omega)).mono ?_
  rintro e w3 ⟨vl, rfl, hO, hb3⟩
  obtain ⟨l, hlq⟩ : ∃ l, l = t.held := ⟨_, rfl⟩
  have HG := hide HK.out.tab.good
  have hll := bound_held HK.out.tab (by omega)
  rw [← hlq] at hO hll
  have HLH := hide hlq
  obtain ⟨ad, c, rfl, hc1, hc2⟩ := hO.shape
  have H0 := hide (show CF w g t F w2.heap.size (.slice ad l.length c) l w3 from ⟨HK.out.later hb3, hO⟩)
  clear hO hb3 hlq HK hl2 hl
  go_wp2
  go_loopw [23] (fun q wr => ∃ i : Nat, i ≤ l.length ∧ q = .int .i64 i ∧ Hid (CF w g t F w2.heap.size (.slice ad l.length c) l wr)) (fun q _ => l.length - (intOf q).toNat)
  case atStart => exact ⟨0, Nat.zero_le _, rfl, H0⟩
  case round =>
    obtain ⟨i, hi, rfl, HR⟩ := hrel
    by_cases hlt : i < l.length
    · have i1 : (i : Int) < (l.length : Int) := by omega
      obtain ⟨k, hk⟩ : ∃ k, l[i]? = some k := ⟨_, List.getElem?_eq_getElem hlt⟩
      obtain ⟨b, hbe, -⟩ := HR.out.2.at hk
      subst hbe
      have HC := hide (fun y (hy : CF w g t F w2.heap.size (.slice (some ⟨b, 0, none⟩) l.length c) l y) => hy.at hk)
      have hkm : k ∈ t.held := by rw [← HLH.out]; exact List.mem_of_getElem? hk
      have hka := HG.out.ok.held_at hkm
      have HRG := hide (fun y => right12 k.m y)
      rw [hka.2] at HRG
      have HHO := hide (fun y (hy : CF w g t F w2.heap.size (.slice (some ⟨b, 0, none⟩) l.length c) l y) => kholds hy.1.tab (by omega) k.w k.x)
      rw [hka.1] at HHO
      have HKI := hide hk
      clear hk hkm hka
      go_wp2_with fail
      refine wp_region_in (CF w g t F w2.heap.size (.slice (some ⟨b, 0, none⟩) l.length c) l) (by kernel_rfl) (by kernel_rfl) (HR.out.drew) ?_
      refine wpQuiet_plain rfl (fun K hK => ?_); go_simp; refine hK _ ?_; clear hK K
      refine wpQuiet_plain rfl (fun K hK => ?_); go_simp; refine hK _ ?_; clear hK K
      refine wpQuiet_plain rfl (fun K hK => ?_); go_simp; refine hK _ ?_; clear hK K
      refine wpQuiet_plain rfl (fun K hK => ?_); go_simp; refine hK _ ?_; clear hK K
      refine wpQuiet_load rfl 44 (.tmp 29) rfl _ (.int .i64 k.m) rfl (fun y hy => load_mode (HC.out y hy).2.2) ?_; simp only [Act.put, Array.setIfInBounds, List.size_toArray, List.length_cons, List.length_nil, Nat.reduceAdd, Nat.reduceLT, ↓reduceDIte, List.set_toArray, List.set_cons_succ, List.set_cons_zero]
      refine wpQuiet_call rfl 16 #[.int .i64 k.m] (.bool true) ?_ (fun y hC => (HRG.out y).mono fun e x' h => ⟨h.1, by rw [← h.2]; exact hC⟩) ?_; (intro x; go_simp); simp only [Act.put, Array.setIfInBounds, List.size_toArray, List.length_cons, List.length_nil, Nat.reduceAdd, Nat.reduceLT, ↓reduceDIte, List.set_toArray, List.set_cons_succ, List.set_cons_zero]
      refine wpQuiet_plain rfl (fun K hK => ?_); go_simp; refine hK _ ?_; clear hK K
      refine wpQuiet_plain rfl (fun K hK => ?_); go_simp; refine hK _ ?_; clear hK K
      refine wpQuiet_plain rfl (fun K hK => ?_); go_simp; refine hK _ ?_; clear hK K
      refine wpQuiet_plain rfl (fun K hK => ?_); go_simp; refine hK _ ?_; clear hK K
      refine wpQuiet_plain rfl (fun K hK => ?_); go_simp; refine hK _ ?_; clear hK K
      refine wpQuiet_plain rfl (fun K hK => ?_); go_simp; refine hK _ ?_; clear hK K
      refine wpQuiet_plain rfl (fun K hK => ?_); go_simp; refine hK _ ?_; clear hK K
      refine wpQuiet_load rfl 3 (.tmp 38) rfl _ (.int .i64 k.w) rfl (fun y hy => load_num (HC.out y hy).1) ?_; simp only [Act.put, Array.setIfInBounds, List.size_toArray, List.length_cons, List.length_nil, Nat.reduceAdd, Nat.reduceLT, ↓reduceDIte, List.set_toArray, List.set_cons_succ, List.set_cons_zero]
      refine wpQuiet_plain rfl (fun K hK => ?_); go_simp; refine hK _ ?_; clear hK K
      refine wpQuiet_plain rfl (fun K hK => ?_); go_simp; refine hK _ ?_; clear hK K
      refine wpQuiet_plain rfl (fun K hK => ?_); go_simp; refine hK _ ?_; clear hK K
      refine wpQuiet_plain rfl (fun K hK => ?_); go_simp; refine hK _ ?_; clear hK K
      refine wpQuiet_load rfl 3 (.tmp 43) rfl _ (.int .i64 k.x) rfl (fun y hy => load_num (HC.out y hy).2.1) ?_; simp only [Act.put, Array.setIfInBounds, List.size_toArray, List.length_cons, List.length_nil, Nat.reduceAdd, Nat.reduceLT, ↓reduceDIte, List.set_toArray, List.set_cons_succ, List.set_cons_zero]
      refine wpQuiet_call rfl 17 #[.pointer (some ⟨g, 0, none⟩), .int .i64 k.w, .int .i64 k.x] (.int .i64 k.m) ?_ (fun y hC => (HHO.out y hC).mono fun e x' h => ⟨h.1, hC.later h.2⟩) ?_; (intro x; go_simp); simp only [Act.put, Array.setIfInBounds, List.size_toArray, List.length_cons, List.length_nil, Nat.reduceAdd, Nat.reduceLT, ↓reduceDIte, List.set_toArray, List.set_cons_succ, List.set_cons_zero]
      refine wpQuiet_plain rfl (fun K hK => ?_); go_simp; refine hK _ ?_; clear hK K
      refine wpQuiet_plain rfl (fun K hK => ?_); go_simp; refine hK _ ?_; clear hK K
      refine wpQuiet_plain rfl (fun K hK => ?_); go_simp; refine hK _ ?_; clear hK K
      refine wpQuiet_plain rfl (fun K hK => ?_); go_simp; refine hK _ ?_; clear hK K
      refine wpQuiet_load rfl 44 (.tmp 49) rfl _ (.int .i64 k.m) rfl (fun y hy => load_mode (HC.out y hy).2.2) ?_; simp only [Act.put, Array.setIfInBounds, List.size_toArray, List.length_cons, List.length_nil, Nat.reduceAdd, Nat.reduceLT, ↓reduceDIte, List.set_toArray, List.set_cons_succ, List.set_cons_zero]
      refine wpQuiet_plain rfl (fun K hK => ?_); go_simp; refine hK _ ?_; clear hK K
      refine wpQuiet_plain rfl (fun K hK => ?_); go_simp; refine hK _ ?_; clear hK K
      refine wpQuiet_nil ?_
      intro y hy
      have HY := hide hy
      clear hy HC HRG HHO HR
      go_wp2
      go_loopw [54] (fun q wr => ∃ j : Nat, j ≤ i ∧ q = .int .i64 j ∧ Hid (CF w g t F w2.heap.size (.slice (some ⟨b, 0, none⟩) l.length c) l wr)) (fun q _ => i - (intOf q).toNat)
      case atStart => exact ⟨0, Nat.zero_le _, rfl, HY⟩
      case round =>
        obtain ⟨j, hj, rfl, HI⟩ := hrel
        by_cases hji : j < i
        · have i2 : (j : Int) < (i : Int) := by omega
          have i3 : (j : Int) < (l.length : Int) := by omega
          obtain ⟨q, hq⟩ : ∃ q, l[j]? = some q := ⟨_, List.getElem?_eq_getElem (by omega)⟩
          have HCQ := hide (fun y (hy : CF w g t F w2.heap.size (.slice (some ⟨b, 0, none⟩) l.length c) l y) => hy.at hq)
          have HCK := hide (fun y (hy : CF w g t F w2.heap.size (.slice (some ⟨b, 0, none⟩) l.length c) l y) => hy.at HKI.out)
          have hord : hdLt q k := by
            obtain ⟨a1, e1⟩ := List.getElem?_eq_some_iff.1 hq
            obtain ⟨a2, e2⟩ := List.getElem?_eq_some_iff.1 HKI.out
            have h := ord_held t
            rw [← HLH.out] at h
            have := List.pairwise_iff_getElem.1 h j i a1 a2 hji
            rw [e1, e2] at this
            exact this
          have hqm : q ∈ t.held := by rw [← HLH.out]; exact List.mem_of_getElem? hq
          have hkm : k ∈ t.held := by rw [← HLH.out]; exact List.mem_of_getElem? HKI.out
          have HFT := hide (fun y => fits12 q.m k.m y)
          by_cases hxx : q.x = k.x
          · have hww : ¬ k.w ≤ q.w := by rcases hord with h | h <;> omega
            have hww2 : q.w < k.w := by omega
            have hww3 : (decide (k.w ≤ q.w)) = false := by simp; omega
            have hfit := HG.out.ok.held_fits hqm hkm hxx (by omega)
            rw [hfit] at HFT
            have e1 : (q.x == k.x) = true := by simp [hxx]
            clear hfit hq hqm hkm hord hxx
            go_wp2_with fail
            refine wp_region_in (CF w g t F w2.heap.size (.slice (some ⟨b, 0, none⟩) l.length c) l) (by kernel_rfl) (by kernel_rfl) (HI.out.drew) ?_
            refine wpQuiet_plain rfl (fun K hK => ?_); go_simp; refine hK _ ?_; clear hK K
            refine wpQuiet_plain rfl (fun K hK => ?_); go_simp; refine hK _ ?_; clear hK K
            refine wpQuiet_plain rfl (fun K hK => ?_); go_simp; refine hK _ ?_; clear hK K
            refine wpQuiet_plain rfl (fun K hK => ?_); go_simp; refine hK _ ?_; clear hK K
            refine wpQuiet_load rfl 3 (.tmp 60) rfl _ (.int .i64 q.x) rfl (fun y hy => load_num (HCQ.out y hy).2.1) ?_; simp only [Act.put, Array.setIfInBounds, List.size_toArray, List.length_cons, List.length_nil, Nat.reduceAdd, Nat.reduceLT, ↓reduceDIte, List.set_toArray, List.set_cons_succ, List.set_cons_zero]
            refine wpQuiet_plain rfl (fun K hK => ?_); go_simp; refine hK _ ?_; clear hK K
            refine wpQuiet_plain rfl (fun K hK => ?_); go_simp; refine hK _ ?_; clear hK K
            refine wpQuiet_plain rfl (fun K hK => ?_); go_simp; refine hK _ ?_; clear hK K
            refine wpQuiet_plain rfl (fun K hK => ?_); go_simp; refine hK _ ?_; clear hK K
            refine wpQuiet_load rfl 3 (.tmp 65) rfl _ (.int .i64 k.x) rfl (fun y hy => load_num (HCK.out y hy).2.1) ?_; simp only [Act.put, Array.setIfInBounds, List.size_toArray, List.length_cons, List.length_nil, Nat.reduceAdd, Nat.reduceLT, ↓reduceDIte, List.set_toArray, List.set_cons_succ, List.set_cons_zero]
            refine wpQuiet_plain rfl (fun K hK => ?_); go_simp; refine hK _ ?_; clear hK K
            refine wpQuiet_plain rfl (fun K hK => ?_); go_simp; refine hK _ ?_; clear hK K
            refine wpQuiet_plain rfl (fun K hK => ?_); go_simp; refine hK _ ?_; clear hK K
            refine wpQuiet_plain rfl (fun K hK => ?_); go_simp; refine hK _ ?_; clear hK K
            refine wpQuiet_plain rfl (fun K hK => ?_); go_simp; refine hK _ ?_; clear hK K
            refine wpQuiet_plain rfl (fun K hK => ?_); go_simp; refine hK _ ?_; clear hK K
            refine wpQuiet_load rfl 3 (.tmp 72) rfl _ (.int .i64 q.w) rfl (fun y hy => load_num (HCQ.out y hy).1) ?_; simp only [Act.put, Array.setIfInBounds, List.size_toArray, List.length_cons, List.length_nil, Nat.reduceAdd, Nat.reduceLT, ↓reduceDIte, List.set_toArray, List.set_cons_succ, List.set_cons_zero]
            refine wpQuiet_plain rfl (fun K hK => ?_); go_simp; refine hK _ ?_; clear hK K
            refine wpQuiet_plain rfl (fun K hK => ?_); go_simp; refine hK _ ?_; clear hK K
            refine wpQuiet_plain rfl (fun K hK => ?_); go_simp; refine hK _ ?_; clear hK K
            refine wpQuiet_plain rfl (fun K hK => ?_); go_simp; refine hK _ ?_; clear hK K
            refine wpQuiet_load rfl 3 (.tmp 77) rfl _ (.int .i64 k.w) rfl (fun y hy => load_num (HCK.out y hy).1) ?_; simp only [Act.put, Array.setIfInBounds, List.size_toArray, List.length_cons, List.length_nil, Nat.reduceAdd, Nat.reduceLT, ↓reduceDIte, List.set_toArray, List.set_cons_succ, List.set_cons_zero]
            refine wpQuiet_plain rfl (fun K hK => ?_); go_simp; refine hK _ ?_; clear hK K
            refine wpQuiet_plain rfl (fun K hK => ?_); go_simp; refine hK _ ?_; clear hK K
            refine wpQuiet_plain rfl (fun K hK => ?_); go_simp; refine hK _ ?_; clear hK K
            refine wpQuiet_plain rfl (fun K hK => ?_); go_simp; refine hK _ ?_; clear hK K
            refine wpQuiet_plain rfl (fun K hK => ?_); go_simp; refine hK _ ?_; clear hK K
            refine wpQuiet_plain rfl (fun K hK => ?_); go_simp; refine hK _ ?_; clear hK K
            refine wpQuiet_load rfl 44 (.tmp 84) rfl _ (.int .i64 q.m) rfl (fun y hy => load_mode (HCQ.out y hy).2.2) ?_; simp only [Act.put, Array.setIfInBounds, List.size_toArray, List.length_cons, List.length_nil, Nat.reduceAdd, Nat.reduceLT, ↓reduceDIte, List.set_toArray, List.set_cons_succ, List.set_cons_zero]
            refine wpQuiet_plain rfl (fun K hK => ?_); go_simp; refine hK _ ?_; clear hK K
            refine wpQuiet_plain rfl (fun K hK => ?_); go_simp; refine hK _ ?_; clear hK K
            refine wpQuiet_plain rfl (fun K hK => ?_); go_simp; refine hK _ ?_; clear hK K
            refine wpQuiet_plain rfl (fun K hK => ?_); go_simp; refine hK _ ?_; clear hK K
            refine wpQuiet_load rfl 44 (.tmp 89) rfl _ (.int .i64 k.m) rfl (fun y hy => load_mode (HCK.out y hy).2.2) ?_; simp only [Act.put, Array.setIfInBounds, List.size_toArray, List.length_cons, List.length_nil, Nat.reduceAdd, Nat.reduceLT, ↓reduceDIte, List.set_toArray, List.set_cons_succ, List.set_cons_zero]
            refine wpQuiet_call rfl 18 #[.int .i64 q.m, .int .i64 k.m] (.bool true) ?_ (fun y hC => (HFT.out y).mono fun e x' h => ⟨h.1, by rw [← h.2]; exact hC⟩) ?_; (intro x; go_simp); simp only [Act.put, Array.setIfInBounds, List.size_toArray, List.length_cons, List.length_nil, Nat.reduceAdd, Nat.reduceLT, ↓reduceDIte, List.set_toArray, List.set_cons_succ, List.set_cons_zero]
            refine wpQuiet_plain rfl (fun K hK => ?_); go_simp; refine hK _ ?_; clear hK K
            refine wpQuiet_plain rfl (fun K hK => ?_); go_simp; refine hK _ ?_; clear hK K
            refine wpQuiet_plain rfl (fun K hK => ?_); go_simp; refine hK _ ?_; clear hK K
            refine wpQuiet_nil ?_
            intro y hy
            have HY2 := hide hy
            clear hy HCQ HCK HFT
            go_wp2
            go_roundw
            case rel => exact ⟨j + 1, by omega, by go_num, HY2⟩
            case measure => simp [intOf]; omega
          · have e1 : (q.x == k.x) = false := by simpa using hxx
            clear hq hqm hkm hord hxx
            go_wp2_with fail
            refine wp_region_in (CF w g t F w2.heap.size (.slice (some ⟨b, 0, none⟩) l.length c) l) (by kernel_rfl) (by kernel_rfl) (HI.out.drew) ?_
            refine wpQuiet_plain rfl (fun K hK => ?_); go_simp; refine hK _ ?_; clear hK K
            refine wpQuiet_plain rfl (fun K hK => ?_); go_simp; refine hK _ ?_; clear hK K
            refine wpQuiet_plain rfl (fun K hK => ?_); go_simp; refine hK _ ?_; clear hK K
            refine wpQuiet_plain rfl (fun K hK => ?_); go_simp; refine hK _ ?_; clear hK K
            refine wpQuiet_load rfl 3 (.tmp 60) rfl _ (.int .i64 q.x) rfl (fun y hy => load_num (HCQ.out y hy).2.1) ?_; simp only [Act.put, Array.setIfInBounds, List.size_toArray, List.length_cons, List.length_nil, Nat.reduceAdd, Nat.reduceLT, ↓reduceDIte, List.set_toArray, List.set_cons_succ, List.set_cons_zero]
            refine wpQuiet_plain rfl (fun K hK => ?_); go_simp; refine hK _ ?_; clear hK K
            refine wpQuiet_plain rfl (fun K hK => ?_); go_simp; refine hK _ ?_; clear hK K
            refine wpQuiet_plain rfl (fun K hK => ?_); go_simp; refine hK _ ?_; clear hK K
            refine wpQuiet_plain rfl (fun K hK => ?_); go_simp; refine hK _ ?_; clear hK K
            refine wpQuiet_load rfl 3 (.tmp 65) rfl _ (.int .i64 k.x) rfl (fun y hy => load_num (HCK.out y hy).2.1) ?_; simp only [Act.put, Array.setIfInBounds, List.size_toArray, List.length_cons, List.length_nil, Nat.reduceAdd, Nat.reduceLT, ↓reduceDIte, List.set_toArray, List.set_cons_succ, List.set_cons_zero]
            refine wpQuiet_plain rfl (fun K hK => ?_); go_simp; refine hK _ ?_; clear hK K
            refine wpQuiet_plain rfl (fun K hK => ?_); go_simp; refine hK _ ?_; clear hK K
            go_big_quiet_skip
            go_big_quiet_skip
            go_big_quiet_skip
            go_big_quiet_skip
            go_big_quiet_skip
            go_big_quiet_skip
            go_big_quiet_skip
            go_big_quiet_skip
            go_big_quiet_skip
            go_big_quiet_skip
            go_big_quiet_skip
            go_big_quiet_skip
            go_big_quiet_skip
            go_big_quiet_skip
            go_big_quiet_skip
            go_big_quiet_skip
            go_big_quiet_skip
            go_big_quiet_skip
            go_big_quiet_skip
            go_big_quiet_skip
            go_big_quiet_skip
            go_big_quiet_skip
            go_big_quiet_skip
            go_big_quiet_skip
            go_big_quiet_skip
            refine wpQuiet_plain rfl (fun K hK => ?_); go_simp; refine hK _ ?_; clear hK K
            refine wpQuiet_nil ?_
            intro y hy
            have HY2 := hide hy
            clear hy HCQ HCK HFT
            go_wp2
            go_roundw
            case rel => exact ⟨j + 1, by omega, by go_num, HY2⟩
            case measure => simp [intOf]; omega
        · have i2 : ¬ (j : Int) < (i : Int) := by omega
          go_wp2
          go_roundw
          case rel => exact ⟨i + 1, by omega, by go_num, HI⟩
          case measure => simp [intOf]; omega
    · have i1 : ¬ (i : Int) < (l.length : Int) := by omega
      have HE := hide HR.out.1.bel
      go_wp2
      go_ret
      exact ⟨rfl, HE.out⟩
end Go.Proofs.Ytjdabcapphiplaa.lockFits
