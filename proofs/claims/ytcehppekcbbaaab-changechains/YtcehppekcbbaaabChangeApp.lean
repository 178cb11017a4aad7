/-
  The contract of package change's Apply.
-/
import Derived.Test.YtcehppekcbbaaabChangeIn
import Derived.Test.YtcehppekcbbaaabChangeRight
import Derived.Test.YtcehppekcbbaaabChangeRefuse
import Derived.Test.YtcehppekcbbaaabPageRight
import Derived.Test.YtcehppekcbbaaabQuietIn
import Derived.Test.YtcehppekcbbaaabRegionRow
namespace Go.Proofs.Ytcehppekcbbaaab
open Go.RowKit
set_option linter.unusedVariables false

theorem load_ch {b : Nat} {c : Ch} (x : World) (h : ChAt x b c) : (Instr.loadAt 34 (.pointer (some ⟨b, 0, none⟩))).run Try.prog x = .ok (.agg (chA c)) x := by
  have h1 := run_loadVar_row (P := Try.prog) x b 34 34 (chA c) (0, 0) _ h Try.underlying34 rfl infoCh
  simp only [Instr.loadAt, Instr.sureAddr, Sem.run_bind, Sem.run_pure, Result.andThen_ok, h1]
theorem pg_ext (p : Pg) (i : Nat) (hi : i < 8) : ((pgA p).extract (1 + i * 2) (1 + i * 2 + 2)).toList = (ceA (p.u i) (p.s i)).toList := by
  rcases lt8 hi with rfl | rfl | rfl | rfl | rfl | rfl | rfl | rfl <;> simp [pgA, ceA]
theorem load_ce {b : Nat} {p : Pg} (x : World) (i : Nat) (hi : i < 8) (h : PgAt x b p) : (Instr.loadAt 26 (.pointer (some ⟨b, 1 + i * 2, none⟩))).run Try.prog x = .ok (.agg (ceA (p.u i) (p.s i))) x := by
  have hr := World.rangeAt_of_block h (1 + i * 2) 2
  rw [pg_ext p i hi] at hr
  have h1 := run_loadAt_mid (P := Try.prog) x b (1 + i * 2) 26 _ _ hr Try.underlying26 rfl infoCe
  rwa [Array.toArray_toList] at h1
theorem load_slot {b : Nat} {c : Ch} (x : World) (i : Nat) (hi : c.sl = (i : Int)) (h : ChAt x b c) : (Instr.loadAt 3 (.pointer (some ⟨b, 2, none⟩))).run Try.prog x = .ok (.int .i64 (i : Int)) x := by
  have h1 := h.all.2.2.1
  rw [hi] at h1
  go_simp

/-- What 'Apply' answers, once its arguments are right: by 'refusal'. -/
theorem app_ref (p : Pg) (c : Ch) (l : Nat) (hp : p.right) (hc : c.right) (hl : l ≤ maxP) (hl2 : p.l < l) : appE p c l = refE (p.u c.at) (p.s c.at) c := by
  have hv : c.k = 1 → c.o = ⟨#[]⟩ := fun h => by
    rcases hc.2 with h1 | h1 | h1
    · exact size0 _ h1.2
    · omega
    · omega
  unfold appE refE Ch.wantU Ch.wantV
  rw [if_neg (fun h => h ⟨hp, hc, hl⟩), if_neg (by omega)]
  by_cases k : c.k = 1
  · rw [if_pos k, if_pos k, hv k]
    cases p.u c.at <;> simp [k]
  · rw [if_neg k, if_neg k]
    cases p.u c.at <;> simp [k]

theorem AppIn.drew {w x : World} {gc gr : Nat} {p : Pg} {c : Ch} (h : AppIn w gc gr p c x) : AppIn w gc gr p c x.drew := ⟨h.1, h.2.1, h.2.2.1, below_dn h.2.2.2.1 1, h.2.2.2.2⟩

set_option maxRecDepth 4000 in
set_option maxHeartbeats 1600000 in
theorem app_go (p : Pg) (c : Ch) (l : Nat) (w : World) (hp : p.right) (hc : c.right) (hl : l ≤ maxP) (hl2 : p.l < l) :
    Calls Try.prog 6 #[.agg (pgA p), .agg (chA c), .int .u64 l] w fun e w' => e = .returned (.tuple #[.agg (pgA (appP p c l)), .int .i64 (appE p c l)]) ∧ Below w.heap.size w w' := by
  have H0 := hide (app_in w p c)
  have HR1 := hide (fun w => right_any p w)
  have HR2 := hide (fun w => cright_at c w true (hide (decide_eq_true hc)))
  rw [decide_eq_true hp] at HR1
  have i1 : ((4611686018427387904 : Int) < (l : Int)) = False := eq_false (by unfold maxP at hl; omega)
  have i2 : ¬ (l : Int) ≤ (p.l : Int) := by omega
  obtain ⟨i, hi⟩ := Int.eq_ofNat_of_zero_le hc.1.2.2.1
  have hi8 : i < 8 := by have := hc.1.2.2.2.1; omega
  have hat : c.at = i := by unfold Ch.at; rw [hi]; rfl
  have HF := hide (fun w => refuse_at (p.u i) (p.s i) c w (appE p c l) (hide (by rw [app_ref p c l hp hc hl hl2, hat])))
  have HE0 := hide (fun h : appE p c l = 0 => show appP p c l = p.put l i c.makeU c.makeV by unfold appP; rw [if_pos h, hat])
  have HE1 := hide (app_no p c l)
  clear hp hc hl hl2 hat
  generalize appE p c l = er at *
  generalize appP p c l = rp at *
  go_enter Try.func6, Try.ntmps6
  obtain ⟨gc, h1⟩ : ∃ g, g = w.heap.size + 1 := ⟨_, rfl⟩
  obtain ⟨gr, h2⟩ : ∃ g, g = w.heap.size + 1 + 1 := ⟨_, rfl⟩
  rw [← h2, ← h1] at H0
  go_wp2_with (refine wpList_load_page rfl _ rfl w.heap.size rfl p H0.out.1 ?_)
  rw [← h2, ← h1]
  refine gen_calls (fun x => Hid (AppIn w gc gr p c x)) H0 ?_
  clear H0 h1 h2
  intro w0 H0
  refine (HR1.out _).mono ?_
  rintro e w1 ⟨rfl, hb1⟩
  have H1 := hide (H0.out.later hb1)
  clear H0 hb1 HR1
  go_wp2_with (refine wpList_load_at rfl 34 _ rfl gc rfl (chA c) H1.out.2.1 _ Try.underlying34 rfl infoCh ?_)
  refine (HR2.out _).mono ?_
  rintro e w2 ⟨rfl, hb2⟩
  have H2 := hide (H1.out.later hb2)
  clear H1 hb2 HR2
  have a0 := H2.out.1.lsn
  go_wp2_with fail
  clear a0 i1 i2
  refine wp_region_in (fun x => AppIn w gc gr p c x) (by kernel_rfl) (by kernel_rfl) H2.out.drew ?_
  clear H2
  have j1 : (i : Int) < 8 := by omega
  repeat (first
    | go_big_quiet_skip
    | (refine wpQuiet_load rfl 3 (.tmp 27) rfl _ (.int .i64 (i : Int)) rfl (fun y hy => load_slot y i hi hy.2.1) ?_; simp only [Act.put, Array.setIfInBounds, List.size_toArray, List.length_cons, List.length_nil, Nat.reduceAdd, Nat.reduceLT, ↓reduceDIte, List.set_toArray, List.set_cons_succ, List.set_cons_zero])
    | (refine wpQuiet_load rfl 26 (.tmp 30) rfl _ (.agg (ceA (p.u i) (p.s i))) rfl (fun y hy => load_ce y i hi8 hy.1) ?_; simp only [Act.put, Array.setIfInBounds, List.size_toArray, List.length_cons, List.length_nil, Nat.reduceAdd, Nat.reduceLT, ↓reduceDIte, List.set_toArray, List.set_cons_succ, List.set_cons_zero])
    | (refine wpQuiet_load rfl 34 (.tmp 4) rfl _ (.agg (chA c)) rfl (fun y hy => load_ch y hy.2.1) ?_; simp only [Act.put, Array.setIfInBounds, List.size_toArray, List.length_cons, List.length_nil, Nat.reduceAdd, Nat.reduceLT, ↓reduceDIte, List.set_toArray, List.set_cons_succ, List.set_cons_zero])
    | (refine wpQuiet_call rfl 13 #[.agg (ceA (p.u i) (p.s i)), .agg (chA c)] (.int .i64 er) ?_ (fun x hC => (HF.out x).mono fun e x' h => ⟨h.1, hC.later h.2⟩) ?_; (intro x; go_simp); simp only [Act.put, Array.setIfInBounds, List.size_toArray, List.length_cons, List.length_nil, Nat.reduceAdd, Nat.reduceLT, ↓reduceDIte, List.set_toArray, List.set_cons_succ, List.set_cons_zero])
    | (refine wpQuiet_plain rfl (fun K hK => ?_); go_simp; refine hK _ ?_; clear hK K))
  refine wpQuiet_nil ?_
  intro w3 h3
  have H3 := hide h3
  clear h3 HF
  by_cases h0 : er = 0
  · obtain rfl := HE0.out h0
    subst h0
    clear HE0 HE1
    go_wp2_with fail
    refine wp_region_noPanic ?_
    refine wp_region_held_drew (S := fun x => ChAt x gc c) (by kernel_rfl) H3.out.drew.2.1 (fun hHeld => ?_)
    refine wpAnyH_take (i := 0) (v := .pointer (some ⟨gc, 2, none⟩)) rfl (by kernel_rfl) (by kernel_rfl) (by kernel_rfl) (fun _ _ _ h => h) (Or.inl ⟨by kernel_rfl, fun w hSw => by go_simp⟩) hHeld ?_
    try simp only [Act.put]
    refine wpAnyH_take (i := 1) (v := .int .i64 (i : Int)) rfl (by kernel_rfl) (by kernel_rfl) (by kernel_rfl) (fun _ _ _ h => h) (yields_load (by kernel_rfl) 3 (.tmp 38) rfl _ _ rfl (fun y hy => load_slot y i hi hy)) hHeld ?_
    try simp only [Act.put]
    refine wpAnyH_take (i := 2) (v := .agg (chA c)) rfl (by kernel_rfl) (by kernel_rfl) (by kernel_rfl) (fun _ _ _ h => h) (yields_load (by kernel_rfl) 34 (.tmp 4) rfl _ _ rfl (fun y hy => load_ch y hy)) hHeld ?_
    try simp only [Act.put]
    refine wpAnyH_take (i := 4) (v := .pointer (some ⟨w.heap.size, 1, none⟩)) rfl (by kernel_rfl) (by kernel_rfl) (by kernel_rfl) (fun _ _ _ h => h) (Or.inl ⟨by kernel_rfl, fun w hSw => by go_simp⟩) hHeld ?_
    try simp only [Act.put]
    refine wpAnyH_ready (rs := [3]) (by kernel_rfl) (by simp) ?_
    refine AllReadyH.cons rfl (fun K hK => ?_) AllReadyH.nil
    go_simp
    refine (made_any c _).mono ?_
    rintro e w5 ⟨rfl, hb5⟩
    have H5 := hide (H3.out.drew.later hb5)
    clear hb5 H3
    go_wp2_with fail
    refine hK.out _ _ H5.out.2.1 (fun hHeld5 => ?_)
    clear hK K
    try simp only [Act.put]
    refine wpAnyH_take (i := 5) (v := .pointer (some ⟨w.heap.size, 1 + i * 2, none⟩)) rfl (by kernel_rfl) (by kernel_rfl) (by kernel_rfl) (fun _ _ _ h => h) (Or.inl ⟨by kernel_rfl, fun w hSw => by go_simp⟩) hHeld5 ?_
    try simp only [Act.put]
    have q1 := H5.out.1.used i hi8
    have q2 := H5.out.1.val i hi8
    have s1 := H5.out.1.free (1 + i * 2)
    have s2 := H5.out.1.free (1 + i * 2 + 1)
    have HN := hide (put_mem H5.out hi8 l c.makeU c.makeV)
    have hHeld6 := hide (show ChAt ((w5.setCell ⟨w.heap.size, 1 + i * 2, none⟩ (.bool c.makeU)).setCell ⟨w.heap.size, 1 + i * 2 + 1, none⟩ (.string c.makeV)) gc c from (RowAt.other (RowAt.other (show RowAt _ gc 34 (chA c) from H5.out.2.1) _ _ (by have := H5.out.2.2.2.2; simp; omega)) _ _ (by have := H5.out.2.2.2.2; simp; omega)))
    simp only [ceA]
    refine wpAnyH_ready (rs := [6]) (by kernel_rfl) (by simp) ?_
    refine AllReadyH.cons rfl (fun K hK => ?_) AllReadyH.nil
    go_simp
    refine hK.out _ _ hHeld6.out (fun _ => ?_)
    clear hK K
    try simp only [Act.put]
    refine wpAnyH_done (by kernel_rfl) ?_ _
    refine NoPanic.normal ?_
    have t3 := H5.out.1.free 0
    have t4 := H5.out.1.lsn
    clear hHeld hHeld5 hHeld6 H5
    go_wp2_with (first | (refine wpList_load_page ?hw (.tmp 3) ?ho w.heap.size ?hx (p.put l i c.makeU c.makeV) ?hg ?_; (case ho => rfl); (case hw => rfl); (case hx => rfl); (case hg => exact HN.out.1)) | (refine wpList_store_page ?hw (.tmp 6) (.tmp 46) ?ho gr Pg.zero (p.put l i c.makeU c.makeV) ?hx ?hy ?hg ?_; (case ho => rfl); (case hw => rfl); (case hx => rfl); (case hy => rfl); (case hg => exact HN.out.2.1)))
    intro w7 hP7 hk
    have HP7 := hide hP7
    have d7 := hk _ _ HN.out.2.2.1 (by have := HN.out.2.2.2; omega)
    clear hP7 hk HN q1 q2 s1 s2 t3 t4
    go_wp2
    exact bodyPost_ret (res_page rfl _ _ gr _ rfl HP7.out) rfl ⟨rfl, d7⟩
  · have hz := HE1.out h0
    subst hz
    have k0 : (er == 0) = false := by simpa using h0
    clear HE0 HE1 h0
    go_wp2_with (refine wpList_store_page rfl _ _ rfl gr Pg.zero Pg.zero rfl rfl H3.out.2.2.1 ?_)
    intro w7 hP7 hk
    have HP7 := hide hP7
    have d7 := hk _ _ H3.out.2.2.2.1 (by have := H3.out.2.2.2.2; omega)
    clear hP7 hk H3
    go_wp2
    exact bodyPost_ret (res_page rfl _ _ gr Pg.zero rfl HP7.out) rfl ⟨rfl, d7⟩
end Go.Proofs.Ytcehppekcbbaaab
