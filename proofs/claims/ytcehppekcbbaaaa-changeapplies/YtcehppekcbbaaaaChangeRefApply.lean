/-
  The contract of quaysideref05.Apply.
-/
import Derived.Test.YtcehppekcbbaaaaChangeRefCells
import Derived.Test.YtcehppekcbbaaaaChangeIn
namespace Go.Proofs.Ytcehppekcbbaaaa
open Go.RowKit
set_option linter.unusedVariables false

theorem new_two (x : World) (A B : Array Value) : RowAt ((x.alloc (.cells A 24)).alloc (.cells B 24)) x.heap.size 24 A ∧ RowAt ((x.alloc (.cells A 24)).alloc (.cells B 24)) (x.heap.size + 1) 24 B ∧ Below x.heap.size x ((x.alloc (.cells A 24)).alloc (.cells B 24)) := by
  have e1 : (x.alloc (.cells A 24)).heap.size = x.heap.size + 1 := by simp
  have b1 := (Below.refl x.heap.size x).alloc (Nat.le_refl _) (.cells A 24)
  have b2 := (Below.refl _ (x.alloc (.cells A 24))).alloc (Nat.le_refl _) (.cells B 24)
  refine ⟨(RowAt.new x _ _).later b2, ?_, b1.trans (b2.mono (by omega))⟩
  have h := RowAt.new (x.alloc (.cells A 24)) 24 B
  rw [e1] at h
  exact h

set_option maxRecDepth 4000 in
set_option maxHeartbeats 1600000 in
theorem rapp_go (p : Pg) (c : Ch) (l : Nat) (w : World) (hp : p.right) (hc : c.right) (hl : l ≤ maxP) (hl2 : p.l < l) :
    Calls Try.prog 11 #[.agg (pgA p), .agg (chA c), .int .u64 l] w fun e w' => e = .returned (.tuple #[.agg (pgA (appP p c l)), .int .i64 (appE p c l)]) ∧ Below w.heap.size w w' := by
  have H0 := hide (app_in w p c)
  have HR1 := hide (fun w => rright_any p w)
  have HR2 := hide (fun w => rcright_any c w)
  rw [decide_eq_true hp] at HR1
  rw [decide_eq_true hc] at HR2
  have i1 : ¬ (4611686018427387904 : Int) < (l : Int) := by unfold maxP at hl; omega
  have i2 : ¬ (l : Int) ≤ (p.l : Int) := by omega
  go_enter Try.func11, Try.ntmps11
  obtain ⟨gc, h1⟩ : ∃ g, g = w.heap.size + 1 := ⟨_, rfl⟩
  obtain ⟨gr, h2⟩ : ∃ g, g = w.heap.size + 1 + 1 := ⟨_, rfl⟩
  rw [← h2, ← h1] at H0
  go_wp2_with (refine wpList_load_page rfl _ rfl w.heap.size rfl p H0.out.1 ?_)
  rw [← h2, ← h1]
  refine gen_calls (fun x => Hid (AppIn w gc gr p c x)) H0 ?_
  clear H0 h1 h2
  intro w0 H0
  refine (HR1.out _).mono ?_
  rintro e w1 ⟨rfl, hb1⟩
  have H1 := hide (H0.out.later hb1)
  clear H0 hb1 HR1
  go_wp2_with (refine wpList_load_at rfl 29 _ rfl gc rfl (chA c) H1.out.2.1 _ Try.underlying29 rfl infoCh ?_)
  refine (HR2.out _).mono ?_
  rintro e w2 ⟨rfl, hb2⟩
  have H2 := hide (H1.out.later hb2)
  clear H1 hb2 HR2
  have a0 := H2.out.1.lsn
  go_wp2_with (refine wpList_load_at rfl 29 _ rfl gc rfl (chA c) H2.out.2.1 _ Try.underlying29 rfl infoCh ?_)
  refine (rcells_any c _).mono ?_
  rintro e w3 ⟨rfl, hb3⟩
  have H3 := hide (H2.out.later hb3)
  clear H2 hb3 a0
  have X := hide (new_two w3 (ceA false ⟨#[]⟩) (ceA false ⟨#[]⟩))
  go_wp2_with (refine wpList_store_at rfl 24 _ _ rfl w3.heap.size _ (ceA c.wantU c.wantV) rfl rfl X.out.1 infoCe rfl (ceA_one _ _) ?_)
  intro w4 hR hk ho
  have X4 : Hid (RowAt w4 w3.heap.size 24 (ceA c.wantU c.wantV) ∧ RowAt w4 (w3.heap.size + 1) 24 (ceA false ⟨#[]⟩) ∧ Below w3.heap.size w3 w4) := ⟨hR, ho _ _ _ (by omega) X.out.2.1, hk _ _ X.out.2.2 (Nat.le_refl _)⟩
  clear hR hk ho X
  go_wp2_with (refine wpList_store_at rfl 24 _ _ rfl (w3.heap.size + 1) _ (ceA c.makeU c.makeV) rfl rfl X4.out.2.1 infoCe rfl (ceA_one _ _) ?_)
  intro w5 hR hk ho
  have hb5 := hk _ _ X4.out.2.2 (Nat.le_succ _)
  have X5 : Hid (RowAt w5 w3.heap.size 24 (ceA c.wantU c.wantV) ∧ RowAt w5 (w3.heap.size + 1) 24 (ceA c.makeU c.makeV) ∧ AppIn w gc gr p c w5 ∧ gr < w3.heap.size) := ⟨ho _ _ _ (by omega) X4.out.1, hR, H3.out.later hb5, (Array.getElem?_eq_some_iff.1 H3.out.2.2.1).1⟩
  clear hR hk ho X4 hb5 H3
  obtain ⟨f, hf⟩ : ∃ f, f = w3.heap.size := ⟨_, rfl⟩
  obtain ⟨t, ht⟩ : ∃ t, t = w3.heap.size + 1 := ⟨_, rfl⟩
  have hft : f + 1 = t := by omega
  rw [← ht, ← hf] at X5 ⊢
  clear hf ht
  obtain ⟨i, hi⟩ := Int.eq_ofNat_of_zero_le hc.1.2.2.1
  have hi8 : i < 8 := by have := hc.1.2.2.2.1; omega
  have hat : c.at = i := by unfold Ch.at; rw [hi]; rfl
  obtain ⟨b0, b1, b2, b3, b4⟩ := ChAt.all X5.out.2.2.1.2.1
  rw [hi] at b2
  have q1 := X5.out.2.2.1.1.used i hi8
  have q2 := X5.out.2.2.1.1.val i hi8
  clear b0 b1 b3 b4
  have hu := hat ▸ (rfl : p.u c.at = p.u c.at)
  obtain ⟨u, eu⟩ : ∃ u, p.u i = u := ⟨_, rfl⟩
  obtain ⟨sv, es⟩ : ∃ sv, p.s i = sv := ⟨_, rfl⟩
  obtain ⟨fu, ef⟩ : ∃ fu, c.wantU = fu := ⟨_, rfl⟩
  obtain ⟨fv, ev⟩ : ∃ fv, c.wantV = fv := ⟨_, rfl⟩
  have B1 := (Below.refl w5.heap.size w5).alloc (Nat.le_refl _) (.cells #[.bool u, .string sv] 24)
  have X6 := hide (And.intro (X5.out.1.later B1) (And.intro (X5.out.2.1.later B1) (X5.out.2.2.1.later B1)))
  have HA := hide (app_at p c l hp hc hl hl2 i hat)
  rw [eu] at q1
  rw [es] at q2
  rw [ef, ev] at X5 X6
  rw [eu, es, ef, ev] at HA
  have r1 := X6.out.1.cell 0 (.bool fu) rfl
  have r2 := X6.out.1.cell 1 (.string fv) rfl
  clear B1 hu
  by_cases h6 : u = true ∧ fu = false
  · obtain ⟨rfl, rfl⟩ := h6
    have HE := hide (HA.out.1 ⟨rfl, rfl⟩)
    clear HA
    go_wp2_with (refine wpList_store_page rfl _ _ rfl gr Pg.zero Pg.zero rfl rfl X6.out.2.2.2.2.1 ?_)
    intro w7 hP7 hk
    have HP7 := hide hP7
    have d7 := hk _ _ X6.out.2.2.2.2.2.1 (by have := X6.out.2.2.2.2.2.2; omega)
    clear hP7 hk X6 X5 q1 q2 r1 r2 b2
    go_wp2
    rw [HE.out.1, HE.out.2]
    exact bodyPost_ret (res_page rfl _ _ gr Pg.zero rfl HP7.out) rfl ⟨rfl, d7⟩
  by_cases h5 : u = false ∧ fu = true
  · obtain ⟨rfl, rfl⟩ := h5
    have HE := hide (HA.out.2.1 ⟨rfl, rfl⟩)
    clear HA h6
    go_wp2_with (refine wpList_store_page rfl _ _ rfl gr Pg.zero Pg.zero rfl rfl X6.out.2.2.2.2.1 ?_)
    intro w7 hP7 hk
    have HP7 := hide hP7
    have d7 := hk _ _ X6.out.2.2.2.2.2.1 (by have := X6.out.2.2.2.2.2.2; omega)
    clear hP7 hk X6 X5 q1 q2 r1 r2 b2
    go_wp2
    rw [HE.out.1, HE.out.2]
    exact bodyPost_ret (res_page rfl _ _ gr Pg.zero rfl HP7.out) rfl ⟨rfl, d7⟩
  have huf : u = fu := by cases u <;> cases fu <;> simp_all
  subst huf
  by_cases h2 : sv = fv
  · subst h2
    have HE := hide (HA.out.2.2.2 rfl rfl)
    have hse : (sv.toList == sv.toList) = true := by simp
    clear HA h6 h5
    have s1 := X6.out.2.2.1.used i hi8
    have s2 := X6.out.2.2.1.val i hi8
    have s3 := X6.out.2.2.1.lsn
    have t1 := X6.out.2.2.1.free (1 + i * 2)
    have t2 := X6.out.2.2.1.free (1 + i * 2 + 1)
    have t3 := X6.out.2.2.1.free 0
    obtain ⟨_, _, b2', _, _⟩ := ChAt.all X6.out.2.2.2.1
    rw [hi] at b2'
    have HN := hide (put_mem X6.out.2.2 hi8 l c.makeU c.makeV)
    cases u
    · skip
      go_wp2_with (first | (refine wpList_load_at ?hw 24 (.tmp 9) ?ho t ?hx #[.bool c.makeU, .string c.makeV] ?hg _ Try.underlying24 rfl infoCe ?_; (case ho => rfl); (case hw => rfl); (case hx => rfl); (case hg => exact X6.out.2.1)) | (refine wpList_load_page ?hw (.tmp 3) ?ho w.heap.size ?hx (p.put l i c.makeU c.makeV) ?hg ?_; (case ho => rfl); (case hw => rfl); (case hx => rfl); (case hg => exact HN.out.1)) | (refine wpList_store_page ?hw (.tmp 6) (.tmp 71) ?ho gr Pg.zero (p.put l i c.makeU c.makeV) ?hx ?hy ?hg ?_; (case ho => rfl); (case hw => rfl); (case hx => rfl); (case hy => rfl); (case hg => exact HN.out.2.1)))
      intro w7 hP7 hk
      have HP7 := hide hP7
      have d7 := hk _ _ HN.out.2.2.1 (by have := HN.out.2.2.2; omega)
      clear hP7 hk X6 X5 q1 q2 r1 r2 b2 s1 s2 s3 t1 t2 t3 b2' HN
      go_wp2
      rw [HE.out.1, HE.out.2]
      exact bodyPost_ret (res_page rfl _ _ gr _ rfl HP7.out) rfl ⟨rfl, d7⟩
    · skip
      go_wp2_with (first | (refine wpList_load_at ?hw 24 (.tmp 9) ?ho t ?hx #[.bool c.makeU, .string c.makeV] ?hg _ Try.underlying24 rfl infoCe ?_; (case ho => rfl); (case hw => rfl); (case hx => rfl); (case hg => exact X6.out.2.1)) | (refine wpList_load_page ?hw (.tmp 3) ?ho w.heap.size ?hx (p.put l i c.makeU c.makeV) ?hg ?_; (case ho => rfl); (case hw => rfl); (case hx => rfl); (case hg => exact HN.out.1)) | (refine wpList_store_page ?hw (.tmp 6) (.tmp 71) ?ho gr Pg.zero (p.put l i c.makeU c.makeV) ?hx ?hy ?hg ?_; (case ho => rfl); (case hw => rfl); (case hx => rfl); (case hy => rfl); (case hg => exact HN.out.2.1)))
      intro w7 hP7 hk
      have HP7 := hide hP7
      have d7 := hk _ _ HN.out.2.2.1 (by have := HN.out.2.2.2; omega)
      clear hP7 hk X6 X5 q1 q2 r1 r2 b2 s1 s2 s3 t1 t2 t3 b2' HN
      go_wp2
      rw [HE.out.1, HE.out.2]
      exact bodyPost_ret (res_page rfl _ _ gr _ rfl HP7.out) rfl ⟨rfl, d7⟩
  · have HE := hide (HA.out.2.2.1 rfl h2)
    have hne : (sv.toList == fv.toList) = false := by
      rw [beq_eq_false_iff_ne]
      intro h
      apply h2
      rw [ByteArray.toList_eq, ByteArray.toList_eq] at h
      rw [← mk_data sv, h, mk_data]
    clear HA h6 h5 h2
    cases u
    · skip
      go_wp2_with (refine wpList_store_page rfl _ _ rfl gr Pg.zero Pg.zero rfl rfl X6.out.2.2.2.2.1 ?_)
      intro w7 hP7 hk
      have HP7 := hide hP7
      have d7 := hk _ _ X6.out.2.2.2.2.2.1 (by have := X6.out.2.2.2.2.2.2; omega)
      clear hP7 hk X6 X5 q1 q2 r1 r2 b2
      go_wp2
      rw [HE.out.1, HE.out.2]
      exact bodyPost_ret (res_page rfl _ _ gr Pg.zero rfl HP7.out) rfl ⟨rfl, d7⟩
    · skip
      go_wp2_with (refine wpList_store_page rfl _ _ rfl gr Pg.zero Pg.zero rfl rfl X6.out.2.2.2.2.1 ?_)
      intro w7 hP7 hk
      have HP7 := hide hP7
      have d7 := hk _ _ X6.out.2.2.2.2.2.1 (by have := X6.out.2.2.2.2.2.2; omega)
      clear hP7 hk X6 X5 q1 q2 r1 r2 b2
      go_wp2
      rw [HE.out.1, HE.out.2]
      exact bodyPost_ret (res_page rfl _ _ gr Pg.zero rfl HP7.out) rfl ⟨rfl, d7⟩
end Go.Proofs.Ytcehppekcbbaaaa
