/-
  The contract of quaysideref05.Cells.
-/
import Derived.Test.YtcehppekcbbaaaaChangeRef
import Derived.RegionTactic
import Derived.ChangeAlike
import Derived.BigRegion
namespace Go.Proofs.Ytcehppekcbbaaaa
open Go.RowKit
set_option linter.unusedVariables false

/-- What stands at the entry: the change, and two results. -/
def CellsIn (w : World) (g1 g2 : Nat) (c : Ch) (x : World) : Prop :=
  ChAt x w.heap.size c ∧ RowAt x g1 24 (ceA false ⟨#[]⟩) ∧ RowAt x g2 24 (ceA false ⟨#[]⟩) ∧ Below w.heap.size w x ∧ w.heap.size < g1 ∧ g1 < g2

theorem cells_in (w : World) (c : Ch) : CellsIn w (w.heap.size + 1) (w.heap.size + 1 + 1) c (((w.alloc (.cells (chA c) 29)).alloc (.cells (ceA false ⟨#[]⟩) 24)).alloc (.cells (ceA false ⟨#[]⟩) 24)) := by
  have e1 : (w.alloc (.cells (chA c) 29)).heap.size = w.heap.size + 1 := by simp
  have e2 : ((w.alloc (.cells (chA c) 29)).alloc (.cells (ceA false ⟨#[]⟩) 24)).heap.size = w.heap.size + 1 + 1 := by simp
  have b1 := (Below.refl w.heap.size w).alloc (Nat.le_refl _) (.cells (chA c) 29)
  have b2 := (Below.refl _ (w.alloc (.cells (chA c) 29))).alloc (Nat.le_refl _) (.cells (ceA false ⟨#[]⟩) 24)
  have b3 := (Below.refl _ ((w.alloc (.cells (chA c) 29)).alloc (.cells (ceA false ⟨#[]⟩) 24))).alloc (Nat.le_refl _) (.cells (ceA false ⟨#[]⟩) 24)
  have r0 : RowAt (w.alloc (.cells (chA c) 29)) w.heap.size 29 (chA c) := RowAt.new _ _ _
  have r1 : RowAt ((w.alloc (.cells (chA c) 29)).alloc (.cells (ceA false ⟨#[]⟩) 24)) (w.heap.size + 1) 24 (ceA false ⟨#[]⟩) := by
    have h := RowAt.new (w.alloc (.cells (chA c) 29)) 24 (ceA false ⟨#[]⟩)
    rw [e1] at h
    exact h
  have r2 : RowAt (((w.alloc (.cells (chA c) 29)).alloc (.cells (ceA false ⟨#[]⟩) 24)).alloc (.cells (ceA false ⟨#[]⟩) 24)) (w.heap.size + 1 + 1) 24 (ceA false ⟨#[]⟩) := by
    have h := RowAt.new ((w.alloc (.cells (chA c) 29)).alloc (.cells (ceA false ⟨#[]⟩) 24)) 24 (ceA false ⟨#[]⟩)
    rw [e2] at h
    exact h
  exact ⟨(r0.later b2).later b3, r1.later b3, r2, b1.trans ((b2.mono b1.size).trans (b3.mono (by omega))), by omega, by omega⟩

/-- What stands behind the two cells are laid. -/
def CellsMid (w : World) (g1 g2 f t : Nat) (c : Ch) (F T : Array Value) (x : World) : Prop :=
  ChAt x w.heap.size c ∧ RowAt x g1 24 (ceA false ⟨#[]⟩) ∧ RowAt x g2 24 (ceA false ⟨#[]⟩) ∧ RowAt x f 24 F ∧ RowAt x t 24 T ∧ Below w.heap.size w x ∧
    (w.heap.size < g1 ∧ w.heap.size < g2 ∧ w.heap.size < f ∧ w.heap.size < t ∧ g1 ≠ g2 ∧ g1 ≠ f ∧ g1 ≠ t ∧ g2 ≠ f ∧ g2 ≠ t ∧ f ≠ t)
theorem cells_mid {w : World} {g1 g2 : Nat} {c : Ch} {x : World} (h : CellsIn w g1 g2 c x) (A B : Array Value) :
    CellsMid w g1 g2 x.heap.size (x.heap.size + 1) c A B ((x.alloc (.cells A 24)).alloc (.cells B 24)).drew ∧ CellsMid w g1 g2 (x.heap.size + 1) x.heap.size c B A ((x.alloc (.cells A 24)).alloc (.cells B 24)).drew := by
  have e1 : (x.alloc (.cells A 24)).heap.size = x.heap.size + 1 := by simp
  have b1 := (Below.refl x.heap.size x).alloc (Nat.le_refl _) (.cells A 24)
  have b2 := (Below.refl _ (x.alloc (.cells A 24))).alloc (Nat.le_refl _) (.cells B 24)
  have b3 : Below x.heap.size x ((x.alloc (.cells A 24)).alloc (.cells B 24)) := b1.trans (b2.mono (by omega))
  have r1 : RowAt ((x.alloc (.cells A 24)).alloc (.cells B 24)) x.heap.size 24 A := (RowAt.new x _ _).later b2
  have r2 : RowAt ((x.alloc (.cells A 24)).alloc (.cells B 24)) (x.heap.size + 1) 24 B := by
    have h := RowAt.new (x.alloc (.cells A 24)) 24 B
    rw [e1] at h
    exact h
  have l0 := h.1.lt
  have l1 := h.2.1.lt
  have l2 := h.2.2.1.lt
  have q := h.2.2.2.2
  have k0 : ChAt ((x.alloc (.cells A 24)).alloc (.cells B 24)) w.heap.size c := h.1.below b3 l0
  have k1 := h.2.1.later b3
  have k2 := h.2.2.1.later b3
  have k3 : Below w.heap.size w ((x.alloc (.cells A 24)).alloc (.cells B 24)).drew := below_dn (h.2.2.2.1.trans (b3.mono (by omega))) 1
  exact ⟨⟨k0, k1, k2, r1, r2, k3, by omega⟩, ⟨k0, k1, k2, r2, r1, k3, by omega⟩⟩
/-- One of the two cells made empty. -/
theorem CellsMid.first {w x y : World} {g1 g2 f t : Nat} {c : Ch} {F T F' : Array Value} (h : CellsMid w g1 g2 f t c F T x) (hF : RowAt y f 24 F') (hk : ∀ B w0, Below B w0 x → B ≤ f → Below B w0 y) (ho : ∀ k t' c', k ≠ f → RowAt x k t' c' → RowAt y k t' c') : CellsMid w g1 g2 f t c F' T y := by
  obtain ⟨h1, h2, h3, h4, h5, h6, h7⟩ := h
  exact ⟨ho _ _ _ (by omega) h1, ho _ _ _ (by omega) h2, ho _ _ _ (by omega) h3, hF, ho _ _ _ (by omega) h5, hk _ _ h6 (by omega), h7⟩
theorem CellsMid.second {w x y : World} {g1 g2 f t : Nat} {c : Ch} {F T T' : Array Value} (h : CellsMid w g1 g2 f t c F T x) (hT : RowAt y t 24 T') (hk : ∀ B w0, Below B w0 x → B ≤ t → Below B w0 y) (ho : ∀ k t' c', k ≠ t → RowAt x k t' c' → RowAt y k t' c') : CellsMid w g1 g2 f t c F T' y := by
  obtain ⟨h1, h2, h3, h4, h5, h6, h7⟩ := h
  exact ⟨ho _ _ _ (by omega) h1, ho _ _ _ (by omega) h2, ho _ _ _ (by omega) h3, ho _ _ _ (by omega) h4, hT, hk _ _ h6 (by omega), h7⟩
/-- The results behind the last stores. -/
theorem CellsMid.done {w x : World} {g1 g2 f t : Nat} {c : Ch} {u v : Bool} {r s : ByteArray} (h : CellsMid w g1 g2 f t c (ceA u r) (ceA v s) x) :
    RowAt ((((x.setCell ⟨g1, 0, none⟩ (.bool u)).setCell ⟨g1, 1, none⟩ (.string r)).setCell ⟨g2, 0, none⟩ (.bool v)).setCell ⟨g2, 1, none⟩ (.string s)) g1 24 (ceA u r) ∧
    RowAt ((((x.setCell ⟨g1, 0, none⟩ (.bool u)).setCell ⟨g1, 1, none⟩ (.string r)).setCell ⟨g2, 0, none⟩ (.bool v)).setCell ⟨g2, 1, none⟩ (.string s)) g2 24 (ceA v s) ∧
    Below w.heap.size w ((((x.setCell ⟨g1, 0, none⟩ (.bool u)).setCell ⟨g1, 1, none⟩ (.string r)).setCell ⟨g2, 0, none⟩ (.bool v)).setCell ⟨g2, 1, none⟩ (.string s)) := by
  obtain ⟨h1, h2, h3, h4, h5, h6, h7⟩ := h
  have a1 := (h2.set 0 (.bool u)).set 1 (.string r)
  have a2 := ((h3.other ⟨g1, 0, none⟩ (.bool u) (by simp; omega)).other ⟨g1, 1, none⟩ (.string r) (by simp; omega))
  refine ⟨(a1.other ⟨g2, 0, none⟩ (.bool v) (by simp; omega)).other ⟨g2, 1, none⟩ (.string s) (by simp; omega), (a2.set 0 (.bool v)).set 1 (.string s), ?_⟩
  exact (((h6.setCell (by show _ ≤ g1; omega) _).setCell (by show _ ≤ g1; omega) _).setCell (by show _ ≤ g2; omega) _).setCell (by show _ ≤ g2; omega) _

set_option maxRecDepth 4000 in
set_option maxHeartbeats 3200000 in
theorem rcells_1 (c : Ch) (w : World) (k1 : c.k = 1) :
    Calls Try.prog 22 #[.agg (chA c)] w fun e w' => e = .returned (.tuple #[.agg (ceA false ⟨#[]⟩), .agg (ceA true c.n)]) ∧ Below w.heap.size w w' := by
  have H0 := hide (cells_in w c)
  go_enter Try.func22, Try.ntmps22
  go_wp2_with fail
  obtain ⟨g1, h1⟩ : ∃ g, g = w.heap.size + 1 := ⟨_, rfl⟩
  obtain ⟨g2, h2⟩ : ∃ g, g = w.heap.size + 1 + 1 := ⟨_, rfl⟩
  rw [← h2, ← h1] at H0
  rw [← h2, ← h1]
  refine gen_wp (fun x => Hid (CellsIn w g1 g2 c x)) H0 ?_
  clear H0 h1 h2
  intro w0 H0
  obtain ⟨a0, a1, a2, a3, a4⟩ := ChAt.all H0.out.1
  clear a1 a2
  have hlt := H0.out.1.lt
  have B1 := (Below.refl w0.heap.size w0).alloc (Nat.le_refl _) (.cells #[.bool false, .string ⟨#[]⟩] 24)
  have B2 := B1.alloc (by simp) (.cells #[.bool false, .string ⟨#[]⟩] 24)
  have b3 := (B1.cell (p := ⟨w.heap.size, 3, none⟩) hlt).trans a3
  have b4 := (B1.cell (p := ⟨w.heap.size, 4, none⟩) hlt).trans a4
  have c3 := (B2.cell (p := ⟨w.heap.size, 3, none⟩) hlt).trans a3
  have c4 := (B2.cell (p := ⟨w.heap.size, 4, none⟩) hlt).trans a4
  have n1 : ¬ w.heap.size = w0.heap.size := by omega
  have n2 : ¬ w.heap.size = w0.heap.size + 1 := by omega
  clear B1 B2
  go_region
  · obtain ⟨f, hf⟩ : ∃ f, f = w0.heap.size := ⟨_, rfl⟩
    obtain ⟨t, ht⟩ : ∃ t, t = w0.heap.size + 1 := ⟨_, rfl⟩
    have X := hide (cells_mid H0.out (ceA true c.o) (ceA true c.n)).1
    rw [← ht, ← hf] at X ⊢
    refine gen_w (fun x => Hid (CellsMid w g1 g2 f t c (ceA true c.o) (ceA true c.n) x)) X ?_
    clear X hf ht b3 b4 c3 c4 n1 n2 hlt a0 a3 a4 H0
    intro w1 H
    obtain ⟨a0, _, _, _, _⟩ := ChAt.all H.out.1
    rw [k1] at a0
    go_wp2_with (refine wpList_store_at rfl 24 _ _ rfl f _ (ceA false ⟨#[]⟩) rfl rfl H.out.2.2.2.1 infoCe rfl (ceA_one _ _) ?_)
    intro w2 hR hk ho
    have H2 := hide (H.out.first hR hk ho)
    clear hR hk ho H a0
    obtain ⟨a0, _, _, _, _⟩ := ChAt.all H2.out.1
    rw [k1] at a0
    have H : Hid (CellsMid w g1 g2 f t c (ceA false ⟨#[]⟩) (ceA true c.n) w2) := H2
    clear H2
    have q1 := H.out.2.2.2.1.cell 0 (.bool false) rfl
    have q2 := H.out.2.2.2.1.cell 1 (.string ⟨#[]⟩) rfl
    have q3 := H.out.2.2.2.2.1.cell 0 (.bool true) rfl
    have q4 := H.out.2.2.2.2.1.cell 1 (.string c.n) rfl
    have q5 := H.out.2.1.cell 0 (.bool false) rfl
    have q6 := H.out.2.1.cell 1 (.string ⟨#[]⟩) rfl
    have q7 := H.out.2.2.1.cell 0 (.bool false) rfl
    have q8 := H.out.2.2.1.cell 1 (.string ⟨#[]⟩) rfl
    have f5 := H.out.2.1.free 0
    have f6 := H.out.2.1.free 1
    have f7 := H.out.2.2.1.free 0
    have f8 := H.out.2.2.1.free 1
    obtain ⟨_, _, _, _, n1, n2, n3, n4, n5, n6⟩ := H.out.2.2.2.2.2.2
    have HD := hide H.out.done
    clear H
    go_wp2_with fail
    go_region
    all_goals (go_wp2; exact bodyPost_ret (res_two rfl _ _ g1 g2 _ _ _ rfl rfl HD.out.1 HD.out.2.1 Try.underlying24 rfl infoCe infoCe) rfl ⟨rfl, below_dn HD.out.2.2 1⟩)
  · obtain ⟨f, hf⟩ : ∃ f, f = w0.heap.size + 1 := ⟨_, rfl⟩
    obtain ⟨t, ht⟩ : ∃ t, t = w0.heap.size := ⟨_, rfl⟩
    have X := hide (cells_mid H0.out (ceA true c.n) (ceA true c.o)).2
    rw [← hf, ← ht] at X ⊢
    refine gen_w (fun x => Hid (CellsMid w g1 g2 f t c (ceA true c.o) (ceA true c.n) x)) X ?_
    clear X hf ht b3 b4 c3 c4 n1 n2 hlt a0 a3 a4 H0
    intro w1 H
    obtain ⟨a0, _, _, _, _⟩ := ChAt.all H.out.1
    rw [k1] at a0
    go_wp2_with (refine wpList_store_at rfl 24 _ _ rfl f _ (ceA false ⟨#[]⟩) rfl rfl H.out.2.2.2.1 infoCe rfl (ceA_one _ _) ?_)
    intro w2 hR hk ho
    have H2 := hide (H.out.first hR hk ho)
    clear hR hk ho H a0
    obtain ⟨a0, _, _, _, _⟩ := ChAt.all H2.out.1
    rw [k1] at a0
    have H : Hid (CellsMid w g1 g2 f t c (ceA false ⟨#[]⟩) (ceA true c.n) w2) := H2
    clear H2
    have q1 := H.out.2.2.2.1.cell 0 (.bool false) rfl
    have q2 := H.out.2.2.2.1.cell 1 (.string ⟨#[]⟩) rfl
    have q3 := H.out.2.2.2.2.1.cell 0 (.bool true) rfl
    have q4 := H.out.2.2.2.2.1.cell 1 (.string c.n) rfl
    have q5 := H.out.2.1.cell 0 (.bool false) rfl
    have q6 := H.out.2.1.cell 1 (.string ⟨#[]⟩) rfl
    have q7 := H.out.2.2.1.cell 0 (.bool false) rfl
    have q8 := H.out.2.2.1.cell 1 (.string ⟨#[]⟩) rfl
    have f5 := H.out.2.1.free 0
    have f6 := H.out.2.1.free 1
    have f7 := H.out.2.2.1.free 0
    have f8 := H.out.2.2.1.free 1
    obtain ⟨_, _, _, _, n1, n2, n3, n4, n5, n6⟩ := H.out.2.2.2.2.2.2
    have HD := hide H.out.done
    clear H
    go_wp2_with fail
    go_region
    all_goals (go_wp2; exact bodyPost_ret (res_two rfl _ _ g1 g2 _ _ _ rfl rfl HD.out.1 HD.out.2.1 Try.underlying24 rfl infoCe infoCe) rfl ⟨rfl, below_dn HD.out.2.2 1⟩)

set_option maxRecDepth 4000 in
set_option maxHeartbeats 3200000 in
theorem rcells_3 (c : Ch) (w : World) (k3 : c.k = 3) :
    Calls Try.prog 22 #[.agg (chA c)] w fun e w' => e = .returned (.tuple #[.agg (ceA true c.o), .agg (ceA false ⟨#[]⟩)]) ∧ Below w.heap.size w w' := by
  have H0 := hide (cells_in w c)
  go_enter Try.func22, Try.ntmps22
  go_wp2_with fail
  obtain ⟨g1, h1⟩ : ∃ g, g = w.heap.size + 1 := ⟨_, rfl⟩
  obtain ⟨g2, h2⟩ : ∃ g, g = w.heap.size + 1 + 1 := ⟨_, rfl⟩
  rw [← h2, ← h1] at H0
  rw [← h2, ← h1]
  refine gen_wp (fun x => Hid (CellsIn w g1 g2 c x)) H0 ?_
  clear H0 h1 h2
  intro w0 H0
  obtain ⟨a0, a1, a2, a3, a4⟩ := ChAt.all H0.out.1
  clear a1 a2
  have hlt := H0.out.1.lt
  have B1 := (Below.refl w0.heap.size w0).alloc (Nat.le_refl _) (.cells #[.bool false, .string ⟨#[]⟩] 24)
  have B2 := B1.alloc (by simp) (.cells #[.bool false, .string ⟨#[]⟩] 24)
  have b3 := (B1.cell (p := ⟨w.heap.size, 3, none⟩) hlt).trans a3
  have b4 := (B1.cell (p := ⟨w.heap.size, 4, none⟩) hlt).trans a4
  have c3 := (B2.cell (p := ⟨w.heap.size, 3, none⟩) hlt).trans a3
  have c4 := (B2.cell (p := ⟨w.heap.size, 4, none⟩) hlt).trans a4
  have n1 : ¬ w.heap.size = w0.heap.size := by omega
  have n2 : ¬ w.heap.size = w0.heap.size + 1 := by omega
  clear B1 B2
  go_region
  · obtain ⟨f, hf⟩ : ∃ f, f = w0.heap.size := ⟨_, rfl⟩
    obtain ⟨t, ht⟩ : ∃ t, t = w0.heap.size + 1 := ⟨_, rfl⟩
    have X := hide (cells_mid H0.out (ceA true c.o) (ceA true c.n)).1
    rw [← ht, ← hf] at X ⊢
    refine gen_w (fun x => Hid (CellsMid w g1 g2 f t c (ceA true c.o) (ceA true c.n) x)) X ?_
    clear X hf ht b3 b4 c3 c4 n1 n2 hlt a0 a3 a4 H0
    intro w1 H
    obtain ⟨a0, _, _, _, _⟩ := ChAt.all H.out.1
    rw [k3] at a0
    go_wp2_with (refine wpList_store_at rfl 24 _ _ rfl t _ (ceA false ⟨#[]⟩) rfl rfl H.out.2.2.2.2.1 infoCe rfl (ceA_one _ _) ?_)
    intro w2 hR hk ho
    have H2 := hide (H.out.second hR hk ho)
    clear hR hk ho H a0
    have H : Hid (CellsMid w g1 g2 f t c (ceA true c.o) (ceA false ⟨#[]⟩) w2) := H2
    clear H2
    have q1 := H.out.2.2.2.1.cell 0 (.bool true) rfl
    have q2 := H.out.2.2.2.1.cell 1 (.string c.o) rfl
    have q3 := H.out.2.2.2.2.1.cell 0 (.bool false) rfl
    have q4 := H.out.2.2.2.2.1.cell 1 (.string ⟨#[]⟩) rfl
    have q5 := H.out.2.1.cell 0 (.bool false) rfl
    have q6 := H.out.2.1.cell 1 (.string ⟨#[]⟩) rfl
    have q7 := H.out.2.2.1.cell 0 (.bool false) rfl
    have q8 := H.out.2.2.1.cell 1 (.string ⟨#[]⟩) rfl
    have f5 := H.out.2.1.free 0
    have f6 := H.out.2.1.free 1
    have f7 := H.out.2.2.1.free 0
    have f8 := H.out.2.2.1.free 1
    obtain ⟨_, _, _, _, n1, n2, n3, n4, n5, n6⟩ := H.out.2.2.2.2.2.2
    have HD := hide H.out.done
    clear H
    go_wp2_with fail
    go_region
    all_goals (go_wp2; exact bodyPost_ret (res_two rfl _ _ g1 g2 _ _ _ rfl rfl HD.out.1 HD.out.2.1 Try.underlying24 rfl infoCe infoCe) rfl ⟨rfl, below_dn HD.out.2.2 1⟩)
  · obtain ⟨f, hf⟩ : ∃ f, f = w0.heap.size + 1 := ⟨_, rfl⟩
    obtain ⟨t, ht⟩ : ∃ t, t = w0.heap.size := ⟨_, rfl⟩
    have X := hide (cells_mid H0.out (ceA true c.n) (ceA true c.o)).2
    rw [← hf, ← ht] at X ⊢
    refine gen_w (fun x => Hid (CellsMid w g1 g2 f t c (ceA true c.o) (ceA true c.n) x)) X ?_
    clear X hf ht b3 b4 c3 c4 n1 n2 hlt a0 a3 a4 H0
    intro w1 H
    obtain ⟨a0, _, _, _, _⟩ := ChAt.all H.out.1
    rw [k3] at a0
    go_wp2_with (refine wpList_store_at rfl 24 _ _ rfl t _ (ceA false ⟨#[]⟩) rfl rfl H.out.2.2.2.2.1 infoCe rfl (ceA_one _ _) ?_)
    intro w2 hR hk ho
    have H2 := hide (H.out.second hR hk ho)
    clear hR hk ho H a0
    have H : Hid (CellsMid w g1 g2 f t c (ceA true c.o) (ceA false ⟨#[]⟩) w2) := H2
    clear H2
    have q1 := H.out.2.2.2.1.cell 0 (.bool true) rfl
    have q2 := H.out.2.2.2.1.cell 1 (.string c.o) rfl
    have q3 := H.out.2.2.2.2.1.cell 0 (.bool false) rfl
    have q4 := H.out.2.2.2.2.1.cell 1 (.string ⟨#[]⟩) rfl
    have q5 := H.out.2.1.cell 0 (.bool false) rfl
    have q6 := H.out.2.1.cell 1 (.string ⟨#[]⟩) rfl
    have q7 := H.out.2.2.1.cell 0 (.bool false) rfl
    have q8 := H.out.2.2.1.cell 1 (.string ⟨#[]⟩) rfl
    have f5 := H.out.2.1.free 0
    have f6 := H.out.2.1.free 1
    have f7 := H.out.2.2.1.free 0
    have f8 := H.out.2.2.1.free 1
    obtain ⟨_, _, _, _, n1, n2, n3, n4, n5, n6⟩ := H.out.2.2.2.2.2.2
    have HD := hide H.out.done
    clear H
    go_wp2_with fail
    go_region
    all_goals (go_wp2; exact bodyPost_ret (res_two rfl _ _ g1 g2 _ _ _ rfl rfl HD.out.1 HD.out.2.1 Try.underlying24 rfl infoCe infoCe) rfl ⟨rfl, below_dn HD.out.2.2 1⟩)

set_option maxRecDepth 4000 in
set_option maxHeartbeats 3200000 in
theorem rcells_0 (c : Ch) (w : World) (k1 : (c.k == 1) = false) (k3 : (c.k == 3) = false) :
    Calls Try.prog 22 #[.agg (chA c)] w fun e w' => e = .returned (.tuple #[.agg (ceA true c.o), .agg (ceA true c.n)]) ∧ Below w.heap.size w w' := by
  have H0 := hide (cells_in w c)
  go_enter Try.func22, Try.ntmps22
  go_wp2_with fail
  obtain ⟨g1, h1⟩ : ∃ g, g = w.heap.size + 1 := ⟨_, rfl⟩
  obtain ⟨g2, h2⟩ : ∃ g, g = w.heap.size + 1 + 1 := ⟨_, rfl⟩
  rw [← h2, ← h1] at H0
  rw [← h2, ← h1]
  refine gen_wp (fun x => Hid (CellsIn w g1 g2 c x)) H0 ?_
  clear H0 h1 h2
  intro w0 H0
  obtain ⟨a0, a1, a2, a3, a4⟩ := ChAt.all H0.out.1
  clear a1 a2
  have hlt := H0.out.1.lt
  have B1 := (Below.refl w0.heap.size w0).alloc (Nat.le_refl _) (.cells #[.bool false, .string ⟨#[]⟩] 24)
  have B2 := B1.alloc (by simp) (.cells #[.bool false, .string ⟨#[]⟩] 24)
  have b3 := (B1.cell (p := ⟨w.heap.size, 3, none⟩) hlt).trans a3
  have b4 := (B1.cell (p := ⟨w.heap.size, 4, none⟩) hlt).trans a4
  have c3 := (B2.cell (p := ⟨w.heap.size, 3, none⟩) hlt).trans a3
  have c4 := (B2.cell (p := ⟨w.heap.size, 4, none⟩) hlt).trans a4
  have n1 : ¬ w.heap.size = w0.heap.size := by omega
  have n2 : ¬ w.heap.size = w0.heap.size + 1 := by omega
  clear B1 B2
  go_region
  · obtain ⟨f, hf⟩ : ∃ f, f = w0.heap.size := ⟨_, rfl⟩
    obtain ⟨t, ht⟩ : ∃ t, t = w0.heap.size + 1 := ⟨_, rfl⟩
    have X := hide (cells_mid H0.out (ceA true c.o) (ceA true c.n)).1
    rw [← ht, ← hf] at X ⊢
    refine gen_w (fun x => Hid (CellsMid w g1 g2 f t c (ceA true c.o) (ceA true c.n) x)) X ?_
    clear X hf ht b3 b4 c3 c4 n1 n2 hlt a0 a3 a4 H0
    intro w1 H
    obtain ⟨a0, _, _, _, _⟩ := ChAt.all H.out.1
    skip
    have q1 := H.out.2.2.2.1.cell 0 (.bool true) rfl
    have q2 := H.out.2.2.2.1.cell 1 (.string c.o) rfl
    have q3 := H.out.2.2.2.2.1.cell 0 (.bool true) rfl
    have q4 := H.out.2.2.2.2.1.cell 1 (.string c.n) rfl
    have q5 := H.out.2.1.cell 0 (.bool false) rfl
    have q6 := H.out.2.1.cell 1 (.string ⟨#[]⟩) rfl
    have q7 := H.out.2.2.1.cell 0 (.bool false) rfl
    have q8 := H.out.2.2.1.cell 1 (.string ⟨#[]⟩) rfl
    have f5 := H.out.2.1.free 0
    have f6 := H.out.2.1.free 1
    have f7 := H.out.2.2.1.free 0
    have f8 := H.out.2.2.1.free 1
    obtain ⟨_, _, _, _, n1, n2, n3, n4, n5, n6⟩ := H.out.2.2.2.2.2.2
    have HD := hide H.out.done
    clear H
    go_wp2_with fail
    go_region
    all_goals (go_wp2; exact bodyPost_ret (res_two rfl _ _ g1 g2 _ _ _ rfl rfl HD.out.1 HD.out.2.1 Try.underlying24 rfl infoCe infoCe) rfl ⟨rfl, below_dn HD.out.2.2 1⟩)
  · obtain ⟨f, hf⟩ : ∃ f, f = w0.heap.size + 1 := ⟨_, rfl⟩
    obtain ⟨t, ht⟩ : ∃ t, t = w0.heap.size := ⟨_, rfl⟩
    have X := hide (cells_mid H0.out (ceA true c.n) (ceA true c.o)).2
    rw [← hf, ← ht] at X ⊢
    refine gen_w (fun x => Hid (CellsMid w g1 g2 f t c (ceA true c.o) (ceA true c.n) x)) X ?_
    clear X hf ht b3 b4 c3 c4 n1 n2 hlt a0 a3 a4 H0
    intro w1 H
    obtain ⟨a0, _, _, _, _⟩ := ChAt.all H.out.1
    skip
    have q1 := H.out.2.2.2.1.cell 0 (.bool true) rfl
    have q2 := H.out.2.2.2.1.cell 1 (.string c.o) rfl
    have q3 := H.out.2.2.2.2.1.cell 0 (.bool true) rfl
    have q4 := H.out.2.2.2.2.1.cell 1 (.string c.n) rfl
    have q5 := H.out.2.1.cell 0 (.bool false) rfl
    have q6 := H.out.2.1.cell 1 (.string ⟨#[]⟩) rfl
    have q7 := H.out.2.2.1.cell 0 (.bool false) rfl
    have q8 := H.out.2.2.1.cell 1 (.string ⟨#[]⟩) rfl
    have f5 := H.out.2.1.free 0
    have f6 := H.out.2.1.free 1
    have f7 := H.out.2.2.1.free 0
    have f8 := H.out.2.2.1.free 1
    obtain ⟨_, _, _, _, n1, n2, n3, n4, n5, n6⟩ := H.out.2.2.2.2.2.2
    have HD := hide H.out.done
    clear H
    go_wp2_with fail
    go_region
    all_goals (go_wp2; exact bodyPost_ret (res_two rfl _ _ g1 g2 _ _ _ rfl rfl HD.out.1 HD.out.2.1 Try.underlying24 rfl infoCe infoCe) rfl ⟨rfl, below_dn HD.out.2.2 1⟩)

/-- THE CONTRACT. -/
theorem rcells_any (c : Ch) (w : World) :
    Calls Try.prog 22 #[.agg (chA c)] w fun e w' => e = .returned (.tuple #[.agg (ceA c.wantU c.wantV), .agg (ceA c.makeU c.makeV)]) ∧ Below w.heap.size w w' := by
  unfold Ch.wantU Ch.wantV Ch.makeU Ch.makeV
  by_cases k1 : c.k = 1
  · rw [decide_eq_false (fun h => h k1), if_pos k1, decide_eq_true (show c.k ≠ 3 by omega), if_neg (show ¬ c.k = 3 by omega)]
    exact rcells_1 c w k1
  by_cases k3 : c.k = 3
  · rw [decide_eq_true k1, if_neg k1, decide_eq_false (fun h => h k3), if_pos k3]
    exact rcells_3 c w k3
  rw [decide_eq_true k1, if_neg k1, decide_eq_true k3, if_neg k3]
  exact rcells_0 c w (by simpa using k1) (by simpa using k3)
end Go.Proofs.Ytcehppekcbbaaaa
