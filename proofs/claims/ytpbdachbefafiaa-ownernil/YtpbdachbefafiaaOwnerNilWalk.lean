/-
  The contracts of package owner's calls on a nil directory, and on the zero one; the walk of OwnerNil. (gen14/nils.py)
-/
import Derived.Test.YtpbdachbefafiaaOwKept
import Derived.Test.YtpbdachbefafiaaOwScr
import Derived.Test.YtpbdachbefafiaaQuietIn
namespace Go.Proofs.Ytpbdachbefafiaa
open Go.RowKit
set_option linter.unusedVariables false

/-- A nil directory, or the zero one. -/
def NilD (w : World) (v : Value) : Prop := v = .pointer none ∨ ∃ g, v = .pointer (some ⟨g, 0, none⟩) ∧ RowAt w g 51 #[.slice none 0 0]
theorem load_num14 {y : World} {b o : Nat} {m : Int} (h : y.cell? ⟨b, o, none⟩ = some (.int .i64 m)) : (Instr.loadAt 3 (.pointer (some ⟨b, o, none⟩))).run Try.prog y = .ok (.int .i64 m) y := by go_simp
theorem NilD.later {w x : World} {v : Value} (h : NilD w v) (q : Below w.heap.size w x) : NilD x v := by
  rcases h with h | ⟨g, h1, h2⟩
  · exact .inl h
  · exact .inr ⟨g, h1, h2.later q⟩
section
variable {w : World} {v : Value}
set_option maxRecDepth 4000 in
set_option maxHeartbeats 400000 in
theorem sizeN14 (h : NilD w v) : Calls Try.prog 30 #[v] w fun e w' => e = .returned (.int .i64 0) ∧ w = w' := by
  rcases h with rfl | ⟨g, rfl, h⟩
  · go_enter Try.func30, Try.ntmps30
    go_wp2
    go_ret
    exact ⟨rfl, rfl⟩
  · have c0 := h.cell 0 _ rfl
    clear h
    go_enter Try.func30, Try.ntmps30
    go_wp2
    go_ret
    exact ⟨rfl, rfl⟩
set_option maxRecDepth 4000 in
set_option maxHeartbeats 400000 in
theorem atN14 (p : Int) (h : NilD w v) : Calls Try.prog 31 #[v, .int .i64 p] w fun e w' => e = .returned (.pointer none) ∧ w = w' := by
  have HS := hide (sizeN14 h)
  clear h
  by_cases h0 : p < 0
  · go_enter Try.func31, Try.ntmps31
    go_wp2
    go_ret
    exact ⟨rfl, rfl⟩
  · have h1 : 0 ≤ p := by omega
    go_enter Try.func31, Try.ntmps31
    go_wp2_with fail
    refine HS.out.mono ?_
    rintro e w1 ⟨rfl, rfl⟩
    go_wp2
    go_ret
    exact ⟨rfl, rfl⟩
set_option maxRecDepth 4000 in
set_option maxHeartbeats 400000 in
theorem whereN14 (p : Int) (h : NilD w v) : Calls Try.prog 14 #[v, .int .i64 p] w fun e w' => e = .returned (.tuple #[.int .i64 0, .int .i64 0]) ∧ Below w.heap.size w w' := by
  have HF := hide (atN14 p h)
  clear h
  go_enter Try.func14, Try.ntmps14
  go_wp2_with fail
  refine HF.out.mono ?_
  rintro e w1 ⟨rfl, rfl⟩
  go_wp2
  go_ret2
  exact ⟨rfl, Below.refl _ _⟩
set_option maxRecDepth 4000 in
set_option maxHeartbeats 400000 in
theorem askN14 (p m : Int) (h : NilD w v) : Calls Try.prog 17 #[v, .int .i64 p, .int .i64 m] w fun e w' => e = .returned (.tuple #[.int .i64 0, .int .i64 1]) ∧ Below w.heap.size w w' := by
  have HF := hide (atN14 p h)
  clear h
  go_enter Try.func17, Try.ntmps17
  go_wp2_with fail
  refine HF.out.mono ?_
  rintro e w1 ⟨rfl, rfl⟩
  go_wp2
  go_ret2
  exact ⟨rfl, Below.refl _ _⟩
set_option maxRecDepth 4000 in
set_option maxHeartbeats 400000 in
theorem moveN14 (p m k : Int) (t : Sp) (h : NilD w v) : Calls Try.prog 33 #[v, .int .i64 p, .int .i64 m, .int .i64 k, .agg #[.int .i64 t.k, .int .i64 t.m]] w fun e w' => e = .returned (.int .i64 1) ∧ Below w.heap.size w w' := by
  have hb : Below w.heap.size w (w.alloc (.cells #[.int .i64 t.k, .int .i64 t.m] 68)) := (Below.refl _ _).alloc (Nat.le_refl _) _
  have HF := hide (atN14 p (h.later hb))
  have HB := hide hb
  clear h hb
  go_enter Try.func33, Try.ntmps33
  go_wp2_with fail
  refine HF.out.mono ?_
  rintro e w1 ⟨rfl, rfl⟩
  go_wp2
  go_ret
  exact ⟨rfl, HB.out⟩
set_option maxRecDepth 4000 in
set_option maxHeartbeats 400000 in
theorem healN14 (p : Int) (h : NilD w v) : Calls Try.prog 16 #[v, .int .i64 p] w fun e w' => e = .returned (.int .i64 1) ∧ Below w.heap.size w w' := by
  have HF := hide (atN14 p h)
  clear h
  go_enter Try.func16, Try.ntmps16
  go_wp2_with fail
  refine HF.out.mono ?_
  rintro e w1 ⟨rfl, rfl⟩
  go_wp2
  go_ret
  exact ⟨rfl, Below.refl _ _⟩
set_option maxRecDepth 4000 in
set_option maxHeartbeats 400000 in
theorem landN14 (p m : Int) (h : NilD w v) : Calls Try.prog 18 #[v, .int .i64 p, .int .i64 m] w fun e w' => e = .returned (.int .i64 1) ∧ Below w.heap.size w w' := by
  have HM := hide (moveN14 p m 2 ⟨1, m⟩ h)
  clear h
  go_enter Try.func18, Try.ntmps18
  go_wp2_with fail
  refine HM.out.mono ?_
  rintro e w1 ⟨rfl, h1⟩
  have H1 := hide h1
  clear h1
  go_wp2
  go_ret
  exact ⟨rfl, H1.out⟩
set_option maxRecDepth 4000 in
set_option maxHeartbeats 400000 in
theorem leaveN14 (p m : Int) (h : NilD w v) : Calls Try.prog 20 #[v, .int .i64 p, .int .i64 m] w fun e w' => e = .returned (.int .i64 1) ∧ Below w.heap.size w w' := by
  have HM := hide (moveN14 p m 1 Sp.home h)
  clear h
  go_enter Try.func20, Try.ntmps20
  go_wp2_with fail
  refine HM.out.mono ?_
  rintro e w1 ⟨rfl, h1⟩
  have H1 := hide h1
  clear h1
  go_wp2
  go_ret
  exact ⟨rfl, H1.out⟩
set_option maxRecDepth 4000 in
set_option maxHeartbeats 400000 in
theorem shipN14 (p a b : Int) (h : NilD w v) : Calls Try.prog 19 #[v, .int .i64 p, .int .i64 a, .int .i64 b] w fun e w' => e = .returned (.int .i64 1) ∧ Below w.heap.size w w' := by
  have HM := hide (moveN14 p a 1 ⟨2, b⟩ h)
  clear h
  have hnd := fun w => isNode14 (w := w) b
  by_cases hm : isNd b = true
  · rw [hm] at hnd
    have HN := hide hnd
    clear hm hnd
    by_cases hab : a = b
    · have e1 : (a == b) = true := by simpa using hab
      clear hab
      go_enter Try.func19, Try.ntmps19
      go_wp2_with fail
      refine (HN.out _).mono ?_
      rintro e w1 ⟨rfl, rfl⟩
      go_wp2
      go_ret
      exact ⟨rfl, Below.refl _ _⟩
    · have e1 : (a == b) = false := by simpa using hab
      clear hab
      go_enter Try.func19, Try.ntmps19
      go_wp2_with fail
      refine (HN.out _).mono ?_
      rintro e w1 ⟨rfl, rfl⟩
      go_wp2_with fail
      refine HM.out.mono ?_
      rintro e w1 ⟨rfl, h1⟩
      have H1 := hide h1
      clear h1
      go_wp2
      go_ret
      exact ⟨rfl, H1.out⟩
  · rw [show isNd b = false by simpa using hm] at hnd
    have HN := hide hnd
    clear hm hnd
    go_enter Try.func19, Try.ntmps19
    go_wp2_with fail
    refine (HN.out _).mono ?_
    rintro e w1 ⟨rfl, rfl⟩
    go_wp2
    go_ret
    exact ⟨rfl, Below.refl _ _⟩
set_option maxRecDepth 4000 in
set_option maxHeartbeats 800000 in
theorem failN14 (m : Int) (h : NilD w v) : Calls Try.prog 15 #[v, .int .i64 m] w fun e w' => e = .returned (.slice none 0 0) ∧ Below w.heap.size w w' := by
  have HS := hide (sizeN14 h)
  clear h
  go_enter Try.func15, Try.ntmps15
  go_wp2_with fail
  refine HS.out.mono ?_
  rintro e w1 ⟨rfl, rfl⟩
  go_wp2
  go_loopw [5, 10] (fun v i wr => v = .slice none 0 0 ∧ i = .int .i64 0 ∧ wr = w) (fun _ _ _ => 0)
  case atStart => exact ⟨rfl, rfl, rfl⟩
  case round =>
    obtain ⟨rfl, rfl, rfl⟩ := hrel
    go_wp2
    go_ret
    exact ⟨rfl, Below.refl _ _⟩
set_option maxRecDepth 4000 in
set_option maxHeartbeats 800000 in
theorem ofN14 (m k : Int) (h : NilD w v) : Calls Try.prog 13 #[v, .int .i64 m, .int .i64 k] w fun e w' => e = .returned (.slice none 0 0) ∧ Below w.heap.size w w' := by
  have HS := hide (sizeN14 h)
  clear h
  by_cases hk : k = 0
  · have e1 : (k == 0) = true := by simpa using hk
    clear hk HS
    go_enter Try.func13, Try.ntmps13
    go_wp2
    go_ret
    exact ⟨rfl, Below.refl _ _⟩
  have e1 : (k == 0) = false := by simpa using hk
  clear hk
  go_enter Try.func13, Try.ntmps13
  go_wp2_with fail
  refine HS.out.mono ?_
  rintro e w1 ⟨rfl, rfl⟩
  go_wp2
  go_loopw [7, 13] (fun v i wr => v = .slice none 0 0 ∧ i = .int .i64 0 ∧ wr = w) (fun _ _ _ => 0)
  case atStart => exact ⟨rfl, rfl, rfl⟩
  case round =>
    obtain ⟨rfl, rfl, rfl⟩ := hrel
    go_wp2
    go_ret
    exact ⟨rfl, Below.refl _ _⟩
end
end Go.Proofs.Ytpbdachbefafiaa
namespace Go.Proofs.Ytpbdachbefafiaa.ownerNil
open Go.RowKit
set_option linter.unusedVariables false
/-- What a walk keeps: the directory that is none, and the call. -/
structure KN (w0 w : World) (v : Value) (b : Nat) (c : Od) : Prop where
  dir : NilD w v
  row : RowAt w b 30 (odA c)
  bel : Below w0.heap.size w0 w
theorem KN.later {w0 w x : World} {v : Value} {b : Nat} {c : Od} (h : KN w0 w v b c) (q : Below w.heap.size w x) : KN w0 x v b c := ⟨h.dir.later q, h.row.later q, h.bel.trans (q.mono h.bel.size)⟩
theorem KN.cells {w0 w : World} {v : Value} {b : Nat} {c : Od} (h : KN w0 w v b c) : w.cell? ⟨b, 1, none⟩ = some (.int .i64 c.p) ∧ w.cell? ⟨b, 2, none⟩ = some (.int .i64 c.a) ∧ w.cell? ⟨b, 3, none⟩ = some (.int .i64 c.b) := ⟨h.row.cell 1 _ rfl, h.row.cell 2 _ rfl, h.row.cell 3 _ rfl⟩
set_option maxRecDepth 8000 in
set_option maxHeartbeats 3200000 in
theorem walk (c : Od) (z : Bool) (w : World) (hf : c.fits) : Calls Try.prog 7 #[.agg (odA c), .bool z] w fun e w' => e = .returned (.bool true) ∧ Below w.heap.size w w' := by
  have hb : Below w.heap.size w (w.alloc (.cells (odA c) 30)) := (Below.refl _ _).alloc (Nat.le_refl _) _
  have HN := hide (RowAt.new w 30 (odA c))
  have HB := hide hb
  have hbx : (Instr.box 30 (.agg (odA c))).run Try.prog w = .ok (.pointer (some ⟨w.heap.size, 0, none⟩)) (w.alloc (.cells (odA c) 30)) := rfl
  clear hb hf
  obtain ⟨gb, hgb⟩ : ∃ gb, gb = w.heap.size := ⟨_, rfl⟩
  go_enter Try.func7, Try.ntmps7
  go_wp2_with fail
  refine (awake14 _).mono ?_
  rintro e w1 ⟨rfl, hb1⟩
  have HB1 := hide (HB.out.trans (hb1.mono HB.out.size))
  have HR1 := hide (HN.out.later hb1)
  clear hb1 HN HB hbx
  rw [← hgb] at HR1 ⊢
  clear hgb
  cases z with
  | false =>
    have HK := hide (show KN w w1 (.pointer none) gb c from ⟨.inl rfl, HR1.out, HB1.out⟩)
    clear HB1 HR1
    obtain ⟨d1, d2, d3⟩ := HK.out.cells
    go_wp2_with fail
    refine (askN14 c.p c.a HK.out.dir).mono ?_
    rintro e w3 ⟨rfl, hb⟩
    have HK2 := hide (HK.out.later hb)
    clear hb d1 d2 d3 HK
    have HK := hide HK2.out
    clear HK2
    obtain ⟨d1, d2, d3⟩ := HK.out.cells
    go_wp2_with fail
    refine (whereN14 c.p HK.out.dir).mono ?_
    rintro e w4 ⟨rfl, hb⟩
    have HK2 := hide (HK.out.later hb)
    clear hb d1 d2 d3 HK
    have HK := hide HK2.out
    clear HK2
    obtain ⟨d1, d2, d3⟩ := HK.out.cells
    go_wp2_with fail
    refine (shipN14 c.p c.a c.b HK.out.dir).mono ?_
    rintro e w5 ⟨rfl, hb⟩
    have HK2 := hide (HK.out.later hb)
    clear hb d1 d2 d3 HK
    have HK := hide HK2.out
    clear HK2
    obtain ⟨d1, d2, d3⟩ := HK.out.cells
    go_wp2_with fail
    refine (landN14 c.p c.a HK.out.dir).mono ?_
    rintro e w6 ⟨rfl, hb⟩
    have HK2 := hide (HK.out.later hb)
    clear hb d1 d2 d3 HK
    have HK := hide HK2.out
    clear HK2
    go_wp2_with fail
    refine wp_region_in (fun y => KN w y (.pointer none) gb c) (by kernel_rfl) (by kernel_rfl) (HK.out.later ((Below.refl _ _).drew)) ?_
    refine wpQuiet_plain rfl (fun K hK => ?_); go_simp; refine hK _ ?_; clear hK K
    refine wpQuiet_plain rfl (fun K hK => ?_); go_simp; refine hK _ ?_; clear hK K
    refine wpQuiet_load rfl 3 (.tmp 66) rfl _ (.int .i64 c.p) rfl (fun y hy => load_num14 hy.cells.1) ?_; simp only [Act.put, Array.setIfInBounds, List.size_toArray, List.length_cons, List.length_nil, Nat.reduceAdd, Nat.reduceLT, ↓reduceDIte, List.set_toArray, List.set_cons_succ, List.set_cons_zero]
    refine wpQuiet_plain rfl (fun K hK => ?_); go_simp; refine hK _ ?_; clear hK K
    refine wpQuiet_load rfl 3 (.tmp 68) rfl _ (.int .i64 c.a) rfl (fun y hy => load_num14 hy.cells.2.1) ?_; simp only [Act.put, Array.setIfInBounds, List.size_toArray, List.length_cons, List.length_nil, Nat.reduceAdd, Nat.reduceLT, ↓reduceDIte, List.set_toArray, List.set_cons_succ, List.set_cons_zero]
    refine wpQuiet_call rfl 20 #[.pointer none, .int .i64 c.p, .int .i64 c.a] (.int .i64 1) ?_ (fun y hC => (leaveN14 c.p c.a hC.dir).mono fun e x' h => ⟨h.1, hC.later h.2⟩) ?_; (intro x; go_simp); simp only [Act.put, Array.setIfInBounds, List.size_toArray, List.length_cons, List.length_nil, Nat.reduceAdd, Nat.reduceLT, ↓reduceDIte, List.set_toArray, List.set_cons_succ, List.set_cons_zero]
    refine wpQuiet_plain rfl (fun K hK => ?_); go_simp; refine hK _ ?_; clear hK K
    refine wpQuiet_plain rfl (fun K hK => ?_); go_simp; refine hK _ ?_; clear hK K
    refine wpQuiet_plain rfl (fun K hK => ?_); go_simp; refine hK _ ?_; clear hK K
    refine wpQuiet_plain rfl (fun K hK => ?_); go_simp; refine hK _ ?_; clear hK K
    refine wpQuiet_load rfl 3 (.tmp 74) rfl _ (.int .i64 c.p) rfl (fun y hy => load_num14 hy.cells.1) ?_; simp only [Act.put, Array.setIfInBounds, List.size_toArray, List.length_cons, List.length_nil, Nat.reduceAdd, Nat.reduceLT, ↓reduceDIte, List.set_toArray, List.set_cons_succ, List.set_cons_zero]
    refine wpQuiet_call rfl 16 #[.pointer none, .int .i64 c.p] (.int .i64 1) ?_ (fun y hC => (healN14 c.p hC.dir).mono fun e x' h => ⟨h.1, hC.later h.2⟩) ?_; (intro x; go_simp); simp only [Act.put, Array.setIfInBounds, List.size_toArray, List.length_cons, List.length_nil, Nat.reduceAdd, Nat.reduceLT, ↓reduceDIte, List.set_toArray, List.set_cons_succ, List.set_cons_zero]
    refine wpQuiet_plain rfl (fun K hK => ?_); go_simp; refine hK _ ?_; clear hK K
    refine wpQuiet_plain rfl (fun K hK => ?_); go_simp; refine hK _ ?_; clear hK K
    refine wpQuiet_plain rfl (fun K hK => ?_); go_simp; refine hK _ ?_; clear hK K
    refine wpQuiet_plain rfl (fun K hK => ?_); go_simp; refine hK _ ?_; clear hK K
    refine wpQuiet_plain rfl (fun K hK => ?_); go_simp; refine hK _ ?_; clear hK K
    refine wpQuiet_load rfl 3 (.tmp 81) rfl _ (.int .i64 c.a) rfl (fun y hy => load_num14 hy.cells.2.1) ?_; simp only [Act.put, Array.setIfInBounds, List.size_toArray, List.length_cons, List.length_nil, Nat.reduceAdd, Nat.reduceLT, ↓reduceDIte, List.set_toArray, List.set_cons_succ, List.set_cons_zero]
    refine wpQuiet_call rfl 15 #[.pointer none, .int .i64 c.a] (.slice none 0 0) ?_ (fun y hC => (failN14 c.a hC.dir).mono fun e x' h => ⟨h.1, hC.later h.2⟩) ?_; (intro x; go_simp); simp only [Act.put, Array.setIfInBounds, List.size_toArray, List.length_cons, List.length_nil, Nat.reduceAdd, Nat.reduceLT, ↓reduceDIte, List.set_toArray, List.set_cons_succ, List.set_cons_zero]
    refine wpQuiet_plain rfl (fun K hK => ?_); go_simp; refine hK _ ?_; clear hK K
    refine wpQuiet_plain rfl (fun K hK => ?_); go_simp; refine hK _ ?_; clear hK K
    refine wpQuiet_plain rfl (fun K hK => ?_); go_simp; refine hK _ ?_; clear hK K
    refine wpQuiet_load rfl 3 (.tmp 86) rfl _ (.int .i64 c.a) rfl (fun y hy => load_num14 hy.cells.2.1) ?_; simp only [Act.put, Array.setIfInBounds, List.size_toArray, List.length_cons, List.length_nil, Nat.reduceAdd, Nat.reduceLT, ↓reduceDIte, List.set_toArray, List.set_cons_succ, List.set_cons_zero]
    refine wpQuiet_plain rfl (fun K hK => ?_); go_simp; refine hK _ ?_; clear hK K
    refine wpQuiet_load rfl 3 (.tmp 88) rfl _ (.int .i64 c.b) rfl (fun y hy => load_num14 hy.cells.2.2) ?_; simp only [Act.put, Array.setIfInBounds, List.size_toArray, List.length_cons, List.length_nil, Nat.reduceAdd, Nat.reduceLT, ↓reduceDIte, List.set_toArray, List.set_cons_succ, List.set_cons_zero]
    refine wpQuiet_call rfl 13 #[.pointer none, .int .i64 c.a, .int .i64 c.b] (.slice none 0 0) ?_ (fun y hC => (ofN14 c.a c.b hC.dir).mono fun e x' h => ⟨h.1, hC.later h.2⟩) ?_; (intro x; go_simp); simp only [Act.put, Array.setIfInBounds, List.size_toArray, List.length_cons, List.length_nil, Nat.reduceAdd, Nat.reduceLT, ↓reduceDIte, List.set_toArray, List.set_cons_succ, List.set_cons_zero]
    refine wpQuiet_plain rfl (fun K hK => ?_); go_simp; refine hK _ ?_; clear hK K
    refine wpQuiet_plain rfl (fun K hK => ?_); go_simp; refine hK _ ?_; clear hK K
    refine wpQuiet_plain rfl (fun K hK => ?_); go_simp; refine hK _ ?_; clear hK K
    refine wpQuiet_plain rfl (fun K hK => ?_); go_simp; refine hK _ ?_; clear hK K
    refine wpQuiet_plain rfl (fun K hK => ?_); go_simp; refine hK _ ?_; clear hK K
    refine wpQuiet_nil ?_
    intro y hy
    have HY := hide hy
    clear hy HK
    go_wp2
    go_ret
    have hw0 : IntKind.i64.wrap 0 = 0 := by rw [IntKind.wrap_i64]; rfl
    exact ⟨by simp [hw0], HY.out.bel⟩
  | true =>
    have hb2 : Below w1.heap.size w1 (w1.alloc (.cells #[.slice none 0 0] 51)) := (Below.refl _ _).alloc (Nat.le_refl _) _
    have HK := hide (show KN w (w1.alloc (.cells #[.slice none 0 0] 51)) (.pointer (some ⟨w1.heap.size, 0, none⟩)) gb c from ⟨.inr ⟨_, rfl, RowAt.new w1 _ _⟩, HR1.out.later hb2, HB1.out.trans (hb2.mono HB1.out.size)⟩)
    clear HB1 HR1 hb2
    obtain ⟨gd, hgd⟩ : ∃ gd, gd = w1.heap.size := ⟨_, rfl⟩
    rw [← hgd] at HK
    obtain ⟨d1, d2, d3⟩ := HK.out.cells
    go_wp2_with fail
    rw [← hgd]
    clear hgd
    refine (askN14 c.p c.a HK.out.dir).mono ?_
    rintro e w3 ⟨rfl, hb⟩
    have HK2 := hide (HK.out.later hb)
    clear hb d1 d2 d3 HK
    have HK := hide HK2.out
    clear HK2
    obtain ⟨d1, d2, d3⟩ := HK.out.cells
    go_wp2_with fail
    refine (whereN14 c.p HK.out.dir).mono ?_
    rintro e w4 ⟨rfl, hb⟩
    have HK2 := hide (HK.out.later hb)
    clear hb d1 d2 d3 HK
    have HK := hide HK2.out
    clear HK2
    obtain ⟨d1, d2, d3⟩ := HK.out.cells
    go_wp2_with fail
    refine (shipN14 c.p c.a c.b HK.out.dir).mono ?_
    rintro e w5 ⟨rfl, hb⟩
    have HK2 := hide (HK.out.later hb)
    clear hb d1 d2 d3 HK
    have HK := hide HK2.out
    clear HK2
    obtain ⟨d1, d2, d3⟩ := HK.out.cells
    go_wp2_with fail
    refine (landN14 c.p c.a HK.out.dir).mono ?_
    rintro e w6 ⟨rfl, hb⟩
    have HK2 := hide (HK.out.later hb)
    clear hb d1 d2 d3 HK
    have HK := hide HK2.out
    clear HK2
    go_wp2_with fail
    refine wp_region_in (fun y => KN w y (.pointer (some ⟨gd, 0, none⟩)) gb c) (by kernel_rfl) (by kernel_rfl) (HK.out.later ((Below.refl _ _).drew)) ?_
    refine wpQuiet_plain rfl (fun K hK => ?_); go_simp; refine hK _ ?_; clear hK K
    refine wpQuiet_plain rfl (fun K hK => ?_); go_simp; refine hK _ ?_; clear hK K
    refine wpQuiet_load rfl 3 (.tmp 66) rfl _ (.int .i64 c.p) rfl (fun y hy => load_num14 hy.cells.1) ?_; simp only [Act.put, Array.setIfInBounds, List.size_toArray, List.length_cons, List.length_nil, Nat.reduceAdd, Nat.reduceLT, ↓reduceDIte, List.set_toArray, List.set_cons_succ, List.set_cons_zero]
    refine wpQuiet_plain rfl (fun K hK => ?_); go_simp; refine hK _ ?_; clear hK K
    refine wpQuiet_load rfl 3 (.tmp 68) rfl _ (.int .i64 c.a) rfl (fun y hy => load_num14 hy.cells.2.1) ?_; simp only [Act.put, Array.setIfInBounds, List.size_toArray, List.length_cons, List.length_nil, Nat.reduceAdd, Nat.reduceLT, ↓reduceDIte, List.set_toArray, List.set_cons_succ, List.set_cons_zero]
    refine wpQuiet_call rfl 20 #[.pointer (some ⟨gd, 0, none⟩), .int .i64 c.p, .int .i64 c.a] (.int .i64 1) ?_ (fun y hC => (leaveN14 c.p c.a hC.dir).mono fun e x' h => ⟨h.1, hC.later h.2⟩) ?_; (intro x; go_simp); simp only [Act.put, Array.setIfInBounds, List.size_toArray, List.length_cons, List.length_nil, Nat.reduceAdd, Nat.reduceLT, ↓reduceDIte, List.set_toArray, List.set_cons_succ, List.set_cons_zero]
    refine wpQuiet_plain rfl (fun K hK => ?_); go_simp; refine hK _ ?_; clear hK K
    refine wpQuiet_plain rfl (fun K hK => ?_); go_simp; refine hK _ ?_; clear hK K
    refine wpQuiet_plain rfl (fun K hK => ?_); go_simp; refine hK _ ?_; clear hK K
    refine wpQuiet_plain rfl (fun K hK => ?_); go_simp; refine hK _ ?_; clear hK K
    refine wpQuiet_load rfl 3 (.tmp 74) rfl _ (.int .i64 c.p) rfl (fun y hy => load_num14 hy.cells.1) ?_; simp only [Act.put, Array.setIfInBounds, List.size_toArray, List.length_cons, List.length_nil, Nat.reduceAdd, Nat.reduceLT, ↓reduceDIte, List.set_toArray, List.set_cons_succ, List.set_cons_zero]
    refine wpQuiet_call rfl 16 #[.pointer (some ⟨gd, 0, none⟩), .int .i64 c.p] (.int .i64 1) ?_ (fun y hC => (healN14 c.p hC.dir).mono fun e x' h => ⟨h.1, hC.later h.2⟩) ?_; (intro x; go_simp); simp only [Act.put, Array.setIfInBounds, List.size_toArray, List.length_cons, List.length_nil, Nat.reduceAdd, Nat.reduceLT, ↓reduceDIte, List.set_toArray, List.set_cons_succ, List.set_cons_zero]
    refine wpQuiet_plain rfl (fun K hK => ?_); go_simp; refine hK _ ?_; clear hK K
    refine wpQuiet_plain rfl (fun K hK => ?_); go_simp; refine hK _ ?_; clear hK K
    refine wpQuiet_plain rfl (fun K hK => ?_); go_simp; refine hK _ ?_; clear hK K
    refine wpQuiet_plain rfl (fun K hK => ?_); go_simp; refine hK _ ?_; clear hK K
    refine wpQuiet_plain rfl (fun K hK => ?_); go_simp; refine hK _ ?_; clear hK K
    refine wpQuiet_load rfl 3 (.tmp 81) rfl _ (.int .i64 c.a) rfl (fun y hy => load_num14 hy.cells.2.1) ?_; simp only [Act.put, Array.setIfInBounds, List.size_toArray, List.length_cons, List.length_nil, Nat.reduceAdd, Nat.reduceLT, ↓reduceDIte, List.set_toArray, List.set_cons_succ, List.set_cons_zero]
    refine wpQuiet_call rfl 15 #[.pointer (some ⟨gd, 0, none⟩), .int .i64 c.a] (.slice none 0 0) ?_ (fun y hC => (failN14 c.a hC.dir).mono fun e x' h => ⟨h.1, hC.later h.2⟩) ?_; (intro x; go_simp); simp only [Act.put, Array.setIfInBounds, List.size_toArray, List.length_cons, List.length_nil, Nat.reduceAdd, Nat.reduceLT, ↓reduceDIte, List.set_toArray, List.set_cons_succ, List.set_cons_zero]
    refine wpQuiet_plain rfl (fun K hK => ?_); go_simp; refine hK _ ?_; clear hK K
    refine wpQuiet_plain rfl (fun K hK => ?_); go_simp; refine hK _ ?_; clear hK K
    refine wpQuiet_plain rfl (fun K hK => ?_); go_simp; refine hK _ ?_; clear hK K
    refine wpQuiet_load rfl 3 (.tmp 86) rfl _ (.int .i64 c.a) rfl (fun y hy => load_num14 hy.cells.2.1) ?_; simp only [Act.put, Array.setIfInBounds, List.size_toArray, List.length_cons, List.length_nil, Nat.reduceAdd, Nat.reduceLT, ↓reduceDIte, List.set_toArray, List.set_cons_succ, List.set_cons_zero]
    refine wpQuiet_plain rfl (fun K hK => ?_); go_simp; refine hK _ ?_; clear hK K
    refine wpQuiet_load rfl 3 (.tmp 88) rfl _ (.int .i64 c.b) rfl (fun y hy => load_num14 hy.cells.2.2) ?_; simp only [Act.put, Array.setIfInBounds, List.size_toArray, List.length_cons, List.length_nil, Nat.reduceAdd, Nat.reduceLT, ↓reduceDIte, List.set_toArray, List.set_cons_succ, List.set_cons_zero]
    refine wpQuiet_call rfl 13 #[.pointer (some ⟨gd, 0, none⟩), .int .i64 c.a, .int .i64 c.b] (.slice none 0 0) ?_ (fun y hC => (ofN14 c.a c.b hC.dir).mono fun e x' h => ⟨h.1, hC.later h.2⟩) ?_; (intro x; go_simp); simp only [Act.put, Array.setIfInBounds, List.size_toArray, List.length_cons, List.length_nil, Nat.reduceAdd, Nat.reduceLT, ↓reduceDIte, List.set_toArray, List.set_cons_succ, List.set_cons_zero]
    refine wpQuiet_plain rfl (fun K hK => ?_); go_simp; refine hK _ ?_; clear hK K
    refine wpQuiet_plain rfl (fun K hK => ?_); go_simp; refine hK _ ?_; clear hK K
    refine wpQuiet_plain rfl (fun K hK => ?_); go_simp; refine hK _ ?_; clear hK K
    refine wpQuiet_plain rfl (fun K hK => ?_); go_simp; refine hK _ ?_; clear hK K
    refine wpQuiet_plain rfl (fun K hK => ?_); go_simp; refine hK _ ?_; clear hK K
    refine wpQuiet_nil ?_
    intro y hy
    have HY := hide hy
    clear hy HK
    go_wp2
    go_ret
    have hw0 : IntKind.i64.wrap 0 = 0 := by rw [IntKind.wrap_i64]; rfl
    exact ⟨by simp [hw0], HY.out.bel⟩
end Go.Proofs.Ytpbdachbefafiaa.ownerNil
