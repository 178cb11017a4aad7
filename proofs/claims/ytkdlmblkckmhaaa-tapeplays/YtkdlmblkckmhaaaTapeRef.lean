/-
  The contracts of quaysideref08's functions: the document's tape.
-/
import Derived.Test.YtkdlmblkckmhaaaTapeMath
import Derived.Test.YtkdlmblkckmhaaaPackMath
import Derived.Test.YtkdlmblkckmhaaaQuietIn
import Derived.Test.YtkdlmblkckmhaaaProg
import Derived.RegionTactic
import Derived.BigRegion
namespace Go.Proofs.Ytkdlmblkckmhaaa
open Go.RowKit
set_option linter.unusedVariables false

/-- The document's tape in its block. -/
def RtAt (w : World) (g : Nat) (t : Tp) : Prop := RowAt w g 38 #[.string t.b, .int .i64 (t.f : Int), .int .i64 (t.m : Int), .int .u64 (t.s : Int)]

theorem RtAt.drew {w : World} {g : Nat} {t : Tp} (h : RtAt w g t) : RtAt w.drew g t := h
theorem rt_two {w : World} {g : Nat} {t : Tp} (h : RtAt w g t) (b : ByteArray) (f : Int) (n : Nat) (hf : f = (n : Int)) : RtAt ((w.setCell ⟨g, 0, none⟩ (.string b)).setCell ⟨g, 1, none⟩ (.int .i64 f)) g ⟨b, n, t.m, t.s⟩ := by
  subst hf
  exact (RowAt.set h 0 _).set 1 _
theorem rt_three {w : World} {g : Nat} {t : Tp} (h : RtAt w g t) (b : ByteArray) (f s : Int) (n k : Nat) (hf : f = (n : Int)) (hs : s = (k : Int)) :
    RtAt (((w.setCell ⟨g, 0, none⟩ (.string b)).setCell ⟨g, 1, none⟩ (.int .i64 f)).setCell ⟨g, 3, none⟩ (.int .u64 s)) g ⟨b, n, t.m, k⟩ := by
  subst hf hs
  exact ((RowAt.set h 0 _).set 1 _).set 3 _
theorem rt_new (r x : Int) (w : World) (hx : x = max 0 (min r 65536)) : RtAt (w.alloc (.cells #[.string ⟨#[]⟩, .int .i64 0, .int .i64 x, .int .u64 0] 38)) w.heap.size (Tp.new r) := by
  have hm : x = ((Tp.new r).m : Int) := by
    rw [hx]
    unfold Tp.new
    simp only
    omega
  rw [hm]
  exact RowAt.new w 38 _

set_option maxRecDepth 4000 in
set_option maxHeartbeats 400000 in
theorem rnew8_any (r : Int) (w : World) :
    Calls Try.prog 12 #[.int .i64 r] w fun e w' => e = .returned (.pointer (some ⟨w.heap.size, 0, none⟩)) ∧ RtAt w' w.heap.size (Tp.new r) ∧ Below w.heap.size w w' := by
  go_enter Try.func12, Try.ntmps12
  go_wp2
  all_goals
    go_ret
    exact ⟨rfl, rt_new r _ w (by omega), (Below.refl w.heap.size w).alloc (Nat.le_refl _) _⟩

set_option maxRecDepth 4000 in
set_option maxHeartbeats 400000 in
theorem rsync8_any (g : Nat) (t : Tp) (w : World) (h : RtAt w g t) (ok : t.ok) :
    Calls Try.prog 25 #[.pointer (some ⟨g, 0, none⟩)] w fun e w' => e = .returned (.tuple #[]) ∧ RtAt w' g t.sync ∧ But g w w' := by
  have H := hide h
  have c0 := h.cell 0 _ rfl
  have f1 := h.free 1
  have c1 := h.cell 1 _ rfl
  have hz := ok.few
  have hy := ok.room
  clear h ok
  go_enter Try.func25, Try.ntmps25
  go_wp2
  go_end0
  exact ⟨rfl, H.out.set 1 _, (But.refl g w).set 1 _⟩

set_option maxRecDepth 4000 in
set_option maxHeartbeats 400000 in
theorem rcut8_no (g : Nat) (t : Tp) (n : Int) (w : World) (h : RtAt w g t) (hn : n < 0 ∨ (t.f : Int) < n) :
    Calls Try.prog 26 #[.pointer (some ⟨g, 0, none⟩), .int .i64 n] w fun e w' => e = .returned (.int .i64 1) ∧ RtAt w' g t ∧ But g w w' := by
  have H := hide h
  have c1 := h.cell 1 _ rfl
  clear h
  by_cases h1 : n < 0
  · clear hn
    go_enter Try.func26, Try.ntmps26
    go_wp2
    go_ret
    exact ⟨rfl, H.out, But.refl g w⟩
  · have h2 : (t.f : Int) < n := by omega
    clear hn
    go_enter Try.func26, Try.ntmps26
    go_wp2
    go_ret
    exact ⟨rfl, H.out, But.refl g w⟩

set_option maxRecDepth 4000 in
set_option maxHeartbeats 800000 in
theorem rcut8_yes (g : Nat) (t : Tp) (n : Nat) (w : World) (h : RtAt w g t) (ok : t.ok) (hn : n ≤ t.f) :
    Calls Try.prog 26 #[.pointer (some ⟨g, 0, none⟩), .int .i64 (n : Int)] w fun e w' => e = .returned (.int .i64 0) ∧ RtAt w' g ⟨t.b.extract n t.b.size, t.f - n, t.m, (t.s + n) % 18446744073709551616⟩ ∧ But g w w' := by
  have H := hide h
  have c0 := h.cell 0 _ rfl
  have c1 := h.cell 1 _ rfl
  have c3 := h.cell 3 _ rfl
  have f0 := h.free 0
  have f1 := h.free 1
  have f3 := h.free 3
  have hz := ok.few
  have hy := ok.room
  have hx := ok.fast
  have hs := ok.went
  have h1 : ¬ (n : Int) < 0 := by omega
  have h2 : ¬ (t.f : Int) < (n : Int) := by omega
  clear h ok
  go_enter Try.func26, Try.ntmps26
  go_wp2
  go_ret
  exact ⟨rfl, rt_three H.out _ _ _ _ _ (by omega) (by rw [IntKind.wrap_u64]; omega), (((But.refl g w).set 0 _).set 1 _).set 3 _⟩

set_option maxRecDepth 4000 in
set_option maxHeartbeats 800000 in
theorem rchop8_no (g : Nat) (t : Tp) (n : Int) (w : World) (h : RtAt w g t) (hn : n < 0 ∨ (t.b.size : Int) < n) :
    Calls Try.prog 27 #[.pointer (some ⟨g, 0, none⟩), .int .i64 n] w fun e w' => e = .returned (.int .i64 1) ∧ RtAt w' g t ∧ But g w w' := by
  have H := hide h
  have c0 := h.cell 0 _ rfl
  clear h
  by_cases h1 : n < 0
  · clear hn
    go_enter Try.func27, Try.ntmps27
    go_wp2
    go_ret
    exact ⟨rfl, H.out, But.refl g w⟩
  · have h2 : (t.b.size : Int) < n := by omega
    clear hn
    go_enter Try.func27, Try.ntmps27
    go_wp2
    go_ret
    exact ⟨rfl, H.out, But.refl g w⟩

set_option maxRecDepth 4000 in
set_option maxHeartbeats 800000 in
theorem rchop8_yes (g : Nat) (t : Tp) (n : Nat) (w : World) (h : RtAt w g t) (ok : t.ok) (hn : n ≤ t.b.size) :
    Calls Try.prog 27 #[.pointer (some ⟨g, 0, none⟩), .int .i64 (n : Int)] w fun e w' => e = .returned (.int .i64 0) ∧ RtAt w' g ⟨t.b.extract 0 n, min t.f n, t.m, t.s⟩ ∧ But g w w' := by
  have H := hide h
  have c0 := h.cell 0 _ rfl
  have c1 := h.cell 1 _ rfl
  have f0 := h.free 0
  have f1 := h.free 1
  have hz := ok.few
  have hy := ok.room
  have hx := ok.fast
  have h1 : ¬ (n : Int) < 0 := by omega
  have h2 : ¬ (t.b.size : Int) < (n : Int) := by omega
  clear h ok
  go_enter Try.func27, Try.ntmps27
  go_wp2
  all_goals
    go_ret
    exact ⟨rfl, rt_two H.out _ _ _ (by omega), ((But.refl g w).set 0 _).set 1 _⟩

theorem load8_s {b j : Nat} (x : World) (v : ByteArray) (h : x.cell? ⟨b, j, none⟩ = some (.string v)) : (Instr.loadAt 9 (.pointer (some ⟨b, j, none⟩))).run Try.prog x = .ok (.string v) x := by
  go_simp
theorem load8_i {b j : Nat} (x : World) (v : Int) (h : x.cell? ⟨b, j, none⟩ = some (.int .i64 v)) : (Instr.loadAt 3 (.pointer (some ⟨b, j, none⟩))).run Try.prog x = .ok (.int .i64 v) x := by
  go_simp

set_option maxRecDepth 4000 in
set_option maxHeartbeats 800000 in
theorem rapp8_no (g : Nat) (t : Tp) (s : ByteArray) (w : World) (h : RtAt w g t) (ok : t.ok) (hn : t.m < t.b.size + s.size) (hs : s.size ≤ 70000) :
    Calls Try.prog 24 #[.pointer (some ⟨g, 0, none⟩), .string s] w fun e w' => e = .returned (.int .i64 7) ∧ RtAt w' g t ∧ But g w w' := by
  have H := hide h
  have hz := ok.few
  have hy := ok.room
  have h1 : (t.m : Int) - (t.b.size : Int) < (s.size : Int) := by omega
  have ew : IntKind.i64.wrap ((t.m : Int) - (t.b.size : Int)) = (t.m : Int) - (t.b.size : Int) := by rw [IntKind.wrap_i64]; omega
  clear h ok
  go_enter Try.func24, Try.ntmps24
  go_wp2_with fail
  refine wp_region_in (fun x => RtAt x g t ∧ But g w x) (by kernel_rfl) (by kernel_rfl) ⟨H.out.drew, (But.refl g w).drew⟩ ?_
  repeat (first
    | go_big_quiet_skip
    | (refine wpQuiet_load rfl 3 (.tmp 9) rfl _ (.int .i64 (t.m : Int)) rfl (fun y hy => load8_i y _ (hy.1.cell 2 _ rfl)) ?_; simp only [Act.put, Array.setIfInBounds, List.size_toArray, List.length_cons, List.length_nil, Nat.reduceAdd, Nat.reduceLT, ↓reduceDIte, List.set_toArray, List.set_cons_succ, List.set_cons_zero])
    | (refine wpQuiet_load rfl 9 (.tmp 13) rfl _ (.string t.b) rfl (fun y hy => load8_s y _ (hy.1.cell 0 _ rfl)) ?_; simp only [Act.put, Array.setIfInBounds, List.size_toArray, List.length_cons, List.length_nil, Nat.reduceAdd, Nat.reduceLT, ↓reduceDIte, List.set_toArray, List.set_cons_succ, List.set_cons_zero])
    | (refine wpQuiet_plain rfl (fun K hK => ?_); go_simp; (try simp only [ew]); refine hK _ ?_; clear hK K))
  refine wpQuiet_nil ?_
  intro x hx
  have HX := hide hx
  clear hx
  go_wp2
  go_ret
  exact ⟨rfl, HX.out⟩
set_option maxRecDepth 4000 in
set_option maxHeartbeats 800000 in
theorem rapp8_yes (g : Nat) (t : Tp) (s : ByteArray) (w : World) (h : RtAt w g t) (ok : t.ok) (hn : ¬ t.m < t.b.size + s.size) :
    Calls Try.prog 24 #[.pointer (some ⟨g, 0, none⟩), .string s] w fun e w' => e = .returned (.int .i64 0) ∧ RtAt w' g { t with b := t.b ++ s } ∧ But g w w' := by
  have H := hide h
  have hz := ok.few
  have hy := ok.room
  have h1 : ¬ (t.m : Int) - (t.b.size : Int) < (s.size : Int) := by omega
  have ew : IntKind.i64.wrap ((t.m : Int) - (t.b.size : Int)) = (t.m : Int) - (t.b.size : Int) := by rw [IntKind.wrap_i64]; omega
  clear h ok
  go_enter Try.func24, Try.ntmps24
  go_wp2_with fail
  refine wp_region_in (fun x => RtAt x g t ∧ But g w x) (by kernel_rfl) (by kernel_rfl) ⟨H.out.drew, (But.refl g w).drew⟩ ?_
  repeat (first
    | go_big_quiet_skip
    | (refine wpQuiet_load rfl 3 (.tmp 9) rfl _ (.int .i64 (t.m : Int)) rfl (fun y hy => load8_i y _ (hy.1.cell 2 _ rfl)) ?_; simp only [Act.put, Array.setIfInBounds, List.size_toArray, List.length_cons, List.length_nil, Nat.reduceAdd, Nat.reduceLT, ↓reduceDIte, List.set_toArray, List.set_cons_succ, List.set_cons_zero])
    | (refine wpQuiet_load rfl 9 (.tmp 13) rfl _ (.string t.b) rfl (fun y hy => load8_s y _ (hy.1.cell 0 _ rfl)) ?_; simp only [Act.put, Array.setIfInBounds, List.size_toArray, List.length_cons, List.length_nil, Nat.reduceAdd, Nat.reduceLT, ↓reduceDIte, List.set_toArray, List.set_cons_succ, List.set_cons_zero])
    | (refine wpQuiet_plain rfl (fun K hK => ?_); go_simp; (try simp only [ew]); refine hK _ ?_; clear hK K))
  refine wpQuiet_nil ?_
  intro x hx
  have HX := hide hx
  have c0 := hx.1.cell 0 (.string t.b) rfl
  have f0 := hx.1.free 0
  clear hx
  go_wp2
  go_ret
  exact ⟨rfl, RowAt.set HX.out.1 0 _, HX.out.2.set 0 _⟩

set_option maxRecDepth 4000 in
set_option maxHeartbeats 1600000 in
theorem rcrash8_all (g : Nat) (t : Tp) (r : Nat) (k : Int) (w : World) (h : RtAt w g t) (ok : t.ok) (hr : t.b.size = t.f + r) (h1 : (r : Int) < k) (h0 : 0 < r) :
    Calls Try.prog 28 #[.pointer (some ⟨g, 0, none⟩), .int .i64 k] w fun e w' => e = .returned (.tuple #[]) ∧ RtAt w' g ⟨t.b.extract 0 (t.f + r), t.f + r, t.m, t.s⟩ ∧ But g w w' := by
  have H := hide h
  have hz := ok.few
  have hy := ok.room
  have hx := ok.fast
  have hlm : t.f + r ≤ t.b.size := by omega
  have ew : IntKind.i64.wrap ((t.b.size : Int) - (t.f : Int)) = (r : Int) := by rw [IntKind.wrap_i64]; omega
  have h2 : (0 : Int) < (r : Int) := by omega
  have e1 : IntKind.i64.wrap ((t.f : Int) + (r : Int)) = (t.f : Int) + (r : Int) := by rw [IntKind.wrap_i64]; omega
  have e2 : (0 : Int) ≤ (t.f : Int) + (r : Int) := by omega
  have e3 : (t.f : Int) + (r : Int) ≤ (t.b.size : Int) := by omega
  clear h ok
  have HR := hide hr
  clear hr
  go_enter Try.func28, Try.ntmps28
  go_wp2_with fail
  refine wp_region_in (fun x => RtAt x g t ∧ But g w x) (by kernel_rfl) (by kernel_rfl) ⟨H.out.drew, (But.refl g w).drew⟩ ?_
  repeat (first
    | go_big_quiet_skip
    | (refine wpQuiet_load rfl 3 (.tmp 12) rfl _ (.int .i64 (t.f : Int)) rfl (fun y hy => load8_i y _ (hy.1.cell 1 _ rfl)) ?_; simp only [Act.put, Array.setIfInBounds, List.size_toArray, List.length_cons, List.length_nil, Nat.reduceAdd, Nat.reduceLT, ↓reduceDIte, List.set_toArray, List.set_cons_succ, List.set_cons_zero])
    | (refine wpQuiet_load rfl 9 (.tmp 7) rfl _ (.string t.b) rfl (fun y hy => load8_s y _ (hy.1.cell 0 _ rfl)) ?_; simp only [Act.put, Array.setIfInBounds, List.size_toArray, List.length_cons, List.length_nil, Nat.reduceAdd, Nat.reduceLT, ↓reduceDIte, List.set_toArray, List.set_cons_succ, List.set_cons_zero])
    | (refine wpQuiet_plain rfl (fun K hK => ?_); go_simp; (try simp only [ew]); refine hK _ ?_; clear hK K))
  refine wpQuiet_nil ?_
  intro x hx
  have HX := hide hx
  have c0 := hx.1.cell 0 (.string t.b) rfl
  have c1 := hx.1.cell 1 (.int .i64 (t.f : Int)) rfl
  have f0 := hx.1.free 0
  have f1 := hx.1.free 1
  clear hx
  go_wp2_with fail
  go_region
  go_wp2
  go_end0
  exact ⟨rfl, rt_two HX.out.1.drew _ _ _ (by omega), (HX.out.2.drew.set 0 _).set 1 _⟩

set_option maxRecDepth 4000 in
set_option maxHeartbeats 1600000 in
theorem rcrash8_some (g : Nat) (t : Tp) (r n : Nat) (w : World) (h : RtAt w g t) (ok : t.ok) (hr : t.b.size = t.f + r) (hn : n ≤ r) (h0 : 0 < n) :
    Calls Try.prog 28 #[.pointer (some ⟨g, 0, none⟩), .int .i64 (n : Int)] w fun e w' => e = .returned (.tuple #[]) ∧ RtAt w' g ⟨t.b.extract 0 (t.f + n), t.f + n, t.m, t.s⟩ ∧ But g w w' := by
  have H := hide h
  have hz := ok.few
  have hy := ok.room
  have hx := ok.fast
  have hlm : t.f + n ≤ t.b.size := by omega
  have ew : IntKind.i64.wrap ((t.b.size : Int) - (t.f : Int)) = (r : Int) := by rw [IntKind.wrap_i64]; omega
  have h1 : ¬ (r : Int) < (n : Int) := by omega
  have h2 : (0 : Int) < (n : Int) := by omega
  have e1 : IntKind.i64.wrap ((t.f : Int) + (n : Int)) = (t.f : Int) + (n : Int) := by rw [IntKind.wrap_i64]; omega
  have e2 : (0 : Int) ≤ (t.f : Int) + (n : Int) := by omega
  have e3 : (t.f : Int) + (n : Int) ≤ (t.b.size : Int) := by omega
  clear h ok
  have HR := hide hr
  clear hr
  go_enter Try.func28, Try.ntmps28
  go_wp2_with fail
  refine wp_region_in (fun x => RtAt x g t ∧ But g w x) (by kernel_rfl) (by kernel_rfl) ⟨H.out.drew, (But.refl g w).drew⟩ ?_
  repeat (first
    | go_big_quiet_skip
    | (refine wpQuiet_load rfl 3 (.tmp 12) rfl _ (.int .i64 (t.f : Int)) rfl (fun y hy => load8_i y _ (hy.1.cell 1 _ rfl)) ?_; simp only [Act.put, Array.setIfInBounds, List.size_toArray, List.length_cons, List.length_nil, Nat.reduceAdd, Nat.reduceLT, ↓reduceDIte, List.set_toArray, List.set_cons_succ, List.set_cons_zero])
    | (refine wpQuiet_load rfl 9 (.tmp 7) rfl _ (.string t.b) rfl (fun y hy => load8_s y _ (hy.1.cell 0 _ rfl)) ?_; simp only [Act.put, Array.setIfInBounds, List.size_toArray, List.length_cons, List.length_nil, Nat.reduceAdd, Nat.reduceLT, ↓reduceDIte, List.set_toArray, List.set_cons_succ, List.set_cons_zero])
    | (refine wpQuiet_plain rfl (fun K hK => ?_); go_simp; (try simp only [ew]); refine hK _ ?_; clear hK K))
  refine wpQuiet_nil ?_
  intro x hx
  have HX := hide hx
  have c0 := hx.1.cell 0 (.string t.b) rfl
  have c1 := hx.1.cell 1 (.int .i64 (t.f : Int)) rfl
  have f0 := hx.1.free 0
  have f1 := hx.1.free 1
  clear hx
  go_wp2_with fail
  go_region
  go_wp2
  go_end0
  exact ⟨rfl, rt_two HX.out.1.drew _ _ _ (by omega), (HX.out.2.drew.set 0 _).set 1 _⟩

set_option maxRecDepth 4000 in
set_option maxHeartbeats 1600000 in
theorem rcrash8_none (g : Nat) (t : Tp) (r : Nat) (k : Int) (w : World) (h : RtAt w g t) (ok : t.ok) (hr : t.b.size = t.f + r) (hk : k ≤ 0) :
    Calls Try.prog 28 #[.pointer (some ⟨g, 0, none⟩), .int .i64 k] w fun e w' => e = .returned (.tuple #[]) ∧ RtAt w' g ⟨t.b.extract 0 (t.f), t.f, t.m, t.s⟩ ∧ But g w w' := by
  have H := hide h
  have hz := ok.few
  have hy := ok.room
  have hx := ok.fast
  have hlm : t.f ≤ t.b.size := by omega
  have ew : IntKind.i64.wrap ((t.b.size : Int) - (t.f : Int)) = (r : Int) := by rw [IntKind.wrap_i64]; omega
  have h1 : ¬ (r : Int) < k := by omega
  have h2 : ¬ (0 : Int) < k := by omega
  have e1 : IntKind.i64.wrap (t.f : Int) = (t.f : Int) := by rw [IntKind.wrap_i64]; omega
  have e2 : (0 : Int) ≤ (t.f : Int) := by omega
  have e3 : (t.f : Int) ≤ (t.b.size : Int) := by omega
  clear h ok
  have HR := hide hr
  clear hr
  go_enter Try.func28, Try.ntmps28
  go_wp2_with fail
  refine wp_region_in (fun x => RtAt x g t ∧ But g w x) (by kernel_rfl) (by kernel_rfl) ⟨H.out.drew, (But.refl g w).drew⟩ ?_
  repeat (first
    | go_big_quiet_skip
    | (refine wpQuiet_load rfl 3 (.tmp 12) rfl _ (.int .i64 (t.f : Int)) rfl (fun y hy => load8_i y _ (hy.1.cell 1 _ rfl)) ?_; simp only [Act.put, Array.setIfInBounds, List.size_toArray, List.length_cons, List.length_nil, Nat.reduceAdd, Nat.reduceLT, ↓reduceDIte, List.set_toArray, List.set_cons_succ, List.set_cons_zero])
    | (refine wpQuiet_load rfl 9 (.tmp 7) rfl _ (.string t.b) rfl (fun y hy => load8_s y _ (hy.1.cell 0 _ rfl)) ?_; simp only [Act.put, Array.setIfInBounds, List.size_toArray, List.length_cons, List.length_nil, Nat.reduceAdd, Nat.reduceLT, ↓reduceDIte, List.set_toArray, List.set_cons_succ, List.set_cons_zero])
    | (refine wpQuiet_plain rfl (fun K hK => ?_); go_simp; (try simp only [ew]); refine hK _ ?_; clear hK K))
  refine wpQuiet_nil ?_
  intro x hx
  have HX := hide hx
  have c0 := hx.1.cell 0 (.string t.b) rfl
  have c1 := hx.1.cell 1 (.int .i64 (t.f : Int)) rfl
  have f0 := hx.1.free 0
  have f1 := hx.1.free 1
  clear hx
  go_wp2_with fail
  go_region
  go_wp2
  go_end0
  exact ⟨rfl, rt_two HX.out.1.drew _ _ _ (by omega), (HX.out.2.drew.set 0 _).set 1 _⟩

set_option maxRecDepth 4000 in
set_option maxHeartbeats 1600000 in
theorem rcrash8_same (g : Nat) (t : Tp) (k : Int) (w : World) (h : RtAt w g t) (ok : t.ok) (hr : t.b.size = t.f) (h1 : (0 : Int) < k) :
    Calls Try.prog 28 #[.pointer (some ⟨g, 0, none⟩), .int .i64 k] w fun e w' => e = .returned (.tuple #[]) ∧ RtAt w' g ⟨t.b.extract 0 (t.f), t.f, t.m, t.s⟩ ∧ But g w w' := by
  have H := hide h
  have hz := ok.few
  have hy := ok.room
  have hx := ok.fast
  have hlm : t.f ≤ t.b.size := by omega
  have ew : IntKind.i64.wrap ((t.b.size : Int) - (t.f : Int)) = 0 := by rw [IntKind.wrap_i64]; omega
  have e1 : IntKind.i64.wrap (t.f : Int) = (t.f : Int) := by rw [IntKind.wrap_i64]; omega
  have e2 : (0 : Int) ≤ (t.f : Int) := by omega
  have e3 : (t.f : Int) ≤ (t.b.size : Int) := by omega
  clear h ok
  have HR := hide hr
  clear hr
  go_enter Try.func28, Try.ntmps28
  go_wp2_with fail
  refine wp_region_in (fun x => RtAt x g t ∧ But g w x) (by kernel_rfl) (by kernel_rfl) ⟨H.out.drew, (But.refl g w).drew⟩ ?_
  repeat (first
    | go_big_quiet_skip
    | (refine wpQuiet_load rfl 3 (.tmp 12) rfl _ (.int .i64 (t.f : Int)) rfl (fun y hy => load8_i y _ (hy.1.cell 1 _ rfl)) ?_; simp only [Act.put, Array.setIfInBounds, List.size_toArray, List.length_cons, List.length_nil, Nat.reduceAdd, Nat.reduceLT, ↓reduceDIte, List.set_toArray, List.set_cons_succ, List.set_cons_zero])
    | (refine wpQuiet_load rfl 9 (.tmp 7) rfl _ (.string t.b) rfl (fun y hy => load8_s y _ (hy.1.cell 0 _ rfl)) ?_; simp only [Act.put, Array.setIfInBounds, List.size_toArray, List.length_cons, List.length_nil, Nat.reduceAdd, Nat.reduceLT, ↓reduceDIte, List.set_toArray, List.set_cons_succ, List.set_cons_zero])
    | (refine wpQuiet_plain rfl (fun K hK => ?_); go_simp; (try simp only [ew]); refine hK _ ?_; clear hK K))
  refine wpQuiet_nil ?_
  intro x hx
  have HX := hide hx
  have c0 := hx.1.cell 0 (.string t.b) rfl
  have c1 := hx.1.cell 1 (.int .i64 (t.f : Int)) rfl
  have f0 := hx.1.free 0
  have f1 := hx.1.free 1
  clear hx
  go_wp2_with fail
  go_region
  go_wp2
  go_end0
  exact ⟨rfl, rt_two HX.out.1.drew _ _ _ (by omega), (HX.out.2.drew.set 0 _).set 1 _⟩

/-! ### The contracts -/
theorem rapp8_any (g : Nat) (t : Tp) (s : ByteArray) (w : World) (h : RtAt w g t) (ok : t.ok) (hs : s.size ≤ 70000) :
    Calls Try.prog 24 #[.pointer (some ⟨g, 0, none⟩), .string s] w fun e w' => e = .returned (.int .i64 (t.app s).2) ∧ RtAt w' g (t.app s).1 ∧ But g w w' := by
  unfold Tp.app
  by_cases hn : t.m < t.b.size + s.size
  · rw [if_pos hn]
    exact rapp8_no g t s w h ok hn hs
  · rw [if_neg hn]
    exact rapp8_yes g t s w h ok hn
theorem rcut8_any (g : Nat) (t : Tp) (n : Int) (w : World) (h : RtAt w g t) (ok : t.ok) :
    Calls Try.prog 26 #[.pointer (some ⟨g, 0, none⟩), .int .i64 n] w fun e w' => e = .returned (.int .i64 (t.cut n).2) ∧ RtAt w' g (t.cut n).1 ∧ But g w w' := by
  unfold Tp.cut
  by_cases hn : n < 0 ∨ (t.f : Int) < n
  · rw [if_pos hn]
    exact rcut8_no g t n w h hn
  · rw [if_neg hn]
    obtain ⟨m, rfl⟩ := Int.eq_ofNat_of_zero_le (show 0 ≤ n by omega)
    exact rcut8_yes g t m w h ok (by omega)
theorem rchop8_any (g : Nat) (t : Tp) (n : Int) (w : World) (h : RtAt w g t) (ok : t.ok) :
    Calls Try.prog 27 #[.pointer (some ⟨g, 0, none⟩), .int .i64 n] w fun e w' => e = .returned (.int .i64 (t.chop n).2) ∧ RtAt w' g (t.chop n).1 ∧ But g w w' := by
  unfold Tp.chop
  by_cases hn : n < 0 ∨ (t.b.size : Int) < n
  · rw [if_pos hn]
    exact rchop8_no g t n w h hn
  · rw [if_neg hn]
    obtain ⟨m, rfl⟩ := Int.eq_ofNat_of_zero_le (show 0 ≤ n by omega)
    exact rchop8_yes g t m w h ok (by omega)
theorem rcrash8_any (g : Nat) (t : Tp) (k : Int) (w : World) (h : RtAt w g t) (ok : t.ok) :
    Calls Try.prog 28 #[.pointer (some ⟨g, 0, none⟩), .int .i64 k] w fun e w' => e = .returned (.tuple #[]) ∧ RtAt w' g (t.crash k) ∧ But g w w' := by
  have hx := ok.fast
  obtain ⟨r, hr⟩ : ∃ r, t.b.size = t.f + r := ⟨t.b.size - t.f, by omega⟩
  unfold Tp.crash
  by_cases h0 : k ≤ 0
  · have e : t.left k = t.f := by unfold Tp.left; omega
    rw [e]
    exact rcrash8_none g t r k w h ok hr h0
  by_cases h1 : (r : Int) < k
  · by_cases h2 : 0 < r
    · have e : t.left k = t.f + r := by unfold Tp.left; omega
      rw [e]
      exact rcrash8_all g t r k w h ok hr h1 h2
    · have e : t.left k = t.f := by unfold Tp.left; omega
      rw [e]
      exact rcrash8_same g t k w h ok (by omega) (by omega)
  · obtain ⟨n, rfl⟩ := Int.eq_ofNat_of_zero_le (show 0 ≤ k by omega)
    have e : t.left (n : Int) = t.f + n := by unfold Tp.left; omega
    rw [e]
    exact rcrash8_some g t r n w h ok hr (by omega) (by omega)
end Go.Proofs.Ytkdlmblkckmhaaa
