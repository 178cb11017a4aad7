/-
  Texts that lean on one another, one behind the other: each opens with its own remark.
-/
import Derived.Test.YtkmlgfmpcglfeaaProg
import Derived.Test.YtkmlgfmpcglfeaaRows
import Derived.Test.YtkmlgfmpcglfeaaK00

/-
  The contract of quaysidelaw08.does: crash.
-/
namespace Go.Proofs.Ytkmlgfmpcglfeaa
open Go.RowKit
set_option linter.unusedVariables false

set_option maxRecDepth 4000 in
set_option maxHeartbeats 3200000 in
theorem does_crash (gt gr B : Nat) (TA : World → Tp → Prop) (C : Hid (Cd gt gr B TA)) (t : Tp) (n : Int) (b : ByteArray) (w : World) (hB : B ≤ w.heap.size) (hg : B ≤ gr) (ht : TA w t) (hr : RtAt w gr t) (ok : t.ok) (hn : (Lit.int .i64 n).wf = true) (hb : b.size ≤ 65537) :
    Calls Try.prog 13 #[.pointer (some ⟨gt, 0, none⟩), .pointer (some ⟨gr, 0, none⟩), .agg #[.int .i64 5, .int .i64 n, .string b]] w fun e w' => e = .returned (.bool true) ∧ TA w' (t.crash n) ∧ RtAt w' gr (t.crash n) ∧ Below B w w' := by
  have HN := hide hn
  have hbx : Below w.heap.size w (w.alloc (.cells #[.int .i64 5, .int .i64 n, .string b] 35)) := (Below.refl _ _).alloc (Nat.le_refl _) _
  have H0 := hide (And.intro (C.out.fresh _ _ _ ht hbx) (And.intro (hr.later hbx) (And.intro (hbx.mono hB) (RowAt.new w 35 #[.int .i64 5, .int .i64 n, .string b]))))
  have HOK := hide (t.crash_ok ok n)
  have HOK0 := hide ok
  have HG := hide hg
  have HSZ := hide hbx.size
  have hcv := fun w => Lib.run_convert_string_bytes (P := Try.prog) w 9 29 5 b Try.underlying9 Try.underlying29 Try.underlying5
  clear hbx ht hr ok hg hn
  obtain ⟨u, hq⟩ : ∃ u, t.crash n = u := ⟨_, rfl⟩
  rw [hq] at HOK ⊢
  have HQ := hide hq
  clear hq
  go_enter Try.func13, Try.ntmps13
  go_wp2_with fail
  refine gen_calls (fun y => Hid (TA y t ∧ RtAt y gr t ∧ Below B w y ∧ RowAt y w.heap.size 35 #[.int .i64 5, .int .i64 n, .string b])) H0 ?_
  clear H0 hcv HSZ
  intro y H0
  refine (C.out.crash y t n H0.out.1 HOK0.out HN.out).mono ?_
  rintro e w1 ⟨rfl, ht1, hk1⟩
  have e1 := HQ.out
  rw [e1] at ht1
  have hr1 := hk1.rt H0.out.2.1
  have hx1 := hk1.rows _ _ _ (by decide) (by decide) H0.out.2.2.2
  have H1 := hide (And.intro ht1 (And.intro hr1 (H0.out.2.2.1.trans hk1.below)))
  have c1 := hx1.cell 1 (.int .i64 n) rfl
  clear ht1 hk1 hr1 hx1 H0
  go_wp2_with fail
  refine (rcrash8_any gr t n w1 H1.out.2.1 HOK0.out).mono ?_
  rintro e w2 ⟨rfl, hr2, hbt⟩
  rw [e1] at hr2
  have HT := hide (C.out.other _ _ _ _ H1.out.1 H1.out.2.1 hbt)
  have HR := hide hr2
  have HB := hide (H1.out.2.2.trans (hbt.below HG.out (Nat.le_trans hB H1.out.2.2.size)))
  clear hr2 hbt H1 c1 HN HOK0 HG HQ e1
  go_wp2_with fail
  refine wp_region_in (fun x => TA x u ∧ RtAt x gr u ∧ Below B w x) (by kernel_rfl) (by kernel_rfl) ⟨C.out.drew _ _ HT.out, HR.out.drew, ⟨HB.out.1, HB.out.2, HB.out.3, HB.out.4, HB.out.5⟩⟩ ?_
  repeat (first
    | go_big_quiet_skip
    | (refine wpQuiet_load rfl 9 (.tmp 66) rfl _ (.string u.b) rfl (fun y hy => load8_s y _ (hy.2.1.cell 0 _ rfl)) ?_; simp only [Act.put, Array.setIfInBounds, List.size_toArray, List.length_cons, List.length_nil, Nat.reduceAdd, Nat.reduceLT, ↓reduceDIte, List.set_toArray, List.set_cons_succ, List.set_cons_zero])
    | (refine wpQuiet_load rfl 3 (.tmp 76) rfl _ (.int .i64 (u.f : Int)) rfl (fun y hy => load8_i y _ (hy.2.1.cell 1 _ rfl)) ?_; simp only [Act.put, Array.setIfInBounds, List.size_toArray, List.length_cons, List.length_nil, Nat.reduceAdd, Nat.reduceLT, ↓reduceDIte, List.set_toArray, List.set_cons_succ, List.set_cons_zero])
    | (refine wpQuiet_load rfl 30 (.tmp 85) rfl _ (.int .u64 (u.s : Int)) rfl (fun y hy => load8_u y _ (hy.2.1.cell 3 _ rfl)) ?_; simp only [Act.put, Array.setIfInBounds, List.size_toArray, List.length_cons, List.length_nil, Nat.reduceAdd, Nat.reduceLT, ↓reduceDIte, List.set_toArray, List.set_cons_succ, List.set_cons_zero])
    | (refine wpQuiet_load rfl 3 (.tmp 94) rfl _ (.int .i64 (u.m : Int)) rfl (fun y hy => load8_i y _ (hy.2.1.cell 2 _ rfl)) ?_; simp only [Act.put, Array.setIfInBounds, List.size_toArray, List.length_cons, List.length_nil, Nat.reduceAdd, Nat.reduceLT, ↓reduceDIte, List.set_toArray, List.set_cons_succ, List.set_cons_zero])
    | (refine wpQuiet_call rfl 15 #[.pointer (some ⟨gt, 0, none⟩)] (.int .i64 (u.b.size : Int)) ?_ (fun x hC => (C.out.len x u hC.1 HOK.out).mono fun e x' h => ⟨h.1, h.2.1, h.2.2.rt hC.2.1, hC.2.2.trans h.2.2.below⟩) ?_; (intro x; go_simp); simp only [Act.put, Array.setIfInBounds, List.size_toArray, List.length_cons, List.length_nil, Nat.reduceAdd, Nat.reduceLT, ↓reduceDIte, List.set_toArray, List.set_cons_succ, List.set_cons_zero])
    | (refine wpQuiet_call rfl 18 #[.pointer (some ⟨gt, 0, none⟩)] (.int .i64 (u.f : Int)) ?_ (fun x hC => (C.out.synced x u hC.1 HOK.out).mono fun e x' h => ⟨h.1, h.2.1, h.2.2.rt hC.2.1, hC.2.2.trans h.2.2.below⟩) ?_; (intro x; go_simp); simp only [Act.put, Array.setIfInBounds, List.size_toArray, List.length_cons, List.length_nil, Nat.reduceAdd, Nat.reduceLT, ↓reduceDIte, List.set_toArray, List.set_cons_succ, List.set_cons_zero])
    | (refine wpQuiet_call rfl 22 #[.pointer (some ⟨gt, 0, none⟩)] (.int .u64 (u.s : Int)) ?_ (fun x hC => (C.out.start x u hC.1 HOK.out).mono fun e x' h => ⟨h.1, h.2.1, h.2.2.rt hC.2.1, hC.2.2.trans h.2.2.below⟩) ?_; (intro x; go_simp); simp only [Act.put, Array.setIfInBounds, List.size_toArray, List.length_cons, List.length_nil, Nat.reduceAdd, Nat.reduceLT, ↓reduceDIte, List.set_toArray, List.set_cons_succ, List.set_cons_zero])
    | (refine wpQuiet_call rfl 23 #[.pointer (some ⟨gt, 0, none⟩)] (.int .i64 (u.m : Int)) ?_ (fun x hC => (C.out.room x u hC.1 HOK.out).mono fun e x' h => ⟨h.1, h.2.1, h.2.2.rt hC.2.1, hC.2.2.trans h.2.2.below⟩) ?_; (intro x; go_simp); simp only [Act.put, Array.setIfInBounds, List.size_toArray, List.length_cons, List.length_nil, Nat.reduceAdd, Nat.reduceLT, ↓reduceDIte, List.set_toArray, List.set_cons_succ, List.set_cons_zero])
    | (refine wpQuiet_plain rfl (fun K hK => ?_); go_simp; (try simp only [beq_self_eq_true]); refine hK _ ?_; clear hK K))
  refine wpQuiet_nil ?_
  intro x hx
  have HX := hide hx
  clear hx HT HR HB C HOK
  go_wp2
  go_ret
  exact ⟨rfl, HX.out⟩
end Go.Proofs.Ytkmlgfmpcglfeaa

/-
  The contract of quaysidelaw08.does: look.
-/
namespace Go.Proofs.Ytkmlgfmpcglfeaa
open Go.RowKit
set_option linter.unusedVariables false

set_option maxRecDepth 4000 in
set_option maxHeartbeats 3200000 in
theorem does_look (gt gr B : Nat) (TA : World → Tp → Prop) (C : Hid (Cd gt gr B TA)) (t : Tp) (k n : Int) (b : ByteArray) (w : World) (hB : B ≤ w.heap.size) (hg : B ≤ gr) (ht : TA w t) (hr : RtAt w gr t) (ok : t.ok) (hn : (Lit.int .i64 n).wf = true) (hb : b.size ≤ 65537) (k1 : (k == 1) = false) (k2 : (k == 2) = false) (k3 : (k == 3) = false) (k4 : (k == 4) = false) (k5 : (k == 5) = false) :
    Calls Try.prog 13 #[.pointer (some ⟨gt, 0, none⟩), .pointer (some ⟨gr, 0, none⟩), .agg #[.int .i64 k, .int .i64 n, .string b]] w fun e w' => e = .returned (.bool true) ∧ TA w' t ∧ RtAt w' gr t ∧ Below B w w' := by
  have HN := hide hn
  have hbx : Below w.heap.size w (w.alloc (.cells #[.int .i64 k, .int .i64 n, .string b] 35)) := (Below.refl _ _).alloc (Nat.le_refl _) _
  have H0 := hide (And.intro (C.out.fresh _ _ _ ht hbx) (And.intro (hr.later hbx) (And.intro (hbx.mono hB) (RowAt.new w 35 #[.int .i64 k, .int .i64 n, .string b]))))
  have HOK := hide ok
  have HOK0 := hide ok
  have HG := hide hg
  have HSZ := hide hbx.size
  have hcv := fun w => Lib.run_convert_string_bytes (P := Try.prog) w 9 29 5 b Try.underlying9 Try.underlying29 Try.underlying5
  clear hbx ht hr ok hg hn
  obtain ⟨u, hu⟩ : ∃ u, u = t := ⟨_, rfl⟩
  subst hu
  go_enter Try.func13, Try.ntmps13
  have HT := hide H0.out.1
  have HR : Hid (RtAt _ gr u) := hide H0.out.2.1
  have HB := hide H0.out.2.2.1
  clear H0 HN HOK0 HG hcv HSZ
  go_wp2_with fail
  refine wp_region_in (fun x => TA x u ∧ RtAt x gr u ∧ Below B w x) (by kernel_rfl) (by kernel_rfl) ⟨C.out.drew _ _ HT.out, HR.out.drew, ⟨HB.out.1, HB.out.2, HB.out.3, HB.out.4, HB.out.5⟩⟩ ?_
  repeat (first
    | go_big_quiet_skip
    | (refine wpQuiet_load rfl 9 (.tmp 66) rfl _ (.string u.b) rfl (fun y hy => load8_s y _ (hy.2.1.cell 0 _ rfl)) ?_; simp only [Act.put, Array.setIfInBounds, List.size_toArray, List.length_cons, List.length_nil, Nat.reduceAdd, Nat.reduceLT, ↓reduceDIte, List.set_toArray, List.set_cons_succ, List.set_cons_zero])
    | (refine wpQuiet_load rfl 3 (.tmp 76) rfl _ (.int .i64 (u.f : Int)) rfl (fun y hy => load8_i y _ (hy.2.1.cell 1 _ rfl)) ?_; simp only [Act.put, Array.setIfInBounds, List.size_toArray, List.length_cons, List.length_nil, Nat.reduceAdd, Nat.reduceLT, ↓reduceDIte, List.set_toArray, List.set_cons_succ, List.set_cons_zero])
    | (refine wpQuiet_load rfl 30 (.tmp 85) rfl _ (.int .u64 (u.s : Int)) rfl (fun y hy => load8_u y _ (hy.2.1.cell 3 _ rfl)) ?_; simp only [Act.put, Array.setIfInBounds, List.size_toArray, List.length_cons, List.length_nil, Nat.reduceAdd, Nat.reduceLT, ↓reduceDIte, List.set_toArray, List.set_cons_succ, List.set_cons_zero])
    | (refine wpQuiet_load rfl 3 (.tmp 94) rfl _ (.int .i64 (u.m : Int)) rfl (fun y hy => load8_i y _ (hy.2.1.cell 2 _ rfl)) ?_; simp only [Act.put, Array.setIfInBounds, List.size_toArray, List.length_cons, List.length_nil, Nat.reduceAdd, Nat.reduceLT, ↓reduceDIte, List.set_toArray, List.set_cons_succ, List.set_cons_zero])
    | (refine wpQuiet_call rfl 15 #[.pointer (some ⟨gt, 0, none⟩)] (.int .i64 (u.b.size : Int)) ?_ (fun x hC => (C.out.len x u hC.1 HOK.out).mono fun e x' h => ⟨h.1, h.2.1, h.2.2.rt hC.2.1, hC.2.2.trans h.2.2.below⟩) ?_; (intro x; go_simp); simp only [Act.put, Array.setIfInBounds, List.size_toArray, List.length_cons, List.length_nil, Nat.reduceAdd, Nat.reduceLT, ↓reduceDIte, List.set_toArray, List.set_cons_succ, List.set_cons_zero])
    | (refine wpQuiet_call rfl 18 #[.pointer (some ⟨gt, 0, none⟩)] (.int .i64 (u.f : Int)) ?_ (fun x hC => (C.out.synced x u hC.1 HOK.out).mono fun e x' h => ⟨h.1, h.2.1, h.2.2.rt hC.2.1, hC.2.2.trans h.2.2.below⟩) ?_; (intro x; go_simp); simp only [Act.put, Array.setIfInBounds, List.size_toArray, List.length_cons, List.length_nil, Nat.reduceAdd, Nat.reduceLT, ↓reduceDIte, List.set_toArray, List.set_cons_succ, List.set_cons_zero])
    | (refine wpQuiet_call rfl 22 #[.pointer (some ⟨gt, 0, none⟩)] (.int .u64 (u.s : Int)) ?_ (fun x hC => (C.out.start x u hC.1 HOK.out).mono fun e x' h => ⟨h.1, h.2.1, h.2.2.rt hC.2.1, hC.2.2.trans h.2.2.below⟩) ?_; (intro x; go_simp); simp only [Act.put, Array.setIfInBounds, List.size_toArray, List.length_cons, List.length_nil, Nat.reduceAdd, Nat.reduceLT, ↓reduceDIte, List.set_toArray, List.set_cons_succ, List.set_cons_zero])
    | (refine wpQuiet_call rfl 23 #[.pointer (some ⟨gt, 0, none⟩)] (.int .i64 (u.m : Int)) ?_ (fun x hC => (C.out.room x u hC.1 HOK.out).mono fun e x' h => ⟨h.1, h.2.1, h.2.2.rt hC.2.1, hC.2.2.trans h.2.2.below⟩) ?_; (intro x; go_simp); simp only [Act.put, Array.setIfInBounds, List.size_toArray, List.length_cons, List.length_nil, Nat.reduceAdd, Nat.reduceLT, ↓reduceDIte, List.set_toArray, List.set_cons_succ, List.set_cons_zero])
    | (refine wpQuiet_plain rfl (fun K hK => ?_); go_simp; (try simp only [beq_self_eq_true]); refine hK _ ?_; clear hK K))
  refine wpQuiet_nil ?_
  intro x hx
  have HX := hide hx
  clear hx HT HR HB C HOK
  go_wp2
  go_ret
  exact ⟨rfl, HX.out⟩
end Go.Proofs.Ytkmlgfmpcglfeaa

/-
  The contract of quaysidelaw08.does, whole.
-/
namespace Go.Proofs.Ytkmlgfmpcglfeaa
open Go.RowKit
set_option linter.unusedVariables false

/-- A tape behind a call. -/
def stepT (t : Tp) (c : Tc) : Tp := if c.k = 1 then (t.app c.b).1 else if c.k = 2 then t.sync else if c.k = 3 then (t.cut c.n).1 else if c.k = 4 then (t.chop c.n).1 else if c.k = 5 then t.crash c.n else t
theorem step_ok (t : Tp) (c : Tc) (h : t.ok) : (stepT t c).ok := by
  unfold stepT
  split
  · exact t.app_ok h _
  split
  · exact t.sync_ok h
  split
  · exact t.cut_ok h _
  split
  · exact t.chop_ok h _
  split
  · exact t.crash_ok h _
  · exact h

theorem does_any (gt gr B : Nat) (TA : World → Tp → Prop) (C : Hid (Cd gt gr B TA)) (t : Tp) (c : Tc) (w : World) (hB : B ≤ w.heap.size) (hg : B ≤ gr) (ht : TA w t) (hr : RtAt w gr t) (ok : t.ok) (hn : (Lit.int .i64 c.n).wf = true) (hb : c.b.size ≤ 65537) :
    Calls Try.prog 13 #[.pointer (some ⟨gt, 0, none⟩), .pointer (some ⟨gr, 0, none⟩), .agg (tcA c)] w fun e w' => e = .returned (.bool true) ∧ TA w' (stepT t c) ∧ RtAt w' gr (stepT t c) ∧ Below B w w' := by
  obtain ⟨k, n, b⟩ := c
  unfold stepT tcA
  simp only at hn hb ⊢
  by_cases k1 : k = 1
  · subst k1
    exact does_app gt gr B TA C t n b w hB hg ht hr ok hn hb
  rw [if_neg k1]
  by_cases k2 : k = 2
  · subst k2
    exact does_sync gt gr B TA C t n b w hB hg ht hr ok hn hb
  rw [if_neg k2]
  by_cases k3 : k = 3
  · subst k3
    exact does_cut gt gr B TA C t n b w hB hg ht hr ok hn hb
  rw [if_neg k3]
  by_cases k4 : k = 4
  · subst k4
    exact does_chop gt gr B TA C t n b w hB hg ht hr ok hn hb
  rw [if_neg k4]
  by_cases k5 : k = 5
  · subst k5
    exact does_crash gt gr B TA C t n b w hB hg ht hr ok hn hb
  rw [if_neg k5]
  exact does_look gt gr B TA C t k n b w hB hg ht hr ok hn hb (by simpa using k1) (by simpa using k2) (by simpa using k3) (by simpa using k4) (by simpa using k5)
end Go.Proofs.Ytkmlgfmpcglfeaa

/-
  The contract of quaysidelaw08.few.
-/
namespace Go.Proofs.Ytkmlgfmpcglfeaa
open Go.RowKit
set_option linter.unusedVariables false

/-- A call of a script that lies there. -/
theorem tcs_cell {w : World} {a : Option Addr} {cap : Nat} {cs : List Tc} (h : RowsIn tcA Tc.zero 3 w (.slice a cs.length cap) cs) (hp : 0 < cs.length) :
    ∃ b off, a = some ⟨b, off, none⟩ ∧ b < w.heap.size ∧ ∀ i, i < cs.length → w.cell? ⟨b, off + i * 3, none⟩ = some (.int .i64 (cs.getD i Tc.zero).k) ∧ w.cell? ⟨b, off + i * 3 + 1, none⟩ = some (.int .i64 (cs.getD i Tc.zero).n) ∧ w.cell? ⟨b, off + i * 3 + 2, none⟩ = some (.string (cs.getD i Tc.zero).b) := by
  obtain ⟨a', cap', e, h2⟩ := h
  injection e with e1 e2 e3
  subst e1
  obtain ⟨b, off, h3, h4, h5⟩ := h2 hp
  exact ⟨b, off, h3, h4, fun i hi => ⟨h5 i hi 0 _ rfl, h5 i hi 1 _ rfl, h5 i hi 2 _ rfl⟩⟩

set_option maxRecDepth 4000 in
set_option maxHeartbeats 400000 in
theorem few_long (a : Option Addr) (len cap : Nat) (w : World) (h : 200 < len) :
    Calls Try.prog 10 #[.slice a len cap] w fun e w' => e = .returned (.bool false) ∧ w = w' := by
  have h1 : (200 : Int) < (len : Int) := by omega
  go_enter Try.func10, Try.ntmps10
  go_wp2
  go_ret
  exact ⟨rfl, rfl⟩

set_option maxRecDepth 4000 in
set_option maxHeartbeats 800000 in
theorem few_any (v : Value) (cs : List Tc) (w : World) (h : RowsIn tcA Tc.zero 3 w v cs) (hc : ∀ a len cap, v = .slice a len cap → len ≤ cap) :
    Calls Try.prog 10 #[v] w fun e w' => ∃ q, e = .returned (.bool q) ∧ (q = true → cs.length ≤ 200 ∧ ∀ i, i < cs.length → (cs.getD i Tc.zero).b.size ≤ 65537) ∧ w = w' := by
  have h' := h
  obtain ⟨a, cap, rfl, -⟩ := h'
  have hcap := hc _ _ _ rfl
  by_cases hl : 200 < cs.length
  · exact (few_long a cs.length cap w hl).mono fun e w' he => ⟨false, he.1, fun h => (nomatch h), he.2⟩
  have h1 : ¬ (200 : Int) < (cs.length : Int) := by omega
  have HC := hide (tcs_cell h)
  obtain ⟨ln, hln⟩ : ∃ ln, cs.length = ln := ⟨_, rfl⟩
  rw [hln] at HC h1 hl hcap ⊢
  have HLN := hide hln
  clear h hc hln
  go_enter Try.func10, Try.ntmps10
  go_wp2
  go_loopw [9] (fun i wr => ∃ j : Nat, j ≤ ln ∧ i = .int .i64 j ∧ w = wr ∧ ∀ i, i < j → (cs.getD i Tc.zero).b.size ≤ 65537) (fun i _ => ln - (intOf i).toNat)
  case atStart => exact ⟨0, Nat.zero_le _, rfl, rfl, fun i hi => absurd hi (Nat.not_lt_zero _)⟩
  case round =>
    obtain ⟨j, hj, rfl, rfl, hall⟩ := hrel
    by_cases hlt : j < ln
    · obtain ⟨b, off, rfl, -, hcell⟩ := HC.out (by omega)
      have c2 := (hcell j hlt).2.2
      have hjc : (j : Int) < (ln : Int) := by omega
      have HA := hide hall
      clear hcell HC hall
      generalize hsz : (cs.getD j Tc.zero).b = s at *
      by_cases hs : s.size ≤ 65537
      · have hs2 : ¬ (65537 : Int) < (s.size : Int) := by omega
        go_wp2
        go_roundw
        case rel =>
          refine ⟨j + 1, by omega, by go_num, by first | rfl | trivial, fun i hi => ?_⟩
          by_cases e : i = j
          · rw [e, hsz]
            exact hs
          · exact HA.out i (by omega)
        case measure => simp [intOf]; omega
      · have hs2 : (65537 : Int) < (s.size : Int) := by omega
        go_wp2
        go_ret
        exact ⟨false, rfl, fun h => (nomatch h), rfl⟩
    · obtain rfl : j = ln := by omega
      go_wp2
      go_ret
      exact ⟨true, rfl, fun _ => ⟨by omega, hall⟩, rfl⟩
end Go.Proofs.Ytkmlgfmpcglfeaa

/-
  What the code's Bytes leaves, with what the statements' walks ask behind it.
-/
namespace Go.Proofs.Ytkmlgfmpcglfeaa
open Go.RowKit
set_option linter.unusedVariables false

/-- Behind Bytes: its text, both tapes as they were. -/
def Says (gr B : Nat) (TA : World → Tp → Prop) (t : Tp) (w0 : World) (e : Ending) (w5 : World) : Prop :=
  ∃ a5 c5, e = .returned (.slice a5 t.b.size c5) ∧ w5.cell? ⟨gr, 0, none⟩ = some (.string t.b) ∧ (convert 29 9 (.slice a5 t.b.size c5)).run Try.prog w5 = .ok (.string t.b) w5 ∧ TA w5 t ∧ RtAt w5 gr t ∧ Below B w0 w5
theorem says8 (gt gr B : Nat) (TA : World → Tp → Prop) (C : Cd gt gr B TA) (t : Tp) (w0 w : World) (ht : TA w t) (hr : RtAt w gr t) (ok : t.ok) (hb : Below B w0 w) :
    Calls Try.prog 14 #[.pointer (some ⟨gt, 0, none⟩)] w (Says gr B TA t w0) := by
  refine (C.bytes w t ht ok).mono ?_
  rintro e w5 ⟨v, rfl, ho, h5, h6, h7⟩
  obtain ⟨a5, c5, rfl, -, hB5⟩ := shape_isB ho
  have hs := run_toString (P := Try.prog) w5 29 9 5 Try.underlying29 Try.underlying5 Try.underlying9 a5 _ c5 _ hB5
  rw [mk_self] at hs
  exact ⟨a5, c5, rfl, (h6.rt hr).cell 0 (.string t.b) rfl, hs, h5, h6.rt hr, hb.trans h6.below⟩
end Go.Proofs.Ytkmlgfmpcglfeaa

/-
  Texts, in lists that come in, opened.
-/
namespace Go.Proofs.Ytkmlgfmpcglfeaa
open Go.ChangeShapes Go.WideShapes Go.ChangeAt Go.RowKit Go.Deep Go.Joins
set_option linter.unusedVariables false

set_option maxRecDepth 40000 in
def stA (s : ByteArray) : Array Value := #[.string s]
section
variable {H : Type} {enc : TypeId × Value → H} {W : World}

set_option maxRecDepth 40000 in
theorem elem_st (n : Nat) (cs : List Value) (y : DataW H × List MemPlace) (h : DataW.trod enc Try.prog W 0 (fun _ => true) true n 9 cs = some y) : ∃ s : ByteArray, cs = (stA s).toList ∧ s.size ≤ maxLen := by
  obtain ⟨s, g, _, w⟩ := DataW.trod_string Try.underlying9 h
  exact ⟨s, g, w⟩
set_option maxRecDepth 40000 in
/-- Texts. -/
theorem op_sts {v : Value} {d : DataW H} {p : List MemPlace} {r : Reach} {b0 : Nat} (hv : Value.okWide Try.prog W r b0 42 v) (h : DataW.Trod enc Try.prog W 0 (fun _ => true) true 42 v d p) :
    ∃ ss : List ByteArray, RowsIn stA ⟨#[]⟩ 1 W v ss ∧ ss.length ≤ maxLen ∧ (∀ s ∈ ss, s.size ≤ maxLen) ∧ ∀ a len cap, v = .slice a len cap → len ≤ cap := by
  obtain ⟨a, len, cap, _, rfl, _, hcap, _⟩ := @open_rows H enc Try.prog W ByteArray ⟨⟨#[]⟩⟩ 42 9 1 v d p r b0 (fun m k => (stA m).toList.getD k (.bool false)) (fun _ => True) (fun n cs y hy => by
    obtain ⟨m, rfl, _⟩ := elem_st n cs y hy
    refine ⟨m, trivial, fun k hk => ?_⟩
    rw [List.getD_eq_getElem?_getD, List.getElem?_eq_getElem (by rw [Array.length_toList]; exact hk)]
    rfl) Try.underlying42 (by kernel_rfl) (by decide) hv h
  obtain ⟨fuel, hf⟩ := h
  have hf2 : DataW.trod enc Try.prog W 0 (fun _ => true) true fuel 42 [.slice a len cap] = some (d, p) := hf
  obtain ⟨cs, h1, h2, h3⟩ := op_rows (sz := 1) stA ⟨#[]⟩ (fun s => s.size ≤ maxLen) elem_st Try.underlying42 (by kernel_rfl) (fun _ => rfl) (by decide) hf2
  refine ⟨cs, h1, h2, h3, fun a' l' c' e => ?_⟩
  injection e with e1 e2 e3
  omega
end

set_option maxRecDepth 40000 in
/-- A text of a list that lies there. -/
theorem sts_cell {w : World} {a : Option Addr} {cap : Nat} {ss : List ByteArray} (h : RowsIn stA ⟨#[]⟩ 1 w (.slice a ss.length cap) ss) (hp : 0 < ss.length) :
    ∃ b off, a = some ⟨b, off, none⟩ ∧ b < w.heap.size ∧ ∀ i, i < ss.length → w.cell? ⟨b, off + i, none⟩ = some (.string (ss.getD i ⟨#[]⟩)) := by
  obtain ⟨a', cap', e, h2⟩ := h
  injection e with e1 e2 e3
  subst e1
  obtain ⟨b, off, h3, h4, h5⟩ := h2 hp
  refine ⟨b, off, h3, h4, fun i hi => ?_⟩
  have := h5 i hi 0 _ rfl
  rw [Nat.mul_one, Nat.add_zero] at this
  exact this

end Go.Proofs.Ytkmlgfmpcglfeaa

/-
  Plain facts on the sum, of no program: the register's step is linear and loses nothing; bytes are bits, the lowest first; bits turned within 32 side by side are told.
-/
namespace Go.Proofs.Ytkmlgfmpcglfeaa
open Go.RowKit
set_option linter.unusedVariables false

theorem xlc (x y z : Nat) : x ^^^ (y ^^^ z) = y ^^^ (x ^^^ z) := by rw [← Nat.xor_assoc, Nat.xor_comm x y, Nat.xor_assoc]
theorem xz (a b : Nat) : a ^^^ b = 0 ↔ a = b := by
  constructor
  · intro h
    have h1 : a ^^^ b ^^^ b = 0 ^^^ b := by rw [h]
    rwa [Nat.xor_assoc, Nat.xor_self, Nat.xor_zero, Nat.zero_xor] at h1
  · intro h
    rw [h, Nat.xor_self]
theorem xm2 (a b : Nat) : (a ^^^ b) % 2 = (a + b) % 2 := by
  have h : (a ^^^ b) % 2 = 1 ↔ ¬ (a % 2 = 1 ↔ b % 2 = 1) := Nat.xor_mod_two_eq_one
  omega

/-- The polynomial, behind a name. -/
def poly : Nat := 3988292384
/-- All 32 bits. -/
def ones : Nat := 4294967295
theorem poly_lt : poly < 2 ^ 32 := by decide
theorem ones_lt : ones < 2 ^ 32 := by decide
theorem poly_ge : 2 ^ 31 ≤ poly := by decide

/-- One step of the register. -/
def stp (r : Nat) : Nat := if r % 2 = 1 then r / 2 ^^^ poly else r / 2

theorem stp_zero : stp 0 = 0 := rfl

theorem stp_lt (r : Nat) (h : r < 2 ^ 32) : stp r < 2 ^ 32 := by
  unfold stp
  split
  · exact Nat.xor_lt_two_pow (by omega) poly_lt
  · omega

theorem stp_xor (a b : Nat) : stp (a ^^^ b) = stp a ^^^ stp b := by
  unfold stp
  have h1 : (a ^^^ b) / 2 = a / 2 ^^^ b / 2 := Nat.xor_div_two
  have h2 : (a ^^^ b) % 2 = (a + b) % 2 := xm2 a b
  rw [h1]
  have c1 : ∀ x y z : Nat, x ^^^ (y ^^^ z) = y ^^^ (x ^^^ z) := xlc
  by_cases ha : a % 2 = 1
  · by_cases hb : b % 2 = 1
    · rw [if_pos ha, if_pos hb, if_neg (by omega)]
      rw [Nat.xor_assoc, c1 poly, Nat.xor_self, Nat.xor_zero]
    · rw [if_pos ha, if_neg hb, if_pos (by omega)]
      rw [Nat.xor_assoc, Nat.xor_assoc, Nat.xor_comm (b / 2)]
  · by_cases hb : b % 2 = 1
    · rw [if_neg ha, if_pos hb, if_pos (by omega), Nat.xor_assoc]
    · rw [if_neg ha, if_neg hb, if_neg (by omega)]

theorem stp_ker (r : Nat) (h : r < 2 ^ 32) (h0 : stp r = 0) : r = 0 := by
  unfold stp at h0
  split at h0
  · have h1 : r / 2 = poly := (xz _ _).1 h0
    have h2 := poly_ge
    omega
  · omega

/-- So many steps. -/
def stps : Nat → Nat → Nat
  | 0, r => r
  | n + 1, r => stps n (stp r)

theorem stps_zero (n : Nat) : stps n 0 = 0 := by
  induction n with
  | zero => rfl
  | succ n ih => rw [stps, stp_zero, ih]
theorem stps_lt : ∀ (n r : Nat), r < 2 ^ 32 → stps n r < 2 ^ 32
  | 0, _, h => h
  | n + 1, r, h => stps_lt n (stp r) (stp_lt r h)
theorem stps_xor : ∀ (n a b : Nat), stps n (a ^^^ b) = stps n a ^^^ stps n b
  | 0, _, _ => rfl
  | n + 1, a, b => by rw [stps, stps, stps, stp_xor, stps_xor n]
theorem stps_ker : ∀ (n r : Nat), r < 2 ^ 32 → stps n r = 0 → r = 0
  | 0, _, _, h => h
  | n + 1, r, h, h0 => stp_ker r h (stps_ker n (stp r) (stp_lt r h) h0)
theorem stps_inj (n a b : Nat) (ha : a < 2 ^ 32) (hb : b < 2 ^ 32) (h : stps n a = stps n b) : a = b := by
  have h1 : stps n (a ^^^ b) = 0 := by rw [stps_xor, h, Nat.xor_self]
  exact (xz _ _).1 (stps_ker n _ (Nat.xor_lt_two_pow ha hb) h1)
theorem stps_add : ∀ (m n r : Nat), stps (m + n) r = stps n (stps m r)
  | 0, n, r => by rw [Nat.zero_add]; rfl
  | m + 1, n, r => by
    have e : m + 1 + n = (m + n) + 1 := by omega
    rw [e, stps, stps, stps_add m n]
theorem stps_succ (n r : Nat) : stps (n + 1) r = stp (stps n r) := by
  rw [stps_add n 1 r]
  rfl

/-- The register behind one byte, and behind bytes. -/
def byteS (r : Nat) (b : UInt8) : Nat := stps 8 (r ^^^ b.toNat)
def crun (r : Nat) (bs : List UInt8) : Nat := bs.foldl byteS r
/-- The sum. -/
def crc (bs : List UInt8) : Nat := ones ^^^ crun ones bs
def crcMore (s : Nat) (bs : List UInt8) : Nat := ones ^^^ crun (ones ^^^ s) bs

theorem u8_lt32 (b : UInt8) : b.toNat < 2 ^ 32 := by have := b.toNat_lt; omega
theorem byteS_lt (r : Nat) (b : UInt8) (h : r < 2 ^ 32) : byteS r b < 2 ^ 32 := stps_lt 8 _ (Nat.xor_lt_two_pow h (u8_lt32 b))
theorem crun_lt : ∀ (bs : List UInt8) (r : Nat), r < 2 ^ 32 → crun r bs < 2 ^ 32
  | [], _, h => h
  | b :: bs, r, h => crun_lt bs (byteS r b) (byteS_lt r b h)
theorem crc_lt (bs : List UInt8) : crc bs < 2 ^ 32 := Nat.xor_lt_two_pow ones_lt (crun_lt bs ones ones_lt)
theorem crun_nil (r : Nat) : crun r [] = r := rfl
theorem crun_snoc (r : Nat) (bs : List UInt8) (b : UInt8) : crun r (bs ++ [b]) = byteS (crun r bs) b := by simp [crun, List.foldl_append]
theorem crun_append (r : Nat) (a b : List UInt8) : crun r (a ++ b) = crun (crun r a) b := by simp [crun, List.foldl_append]
theorem ones_ones (x : Nat) : ones ^^^ (ones ^^^ x) = x := by rw [← Nat.xor_assoc, Nat.xor_self, Nat.zero_xor]
theorem crc_more (a b : List UInt8) : crc (a ++ b) = crcMore (crc a) b := by
  unfold crc crcMore
  rw [ones_ones, crun_append]

/-- Byte for byte xor. -/
def xorL (a b : List UInt8) : List UInt8 := List.zipWith (· ^^^ ·) a b

theorem xor4 (r s x y : Nat) : (r ^^^ s) ^^^ (x ^^^ y) = (r ^^^ x) ^^^ (s ^^^ y) := by
  rw [Nat.xor_assoc, xlc s, ← Nat.xor_assoc]

theorem byteS_xor (r s : Nat) (x y : UInt8) : byteS (r ^^^ s) (x ^^^ y) = byteS r x ^^^ byteS s y := by
  unfold byteS
  rw [UInt8.toNat_xor, xor4, stps_xor]

theorem crun_xor : ∀ (a b : List UInt8) (r s : Nat), a.length = b.length → crun (r ^^^ s) (xorL a b) = crun r a ^^^ crun s b
  | [], [], _, _, _ => rfl
  | x :: a, y :: b, r, s, h => by
    have h1 : a.length = b.length := by simpa using h
    have e : xorL (x :: a) (y :: b) = (x ^^^ y) :: xorL a b := rfl
    have e1 : crun (r ^^^ s) ((x ^^^ y) :: xorL a b) = crun (byteS (r ^^^ s) (x ^^^ y)) (xorL a b) := rfl
    rw [e, e1, byteS_xor, crun_xor a b _ _ h1]
    rfl
  | [], _ :: _, _, _, h => by simp at h
  | _ :: _, [], _, _, h => by simp at h

theorem crc_linear (a b c : List UInt8) (h1 : b.length = a.length) (h2 : c.length = a.length) : crc a ^^^ crc b ^^^ crc c ^^^ crc (xorL (xorL a b) c) = 0 := by
  have e1 : ones = ones ^^^ ones ^^^ ones := by rw [Nat.xor_self, Nat.zero_xor]
  have hl : (xorL a b).length = c.length := by simp [xorL, h1, h2]
  have e2 : crun ones (xorL (xorL a b) c) = crun ones a ^^^ crun ones b ^^^ crun ones c := by
    have e3 : crun ones (xorL (xorL a b) c) = crun (ones ^^^ ones ^^^ ones) (xorL (xorL a b) c) := by rw [← e1]
    rw [e3, crun_xor _ _ _ _ hl, crun_xor _ _ _ _ h1.symm]
  unfold crc
  rw [e2]
  generalize crun ones a = x
  generalize crun ones b = y
  generalize crun ones c = z
  rw [xz]
  have e5 : ones ^^^ x ^^^ (ones ^^^ y) = x ^^^ y := by rw [xor4, Nat.xor_self, Nat.zero_xor]
  rw [e5]
  rw [xlc]


/-- A bit of bytes, counted from the lowest of the first on. -/
def bitAt (s : List UInt8) (j : Nat) : Bool := (s.getD (j / 8) 0).toNat.testBit (j % 8)
/-- The register behind one bit, and behind so many bits. -/
def bst (r : Nat) (b : Bool) : Nat := stp (r ^^^ b.toNat)
def bruns (r : Nat) (f : Nat → Bool) : Nat → Nat
  | 0 => r
  | n + 1 => bst (bruns r f n) (f n)

theorem stp_low (q c : Nat) : stp (q ^^^ c) = stp (q ^^^ (c % 2)) ^^^ (c / 2) := by
  have e1 : (q ^^^ c) / 2 = q / 2 ^^^ c / 2 := Nat.xor_div_two
  have e2 : (q ^^^ (c % 2)) / 2 = q / 2 ^^^ (c % 2) / 2 := Nat.xor_div_two
  have e3 : (c % 2) / 2 = 0 := by omega
  have p1 := xm2 q c
  have p2 := xm2 q (c % 2)
  unfold stp
  rw [e1, e2, e3, Nat.xor_zero]
  by_cases h : (q ^^^ c) % 2 = 1
  · rw [if_pos h, if_pos (by omega), Nat.xor_assoc, Nat.xor_assoc, Nat.xor_comm poly]
  · rw [if_neg h, if_neg (by omega)]

theorem bit_mod (c i : Nat) : (c.testBit i).toNat = c / 2 ^ i % 2 := by
  rw [Nat.testBit_eq_decide_div_mod_eq]
  have h : c / 2 ^ i % 2 = 0 ∨ c / 2 ^ i % 2 = 1 := by omega
  rcases h with h | h <;> simp [h]

/-- Bit by bit: so many steps over a number that is xored in at once. -/
theorem bits_at (r : Nat) (f : Nat → Bool) (n c : Nat) : ∀ (i : Nat), (∀ j, j < i → f (n + j) = c.testBit j) → stps i (bruns r f n ^^^ c) = bruns r f (n + i) ^^^ (c / 2 ^ i)
  | 0, _ => by simp [stps]
  | i + 1, h => by
    rw [stps_succ, bits_at r f n c i (fun j hj => h j (by omega)), stp_low]
    have e : bruns r f (n + (i + 1)) = bst (bruns r f (n + i)) (f (n + i)) := rfl
    rw [e, h i (by omega), bst, bit_mod, Nat.div_div_eq_div_mul, ← Nat.pow_succ]

theorem crun_bits (r : Nat) (s : List UInt8) : ∀ (k : Nat), k ≤ s.length → crun r (s.take k) = bruns r (bitAt s) (8 * k)
  | 0, _ => by simp [crun, bruns]
  | k + 1, h => by
    have hk : k < s.length := h
    rw [List.take_succ_eq_append_getElem hk, crun_snoc, crun_bits r s k (by omega), byteS]
    have hb := bits_at r (bitAt s) (8 * k) s[k].toNat 8 (fun j hj => by
      have e1 : (8 * k + j) / 8 = k := by omega
      have e2 : (8 * k + j) % 8 = j := by omega
      simp [bitAt, e1, e2, List.getD, List.getElem?_eq_getElem hk])
    have e3 : s[k].toNat / 2 ^ 8 = 0 := by have := s[k].toNat_lt; omega
    rw [e3, Nat.xor_zero] at hb
    exact hb

theorem crun_bruns (r : Nat) (s : List UInt8) : crun r s = bruns r (bitAt s) (8 * s.length) := by
  have h := crun_bits r s s.length (Nat.le_refl _)
  rwa [List.take_length] at h

theorem bruns_congr (r : Nat) (f g : Nat → Bool) : ∀ (n : Nat), (∀ j, j < n → f j = g j) → bruns r f n = bruns r g n
  | 0, _ => rfl
  | n + 1, h => by rw [bruns, bruns, bruns_congr r f g n (fun j hj => h j (by omega)), h n (by omega)]

theorem bool_xor (a b : Bool) : (a ^^ b).toNat = a.toNat ^^^ b.toNat := by cases a <;> cases b <;> rfl

theorem bruns_xor (r s : Nat) (f g : Nat → Bool) : ∀ (n : Nat), bruns (r ^^^ s) (fun j => f j ^^ g j) n = bruns r f n ^^^ bruns s g n
  | 0 => rfl
  | n + 1 => by rw [bruns, bruns, bruns, bruns_xor r s f g n, bst, bst, bst, bool_xor, xor4, stp_xor]

/-- Bits within 32 side by side. -/
def win (k t : Nat) (j : Nat) : Bool := decide (k ≤ j) && decide (j < k + 32) && t.testBit (j - k)

theorem win_ahead (k t : Nat) : ∀ (n : Nat), n ≤ k → bruns 0 (win k t) n = 0
  | 0, _ => rfl
  | n + 1, h => by
    have e : win k t n = false := by simp [win]; omega
    rw [bruns, win_ahead k t n (by omega), e]
    rfl

theorem win_behind (k t : Nat) : ∀ (m : Nat), bruns 0 (win k t) (k + 32 + m) = stps m (bruns 0 (win k t) (k + 32))
  | 0 => rfl
  | m + 1 => by
    have e : win k t (k + 32 + m) = false := by simp [win]; omega
    have e2 : bruns 0 (win k t) (k + 32 + (m + 1)) = bst (bruns 0 (win k t) (k + 32 + m)) (win k t (k + 32 + m)) := rfl
    rw [e2, e, win_behind k t m, stps_succ, bst]
    simp

theorem win_lt (k t : Nat) : ∀ (n : Nat), bruns 0 (win k t) n < 2 ^ 32
  | 0 => by rw [bruns]; omega
  | n + 1 => by
    rw [bruns, bst]
    refine stp_lt _ (Nat.xor_lt_two_pow (win_lt k t n) ?_)
    have := Bool.toNat_lt (win k t n)
    omega

theorem win_told (k t n : Nat) (ht : t < 2 ^ 32) (h0 : t ≠ 0) (hn : k + 32 ≤ n) : bruns 0 (win k t) n ≠ 0 := by
  have hb := bits_at 0 (win k t) k t 32 (fun j hj => by
    have e : k + j - k = j := by omega
    simp [win, hj])
  rw [win_ahead k t k (Nat.le_refl _), Nat.zero_xor, Nat.div_eq_of_lt ht, Nat.xor_zero] at hb
  intro h
  obtain ⟨m, rfl⟩ := Nat.le.dest hn
  rw [win_behind] at h
  have h1 := stps_ker m _ (win_lt k t _) h
  rw [← hb] at h1
  exact h0 (stps_ker 32 t ht h1)

/-- Bits turned within 32 side by side turn the register. -/
theorem turned (r : Nat) (s s' : List UInt8) (k t : Nat) (ht : t < 2 ^ 32) (h0 : t ≠ 0) (hl : s'.length = s.length) (hk : k + 32 ≤ 8 * s.length)
    (hb : ∀ j, j < 8 * s.length → bitAt s' j = (bitAt s j ^^ win k t j)) : crun r s' ≠ crun r s := by
  intro h
  rw [crun_bruns, crun_bruns, hl, bruns_congr r (bitAt s') (fun j => bitAt s j ^^ win k t j) _ hb] at h
  have e := bruns_xor r 0 (bitAt s) (win k t) (8 * s.length)
  rw [Nat.xor_zero] at e
  rw [e] at h
  have h2 : bruns 0 (win k t) (8 * s.length) = 0 := by
    have h3 : bruns r (bitAt s) (8 * s.length) ^^^ (bruns r (bitAt s) (8 * s.length) ^^^ bruns 0 (win k t) (8 * s.length)) = bruns r (bitAt s) (8 * s.length) ^^^ bruns r (bitAt s) (8 * s.length) := by rw [h]
    rwa [← Nat.xor_assoc, Nat.xor_self, Nat.zero_xor] at h3
  exact win_told k t _ ht h0 hk h2

/-- The number whose bytes these are, the lowest first. -/
def leN : List UInt8 → Nat
  | [] => 0
  | b :: t => b.toNat + 256 * leN t
def leB (x : Nat) : List UInt8 := [UInt8.ofNat x, UInt8.ofNat (x / 256), UInt8.ofNat (x / 65536), UInt8.ofNat (x / 16777216)]
theorem leB_length (x : Nat) : (leB x).length = 4 := rfl
theorem leN_leB (x : Nat) (h : x < 2 ^ 32) : leN (leB x) = x := by
  simp only [leB, leN, UInt8.toNat_ofNat']
  omega
theorem leN_lt : ∀ (t : List UInt8), leN t < 256 ^ t.length
  | [] => by simp [leN]
  | b :: t => by
    have := leN_lt t
    have hb := b.toNat_lt
    rw [List.length_cons, Nat.pow_succ, leN]
    omega

theorem stps_double : ∀ (n x : Nat), stps n (2 ^ n * x) = x
  | 0, x => by simp [stps]
  | n + 1, x => by
    have e : stp (2 ^ (n + 1) * x) = 2 ^ n * x := by
      have e2 : 2 ^ (n + 1) * x = 2 * (2 ^ n * x) := by rw [Nat.pow_succ, Nat.mul_comm (2 ^ n) 2, Nat.mul_assoc]
      rw [e2, stp, if_neg (by omega)]
      omega
    rw [stps, e, stps_double n x]

theorem add_xor (b y : Nat) (h : b < 256) : b + 256 * y = b ^^^ (256 * y) := by
  apply Nat.eq_of_testBit_eq
  intro i
  have e1 : b + 256 * y = 2 ^ 8 * y + b := by omega
  have e2 : 256 * y = 2 ^ 8 * y := by omega
  rw [e1, Nat.testBit_two_pow_mul_add y (show b < 2 ^ 8 by omega), e2, Nat.testBit_xor, Nat.testBit_two_pow_mul]
  by_cases hi : i < 8
  · have h8 : ¬ i ≥ 8 := by omega
    simp [hi, h8]
  · have h8 : i ≥ 8 := by omega
    have hb : b.testBit i = false := Nat.testBit_lt_two_pow (Nat.lt_of_lt_of_le (show b < 2 ^ 8 by omega) (Nat.pow_le_pow_right (by omega) h8))
    simp [hi, h8, hb]

theorem crun_le : ∀ (t : List UInt8) (r : Nat), crun r t = stps (8 * t.length) (r ^^^ leN t)
  | [], r => by simp [crun, leN, stps]
  | b :: t, r => by
    have e : crun r (b :: t) = crun (byteS r b) t := rfl
    have e1 : 8 * (b :: t).length = 8 + 8 * t.length := by rw [List.length_cons]; omega
    have e2 : stps 8 (256 * leN t) = leN t := stps_double 8 (leN t)
    have e3 : stps 8 (r ^^^ b.toNat ^^^ 256 * leN t) = stps 8 (r ^^^ b.toNat) ^^^ leN t := by rw [stps_xor 8 (r ^^^ b.toNat), e2]
    rw [e, crun_le t, byteS, e1, stps_add, leN, add_xor _ _ b.toNat_lt, ← Nat.xor_assoc, e3]

/-- What all sealed bytes leave in the register. -/
def rest : Nat := stps 32 ones

theorem sealed_iff (b t : List UInt8) (h : t.length = 4) : leN t = crc b ↔ crun ones (b ++ t) = rest := by
  have h32 : leN t < 2 ^ 32 := by
    have := leN_lt t
    rw [h] at this
    exact this
  have hc := crun_lt b ones ones_lt
  rw [crun_append, crun_le t, h, rest]
  constructor
  · intro e
    rw [e, crc, xlc, Nat.xor_self, Nat.xor_zero]
  · intro e
    have e1 := stps_inj 32 _ _ (Nat.xor_lt_two_pow hc h32) ones_lt e
    generalize hx : crun ones b = x at *
    rw [crc, hx, ← e1, Nat.xor_comm x, Nat.xor_assoc, Nat.xor_self, Nat.xor_zero]

theorem sealed (b : List UInt8) : crun ones (b ++ leB (crc b)) = rest := (sealed_iff b _ (leB_length _)).1 (leN_leB _ (crc_lt b))


theorem bst_if (q : Nat) (b : Bool) : bst q b = if q % 2 = b.toNat then q / 2 else q / 2 ^^^ poly := by
  have e1 : (q ^^^ b.toNat) / 2 = q / 2 ^^^ b.toNat / 2 := Nat.xor_div_two
  have e2 : b.toNat / 2 = 0 := by cases b <;> rfl
  have e3 := xm2 q b.toNat
  have e4 : b.toNat < 2 := Bool.toNat_lt b
  unfold bst stp
  rw [e1, e2, Nat.xor_zero]
  by_cases h : q % 2 = b.toNat
  · rw [if_pos h, if_neg (by omega)]
  · rw [if_neg h, if_pos (by omega)]

theorem bruns_lt (r : Nat) (f : Nat → Bool) (h : r < 2 ^ 32) : ∀ (n : Nat), bruns r f n < 2 ^ 32
  | 0 => h
  | n + 1 => by
    rw [bruns, bst]
    refine stp_lt _ (Nat.xor_lt_two_pow (bruns_lt r f h n) ?_)
    have := Bool.toNat_lt (f n)
    omega


theorem ones_sub (x : Nat) (h : x < 2 ^ 32) : 4294967295 - x = ones ^^^ x := by
  have e1 : 4294967295 - x = 2 ^ 32 - (x + 1) := by omega
  have e2 : ones = 2 ^ 32 - (0 + 1) := rfl
  rw [e1, e2]
  apply Nat.eq_of_testBit_eq
  intro i
  rw [Nat.testBit_xor, Nat.testBit_two_pow_sub_succ h, Nat.testBit_two_pow_sub_succ (by omega)]
  by_cases hi : i < 32
  · simp [hi]
  · have hb : x.testBit i = false := Nat.testBit_lt_two_pow (Nat.lt_of_lt_of_le h (Nat.pow_le_pow_right (by omega) (by omega)))
    simp [hi, hb]

theorem ones_subI (x : Nat) (h : x < 2 ^ 32) : (4294967295 : Int) - (x : Int) = ((ones ^^^ x : Nat) : Int) := by
  rw [← ones_sub x h]
  omega


theorem leB_leN : ∀ (t : List UInt8), t.length = 4 → leB (leN t) = t
  | [a, b, c, d], _ => by
    have ha := a.toNat_lt
    have hb := b.toNat_lt
    have hc := c.toNat_lt
    have hd := d.toNat_lt
    have e : ∀ (x : UInt8) (n : Nat), n % 256 = x.toNat → UInt8.ofNat n = x := by
      intro x n h
      apply UInt8.toNat_inj.1
      simp [h]
    simp only [leN, leB]
    rw [e a _ (by omega), e b _ (by omega), e c _ (by omega), e d _ (by omega)]
  | [], h => by simp at h
  | [_], h => by simp at h
  | [_, _], h => by simp at h
  | [_, _, _], h => by simp at h
  | _ :: _ :: _ :: _ :: _ :: _, h => by simp at h

/-- What 'Open' answers: the bytes, and the error's number. -/
def openS (bs : List UInt8) : List UInt8 × Int :=
  if bs.length < 4 then ([], 4)
  else if leN (bs.drop (bs.length - 4)) = crc (bs.take (bs.length - 4)) then (bs.take (bs.length - 4), 0)
  else ([], 3)
theorem openS_short (bs : List UInt8) (h : bs.length < 4) : openS bs = ([], 4) := by unfold openS; rw [if_pos h]
theorem openS_ok (bs : List UInt8) (h : ¬ bs.length < 4) (h2 : leN (bs.drop (bs.length - 4)) = crc (bs.take (bs.length - 4))) : openS bs = (bs.take (bs.length - 4), 0) := by unfold openS; rw [if_neg h, if_pos h2]
theorem openS_no (bs : List UInt8) (h : ¬ bs.length < 4) (h2 : ¬ leN (bs.drop (bs.length - 4)) = crc (bs.take (bs.length - 4))) : openS bs = ([], 3) := by unfold openS; rw [if_neg h, if_neg h2]

/-- Sealed bytes, said in two ways. -/
theorem seal_eq_iff (bs : List UInt8) (h : ¬ bs.length < 4) : bs.take (bs.length - 4) ++ leB (crc (bs.take (bs.length - 4))) = bs ↔ leN (bs.drop (bs.length - 4)) = crc (bs.take (bs.length - 4)) := by
  have hd : (bs.drop (bs.length - 4)).length = 4 := by simp; omega
  constructor
  · intro e
    have e1 := List.take_append_drop (bs.length - 4) bs
    have e2 : leB (crc (bs.take (bs.length - 4))) = bs.drop (bs.length - 4) := List.append_cancel_left (e.trans e1.symm)
    rw [← e2, leN_leB _ (crc_lt _)]
  · intro e
    rw [← e, leB_leN _ hd, List.take_append_drop]

theorem openS_seal (b : List UInt8) : openS (b ++ leB (crc b)) = (b, 0) := by
  have hl : (b ++ leB (crc b)).length = b.length + 4 := by rw [List.length_append, leB_length]
  have e1 : (b ++ leB (crc b)).length - 4 = b.length := by omega
  have e2 : (b ++ leB (crc b)).take b.length = b := List.take_left' rfl
  have e3 : (b ++ leB (crc b)).drop b.length = leB (crc b) := List.drop_left' rfl
  rw [openS_ok _ (by omega) (by rw [e1, e2, e3, leN_leB _ (crc_lt b)]), e1, e2]

/-- Sealed bytes of which bits within 32 side by side are turned aren't opened. -/
theorem openS_turned (b s' : List UInt8) (k t : Nat) (ht : t < 2 ^ 32) (h0 : t ≠ 0) (hl : s'.length = b.length + 4) (hk : k + 32 ≤ 8 * (b.length + 4))
    (hb : ∀ j, j < 8 * (b.length + 4) → bitAt s' j = (bitAt (b ++ leB (crc b)) j ^^ win k t j)) : openS s' = ([], 3) := by
  have hl2 : (b ++ leB (crc b)).length = b.length + 4 := by rw [List.length_append, leB_length]
  refine openS_no s' (by omega) fun e => ?_
  have hd : (s'.drop (s'.length - 4)).length = 4 := by simp; omega
  have h1 := (sealed_iff _ _ hd).1 e
  rw [List.take_append_drop] at h1
  have h2 := turned ones (b ++ leB (crc b)) s' k t ht h0 (by omega) (by omega) (by rw [hl2]; exact hb)
  rw [h1, sealed b] at h2
  exact h2 rfl

theorem leB_take (x j : Nat) (h : j < 4) : (leB x).take (j + 1) = (leB x).take j ++ [UInt8.ofNat (x / 256 ^ j)] := by
  match j, h with
  | 0, _ => simp [leB]
  | 1, _ => simp [leB]
  | 2, _ => simp [leB]
  | 3, _ => simp [leB]


/-- A row of noughts that is filled from its head on. -/
def xrow (X : List UInt8) (n j : Nat) : List UInt8 := X.take j ++ List.replicate (n - j) 0
theorem xrow_length (X : List UInt8) (n j : Nat) (hX : X.length = n) (hj : j ≤ n) : (xrow X n j).length = n := by simp [xrow]; omega
theorem xrow_zero (X : List UInt8) (n : Nat) : toV (xrow X n 0) = zrow n := by simp [xrow, toV, zrow]
theorem xrow_full (X : List UInt8) (n : Nat) (hX : X.length = n) : xrow X n n = X := by
  subst hX
  simp [xrow]
theorem xrow_step (X : List UInt8) (n j : Nat) (hX : X.length = n) (hj : j < n) : (toV (xrow X n j)).set j (.int .u8 ((X.getD j 0).toNat : Int)) = toV (xrow X n (j + 1)) := by
  have e1 : n - j = (n - (j + 1)) + 1 := by omega
  have e2 : xrow X n (j + 1) = X.take j ++ X.getD j 0 :: List.replicate (n - (j + 1)) 0 := by
    have e0 : X.getD j 0 = X[j]'(by omega) := by simp [List.getD, List.getElem?_eq_getElem (show j < X.length by omega)]
    rw [xrow, List.take_succ_eq_append_getElem (show j < X.length by omega), List.append_assoc, e0]
    rfl
  rw [e2, xrow, e1, List.replicate_succ, toV_append, toV_append, List.set_append_right _ _ (by rw [toV_length, List.length_take]; omega)]
  have e3 : j - (toV (X.take j)).length = 0 := by rw [toV_length, List.length_take]; omega
  rw [e3]
  rfl


/-- Bytes of which some bits from a place on are turned. -/
def fl (S : List UInt8) (k t : Nat) : Nat → List UInt8
  | 0 => S
  | i + 1 => if t.testBit i then (fl S k t i).set ((k + i) / 8) ((fl S k t i).getD ((k + i) / 8) 0 ^^^ UInt8.ofNat (2 ^ ((k + i) % 8))) else fl S k t i
theorem fl_length (S : List UInt8) (k t : Nat) : ∀ (i : Nat), (fl S k t i).length = S.length
  | 0 => rfl
  | i + 1 => by
    rw [fl]
    split
    · rw [List.length_set, fl_length S k t i]
    · exact fl_length S k t i

theorem bitAt_set (L : List UInt8) (q r j : Nat) (hq : q < L.length) (hr : r < 8) (hj : j / 8 < L.length) :
    bitAt (L.set q (L.getD q 0 ^^^ UInt8.ofNat (2 ^ r))) j = (bitAt L j ^^ decide (j = 8 * q + r)) := by
  have hp : 2 ^ r < 256 := Nat.pow_lt_pow_right (a := 2) (m := r) (n := 8) (by omega) hr
  have e : (UInt8.ofNat (2 ^ r)).toNat = 2 ^ r := by rw [toNat_ofNat, Nat.mod_eq_of_lt hp]
  unfold bitAt
  by_cases hjq : j / 8 = q
  · have e1 : (L.set q (L.getD q 0 ^^^ UInt8.ofNat (2 ^ r))).getD (j / 8) 0 = L.getD q 0 ^^^ UInt8.ofNat (2 ^ r) := by
      rw [hjq]
      simp [List.getD, hq]
    rw [e1, UInt8.toNat_xor, Nat.testBit_xor, e, hjq, Nat.testBit_two_pow]
    congr 1
    rw [Bool.eq_iff_iff]
    simp only [decide_eq_true_eq]
    omega
  · have e1 : (L.set q (L.getD q 0 ^^^ UInt8.ofNat (2 ^ r))).getD (j / 8) 0 = L.getD (j / 8) 0 := by
      simp [List.getD, Ne.symm hjq]
    have e2 : decide (j = 8 * q + r) = false := by
      rw [decide_eq_false_iff_not]
      omega
    rw [e1, e2, Bool.xor_false]

theorem fl_bits (S : List UInt8) (k t : Nat) : ∀ (i : Nat), k + i ≤ 8 * S.length → ∀ j, j < 8 * S.length → bitAt (fl S k t i) j = (bitAt S j ^^ (decide (k ≤ j) && decide (j < k + i) && t.testBit (j - k)))
  | 0, _, j, _ => by
    have e : (decide (k ≤ j) && decide (j < k + 0) && t.testBit (j - k)) = false := by
      by_cases h : k ≤ j
      · have h2 : decide (j < k + 0) = false := by rw [decide_eq_false_iff_not]; omega
        rw [h2, Bool.and_false, Bool.false_and]
      · simp [h]
    rw [e, Bool.xor_false]
    rfl
  | i + 1, hi, j, hj => by
    have ih := fl_bits S k t i (by omega) j hj
    have hl := fl_length S k t i
    rw [fl]
    by_cases ht : t.testBit i = true
    · rw [if_pos ht, bitAt_set _ _ _ _ (by rw [hl]; omega) (by omega) (by rw [hl]; omega), ih]
      by_cases hji : j = k + i
      · have e1 : decide (j = 8 * ((k + i) / 8) + (k + i) % 8) = true := by rw [decide_eq_true_eq]; omega
        have e2 : ¬ j < k + i := by omega
        have e3 : k ≤ j := by omega
        have e4 : j < k + (i + 1) := by omega
        have e5 : j - k = i := by omega
        rw [e1, e5, ht]
        simp [e2, e3, e4]
      · have e1 : decide (j = 8 * ((k + i) / 8) + (k + i) % 8) = false := by rw [decide_eq_false_iff_not]; omega
        have e2 : (j < k + (i + 1)) ↔ (j < k + i) := by omega
        rw [e1, Bool.xor_false]
        simp only [e2]
    · rw [if_neg ht, ih]
      by_cases hji : j = k + i
      · have e5 : j - k = i := by omega
        have e6 : t.testBit i = false := by simpa using ht
        rw [e5, e6, Bool.and_false, Bool.and_false]
      · have e2 : (j < k + (i + 1)) ↔ (j < k + i) := by omega
        simp only [e2]

theorem leN_append : ∀ (a b : List UInt8), leN (a ++ b) = leN a + 256 ^ a.length * leN b
  | [], b => by simp [leN]
  | x :: a, b => by
    have e : leN (x :: a ++ b) = x.toNat + 256 * leN (a ++ b) := rfl
    rw [e, leN_append a b, leN, List.length_cons, Nat.pow_succ, Nat.mul_comm (256 ^ a.length) 256, Nat.mul_add, Nat.mul_assoc, Nat.add_assoc]

theorem leN_take (bs : List UInt8) (j : Nat) (h : j < bs.length) : leN (bs.take (j + 1)) = leN (bs.take j) + (bs.getD j 0).toNat * 256 ^ j := by
  rw [List.take_succ_eq_append_getElem h, leN_append, List.length_take, Nat.min_eq_left (by omega), Nat.mul_comm]
  simp [List.getD, List.getElem?_eq_getElem h, leN]
end Go.Proofs.Ytkmlgfmpcglfeaa

/-
  The contracts of a nil tape.
-/
namespace Go.Proofs.Ytkmlgfmpcglfeaa
open Go.RowKit
set_option linter.unusedVariables false

set_option maxRecDepth 4000 in
set_option maxHeartbeats 400000 in
theorem app8_nil (a : Option Addr) (n c : Nat) (w : World) : Calls Try.prog 16 #[.pointer none, .slice a n c] w fun e w' => e = .returned (.int .i64 1) ∧ w = w' := by
  go_enter Try.func16, Try.ntmps16
  go_wp2
  go_ret
  exact ⟨rfl, rfl⟩
set_option maxRecDepth 4000 in
set_option maxHeartbeats 400000 in
theorem sync8_nil  (w : World) : Calls Try.prog 17 #[.pointer none] w fun e w' => e = .returned (.int .i64 1) ∧ w = w' := by
  go_enter Try.func17, Try.ntmps17
  go_wp2
  go_ret
  exact ⟨rfl, rfl⟩
set_option maxRecDepth 4000 in
set_option maxHeartbeats 400000 in
theorem cut8_nil (n : Int) (w : World) : Calls Try.prog 20 #[.pointer none, .int .i64 n] w fun e w' => e = .returned (.int .i64 1) ∧ w = w' := by
  go_enter Try.func20, Try.ntmps20
  go_wp2
  go_ret
  exact ⟨rfl, rfl⟩
set_option maxRecDepth 4000 in
set_option maxHeartbeats 400000 in
theorem chop8_nil (n : Int) (w : World) : Calls Try.prog 21 #[.pointer none, .int .i64 n] w fun e w' => e = .returned (.int .i64 1) ∧ w = w' := by
  go_enter Try.func21, Try.ntmps21
  go_wp2
  go_ret
  exact ⟨rfl, rfl⟩
set_option maxRecDepth 4000 in
set_option maxHeartbeats 400000 in
theorem crash8_nil (n : Int) (w : World) : Calls Try.prog 19 #[.pointer none, .int .i64 n] w fun e w' => e = .returned (.tuple #[]) ∧ w = w' := by
  go_enter Try.func19, Try.ntmps19
  go_wp2
  refine bodyPost_ret (results_none rfl _ _ _) rfl ?_
  exact ⟨rfl, rfl⟩
set_option maxRecDepth 4000 in
set_option maxHeartbeats 400000 in
theorem len8_nil  (w : World) : Calls Try.prog 15 #[.pointer none] w fun e w' => e = .returned (.int .i64 0) ∧ w = w' := by
  go_enter Try.func15, Try.ntmps15
  go_wp2
  go_ret
  exact ⟨rfl, rfl⟩
set_option maxRecDepth 4000 in
set_option maxHeartbeats 400000 in
theorem synced8_nil  (w : World) : Calls Try.prog 18 #[.pointer none] w fun e w' => e = .returned (.int .i64 0) ∧ w = w' := by
  go_enter Try.func18, Try.ntmps18
  go_wp2
  go_ret
  exact ⟨rfl, rfl⟩
set_option maxRecDepth 4000 in
set_option maxHeartbeats 400000 in
theorem start8_nil  (w : World) : Calls Try.prog 22 #[.pointer none] w fun e w' => e = .returned (.int .u64 0) ∧ w = w' := by
  go_enter Try.func22, Try.ntmps22
  go_wp2
  go_ret
  exact ⟨rfl, rfl⟩
set_option maxRecDepth 4000 in
set_option maxHeartbeats 400000 in
theorem room8_nil  (w : World) : Calls Try.prog 23 #[.pointer none] w fun e w' => e = .returned (.int .i64 0) ∧ w = w' := by
  go_enter Try.func23, Try.ntmps23
  go_wp2
  go_ret
  exact ⟨rfl, rfl⟩
set_option maxRecDepth 4000 in
set_option maxHeartbeats 400000 in
theorem bytes8_nil  (w : World) : Calls Try.prog 14 #[.pointer none] w fun e w' => e = .returned (.slice none 0 0) ∧ w = w' := by
  go_enter Try.func14, Try.ntmps14
  go_wp2
  go_ret
  exact ⟨rfl, rfl⟩
end Go.Proofs.Ytkmlgfmpcglfeaa
