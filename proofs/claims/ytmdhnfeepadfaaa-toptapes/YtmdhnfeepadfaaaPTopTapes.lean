/-
  A log's lives, one behind the other, each ended by a crash: behind each opening there is a beginning of what was there and was appended, with all that was synced; the numbers rise over all lives; and the tape's bytes are just the records' frames. TopTapes returns true for every input, and its arguments read as before.
  Condition: none but those that the form of every such statement bears by itself (each string within the reach).
-/
import Derived.Test.YtmdhnfeepadfaaaRows
import Derived.ProofKit
import Derived.OpenShut
import Derived.ShutString
import Derived.SizedLaws
import Derived.JoinedCond
import Derived.Test.YtmdhnfeepadfaaaK16
import Derived.Test.YtmdhnfeepadfaaaK15

/-
  The walk of TopTapes. (gen12/tops.py)
-/
namespace Go.Proofs.Ytmdhnfeepadfaaa.topTapes
open Go.RowKit
set_option linter.unusedVariables false

theorem infoLf : (Try.prog.info? 66).map (·.size) = some 4 := by kernel_rfl
/-- The lives, as they came in. -/
structure ScrL (w0 : World) (v : Value) (cs : List Lf) : Prop where
  rows : RowsIn lfA Lf.zero 4 w0 v cs
  fits : ∀ c ∈ cs, c.fits w0
  cap : ∀ a len cap, v = .slice a len cap → len ≤ cap
theorem ScrL.at {w0 : World} {a : Option Addr} {len cap : Nat} {cs : List Lf} (h : ScrL w0 (.slice a len cap) cs) {j : Nat} (hj : j < cs.length) : ∃ b off, a = some ⟨b, off, none⟩ ∧ (∀ x, Below w0.heap.size w0 x → (Instr.loadAt 66 (.pointer (some ⟨b, off + j * 4, none⟩))).run Try.prog x = .ok (.agg (lfA (cs.getD j Lf.zero))) x) ∧ (cs.getD j Lf.zero).fits w0 := by
  obtain ⟨a', cap', e, h2⟩ := h.rows
  injection e with e1 e2 e3
  subst e1
  obtain ⟨b, off, h3, h4, h5⟩ := h2 (by omega)
  subst h3
  refine ⟨b, off, rfl, fun x p => ?_, h.fits _ ?_⟩
  · have h1 := run_loadAt_mid (P := Try.prog) x b (off + j * 4) 66 (lfA (cs.getD j Lf.zero)).toList _ (rangeAt_below (h5 j hj) p h4) Try.underlying66 rfl (by rw [infoLf]; rfl)
    rwa [Array.toArray_toList] at h1
  · rw [List.getD_eq_getElem?_getD, List.getElem?_eq_getElem hj]
    exact List.getElem_mem hj
theorem open_newT (room : Int) (base : Nat) : (Lg.open (Tp.new room) base).l = [] := by
  have e : scanL (Tp.new room).b.data.toList = ([], 0) := by
    show scanL [] = ([], 0)
    exact scan_nil _ _
  unfold Lg.open
  rw [e]
theorem room_new : ((Tp.new 65536).m : Int) = 65536 := rfl
set_option maxRecDepth 8000 in
set_option maxHeartbeats 3200000 in
theorem long (a : Option Addr) (len cap : Nat) (w : World) (hl : 20 < len) :
    Calls Try.prog 6 #[.slice a len cap] w fun e w' => e = .returned (.bool true) ∧ Below w.heap.size w w' := by
  have il : (20 : Int) < (len : Int) := by omega
  go_enter Try.func6, Try.ntmps6
  go_wp2_with fail
  refine (new8_any 65536 w).mono ?_
  rintro e w1 ⟨rfl, h1, hb1⟩
  have H1 := hide (And.intro h1 hb1)
  clear h1 hb1
  go_wp2_with fail
  refine (room8_any _ _ _ w1 H1.out.1).mono ?_
  rw [room_new]
  rintro e w2 ⟨rfl, rfl⟩
  go_wp2_with fail
  refine (room8_any _ _ _ w1 H1.out.1).mono ?_
  rw [room_new]
  rintro e w2 ⟨rfl, rfl⟩
  go_wp2
  go_ret
  exact ⟨rfl, H1.out.2⟩
set_option maxRecDepth 8000 in
set_option maxHeartbeats 51200000 in
theorem main (v : Value) (cs : List Lf) (w : World) (hs : ScrL w v cs) (hl : cs.length ≤ 20) :
    Calls Try.prog 6 #[v] w fun e w' => e = .returned (.bool true) ∧ Below w.heap.size w w' := by
  have hs' := hs
  obtain ⟨⟨al, capl, rfl, -⟩, -, hcapl⟩ := hs'
  have hcapl := hcapl _ _ _ rfl
  have HS := hide hs
  clear hs
  obtain ⟨ln, hln⟩ : ∃ ln, ln = cs.length := ⟨_, rfl⟩
  rw [← hln] at HS hl hcapl ⊢
  have HLN := hide hln
  clear hln
  have il : ¬ (20 : Int) < (ln : Int) := by omega
  go_enter Try.func6, Try.ntmps6
  go_wp2_with fail
  refine (new8_any 65536 w).mono ?_
  rintro e w1 ⟨rfl, h1, hb1⟩
  obtain ⟨gt, hgt⟩ : ∃ gt, gt = w.heap.size := ⟨_, rfl⟩
  have H1 := hide (show TU w w1 gt (Tp.new 65536) none 0 [] ∧ msR ([] : List Rm) = (Lg.open (Tp.new 65536) 0).l from ⟨⟨⟨gt, by rw [hgt]; exact h1, by rw [hgt]; exact Nat.le_refl _⟩, by rw [hgt]; exact Nat.le_refl _, Tp.new_ok _, RB.nil _ _, hb1⟩, (open_newT 65536 0).symm⟩)
  rw [← hgt]
  clear hgt h1 hb1
  go_wp2_with fail
  refine (troom H1.out.1).mono ?_
  rw [room_new]
  rintro e w2 ⟨rfl, rfl⟩
  go_wp2
  go_loopw [4, 39] (fun v4 i wr => ∃ (j : Nat) (a : Option Addr) (cap : Nat) (ms : List Rm) (t : Tp), j ≤ ln ∧ i = .int .i64 (j : Int) ∧ v4 = .slice a ms.length cap ∧ Hid (TU w wr gt t a cap ms ∧ msR ms = (Lg.open t 0).l)) (fun _ i _ => ln - (intOf i).toNat)
  case atStart => exact ⟨0, none, 0, [], _, Nat.zero_le _, rfl, rfl, H1⟩
  case round =>
    obtain ⟨j, a, cap, ms, t, hj, rfl, rfl, HU⟩ := hrel
    clear H1
    by_cases hlt : j < ln
    · have ij : (j : Int) < (ln : Int) := by omega
      obtain ⟨bl, ofl, rfl, hld, hxf⟩ := HS.out.at (j := j) (by have := HLN.out; omega)
      obtain ⟨x, hx⟩ : ∃ x, x = cs.getD j Lf.zero := ⟨_, rfl⟩
      rw [← hx] at hld hxf
      clear hx
      have HLDX := hide hld
      have hrx := hxf.rows
      obtain ⟨ax, cx, hxv, -⟩ := hrx
      have hcx := hxf.cap _ _ _ hxv
      have hxs := hxf.s
      have hxq := hxf.q
      have HRX : Hid (RsIn w (.slice ax x.ms.length cx) x.ms) := hide (by rw [← hxv]; exact ⟨hxf.rows, hxf.recs⟩)
      obtain ⟨lx, hlx⟩ : ∃ lx, lx = x.ms.length := ⟨_, rfl⟩
      have HLX := hide hlx
      rw [← hlx] at hxv hcx HRX
      clear hld hxf hlx
      go_wp2_with fail
      refine (topen HU.out.1).mono ?_
      rintro e w2 ⟨gl, rfl, h2⟩
      obtain ⟨g, hg⟩ : ∃ g, g = Lg.open t 0 := ⟨_, rfl⟩
      have hfa : g.fa = g.l.length := by rw [hg]; rfl
      rw [← hg] at h2
      have H2 := hide (show TT w w2 gt gl g a cap ms ∧ msR ms = g.l ∧ ms.length ≤ g.fa from ⟨h2, by rw [hg]; exact HU.out.2, by rw [hfa, hg, ← HU.out.2]; simp [msR]⟩)
      clear h2 hg hfa HU
      go_wp2_with fail
      refine (trecs H2.out.1).mono ?_
      rintro e w3 ⟨⟨ar, cr, ns, rfl, hr1, hr2, hr3⟩, hb3⟩
      have H3 := hide (show TT w w3 gt gl g a cap ms ∧ msR ms = g.l ∧ ms.length ≤ g.fa from ⟨H2.out.1.later hb3, H2.out.2⟩)
      have HRL := hide (rlist_any _ _ ns ms w3 hr1 H3.out.1.all.rs (hr2.trans H3.out.2.1.symm) hr3)
      clear hb3 H2 hr1 hr2 hr3
      go_wp2_with fail
      refine HRL.out.mono ?_
      rintro e w4 ⟨rfl, hb4⟩
      have H4 := hide (show TT w w4 gt gl g a cap ms ∧ msR ms = g.l ∧ ms.length ≤ g.fa from ⟨H3.out.1.later hb4, H3.out.2⟩)
      clear hb4 H3 HRL
      go_wp2_with (with_reducible refine stop_at 65 rfl ?_)
      refine unstop10 ?_
      refine lst_load (some 65) (.agg (lfA x)) rfl rfl 66 _ rfl (.pointer (some ⟨bl, ofl + j * 4, none⟩)) rfl (HLDX.out w4 H4.out.1.bel) ?_
      try simp only [Act.put, List.setIfInBounds_toArray, List.set_cons_zero, List.set_cons_succ]
      refine lst_run (some 9) rfl rfl (.pointer (some ⟨w4.heap.size, 0, none⟩)) (w4.alloc (.cells (lfA Lf.zero) 66)) ?hz ?_
      (case hz => go_simp; try rfl)
      try simp only [Act.put, List.setIfInBounds_toArray, List.set_cons_zero, List.set_cons_succ]
      refine wpList_store_part rfl 66 (.tmp 9) (.tmp 65) rfl w4.heap.size 0 66 (lfA Lf.zero) (lfA x) rfl rfl (RowAt.new _ _ _) infoLf (by simp [lfA]) (by unfold lfA; rw [hxv]; simp [Value.oneCell']) ?_
      intro w5 h5 hO5
      rw [partA_all (lfA Lf.zero) (lfA x) (by simp [lfA])] at h5
      have hb5 : Below w4.heap.size w4 w5 := hO5.below ((Below.refl _ _).alloc (Nat.le_refl _) _) (Nat.le_refl _)
      obtain ⟨gx, hgx⟩ : ∃ gx, gx = w4.heap.size := ⟨_, rfl⟩
      rw [← hgx] at h5 ⊢
      have H5 := hide (show TT w w5 gt gl g a cap ms ∧ msR ms = g.l ∧ ms.length ≤ g.fa ∧ RowAt w5 gx 66 (lfA x) from ⟨H4.out.1.later hb5, H4.out.2.1, H4.out.2.2, h5⟩)
      clear h5 hO5 hb5 hgx H4 HLDX
      have c0 := H5.out.2.2.2.cell 0 x.v rfl
      rw [hxv] at c0
      go_wp2
      go_loopw [4, 8, 69] (fun v4 v8 i wr => ∃ (k : Nat) (a : Option Addr) (cap : Nat) (ms : List Rm) (g : Lg) (fs : Nat), k ≤ lx ∧ i = .int .i64 (k : Int) ∧ v4 = .slice a ms.length cap ∧ v8 = .int .i64 (fs : Int) ∧ Hid (TT w wr gt gl g a cap ms ∧ msR ms = g.l ∧ fs ≤ g.fa ∧ RowAt wr gx 66 (lfA x))) (fun _ _ i _ => lx - (intOf i).toNat)
      case atStart => exact ⟨0, a, cap, ms, g, ms.length, Nat.zero_le _, rfl, rfl, rfl, H5⟩
      case round =>
        clear H5 c0
        obtain ⟨k, a, cap, ms, g, fs, hk, rfl, rfl, rfl, HK⟩ := hrel
        have c0 := HK.out.2.2.2.cell 0 x.v rfl
        rw [hxv] at c0
        by_cases hkl : k < lx
        · have ik : (k : Int) < (lx : Int) := by omega
          obtain ⟨b, off, r, e1, k1, e2, k2, rfl, hm, hf, hx⟩ := HRX.out.mid (i := k) (by rw [← HLX.out]; exact hkl)
          have HX := hide (show ∀ y, Below w.heap.size w y → y.rangeAt b (off + k * 14) (rcF (r, (.slice e1 r.ts.length k1), (.slice e2 r.ds.length k2))).toList ∧ RcIn y r (.slice e1 r.ts.length k1) (.slice e2 r.ds.length k2) from hx)
          have HR := hide (And.intro hf (hx w (Below.refl _ _)).2)
          have HALL := hide (show (rcF (r, (.slice e1 r.ts.length k1), (.slice e2 r.ds.length k2))).all (·.oneCell') = true from rcF_all (r, (.slice e1 r.ts.length k1), (.slice e2 r.ds.length k2)) ⟨_, _, rfl⟩ ⟨_, _, rfl⟩)
          have d12 : wr.cell? ⟨b, off + k * 14 + 12, none⟩ = some (.slice e1 r.ts.length k1) := (HX.out wr HK.out.1.bel).1 12 _ rfl
          have d13 : wr.cell? ⟨b, off + k * 14 + 13, none⟩ = some (.slice e2 r.ds.length k2) := (HX.out wr HK.out.1.bel).1 13 _ rfl
          clear hx hm hf
          by_cases h60 : 60 ≤ k
          · have i60 : (60 : Int) ≤ (k : Int) := by omega
            have HB := hide HK.out.1.bel
            clear HK
            go_wp2
            go_ret
            exact ⟨rfl, HB.out⟩
          have i60 : ¬ (60 : Int) ≤ (k : Int) := by omega
          by_cases h20 : 20 < r.ts.length
          · have i20 : (20 : Int) < (r.ts.length : Int) := by omega
            have HB := hide HK.out.1.bel
            clear HK
            go_wp2
            go_ret
            exact ⟨rfl, HB.out⟩
          have i20 : ¬ (20 : Int) < (r.ts.length : Int) := by omega
          by_cases h40 : 40 < r.ds.length
          · have i40 : (40 : Int) < (r.ds.length : Int) := by omega
            have HB := hide HK.out.1.bel
            clear HK
            go_wp2
            go_ret
            exact ⟨rfl, HB.out⟩
          have i40 : ¬ (40 : Int) < (r.ds.length : Int) := by omega
          have HLD := hide (load_mid wr b (off + k * 14) (r, (.slice e1 r.ts.length k1), (.slice e2 r.ds.length k2)) (HX.out wr HK.out.1.bel).1)
          go_wp2_with (refine wpList_load_val rfl 28 (.tmp 99) rfl _ _ rfl HLD.out ?_)
          refine (tapp HK.out.1 r (.slice e1 r.ts.length k1) (.slice e2 r.ds.length k2) HR.out.1 HR.out.2).mono ?_
          rintro e w6 ⟨rfl, h6, s6⟩
          have H6 := hide (show TT w w6 gt gl (g.app r 0 0) a cap ms ∧ msR ms = g.l ∧ fs ≤ g.fa ∧ RowAt w6 gx 66 (lfA x) from ⟨h6, HK.out.2.1, HK.out.2.2.1, s6 _ _ HK.out.2.2.2⟩)
          clear h6 s6 HK HLD d12 d13 c0
          have c0 := H6.out.2.2.2.cell 0 x.v rfl
          rw [hxv] at c0
          by_cases hE : g.appE r 0 0 = 0
          · obtain ⟨n, hn⟩ : ∃ n, n = g.num 0 := ⟨_, rfl⟩
            have ha := g.app_yes r 0 0 hE
            rw [ha.2, hE, ← hn]
            have hgl : (g.app r 0 0).l = g.l ++ [r.put n] ∧ (g.app r 0 0).fa = g.fa := by rw [ha.1, ← hn]; exact ⟨rfl, rfl⟩
            obtain ⟨g1, hg1⟩ : ∃ g1, g1 = g.app r 0 0 := ⟨_, rfl⟩
            rw [← hg1] at hgl H6
            have HG := hide hgl
            clear ha hgl hn hg1 hE
            go_wp2_with (with_reducible refine stop_at 110 rfl ?_)
            refine unstop10 ?_
            refine lst_load (some 110) (.agg (rcF (r, (.slice e1 r.ts.length k1), (.slice e2 r.ds.length k2)))) rfl rfl 28 _ rfl (.pointer (some ⟨b, off + k * 14, none⟩)) rfl (load_mid w6 b (off + k * 14) (r, (.slice e1 r.ts.length k1), (.slice e2 r.ds.length k2)) (HX.out w6 H6.out.1.bel).1) ?_
            try simp only [Act.put, List.setIfInBounds_toArray, List.set_cons_zero, List.set_cons_succ]
            refine lst_run (some 13) rfl rfl (.pointer (some ⟨w6.heap.size, 0, none⟩)) (w6.alloc (.cells zeroA 28)) ?hz ?_
            (case hz => go_simp; try rfl)
            try simp only [Act.put, List.setIfInBounds_toArray, List.set_cons_zero, List.set_cons_succ]
            refine wpList_store_part rfl 28 (.tmp 13) (.tmp 110) rfl w6.heap.size 0 28 zeroA (rcF (r, (.slice e1 r.ts.length k1), (.slice e2 r.ds.length k2))) rfl rfl (RowAt.new _ _ _) infoRc (by simp [zeroA, rcF, rcA]) HALL.out ?_
            intro w7 h7 hO7
            rw [partA_all zeroA (rcF (r, (.slice e1 r.ts.length k1), (.slice e2 r.ds.length k2))) (by simp [zeroA, rcF, rcA])] at h7
            have hb7 : Below w6.heap.size w6 w7 := hO7.below ((Below.refl _ _).alloc (Nat.le_refl _) _) (Nat.le_refl _)
            obtain ⟨gr, hgr⟩ : ∃ gr, gr = w6.heap.size := ⟨_, rfl⟩
            rw [← hgr] at h7 ⊢
            have x1 := h7.cell 1 (.int .u64 (r.l : Int)) rfl
            have f1 := h7.free 1
            have hb8 : Below w6.heap.size w6 (w7.setCell ⟨gr, 1, none⟩ (.int .u64 (n : Int))) := hb7.setCell (by rw [hgr]; exact Nat.le_refl _) _
            have H8 := hide (show TT w (w7.setCell ⟨gr, 1, none⟩ (.int .u64 (n : Int))) gt gl g1 a cap ms ∧ RowAt (w7.setCell ⟨gr, 1, none⟩ (.int .u64 (n : Int))) gr 28 (rcF (r.put n, (.slice e1 r.ts.length k1), (.slice e2 r.ds.length k2))) ∧ RowAt (w7.setCell ⟨gr, 1, none⟩ (.int .u64 (n : Int))) gx 66 (lfA x) from ⟨H6.out.1.later hb8, h7.set 1 _, H6.out.2.2.2.later hb8⟩)
            have HQ := hide (And.intro H6.out.2.1 H6.out.2.2.1)
            clear h7 hO7 hb7 hb8 hgr H6
            go_wp2_with (with_reducible refine stop_at 114 rfl ?_)
            obtain ⟨w8, hw8⟩ : ∃ w8, w8 = w7.setCell ⟨gr, 1, none⟩ (.int .u64 (n : Int)) := ⟨_, rfl⟩
            rw [← hw8] at H8 ⊢
            clear hw8 x1 f1
            refine unstop10 ?_
            refine lst_load (some 114) (.agg #[.int .i64 r.k, .int .u64 (n : Int), .int .i64 r.t, .int .u64 (r.p : Int), .int .i64 r.c.k, .int .i64 r.c.pg, .int .i64 r.c.sl, .string r.c.o, .string r.c.n, .int .u64 (r.n : Int), .int .i64 r.s, .int .u64 (r.b : Int), (.slice e1 r.ts.length k1), (.slice e2 r.ds.length k2)]) rfl rfl 28 _ rfl (.pointer (some ⟨gr, 0, none⟩)) rfl (show (Instr.loadAt 28 (.pointer (some ⟨gr, 0, none⟩))).run Try.prog w8 = .ok (.agg #[.int .i64 r.k, .int .u64 (n : Int), .int .i64 r.t, .int .u64 (r.p : Int), .int .i64 r.c.k, .int .i64 r.c.pg, .int .i64 r.c.sl, .string r.c.o, .string r.c.n, .int .u64 (r.n : Int), .int .i64 r.s, .int .u64 (r.b : Int), (.slice e1 r.ts.length k1), (.slice e2 r.ds.length k2)]) w8 from load_row _ H8.out.2.1 Try.underlying28 rfl infoRc) ?_
            try simp only [Act.put, List.setIfInBounds_toArray, List.set_cons_zero, List.set_cons_succ]
            refine lst_run (some 115) rfl rfl (.slice (some ⟨w8.heap.size, 0, none⟩) 1 1) (w8.alloc (.cells #[.int .i64 r.k, .int .u64 (n : Int), .int .i64 r.t, .int .u64 (r.p : Int), .int .i64 r.c.k, .int .i64 r.c.pg, .int .i64 r.c.sl, .string r.c.o, .string r.c.n, .int .u64 (r.n : Int), .int .i64 r.s, .int .u64 (r.b : Int), (.slice e1 r.ts.length k1), (.slice e2 r.ds.length k2)] 28)) ?hz ?_
            (case hz => go_simp)
            try simp only [Act.put, List.setIfInBounds_toArray, List.set_cons_zero, List.set_cons_succ]
            have hb9 : Below w8.heap.size w8 (w8.alloc (.cells #[.int .i64 r.k, .int .u64 (n : Int), .int .i64 r.t, .int .u64 (r.p : Int), .int .i64 r.c.k, .int .i64 r.c.pg, .int .i64 r.c.sl, .string r.c.o, .string r.c.n, .int .u64 (r.n : Int), .int .i64 r.s, .int .u64 (r.b : Int), (.slice e1 r.ts.length k1), (.slice e2 r.ds.length k2)] 28)) := (Below.refl _ _).alloc (Nat.le_refl _) _
            have hfew := few_recs g1 H8.out.1.ok
            have hml : ms.length + 1 = g1.l.length := by
              rw [HG.out.1, List.length_append, List.length_singleton, ← HQ.out.1]
              simp [msR]
            obtain ⟨a', cap', w10, q1, q2, q3⟩ := (H8.out.1.later hb9).push (r.put n, (.slice e1 r.ts.length k1), (.slice e2 r.ds.length k2)) w8.heap.size 1 (show RowAt (w8.alloc (.cells #[.int .i64 r.k, .int .u64 (n : Int), .int .i64 r.t, .int .u64 (r.p : Int), .int .i64 r.c.k, .int .i64 r.c.pg, .int .i64 r.c.sl, .string r.c.o, .string r.c.n, .int .u64 (r.n : Int), .int .i64 r.s, .int .u64 (r.b : Int), (.slice e1 r.ts.length k1), (.slice e2 r.ds.length k2)] 28)) w8.heap.size 28 (rcF (r.put n, (.slice e1 r.ts.length k1), (.slice e2 r.ds.length k2))) from RowAt.new w8 _ #[.int .i64 r.k, .int .u64 (n : Int), .int .i64 r.t, .int .u64 (r.p : Int), .int .i64 r.c.k, .int .i64 r.c.pg, .int .i64 r.c.sl, .string r.c.o, .string r.c.n, .int .u64 (r.n : Int), .int .i64 r.s, .int .u64 (r.b : Int), (.slice e1 r.ts.length k1), (.slice e2 r.ds.length k2)]) ⟨HR.out.1.c, HR.out.1.tl, HR.out.1.dl, HR.out.1.ts, HR.out.1.ds⟩ HR.out.2 (by omega)
            have hlen : (ms ++ [((r.put n, (.slice e1 r.ts.length k1), (.slice e2 r.ds.length k2)) : Rm)]).length = ms.length + 1 := by rw [List.length_append, List.length_singleton]
            have H10 := hide (show TT w w10 gt gl g1 a' cap' (ms ++ [((r.put n, (.slice e1 r.ts.length k1), (.slice e2 r.ds.length k2)) : Rm)]) ∧ msR (ms ++ [((r.put n, (.slice e1 r.ts.length k1), (.slice e2 r.ds.length k2)) : Rm)]) = g1.l ∧ fs ≤ g1.fa ∧ RowAt w10 gx 66 (lfA x) from ⟨q2, by rw [HG.out.1, msR_snoc, HQ.out.1], by rw [HG.out.2]; exact HQ.out.2, q3 _ _ (H8.out.2.2.later hb9)⟩)
            refine lst_run (some 116) rfl rfl (.slice a' (ms.length + 1) cap') w10 (exec_appendT _ _ _ _ rfl _ _ rfl rfl q1) ?_
            try simp only [Act.put, List.setIfInBounds_toArray, List.set_cons_zero, List.set_cons_succ]
            clear q1 q2 q3 hb9 hfew hml H8 HG HQ
            go_wp2_with (with_reducible refine stop_at 120 rfl ?_)
            refine unstop10 ?_
            by_cases hq1 : k + 1 = x.s
            · have s1 : (k : Int) + 1 = (x.s : Int) := by omega
              have b1 : ((k : Int) + 1 == (x.s : Int)) = true := by simpa using s1
              have c1 := H10.out.2.2.2.cell 1 (.int .u8 (x.s : Int)) rfl
              clear s1
              go_wp2_with fail
              refine (twrite H10.out.1).mono ?_
              rintro e w20 ⟨rfl, h20, s20⟩
              have H20 := hide (And.intro h20 (And.intro H10.out.2.1 (s20 _ _ H10.out.2.2.2)))
              clear h20 s20 H10 c1
              go_wp2_with fail
              refine (tsync H20.out.1).mono ?_
              rintro e w21 ⟨rfl, h21, s21⟩
              have H21 := hide (show TT w w21 gt gl g1.write.sync a' cap' (ms ++ [((r.put n, (.slice e1 r.ts.length k1), (.slice e2 r.ds.length k2)) : Rm)]) ∧ msR (ms ++ [((r.put n, (.slice e1 r.ts.length k1), (.slice e2 r.ds.length k2)) : Rm)]) = g1.write.sync.l ∧ (ms.length + 1) ≤ g1.write.sync.fa ∧ RowAt w21 gx 66 (lfA x) from ⟨h21, H20.out.2.1, by have e := congrArg List.length H20.out.2.1; rw [show (msR (ms ++ [((r.put n, (.slice e1 r.ts.length k1), (.slice e2 r.ds.length k2)) : Rm)])).length = (ms ++ [((r.put n, (.slice e1 r.ts.length k1), (.slice e2 r.ds.length k2)) : Rm)]).length by simp [msR]] at e; show (ms.length + 1) ≤ g1.l.length; (try simp only [List.length_append, List.length_singleton] at e); omega, s21 _ _ H20.out.2.2⟩)
              clear h21 s21 H20
              go_wp2_with (with_reducible refine stop_at 136 rfl ?_)
              refine unstop10 ?_
              by_cases hq2 : k + 1 = x.q
              · have s2 : (k : Int) + 1 = (x.q : Int) := by omega
                have b2 : ((k : Int) + 1 == (x.q : Int)) = true := by simpa using s2
                have c2 := H21.out.2.2.2.cell 2 (.int .u8 (x.q : Int)) rfl
                clear s2
                go_wp2_with fail
                refine (twrite H21.out.1).mono ?_
                rintro e w30 ⟨rfl, h30, s30⟩
                have H30 := hide (show TT w w30 gt gl g1.write.sync.write a' cap' (ms ++ [((r.put n, (.slice e1 r.ts.length k1), (.slice e2 r.ds.length k2)) : Rm)]) ∧ msR (ms ++ [((r.put n, (.slice e1 r.ts.length k1), (.slice e2 r.ds.length k2)) : Rm)]) = g1.write.sync.write.l ∧ (ms.length + 1) ≤ g1.write.sync.write.fa ∧ RowAt w30 gx 66 (lfA x) from ⟨h30, H21.out.2.1, H21.out.2.2.1, s30 _ _ H21.out.2.2.2⟩)
                clear h30 s30 H21 c2
                go_wp2
                go_roundw
                case rel => exact ⟨k + 1, a', cap', (ms ++ [((r.put n, (.slice e1 r.ts.length k1), (.slice e2 r.ds.length k2)) : Rm)]), g1.write.sync.write, (ms.length + 1), by omega, by go_num, by rw [hlen], rfl, H30⟩
                case measure => simp [intOf]; omega
              · have s2 : ¬ (k : Int) + 1 = (x.q : Int) := by omega
                have b2 : ((k : Int) + 1 == (x.q : Int)) = false := by simpa using s2
                have c2 := H21.out.2.2.2.cell 2 (.int .u8 (x.q : Int)) rfl
                clear s2
                go_wp2
                go_roundw
                case rel => exact ⟨k + 1, a', cap', (ms ++ [((r.put n, (.slice e1 r.ts.length k1), (.slice e2 r.ds.length k2)) : Rm)]), g1.write.sync, (ms.length + 1), by omega, by go_num, by rw [hlen], rfl, H21⟩
                case measure => simp [intOf]; omega
            · have s1 : ¬ (k : Int) + 1 = (x.s : Int) := by omega
              have b1 : ((k : Int) + 1 == (x.s : Int)) = false := by simpa using s1
              have c1 := H10.out.2.2.2.cell 1 (.int .u8 (x.s : Int)) rfl
              clear s1
              go_wp2_with (with_reducible refine stop_at 136 rfl ?_)
              refine unstop10 ?_
              clear c1
              by_cases hq2 : k + 1 = x.q
              · have s2 : (k : Int) + 1 = (x.q : Int) := by omega
                have b2 : ((k : Int) + 1 == (x.q : Int)) = true := by simpa using s2
                have c2 := H10.out.2.2.2.cell 2 (.int .u8 (x.q : Int)) rfl
                clear s2
                go_wp2_with fail
                refine (twrite H10.out.1).mono ?_
                rintro e w30 ⟨rfl, h30, s30⟩
                have H30 := hide (show TT w w30 gt gl g1.write a' cap' (ms ++ [((r.put n, (.slice e1 r.ts.length k1), (.slice e2 r.ds.length k2)) : Rm)]) ∧ msR (ms ++ [((r.put n, (.slice e1 r.ts.length k1), (.slice e2 r.ds.length k2)) : Rm)]) = g1.write.l ∧ fs ≤ g1.write.fa ∧ RowAt w30 gx 66 (lfA x) from ⟨h30, H10.out.2.1, H10.out.2.2.1, s30 _ _ H10.out.2.2.2⟩)
                clear h30 s30 H10 c2
                go_wp2
                go_roundw
                case rel => exact ⟨k + 1, a', cap', (ms ++ [((r.put n, (.slice e1 r.ts.length k1), (.slice e2 r.ds.length k2)) : Rm)]), g1.write, fs, by omega, by go_num, by rw [hlen], rfl, H30⟩
                case measure => simp [intOf]; omega
              · have s2 : ¬ (k : Int) + 1 = (x.q : Int) := by omega
                have b2 : ((k : Int) + 1 == (x.q : Int)) = false := by simpa using s2
                have c2 := H10.out.2.2.2.cell 2 (.int .u8 (x.q : Int)) rfl
                clear s2
                go_wp2
                go_roundw
                case rel => exact ⟨k + 1, a', cap', (ms ++ [((r.put n, (.slice e1 r.ts.length k1), (.slice e2 r.ds.length k2)) : Rm)]), g1, fs, by omega, by go_num, by rw [hlen], rfl, H10⟩
                case measure => simp [intOf]; omega
          · have ha := g.app_no r 0 0 hE
            rw [ha.2]
            rw [ha.1] at H6
            obtain ⟨E, hEE⟩ : ∃ E, E = g.appE r 0 0 := ⟨_, rfl⟩
            rw [← hEE] at hE ⊢
            have bE : (E == 0) = false := by simpa using hE
            have H10 := H6
            clear ha hEE hE H6
            go_wp2_with (with_reducible refine stop_at 120 rfl ?_)
            refine unstop10 ?_
            by_cases hq1 : k + 1 = x.s
            · have s1 : (k : Int) + 1 = (x.s : Int) := by omega
              have b1 : ((k : Int) + 1 == (x.s : Int)) = true := by simpa using s1
              have c1 := H10.out.2.2.2.cell 1 (.int .u8 (x.s : Int)) rfl
              clear s1
              go_wp2_with fail
              refine (twrite H10.out.1).mono ?_
              rintro e w20 ⟨rfl, h20, s20⟩
              have H20 := hide (And.intro h20 (And.intro H10.out.2.1 (s20 _ _ H10.out.2.2.2)))
              clear h20 s20 H10 c1
              go_wp2_with fail
              refine (tsync H20.out.1).mono ?_
              rintro e w21 ⟨rfl, h21, s21⟩
              have H21 := hide (show TT w w21 gt gl g.write.sync a cap ms ∧ msR ms = g.write.sync.l ∧ ms.length ≤ g.write.sync.fa ∧ RowAt w21 gx 66 (lfA x) from ⟨h21, H20.out.2.1, by have e := congrArg List.length H20.out.2.1; rw [show (msR ms).length = ms.length by simp [msR]] at e; show ms.length ≤ g.l.length; (try simp only [List.length_append, List.length_singleton] at e); omega, s21 _ _ H20.out.2.2⟩)
              clear h21 s21 H20
              go_wp2_with (with_reducible refine stop_at 136 rfl ?_)
              refine unstop10 ?_
              by_cases hq2 : k + 1 = x.q
              · have s2 : (k : Int) + 1 = (x.q : Int) := by omega
                have b2 : ((k : Int) + 1 == (x.q : Int)) = true := by simpa using s2
                have c2 := H21.out.2.2.2.cell 2 (.int .u8 (x.q : Int)) rfl
                clear s2
                go_wp2_with fail
                refine (twrite H21.out.1).mono ?_
                rintro e w30 ⟨rfl, h30, s30⟩
                have H30 := hide (show TT w w30 gt gl g.write.sync.write a cap ms ∧ msR ms = g.write.sync.write.l ∧ ms.length ≤ g.write.sync.write.fa ∧ RowAt w30 gx 66 (lfA x) from ⟨h30, H21.out.2.1, H21.out.2.2.1, s30 _ _ H21.out.2.2.2⟩)
                clear h30 s30 H21 c2
                go_wp2
                go_roundw
                case rel => exact ⟨k + 1, a, cap, ms, g.write.sync.write, ms.length, by omega, by go_num, rfl, rfl, H30⟩
                case measure => simp [intOf]; omega
              · have s2 : ¬ (k : Int) + 1 = (x.q : Int) := by omega
                have b2 : ((k : Int) + 1 == (x.q : Int)) = false := by simpa using s2
                have c2 := H21.out.2.2.2.cell 2 (.int .u8 (x.q : Int)) rfl
                clear s2
                go_wp2
                go_roundw
                case rel => exact ⟨k + 1, a, cap, ms, g.write.sync, ms.length, by omega, by go_num, rfl, rfl, H21⟩
                case measure => simp [intOf]; omega
            · have s1 : ¬ (k : Int) + 1 = (x.s : Int) := by omega
              have b1 : ((k : Int) + 1 == (x.s : Int)) = false := by simpa using s1
              have c1 := H10.out.2.2.2.cell 1 (.int .u8 (x.s : Int)) rfl
              clear s1
              go_wp2_with (with_reducible refine stop_at 136 rfl ?_)
              refine unstop10 ?_
              clear c1
              by_cases hq2 : k + 1 = x.q
              · have s2 : (k : Int) + 1 = (x.q : Int) := by omega
                have b2 : ((k : Int) + 1 == (x.q : Int)) = true := by simpa using s2
                have c2 := H10.out.2.2.2.cell 2 (.int .u8 (x.q : Int)) rfl
                clear s2
                go_wp2_with fail
                refine (twrite H10.out.1).mono ?_
                rintro e w30 ⟨rfl, h30, s30⟩
                have H30 := hide (show TT w w30 gt gl g.write a cap ms ∧ msR ms = g.write.l ∧ fs ≤ g.write.fa ∧ RowAt w30 gx 66 (lfA x) from ⟨h30, H10.out.2.1, H10.out.2.2.1, s30 _ _ H10.out.2.2.2⟩)
                clear h30 s30 H10 c2
                go_wp2
                go_roundw
                case rel => exact ⟨k + 1, a, cap, ms, g.write, fs, by omega, by go_num, rfl, rfl, H30⟩
                case measure => simp [intOf]; omega
              · have s2 : ¬ (k : Int) + 1 = (x.q : Int) := by omega
                have b2 : ((k : Int) + 1 == (x.q : Int)) = false := by simpa using s2
                have c2 := H10.out.2.2.2.cell 2 (.int .u8 (x.q : Int)) rfl
                clear s2
                go_wp2
                go_roundw
                case rel => exact ⟨k + 1, a, cap, ms, g, fs, by omega, by go_num, rfl, rfl, H10⟩
                case measure => simp [intOf]; omega
        · have ik : ¬ (k : Int) < (lx : Int) := by omega
          have c3 := HK.out.2.2.2.cell 3 (.int .i64 x.k) rfl
          go_wp2_with fail
          refine (tcrash HK.out.1.tape x.k).mono ?_
          rintro e w12 ⟨rfl, h12⟩
          obtain ⟨i, hi1, hi2, hi3, -⟩ := g.crashed HK.out.1.ok x.k 0
          have hion := HK.out.1.ok.on
          obtain ⟨t', ht'⟩ : ∃ t', t' = g.t.crash x.k := ⟨_, rfl⟩
          rw [← ht'] at h12 hi3
          have H12 := hide h12
          have HI := hide (show msR ms = g.l ∧ fs ≤ i ∧ i ≤ g.l.length ∧ (Lg.open t' 0).l = g.l.take i from ⟨HK.out.2.1, Nat.le_trans HK.out.2.2.1 hi2, Nat.le_trans hi1 hion, hi3⟩)
          have HFW := hide (few_recs g HK.out.1.ok)
          clear h12 hi1 hi2 hi3 hion ht' HK c3 c0
          go_wp2_with fail
          refine (tbytes H12.out).mono ?_
          rintro e w13 ⟨ab, cb, rfl, hcb, hib, hb13⟩
          have H13 := hide (H12.out.later hb13)
          have HBS := hide (And.intro hib hcb)
          clear hib hcb hb13 H12
          have hbz : t'.b.size ≤ 65536 := Nat.le_trans H13.out.ok.few H13.out.ok.room
          go_wp2_with fail
          refine (scan7_any ab t'.b.size cb t'.b.data.toList w13 HBS.out.1 (by omega) HBS.out.2).mono ?_
          rintro e w14 ⟨v9, ns, rfl, hn1, hn2, hn3, hb14⟩
          have H14 := hide (H13.out.later hb14)
          have HNS := hide (RsIn.own hn2 hn3)
          obtain ⟨av, cv, rfl⟩ := own_shape5 hn2
          have hnl : ns.length = i := by
            have e := congrArg List.length hn1
            rw [show (scanL t'.b.data.toList).1 = g.l.take i from HI.out.2.2.2, List.length_take, Nat.min_eq_left HI.out.2.2.1] at e
            simpa [msR] using e
          have hsn : ((scanL t'.b.data.toList).2 : Int) ≤ (t'.b.size : Int) := by
            have e := (scan_again (t'.b.data.toList.length + 1) 0 t'.b.data.toList).2.2
            rw [data_length] at e
            have e2 : (scanL t'.b.data.toList).2 ≤ t'.b.size := by unfold scanL; rw [data_length]; exact e
            omega
          have hn4 : msR ns = g.l.take i := by rw [hn1]; exact HI.out.2.2.2
          have HN4 := hide hn4
          subst hnl
          obtain ⟨S, hS⟩ : ∃ S : Nat, S = (scanL t'.b.data.toList).2 := ⟨_, rfl⟩
          rw [← hS] at hsn ⊢
          generalize decide (S = t'.b.size) = Dq
          have hmi : ns.length ≤ ms.length := by
            have e := congrArg List.length HI.out.1
            rw [show (msR ms).length = ms.length by simp [msR]] at e
            have := HI.out.2.2.1
            omega
          have hfi : ¬ (ns.length : Int) < (fs : Int) := by have := HI.out.2.1; omega
          have hmi2 : ¬ (ms.length : Int) < (ns.length : Int) := by omega
          have hsn2 : ¬ (t'.b.size : Int) < (S : Int) := by omega
          have hmc := H14.out.all.cap
          have hmz : ms.length ≤ 20000 := by
            have e := congrArg List.length HI.out.1
            rw [show (msR ms).length = ms.length by simp [msR]] at e
            have := HFW.out
            omega
          clear hn1 hn2 hn3 hb14 H13 HBS hS hn4
          go_wp2_with fail
          refine (tlen H14.out).mono ?_
          rintro e w15 ⟨rfl, rfl⟩
          rcases a with _ | ⟨ba, oa, za⟩
          · have hms0 : ms = [] := by
              rcases H14.out.all.1 with ⟨_, h2, _⟩ | ⟨b9, o9, c9, h9, _⟩
              · exact h2
              · cases h9
            have hcap0 : cap = 0 := by
              rcases H14.out.all.1 with ⟨_, _, h2⟩ | ⟨b9, o9, c9, h9, _⟩
              · exact h2
              · cases h9
            subst hms0 hcap0
            have hns0 : ns = [] := List.eq_nil_of_length_eq_zero (by have := hmi; simp only [List.length_nil] at this; omega)
            subst hns0
            go_wp2_with fail
            refine (rlist_any _ _ [] ([] : List Rm) w14 HNS.out H14.out.all.rs rfl (by decide)).mono ?_
            rintro e w16 ⟨rfl, hb16⟩
            have H16 := hide (show TU w w16 gt t' none 0 ([] : List Rm) ∧ msR ([] : List Rm) = (Lg.open t' 0).l from ⟨(show TU w w14 gt t' none 0 ([] : List Rm) from ⟨H14.out.tp, H14.out.low, H14.out.ok, H14.out.all, H14.out.bel⟩).later hb16, by rw [HI.out.2.2.2]; rfl⟩)
            clear hb16 H14
            go_wp2
            go_roundw
            case rel => exact ⟨j + 1, none, 0, [], t', by omega, by go_num, rfl, H16⟩
            case measure => simp [intOf]; omega
          · obtain rfl : za = none := by
              rcases H14.out.all.1 with ⟨h9, _⟩ | ⟨b9, o9, c9, h9, _⟩
              · cases h9
              · injection h9 with h9
                injection h9
            go_wp2_with fail
            refine (rlist_any _ _ ns (ms.take ns.length) w14 HNS.out (by have e := (H14.out.all.take hmi).rs; rw [List.length_take, Nat.min_eq_left hmi] at e; exact e) (by rw [HN4.out, msR_take, HI.out.1]) (by omega)).mono ?_
            rintro e w16 ⟨rfl, hb16⟩
            have H16 := hide (show TU w w16 gt t' (some ⟨ba, oa, none⟩) cap (ms.take ns.length) ∧ msR (ms.take ns.length) = (Lg.open t' 0).l from ⟨(show TU w w14 gt t' (some ⟨ba, oa, none⟩) cap (ms.take ns.length) from ⟨H14.out.tp, H14.out.low, H14.out.ok, H14.out.all.take hmi, H14.out.bel⟩).later hb16, by rw [msR_take, HI.out.1, HI.out.2.2.2]⟩)
            have hli : (ms.take ns.length).length = ns.length := by rw [List.length_take, Nat.min_eq_left hmi]
            clear hb16 H14
            go_wp2
            go_roundw
            case rel => exact ⟨j + 1, (some ⟨ba, oa, none⟩), cap, ms.take ns.length, t', by omega, by go_num, by rw [hli], H16⟩
            case measure => simp [intOf]; omega
    · have ij : ¬ (j : Int) < (ln : Int) := by omega
      go_wp2_with fail
      refine (tb_any w wr gt t a cap ms HU.out.1 HU.out.2).mono ?_
      rintro e w40 ⟨rfl, hb40⟩
      have HB := hide hb40
      clear hb40 HU
      go_wp2
      go_ret
      exact ⟨rfl, HB.out⟩
theorem walk (v : Value) (cs : List Lf) (w : World) (h1 : RowsIn lfA Lf.zero 4 w v cs) (_ : cs.length ≤ maxLen) (h3 : ∀ c ∈ cs, c.fits w) (h4 : ∀ a len cap, v = .slice a len cap → len ≤ cap) :
    Calls Try.prog 6 #[v] w fun e w' => e = .returned (.bool true) ∧ Below w.heap.size w w' := by
  by_cases hl : cs.length ≤ 20
  · exact main v cs w ⟨h1, h3, h4⟩ hl
  · obtain ⟨a, cap, rfl, -⟩ := h1
    exact long a cs.length cap w (by omega)
end Go.Proofs.Ytmdhnfeepadfaaa.topTapes

namespace Go.Proofs.Ytmdhnfeepadfaaa.topTapes
open Go.ChangeShapes Go.WideShapes Go.ChangeAt Go.RowKit
open Go.ChangeMaps (open_string shut_string)
set_option linter.unusedVariables false

theorem laidOut : laidOutB Try.prog = true := by kernel_rfl
theorem own : ownKnob Try.prog.godebug = none := by kernel_rfl

set_option maxRecDepth 100000 in
theorem lifted (os : Os) (started : os.Started) (H : Type) (enc : TypeId × Value → H) :
    ReturnsInHanded {} Try.checked os 6 .any (Rows.topTapesSpec.pre6 enc Try.prog Try.f6 Rows.topTapesRow.domain false) (Rows.topTapesSpec.post enc Try.prog Try.f6 false true false false) := by
  refine returnsInHanded_of_change_sized (C := Try.checked) own started (by kernel_rfl) Try.func6
    (ChangeSpec.witness6 (enc := enc) (C := Try.checked) false ⟨#[], #[.slice none 0 0], []⟩ 8 (by kernel_rfl) (by kernel_rfl) (by kernel_rfl) (by kernel_rfl)) ?_
  intro W base args ds gs before hval0 hW hcnd hsz0 _
  have hval : ∀ (j : Nat) t v, Try.f6.params[j]? = some t → args[j]? = some v → Value.okWide Try.prog W .any base t v := hval0
  have hsz : (DataW.weightsEach Try.prog (Try.f6.params.toList ++ Rows.topTapesSpec.plain.varTypes Try.prog) (ds ++ gs)).all (· ≤ reachBytes) = true := hsz0
  have hW' := hW
  obtain ⟨p, q, hA0, hV, rfl, hfz, hnd⟩ := hW
  have hA : DataW.TrodAll enc Try.prog W 0 (fun _ => true) true Try.f6.params.toList args.toList ds p := hA0
  rw [Try.params6] at hA hval hsz
  obtain ⟨v0, vs0, d0, ds0, p0, q0, hargs, rfl, rfl, h0, r0⟩ := trodAll_cons hA
  obtain ⟨rfl, rfl, rfl⟩ := trodAll_nil r0
  obtain rfl : args = #[v0] := by cases args; simp_all
  obtain ⟨rfl, rfl⟩ := trodVars_none hV
  have k0 := h0
  have lt0 := trod_places h0
  obtain ⟨m0, w0a, w0b, w0c, w0d⟩ := op_lives (hval 0 64 v0 rfl rfl) h0
  clear hA0 hval0 hsz0 hsz
  refine (walk v0 m0 W w0a w0b w0c w0d).mono fun e W' ⟨he, bel⟩ => ?_
  subst he
  exact ⟨_, rfl, _, _, _, [], _, [], hW', trodAll_mk1 (shut_bool Try.underlying4 _), (trodAll_cons_mk (Below.trod laidOut (by kernel_rfl) (of_decide_eq_true (by kernel_rfl)) k0 bel lt0) trodAll_mk0), rfl, bel.frame _, fun h => by cases h⟩

theorem over : Rows.topTapesRow.holds Try.pinned (OpenSpec.ofChange Rows.topTapesSpec) :=
  OpenClaim.holds_of_wide 6 Try.f6 rfl rfl rfl rfl rfl rfl rfl ⟨rfl, rfl, rfl, rfl, rfl⟩ rfl rfl rfl rfl rfl (by kernel_rfl) Try.func6 (by kernel_rfl)
    (of_decide_eq_true (by kernel_rfl)) (by unfold Func.isWrapper; first | (rw [if_pos (by decide +kernel)]; kernel_rfl) | (rw [if_neg (by decide +kernel)]; exact ⟨rfl, rfl⟩))
    (fun os started H enc _ => lifted os started H enc)

/-- THE STATEMENT. -/
theorem proved : Rows.TopTapesSaid := over
end Go.Proofs.Ytmdhnfeepadfaaa.topTapes
namespace Go.Proofs.Ytmdhnfeepadfaaa
theorem topTapes_proved : Rows.TopTapesSaid := topTapes.proved
end Go.Proofs.Ytmdhnfeepadfaaa
