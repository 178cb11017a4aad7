/-
  Texts that lean on one another, one behind the other: each opens with its own remark.
-/
import Derived.Laws.CopyRow
import Derived.Deep.MidRow
import Derived.Deep.RegionHeld3
import Derived.Test.YtmdhnfeepadfaaaK14
import Derived.Test.YtmdhnfeepadfaaaK00
import Derived.Test.YtmdhnfeepadfaaaK07
import Derived.Test.YtmdhnfeepadfaaaK04
import Derived.Test.YtmdhnfeepadfaaaK11

/-
  The contract of package wal's Append, with where the new record's lists lie: in memory of their own. (gen12/appk.py)
-/
namespace Go.Proofs.Ytmdhnfeepadfaaa
open Go.RowKit
set_option linter.unusedVariables false

theorem got_lies {w : World} {base n sz : Nat} {e : TypeId} {v : Value} {xs : List Value} (h : w.ownsRow base e sz v n xs) : LiesIn (fun b => base ≤ b) v := by
  intro b off m c ev hm
  rcases h.2 with ⟨h1, _⟩ | ⟨g, cap, cur, h1, h2, _⟩
  · rw [h1] at ev
    cases ev
  · rw [h1] at ev
    injection ev with ev
    injection ev with ev
    injection ev with ev
    subst ev
    exact h2
/-- A log behind Append: the record stands behind the others, its lists in memory that is new. -/
def New9 (B gt gl : Nat) (w : World) (ms : List Rm) (r : Rec) (g' : Lg) (w' : World) : Prop := ∃ gc gb a' cap' ua ub wa' wc', LV B w' gl gc gt gb a' cap' (ms ++ [(r, ua, ub)]) wa' wc' (framesB (g'.l.drop g'.on)) g' ∧ LiesIn (fun b => w.heap.size ≤ b) ua ∧ LiesIn (fun b => w.heap.size ≤ b) ub

section
variable {B : Nat} {gl gc gt gb : Nat} {a : Option Addr} {cap : Nat} {ms : List Rm} {wa : Option Addr} {wc : Nat} {bs : List UInt8} {g : Lg}
set_option maxRecDepth 8000 in
set_option maxHeartbeats 3200000 in
theorem app9_new (w : World) (r : Rec) (va vb : Value) (f : Nat) (h : Int) (hL : LV B w gl gc gt gb a cap ms wa wc bs g) (ok : g.ok) (hbs : bs = framesB (g.l.drop g.on)) (hl : r.l = 0) (h1 : -65536 ≤ h) (h2 : h ≤ 65536) (hft : r.fits) (hin : RcK B w r va vb) (hf : f < 18446744073709551616) :
    Calls Try.prog 10 #[.pointer (some ⟨gl, 0, none⟩), .agg (rcA r va vb), .int .u64 (f : Int), .int .i64 h] w fun e w' => e = .returned (.tuple #[.int .u64 (g.appN r f h : Int), .int .i64 (g.appE r f h)]) ∧ Aft (LAc B) gt gl w (FC gl gc gt gb a wa) (g.app r f h) w' ∧ (g.appE r f h = 0 → New9 B gt gl w ms (r.put (g.num f)) (g.app r f h) w') := by
  have hb0 : Below w.heap.size w (w.alloc (.cells (rcA r va vb) 28)) := (Below.refl _ _).alloc (Nat.le_refl _) _
  have c1 : (w.alloc (.cells (rcA r va vb) 28)).cell? ⟨w.heap.size, 1, none⟩ = some (.int .u64 0) := by
    have e := (RowAt.new w 28 (rcA r va vb)).cell 1 (.int .u64 (r.l : Int)) rfl
    rwa [hl] at e
  have e1 : ¬ h < -65536 := by omega
  have e2 : ¬ 65536 < h := by omega
  have H0 := hide (show AP B gl gc gt gb a cap ms wa wc bs g w.heap.size r va vb w (w.alloc (.cells (rcA r va vb) 28)) from ⟨hL.later hb0, RowAt.new w 28 (rcA r va vb), hb0, hin.later hb0⟩)
  have HBW := hide hL.here
  have HLT := hide (fun k (hk : FC gl gc gt gb a wa k) => (hL.loose k hk).2.1)
  have HNO := hide (fun (x : World) (e : g.appE r f h ≠ 0) (hx : AP B gl gc gt gb a cap ms wa wc bs g w.heap.size r va vb w x ∨ ∃ n, AP B gl gc gt gb a cap ms wa wc bs g w.heap.size (r.put n) va vb w x) => show Aft (LAc B) gt gl w (FC gl gc gt gb a wa) (g.app r f h) x from by
    rw [(g.app_no r f h e).1]
    rcases hx with hx | ⟨n, hx⟩
    · exact ⟨_, ⟨gc, gb, a, cap, ms, wa, wc, by rw [← hbs]; exact hx.lv, rfl⟩, Tn.of_below hx.bel, fun k hk => .inl hk⟩
    · exact ⟨_, ⟨gc, gb, a, cap, ms, wa, wc, by rw [← hbs]; exact hx.lv, rfl⟩, Tn.of_below hx.bel, fun k hk => .inl hk⟩)
  have HOK := hide ok
  have HBS := hide hbs
  have HRT := hide (hastape9 gl gt _ H0.out.lv.c1)
  clear hb0 hL hin ok hbs
  go_enter Try.func10, Try.ntmps10
  go_wp2_with fail
  refine HRT.out.mono ?_
  rintro e w0 ⟨rfl, rfl⟩
  go_wp2_with fail
  refine gen_calls (fun y => Hid (AP B gl gc gt gb a cap ms wa wc bs g w.heap.size r va vb w y)) H0 ?_
  clear H0 HRT c1
  intro y H0
  have hBg : B ≤ w.heap.size := HBW.out
  obtain ⟨gR, hgR⟩ : ∃ gR, gR = w.heap.size := ⟨_, rfl⟩
  rw [← hgR] at H0 hBg HLT HNO ⊢
  have HGR := hide hgR
  clear hgR
  refine (number9_any y f (decide (h < 0)) H0.out.lv hf).mono ?_
  rintro e w1 ⟨rfl, hb1⟩
  have H1 := hide (H0.out.later hb1)
  clear hb1 H0
  unfold nextS
  by_cases hfull : full g.c f (decide (h < 0)) = true
  · rw [if_pos hfull]
    have HE : Hid (g.appE r f h = 7) := by
      show g.appE r f h = 7
      unfold Lg.appE
      rw [if_neg (by omega), if_pos hfull]
    go_wp2
    go_ret2
    refine ⟨?_, HNO.out _ (by rw [HE.out]; decide) (.inl H1.out), fun e0 => absurd (HE.out.symm.trans e0) (by decide)⟩
    rw [(g.app_no r f h (by rw [HE.out]; decide)).2, HE.out]
    rfl
  · rw [if_neg hfull]
    obtain ⟨n, hn⟩ : ∃ n, n = max g.c f + 1 := ⟨_, rfl⟩
    rw [← hn]
    have HNN := hide (show n = g.num f from hn)
    have hcn : g.c < n := by omega
    clear hn
    have c1 : w1.cell? ⟨gR, 1, none⟩ = some (.int .u64 0) := by
      have e := H1.out.row.cell 1 (.int .u64 (r.l : Int)) rfl
      rwa [hl] at e
    have f1 := H1.out.row.free 1
    have H2 := hide (H1.out.num hBg HLT.out n)
    clear H1
    go_wp2_with (refine wpList_load_at rfl 28 (.tmp 5) rfl gR ?h1 (rcA (r.put n) va vb) H2.out.row _ Try.underlying28 rfl infoRc ?_; (case h1 => first | rfl | (rw [HGR.out]; rfl)))
    refine gen_calls (fun y => Hid (AP B gl gc gt gb a cap ms wa wc bs g gR (r.put n) va vb w y)) H2 ?_
    clear H2 c1 f1
    intro x H2
    have hfp : (r.put n).fits := ⟨hft.c, hft.tl, hft.dl, hft.ts, hft.ds⟩
    by_cases hrt : (r.put n).right
    · refine (fput_ok (r.put n) va vb x hrt hfp H2.out.rck.rc).mono ?_
      rintro e w3 ⟨v, rfl, ho, hb3⟩
      have hfew := rec_few (r.put n) hrt
      have hfl := frameB_length (r.put n)
      obtain ⟨gB, cB, rfl, hgB⟩ := own_slice ho (by omega)
      have H3 := hide (show AP B gl gc gt gb a cap ms wa wc bs g gR (r.put n) va vb w w3 ∧ w3.ownsRow x.heap.size 5 1 (.slice (some ⟨gB, 0, none⟩) (frameB (r.put n)).length cB) (frameB (r.put n)).length (toV (frameB (r.put n))) from ⟨H2.out.later hb3, ho⟩)
      have HGX := hide (show gR < x.heap.size from H2.out.row.lt)
      have HGB := hide hgB
      clear hgB
      clear ho hb3 H2
      have hUm := HOK.out.room
      have hmm := HOK.out.tok.room
      have hu : g.used = g.t.b.size + bs.length := by rw [HBS.out]; rfl
      rw [hu] at hUm
      have HU := hide (fun y (hy : LV B y gl gc gt gb a cap ms wa wc bs g) => used9_any y hy (by omega))
      have HHD := hide (show (g.hold h : Int) = max 0 ((g.hd : Int) + h) by unfold Lg.hold; omega)
      have HE0 := hide (show g.t.m < g.used + (frameB (r.put n)).length + g.hold h → g.appE r f h = 7 from fun hq => by
        unfold Lg.appE
        rw [if_neg (by omega), if_neg hfull, if_neg (by rw [← HNN.out]; exact fun k => k hrt), if_pos (by rw [← HNN.out]; exact hq)])
      have HE1 := hide (show ¬ g.t.m < g.used + (frameB (r.put n)).length + g.hold h → g.appE r f h = 0 from fun hq => by
        unfold Lg.appE
        rw [if_neg (by omega), if_neg hfull, if_neg (by rw [← HNN.out]; exact fun k => k hrt), if_neg (by rw [← HNN.out]; exact hq)])
      obtain ⟨U, hU⟩ : ∃ U, U = g.t.b.size + bs.length := ⟨_, rfl⟩
      obtain ⟨M, hM⟩ : ∃ M, M = (frameB (r.put n)).length := ⟨_, rfl⟩
      obtain ⟨Hh, hHh⟩ : ∃ Hh, Hh = g.hold h := ⟨_, rfl⟩
      rw [hu, ← hU, ← hM, ← hHh] at HE0 HE1
      rw [← hU] at hUm HU
      rw [← hM] at hfl H3 ⊢
      have hMb : M ≤ 1006 := by omega
      have HHV := hide (show (Hh : Int) = max 0 ((g.hd : Int) + h) by rw [hHh]; exact HHD.out)
      have HUM := hide (And.intro hU (And.intro hM hHh))
      have hhd : g.hd ≤ 65536 := by omega
      have hHb : Hh ≤ 131072 := by have := HHV.out; omega
      have hUb : U ≤ 65536 := by omega
      clear hU hM hHh hfew hfl hu hUm HHD
      have k7 := H3.out.1.lv.c7
      have ew1 : IntKind.i64.wrap ((U : Int) + (M : Int)) = (U : Int) + (M : Int) := by rw [IntKind.wrap_i64]; omega
      have ew2 : IntKind.i64.wrap ((U : Int) + (M : Int) + (Hh : Int)) = (U : Int) + (M : Int) + (Hh : Int) := by rw [IntKind.wrap_i64]; omega
      have hmx : (if (g.hd : Int) + h < 0 then (0 : Int) else (g.hd : Int) + h) = (Hh : Int) := by
        have := HHV.out
        split <;> omega
      go_wp2_with fail
      clear hmx
      refine wp_region_in (fun x => AP B gl gc gt gb a cap ms wa wc bs g gR (r.put n) va vb w x ∧ x.ownsRow gR 5 1 (.slice (some ⟨gB, 0, none⟩) M cB) M (toV (frameB (r.put n)))) (by kernel_rfl) (by kernel_rfl) ⟨H3.out.1.drew, own_low (ownsRow_below H3.out.2 (below_dn (Below.refl _ _) 1)) (Nat.le_of_lt HGX.out)⟩ ?_
      repeat (first
        | go_big_quiet_skip
        | (refine wpQuiet_load rfl 34 _ rfl _ (.pointer (some ⟨gt, 0, none⟩)) rfl (fun y hy => load9c_p y _ _ rfl hy.1.lv.c1) ?_; simp only [Act.put, Array.setIfInBounds, List.size_toArray, List.length_cons, List.length_nil, Nat.reduceAdd, Nat.reduceLT, ↓reduceDIte, List.set_toArray, List.set_cons_succ, List.set_cons_zero])
        | (refine wpQuiet_call rfl 26 #[.pointer (some ⟨gt, 0, none⟩)] (.int .i64 (g.t.m : Int)) ?_ (fun x hC => (room8_any gt gb g.t x hC.1.lv.tape).mono fun e x' hh => ⟨hh.1, hh.2 ▸ hC⟩) ?_; (intro x; go_simp); simp only [Act.put, Array.setIfInBounds, List.size_toArray, List.length_cons, List.length_nil, Nat.reduceAdd, Nat.reduceLT, ↓reduceDIte, List.set_toArray, List.set_cons_succ, List.set_cons_zero])
        | (refine wpQuiet_call rfl 38 #[.pointer (some ⟨gl, 0, none⟩)] (.int .i64 (U : Int)) ?_ (fun x hC => (HU.out x hC.1.lv).mono fun e x' hh => ⟨hh.1, hC.1.later hh.2, ownsRow_below hC.2 hh.2⟩) ?_; (intro x; go_simp); simp only [Act.put, Array.setIfInBounds, List.size_toArray, List.length_cons, List.length_nil, Nat.reduceAdd, Nat.reduceLT, ↓reduceDIte, List.set_toArray, List.set_cons_succ, List.set_cons_zero])
        | (refine wpQuiet_plain rfl (fun K hK => ?_); go_simp; (try simp only [ew1, ew2]); refine hK _ ?_; clear hK K))
      refine wpQuiet_nil ?_
      intro x hx
      have HX := hide hx
      clear hx H3 k7
      by_cases hroom : (g.t.m : Int) < (U : Int) + (M : Int) + (Hh : Int)
      · have HE := hide (HE0.out (by omega))
        go_wp2
        go_ret2
        refine ⟨?_, HNO.out _ (by rw [HE.out]; decide) (.inr ⟨n, HX.out.1⟩), fun e0 => absurd (HE.out.symm.trans e0) (by decide)⟩
        rw [(g.app_no r f h (by rw [HE.out]; decide)).2, HE.out]
        rfl
      · have HE := hide (HE1.out (by omega))
        have k0 := HX.out.1.lv.c0
        have hnm : n ≤ maxL := by
          have := hrt.lm
          have e : (r.put n).l = n := rfl
          rw [e] at this
          unfold maxP at this
          unfold maxL
          omega
        have HMN := hide (show max g.c (min n maxL) = n by omega)
        go_wp2_with fail
        refine (see_any gc g.c n x HX.out.1.lv.clock (by unfold maxL at hnm; omega)).mono ?_
        rw [HMN.out]
        rintro e w4 ⟨rfl, hc4, hg4⟩
        have hT4 : Tn (Is gc) x w4 := Tn.of_grown hg4 (fun k hk => by injection hk with hk; exact hk.symm)
        have hgc : gR ≠ gc := by
          have h4 := HLT.out gc (.inr (.inl rfl))
          omega
        have hlo : Loose B x (Is gc) := fun k hk => HX.out.1.lv.loose k (.inr (.inl hk))
        have H4 := hide (show LV B w4 gl gc gt gb a cap ms wa wc bs { g with c := n } ∧ RowAt w4 gR 28 (rcA (r.put n) va vb) ∧ Tn (FC gl gc gt gb a wa) w w4 ∧ RcK B w4 (r.put n) va vb ∧ WB B w4 (some ⟨gB, 0, none⟩) cB (frameB (r.put n)) ∧ gR ≤ gB from
          ⟨HX.out.1.lv.turnC hT4 hc4, hT4.row HX.out.1.row hgc, (Tn.of_below (by have e := HX.out.1.bel; rw [HGR.out] at e; exact e)).then (hT4.weak (fun k hk => .inr (.inl hk))), HX.out.1.rck.keep hlo hT4, by
            have e := own_low (own_kept HX.out.2 (fun k cs hk => hT4.row hk (fun e => by rw [show k = gc from e] at hk; exact absurd (row_kind hk HX.out.1.lv.clock.2) (by decide)))) hBg
            rw [HUM.out.2.1] at e
            exact e, by have := HGX.out; have := HGB.out; omega⟩)
        clear hc4 hg4 hT4 hgc hlo HX k0
        obtain ⟨⟨a1, c1, rfl⟩, a2, c2, rfl⟩ := rcF_slices9 H4.out.2.2.2.1.rc
        have HCP : Hid (Calls Try.prog 39 #[.agg #[.int .i64 r.k, .int .u64 (n : Int), .int .i64 r.t, .int .u64 (r.p : Int), .int .i64 r.c.k, .int .i64 r.c.pg, .int .i64 r.c.sl, .string r.c.o, .string r.c.n, .int .u64 (r.n : Int), .int .i64 r.s, .int .u64 (r.b : Int), .slice a1 r.ts.length c1, .slice a2 r.ds.length c2]] w4.drew fun e w' => ∃ ua ub, e = .returned (.agg #[.int .i64 r.k, .int .u64 (n : Int), .int .i64 r.t, .int .u64 (r.p : Int), .int .i64 r.c.k, .int .i64 r.c.pg, .int .i64 r.c.sl, .string r.c.o, .string r.c.n, .int .u64 (r.n : Int), .int .i64 r.s, .int .u64 (r.b : Int), ua, ub]) ∧ GotIn w4.drew.heap.size w' (r.put n) ua ub ∧ Below w4.drew.heap.size w4.drew w') := hide (copied9_any (r.put n) (.slice a1 r.ts.length c1) (.slice a2 r.ds.length c2) w4.drew (H4.out.2.2.2.1.later ⟨rfl, rfl, rfl, Nat.le_refl _, fun _ _ => rfl⟩).rc (right_few hrt).1 (right_few hrt).2)
        have HPU := hide (fun (w5 : World) (ua ub : Value) (hgot : GotIn w4.drew.heap.size w5 (r.put n) ua ub) (hb : Below w4.drew.heap.size w4.drew w5) => H4.out.1.drew.push9 hb hgot hfp (by have := few_recs g HOK.out; show g.l.length ≤ _; omega))
        have k2 : w4.cell? ⟨gl, 2, none⟩ = some (.slice a g.l.length cap) := H4.out.1.c2
        have z0 := H4.out.2.1.cell 0 (.int .i64 r.k) rfl
        have z1 := H4.out.2.1.cell 1 (.int .u64 (n : Int)) rfl
        have z2' := H4.out.2.1.cell 2 (.int .i64 r.t) rfl
        have z3 := H4.out.2.1.cell 3 (.int .u64 (r.p : Int)) rfl
        have z4 := H4.out.2.1.cell 4 (.int .i64 r.c.k) rfl
        have z5 := H4.out.2.1.cell 5 (.int .i64 r.c.pg) rfl
        have z6 := H4.out.2.1.cell 6 (.int .i64 r.c.sl) rfl
        have z7 := H4.out.2.1.cell 7 (.string r.c.o) rfl
        have z8 := H4.out.2.1.cell 8 (.string r.c.n) rfl
        have z9 := H4.out.2.1.cell 9 (.int .u64 (r.n : Int)) rfl
        have z10 := H4.out.2.1.cell 10 (.int .i64 r.s) rfl
        have z11 := H4.out.2.1.cell 11 (.int .u64 (r.b : Int)) rfl
        have z12 := H4.out.2.1.cell 12 (.slice a1 r.ts.length c1) rfl
        have z13 := H4.out.2.1.cell 13 (.slice a2 r.ds.length c2) rfl
        clear hmm hcn hrt hfp
        go_wp2_with fail
        go_region_law (first
          | (refine step_call_fn rfl 39 #[.agg #[.int .i64 r.k, .int .u64 (n : Int), .int .i64 r.t, .int .u64 (r.p : Int), .int .i64 r.c.k, .int .i64 r.c.pg, .int .i64 r.c.sl, .string r.c.o, .string r.c.n, .int .u64 (r.n : Int), .int .i64 r.s, .int .u64 (r.b : Int), .slice a1 r.ts.length c1, .slice a2 r.ds.length c2]] ?he (HCP.out.mono ?_); (case he => go_simp); rintro e w5 ⟨ua, ub, rfl, hgot, hb5⟩; obtain ⟨a', cap', w6, q1, j2, j3, j4, j5, HR⟩ := HPU.out w5 ua ub hgot hb5; simp only [rcA, Rec.put] at j3; obtain ⟨⟨ua1, uc1, rfl⟩, ua2, uc2, rfl⟩ := rcF_slices9 hgot.rc; have HGT := hide (And.intro (got_lies hgot.1) (got_lies hgot.2)); refine ⟨_, rfl, ?_⟩; clear HCP HPU hgot hb5)
          | (refine step_append_run rfl (.tmp 81) (.tmp 84) 42 42 rfl (.slice a g.l.length cap) (.slice (some ⟨w5.heap.size, 0, none⟩) 1 1) (.slice a' (g.l.length + 1) cap') w6 ?h1 ?h2 q1 ?_; (case h1 => simp [Act.eval]); (case h2 => simp [Act.eval])))
        all_goals
          obtain ⟨z, hz⟩ : ∃ z, z = w6.setCell ⟨gl, 2, none⟩ (.slice a' (g.l.length + 1) cap') := ⟨_, rfl⟩
          rw [← hz] at HR ⊢
          clear hz j2 j3 j4 j5 q1 k2
          have hTz : Tn (FC gl gc gt gb a wa) w4 z := (Tn.refl _ w4).drew.then HR.out.2.1
          have hWz : WB B z (some ⟨gB, 0, none⟩) cB (frameB (r.put n)) := H4.out.2.2.2.2.1.keep (fun k hk => hTz.block k (by obtain ⟨_, _, hr⟩ := H4.out.2.2.2.2.1.kind k hk; exact hr.lt) (fun hF => by
            obtain ⟨off, e⟩ := hk
            injection e with e
            injection e with e
            have h5 := HLT.out k hF
            have h6 := H4.out.2.2.2.2.2
            omega))
          have hIz := hWz.isB.1
          rw [← HUM.out.2.1] at hIz
          obtain ⟨wa', wc', z2, p1, p2, p3, p4⟩ := HR.out.1.wait.app HR.out.1.here (some ⟨gB, 0, none⟩) M cB (frameB (r.put n)) hIz (fun h => (nomatch h)) (by have := HUM.out.1; omega)
          have hlog2 := p3.row HR.out.1.log HR.out.1.all.lw
          have HF := hide (show Aft (LAc B) gt gl w (FC gl gc gt gb a wa) (g.app r f h) ((z2.setCell ⟨gl, 5, none⟩ (.slice wa' (bs.length + M) wc')).setCell ⟨gl, 7, none⟩ (.int .i64 (Hh : Int))) ∧ (g.appE r f h = 0 → New9 B gt gl w ms (r.put (g.num f)) (g.app r f h) ((z2.setCell ⟨gl, 5, none⟩ (.slice wa' (bs.length + M) wc')).setCell ⟨gl, 7, none⟩ (.int .i64 (Hh : Int)))) from by
            obtain ⟨L1, T1⟩ := HR.out.1.waited p2 p3 p4
            rw [← HUM.out.2.1] at L1 T1
            have hT7 : Tn (Is gl) (z2.setCell ⟨gl, 5, none⟩ (.slice wa' (bs.length + M) wc')) ((z2.setCell ⟨gl, 5, none⟩ (.slice wa' (bs.length + M) wc')).setCell ⟨gl, 7, none⟩ (.int .i64 (Hh : Int))) := (Tn.refl (Is gl) _).set gl 7 _ rfl
            have L2 := L1.put (g' := { g with c := n, l := g.l ++ [r.put n], hd := Hh }) hT7 (L1.log.set 7 _) rfl rfl L1.recs L1.all.la L1.same L1.wait L1.all.lw L1.apart
            have hb2 : bs ++ frameB (r.put n) = framesB ((g.l ++ [r.put n]).drop g.on) := by
              rw [List.drop_append_of_le_length HOK.out.on, framesB_append, frames_one, HBS.out]
            rw [hb2] at L2
            have happ := (g.app_yes r f h HE.out).1
            rw [happ, ← HNN.out, ← HUM.out.2.2]
            have hTw : Tn (FC gl gc gt gb a wa) w z := H4.out.2.2.1.then hTz
            have hsz := H4.out.2.2.1.size
            have hszz := hTz.size
            have hblk : ∀ k, blk a' k → blk a k ∨ w.heap.size ≤ k := fun k hk => (HR.out.2.2 k hk).imp id (fun h => Nat.le_trans hsz h)
            have hbw : ∀ k, blk wa' k → blk wa k ∨ w.heap.size ≤ k := fun k hk => (p4 k hk).imp id (fun h => Nat.le_trans hsz (Nat.le_trans hszz h))
            refine ⟨⟨_, ⟨gc, gb, a', cap', _, wa', wc', L2, rfl⟩, (hTw.trans T1 (fun k hk => ?_)).then (hT7.weak (fun k hk => .inl hk)), fun k hk => ?_⟩, fun _ => ⟨gc, gb, a', cap', _, _, wa', wc', L2, fun b off m c e hm => Nat.le_trans hsz (HGT.out.1 b off m c e hm), fun b off m c e hm => Nat.le_trans hsz (HGT.out.2 b off m c e hm)⟩⟩
            · rcases hk with hk | hk | hk | hk | hk | hk
              · exact .inl (.inl hk)
              · exact .inl (.inr (.inl hk))
              · exact .inl (.inr (.inr (.inl hk)))
              · exact .inl (.inr (.inr (.inr (.inl hk))))
              · exact (hblk k hk).imp (fun h => .inr (.inr (.inr (.inr (.inl h))))) id
              · exact .inl (.inr (.inr (.inr (.inr (.inr hk)))))
            · rcases hk with hk | hk | hk | hk | hk | hk
              · exact .inl (.inl hk)
              · exact .inl (.inr (.inl hk))
              · exact .inl (.inr (.inr (.inl hk)))
              · exact .inl (.inr (.inr (.inr (.inl hk))))
              · exact (hblk k hk).imp (fun h => .inr (.inr (.inr (.inr (.inl h))))) id
              · exact (hbw k hk).imp (fun h => .inr (.inr (.inr (.inr (.inr h))))) id)
          have c5 := HR.out.1.c5
          have d5 : z2.cell? ⟨gl, 5, none⟩ = some (.slice wa bs.length wc) := hlog2.cell 5 _ rfl
          have d7 : z2.cell? ⟨gl, 7, none⟩ = some (.int .i64 (g.hd : Int)) := hlog2.cell 7 _ rfl
          have f5 := hlog2.free 5
          have f7 := hlog2.free 7
          clear hTz hWz hIz p2 p3 p4 hlog2 HR H4 z0 z1 z2' z3 z4 z5 z6 z7 z8 z9 z10 z11 z12 z13
          go_wp2_with (at_builtin; refine wpList_append_run rfl (.tmp 92) (.tmp 93) 61 61 rfl _ _ _ rfl rfl p1 ?_)
          go_ret2
          refine ⟨?_, HF.out.1, HF.out.2⟩
          rw [(g.app_yes r f h HE.out).2, HE.out, ← HNN.out]
          rfl
    · refine (fput_no (r.put n) va vb x hrt hfp H2.out.rck.rc).mono ?_
      rintro e w3 ⟨rfl, hb3⟩
      have H3 := hide (H2.out.later hb3)
      clear hb3 H2
      have HE : Hid (g.appE r f h = 1) := by
        show g.appE r f h = 1
        unfold Lg.appE
        rw [if_neg (by omega), if_neg hfull, if_pos (by rw [← HNN.out]; exact hrt)]
      go_wp2
      go_ret2
      refine ⟨?_, HNO.out _ (by rw [HE.out]; decide) (.inr ⟨n, H3.out⟩), fun e0 => absurd (HE.out.symm.trans e0) (by decide)⟩
      rw [(g.app_no r f h (by rw [HE.out]; decide)).2, HE.out]
      rfl
end
section
variable {B : Nat} {w x : World} {gl gc gt gb k : Nat} {a : Option Addr} {cap : Nat} {ms : List Rm} {wa : Option Addr} {wc : Nat} {bs : List UInt8} {g : Lg}
/-- A block of rows of a record's lists is turned, in which no list of this record lies. -/
theorem RcK.beside {r : Rec} {va vb : Value} {t : TypeId} {cs : Array Value} (h : RcK B w r va vb) (p : Tn (Is k) w x) (ha : LiesIn (fun b => b ≠ k) va) (hb : LiesIn (fun b => b ≠ k) vb) : RcK B x r va vb := by
  have sf : ∀ b, b ≠ k → Safe B w b → Safe B x b := fun b hn hs => ⟨Nat.lt_of_lt_of_le hs.1 p.size, hs.2.imp id (fun ⟨t, cs, h1, h2⟩ => ⟨t, cs, h1, p.row h2 hn⟩)⟩
  exact ⟨⟨rows_keep h.rc.1 (fun b off m c e hm => p.block b (h.tx b off m c e hm).1 (ha b off m c e hm)) p.size, rows_keep h.rc.2 (fun b off m c e hm => p.block b (h.di b off m c e hm).1 (hb b off m c e hm)) p.size⟩,
    fun b off m c e hm => sf b (ha b off m c e hm) (h.tx b off m c e hm), fun b off m c e hm => sf b (hb b off m c e hm) (h.di b off m c e hm)⟩
theorem RB.beside (h : RB B w a cap ms) (p : Tn (Is k) w x) (hk : ¬ blk a k) (hm : ∀ m ∈ ms, LiesIn (fun b => b ≠ k) m.2.1 ∧ LiesIn (fun b => b ≠ k) m.2.2) : RB B x a cap ms := by
  refine ⟨?_, fun m hmm => ⟨(h.2 m hmm).1, RcK.beside (t := 0) (cs := #[]) (h.2 m hmm).2 p (hm m hmm).1 (hm m hmm).2⟩⟩
  rcases h.1 with h1 | ⟨b, off, cs, rfl, h1, h2, h3, h4, h5⟩
  · exact .inl h1
  · have hb := p.block b h2.lt (fun e => hk (by rw [← show b = k from e]; exact ⟨off, rfl⟩))
    exact .inr ⟨b, off, cs, rfl, h1, hb.trans h2, h3, h4, fun i hi j u hu => (World.cell?_of_block (a := ⟨b, off + i * 14 + j, none⟩) hb).trans (h5 i hi j u hu)⟩
theorem LV.beside {t : TypeId} {cs : Array Value} (h : LV B w gl gc gt gb a cap ms wa wc bs g) (p : Tn (Is k) w x) (hr : RowAt w k t cs) (ht : t = 39 ∨ t = 41) (hm : ∀ m ∈ ms, LiesIn (fun b => b ≠ k) m.2.1 ∧ LiesIn (fun b => b ≠ k) m.2.2) : LV B x gl gc gt gb a cap ms wa wc bs g := by
  have hn : ∀ j, FC gl gc gt gb a wa j → ¬ Is k j := fun j hj e => by
    obtain ⟨_, u, ds, h2, h3⟩ := h.kinds j hj
    rw [show j = k from e] at h2
    have := row_kind hr h2
    rw [← this] at h3
    rcases ht with rfl | rfl <;> rcases h3 with h3 | h3 | h3 | h3 | h3 <;> exact absurd h3 (by decide)
  exact ⟨h.lowl, h.lowc, h.lowt, h.lowb, p.row h.log (hn _ (.inl rfl)), ⟨h.clock.1, p.row h.clock.2 (hn _ (.inr (.inl rfl)))⟩,
    h.tape.keep (p.block _ h.tape.lt.1 (hn _ (.inr (.inr (.inl rfl))))) (p.block _ h.tape.lt.2 (hn _ (.inr (.inr (.inr (.inl rfl)))))),
    h.recs.beside p (fun hk => hn k (.inr (.inr (.inr (.inr (.inl hk))))) rfl) hm, h.same, h.wait.keep (fun j hj => p.block j (by obtain ⟨_, _, hr⟩ := h.wait.kind j hj; exact hr.lt) (hn j (.inr (.inr (.inr (.inr (.inr hj))))))), h.apart⟩
end
end Go.Proofs.Ytmdhnfeepadfaaa

/-
  What a log is behind a crash, a trim, an append of what was held back. Of no program.
-/
namespace Go.Proofs.Ytmdhnfeepadfaaa
open Go.RowKit
set_option linter.unusedVariables false

/-- Where frames are cut. -/
theorem cut_index (rs : List Rec) (k : Nat) : ∃ i, i ≤ rs.length ∧ (framesB (rs.take i)).length ≤ k ∧ (i < rs.length → k < (framesB (rs.take (i + 1))).length) := by
  have key : ∀ n, n ≤ rs.length → (∃ i, i < n ∧ (framesB (rs.take i)).length ≤ k ∧ k < (framesB (rs.take (i + 1))).length) ∨ (framesB (rs.take n)).length ≤ k := by
    intro n
    induction n with
    | zero =>
      intro _
      right
      rw [List.take_zero]
      exact Nat.zero_le _
    | succ n ih =>
      intro hn
      rcases ih (by omega) with ⟨i, h1, h2, h3⟩ | h
      · exact .inl ⟨i, by omega, h2, h3⟩
      · by_cases h2 : (framesB (rs.take (n + 1))).length ≤ k
        · exact .inr h2
        · exact .inl ⟨n, by omega, h, by omega⟩
  rcases key rs.length (Nat.le_refl _) with ⟨i, h1, h2, h3⟩ | h
  · exact ⟨i, by omega, h2, fun _ => h3⟩
  · exact ⟨rs.length, Nat.le_refl _, h, fun h => absurd h (Nat.lt_irrefl _)⟩
/-- Frames of records whose LSNs rise, alone, are scanned whole. -/
theorem scan_whole (rs : List Rec) (h : Rise 0 rs) : scanL (framesB rs) = (rs, (framesB rs).length) := scan_end (by rw [List.append_nil]) h (.inl head_nil)
theorem crash_data (t : Tp) (h : t.ok) (k : Int) : (t.crash k).b.data.toList = t.b.data.toList.take (t.left k) := by
  have hl := t.left_le h k
  have e := extract_eq t.b 0 (t.left k) (by omega)
  rw [Nat.zero_add] at e
  show (t.b.extract 0 (t.left k)).data.toList = _
  rw [e]
  simp
/-- P9.6: behind a crash there is a beginning of the records, and all that stood fast. -/
theorem Lg.crashed (g : Lg) (hg : g.ok) (k : Int) (base : Nat) : ∃ i, i ≤ g.on ∧ g.fa ≤ i ∧ (Lg.open (g.t.crash k) base).l = g.l.take i ∧ (i < g.l.length → g.du < (g.l.getD i Rec.zero).l) := by
  have hon := hg.on
  have hl := g.t.left_le hg.tok k
  have hd := crash_data g.t hg.tok k
  rw [hg.bytes] at hd
  obtain ⟨i, h1, h2, h3⟩ := cut_index (g.l.take g.on) (g.t.left k)
  have hlen : (g.l.take g.on).length = g.on := by rw [List.length_take]; omega
  rw [hlen] at h1 h3
  have htk : ∀ j, j ≤ g.on → (g.l.take g.on).take j = g.l.take j := fun j hj => by rw [List.take_take, Nat.min_eq_left hj]
  have hs := cut_scan (g.l.take g.on) (g.t.left k) i (rise_first g.l 0 g.on hg.rise) (by rw [hlen]; exact h1) h2 (by rw [hlen]; exact h3)
  have hfi : g.fa ≤ i := by
    by_cases hlt : i < g.fa
    · exfalso
      have hfa := hg.fa
      have h4 := h3 (by omega)
      rw [htk (i + 1) (by omega)] at h4
      have h5 := frames_mono g.l (i + 1) g.fa hlt
      have h6 := hg.fast
      omega
    · omega
  refine ⟨i, h1, hfi, ?_, fun hi => ?_⟩
  · show (scanL (g.t.crash k).b.data.toList).1 = _
    rw [hd, hs]
    exact htk i h1
  · refine hg.high _ ?_
    rw [List.getD_eq_getElem?_getD, List.getElem?_eq_getElem hi, Option.getD_some]
    rw [List.mem_drop_iff_getElem]
    exact ⟨i - g.fa, by omega, by congr 1; omega⟩
/-- What is trimmed. -/
theorem Lg.trimmed (g : Lg) (hg : g.ok) (n i : Nat) (hi : i < g.l.length) : (i < trimK g.l g.fa n → (g.l.getD i Rec.zero).l < n ∧ (g.l.getD i Rec.zero).l ≤ g.du) ∧ (trimK g.l g.fa n ≤ i → ¬ ((g.l.getD i Rec.zero).l < n ∧ (g.l.getD i Rec.zero).l ≤ g.du)) := by
  have hk := trimK_le g.l g.fa n
  have hfa := hg.fa
  have hon := hg.on
  have e : g.l.getD i Rec.zero = g.l[i] := by rw [List.getD_eq_getElem?_getD, List.getElem?_eq_getElem hi, Option.getD_some]
  rw [e]
  constructor
  · intro h
    exact ⟨trimK_low g.l g.fa n _ (List.mem_take_iff_getElem.2 ⟨i, by omega, rfl⟩), hg.low _ (List.mem_take_iff_getElem.2 ⟨i, by omega, rfl⟩)⟩
  · rintro h ⟨h1, h2⟩
    by_cases hf : i < g.fa
    · have hs := trimK_stop g.l g.fa n (by omega) (by omega)
      have e2 : g.l.getD (trimK g.l g.fa n) Rec.zero = g.l[trimK g.l g.fa n] := by rw [List.getD_eq_getElem?_getD, List.getElem?_eq_getElem (by omega), Option.getD_some]
      rw [e2] at hs
      rcases Nat.eq_or_lt_of_le h with h3 | h3
      · have : g.l[trimK g.l g.fa n] = g.l[i] := by congr 1
        rw [this] at hs
        omega
      · have hr := rise_drop g.l 0 (trimK g.l g.fa n + 1) hg.rise
        have hm := (rise_mem _ _ hr g.l[i] (by
          rw [List.mem_drop_iff_getElem]
          exact ⟨i - (trimK g.l g.fa n + 1), by omega, by congr 1; omega⟩)).1
        have e3 := last_take g.l 0 (trimK g.l g.fa n) (by omega)
        rw [e3, e2] at hm
        omega
    · have := hg.high g.l[i] (by
        rw [List.mem_drop_iff_getElem]
        exact ⟨i - g.fa, by omega, by congr 1; omega⟩)
      omega
/-- All that is written and synced is opened. -/
theorem Lg.opened (g : Lg) (hg : g.ok) (base : Nat) : (Lg.open g.write.sync.t base).l = g.l ∧ g.write.sync.t.b = bytesS g.l := by
  have hw := (g.write.sync_ok (g.write_ok hg)).bytes
  have hb : g.write.sync.t.b.data.toList = framesB g.l := by
    rw [hw]
    show framesB (g.l.take g.l.length) = _
    rw [List.take_length]
  refine ⟨?_, ?_⟩
  · show (scanL g.write.sync.t.b.data.toList).1 = g.l
    rw [hb, scan_whole _ hg.rise]
  · have e : g.write.sync.t.b = ⟨g.write.sync.t.b.data.toList.toArray⟩ := by simp
    rw [e, hb]
    rfl
/-- How much is used doesn't hang on what is written. -/
theorem Lg.used_all (g : Lg) (hg : g.ok) : g.used = (framesB g.l).length := by
  have h := congrArg List.length hg.bytes
  rw [Array.length_toList] at h
  have h2 := frames_len g.l g.on
  have h3 : g.t.b.data.size = g.t.b.size := rfl
  unfold Lg.used
  omega
end Go.Proofs.Ytmdhnfeepadfaaa

/-
  The contracts of package wal's below and Trim.
-/
namespace Go.Proofs.Ytmdhnfeepadfaaa
open Go.RowKit
set_option linter.unusedVariables false

def Stop9 (p : Prop) : Prop := p
theorem stop9 {p : Prop} (h : Stop9 p) : p := h
theorem unstop9 {p : Prop} (h : p) : Stop9 p := h
theorem rcF_slices {w : World} {r : Rec} {va vb : Value} (h : RcIn w r va vb) : (∃ a c, va = .slice a r.ts.length c) ∧ ∃ a c, vb = .slice a r.ds.length c := by
  obtain ⟨⟨a1, c1, e1, _⟩, ⟨a2, c2, e2, _⟩⟩ := h
  exact ⟨⟨a1, c1, e1⟩, a2, c2, e2⟩
theorem rcF_all (m : Rm) (h1 : ∃ a c, m.2.1 = .slice a m.1.ts.length c) (h2 : ∃ a c, m.2.2 = .slice a m.1.ds.length c) : (rcF m).all (·.oneCell') = true := by
  obtain ⟨a, c, h1⟩ := h1
  obtain ⟨b, d, h2⟩ := h2
  simp [rcF, rcA, h1, h2, Value.oneCell']
theorem trimK_is : ∀ (l : List Rec) (f n j : Nat), j ≤ f → j ≤ l.length → (∀ i, i < j → (l.getD i Rec.zero).l < n) → (j = f ∨ j = l.length ∨ n ≤ (l.getD j Rec.zero).l) → trimK l f n = j
  | [], f, n, j, _, h2, _, _ => by
    have : j = 0 := by simpa using h2
    rw [this]
    unfold trimK
    rfl
  | r :: rs, 0, n, j, h1, _, _, _ => by
    have : j = 0 := by omega
    rw [this]
    unfold trimK
    rfl
  | r :: rs, f + 1, n, 0, _, _, _, h4 => by
    unfold trimK
    rw [if_neg]
    simp at h4
    omega
  | r :: rs, f + 1, n, j + 1, h1, h2, h3, h4 => by
    have h0 := h3 0 (by omega)
    unfold trimK
    rw [if_pos (by simpa using h0), trimK_is rs f n j (by omega) (by simpa using h2) (fun i hi => by
      have := h3 (i + 1) (by omega)
      simpa using this) (by
      rcases h4 with h4 | h4 | h4
      · exact .inl (by omega)
      · exact .inr (.inl (by simpa using h4))
      · exact .inr (.inr (by simpa using h4)))]
theorem take_frames (l : List Rec) (j : Nat) (h : j < l.length) : framesB (l.take (j + 1)) = framesB (l.take j) ++ frameB (l.getD j Rec.zero) := by
  have e : l.take (j + 1) = l.take j ++ [l.getD j Rec.zero] := by
    rw [List.take_add_one, List.getD_eq_getElem?_getD, List.getElem?_eq_getElem h]
    rfl
  rw [e, framesB_append, frames_one]
/-- What below tells. -/
def BelowAns (g : Lg) (n : Nat) (w : World) (e : Ending) (w' : World) : Prop := e = .returned (.tuple #[.int .i64 (trimK g.l g.fa n : Int), .int .i64 ((framesB (g.l.take (trimK g.l g.fa n))).length : Int)]) ∧ Below w.heap.size w w'
section
variable {B : Nat} {gl gc gt gb : Nat} {a : Option Addr} {cap : Nat} {ms : List Rm} {wa : Option Addr} {wc : Nat} {bs : List UInt8} {g : Lg}
theorem putL_right {r : Rec} (h : r.right) : putL r = frameB r := by unfold putL; rw [if_pos (rightB_yes h)]
set_option maxRecDepth 8000 in
set_option maxHeartbeats 1600000 in
theorem below9_none (w : World) (n : Nat) (h : LV B w gl gc gt gb none 0 ms wa wc bs g) (ok : g.ok) :
    Calls Try.prog 42 #[.pointer (some ⟨gl, 0, none⟩), .int .u64 (n : Int)] w (BelowAns g n w) := by
  have hlen := h.len
  have hcap := h.recs.cap
  have hl0 : g.l.length = 0 := by omega
  have hf0 : g.fa = 0 := by have := ok.fa; have := ok.on; omega
  have hk : trimK g.l g.fa n = 0 := trimK_is _ _ _ 0 (Nat.zero_le _) (Nat.zero_le _) (fun i hi => absurd hi (Nat.not_lt_zero _)) (.inl hf0.symm)
  have c2 : w.cell? ⟨gl, 2, none⟩ = some (.slice none 0 0) := by have := h.c2; rwa [hl0] at this
  have c3 : w.cell? ⟨gl, 3, none⟩ = some (.int .i64 0) := by have := h.c3; rwa [hf0] at this
  have HK := hide hk
  clear h ok hlen hcap hl0 hf0 hk
  go_enter Try.func42, Try.ntmps42
  go_wp2_with fail
  go_region
  go_wp2
  go_loopw [19, 6] (fun i v wr => i = .int .i64 0 ∧ v = .int .i64 0 ∧ Hid (wr = w.drew)) (fun _ _ _ => 0)
  case atStart => exact ⟨rfl, rfl, rfl⟩
  case round =>
    obtain ⟨rfl, rfl, HW⟩ := hrel
    obtain rfl := HW.out
    go_wp2
    go_ret2
    refine ⟨?_, below_dn (Below.refl _ _) 1⟩
    rw [HK.out]
    rfl
set_option maxRecDepth 8000 in
set_option maxHeartbeats 1600000 in
theorem below9_some (w : World) (n b off : Nat) (h : LV B w gl gc gt gb (some ⟨b, off, none⟩) cap ms wa wc bs g) (ok : g.ok) :
    Calls Try.prog 42 #[.pointer (some ⟨gl, 0, none⟩), .int .u64 (n : Int)] w (BelowAns g n w) := by
  have hlen := h.len
  have hcap := h.recs.cap
  have hfa := ok.fa
  have hon := ok.on
  have hfew := few_recs g ok
  have hfr : ∀ j, (framesB (g.l.take j)).length ≤ 65536 := fun j => by
    have h1 := g.used_all ok
    have h2 := frames_len g.l j
    have h3 := ok.room
    have h4 := ok.tok.room
    omega
  have HFR := hide hfr
  have c2 := h.c2
  have c3 := h.c3
  have H := hide h
  have HOK := hide ok
  have e1 : (0 : Int) ≤ (g.fa : Int) := by omega
  have e2 : (g.fa : Int) ≤ (cap : Int) := by omega
  clear h ok hfr
  generalize hF : g.fa = F at *
  generalize hN : g.l.length = N at *
  have HF := hide hF
  have HN := hide hN
  clear hF hN
  go_enter Try.func42, Try.ntmps42
  go_wp2_with fail
  go_region
  go_wp2
  go_loopw [19, 6] (fun i v wr => ∃ j : Nat, j ≤ F ∧ i = .int .i64 j ∧ v = .int .i64 ((framesB (g.l.take j)).length : Int) ∧ Hid ((∀ i, i < j → (g.l.getD i Rec.zero).l < n) ∧ LV B wr gl gc gt gb (some ⟨b, off, none⟩) cap ms wa wc bs g ∧ Below w.heap.size w wr)) (fun i _ _ => F - (intOf i).toNat)
  case atStart => exact ⟨0, Nat.zero_le _, rfl, rfl, fun i hi => absurd hi (Nat.not_lt_zero _), H.out.drew, below_dn (Below.refl _ _) 1⟩
  case round =>
    obtain ⟨j, hj, rfl, rfl, HI⟩ := hrel
    by_cases hlt : j < F
    · have ij : (j : Int) < (F : Int) := by omega
      have hjm : j < ms.length := by omega
      obtain ⟨b', off', eb, hbl, hrg, hft, hin⟩ := HI.out.2.1.recs.rs.at hjm
      injection eb with eb
      injection eb with eb1 eb2
      subst eb1 eb2
      obtain ⟨hrt, hgi⟩ := HI.out.2.1.recAt HOK.out hjm
      have hmore := take_frames g.l j (by rw [HN.out]; omega)
      rw [← hgi] at hmore
      have hfj := HFR.out j
      have hfj1 := HFR.out (j + 1)
      rw [hmore, List.length_append] at hfj1
      obtain ⟨m, hm⟩ : ∃ m, m = ms.getD j rcZ := ⟨_, rfl⟩
      rw [← hm] at hrg hft hin hrt hgi hmore hfj1
      have HM := hide (And.intro hgi hmore)
      clear hm hgi hmore
      have HLD := hide (load_mid wr b (off + j * 14) m hrg)
      have hb1 : Below wr.heap.size wr (wr.alloc (.cells zeroA 28)) := (Below.refl _ _).alloc (Nat.le_refl _) _
      have HZ := hide (And.intro (RowAt.new wr 28 zeroA) hb1)
      have HRM := hide (fun y (hy : RcIn y m.1 m.2.1 m.2.2) => froom_any m.1 m.2.1 m.2.2 y hft hy)
      rw [putL_right hrt] at HRM
      have HIN := hide hin
      have hsl := rcF_slices hin
      obtain ⟨⟨a1, c1, h1⟩, a2, c2', h2⟩ := hsl
      clear hrg hin hft hb1
      generalize hS : (framesB (g.l.take j)).length = S at *
      have HS := hide hS
      clear hS
      obtain ⟨M, hM⟩ : ∃ M, M = (frameB m.1).length := ⟨_, rfl⟩
      rw [← hM] at HRM hfj1
      have HMM := hide hM
      clear hM
      obtain ⟨L, hL⟩ : ∃ L, L = m.1.l := ⟨_, rfl⟩
      have HL := hide hL
      clear hL
      by_cases hln : L < n
      · have iln : ¬ (n : Int) ≤ (L : Int) := by omega
        go_wp2_with (first | (refine wpList_load_val rfl 28 (.tmp 22) rfl _ _ rfl HLD.out ?_) | (refine wpList_store_at rfl 28 (.tmp 8) (.tmp 23) rfl wr.heap.size zeroA (rcF m) rfl rfl HZ.out.1 infoRc rfl (rcF_all m ⟨a1, c1, h1⟩ ⟨a2, c2', h2⟩) ?_; intro w2 hr2 hk2 hrow2; refine stop9 ?_))
        have hb2 := hk2 _ _ HZ.out.2 (Nat.le_refl _)
        have hl2 := hr2.cell 1 (.int .u64 (L : Int)) (by rw [HL.out]; rfl)
        have H2 := hide (And.intro hr2 hb2)
        clear hr2 hk2 hrow2 hb2 HLD HZ
        refine unstop9 ?_
        go_wp2_with (refine wpList_load_at rfl 28 (.tmp 8) rfl wr.heap.size rfl (rcF m) H2.out.1 _ Try.underlying28 rfl infoRc ?_)
        refine (HRM.out w2 (HIN.out.below H2.out.2)).mono ?_
        rintro e w3 ⟨rfl, hb3⟩
        have HB3 := hide (H2.out.2.trans (hb3.mono H2.out.2.size))
        clear hb3 H2 HRM hl2
        go_wp2
        go_roundw
        case rel =>
          refine ⟨j + 1, by omega, by go_num, ?_, fun i hi => ?_, HI.out.2.1.later HB3.out, HI.out.2.2.trans (HB3.out.mono HI.out.2.2.size)⟩
          · rw [HM.out.2, List.length_append, ← HMM.out, HS.out]
            go_num
          · by_cases e : i = j
            · rw [e, ← HM.out.1, ← HL.out]
              exact hln
            · exact HI.out.1 i (by omega)
        case measure => simp [intOf]; omega
      · have iln : (n : Int) ≤ (L : Int) := by omega
        go_wp2_with (first | (refine wpList_load_val rfl 28 (.tmp 22) rfl _ _ rfl HLD.out ?_) | (refine wpList_store_at rfl 28 (.tmp 8) (.tmp 23) rfl wr.heap.size zeroA (rcF m) rfl rfl HZ.out.1 infoRc rfl (rcF_all m ⟨a1, c1, h1⟩ ⟨a2, c2', h2⟩) ?_; intro w2 hr2 hk2 hrow2; refine stop9 ?_))
        have hb2 := hk2 _ _ HZ.out.2 (Nat.le_refl _)
        have hl2 := hr2.cell 1 (.int .u64 (L : Int)) (by rw [HL.out]; rfl)
        have H2 := hide (And.intro hr2 hb2)
        clear hr2 hk2 hrow2 hb2 HLD HZ
        refine unstop9 ?_
        go_wp2
        go_ret2
        have hk : trimK g.l g.fa n = j := trimK_is _ _ _ j (by rw [HF.out]; omega) (by rw [HN.out]; omega) HI.out.1 (.inr (.inr (by rw [← HM.out.1, ← HL.out]; omega)))
        refine ⟨?_, HI.out.2.2.trans (H2.out.2.mono HI.out.2.2.size)⟩
        rw [hk, HS.out]
        rfl
    · obtain rfl : j = F := by omega
      have c3 := HI.out.2.1.c3
      rw [HF.out] at c3
      go_wp2
      go_ret2
      have hk : trimK g.l g.fa n = j := trimK_is _ _ _ j (by rw [HF.out]; omega) (by rw [HN.out]; omega) HI.out.1 (.inl HF.out.symm)
      refine ⟨?_, HI.out.2.2⟩
      rw [hk]
      rfl
theorem below9_any (w : World) (n : Nat) (h : LV B w gl gc gt gb a cap ms wa wc bs g) (ok : g.ok) :
    Calls Try.prog 42 #[.pointer (some ⟨gl, 0, none⟩), .int .u64 (n : Int)] w (BelowAns g n w) := by
  rcases h.recs.1 with ⟨rfl, _, rfl⟩ | ⟨b, off, cs, rfl, _⟩
  · exact below9_none w n h ok
  · exact below9_some w n b off h ok
set_option maxRecDepth 8000 in
set_option maxHeartbeats 1600000 in
theorem trim9_any (w : World) (n : Nat) (h : LV B w gl gc gt gb a cap ms wa wc bs g) (ok : g.ok) :
    Calls Try.prog 15 #[.pointer (some ⟨gl, 0, none⟩), .int .u64 (n : Int)] w fun e w' => e = .returned (.tuple #[.int .i64 (trimK g.l g.fa n : Int), .int .i64 0]) ∧ LV B w' gl gc gt gb a cap (ms.drop (trimK g.l g.fa n)) wa wc bs (g.trim n) ∧ Tn (FC gl gc gt gb a wa) w w' := by
  have H := hide h
  have HOK := hide ok
  have hlen := h.len
  have hfew := few_recs g ok
  have c1 := h.c1
  have hk := (g.trim_k ok n).1
  have hfa := ok.fa
  have hon := ok.on
  have HC := hide (show g.t.cut ((framesB (g.l.take (trimK g.l g.fa n))).length : Int) = ((g.trim n).t, 0) from by
    have e := g.trim_cut ok n
    unfold Lg.trim
    rw [e])
  have HBL := hide (below9_any w n h ok)
  unfold BelowAns at HBL
  have HTR := hide (show (g.trim n) = { g with t := (g.trim n).t, l := g.l.drop (trimK g.l g.fa n), on := g.on - trimK g.l g.fa n, fa := g.fa - trimK g.l g.fa n } from rfl)
  rw [HTR.out]
  generalize (g.trim n).t = t2 at *
  generalize (framesB (g.l.take (trimK g.l g.fa n))).length = S at *
  generalize trimK g.l g.fa n = k at *
  clear h ok HTR
  go_enter Try.func15, Try.ntmps15
  go_wp2_with fail
  refine (hastape9 gl gt w c1).mono ?_
  rintro e w0 ⟨rfl, rfl⟩
  go_wp2_with fail
  refine HBL.out.mono ?_
  rintro e w1 ⟨rfl, hb1⟩
  have H1 := hide (And.intro (H.out.later hb1) (Tn.of_below (F := FC gl gc gt gb a wa) hb1))
  clear hb1 HBL H c1
  have c1 := H1.out.1.c1
  go_wp2_with fail
  refine (cut8_any gt gb g.t (S : Int) w1 H1.out.1.tape HOK.out.tok).mono ?_
  rw [HC.out]
  rintro e w2 ⟨rfl, ht2, hT2⟩
  have H2 := hide (And.intro (H1.out.1.turnT hT2 ht2 (.inl rfl)) (H1.out.2.then (hT2.tn.weak (G := FC gl gc gt gb a wa) (fun k hk => by rcases hk with hk | hk; exact .inr (.inr (.inl hk)); exact .inr (.inr (.inr (.inl hk)))))))
  clear ht2 hT2 H1 HC c1
  have c2 : w2.cell? ⟨gl, 2, none⟩ = some (.slice a g.l.length cap) := H2.out.1.c2
  have HDL := hide (del9_any B w2 a cap ms H2.out.1.recs k (by omega) (by omega))
  rw [hlen] at HDL
  have HLN := hide hlen
  have HKL := hide (show k ≤ g.l.length by omega)
  clear hlen
  go_wp2_with fail
  refine HDL.out.mono ?_
  rintro e w3 ⟨rfl, hr3, hT3⟩
  have A := H2.out.1.all
  have hl3 : RowAt w3 gl 77 (lvA gc gt a cap wa bs.length wc { g with t := t2 }) := hT3.row H2.out.1.log A.la
  have H3 := hide (And.intro hr3 (And.intro hT3 (And.intro hl3 A)))
  have c2 : w3.cell? ⟨gl, 2, none⟩ = some (.slice a g.l.length cap) := hl3.cell 2 _ rfl
  have c3 : w3.cell? ⟨gl, 3, none⟩ = some (.int .i64 (g.fa : Int)) := hl3.cell 3 _ rfl
  have c4 : w3.cell? ⟨gl, 4, none⟩ = some (.int .i64 (g.on : Int)) := hl3.cell 4 _ rfl
  have f2 := hl3.free 2
  have f3 := hl3.free 3
  have f4 := hl3.free 4
  have e3 : (g.fa : Int) - (k : Int) = ((g.fa - k : Nat) : Int) := by omega
  have e4 : (g.on : Int) - (k : Int) = ((g.on - k : Nat) : Int) := by omega
  clear hr3 hT3 hl3 A
  go_wp2
  go_ret2
  have hTs : Tn (Is gl) w3 (((w3.setCell ⟨gl, 2, none⟩ (.slice a (g.l.length - k) cap)).setCell ⟨gl, 3, none⟩ (.int .i64 ((g.fa - k : Nat) : Int))).setCell ⟨gl, 4, none⟩ (.int .i64 ((g.on - k : Nat) : Int))) := (((Tn.refl (Is gl) w3).set gl 2 _ rfl).set gl 3 _ rfl).set gl 4 _ rfl
  refine ⟨rfl, ?_, ((H2.out.2.then (H3.out.2.1.weak (fun k hk => .inr (.inr (.inr (.inr (.inl hk))))))).then (hTs.weak (fun k hk => .inl hk)))⟩
  have L := H2.out.1
  have A := H3.out.2.2.2
  have hLo : Loose B w2 (blk a) := L.recs.loose
  refine ⟨L.lowl, L.lowc, L.lowt, L.lowb, ?_, ?_, ?_, ?_, ?_, ?_, L.apart⟩
  · have e := ((H3.out.2.2.1.set 2 (.slice a (g.l.length - k) cap)).set 3 (.int .i64 ((g.fa - k : Nat) : Int))).set 4 (.int .i64 ((g.on - k : Nat) : Int))
    show RowAt _ gl _ #[.pointer (some ⟨gc, 0, none⟩), .pointer (some ⟨gt, 0, none⟩), .slice a (g.l.drop k).length cap, .int .i64 ((g.fa - k : Nat) : Int), .int .i64 ((g.on - k : Nat) : Int), .slice wa bs.length wc, .int .u64 (g.du : Int), .int .i64 (g.hd : Int)]
    rw [List.length_drop]
    exact e
  · exact ⟨L.clock.1, hTs.row (H3.out.2.1.row L.clock.2 A.ca) (fun e => A.lc (show gc = gl from e).symm)⟩
  · have q1 := L.tape.keep (H3.out.2.1.block _ L.tape.lt.1 A.ta) (H3.out.2.1.block _ L.tape.lt.2 A.ba)
    exact q1.keep (hTs.block _ q1.lt.1 (fun e => A.lt (show gt = gl from e).symm)) (hTs.block _ q1.lt.2 (fun e => A.lb (show gb = gl from e).symm))
  · exact H3.out.1.keep (F := Is gl) (fun q hq => ⟨by rw [show q = gl from hq]; exact L.lowl, by rw [show q = gl from hq]; exact H3.out.2.2.1.lt, fun ty cs hrow => by rw [show q = gl from hq] at hrow; rw [row_kind hrow H3.out.2.2.1]; decide⟩) hTs (fun q hq e => A.la (by rw [← show q = gl from e]; exact hq))
  · show msR (ms.drop k) = g.l.drop k
    rw [← show msR ms = g.l from L.same]
    simp [msR, List.map_drop]
  · have q1 : WB B w3 wa wc bs := L.wait.keep (fun q hq => H3.out.2.1.block q (by obtain ⟨_, _, hr⟩ := L.wait.kind q hq; exact hr.lt) (fun ha => A.aw q ha hq))
    exact q1.keep (fun q hq => hTs.block q (by obtain ⟨_, _, hr⟩ := q1.kind q hq; exact hr.lt) (fun e => A.lw (by rw [← show q = gl from e]; exact hq)))
end
end Go.Proofs.Ytmdhnfeepadfaaa

/-
  The contract of package wal's Records.
-/
namespace Go.Proofs.Ytmdhnfeepadfaaa
open Go.RowKit
set_option linter.unusedVariables false

theorem there_row {w : World} {b o n : Nat} {t : TypeId} {cs : Array Value} (h : RowAt w b t cs) (hs : o + n ≤ cs.size) : w.there b o n := fun j hj => ⟨by rw [cell_of_row _ _ _ _ _ _ h, Array.getElem?_eq_getElem (by omega)]; rfl, h.free _⟩
theorem run_mk9 (n : Nat) (h : n ≤ 100000) (w : World) : ∃ cs : Array Value, cs.size = n * 14 ∧
    (Instr.makeSlice 42 (.int .i64 (n : Int)) (.int .i64 (n : Int))).run Try.prog w = .ok (.slice (some ⟨w.heap.size, 0, none⟩) n n) (w.alloc (.cells cs 28)) := by
  obtain ⟨i, hi0, hi1⟩ := Option.map_eq_some_iff.1 infoRc3
  simp only [Prod.mk.injEq] at hi1
  have hr := run_make (P := Try.prog) w 42 28 i (.agg zeroA) Try.underlying42 hi0 hi1.1 .i64 .i64 n n (by omega) (Int.le_refl _) (by rw [hi1.2.2]; omega) (by omega)
  simp only [Int.toNat_natCast, hi1.2.1] at hr
  exact ⟨_, by simp [madeCells], hr⟩
/-- The copies that are made. -/
structure RI (w wr : World) (ga ln : Nat) (g : Lg) (j : Nat) (ns : List Rm) : Prop where
  low : w.heap.size ≤ ga
  row : ∃ cs, RowAt wr ga 28 cs ∧ cs.size = ln * 14
  len : ns.length = j
  same : msR ns = g.l.take j
  cell : ∀ i, i < j → wr.rangeAt ga (i * 14) (rcF (ns.getD i rcZ)).toList
  got : ∀ m ∈ ns, m.1.fits ∧ GotIn w.heap.size wr m.1 m.2.1 m.2.2
  bel : Below w.heap.size w wr
theorem GotIn.kept {base : Nat} {x y : World} {r : Rec} {va vb : Value} (h : GotIn base x r va vb) (hk : ∀ k t cs, (t = 39 ∨ t = 41) → RowAt x k t cs → RowAt y k t cs) : GotIn base y r va vb :=
  ⟨own_kept h.1 (fun k cs hr => hk k _ cs (.inl rfl) hr), own_kept h.2 (fun k cs hr => hk k _ cs (.inr rfl) hr)⟩
theorem RI.later {w wr x : World} {ga ln j : Nat} {g : Lg} {ns : List Rm} (h : RI w wr ga ln g j ns) (p : Below wr.heap.size wr x) : RI w x ga ln g j ns := by
  obtain ⟨cs, h1, h2⟩ := h.row
  exact ⟨h.low, ⟨cs, h1.later p, h2⟩, h.len, h.same, fun i hi k u hu => (World.cell?_of_block (a := ⟨ga, i * 14 + k, none⟩) (p.block ga h1.lt)).trans (h.cell i hi k u hu), fun m hm => ⟨(h.got m hm).1, (h.got m hm).2.below p⟩, h.bel.trans (p.mono h.bel.size)⟩
/-- One more is stored. -/
theorem RI.put {w wr : World} {ga ln j : Nat} {g : Lg} {ns : List Rm} {m : Rm} (h : RI w wr ga ln g j ns) (hj : j < ln) (hl : j < g.l.length) (hm : m.1 = g.l.getD j Rec.zero) (hf : m.1.fits) (hg : GotIn w.heap.size wr m.1 m.2.1 m.2.2) : RI w (wr.setCells ga (j * 14) (rcF m).toList) ga ln g (j + 1) (ns ++ [m]) := by
  obtain ⟨cs, h1, h2⟩ := h.row
  obtain ⟨ds, d1, d2⟩ := setCells_row (rcF m).toList (j * 14) wr ga _ cs h1
  have hT := setCells_tn (rcF m).toList (j * 14) wr ga (Is ga) rfl
  have hk : ∀ k t cs, (t = 39 ∨ t = 41) → RowAt wr k t cs → RowAt (wr.setCells ga (j * 14) (rcF m).toList) k t cs := fun k t ds ht hr => hT.row hr (fun e => by
    rw [show k = ga from e] at hr
    have := row_kind hr h1
    rw [this] at ht
    rcases ht with ht | ht <;> exact absurd ht (by decide))
  refine ⟨h.low, ⟨ds, d1, by rw [d2, h2]⟩, by simp [h.len], ?_, fun i hi q u hu => ?_, fun x hx => ?_, h.bel.trans (hT.below (fun k hk => by rw [show k = ga from hk]; exact h.low) h.bel.size)⟩
  · rw [msR_snoc, h.same, hm, List.take_add_one, List.getD_eq_getElem?_getD, List.getElem?_eq_getElem hl]
    rfl
  · have hq : q < 14 := (List.getElem?_eq_some_iff.1 hu).1
    rw [getD_snoc, h.len] at hu
    by_cases e : i < j
    · rw [if_pos e] at hu
      rw [World.cell?_setCells_out ga _ _ wr _ (fun _ _ => .inl (by show i * 14 + q < j * 14; omega))]
      exact h.cell i e q u hu
    · obtain rfl : i = j := by omega
      rw [if_neg e, if_pos rfl] at hu
      have h9 := World.cell?_setCells_in ga (rcF m).toList (i * 14) wr (fun k hk => by
        have hk14 : k < 14 := hk
        rw [cell_of_row _ _ _ _ _ _ h1, Array.getElem?_eq_getElem (by omega)]
        rfl) q hq
      rw [h9]
      rw [List.getElem?_eq_getElem hq] at hu
      exact hu
  · rcases List.mem_append.1 hx with hx | hx
    · exact ⟨(h.got x hx).1, (h.got x hx).2.kept hk⟩
    · rw [List.mem_singleton.1 hx]
      exact ⟨hf, hg.kept hk⟩
/-- What Records answers. -/
def RecsAns (g : Lg) (w : World) (e : Ending) (w' : World) : Prop := ∃ ga ns, e = .returned (.slice (some ⟨ga, 0, none⟩) g.l.length g.l.length) ∧ RI w w' ga g.l.length g g.l.length ns
theorem RI.rs {w x : World} {ga : Nat} {g : Lg} {ns : List Rm} (h : RI w x ga g.l.length g g.l.length ns) : RsIn x (.slice (some ⟨ga, 0, none⟩) ns.length g.l.length) ns ∧ msR ns = g.l := by
  obtain ⟨cs, h1, h2⟩ := h.row
  refine ⟨⟨⟨_, _, rfl, fun hp => ⟨ga, 0, rfl, h1.lt, fun i hi => ?_⟩⟩, fun m hm => ⟨(h.got m hm).1, (h.got m hm).2.rc⟩⟩, ?_⟩
  · rw [Nat.zero_add]
    exact h.cell i (by rw [← h.len]; exact hi)
  · rw [h.same, List.take_length]
section
variable {B : Nat} {gl gc gt gb : Nat} {a : Option Addr} {cap : Nat} {ms : List Rm} {wa : Option Addr} {wc : Nat} {bs : List UInt8} {g : Lg}
set_option maxRecDepth 8000 in
set_option maxHeartbeats 3200000 in
theorem recs9_any (w : World) (h : LV B w gl gc gt gb a cap ms wa wc bs g) (ok : g.ok) :
    Calls Try.prog 11 #[.pointer (some ⟨gl, 0, none⟩)] w (RecsAns g w) := by
  have hlen := h.len
  have hcap := h.recs.cap
  have hfew := few_recs g ok
  have c2 := h.c2
  obtain ⟨cs, hcs, hmk⟩ := run_mk9 g.l.length (by omega) w
  have hb0 : Below w.heap.size w (w.alloc (.cells cs 28)) := (Below.refl _ _).alloc (Nat.le_refl _) _
  have k2 := (h.later hb0).c2
  obtain ⟨ln, hln⟩ : ∃ ln, ln = g.l.length := ⟨_, rfl⟩
  have H0 := hide (show LV B (w.alloc (.cells cs 28)) gl gc gt gb a cap ms wa wc bs g ∧ RI w (w.alloc (.cells cs 28)) w.heap.size ln g 0 [] from ⟨h.later hb0, ⟨Nat.le_refl _, ⟨cs, RowAt.new w _ cs, by rw [hcs, hln]⟩, rfl, by simp [msR], fun i hi => absurd hi (Nat.not_lt_zero _), fun m hm => (nomatch hm), hb0⟩⟩)
  have HLT := hide (fun k (hk : FC gl gc gt gb a wa k) => (h.loose k hk).2.1)
  have HBW := hide h.here
  have HOK := hide ok
  have HRA : Hid (RecsAns g w = fun e w' => ∃ ga ns, e = .returned (.slice (some ⟨ga, 0, none⟩) ln ln) ∧ RI w w' ga ln g ln ns) := by
    show RecsAns g w = _
    unfold RecsAns
    rw [hln]
  rw [← hln] at hlen hfew c2 hmk k2
  have HLN := hide hln
  have HML := hide hlen
  clear h ok hb0 hcs hln hlen
  obtain ⟨ga, hga⟩ : ∃ ga, ga = w.heap.size := ⟨_, rfl⟩
  rw [← hga] at hmk H0
  have HGA := hide hga
  clear hga
  obtain ⟨y, hy⟩ : ∃ y, y = w.alloc (.cells cs 28) := ⟨_, rfl⟩
  rw [← hy] at hmk H0 k2
  clear hy
  go_enter Try.func11, Try.ntmps11
  go_wp2
  go_loopw [19] (fun i wr => ∃ j : Nat, j ≤ ln ∧ i = .int .i64 j ∧ ∃ ns, Hid (LV B wr gl gc gt gb a cap ms wa wc bs g ∧ RI w wr ga ln g j ns)) (fun i _ => ln - (intOf i).toNat)
  case atStart => exact ⟨0, Nat.zero_le _, rfl, [], H0.out⟩
  case round =>
    obtain ⟨j, hj, rfl, ns, HI⟩ := hrel
    clear k2 c2 hmk H0
    by_cases hlt : j < ln
    · have ij : (j : Int) < (ln : Int) := by omega
      have hjm : j < ms.length := by have := HML.out; omega
      obtain ⟨b, off, rfl, hbl, hrg, hft, hin⟩ := HI.out.1.recs.rs.at hjm
      obtain ⟨hrt, hgi⟩ := HI.out.1.recAt HOK.out hjm
      obtain ⟨m, hm⟩ : ∃ m, m = ms.getD j rcZ := ⟨_, rfl⟩
      rw [← hm] at hrg hft hin hrt hgi
      have HM := hide (And.intro hgi hft)
      have HLD := hide (load_mid wr b (off + j * 14) m hrg)
      have hb1 : Below wr.heap.size wr (wr.alloc (.cells zeroA 28)) := (Below.refl _ _).alloc (Nat.le_refl _) _
      have HZ := hide (And.intro (RowAt.new wr 28 zeroA) hb1)
      have HCP := hide (fun y (hy : RcIn y m.1 m.2.1 m.2.2) => copied9_any m.1 m.2.1 m.2.2 y hy (right_few hrt).1 (right_few hrt).2)
      have HIN := hide hin
      obtain ⟨⟨a1, c1, h1⟩, a2, c2', h2⟩ := rcF_slices hin
      clear hrg hin hft hb1 hm hgi hrt
      go_wp2_with (first | (refine wpList_load_val rfl 28 (.tmp 22) rfl _ _ rfl HLD.out ?_) | (refine wpList_store_at rfl 28 (.tmp 5) (.tmp 23) rfl wr.heap.size zeroA (rcF m) rfl rfl HZ.out.1 infoRc rfl (rcF_all m ⟨a1, c1, h1⟩ ⟨a2, c2', h2⟩) ?_; intro w2 hr2 hk2 hrow2; refine stop9 ?_))
      have hb2 := hk2 _ _ HZ.out.2 (Nat.le_refl _)
      have H2 := hide (And.intro hr2 hb2)
      clear hr2 hk2 hrow2 hb2 HLD HZ h1 h2
      refine unstop9 ?_
      go_wp2_with (refine wpList_load_at rfl 28 (.tmp 5) rfl wr.heap.size rfl (rcF m) H2.out.1 _ Try.underlying28 rfl infoRc ?_)
      refine (HCP.out w2 (HIN.out.below H2.out.2)).mono ?_
      rintro e w3 ⟨ua, ub, rfl, hgot, hb3⟩
      have hb23 := H2.out.2.trans (hb3.mono H2.out.2.size)
      have H3 := hide (show LV B w3 gl gc gt gb (some ⟨b, off, none⟩) cap ms wa wc bs g ∧ RI w w3 ga ln g j ns ∧ GotIn w.heap.size w3 m.1 ua ub from ⟨HI.out.1.later hb23, HI.out.2.later hb23, own_low hgot.1 (Nat.le_trans HI.out.2.bel.size H2.out.2.size), own_low hgot.2 (Nat.le_trans HI.out.2.bel.size H2.out.2.size)⟩)
      obtain ⟨⟨a1, c1, rfl⟩, a2, c2', rfl⟩ := rcF_slices hgot.rc
      have hth : w3.there ga (j * 14) 14 := by
        obtain ⟨ds, d1, d2⟩ := H3.out.2.1.row
        exact there_row d1 (by rw [d2]; omega)
      have hPut := H3.out.2.1.put (m := (m.1, .slice a1 m.1.ts.length c1, .slice a2 m.1.ds.length c2')) hlt (by rw [← HLN.out]; exact hlt) HM.out.1 HM.out.2 H3.out.2.2
      have hT : Tn (Is ga) w3 (w3.setCells ga (j * 14) (rcA m.1 (.slice a1 m.1.ts.length c1) (.slice a2 m.1.ds.length c2')).toList) := setCells_tn _ _ w3 ga (Is ga) rfl
      have hLV : LV B (w3.setCells ga (j * 14) (rcA m.1 (.slice a1 m.1.ts.length c1) (.slice a2 m.1.ds.length c2')).toList) gl gc gt gb (some ⟨b, off, none⟩) cap ms wa wc bs g := by
        obtain ⟨ds, d1, d2⟩ := H3.out.2.1.row
        have hlow := H3.out.2.1.low
        refine H3.out.1.keep (F := Is ga) (fun k hk => ?_) hT (fun k hk e => ?_)
        · rw [show k = ga from hk]
          exact ⟨Nat.le_trans HBW.out hlow, d1.lt, fun ty es hrow => by rw [row_kind hrow d1]; decide⟩
        · have h5 := HLT.out k hk
          have h6 : k = ga := e
          omega
      have H4 := hide (And.intro hLV hPut)
      have HTH := hide hth
      clear hgot hb3 hb23 hth hPut hT hLV H2 HCP HIN
      go_wp2_with (refine wpList_store_mid ?hg 28 (.tmp 28) (.tmp 27) ?ho ga (j * 14) (rcA m.1 (.slice a1 m.1.ts.length c1) (.slice a2 m.1.ds.length c2')) ?h1 ?h2 ?ht ?hi ?h3 ?_; (case ho => with_reducible rfl); (case hg => rfl); (case h1 => simp [Act.eval]; done); (case h2 => rfl); (case ht => exact HTH.out); (case hi => exact infoRc); (case h3 => simp [rcA, Value.oneCell']))
      go_roundw
      case rel => exact ⟨j + 1, by omega, by go_num, _, H4.out⟩
      case measure => simp [intOf]; omega
    · obtain rfl : j = ln := by omega
      go_wp2
      go_ret
      rw [HRA.out]
      exact ⟨ga, ns, rfl, HI.out.2⟩
end
end Go.Proofs.Ytmdhnfeepadfaaa

/-
  Parts of a block: an array or a struct loaded out of the middle of a row, and stored into it. Of no program.
-/
namespace Go.Proofs.Ytmdhnfeepadfaaa
open Go.RowKit
set_option linter.unusedVariables false

/-- These cells lie in a row from a place on. -/
def Lies (cs : Array Value) (o : Nat) (vs : List Value) : Prop := ∀ j, j < vs.length → cs[o + j]? = vs[j]?
/-- A row with these cells laid into it from a place on. -/
def partA (cs : Array Value) (o : Nat) (vs : List Value) : Array Value := (cs.toList.take o ++ vs ++ cs.toList.drop (o + vs.length)).toArray
theorem partA_size (cs : Array Value) (o : Nat) (vs : List Value) (h : o + vs.length ≤ cs.size) : (partA cs o vs).size = cs.size := by
  unfold partA
  rw [List.size_toArray, List.length_append, List.length_append, List.length_take, List.length_drop, Array.length_toList]
  omega
theorem partA_in (cs : Array Value) (o : Nat) (vs : List Value) (h : o + vs.length ≤ cs.size) (j : Nat) (hj : j < vs.length) : (partA cs o vs)[o + j]? = vs[j]? := by
  unfold partA
  have hl : (cs.toList.take o).length = o := by rw [List.length_take, Array.length_toList]; omega
  rw [List.getElem?_toArray, List.append_assoc, List.getElem?_append_right (by omega), hl, Nat.add_sub_cancel_left, List.getElem?_append_left hj]
theorem partA_out (cs : Array Value) (o : Nat) (vs : List Value) (h : o + vs.length ≤ cs.size) (k : Nat) (hk : k < o ∨ o + vs.length ≤ k) : (partA cs o vs)[k]? = cs[k]? := by
  unfold partA
  have hl : (cs.toList.take o).length = o := by rw [List.length_take, Array.length_toList]; omega
  rw [List.getElem?_toArray, List.append_assoc]
  rcases hk with hk | hk
  · rw [List.getElem?_append_left (by omega), List.getElem?_take_of_lt hk, Array.getElem?_toList]
  · rw [List.getElem?_append_right (by omega), List.getElem?_append_right (by omega), hl, List.getElem?_drop, ← Array.getElem?_toList]
    congr 1
    omega
theorem Lies.same (cs : Array Value) (o : Nat) (vs : List Value) (h : o + vs.length ≤ cs.size) : Lies (partA cs o vs) o vs := fun j hj => partA_in cs o vs h j hj
theorem Lies.apart {cs : Array Value} {o' : Nat} {us : List Value} (h : Lies cs o' us) (o : Nat) (vs : List Value) (hf : o + vs.length ≤ cs.size) (ha : o' + us.length ≤ o ∨ o + vs.length ≤ o') : Lies (partA cs o vs) o' us := fun j hj => by
  rw [partA_out cs o vs hf (o' + j) (by omega)]
  exact h j hj
theorem Lies.set {cs : Array Value} {o : Nat} {us : List Value} (h : Lies cs o us) (k : Nat) (v : Value) (ha : k < o ∨ o + us.length ≤ k) : Lies (cs.setIfInBounds k v) o us := fun j hj => by
  rw [Array.getElem?_setIfInBounds_ne (by omega)]
  exact h j hj
theorem Lies.ext {cs : Array Value} {o : Nat} {vs : List Value} (h : Lies cs o vs) (n : Nat) (hn : vs.length = n) (hf : o + n ≤ cs.size) : cs.extract o (o + n) = vs.toArray := by
  subst hn
  apply Array.ext'
  apply List.ext_getElem?
  intro j
  by_cases hj : j < vs.length
  · have h1 := h j hj
    rw [Array.getElem?_toList, Array.getElem?_extract, if_pos (by omega), h1]
  · rw [List.getElem?_eq_none (by rw [Array.length_toList, Array.size_extract]; omega), List.getElem?_eq_none (by simpa using hj)]
theorem Lies.left {cs : Array Value} {o : Nat} {us vs : List Value} (h : Lies cs o (us ++ vs)) : Lies cs o us := fun j hj => by
  rw [h j (by rw [List.length_append]; omega), List.getElem?_append_left hj]
theorem Lies.cell {cs : Array Value} {o : Nat} {vs : List Value} (h : Lies cs o vs) (j : Nat) (v : Value) (hv : vs[j]? = some v) : cs[o + j]? = some v := by
  rw [h j (List.getElem?_eq_some_iff.1 hv).1, hv]

section
variable {P : Program} {ops : Array Oper} {rest : List Oper} {o : Oper} {a : Act} {w : World} {Q : Exit → Act → World → Prop}

theorem load_part (w : World) (t ty : TypeId) (g off n : Nat) (cs : Array Value) (hg : RowAt w g t cs) (d : TypeDesc) (hu : P.underlying ty = some d) (hd : d.isRow = true) (hi : (P.info? ty).map (·.size) = some n) (hf : off + n ≤ cs.size) :
    (Instr.loadAt ty (.pointer (some ⟨g, off, none⟩))).run P w = .ok (.agg (cs.extract off (off + n))) w := by
  have h1 := run_loadAt_mid (P := P) w g off ty (cs.extract off (off + n)).toList d (World.rangeAt_of_block hg off n) hu hd (by rw [Array.length_toList, Array.size_extract, hi]; congr 1; omega)
  rwa [Array.toArray_toList] at h1

theorem wpList_load_part (hw : Region.wanted o (yielded ops a.tmps) = true) (ty : TypeId) (x : Operand) (ho : o.op = .load ty x) (g off n : Nat) (hx : a.eval x = .pointer (some ⟨g, off, none⟩)) (t : TypeId) (cs : Array Value) (hg : RowAt w g t cs) (d : TypeDesc)
    (hu : P.underlying ty = some d) (hd : d.isRow = true) (hi : (P.info? ty).map (·.size) = some n) (hf : off + n ≤ cs.size) (v : Array Value) (hv : cs.extract off (off + n) = v) (h : wpList P ops Q rest (a.put o.dst (.agg v)) w) : wpList P ops Q (o :: rest) a w :=
  wpList_step fun K hK => by
    simp only [hw, if_true]
    unfold Oper.wp execOp
    simp only [ho, hx, Sem.run_bind, load_part w t ty g off n cs hg d hu hd hi hf, Result.andThen_ok, Sem.run_pure]
    rw [hv]
    exact hK _ _ h

/-- A load that may be taken first, by what it answers. -/
theorem yieldsIf_load_run {S : World → Prop} (hw : Region.wanted o (yielded ops a.tmps) = true) (ty : TypeId) (x : Operand) (ho : o.op = .load ty x) (u : Value) (hu : a.eval x = u) (v : Value) (hv : ∀ y, S y → (Instr.loadAt ty u).run P y = .ok v y) : YieldsIf P ops S o v a :=
  .inl ⟨hw, fun y hy => by
    unfold execOp
    simp only [ho, hu, Sem.run_bind, hv y hy, Result.andThen_ok, Sem.run_pure]⟩
/-- A call as one step of a region that draws its order. -/
theorem step_call10 {K : Act → World → Prop} {E : Prop} (hg : o.guard = none) (f : FuncId) (args : Array Value) (he : (execOp a.eval o).run P w = .ok (.enter f args) w)
    (hc : Calls P f args w fun e w' => ∃ v, e = .returned v ∧ K (a.put o.dst v) w') : if Region.wanted o (yielded ops a.tmps) = true then Oper.wp P o a w K Q else E := by
  have hw : Region.wanted o (yielded ops a.tmps) = true := by simp [Region.wanted, hg]
  rw [if_pos hw]
  unfold Oper.wp
  rw [he, Oper.upon_enter]
  refine hc.mono ?_
  rintro e w' ⟨v, rfl, h⟩
  exact h

theorem store_part (w : World) (t ty : TypeId) (g off : Nat) (c0 cs : Array Value) (hg : RowAt w g t c0) (hi : (P.info? ty).map (·.size) = some cs.size) (hf : off + cs.size ≤ c0.size) (h1 : cs.all (·.oneCell') = true) :
    (Instr.storeAt ty (.pointer (some ⟨g, off, none⟩)) (.agg cs)).run P w = .ok () (w.setRow g (partA c0 off cs.toList)) := by
  have hs := run_storeCells_at P g off t cs.toList 0 c0 w hg (by rw [Array.length_toList]; omega) (fun v hv => (Array.all_eq_true_iff_forall_mem.1 h1) v (by simpa using hv))
  have hsv : (storeVar ty ⟨g, off, none⟩ (.agg cs)).run P w = .ok () (w.setRow g (partA c0 off cs.toList)) := by
    cases hq : P.info? ty with
    | none => simp [hq] at hi
    | some i =>
      have hz : cs.size = i.size := by simp [hq] at hi; omega
      simp only [Nat.add_zero] at hs
      simp [storeVar, sizeOf, typeInfo, hq, Value.cells, hz, hs, partA]
  simp only [Instr.storeAt, Instr.sureAddr, Sem.run_bind, Sem.run_pure, Result.andThen_ok, hsv]

/-- Only one block was turned. -/
structure Only (g : Nat) (w w' : World) : Prop where
  os : w'.os = w.os
  tape : w'.tape = w.tape
  output : w'.output = w.output
  size : w.heap.size = w'.heap.size
  block : ∀ k, k ≠ g → w'.heap[k]? = w.heap[k]?
theorem only_setRow (w : World) (g : Nat) (cs : Array Value) : Only g w (w.setRow g cs) := ⟨rfl, rfl, rfl, by simp [World.setRow], fun k hk => setRow_other w g k _ hk⟩
theorem Only.below {g B : Nat} {w0 w w' : World} (p : Only g w w') (h : Below B w0 w) (hB : B ≤ g) : Below B w0 w' :=
  ⟨p.os.trans h.1, p.tape.trans h.2, p.output.trans h.3, Nat.le_trans h.4 (Nat.le_of_eq p.size), fun k hk => (p.block k (by omega)).trans (h.5 k hk)⟩
theorem Only.row {g k : Nat} {w w' : World} {t : TypeId} {cs : Array Value} (p : Only g w w') (h : RowAt w k t cs) (hk : k ≠ g) : RowAt w' k t cs := (p.block k hk).trans h

theorem wpList_store_part (hgd : o.guard = none) (ty : TypeId) (x y : Operand) (ho : o.op = .store ty x y) (g off : Nat) (t : TypeId) (c0 cs : Array Value) (hx : a.eval x = .pointer (some ⟨g, off, none⟩)) (hy : a.eval y = .agg cs) (hg : RowAt w g t c0)
    (hi : (P.info? ty).map (·.size) = some cs.size) (hf : off + cs.size ≤ c0.size) (h1 : cs.all (·.oneCell') = true)
    (h : ∀ w2, RowAt w2 g t (partA c0 off cs.toList) → Only g w w2 → wpList P ops Q rest (a.put o.dst undef) w2) : wpList P ops Q (o :: rest) a w :=
  wpList_plain hgd fun K hK => by
    unfold Oper.wp execOp
    simp only [ho, hx, hy, Sem.run_bind, store_part w t ty g off c0 cs hg hi hf h1, Result.andThen_ok, Sem.run_pure]
    exact hK _ _ (h _ (setRow_heap w g c0 _ t (0, 0) hg) (only_setRow w g _))

variable {K : Act → World → Prop} {E : Prop}
/-- .. as one step of a region that draws its order. -/
theorem step_store_part (hgd : o.guard = none) (ty : TypeId) (x y : Operand) (ho : o.op = .store ty x y) (g off : Nat) (t : TypeId) (c0 cs : Array Value) (hx : a.eval x = .pointer (some ⟨g, off, none⟩)) (hy : a.eval y = .agg cs) (hg : RowAt w g t c0)
    (hi : (P.info? ty).map (·.size) = some cs.size) (hf : off + cs.size ≤ c0.size) (h1 : cs.all (·.oneCell') = true)
    (h : ∀ w2, RowAt w2 g t (partA c0 off cs.toList) → Only g w w2 → K (a.put o.dst undef) w2) : if Region.wanted o (yielded ops a.tmps) = true then Oper.wp P o a w K Q else E := by
  have hw : Region.wanted o (yielded ops a.tmps) = true := by simp [Region.wanted, hgd]
  rw [if_pos hw]
  unfold Oper.wp execOp
  simp only [ho, hx, hy, Sem.run_bind, store_part w t ty g off c0 cs hg hi hf h1, Result.andThen_ok, Sem.run_pure]
  exact h _ (setRow_heap w g c0 _ t (0, 0) hg) (only_setRow w g _)
theorem step_load_part (hw : Region.wanted o (yielded ops a.tmps) = true) (ty : TypeId) (x : Operand) (ho : o.op = .load ty x) (g off n : Nat) (hx : a.eval x = .pointer (some ⟨g, off, none⟩)) (t : TypeId) (cs : Array Value) (hg : RowAt w g t cs) (d : TypeDesc)
    (hu : P.underlying ty = some d) (hd : d.isRow = true) (hi : (P.info? ty).map (·.size) = some n) (hf : off + n ≤ cs.size) (v : Array Value) (hv : cs.extract off (off + n) = v) (h : K (a.put o.dst (.agg v)) w) : if Region.wanted o (yielded ops a.tmps) = true then Oper.wp P o a w K Q else E := by
  rw [if_pos hw]
  unfold Oper.wp execOp
  simp only [ho, hx, Sem.run_bind, load_part w t ty g off n cs hg d hu hd hi hf, Result.andThen_ok, Sem.run_pure]
  rw [hv]
  exact h
end
end Go.Proofs.Ytmdhnfeepadfaaa

/-
  What the walk of WalKeeps keeps in memory: the log, a record of one's own whose lists may be written, the given record.
-/
namespace Go.Proofs.Ytmdhnfeepadfaaa
open Go.RowKit
set_option linter.unusedVariables false

/-- A list that lies there, put behind an empty one that isn't nil. -/
theorem run_append_base {α : Type} (f : α → Array Value) (zz : α) (sz : Nat) (hf : ∀ x, (f x).size = sz) (hsz : 0 < sz) {P : Program} (w : World) (ge : Nat) (t ty e : TypeId) (z : Array Value) (by' : Nat) (ht : P.underlying t = some (.slice e))
    (hi : (P.info? e).map (fun i => (i.zero, i.size, i.bytes)) = some (some (.agg z), sz, by')) (hzs : z.size = sz) (he : RowAt w ge e #[]) (vx : Value) (ms : List α) (hr : RowsIn f zz sz w vx ms) (h1 : ∀ m ∈ ms, ∀ u ∈ (f m).toList, u.oneCell' = true) (hl : ms.length ≤ maxLen) (hb : ms.length * by' ≤ 140737488355328) :
    ∃ a c w', (Builtin.append_ #[t, t] ty #[.slice (some ⟨ge, 0, none⟩) 0 0, vx]).run P w = .ok (.slice a ms.length c) w' ∧ w'.ownsRow ge e sz (.slice a ms.length c) ms.length (ms.flatMap fun m => (f m).toList) ∧ w.grownBy w' (some ge) := by
  have hown : w.ownsRow ge e sz (.slice (some ⟨ge, 0, none⟩) 0 0) 0 [] := ⟨by simp, .inr ⟨ge, 0, #[], rfl, Nat.le_refl _, he, Nat.le_refl _, by simp, by simp, by simp⟩⟩
  have hr' := hr
  obtain ⟨a, cap, rfl, hc⟩ := hr'
  cases a with
  | none =>
    have hm : ms = [] := by
      rcases ms with _ | ⟨m, ms⟩
      · rfl
      · obtain ⟨b, off, h, _⟩ := hc (by simp)
        cases h
    subst hm
    obtain ⟨i, hi0, hi1⟩ := Option.map_eq_some_iff.1 hi
    refine ⟨some ⟨ge, 0, none⟩, 0, w, ?_, hown, ⟨rfl, rfl, rfl, Nat.le_refl _, fun _ _ _ => rfl⟩⟩
    simp [Builtin.append_, run_underlying ht, sizeOf, typeInfo, hi0, Builtin.lenOf, Builtin.firstCells, storeCells]
  | some ad =>
    obtain ⟨v', w', r1, r2, r3⟩ := run_append_rows f zz sz hf hsz (P := P) w ge t ty e z by' ht hi hzs _ 0 [] hown (.slice (some ad) ms.length cap) ms hr (fun a len c h ha => by injection h with h1; rw [ha] at h1; cases h1) h1 (by rw [Nat.zero_add]; exact hl) (by rw [Nat.zero_add]; exact hb) (Nat.le_of_lt he.lt)
    rw [Nat.zero_add, List.nil_append] at r2
    have hv : ∃ a c, v' = .slice a ms.length c := by
      rcases r2.2 with ⟨h2, h3⟩ | ⟨g, c, cur, h2, _⟩
      · exact ⟨none, 0, by rw [h2, h3]⟩
      · exact ⟨_, c, h2⟩
    obtain ⟨a, c, rfl⟩ := hv
    exact ⟨a, c, w', r1, r2, r3⟩

/-- Where a list of one's own lies, whose elements may be written: a row of its kind between two bounds. -/
def Mine (lo hi : Nat) (x : World) (t : TypeId) (sz : Nat) (v : Value) : Prop := ∀ b off n c, v = .slice (some ⟨b, off, none⟩) n c → 0 < n → off = 0 ∧ lo ≤ b ∧ b < hi ∧ ∃ cs, RowAt x b t cs ∧ n * sz ≤ cs.size
theorem Mine.own {base n sz : Nat} {w : World} {t : TypeId} {v : Value} {xs : List Value} (h : w.ownsRow base t sz v n xs) : Mine base w.heap.size w t sz v := by
  intro b off m c ev hm
  rcases h.2 with ⟨h1, _⟩ | ⟨g, cap, cur, h1, h2, h3, h4, h5, h6, _⟩
  · rw [h1] at ev
    cases ev
  · rw [h1] at ev
    injection ev with e1 e2 e3
    injection e1 with e1
    injection e1 with e1 e4
    subst e1
    have h3' : RowAt w g t cur := h3
    exact ⟨e4.symm, h2, h3'.lt, cur, h3', by rw [← e2, h6]; exact Nat.mul_le_mul_right _ h4⟩
theorem Mine.mono {lo lo' hi hi' sz : Nat} {x : World} {t : TypeId} {v : Value} (h : Mine lo hi x t sz v) (h1 : lo' ≤ lo) (h2 : hi ≤ hi') : Mine lo' hi' x t sz v := fun b off n c e hn => by
  obtain ⟨q1, q2, q3, q4⟩ := h b off n c e hn
  exact ⟨q1, Nat.le_trans h1 q2, Nat.lt_of_lt_of_le q3 h2, q4⟩
theorem Mine.keep {lo hi sz : Nat} {x y : World} {t : TypeId} {v : Value} (h : Mine lo hi x t sz v) (hk : ∀ k cs, RowAt x k t cs → RowAt y k t cs) : Mine lo hi y t sz v := fun b off n c e hn => by
  obtain ⟨q1, q2, q3, cs, q4, q5⟩ := h b off n c e hn
  exact ⟨q1, q2, q3, cs, hk b cs q4, q5⟩
/-- One of its cells is written. -/
theorem Mine.set {lo hi sz k j : Nat} {u : Value} {x : World} {t t' : TypeId} {v : Value} {ds : Array Value} (h : Mine lo hi x t sz v) (hr : RowAt x k t' ds) : Mine lo hi (x.setCell ⟨k, j, none⟩ u) t sz v := fun b off n c e hn => by
  obtain ⟨q1, q2, q3, cs, q4, q5⟩ := h b off n c e hn
  by_cases hb : b = k
  · subst hb
    have h9 := row_kind q4 hr
    exact ⟨q1, q2, q3, cs.setIfInBounds j u, q4.set j u, by rw [Array.size_setIfInBounds]; exact q5⟩
  · exact ⟨q1, q2, q3, cs, q4.other _ _ hb, q5⟩

/-- What is kept behind Append. -/
structure KP (B : Nat) (w : World) (gl gt gR gO lo hi hh : Nat) (r r0 : Rec) (va vb v1 v2 : Value) (g : Lg) (x : World) : Prop where
  lv : ∃ gc gb a cap ua ub wa wc, LV B x gl gc gt gb a cap [(r, ua, ub)] wa wc (framesB (g.l.drop g.on)) g ∧ LiesIn (fun b => hi ≤ b ∧ b < hh) ua ∧ LiesIn (fun b => hi ≤ b ∧ b < hh) ub ∧ ∀ k, FC gl gc gt gb a wa k → k < hh
  ok : g.ok
  inp : RowAt x gR 28 (rcA r0 va vb)
  own : RowAt x gO 28 (rcA (r0.put 0) v1 v2)
  tx : Mine lo hi x 39 5 v1
  di : Mine lo hi x 41 2 v2
  low : B ≤ lo
  bel : Below B w x
  big : hh ≤ x.heap.size
section
variable {B : Nat} {w x y : World} {gl gt gR gO lo hi hh : Nat} {r r0 : Rec} {va vb v1 v2 : Value} {g : Lg}
theorem KP.later (h : KP B w gl gt gR gO lo hi hh r r0 va vb v1 v2 g x) (hB : B ≤ x.heap.size) (p : Below x.heap.size x y) : KP B w gl gt gR gO lo hi hh r r0 va vb v1 v2 g y := by
  obtain ⟨gc, gb, a, cap, ua, ub, wa, wc, h1, h2⟩ := h.lv
  exact ⟨⟨gc, gb, a, cap, ua, ub, wa, wc, h1.later p, h2⟩, h.ok, h.inp.later p, h.own.later p, h.tx.keep (fun k cs hr => hr.later p), h.di.keep (fun k cs hr => hr.later p), h.low, h.bel.trans (p.mono hB), Nat.le_trans h.big p.size⟩
/-- A cell of a block of rows is written in which the log's record has no list. -/
theorem KP.write {k j : Nat} {u : Value} {t : TypeId} {cs : Array Value} (h : KP B w gl gt gR gO lo hi hh r r0 va vb v1 v2 g x) (hr : RowAt x k t cs) (ht : t = 39 ∨ t = 41) (hk : B ≤ k) (hn : k < hi ∨ hh ≤ k) : KP B w gl gt gR gO lo hi hh r r0 va vb v1 v2 g (x.setCell ⟨k, j, none⟩ u) := by
  obtain ⟨gc, gb, a, cap, ua, ub, wa, wc, h1, h2, h3, h4⟩ := h.lv
  have hT : Tn (Is k) x (x.setCell ⟨k, j, none⟩ u) := (Tn.refl (Is k) x).set k j _ rfl
  have hl : LiesIn (fun b => b ≠ k) ua ∧ LiesIn (fun b => b ≠ k) ub := ⟨fun b off n c e hm => by have := h2 b off n c e hm; omega, fun b off n c e hm => by have := h3 b off n c e hm; omega⟩
  have ne : ∀ {q : Nat} {ds : Array Value}, RowAt x q 28 ds → q ≠ k := fun hq e => by
    rw [e] at hq
    have := row_kind hq hr
    rw [← this] at ht
    rcases ht with ht | ht <;> exact absurd ht (by decide)
  exact ⟨⟨gc, gb, a, cap, ua, ub, wa, wc, h1.beside hT hr ht (fun m hm => by rw [List.mem_singleton.1 hm]; exact hl), h2, h3, h4⟩, h.ok, h.inp.other _ _ (ne h.inp), h.own.other _ _ (ne h.own), h.tx.set hr, h.di.set hr, h.low, h.bel.setCell hk _, by rw [World.size_setCell]; exact h.big⟩
/-- A cell of another record is written. -/
theorem KP.writeR {k j : Nat} {u : Value} {cs : Array Value} (h : KP B w gl gt gR gO lo hi hh r r0 va vb v1 v2 g x) (hr : RowAt x k 28 cs) (hk : B ≤ k) (hn : hh ≤ k) (h5 : gR ≠ k) (h6 : gO ≠ k) : KP B w gl gt gR gO lo hi hh r r0 va vb v1 v2 g (x.setCell ⟨k, j, none⟩ u) := by
  obtain ⟨gc, gb, a, cap, ua, ub, wa, wc, h1, h2, h3, h4⟩ := h.lv
  have hT : Tn (Is k) x (x.setCell ⟨k, j, none⟩ u) := (Tn.refl (Is k) x).set k j _ rfl
  have hlo : Loose B x (Is k) := fun q hq => by
    rw [show q = k from hq]
    exact ⟨hk, hr.lt, fun t ds hrow => by rw [row_kind hrow hr]; decide⟩
  have ks : ∀ {t : TypeId}, t ≠ 28 → ∀ q ds, RowAt x q t ds → RowAt (x.setCell ⟨k, j, none⟩ u) q t ds := fun ht q ds hq => hT.row hq (fun e => by
    rw [show q = k from e] at hq
    exact ht (row_kind hq hr))
  exact ⟨⟨gc, gb, a, cap, ua, ub, wa, wc, h1.keep hlo hT (fun q hq e => by have := h4 q hq; have : q = k := e; omega), h2, h3, h4⟩, h.ok, h.inp.other _ _ h5, h.own.other _ _ h6, h.tx.keep (ks (by decide)), h.di.keep (ks (by decide)), h.low, h.bel.setCell hk _, by rw [World.size_setCell]; exact h.big⟩
end
/-- .. and a record that was handed out, in the row ga. -/
structure KA (B : Nat) (w : World) (gl gt gR gO lo hi hh : Nat) (r r0 : Rec) (va vb v1 v2 : Value) (g : Lg) (gW ga l3 h3 : Nat) (m : Rm) (x : World) : Prop where
  kp : KP B w gl gt gR gO lo hi hh r r0 va vb v1 v2 g x
  want : RowAt x gW 28 (rcA r va vb)
  arow : ∃ cs, RowAt x ga 28 cs ∧ ∀ (j : Nat) (u : Value), (rcF m)[j]? = some u → cs[j]? = some u
  mine : Mine l3 h3 x 39 5 m.2.1
  far : hh ≤ l3
  low3 : B ≤ l3
section
variable {B : Nat} {w x y : World} {gl gt gR gO lo hi hh gW ga l3 h3 : Nat} {r r0 : Rec} {va vb v1 v2 : Value} {g : Lg} {m : Rm}
theorem KA.later (h : KA B w gl gt gR gO lo hi hh r r0 va vb v1 v2 g gW ga l3 h3 m x) (hB : B ≤ x.heap.size) (p : Below x.heap.size x y) : KA B w gl gt gR gO lo hi hh r r0 va vb v1 v2 g gW ga l3 h3 m y := by
  obtain ⟨cs, h1, h2⟩ := h.arow
  exact ⟨h.kp.later hB p, h.want.later p, ⟨cs, h1.later p, h2⟩, h.mine.keep (fun k cs hr => hr.later p), h.far, h.low3⟩
theorem KA.write {k j : Nat} {u : Value} {cs : Array Value} (h : KA B w gl gt gR gO lo hi hh r r0 va vb v1 v2 g gW ga l3 h3 m x) (hr : RowAt x k 39 cs) (hk : l3 ≤ k) : KA B w gl gt gR gO lo hi hh r r0 va vb v1 v2 g gW ga l3 h3 m (x.setCell ⟨k, j, none⟩ u) := by
  obtain ⟨ds, h1, h2⟩ := h.arow
  have ne : ∀ {q : Nat} {ds : Array Value}, RowAt x q 28 ds → q ≠ k := fun hq e => by
    rw [e] at hq
    exact absurd (row_kind hq hr) (by decide)
  exact ⟨h.kp.write hr (.inl rfl) (Nat.le_trans h.low3 hk) (.inr (Nat.le_trans h.far hk)), h.want.other _ _ (ne h.want), ⟨ds, h1.other _ _ (ne h1), h2⟩, h.mine.set hr, h.far, h.low3⟩
end
theorem exec_append9 {P : Program} {o : Oper} {a : Act} {w w' : World} {v' : Value} (d x : Operand) (t u : TypeId) (hop : o.op = Op.call { callee := Callee.builtin Builtin.append, args := #[d, x], argTypes := #[t, u] }) (vd vx : Value) (hs : a.eval d = vd) (hx : a.eval x = vx) (hrun : (Builtin.append_ #[t, u] o.type #[vd, vx]).run P w = .ok v' w') : (execOp a.eval o).run P w = .ok (.value v') w' := by
  simp [execOp, hop, resolve, invoke, builtin, hs, hx, hrun, Result.andThen]
theorem open_new (room : Int) (base : Nat) : (Lg.open (Tp.new room) base).l = [] := by
  have e : scanL (Tp.new room).b.data.toList = ([], 0) := by
    show scanL [] = ([], 0)
    exact scan_nil _ _
  unfold Lg.open
  rw [e]
theorem app_one (g : Lg) (ok : g.ok) (r : Rec) (f : Nat) (h : Int) (he : g.appE r f h = 0) (hl : g.l = []) : (g.app r f h).l = [r.put (g.num f)] ∧ (g.app r f h).get (g.num f) = (r.put (g.num f), true) := by
  have e := (g.app_yes r f h he).1
  have e1 : (g.app r f h).l = [r.put (g.num f)] := by
    rw [e, hl]
    rfl
  refine ⟨e1, ?_⟩
  unfold Lg.get
  rw [e1]
  have e2 : (r.put (g.num f)).l = g.num f := rfl
  simp [e2]
end Go.Proofs.Ytmdhnfeepadfaaa

/-
  The contract of package wal's Open.
-/
namespace Go.Proofs.Ytmdhnfeepadfaaa
open Go.RowKit
set_option linter.unusedVariables false

theorem last_get9 (l : List Rec) : lastL 0 l = if 0 < l.length then (l.getD (l.length - 1) Rec.zero).l else 0 := by
  by_cases h : 0 < l.length
  · rw [if_pos h]
    have e := last_take l 0 (l.length - 1) (by omega)
    rw [Nat.sub_add_cancel h, List.take_length] at e
    exact e
  · rw [if_neg h]
    have : l = [] := List.eq_nil_of_length_eq_zero (by omega)
    rw [this]
    rfl
set_option maxRecDepth 4000 in
set_option maxHeartbeats 400000 in
theorem open9_nil (base : Nat) (w : World) : Calls Try.prog 8 #[.pointer none, .int .u64 (base : Int)] w fun e w' => e = .returned (.tuple #[.pointer none, .int .i64 1]) ∧ w = w' := by
  go_enter Try.func8, Try.ntmps8
  go_wp2
  go_ret2
  exact ⟨rfl, rfl⟩
set_option maxRecDepth 8000 in
set_option maxHeartbeats 1600000 in
theorem open9_any (B gt gb : Nat) (w : World) (t : Tp) (base : Nat) (h : TpAt w gt gb t) (ok : t.ok) (hgt : B ≤ gt) (hgb : B ≤ gb) (hbase : base < 18446744073709551616) :
    Calls Try.prog 8 #[.pointer (some ⟨gt, 0, none⟩), .int .u64 (base : Int)] w fun e x' => ∃ gl F', e = .returned (.tuple #[.pointer (some ⟨gl, 0, none⟩), .int .i64 0]) ∧ LAc B gt gl x' F' (Lg.open t base) ∧ Tn (fun k => k = gt ∨ k = gb) w x' ∧ (∀ k, F' k → k = gt ∨ k = gb ∨ w.heap.size ≤ k) ∧ w.heap.size ≤ gl := by
  have hlt := h.lt
  have hsz : t.b.size ≤ 65536 := Nat.le_trans ok.few ok.room
  have H := hide h
  have HOK := hide ok
  have HS := hide (scan_facts t.b.data.toList)
  have hdl : t.b.data.toList.length = t.b.size := by rw [Array.length_toList]; rfl
  clear h ok
  go_enter Try.func8, Try.ntmps8
  go_wp2_with fail
  refine (bytes8_any gt gb t w H.out HOK.out).mono ?_
  rintro e w1 ⟨v, rfl, ho, hb1⟩
  obtain ⟨a0, c0, rfl, hc0, hB0⟩ := shape_isB ho
  have H1 := hide (And.intro (H.out.later hb1) (And.intro hb1 (And.intro hB0 hc0)))
  clear ho hb1 hB0 hc0
  go_wp2_with fail
  refine (scan7_any a0 t.b.size c0 t.b.data.toList w1 H1.out.2.2.1 (by omega) H1.out.2.2.2).mono ?_
  rintro e w2 ⟨v, ms, rfl, hms, ho, hgot, hb2⟩
  obtain ⟨a, cap, rfl, hrb, hblk⟩ := RB.own (B := B) (Nat.le_trans (Nat.le_trans hgt (Nat.le_of_lt hlt.1)) H1.out.2.1.size) ho hgot
  have hml : ms.length = (scanL t.b.data.toList).1.length := by rw [← hms]; simp [msR]
  have H2 := hide (show TpAt w2 gt gb t ∧ Below w.heap.size w w2 ∧ RB B w2 a cap ms ∧ (∀ k, blk a k → w.heap.size ≤ k) from ⟨H1.out.1.later hb2, H1.out.2.1.trans (hb2.mono H1.out.2.1.size), hrb, fun k hk => Nat.le_trans H1.out.2.1.size (hblk k hk)⟩)
  have HMS := hide (And.intro hms hml)
  clear ho hgot hb2 hrb hblk hms hml H1
  generalize hsc : scanL t.b.data.toList = sc at *
  obtain ⟨rs, N⟩ := sc
  have HSC := hide hsc
  clear hsc
  simp only at HMS HS ⊢
  obtain ⟨ln, hln⟩ : ∃ ln, ln = ms.length := ⟨_, rfl⟩
  rw [← hln] at HMS ⊢
  have HLN := hide hln
  clear hln
  have hl6 : ln ≤ 20000 := by
    have h1 := framesB_long rs
    have h2 := congrArg List.length HS.out.2.1
    rw [List.length_take] at h2
    have h3 : rs.length = ln := HMS.out.2.symm
    omega
  go_wp2_with fail
  refine (chop8_any gt gb t (N : Int) w2 H2.out.1 HOK.out).mono ?_
  rintro e w3 ⟨rfl, ht3, hT3⟩
  generalize hch : t.chop (N : Int) = ch at *
  obtain ⟨t2, e2⟩ := ch
  have HCH := hide hch
  clear hch
  simp only at ht3 ⊢
  have hq : Tn (fun k => k = gt ∨ k = gb) w2 w3 := hT3.tn
  have hlo2 : Loose B w2 (fun k => k = gt ∨ k = gb) := fun k hk => by
    obtain ⟨⟨c1, t1⟩, t2⟩ := H2.out.1.kind
    rcases hk with rfl | rfl
    · exact ⟨hgt, t1.lt, fun ty cs hrow => by rw [row_kind hrow t1]; decide⟩
    · rcases t2 with rfl | ⟨c2, t2⟩
      · exact ⟨hgt, t1.lt, fun ty cs hrow => by rw [row_kind hrow t1]; decide⟩
      · exact ⟨hgb, t2.lt, fun ty cs hrow => by rw [row_kind hrow t2]; decide⟩
  have H3 := hide (show TpAt w3 gt gb t2 ∧ Tn (fun k => k = gt ∨ k = gb) w w3 ∧ RB B w3 a cap ms ∧ (∀ k, blk a k → w.heap.size ≤ k) from ⟨ht3, (Tn.of_below H2.out.2.1).then hq, H2.out.2.2.1.keep hlo2 hq (fun k hk e => by
    have h1 := H2.out.2.2.2 k hk
    rcases e with e | e
    · omega
    · omega), H2.out.2.2.2⟩)
  clear ht3 hT3 hq hlo2 H2
  go_wp2_with fail
  refine (new_any base w3 hbase).mono ?_
  rintro e w4 ⟨gc, rfl, hgc, hc4, hb4⟩
  have H4 := hide (show TpAt w4 gt gb t2 ∧ Tn (fun k => k = gt ∨ k = gb) w w4 ∧ RB B w4 a cap ms ∧ ClkAt w4 gc (min base maxL) ∧ w.heap.size ≤ gc from ⟨H3.out.1.later hb4, H3.out.2.1.later hb4, H3.out.2.2.1.later hb4, hc4, Nat.le_trans H3.out.2.1.size hgc⟩)
  have HBK := hide H3.out.2.2.2
  clear hgc hc4 hb4 H3
  have hbx : Below w4.heap.size w4 (w4.alloc (.cells #[.pointer (some ⟨gc, 0, none⟩), .pointer (some ⟨gt, 0, none⟩), .slice a ln cap, .int .i64 0, .int .i64 (ln : Int), .slice none 0 0, .int .u64 0, .int .i64 0] 77)) := (Below.refl _ _).alloc (Nat.le_refl _) _
  have hrl : rs.length = ln := HMS.out.2.symm
  have H5 := hide (show LV B (w4.alloc (.cells #[.pointer (some ⟨gc, 0, none⟩), .pointer (some ⟨gt, 0, none⟩), .slice a ln cap, .int .i64 0, .int .i64 (ln : Int), .slice none 0 0, .int .u64 0, .int .i64 0] 77)) w4.heap.size gc gt gb a cap ms none 0 [] ⟨t2, min base maxL, rs, ln, 0, 0, 0⟩ ∧ Tn (fun k => k = gt ∨ k = gb) w (w4.alloc (.cells #[.pointer (some ⟨gc, 0, none⟩), .pointer (some ⟨gt, 0, none⟩), .slice a ln cap, .int .i64 0, .int .i64 (ln : Int), .slice none 0 0, .int .u64 0, .int .i64 0] 77)) from
    ⟨⟨Nat.le_trans hgt (Nat.le_trans (Nat.le_of_lt hlt.1) H4.out.2.1.size), Nat.le_trans hgt (Nat.le_trans (Nat.le_of_lt hlt.1) H4.out.2.2.2.2), hgt, hgb, (by
      show RowAt _ _ _ #[.pointer (some ⟨gc, 0, none⟩), .pointer (some ⟨gt, 0, none⟩), .slice a rs.length cap, .int .i64 0, .int .i64 (ln : Int), .slice none 0 0, .int .u64 0, .int .i64 0]
      rw [hrl]
      exact RowAt.new w4 _ _), ⟨H4.out.2.2.2.1.1, RowAt.later H4.out.2.2.2.1.2 hbx⟩, H4.out.1.later hbx, H4.out.2.2.1.later hbx, HMS.out.1, WB.nil B _, fun hk => by obtain ⟨_, e⟩ := hk; cases e⟩, H4.out.2.1.later hbx⟩)
  have HSZ := hide (And.intro H4.out.2.1.size H4.out.2.2.2.2)
  clear hbx H4
  go_wp2_with fail
  refine gen_calls (fun y => Hid (LV B y w4.heap.size gc gt gb a cap ms none 0 [] ⟨t2, min base maxL, rs, ln, 0, 0, 0⟩ ∧ Tn (fun k => k = gt ∨ k = gb) w y)) H5 ?_
  clear H5
  intro y H5
  obtain ⟨gl, hgl⟩ : ∃ gl, gl = w4.heap.size := ⟨_, rfl⟩
  rw [← hgl] at H5 HSZ ⊢
  clear hgl
  have hS6 := sync9_any y H5.out.1 (by show ln ≤ rs.length; omega) (by show rs.length ≤ 100000; omega)
  refine hS6.mono ?_
  rintro e w6 ⟨rfl, h6, hT6⟩
  obtain ⟨du, hdu⟩ : ∃ du, du = if 0 < ln then (rs.getD (ln - 1) Rec.zero).l else 0 := ⟨_, rfl⟩
  have h6' : LV B w6 gl gc gt gb a cap ms none 0 [] ⟨t2.sync, min base maxL, rs, ln, ln, 0, du⟩ := by
    rw [hdu]
    exact h6
  have hnew : ∀ k, FC gl gc gt gb a none k → (k = gt ∨ k = gb) ∨ w.heap.size ≤ k := fun k hk => by
    rcases hk with hk | hk | hk | hk | hk | hk
    · exact .inr (by rw [hk]; exact HSZ.out.1)
    · exact .inr (by rw [hk]; exact HSZ.out.2)
    · exact .inl (.inl hk)
    · exact .inl (.inr hk)
    · exact .inr (HBK.out k hk)
    · obtain ⟨_, e⟩ := hk
      cases e
  have H6 := hide (And.intro h6' (And.intro (H5.out.2.trans hT6 hnew) hnew))
  have HDU := hide hdu
  clear hS6 h6 hT6 h6' hnew hdu H5
  have hdl2 : du < 18446744073709551616 := by
    have h1 := last_max rs 0 HS.out.1 (Nat.zero_le _)
    rw [last_get9, hrl, ← HDU.out] at h1
    unfold maxL at h1
    omega
  have k0 := H6.out.1.c0
  have k6 : w6.cell? ⟨gl, 6, none⟩ = some (.int .u64 (du : Int)) := H6.out.1.c6
  have HSEE := hide (see_any gc (min base maxL) du w6.drew H6.out.1.drew.clock hdl2)
  go_wp2_with fail
  go_region_held3 (fun x => x.cell? ⟨gl, 0, none⟩ = some (.pointer (some ⟨gc, 0, none⟩)) ∧ x.cell? ⟨gl, 6, none⟩ = some (.int .u64 (du : Int))) (go_keep)
    (first | (go_at_call 34; with_reducible refine HSEE.out.mono ?_; rintro e w7 ⟨rfl, hc7, hg7⟩; have hT7 : Tn (Is gc) w6.drew w7 := Tn.of_grown hg7 (fun k hk => by injection hk with hk; unfold Is; exact hk.symm); have H7 := hide (And.intro (H6.out.1.drew.turnC hT7 hc7) hT7); have k0 := H7.out.1.c0; have k6 : w7.cell? ⟨gl, 6, none⟩ = some (.int .u64 (du : Int)) := H7.out.1.c6))
  clear hc7 hg7 hT7 k0 k6 HSEE
  go_wp2
  go_ret2
  have hlast : lastL 0 rs = du := by rw [last_get9, hrl, HDU.out]
  have hop : Lg.open t base = ⟨t2.sync, max (min base maxL) (min du maxL), rs, ln, ln, 0, du⟩ := by
    unfold Lg.open
    rw [HSC.out]
    simp only
    rw [HCH.out, hlast, hrl, Nat.zero_max]
  rw [hop]
  refine ⟨gl, FC gl gc gt gb a none, rfl, ⟨gc, gb, a, cap, ms, none, 0, ?_, rfl⟩, (H6.out.2.1.drew).trans H7.out.2 (fun k hk => ?_), fun k hk => ?_, HSZ.out.1⟩
  · have e : framesB (rs.drop ln) = [] := by rw [← hrl, List.drop_length]; rfl
    show LV B w7 gl gc gt gb a cap ms none 0 (framesB (rs.drop ln)) _
    rw [e]
    exact H7.out.1
  · exact .inr (by rw [show k = gc from hk]; exact HSZ.out.2)
  · rcases H6.out.2.2 k hk with (h1 | h1) | h1
    · exact .inl h1
    · exact .inr (.inl h1)
    · exact .inr (.inr h1)
end Go.Proofs.Ytmdhnfeepadfaaa

/-
  Package wal's contracts in the form that the statements' walks lean on.
-/
namespace Go.Proofs.Ytmdhnfeepadfaaa
open Go.RowKit
set_option linter.unusedVariables false

theorem opens9 (B : Nat) : ClOpens B (LAc B) := fun gt gb x t base h ok hgt hgb hb => open9_any B gt gb x t base h ok hgt hgb hb
theorem append9 (B : Nat) : ClAppend B (LAc B) := by
  rintro gt gl x F g r va vb f h ⟨gc, gb, a, cap, ms, wa, wc, hL, rfl⟩ ok hft hin hf _
  exact app9_any x r va vb f h hL ok rfl hft hin hf
theorem see9 (B : Nat) : ClSee B (LAc B) := by
  rintro gt gl x F g n ⟨gc, gb, a, cap, ms, wa, wc, hL, rfl⟩ ok hn
  exact (see9_any x n hL hn).mono fun e x' hh => ⟨hh.1, _, ⟨gc, gb, a, cap, ms, wa, wc, hh.2.1, rfl⟩, hh.2.2.weak (fun k hk => .inr (.inl hk)), fun k hk => .inl hk⟩
theorem write9 (B : Nat) : ClWrite B (LAc B) := by
  rintro gt gl x F g ⟨gc, gb, a, cap, ms, wa, wc, hL, rfl⟩ ok
  refine (write9_any x hL ok rfl).mono ?_
  rintro e x' ⟨rfl, gb', h1, h2, h3⟩
  have e : framesB (g.write.l.drop g.write.on) = [] := by
    show framesB (g.l.drop g.l.length) = []
    rw [List.drop_length]
    rfl
  refine ⟨rfl, _, ⟨gc, gb', a, cap, ms, none, 0, by rw [e]; exact h1, rfl⟩, h2, fun k hk => ?_⟩
  rcases hk with hk | hk | hk | hk | hk | hk
  · exact .inl (.inl hk)
  · exact .inl (.inr (.inl hk))
  · exact .inl (.inr (.inr (.inl hk)))
  · rcases h3 with h3 | h3
    · exact .inl (.inr (.inr (.inr (.inl (by rw [hk, h3])))))
    · exact .inr (by rw [hk]; exact h3)
  · exact .inl (.inr (.inr (.inr (.inr (.inl hk)))))
  · obtain ⟨_, e⟩ := hk
    cases e
theorem sync9 (B : Nat) : ClSync B (LAc B) := by
  rintro gt gl x F g ⟨gc, gb, a, cap, ms, wa, wc, hL, rfl⟩ ok
  have hfew := few_recs g ok
  exact (sync9_any x hL ok.on (by omega)).mono fun e x' hh => ⟨hh.1, _, ⟨gc, gb, a, cap, ms, wa, wc, hh.2.1, rfl⟩, hh.2.2, fun k hk => .inl hk⟩
theorem trim9 (B : Nat) : ClTrim B (LAc B) := by
  rintro gt gl x F g n ⟨gc, gb, a, cap, ms, wa, wc, hL, rfl⟩ ok _
  have hk := (g.trim_k ok n).1
  have hfa := ok.fa
  have e : framesB ((g.trim n).l.drop (g.trim n).on) = framesB (g.l.drop g.on) := by
    show framesB ((g.l.drop (trimK g.l g.fa n)).drop (g.on - trimK g.l g.fa n)) = _
    rw [List.drop_drop, show trimK g.l g.fa n + (g.on - trimK g.l g.fa n) = g.on by omega]
  exact (trim9_any x n hL ok).mono fun e' x' hh => ⟨hh.1, _, ⟨gc, gb, a, cap, _, wa, wc, by rw [e]; exact hh.2.1, rfl⟩, hh.2.2, fun k hk => .inl hk⟩
theorem records9 (B : Nat) : ClRecords B (LAc B) := by
  rintro gt gl x F g ⟨gc, gb, a, cap, ms, wa, wc, hL, rfl⟩ ok
  refine (recs9_any x hL ok).mono ?_
  rintro e x' ⟨ga, ns, rfl, h⟩
  obtain ⟨h1, h2⟩ := h.rs
  exact ⟨_, g.l.length, ns, by rw [h.len], h1, h2, by rw [h.len]; exact Nat.le_refl _, h.bel⟩
theorem get9 (B : Nat) : ClGet B (LAc B) := by
  rintro gt gl x F g n ⟨gc, gb, a, cap, ms, wa, wc, hL, rfl⟩ ok _
  refine (get9_any x n hL ok).mono ?_
  rintro e x' ⟨m, rfl, h1, h2, h3, h4⟩
  exact ⟨m, rfl, h1, h2, h3.rc, h4⟩
theorem last9 (B : Nat) : ClLast B (LAc B) := by
  rintro gt gl x F g ⟨gc, gb, a, cap, ms, wa, wc, hL, rfl⟩ ok
  exact last9_any x hL
theorem durable9 (B : Nat) : ClDurable B (LAc B) := by
  rintro gt gl x F g ⟨gc, gb, a, cap, ms, wa, wc, hL, rfl⟩ ok
  exact dur9_any x hL
theorem pending9 (B : Nat) : ClPending B (LAc B) := by
  rintro gt gl x F g ⟨gc, gb, a, cap, ms, wa, wc, hL, rfl⟩ ok
  have hfew := few_recs g ok
  exact pend9_any x hL (Nat.le_trans ok.fa ok.on) (by omega)
theorem held9 (B : Nat) : ClHeld B (LAc B) := by
  rintro gt gl x F g ⟨gc, gb, a, cap, ms, wa, wc, hL, rfl⟩ ok
  exact held9_any x hL
theorem left9 (B : Nat) : ClLeft B (LAc B) := by
  rintro gt gl x F g ⟨gc, gb, a, cap, ms, wa, wc, hL, rfl⟩ ok
  have hroom := ok.room
  have hm := ok.tok.room
  have hu : g.used = g.t.b.size + (framesB (g.l.drop g.on)).length := rfl
  rw [hu]
  rw [hu] at hroom
  exact left9_any x hL (by omega) hm (by omega)
end Go.Proofs.Ytmdhnfeepadfaaa

/-
  The contract of the code's Crash.
-/
namespace Go.Proofs.Ytmdhnfeepadfaaa
open Go.RowKit
set_option linter.unusedVariables false

set_option maxRecDepth 4000 in
set_option maxHeartbeats 1600000 in
theorem crash8_all (gt gb cap : Nat) (a : Option Addr) (t : Tp) (r : Nat) (k : Int) (hr : t.b.size = t.f + r) (h1 : (r : Int) < k) (h0 : 0 < r) (w : World) (h : TpV w gt gb cap a t) (ok : t.ok) (hcap : t.b.size ≤ cap) :
    Calls Try.prog 27 #[.pointer (some ⟨gt, 0, none⟩), .int .i64 k] w fun e w' => e = .returned (.tuple #[]) ∧ TpV w' gt gb cap a ⟨t.b.extract 0 (t.f + r), t.f + r, t.m, t.s⟩ ∧ Turn gt gb w w' := by
  have H := hide h
  have hz := ok.few
  have hy := ok.room
  have hx := ok.fast
  have hlm : t.f + r ≤ t.b.size := by omega
  have HLM := hide hlm
  have ew : IntKind.i64.wrap ((t.b.size : Int) - (t.f : Int)) = (r : Int) := by rw [IntKind.wrap_i64]; omega
  have h2 : (0 : Int) < (r : Int) := by omega
  have h3 : (0 : Int) < k := by omega
  have e1 : IntKind.i64.wrap ((t.f : Int) + (r : Int)) = (t.f : Int) + (r : Int) := by rw [IntKind.wrap_i64]; omega
  have e2 : (0 : Int) ≤ (t.f : Int) + (r : Int) := by omega
  have e3 : (t.f : Int) + (r : Int) ≤ (cap : Int) := by omega
  clear h ok
  have HR := hide hr
  clear hr
  go_enter Try.func27, Try.ntmps27
  go_wp2_with fail
  refine wp_region_in (fun x => TpV x gt gb cap a t ∧ Turn gt gb w x) (by kernel_rfl) (by kernel_rfl) ⟨H.out.drew, (Turn.refl gt gb w).drew⟩ ?_
  repeat (first
    | go_big_quiet_skip
    | (refine wpQuiet_load rfl 3 _ rfl _ (.int .i64 (t.f : Int)) rfl (fun y hy => load8_n y _ (hy.1.1.cell 1 _ rfl)) ?_; simp only [Act.put, Array.setIfInBounds, List.size_toArray, List.length_cons, List.length_nil, Nat.reduceAdd, Nat.reduceLT, ↓reduceDIte, List.set_toArray, List.set_cons_succ, List.set_cons_zero])
    | (refine wpQuiet_load rfl 61 _ rfl _ (.slice a t.b.size cap) rfl (fun y hy => load8_sl y _ _ _ (hy.1.1.cell 0 _ rfl)) ?_; simp only [Act.put, Array.setIfInBounds, List.size_toArray, List.length_cons, List.length_nil, Nat.reduceAdd, Nat.reduceLT, ↓reduceDIte, List.set_toArray, List.set_cons_succ, List.set_cons_zero])
    | (refine wpQuiet_plain rfl (fun K hK => ?_); go_simp; (try simp only [ew]); refine hK _ ?_; clear hK K))
  refine wpQuiet_nil ?_
  intro x hx
  have HX := hide hx
  have c0 := hx.1.1.cell 0 (.slice a t.b.size cap) rfl
  have c1 := hx.1.1.cell 1 (.int .i64 (t.f : Int)) rfl
  have f0 := hx.1.1.free 0
  have f1 := hx.1.1.free 1
  clear hx
  go_wp2_with fail
  go_region
  go_wp2
  go_end0
  exact ⟨rfl, (HX.out.1.drew.first (t.f + r) HLM.out).setf _ _ (by omega), (HX.out.2.drew.set 0 _).set 1 _⟩

set_option maxRecDepth 4000 in
set_option maxHeartbeats 1600000 in
theorem crash8_some (gt gb cap : Nat) (a : Option Addr) (t : Tp) (r : Nat) (n : Nat) (k : Int) (hk : k = (n : Int)) (hr : t.b.size = t.f + r) (h1 : n ≤ r) (h0 : 0 < n) (w : World) (h : TpV w gt gb cap a t) (ok : t.ok) (hcap : t.b.size ≤ cap) :
    Calls Try.prog 27 #[.pointer (some ⟨gt, 0, none⟩), .int .i64 k] w fun e w' => e = .returned (.tuple #[]) ∧ TpV w' gt gb cap a ⟨t.b.extract 0 (t.f + n), t.f + n, t.m, t.s⟩ ∧ Turn gt gb w w' := by
  have H := hide h
  have hz := ok.few
  have hy := ok.room
  have hx := ok.fast
  subst hk
  have hlm : t.f + n ≤ t.b.size := by omega
  have HLM := hide hlm
  have ew : IntKind.i64.wrap ((t.b.size : Int) - (t.f : Int)) = (r : Int) := by rw [IntKind.wrap_i64]; omega
  have h2 : (0 : Int) < (n : Int) := by omega
  have h3 : ¬ (r : Int) < (n : Int) := by omega
  have e1 : IntKind.i64.wrap ((t.f : Int) + (n : Int)) = (t.f : Int) + (n : Int) := by rw [IntKind.wrap_i64]; omega
  have e2 : (0 : Int) ≤ (t.f : Int) + (n : Int) := by omega
  have e3 : (t.f : Int) + (n : Int) ≤ (cap : Int) := by omega
  clear h ok
  have HR := hide hr
  clear hr
  go_enter Try.func27, Try.ntmps27
  go_wp2_with fail
  refine wp_region_in (fun x => TpV x gt gb cap a t ∧ Turn gt gb w x) (by kernel_rfl) (by kernel_rfl) ⟨H.out.drew, (Turn.refl gt gb w).drew⟩ ?_
  repeat (first
    | go_big_quiet_skip
    | (refine wpQuiet_load rfl 3 _ rfl _ (.int .i64 (t.f : Int)) rfl (fun y hy => load8_n y _ (hy.1.1.cell 1 _ rfl)) ?_; simp only [Act.put, Array.setIfInBounds, List.size_toArray, List.length_cons, List.length_nil, Nat.reduceAdd, Nat.reduceLT, ↓reduceDIte, List.set_toArray, List.set_cons_succ, List.set_cons_zero])
    | (refine wpQuiet_load rfl 61 _ rfl _ (.slice a t.b.size cap) rfl (fun y hy => load8_sl y _ _ _ (hy.1.1.cell 0 _ rfl)) ?_; simp only [Act.put, Array.setIfInBounds, List.size_toArray, List.length_cons, List.length_nil, Nat.reduceAdd, Nat.reduceLT, ↓reduceDIte, List.set_toArray, List.set_cons_succ, List.set_cons_zero])
    | (refine wpQuiet_plain rfl (fun K hK => ?_); go_simp; (try simp only [ew]); refine hK _ ?_; clear hK K))
  refine wpQuiet_nil ?_
  intro x hx
  have HX := hide hx
  have c0 := hx.1.1.cell 0 (.slice a t.b.size cap) rfl
  have c1 := hx.1.1.cell 1 (.int .i64 (t.f : Int)) rfl
  have f0 := hx.1.1.free 0
  have f1 := hx.1.1.free 1
  clear hx
  go_wp2_with fail
  go_region
  go_wp2
  go_end0
  exact ⟨rfl, (HX.out.1.drew.first (t.f + n) HLM.out).setf _ _ (by omega), (HX.out.2.drew.set 0 _).set 1 _⟩

set_option maxRecDepth 4000 in
set_option maxHeartbeats 1600000 in
theorem crash8_none (gt gb cap : Nat) (a : Option Addr) (t : Tp) (r : Nat) (k : Int) (hr : t.b.size = t.f + r) (h1 : k ≤ 0) (w : World) (h : TpV w gt gb cap a t) (ok : t.ok) (hcap : t.b.size ≤ cap) :
    Calls Try.prog 27 #[.pointer (some ⟨gt, 0, none⟩), .int .i64 k] w fun e w' => e = .returned (.tuple #[]) ∧ TpV w' gt gb cap a ⟨t.b.extract 0 (t.f), t.f, t.m, t.s⟩ ∧ Turn gt gb w w' := by
  have H := hide h
  have hz := ok.few
  have hy := ok.room
  have hx := ok.fast
  have hlm : t.f ≤ t.b.size := by omega
  have HLM := hide hlm
  have ew : IntKind.i64.wrap ((t.b.size : Int) - (t.f : Int)) = (r : Int) := by rw [IntKind.wrap_i64]; omega
  have h2 : ¬ (0 : Int) < k := by omega
  have ek : (if k < 0 then (0 : Int) else k) = 0 := by
    by_cases g : k < 0
    · rw [if_pos g]
    · rw [if_neg g]
      omega
  have em : (if (r : Int) < 0 then (r : Int) else 0) = 0 := if_neg (by omega)
  have e1 : IntKind.i64.wrap (t.f : Int) = (t.f : Int) := by rw [IntKind.wrap_i64]; omega
  have e2 : (0 : Int) ≤ (t.f : Int) := by omega
  have e3 : (t.f : Int) ≤ (cap : Int) := by omega
  clear h ok
  have HR := hide hr
  clear hr
  go_enter Try.func27, Try.ntmps27
  go_wp2_with fail
  refine wp_region_in (fun x => TpV x gt gb cap a t ∧ Turn gt gb w x) (by kernel_rfl) (by kernel_rfl) ⟨H.out.drew, (Turn.refl gt gb w).drew⟩ ?_
  repeat (first
    | go_big_quiet_skip
    | (refine wpQuiet_load rfl 3 _ rfl _ (.int .i64 (t.f : Int)) rfl (fun y hy => load8_n y _ (hy.1.1.cell 1 _ rfl)) ?_; simp only [Act.put, Array.setIfInBounds, List.size_toArray, List.length_cons, List.length_nil, Nat.reduceAdd, Nat.reduceLT, ↓reduceDIte, List.set_toArray, List.set_cons_succ, List.set_cons_zero])
    | (refine wpQuiet_load rfl 61 _ rfl _ (.slice a t.b.size cap) rfl (fun y hy => load8_sl y _ _ _ (hy.1.1.cell 0 _ rfl)) ?_; simp only [Act.put, Array.setIfInBounds, List.size_toArray, List.length_cons, List.length_nil, Nat.reduceAdd, Nat.reduceLT, ↓reduceDIte, List.set_toArray, List.set_cons_succ, List.set_cons_zero])
    | (refine wpQuiet_plain rfl (fun K hK => ?_); go_simp; (try simp only [ew, ek, em]); refine hK _ ?_; clear hK K))
  refine wpQuiet_nil ?_
  intro x hx
  have HX := hide hx
  have c0 := hx.1.1.cell 0 (.slice a t.b.size cap) rfl
  have c1 := hx.1.1.cell 1 (.int .i64 (t.f : Int)) rfl
  have f0 := hx.1.1.free 0
  have f1 := hx.1.1.free 1
  clear hx
  go_wp2_with fail
  go_region
  go_wp2
  go_end0
  exact ⟨rfl, (HX.out.1.drew.first (t.f) HLM.out).setf _ _ (by omega), (HX.out.2.drew.set 0 _).set 1 _⟩

set_option maxRecDepth 4000 in
set_option maxHeartbeats 1600000 in
theorem crash8_same (gt gb cap : Nat) (a : Option Addr) (t : Tp) (k : Int) (hr : t.b.size = t.f) (h1 : (0 : Int) < k) (w : World) (h : TpV w gt gb cap a t) (ok : t.ok) (hcap : t.b.size ≤ cap) :
    Calls Try.prog 27 #[.pointer (some ⟨gt, 0, none⟩), .int .i64 k] w fun e w' => e = .returned (.tuple #[]) ∧ TpV w' gt gb cap a ⟨t.b.extract 0 (t.f), t.f, t.m, t.s⟩ ∧ Turn gt gb w w' := by
  have H := hide h
  have hz := ok.few
  have hy := ok.room
  have hx := ok.fast
  have hlm : t.f ≤ t.b.size := by omega
  have HLM := hide hlm
  have ew : IntKind.i64.wrap ((t.b.size : Int) - (t.f : Int)) = 0 := by rw [IntKind.wrap_i64]; omega
  have e1 : IntKind.i64.wrap (t.f : Int) = (t.f : Int) := by rw [IntKind.wrap_i64]; omega
  have e2 : (0 : Int) ≤ (t.f : Int) := by omega
  have e3 : (t.f : Int) ≤ (cap : Int) := by omega
  clear h ok
  have HR := hide hr
  clear hr
  go_enter Try.func27, Try.ntmps27
  go_wp2_with fail
  refine wp_region_in (fun x => TpV x gt gb cap a t ∧ Turn gt gb w x) (by kernel_rfl) (by kernel_rfl) ⟨H.out.drew, (Turn.refl gt gb w).drew⟩ ?_
  repeat (first
    | go_big_quiet_skip
    | (refine wpQuiet_load rfl 3 _ rfl _ (.int .i64 (t.f : Int)) rfl (fun y hy => load8_n y _ (hy.1.1.cell 1 _ rfl)) ?_; simp only [Act.put, Array.setIfInBounds, List.size_toArray, List.length_cons, List.length_nil, Nat.reduceAdd, Nat.reduceLT, ↓reduceDIte, List.set_toArray, List.set_cons_succ, List.set_cons_zero])
    | (refine wpQuiet_load rfl 61 _ rfl _ (.slice a t.b.size cap) rfl (fun y hy => load8_sl y _ _ _ (hy.1.1.cell 0 _ rfl)) ?_; simp only [Act.put, Array.setIfInBounds, List.size_toArray, List.length_cons, List.length_nil, Nat.reduceAdd, Nat.reduceLT, ↓reduceDIte, List.set_toArray, List.set_cons_succ, List.set_cons_zero])
    | (refine wpQuiet_plain rfl (fun K hK => ?_); go_simp; (try simp only [ew]); refine hK _ ?_; clear hK K))
  refine wpQuiet_nil ?_
  intro x hx
  have HX := hide hx
  have c0 := hx.1.1.cell 0 (.slice a t.b.size cap) rfl
  have c1 := hx.1.1.cell 1 (.int .i64 (t.f : Int)) rfl
  have f0 := hx.1.1.free 0
  have f1 := hx.1.1.free 1
  clear hx
  go_wp2_with fail
  go_region
  go_wp2
  go_end0
  exact ⟨rfl, (HX.out.1.drew.first (t.f) HLM.out).setf _ _ (by omega), (HX.out.2.drew.set 0 _).set 1 _⟩

theorem crash8_any (gt gb : Nat) (t : Tp) (k : Int) (w : World) (h : TpAt w gt gb t) (ok : t.ok) :
    Calls Try.prog 27 #[.pointer (some ⟨gt, 0, none⟩), .int .i64 k] w fun e w' => e = .returned (.tuple #[]) ∧ TpAt w' gt gb (t.crash k) ∧ Turn gt gb w w' := by
  obtain ⟨cap, a, h⟩ := h
  have hx := ok.fast
  have hcap : t.b.size ≤ cap := by
    rcases h.own with ⟨_, _, h2, _⟩ | ⟨_, _, _, h2, _⟩ <;> omega
  obtain ⟨r, hr⟩ : ∃ r, t.b.size = t.f + r := ⟨t.b.size - t.f, by omega⟩
  unfold Tp.crash
  by_cases h0 : k ≤ 0
  · have e : t.left k = t.f := by unfold Tp.left; omega
    rw [e]
    exact (crash8_none gt gb cap a t r k hr h0 w h ok hcap).mono fun e w' he => ⟨he.1, ⟨cap, a, he.2.1⟩, he.2.2⟩
  by_cases h1 : (r : Int) < k
  · by_cases h2 : 0 < r
    · have e : t.left k = t.f + r := by unfold Tp.left; omega
      rw [e]
      exact (crash8_all gt gb cap a t r k hr h1 h2 w h ok hcap).mono fun e w' he => ⟨he.1, ⟨cap, a, he.2.1⟩, he.2.2⟩
    · have e : t.left k = t.f := by unfold Tp.left; omega
      rw [e]
      exact (crash8_same gt gb cap a t k (by omega) (by omega) w h ok hcap).mono fun e w' he => ⟨he.1, ⟨cap, a, he.2.1⟩, he.2.2⟩
  · obtain ⟨n, rfl⟩ := Int.eq_ofNat_of_zero_le (show 0 ≤ k by omega)
    have e : t.left (n : Int) = t.f + n := by unfold Tp.left; omega
    rw [e]
    exact (crash8_some gt gb cap a t r n _ rfl hr (by omega) (by omega) w h ok hcap).mono fun e w' he => ⟨he.1, ⟨cap, a, he.2.1⟩, he.2.2⟩
end Go.Proofs.Ytmdhnfeepadfaaa

/-
  A tape of the code's that a walk keeps, call by call: all that was there when the walk began stays.
-/
namespace Go.Proofs.Ytmdhnfeepadfaaa
open Go.RowKit
set_option linter.unusedVariables false

structure K8 (w0 w : World) (gt : Nat) (t : Tp) : Prop where
  low : w0.heap.size ≤ gt
  ok : t.ok
  tp : ∃ gb, w0.heap.size ≤ gb ∧ TpAt w gt gb t
  bel : Below w0.heap.size w0 w
theorem K8.later {w0 w x : World} {gt : Nat} {t : Tp} (h : K8 w0 w gt t) (p : Below w.heap.size w x) : K8 w0 x gt t := by
  obtain ⟨gb, hb, h1⟩ := h.tp
  exact ⟨h.low, h.ok, ⟨gb, hb, h1.later p⟩, h.bel.trans (p.mono h.bel.size)⟩
theorem K8.alloc {w0 w : World} {gt : Nat} {t : Tp} (h : K8 w0 w gt t) (o : Obj) : K8 w0 (w.alloc o) gt t := h.later ((Below.refl _ _).alloc (Nat.le_refl _) _)
theorem K8.drew {w0 w : World} {gt : Nat} {t : Tp} (h : K8 w0 w gt t) : K8 w0 w.drew gt t := h.later ⟨rfl, rfl, rfl, Nat.le_refl _, fun _ _ => rfl⟩
theorem K8.turn {w0 w x : World} {gt gb gb' : Nat} {t u : Tp} (h : K8 w0 w gt t) (hb : w0.heap.size ≤ gb) (hu : u.ok) (h1 : TpAt x gt gb' u) (p : Turn gt gb w x) (h2 : gb' = gb ∨ w.heap.size ≤ gb') : K8 w0 x gt u :=
  ⟨h.low, hu, ⟨gb', by have := h.bel.size; omega, h1⟩, h.bel.trans (p.below h.low hb h.bel.size)⟩
theorem knew8 (r : Int) (w0 w : World) (h : Below w0.heap.size w0 w) :
    Calls Try.prog 9 #[.int .i64 r] w fun e w' => e = .returned (.pointer (some ⟨w.heap.size, 0, none⟩)) ∧ K8 w0 w' w.heap.size (Tp.new r) ∧ Below w.heap.size w w' :=
  (new8_any r w).mono fun e w' he => ⟨he.1, ⟨h.size, Tp.new_ok r, ⟨w.heap.size, h.size, he.2.1⟩, h.trans (he.2.2.mono h.size)⟩, he.2.2⟩
theorem kapp8 (w0 w : World) (gt : Nat) (t : Tp) (h : K8 w0 w gt t) (ad : Option Addr) (n c : Nat) (bs : List UInt8) (hB : IsB w ad n bs) (hnil : ad = none → c = 0) (hs : n ≤ 70000) :
    Calls Try.prog 45 #[.pointer (some ⟨gt, 0, none⟩), .slice ad n c] w fun e w' => e = .returned (.int .i64 (t.app ⟨bs.toArray⟩).2) ∧ K8 w0 w' gt (t.app ⟨bs.toArray⟩).1 := by
  obtain ⟨gb, hb, h1⟩ := h.tp
  refine (app8_any gt gb t ad n c bs w h1 h.ok hB hnil hs).mono ?_
  rintro e w' ⟨rfl, gb', q1, q2, q3⟩
  exact ⟨rfl, h.turn hb (t.app_ok h.ok _) q1 q2 q3⟩
theorem ksync8 (w0 w : World) (gt : Nat) (t : Tp) (h : K8 w0 w gt t) :
    Calls Try.prog 46 #[.pointer (some ⟨gt, 0, none⟩)] w fun e w' => e = .returned (.int .i64 0) ∧ K8 w0 w' gt t.sync := by
  obtain ⟨gb, hb, h1⟩ := h.tp
  exact (sync8_any gt gb t w h1).mono fun e w' he => ⟨he.1, h.turn hb (t.sync_ok h.ok) he.2.1 he.2.2 (.inl rfl)⟩
theorem kcut8 (w0 w : World) (gt : Nat) (t : Tp) (h : K8 w0 w gt t) (n : Int) :
    Calls Try.prog 43 #[.pointer (some ⟨gt, 0, none⟩), .int .i64 n] w fun e w' => e = .returned (.int .i64 (t.cut n).2) ∧ K8 w0 w' gt (t.cut n).1 := by
  obtain ⟨gb, hb, h1⟩ := h.tp
  exact (cut8_any gt gb t n w h1 h.ok).mono fun e w' he => ⟨he.1, h.turn hb (t.cut_ok h.ok n) he.2.1 he.2.2 (.inl rfl)⟩
theorem kchop8 (w0 w : World) (gt : Nat) (t : Tp) (h : K8 w0 w gt t) (n : Int) :
    Calls Try.prog 32 #[.pointer (some ⟨gt, 0, none⟩), .int .i64 n] w fun e w' => e = .returned (.int .i64 (t.chop n).2) ∧ K8 w0 w' gt (t.chop n).1 := by
  obtain ⟨gb, hb, h1⟩ := h.tp
  exact (chop8_any gt gb t n w h1 h.ok).mono fun e w' he => ⟨he.1, h.turn hb (t.chop_ok h.ok n) he.2.1 he.2.2 (.inl rfl)⟩
theorem kcrash8 (w0 w : World) (gt : Nat) (t : Tp) (h : K8 w0 w gt t) (n : Int) :
    Calls Try.prog 27 #[.pointer (some ⟨gt, 0, none⟩), .int .i64 n] w fun e w' => e = .returned (.tuple #[]) ∧ K8 w0 w' gt (t.crash n) := by
  obtain ⟨gb, hb, h1⟩ := h.tp
  exact (crash8_any gt gb t n w h1 h.ok).mono fun e w' he => ⟨he.1, h.turn hb (t.crash_ok h.ok n) he.2.1 he.2.2 (.inl rfl)⟩
theorem klen8 (w0 w : World) (gt : Nat) (t : Tp) (h : K8 w0 w gt t) :
    Calls Try.prog 29 #[.pointer (some ⟨gt, 0, none⟩)] w fun e w' => e = .returned (.int .i64 (t.b.size : Int)) ∧ w = w' := by
  obtain ⟨gb, hb, h1⟩ := h.tp
  exact len8_any gt gb t w h1
theorem kroom8 (w0 w : World) (gt : Nat) (t : Tp) (h : K8 w0 w gt t) :
    Calls Try.prog 26 #[.pointer (some ⟨gt, 0, none⟩)] w fun e w' => e = .returned (.int .i64 (t.m : Int)) ∧ w = w' := by
  obtain ⟨gb, hb, h1⟩ := h.tp
  exact room8_any gt gb t w h1
theorem kbytes8 (w0 w : World) (gt : Nat) (t : Tp) (h : K8 w0 w gt t) :
    Calls Try.prog 25 #[.pointer (some ⟨gt, 0, none⟩)] w fun e w' => ∃ v, e = .returned v ∧ w'.ownsRow w.heap.size 5 1 v t.b.size (toV t.b.data.toList) ∧ K8 w0 w' gt t ∧ Below w.heap.size w w' := by
  obtain ⟨gb, hb, h1⟩ := h.tp
  exact (bytes8_any gt gb t w h1 h.ok).mono fun e w' ⟨v, h2, h3, h4⟩ => ⟨v, h2, h3, h.later h4, h4⟩
end Go.Proofs.Ytmdhnfeepadfaaa

/-
  A log of the code's that a walk keeps, call by call: all that was there when the walk began stays, and so do some blocks beside it.
-/
namespace Go.Proofs.Ytmdhnfeepadfaaa
open Go.RowKit
set_option linter.unusedVariables false

/-- The blocks of P are as they were at wp. -/
structure K9 (P : Nat → Prop) (wp w0 w : World) (gt gl : Nat) (g : Lg) : Prop where
  ok : g.ok
  la : ∃ F, LAc w0.heap.size gt gl w F g ∧ ∀ k, F k → ¬ P k
  stay : ∀ k, P k → k < w.heap.size ∧ w.heap[k]? = wp.heap[k]?
  bel : Below w0.heap.size w0 w
def NoP (_ : Nat) : Prop := False
section
variable {P : Nat → Prop} {wp w0 w x : World} {gt gl : Nat} {g g' : Lg}
theorem K9.later (h : K9 P wp w0 w gt gl g) (p : Below w.heap.size w x) : K9 P wp w0 x gt gl g := by
  obtain ⟨F, h1, h2⟩ := h.la
  exact ⟨h.ok, ⟨F, (base9 _).keep _ _ _ _ _ _ _ h1 (loose_none _ w) (Tn.of_below p) (fun _ _ h => h), h2⟩, fun k hk => ⟨Nat.lt_of_lt_of_le (h.stay k hk).1 p.size, (p.block k (h.stay k hk).1).trans (h.stay k hk).2⟩, h.bel.trans (p.mono h.bel.size)⟩
theorem K9.drew (h : K9 P wp w0 w gt gl g) : K9 P wp w0 w.drew gt gl g := h.later ⟨rfl, rfl, rfl, Nat.le_refl _, fun _ _ => rfl⟩
/-- A call of the log. -/
theorem K9.call (h : K9 P wp w0 w gt gl g) (hok : g'.ok) {Pe : Ending → Prop} {f : FuncId} {args : Array Value} (hc : ∀ F, LAc w0.heap.size gt gl w F g → Calls Try.prog f args w fun e x' => Pe e ∧ Aft (LAc w0.heap.size) gt gl w F g' x') : Calls Try.prog f args w fun e x' => Pe e ∧ K9 P wp w0 x' gt gl g' := by
  obtain ⟨F, h1, h2⟩ := h.la
  have hl := (base9 _).loose _ _ _ _ _ h1
  refine (hc F h1).mono ?_
  rintro e x' ⟨hp, F', q1, q2, q3⟩
  refine ⟨hp, hok, ⟨F', q1, fun k hk hP => ?_⟩, fun k hk => ?_, h.bel.trans (q2.below (fun k hk => (hl k hk).1) h.bel.size)⟩
  · rcases q3 k hk with h6 | h6
    · exact h2 k h6 hP
    · have := (h.stay k hP).1
      omega
  · exact ⟨Nat.lt_of_lt_of_le (h.stay k hk).1 q2.size, (q2.block k (h.stay k hk).1 (fun hf => h2 k hf hk)).trans (h.stay k hk).2⟩
/-- A call that only looks. -/
theorem K9.look (h : K9 P wp w0 w gt gl g) {Pe : Ending → World → Prop} {f : FuncId} {args : Array Value} (hc : ∀ F, LAc w0.heap.size gt gl w F g → Calls Try.prog f args w fun e x' => Pe e x' ∧ Below w.heap.size w x') : Calls Try.prog f args w fun e x' => Pe e x' ∧ K9 P wp w0 x' gt gl g := by
  obtain ⟨F, h1, h2⟩ := h.la
  exact (hc F h1).mono fun e x' hh => ⟨hh.1, h.later hh.2⟩
/-- Other blocks are looked after from now on. -/
theorem K9.mark {Q : Nat → Prop} (h : K9 P wp w0 w gt gl g) (hQ : ∀ k, Q k → k < w.heap.size) (hs : ∀ F, LAc w0.heap.size gt gl w F g → ∀ k, F k → ¬ Q k) : K9 Q w w0 w gt gl g := by
  obtain ⟨F, h1, h2⟩ := h.la
  exact ⟨h.ok, ⟨F, h1, hs F h1⟩, fun k hk => ⟨hQ k hk, rfl⟩, h.bel⟩
/-- What was made since some time on. -/
theorem K9.since {y : World} (h : K9 P wp w0 y gt gl g) (p : Below y.heap.size y w) : K9 (fun k => y.heap.size ≤ k ∧ k < w.heap.size) w w0 w gt gl g := by
  obtain ⟨F, h1, h2⟩ := h.la
  have hl := (base9 _).loose _ _ _ _ _ h1
  have hk := h.later p
  exact ⟨h.ok, ⟨F, (base9 _).keep _ _ _ _ _ _ _ h1 (loose_none _ y) (Tn.of_below p) (fun _ _ h => h), fun k hf hq => by have := (hl k hf).2.1; omega⟩, fun k hk => ⟨hk.2, rfl⟩, hk.bel⟩
/-- Its tape. -/
theorem K9.tape (h : K9 P wp w0 w gt gl g) : ∃ gb, TpAt w gt gb g.t ∧ w0.heap.size ≤ gt ∧ w0.heap.size ≤ gb ∧ ¬ P gt ∧ ¬ P gb := by
  obtain ⟨F, h1, h2⟩ := h.la
  have hl := (base9 _).loose _ _ _ _ _ h1
  obtain ⟨gb, h3, h4, h5⟩ := (base9 _).tape _ _ _ _ _ h1
  exact ⟨gb, h3, (hl gt h4).1, (hl gb h5).1, h2 gt h4, h2 gb h5⟩

/-- A struct of another kind beside it. -/
theorem K9.side (h : K9 P wp w0 w gt gl g) {go : Nat} {t : TypeId} {cs : Array Value} (hr : RowAt w go t cs) (ht : t ≠ 77 ∧ t ≠ 99 ∧ t ≠ 79 ∧ t ≠ 5 ∧ t ≠ 28) : K9 (Is go) w w0 w gt gl g := by
  refine h.mark (fun k hk => by rw [show k = go from hk]; exact hr.lt) (fun F hF k hk e => ?_)
  obtain ⟨gc, gb, a, cap, ms, wa, wc, hL, rfl⟩ := hF
  obtain ⟨_, u, ds, h2, h3⟩ := hL.kinds k hk
  rw [show k = go from e] at h2
  have := row_kind hr h2
  rw [this] at ht
  rcases h3 with h3 | h3 | h3 | h3 | h3
  · exact ht.1 h3
  · exact ht.2.1 h3
  · exact ht.2.2.1 h3
  · exact ht.2.2.2.1 h3
  · exact ht.2.2.2.2 h3
theorem K9.row {go : Nat} {t : TypeId} {cs : Array Value} (h : K9 (Is go) wp w0 w gt gl g) (hr : RowAt wp go t cs) : RowAt w go t cs := (h.stay go rfl).2.trans hr
theorem K9.free (h : K9 P wp w0 w gt gl g) : K9 NoP w0 w0 w gt gl g := by
  obtain ⟨F, h1, h2⟩ := h.la
  exact ⟨h.ok, ⟨F, h1, fun k _ h => h⟩, fun k hk => hk.elim, h.bel⟩

/-! ### The calls -/
theorem kapp9 (h : K9 P wp w0 w gt gl g) (r : Rec) (va vb : Value) (f : Nat) (hd : Int) (hft : r.fits) (hin : RcK w0.heap.size w r va vb) (hf : f < 18446744073709551616) (hh : (Lit.int .i64 hd).wf = true) :
    Calls Try.prog 10 #[.pointer (some ⟨gl, 0, none⟩), .agg (rcA r va vb), .int .u64 (f : Int), .int .i64 hd] w fun e w' => e = .returned (.tuple #[.int .u64 (g.appN r f hd : Int), .int .i64 (g.appE r f hd)]) ∧ K9 P wp w0 w' gt gl (g.app r f hd) :=
  h.call (g.app_ok h.ok r f hd) (fun F hF => append9 _ gt gl w F g r va vb f hd hF h.ok hft hin hf hh)
theorem ksee9 (h : K9 P wp w0 w gt gl g) (n : Nat) (hn : n < 18446744073709551616) :
    Calls Try.prog 14 #[.pointer (some ⟨gl, 0, none⟩), .int .u64 (n : Int)] w fun e w' => e = .returned (.tuple #[]) ∧ K9 P wp w0 w' gt gl (g.see n) :=
  h.call (g.see_ok h.ok n) (fun F hF => see9 _ gt gl w F g n hF h.ok hn)
theorem kwrite9 (h : K9 P wp w0 w gt gl g) :
    Calls Try.prog 16 #[.pointer (some ⟨gl, 0, none⟩)] w fun e w' => e = .returned (.int .i64 0) ∧ K9 P wp w0 w' gt gl g.write :=
  h.call (g.write_ok h.ok) (fun F hF => write9 _ gt gl w F g hF h.ok)
theorem ksync9 (h : K9 P wp w0 w gt gl g) :
    Calls Try.prog 17 #[.pointer (some ⟨gl, 0, none⟩)] w fun e w' => e = .returned (.int .i64 0) ∧ K9 P wp w0 w' gt gl g.sync :=
  h.call (g.sync_ok h.ok) (fun F hF => sync9 _ gt gl w F g hF h.ok)
theorem ktrim9 (h : K9 P wp w0 w gt gl g) (n : Nat) (hn : n < 18446744073709551616) :
    Calls Try.prog 15 #[.pointer (some ⟨gl, 0, none⟩), .int .u64 (n : Int)] w fun e w' => e = .returned (.tuple #[.int .i64 (trimK g.l g.fa n : Int), .int .i64 0]) ∧ K9 P wp w0 w' gt gl (g.trim n) :=
  h.call (g.trim_ok h.ok n) (fun F hF => trim9 _ gt gl w F g n hF h.ok hn)
theorem klast9 (h : K9 P wp w0 w gt gl g) :
    Calls Try.prog 18 #[.pointer (some ⟨gl, 0, none⟩)] w fun e w' => e = .returned (.int .u64 (g.c : Int)) ∧ K9 P wp w0 w' gt gl g :=
  h.look (Pe := fun e _ => e = .returned (.int .u64 (g.c : Int))) (fun F hF => last9 _ gt gl w F g hF h.ok)
theorem kdur9 (h : K9 P wp w0 w gt gl g) :
    Calls Try.prog 19 #[.pointer (some ⟨gl, 0, none⟩)] w fun e w' => e = .returned (.int .u64 (g.du : Int)) ∧ K9 P wp w0 w' gt gl g :=
  h.look (Pe := fun e _ => e = .returned (.int .u64 (g.du : Int))) (fun F hF => durable9 _ gt gl w F g hF h.ok)
theorem kheld9 (h : K9 P wp w0 w gt gl g) :
    Calls Try.prog 21 #[.pointer (some ⟨gl, 0, none⟩)] w fun e w' => e = .returned (.int .i64 (g.hd : Int)) ∧ K9 P wp w0 w' gt gl g :=
  h.look (Pe := fun e _ => e = .returned (.int .i64 (g.hd : Int))) (fun F hF => held9 _ gt gl w F g hF h.ok)
theorem kleft9 (h : K9 P wp w0 w gt gl g) :
    Calls Try.prog 22 #[.pointer (some ⟨gl, 0, none⟩)] w fun e w' => e = .returned (.int .i64 ((g.t.m : Int) - (g.used : Int) - (g.hd : Int))) ∧ K9 P wp w0 w' gt gl g :=
  h.look (Pe := fun e _ => e = .returned (.int .i64 ((g.t.m : Int) - (g.used : Int) - (g.hd : Int)))) (fun F hF => left9 _ gt gl w F g hF h.ok)
theorem kget9 (h : K9 P wp w0 w gt gl g) (n : Nat) :
    Calls Try.prog 13 #[.pointer (some ⟨gl, 0, none⟩), .int .u64 (n : Int)] w fun e w' => GetAns g n w e w' ∧ K9 P wp w0 w' gt gl g := by
  obtain ⟨F, h1, h2⟩ := h.la
  obtain ⟨gc, gb, a, cap, ms, wa, wc, hL, rfl⟩ := h1
  exact (get9_any w n hL h.ok).mono fun e w' hh => ⟨hh, h.later (by obtain ⟨_, _, _, _, _, hb⟩ := hh; exact hb)⟩
theorem krecs9 (h : K9 P wp w0 w gt gl g) :
    Calls Try.prog 11 #[.pointer (some ⟨gl, 0, none⟩)] w fun e w' => ∃ ga ns, e = .returned (.slice (some ⟨ga, 0, none⟩) g.l.length g.l.length) ∧ RI w w' ga g.l.length g g.l.length ns ∧ K9 P wp w0 w' gt gl g := by
  obtain ⟨F, h1, h2⟩ := h.la
  obtain ⟨gc, gb, a, cap, ms, wa, wc, hL, rfl⟩ := h1
  refine (recs9_any w hL h.ok).mono ?_
  rintro e w' ⟨ga, ns, rfl, hr⟩
  exact ⟨ga, ns, rfl, hr, h.later hr.bel⟩
end
/-- A block that is no log's is written. -/
theorem K9.other {P : Nat → Prop} {wp w0 w x : World} {gt gl gR : Nat} {g : Lg} {t : TypeId} {cs : Array Value} (h : K9 P wp w0 w gt gl g) (hr : RowAt w gR t cs) (ht : t ≠ 39 ∧ t ≠ 41) (hlow : w0.heap.size ≤ gR) (hn : ∀ F, LAc w0.heap.size gt gl w F g → ¬ F gR) (hP : ¬ P gR) (hT : Tn (Is gR) w x) : K9 P wp w0 x gt gl g := by
  obtain ⟨F, h1, h2⟩ := h.la
  have hlo : Loose w0.heap.size w (Is gR) := fun k hk => by
    rw [show k = gR from hk]
    exact ⟨hlow, hr.lt, fun u ds hrow => by rw [row_kind hrow hr]; exact ht⟩
  exact ⟨h.ok, ⟨F, (base9 _).keep _ _ _ _ _ _ _ h1 hlo hT (fun k hk e => hn F h1 (by rw [← show k = gR from e]; exact hk)), h2⟩, fun k hk => ⟨Nat.lt_of_lt_of_le (h.stay k hk).1 hT.size, (hT.block k (h.stay k hk).1 (fun e => hP (by rw [← show k = gR from e]; exact hk))).trans (h.stay k hk).2⟩, h.bel.trans (hT.below (fun k hk => by rw [show k = gR from hk]; exact hlow) h.bel.size)⟩
/-- A record's block, newer than a time at which the log was kept. -/
theorem K9.turn {wp w0 w7 w x : World} {gt gl : Nat} {g : Lg} {cs : Array Value} (h7 : K9 NoP wp w0 w7 gt gl g) (p : Below w7.heap.size w7 w) (hr : RowAt w w7.heap.size 28 cs) (hT : Tn (Is w7.heap.size) w x) : K9 NoP wp w0 x gt gl g := by
  obtain ⟨F, h1, h2⟩ := h7.la
  have hl := (base9 _).loose _ _ _ _ _ h1
  have hk := (base9 _).keep _ _ _ _ _ _ _ h1 (loose_none _ w7) (Tn.of_below p) (fun _ _ h => h)
  have hlo : Loose w0.heap.size w (Is w7.heap.size) := fun k hk => by
    rw [show k = w7.heap.size from hk]
    exact ⟨h7.bel.size, hr.lt, fun u ds hrow => by rw [row_kind hrow hr]; decide⟩
  have hb := h7.bel.trans (p.mono h7.bel.size)
  exact ⟨h7.ok, ⟨F, (base9 _).keep _ _ _ _ _ _ _ hk hlo hT (fun k hk e => by have h4 := (hl k hk).2.1; have h5 : k = w7.heap.size := e; omega), h2⟩, fun k hk => hk.elim, hb.trans (hT.below (fun k hk => by rw [show k = w7.heap.size from hk]; exact h7.bel.size) hb.size)⟩
/-- A record's lists beside a record's block that is written. -/
theorem rc_aside {w x : World} {r : Rec} {va vb : Value} {gR : Nat} {cs : Array Value} {base : Nat} (h : GotIn base w r va vb) (hr : RowAt w gR 28 cs) (hT : Tn (Is gR) w x) : GotIn base x r va vb :=
  h.kept (fun k t ds ht hk => hT.row hk (fun e => by
    rw [show k = gR from e] at hk
    have := row_kind hk hr
    rw [this] at ht
    rcases ht with ht | ht <;> exact absurd ht (by decide)))
/-- A tape of its own, opened. -/
theorem kopen9 (P : Nat → Prop) (wp w0 w : World) (gt gb : Nat) (t : Tp) (base : Nat) (ht : TpAt w gt gb t) (ok : t.ok) (hgt : w0.heap.size ≤ gt) (hgb : w0.heap.size ≤ gb) (hP : ¬ P gt ∧ ¬ P gb) (hs : ∀ k, P k → k < w.heap.size ∧ w.heap[k]? = wp.heap[k]?) (hb : Below w0.heap.size w0 w) (hbase : base < 18446744073709551616) :
    Calls Try.prog 8 #[.pointer (some ⟨gt, 0, none⟩), .int .u64 (base : Int)] w fun e x' => ∃ gl, e = .returned (.tuple #[.pointer (some ⟨gl, 0, none⟩), .int .i64 0]) ∧ K9 P wp w0 x' gt gl (Lg.open t base) := by
  refine (open9_any w0.heap.size gt gb w t base ht ok hgt hgb hbase).mono ?_
  rintro e x' ⟨gl, F', rfl, h1, h2, h3, h4⟩
  refine ⟨gl, rfl, Lg.open_ok t ok base, ⟨F', h1, fun k hk hp => ?_⟩, fun k hk => ?_, hb.trans (h2.below (fun k hk => by rcases hk with hk | hk <;> omega) hb.size)⟩
  · rcases h3 k hk with h5 | h5 | h5
    · exact hP.1 (by rw [← h5]; exact hp)
    · exact hP.2 (by rw [← h5]; exact hp)
    · have := (hs k hp).1
      omega
  · exact ⟨Nat.lt_of_lt_of_le (hs k hk).1 h2.size, (h2.block k (hs k hk).1 (fun e => by
      rcases e with e | e
      · exact hP.1 (by rw [← e]; exact hk)
      · exact hP.2 (by rw [← e]; exact hk))).trans (hs k hk).2⟩
/-- A new tape's log. -/
theorem kfirst9 (w0 w : World) (gt : Nat) (t : Tp) (base : Nat) (h : K8 w0 w gt t) (hbase : base < 18446744073709551616) :
    Calls Try.prog 8 #[.pointer (some ⟨gt, 0, none⟩), .int .u64 (base : Int)] w fun e x' => ∃ gl, e = .returned (.tuple #[.pointer (some ⟨gl, 0, none⟩), .int .i64 0]) ∧ K9 NoP w0 w0 x' gt gl (Lg.open t base) := by
  obtain ⟨gb, hb, ht⟩ := h.tp
  exact kopen9 NoP w0 w0 w gt gb t base ht h.ok h.low hb ⟨fun h => h, fun h => h⟩ (fun k hk => hk.elim) h.bel hbase
/-- A record that was there at the beginning. -/
theorem rck9 {w0 w : World} {r : Rec} {va vb : Value} (h : RcIn w0 r va vb) (p : Below w0.heap.size w0 w) : RcK w0.heap.size w r va vb := RcK.first h p
/-- A record without lists. -/
theorem rckn {B : Nat} {w : World} {r : Rec} (h1 : r.ts = []) (h2 : r.ds = []) : RcK B w r (.slice none 0 0) (.slice none 0 0) := by
  refine ⟨⟨?_, ?_⟩, (fun b off n c e hn => (nomatch e)), (fun b off n c e hn => (nomatch e))⟩
  · exact ⟨none, 0, by rw [h1]; rfl, fun hp => absurd hp (by rw [h1]; simp)⟩
  · exact ⟨none, 0, by rw [h2]; rfl, fun hp => absurd hp (by rw [h2]; simp)⟩
/-- Copies that were made stay while their blocks do. -/
theorem RI.stay {w1 w2 x : World} {ga : Nat} {g : Lg} {ns : List Rm} (h : RI w1 w2 ga g.l.length g g.l.length ns) (hs : ∀ k, w1.heap.size ≤ k ∧ k < w2.heap.size → k < x.heap.size ∧ x.heap[k]? = w2.heap[k]?) : RsIn x (.slice (some ⟨ga, 0, none⟩) ns.length g.l.length) ns := by
  obtain ⟨cs, h1, h2⟩ := h.row
  have hg := hs ga ⟨h.low, h1.lt⟩
  refine ⟨⟨_, _, rfl, fun hp => ⟨ga, 0, rfl, hg.1, fun i hi => ?_⟩⟩, fun m hm => ⟨(h.got m hm).1, ?_⟩⟩
  · rw [Nat.zero_add]
    exact fun k u hu => (World.cell?_of_block (a := ⟨ga, i * 14 + k, none⟩) hg.2).trans (h.cell i (by rw [← h.len]; exact hi) k u hu)
  · have hm2 := (h.got m hm).2
    have keep : ∀ {e : TypeId} {sz n : Nat} {v : Value} {xs : List Value}, w2.ownsRow w1.heap.size e sz v n xs → x.ownsRow w1.heap.size e sz v n xs := fun ho => by
      refine ⟨ho.1, ?_⟩
      rcases ho.2 with h4 | ⟨q, c, cur, e, hb, hq, hc⟩
      · exact .inl h4
      · refine .inr ⟨q, c, cur, e, hb, ?_, hc⟩
        rw [(hs q ⟨hb, (Array.getElem?_eq_some_iff.1 hq).1⟩).2]
        exact hq
    exact GotIn.rc (base := w1.heap.size) ⟨keep hm2.1, keep hm2.2⟩
end Go.Proofs.Ytmdhnfeepadfaaa

/-
  The contracts of quaysidelaw09.commit and awake.
-/
namespace Go.Proofs.Ytmdhnfeepadfaaa
open Go.RowKit
set_option linter.unusedVariables false

/-- The smallest record there is. -/
def cmR : Rec := ⟨3, 0, 1, 0, Ch.zero, 0, 0, 0, [], []⟩
theorem cmR_fits : cmR.fits := ⟨zero_fits, Nat.zero_le _, Nat.zero_le _, fun x hx => (nomatch hx), fun x hx => (nomatch hx)⟩
theorem cmR_right (n : Nat) (h1 : 1 ≤ n) (h2 : n ≤ maxP) : (cmR.put n).right := by
  have ek : (cmR.put n).k = 3 := rfl
  have et : (cmR.put n).t = 1 := rfl
  refine ⟨by rw [ek]; decide, by rw [ek]; decide, h1, h2, fun _ => ⟨by rw [et]; decide, by rw [et]; decide, h1⟩, fun h => ?_, fun h => ?_, fun _ => rfl, fun h => ?_, fun _ => rfl, fun h => ?_, fun _ => rfl, fun h => ?_, fun _ => ⟨rfl, rfl, rfl⟩⟩
  all_goals
    rw [ek] at h
    exact absurd h (by decide)
theorem cmR_len (n : Nat) : (frameB (cmR.put n)).length = 27 := by
  rw [frameB_length]
  simp [recB, cmR, Rec.put, beB_length, mayB]
theorem cmA : rcA cmR (.slice none 0 0) (.slice none 0 0) = #[.int .i64 3, .int .u64 0, .int .i64 1, .int .u64 0, .int .i64 0, .int .i64 0, .int .i64 0, .string ⟨#[]⟩, .string ⟨#[]⟩, .int .u64 0, .int .i64 0, .int .u64 0, .slice none 0 0, .slice none 0 0] := rfl
set_option maxRecDepth 4000 in
set_option maxHeartbeats 800000 in
theorem commit9_any (w : World) : Calls Try.prog 31 #[] w fun e w' => e = .returned (.agg (rcA cmR (.slice none 0 0) (.slice none 0 0))) ∧ Below w.heap.size w w' := by
  have HZ := hide (And.intro (RowAt.new w 28 zeroA) ((Below.refl w.heap.size w).alloc (Nat.le_refl _) (.cells zeroA 28)))
  go_enter Try.func31, Try.ntmps31
  go_wp2_with (refine wpList_store_at rfl 28 (.tmp 0) (.tmp 1) rfl w.heap.size zeroA (rcA cmR (.slice none 0 0) (.slice none 0 0)) rfl rfl HZ.out.1 infoRc rfl (by simp [rcA, Value.oneCell']) ?_)
  intro w3 hr3 hk3 hrow3
  have hb3 := hk3 _ _ HZ.out.2 (Nat.le_refl _)
  have HR := hide (And.intro hr3 hb3)
  clear hr3 hk3 hrow3 hb3 HZ
  go_wp2
  exact bodyPost_ret (res_one rfl _ _ w.heap.size (rcA cmR (.slice none 0 0) (.slice none 0 0)) _ rfl HR.out.1 Try.underlying28 rfl infoRc) rfl ⟨rfl, HR.out.2⟩
theorem scan_nil9 : scanL [] = ([], 0) := scan_whole [] trivial
/-- The log of awake. -/
def aw9 : Lg := ⟨⟨⟨#[]⟩, 0, 100, 0⟩, 0, [], 0, 0, 0, 0⟩
theorem aw9_open : Lg.open (Tp.new 100) 0 = aw9 := by
  unfold Lg.open
  have e : (Tp.new 100).b.data.toList = [] := rfl
  rw [e, scan_nil9]
  rfl
theorem aw9_used : aw9.used = 0 := rfl
theorem aw9_app : aw9.appE cmR 0 60 = 0 := by
  unfold Lg.appE
  rw [if_neg (by decide), if_neg (by decide), if_neg (fun h => h (cmR_right 1 (by decide) (by decide))), if_neg]
  have e : aw9.num 0 = 1 := rfl
  rw [e, cmR_len]
  decide
def aw9b : Lg := ⟨⟨⟨#[]⟩, 0, 100, 0⟩, 1, [cmR.put 1], 0, 0, 60, 0⟩
theorem aw9_two : aw9.app cmR 0 60 = aw9b ∧ aw9.appN cmR 0 60 = 1 := by
  obtain ⟨h1, h2⟩ := aw9.app_yes cmR 0 60 aw9_app
  rw [h1, h2]
  exact ⟨rfl, rfl⟩
theorem aw9b_used : aw9b.used = 27 := by
  have e : aw9b.used = 0 + (framesB [cmR.put 1]).length := rfl
  rw [e, frames_one, cmR_len]
theorem aw9b_app : aw9b.appE cmR 0 0 = 7 := by
  unfold Lg.appE
  rw [if_neg (by decide), if_neg (by decide), if_neg (fun h => h (cmR_right 2 (by decide) (by decide))), if_pos]
  have e : aw9b.num 0 = 2 := rfl
  rw [e, cmR_len, aw9b_used]
  decide

set_option maxRecDepth 8000 in
set_option maxHeartbeats 1600000 in
theorem awake9_any (w : World) : Calls Try.prog 7 #[] w fun e w' => e = .returned (.bool true) ∧ Below w.heap.size w w' := by
  go_enter Try.func7, Try.ntmps7
  go_wp2_with fail
  refine (knew8 100 w w (Below.refl _ _)).mono ?_
  rintro e w1 ⟨rfl, h1, -⟩
  have H1 := hide h1
  clear h1
  go_wp2_with fail
  have T := kfirst9 w w1 w.heap.size (Tp.new 100) 0 H1.out (by decide)
  rw [aw9_open] at T
  refine T.mono ?_
  rintro e w2 ⟨gl, rfl, h2⟩
  have H2 := hide h2
  clear h2 T H1
  go_wp2_with fail
  refine (commit9_any w2).mono ?_
  rintro e w3 ⟨rfl, hb3⟩
  have H3 := hide (H2.out.later hb3)
  clear hb3 H2
  go_wp2_with fail
  have T := kapp9 H3.out cmR _ _ 0 60 cmR_fits (rckn (w := w3) rfl rfl) (by decide) (by decide)
  rw [aw9_two.1, aw9_two.2, aw9_app] at T
  refine T.mono ?_
  rintro e w4 ⟨rfl, h4⟩
  have H4 := hide h4
  clear h4 T H3
  go_wp2_with fail
  refine (commit9_any w4).mono ?_
  rintro e w5 ⟨rfl, hb5⟩
  have H5 := hide (H4.out.later hb5)
  clear hb5 H4
  go_wp2_with fail
  have T := kapp9 H5.out cmR _ _ 0 0 cmR_fits (rckn (w := w5) rfl rfl) (by decide) (by decide)
  have hno := aw9b.app_no cmR 0 0 (by rw [aw9b_app]; decide)
  rw [hno.1, hno.2, aw9b_app] at T
  refine T.mono ?_
  rintro e w6 ⟨rfl, h6⟩
  have H6 := hide h6
  clear h6 T H5 hno
  go_wp2_with fail
  have T := kleft9 H6.out
  have e1 : (aw9b.t.m : Int) - (aw9b.used : Int) - (aw9b.hd : Int) = 13 := by rw [aw9b_used]; rfl
  rw [e1] at T
  refine T.mono ?_
  rintro e w7 ⟨rfl, h7⟩
  have H7 := hide h7
  clear h7 T H6 e1
  go_wp2_with fail
  refine (krecs9 H7.out).mono ?_
  rintro e w8 ⟨ga, ns, rfl, -, h8⟩
  have e2 : aw9b.l.length = 1 := rfl
  rw [e2]
  have H8 := hide h8
  clear h8 H7 e2
  go_wp2
  go_ret
  exact ⟨rfl, H8.out.bel⟩
end Go.Proofs.Ytmdhnfeepadfaaa

/-
  A region that draws its order, walked by hand, operation by operation, each by its number and the slot that it writes. Of no program.
-/
namespace Go.Proofs.Ytmdhnfeepadfaaa
open Go.RowKit
set_option linter.unusedVariables false

section
variable {P : Program} {md : Region.Mode} {ops : Array Oper} {Q : Exit → Act → World → Prop} {S : World → Prop} {fuel : Nat} {listed : Array Bool} {a : Act} {w : World} {o : Oper}

theorem hand_take (i : Nat) (d : Option Tmp) (v : Value) (hi : ops[i]? = some o) (hd : o.dst = d) (hs : Region.noSelect ops = true) (hf : Region.free md ops listed i = true) (hr : (Region.ready md ops listed).contains i = true)
    (hQ : ∀ c a w, Q (.panic c) (a.put d v) w → Q (.panic c) a w) (hy : YieldsIf P ops S o v a) (hS : S w)
    (h : wpAnyH P md ops Q S fuel (listed.setIfInBounds i true) (a.put d v) w) : wpAnyH P md ops Q S (fuel + 1) listed a w := by
  subst hd
  exact wpAnyH_take hi hs hf hr hQ hy hS h
/-- hand_take in few words. -/
theorem tkk {Q : Exit → Act → World → Prop} (i : Nat) (d : Option Tmp) (v : Value) (hi : ops[i]? = some o) (hd : o.dst = d) (hk : (Region.noSelect ops && Region.free md ops listed i && (Region.ready md ops listed).contains i) = true) (hw : Region.wanted o (yielded ops a.tmps) = true)
    (hy : ∀ x, S x → (execOp a.eval o).run P x = .ok (.value v) x) (hS : S w) (h : wpAnyH P md ops (NoPanic Q) S fuel (listed.setIfInBounds i true) (a.put d v) w) : wpAnyH P md ops (NoPanic Q) S (fuel + 1) listed a w := by
  simp only [Bool.and_eq_true] at hk
  exact hand_take i d v hi hd hk.1.1 hk.1.2 hk.2 (fun _ _ _ h => h) (Or.inl ⟨hw, hy⟩) hS h
theorem tkq {Q : Exit → Act → World → Prop} (i : Nat) (d : Option Tmp) (v : Value) (hS : S w) (h : wpAnyH P md ops (NoPanic Q) S fuel (listed.setIfInBounds i true) (a.put d v) w) (hi : ops[i]? = some o := by rfl) (hd : o.dst = d := by rfl) (hk : (Region.noSelect ops && Region.free md ops listed i && (Region.ready md ops listed).contains i) = true := by kernel_rfl) (hw : Region.wanted o (yielded ops a.tmps) = true := by kernel_rfl)
    (hy : ∀ x, S x → (execOp a.eval o).run P x = .ok (.value v) x := by intro x _; go_simp) : wpAnyH P md ops (NoPanic Q) S (fuel + 1) listed a w := tkk i d v hi hd hk hw hy hS h
theorem hand_one (i : Nat) (hr : Region.ready md ops listed = [i]) (h : wpOp P ops Q i (fun a' w' => S w' ∧ wpAnyH P md ops Q S fuel (listed.setIfInBounds i true) a' w') a w) : wpAnyH P md ops Q S (fuel + 1) listed a w :=
  wpAnyH_all hr (by simp) (fun k hk => by
    obtain rfl : k = i := by simpa using hk
    exact h)
theorem hand_two (i j : Nat) (hr : Region.ready md ops listed = [i, j]) (h : wpOp P ops Q i (fun a' w' => S w' ∧ wpAnyH P md ops Q S fuel (listed.setIfInBounds i true) a' w') a w) (h2 : wpOp P ops Q j (fun a' w' => S w' ∧ wpAnyH P md ops Q S fuel (listed.setIfInBounds j true) a' w') a w) : wpAnyH P md ops Q S (fuel + 1) listed a w :=
  wpAnyH_all hr (by simp) (fun k hk => by
    rcases List.mem_cons.1 hk with rfl | hk
    · exact h
    · obtain rfl : k = j := by simpa using hk
      exact h2)
variable {K : Act → World → Prop} {i : Nat}
theorem hand_call (d : Option Tmp) (ho : ops[i]? = some o) (hd : o.dst = d) (hg : o.guard = none) (f : FuncId) (args : Array Value) (he : (execOp a.eval o).run P w = .ok (.enter f args) w)
    (hc : Calls P f args w fun e w' => ∃ v, e = .returned v ∧ K (a.put d v) w') : wpOp P ops Q i K a w := by
  subst hd
  exact wpOp_step ho (fun K' hK => step_call10 hg f args he (hc.mono fun e w' ⟨v, h1, h2⟩ => ⟨v, h1, hK _ _ h2⟩))
/-- An operation by what it answers. -/
theorem hand_run (d : Option Tmp) (ho : ops[i]? = some o) (hd : o.dst = d) (hg : o.guard = none) (v : Value) (w' : World) (he : (execOp a.eval o).run P w = .ok (.value v) w') (h : K (a.put d v) w') : wpOp P ops Q i K a w := by
  subst hd
  refine wpOp_step ho (fun K' hK => ?_)
  have hw : Region.wanted o (yielded ops a.tmps) = true := by simp [Region.wanted, hg]
  rw [if_pos hw]
  unfold Oper.wp
  rw [he]
  exact hK _ _ h
/-- A call under a guard that wants it. -/
theorem hand_callw (d : Option Tmp) (ho : ops[i]? = some o) (hd : o.dst = d) (hw : Region.wanted o (yielded ops a.tmps) = true) (f : FuncId) (args : Array Value) (he : (execOp a.eval o).run P w = .ok (.enter f args) w)
    (hc : Calls P f args w fun e w' => ∃ v, e = .returned v ∧ K (a.put d v) w') : wpOp P ops Q i K a w := by
  subst hd
  refine wpOp_step ho (fun K' hK => ?_)
  rw [if_pos hw]
  unfold Oper.wp
  rw [he, Oper.upon_enter]
  refine hc.mono ?_
  rintro e w' ⟨v, rfl, h⟩
  exact hK _ _ h
theorem hand_runw (d : Option Tmp) (ho : ops[i]? = some o) (hd : o.dst = d) (hw : Region.wanted o (yielded ops a.tmps) = true) (v : Value) (w' : World) (he : (execOp a.eval o).run P w = .ok (.value v) w') (h : K (a.put d v) w') : wpOp P ops Q i K a w := by
  subst hd
  refine wpOp_step ho (fun K' hK => ?_)
  rw [if_pos hw]
  unfold Oper.wp
  rw [he]
  exact hK _ _ h
theorem hand_store (ho : ops[i]? = some o) (hd : o.dst = none) (hg : o.guard = none) (ty : TypeId) (x y : Operand) (hop : o.op = .store ty x y) (g off : Nat) (t : TypeId) (c0 cs : Array Value) (hx : a.eval x = .pointer (some ⟨g, off, none⟩)) (hy : a.eval y = .agg cs) (hr : RowAt w g t c0)
    (hi : (P.info? ty).map (·.size) = some cs.size) (hf : off + cs.size ≤ c0.size) (h1 : cs.all (·.oneCell') = true) (h : ∀ w2, RowAt w2 g t (partA c0 off cs.toList) → Only g w w2 → K a w2) : wpOp P ops Q i K a w := by
  refine wpOp_step ho (fun K' hK => ?_)
  refine step_store_part hg ty x y hop g off t c0 cs hx hy hr hi hf h1 (fun w2 h2 h3 => ?_)
  rw [hd]
  exact hK _ _ (h w2 h2 h3)
theorem exec_load (ty : TypeId) (x : Operand) (ho : o.op = .load ty x) (u : Value) (hu : a.eval x = u) (v : Value) (hv : (Instr.loadAt ty u).run P w = .ok v w) : (execOp a.eval o).run P w = .ok (.value v) w := by
  unfold execOp
  simp only [ho, hu, Sem.run_bind, hv, Result.andThen_ok, Sem.run_pure]
/-- A whole row stored anew. -/
theorem partA_all (c0 cs : Array Value) (h : c0.size = cs.size) : partA c0 0 cs.toList = cs := by
  unfold partA
  rw [List.take_zero, List.nil_append, Array.length_toList, Nat.zero_add, List.drop_of_length_le (by rw [Array.length_toList]; omega), List.append_nil, Array.toArray_toList]
end
end Go.Proofs.Ytmdhnfeepadfaaa

/-
  A region in the order of its text, walked by hand, operation by operation: for guarded operations that load structs. Of no program.
-/
namespace Go.Proofs.Ytmdhnfeepadfaaa
open Go.RowKit
set_option linter.unusedVariables false

/-- A place at which a walk stands still. -/
def Stop10 (p : Prop) : Prop := p
theorem unstop10 {p : Prop} (h : p) : Stop10 p := h
theorem stop10 {p : Prop} (h : Stop10 p) : p := h
section
variable {P : Program} {ops : Array Oper} {rest : List Oper} {o : Oper} {a : Act} {w : World} {Q : Exit → Act → World → Prop}
/-- .. at the operation that writes this slot. -/
theorem stop_at (d : Tmp) (hd : o.dst = some d) (h : Stop10 (wpList P ops Q (o :: rest) a w)) : wpList P ops Q (o :: rest) a w := h
theorem lst_val (d : Option Tmp) (v : Value) (hd : o.dst = d) (hw : Region.wanted o (yielded ops a.tmps) = true) (hv : (execOp a.eval o).run P w = .ok (.value v) w) (h : wpList P ops Q rest (a.put d v) w) : wpList P ops Q (o :: rest) a w := by
  subst hd
  exact wpList_val hw v hv h
theorem lst_skip (d : Option Tmp) (hd : o.dst = d) (hw : Region.wanted o (yielded ops a.tmps) = false) (h : wpList P ops Q rest (a.put d undef) w) : wpList P ops Q (o :: rest) a w := by
  subst hd
  refine wpList_step fun K hK => ?_
  rw [if_neg (by rw [hw]; simp)]
  exact hK _ _ h
theorem lst_call (d : Option Tmp) (hd : o.dst = d) (hw : Region.wanted o (yielded ops a.tmps) = true) (f : FuncId) (args : Array Value) (he : (execOp a.eval o).run P w = .ok (.enter f args) w)
    (hc : Calls P f args w fun e w' => ∃ v, e = .returned v ∧ wpList P ops Q rest (a.put d v) w') : wpList P ops Q (o :: rest) a w := by
  subst hd
  refine wpList_step fun K hK => ?_
  rw [if_pos hw]
  unfold Oper.wp
  rw [he, Oper.upon_enter]
  refine hc.mono ?_
  rintro e w' ⟨v, rfl, h⟩
  exact hK _ _ h
theorem lst_load (d : Option Tmp) (v : Value) (hd : o.dst = d) (hw : Region.wanted o (yielded ops a.tmps) = true) (t : TypeId) (x : Operand) (ho : o.op = .load t x) (u : Value) (hu : a.eval x = u) (hv : (Instr.loadAt t u).run P w = .ok v w) (h : wpList P ops Q rest (a.put d v) w) : wpList P ops Q (o :: rest) a w :=
  lst_val d v hd hw (by unfold execOp; simp only [ho, hu, Sem.run_bind, hv, Result.andThen_ok, Sem.run_pure]) h
theorem lst_bin (d : Option Tmp) (v : Value) (hd : o.dst = d) (hw : Region.wanted o (yielded ops a.tmps) = true) (op : BinOp) (t r : TypeId) (x y : Operand) (ho : o.op = .binOp op t x y r) (u z : Value) (hu : a.eval x = u) (hz : a.eval y = z) (hg : (eqGuard op t x y u z).run P w = .ok () w) (hv : (binOp op t u z).run P w = .ok v w) (h : wpList P ops Q rest (a.put d v) w) : wpList P ops Q (o :: rest) a w := by
  subst hd
  exact wpList_binop hw op t r x y ho u z v hu hz hg hv h
/-- An operation that turns the world, by what it answers. -/
theorem lst_run (d : Option Tmp) (hd : o.dst = d) (hw : Region.wanted o (yielded ops a.tmps) = true) (v : Value) (w' : World) (he : (execOp a.eval o).run P w = .ok (.value v) w') (h : wpList P ops Q rest (a.put d v) w') : wpList P ops Q (o :: rest) a w := by
  subst hd
  refine wpList_step fun K hK => ?_
  rw [if_pos hw]
  unfold Oper.wp
  rw [he]
  exact hK _ _ h
theorem lst_nil (h : Q .normal a w) : wpList P ops Q [] a w := h
end
end Go.Proofs.Ytmdhnfeepadfaaa

/-
  The calls of a script of a log, in lists that come in, opened.
-/
namespace Go.Proofs.Ytmdhnfeepadfaaa
open Go.ChangeShapes Go.WideShapes Go.ChangeAt Go.RowKit Go.Deep Go.Joins
set_option linter.unusedVariables false

set_option maxRecDepth 40000 in
/-- A call of a script. -/
structure Wc where
  k : Int
  m : Rec × Value × Value
  n : Nat
  h : Int
set_option maxRecDepth 40000 in
def wcA (c : Wc) : Array Value := #[.int .i64 c.k, .int .i64 c.m.1.k, .int .u64 (c.m.1.l : Int), .int .i64 c.m.1.t, .int .u64 (c.m.1.p : Int), .int .i64 c.m.1.c.k, .int .i64 c.m.1.c.pg, .int .i64 c.m.1.c.sl, .string c.m.1.c.o, .string c.m.1.c.n, .int .u64 (c.m.1.n : Int), .int .i64 c.m.1.s, .int .u64 (c.m.1.b : Int), c.m.2.1, c.m.2.2, .int .u64 (c.n : Int), .int .i64 c.h]
set_option maxRecDepth 40000 in
def Wc.zero : Wc := ⟨0, rcZ, 0, 0⟩
set_option maxRecDepth 40000 in
def Wc.fits (c : Wc) : Prop := (Lit.int .i64 c.k).wf = true ∧ (Lit.int .u64 (c.n : Int)).wf = true ∧ (Lit.int .i64 c.h).wf = true ∧ c.m.1.fits
section
variable {H : Type} {enc : TypeId × Value → H} {W : World}

set_option maxRecDepth 40000 in
theorem trod_st4 {P : Program} {t : TypeId} {f0 f1 f2 f3 : Field} {fuel : Nat} {cs : List Value} {x : DataW H × List MemPlace} (ht : P.underlying t = some (.struct #[f0, f1, f2, f3])) (h : DataW.trod enc P W 0 (fun _ => true) true fuel t cs = some x) :
    ∃ y0 y1 y2 y3 n, cs.length = P.cellsOf t ∧ DataW.trod enc P W 0 (fun _ => true) true n f0.type ((cs.drop f0.offset).take (P.cellsOf f0.type)) = some y0 ∧ DataW.trod enc P W 0 (fun _ => true) true n f1.type ((cs.drop f1.offset).take (P.cellsOf f1.type)) = some y1 ∧ DataW.trod enc P W 0 (fun _ => true) true n f2.type ((cs.drop f2.offset).take (P.cellsOf f2.type)) = some y2 ∧ DataW.trod enc P W 0 (fun _ => true) true n f3.type ((cs.drop f3.offset).take (P.cellsOf f3.type)) = some y3 := by
  obtain ⟨xs, n, _, rfl, hl, hlen, hf⟩ := DataW.trod_struct ht h
  match xs, hlen with
  | [y0, y1, y2, y3], _ => exact ⟨y0, y1, y2, y3, n, hl, by simpa using hf 0 f0 rfl, by simpa using hf 1 f1 rfl, by simpa using hf 2 f2 rfl, by simpa using hf 3 f3 rfl⟩
set_option maxRecDepth 40000 in
theorem elem_wc (n : Nat) (cs : List Value) (y : DataW H × List MemPlace) (h : DataW.trod enc Try.prog W 0 (fun _ => true) true n 49 cs = some y) : ∃ c : Wc, cs = (wcA c).toList ∧ (c.fits ∧ RcIn W c.m.1 c.m.2.1 c.m.2.2) := by
  obtain ⟨y0, y1, y2, y3, m, hl, h0, h1, h2, h3⟩ := trod_st4 Try.underlying49 h
  have hC : Try.prog.cellsOf 49 = 17 := by kernel_rfl
  rw [hC] at hl
  match cs, hl with
  | [c0, c1, c2, c3, c4, c5, c6, c7, c8, c9, c10, c11, c12, c13, c14, c15, c16], _ =>
    have e0 : Try.prog.cellsOf 3 = 1 := by kernel_rfl
    have e1 : Try.prog.cellsOf 22 = 1 := by kernel_rfl
    have e2 : Try.prog.cellsOf 28 = 14 := by kernel_rfl
    simp only [e0, e1, e2, List.drop_zero, List.drop_succ_cons, List.take_succ_cons, List.take_zero] at h0 h1 h2 h3
    obtain ⟨i0, g0, _, w0⟩ := DataW.trod_int Try.underlying3 h0
    obtain ⟨r, g1, w1, u1⟩ := elem_rec _ _ _ h1
    obtain ⟨i2, g2, _, w2⟩ := DataW.trod_int Try.underlying22 h2
    obtain ⟨i3, g3, _, w3⟩ := DataW.trod_int Try.underlying3 h3
    simp only [rcF, rcA, List.cons.injEq, and_true] at g0 g1 g2 g3
    obtain ⟨a1, a2, a3, a4, a5, a6, a7, a8, a9, a10, a11, a12, a13, a14⟩ := g1
    subst g0 a1 a2 a3 a4 a5 a6 a7 a8 a9 a10 a11 a12 a13 a14 g2 g3
    obtain ⟨j2, rfl⟩ := u64_nat w2
    exact ⟨⟨i0, r, j2, i3⟩, rfl, ⟨w0, w2, w3, w1⟩, u1⟩
set_option maxRecDepth 40000 in
/-- A script. -/
theorem op_wcs {v : Value} {d : DataW H} {p : List MemPlace} {r : Reach} {b0 : Nat} (hv : Value.okWide Try.prog W r b0 57 v) (h : DataW.Trod enc Try.prog W 0 (fun _ => true) true 57 v d p) :
    ∃ cs : List Wc, RowsIn wcA Wc.zero 17 W v cs ∧ cs.length ≤ maxLen ∧ (∀ c ∈ cs, c.fits ∧ RcIn W c.m.1 c.m.2.1 c.m.2.2) ∧ ∀ a len cap, v = .slice a len cap → len ≤ cap := by
  obtain ⟨fuel, hf⟩ := h
  obtain ⟨a, len, cap, rfl⟩ := okWide_slice Try.underlying57 hv
  have hf2 : DataW.trod enc Try.prog W 0 (fun _ => true) true fuel 57 [.slice a len cap] = some (d, p) := hf
  obtain ⟨cs, h1, h2, h3⟩ := op_rows (sz := 17) wcA Wc.zero (fun c => c.fits ∧ RcIn W c.m.1 c.m.2.1 c.m.2.2) elem_wc Try.underlying57 (by kernel_rfl) (fun _ => rfl) (by decide) hf2
  exact ⟨cs, h1, h2, h3, fun a' l' c' e => (op_cap Try.underlying57 hf2 e).1⟩
set_option maxRecDepth 40000 in
/-- One call by value. -/
theorem op_wc {v : Value} {d : DataW H} {p : List MemPlace} {r : Reach} {b0 : Nat} (hv : Value.okWide Try.prog W r b0 49 v) (h : DataW.Trod enc Try.prog W 0 (fun _ => true) true 49 v d p) :
    ∃ c : Wc, v = .agg (wcA c) ∧ c.fits ∧ RcIn W c.m.1 c.m.2.1 c.m.2.2 := by
  obtain ⟨cs, rfl, hsz⟩ := okWide_struct Try.underlying49 hv
  obtain ⟨fuel, hf⟩ := h
  obtain ⟨l⟩ := cs
  obtain ⟨c, hc, hft⟩ := elem_wc _ _ _ hf
  have hc2 : l = (wcA c).toList := hc
  subst hc2
  exact ⟨c, rfl, hft⟩
end
end Go.Proofs.Ytmdhnfeepadfaaa

/-
  The lives of a log, in a list that comes in, opened.
-/
namespace Go.Proofs.Ytmdhnfeepadfaaa
open Go.ChangeShapes Go.WideShapes Go.ChangeAt Go.RowKit Go.Deep Go.Joins
set_option linter.unusedVariables false

set_option maxRecDepth 40000 in
/-- A life: its records, the value of their list, Sync, Write, Keep. -/
structure Lf where
  ms : List (Rec × Value × Value)
  v : Value
  s : Nat
  q : Nat
  k : Int
set_option maxRecDepth 40000 in
def lfA (x : Lf) : Array Value := #[x.v, .int .u8 (x.s : Int), .int .u8 (x.q : Int), .int .i64 x.k]
set_option maxRecDepth 40000 in
def Lf.zero : Lf := ⟨[], .slice none 0 0, 0, 0, 0⟩
set_option maxRecDepth 40000 in
structure Lf.fits (W : World) (x : Lf) : Prop where
  rows : RowsIn rcF rcZ 14 W x.v x.ms
  len : x.ms.length ≤ maxLen
  recs : ∀ m ∈ x.ms, m.1.fits ∧ RcIn W m.1 m.2.1 m.2.2
  s : x.s < 256
  q : x.q < 256
  k : (Lit.int .i64 x.k).wf = true
  cap : ∀ a len cap, x.v = .slice a len cap → len ≤ cap
section
variable {H : Type} {enc : TypeId × Value → H} {W : World}
set_option maxRecDepth 40000 in
theorem u8_nat {i : Int} (h : (Lit.int .u8 i).wf = true) : ∃ n : Nat, i = (n : Int) ∧ n < 256 := by
  have h2 : 0 ≤ i ∧ i ≤ 255 := by simpa [Lit.wf, IntKind.min, IntKind.max, IntKind.signed, IntKind.bits] using h
  exact ⟨i.toNat, by omega, by omega⟩
set_option maxRecDepth 40000 in
theorem elem_lf (n : Nat) (cs : List Value) (y : DataW H × List MemPlace) (h : DataW.trod enc Try.prog W 0 (fun _ => true) true n 66 cs = some y) : ∃ x : Lf, cs = (lfA x).toList ∧ x.fits W := by
  obtain ⟨y0, y1, y2, y3, m, hl, h0, h1, h2, h3⟩ := trod_st4 Try.underlying66 h
  have hC : Try.prog.cellsOf 66 = 4 := by kernel_rfl
  rw [hC] at hl
  match cs, hl with
  | [c0, c1, c2, c3], _ =>
    have e0 : Try.prog.cellsOf 3 = 1 := by kernel_rfl
    have e1 : Try.prog.cellsOf 5 = 1 := by kernel_rfl
    have e2 : Try.prog.cellsOf 42 = 1 := by kernel_rfl
    simp only [e0, e1, e2, List.drop_zero, List.drop_succ_cons, List.take_succ_cons, List.take_zero] at h0 h1 h2 h3
    obtain ⟨ms, g0, w0, u0⟩ := op_recs Try.underlying42 h0
    obtain ⟨i1, g1, _, w1⟩ := DataW.trod_int Try.underlying5 h1
    obtain ⟨i2, g2, _, w2⟩ := DataW.trod_int Try.underlying5 h2
    obtain ⟨i3, g3, _, w3⟩ := DataW.trod_int Try.underlying3 h3
    simp only [List.cons.injEq, and_true] at g1 g2 g3
    subst g1 g2 g3
    obtain ⟨j1, rfl, b1⟩ := u8_nat w1
    obtain ⟨j2, rfl, b2⟩ := u8_nat w2
    exact ⟨⟨ms, c0, j1, j2, i3⟩, rfl, g0, w0, u0, b1, b2, w3, fun a' l' c' e => by
      have e' : c0 = .slice a' l' c' := e
      subst e'
      exact (op_cap Try.underlying42 h0 rfl).1⟩
set_option maxRecDepth 40000 in
/-- All lives. -/
theorem op_lives {v : Value} {d : DataW H} {p : List MemPlace} {r : Reach} {b0 : Nat} (hv : Value.okWide Try.prog W r b0 64 v) (h : DataW.Trod enc Try.prog W 0 (fun _ => true) true 64 v d p) :
    ∃ cs : List Lf, RowsIn lfA Lf.zero 4 W v cs ∧ cs.length ≤ maxLen ∧ (∀ c ∈ cs, c.fits W) ∧ ∀ a len cap, v = .slice a len cap → len ≤ cap := by
  obtain ⟨fuel, hf⟩ := h
  obtain ⟨a, len, cap, rfl⟩ := okWide_slice Try.underlying64 hv
  have hf2 : DataW.trod enc Try.prog W 0 (fun _ => true) true fuel 64 [.slice a len cap] = some (d, p) := hf
  obtain ⟨cs, h1, h2, h3⟩ := op_rows (sz := 4) lfA Lf.zero (fun c => c.fits W) elem_lf Try.underlying64 (by kernel_rfl) (fun _ => rfl) (by decide) hf2
  exact ⟨cs, h1, h2, h3, fun a' l' c' e => (op_cap Try.underlying64 hf2 e).1⟩
end
end Go.Proofs.Ytmdhnfeepadfaaa

/-
  What the walk of TopTapes keeps: a tape or a log on it, and beside it all records that were appended, in a row of its own.
-/
namespace Go.Proofs.Ytmdhnfeepadfaaa
open Go.RowKit
set_option linter.unusedVariables false

/-- Blocks of lives stay. -/
def LSide (w x : World) : Prop := ∀ k cs, RowAt w k 66 cs → RowAt x k 66 cs
theorem LSide.later {w x : World} (p : Below w.heap.size w x) : LSide w x := fun k cs h => h.later p
/-- A tape, and all records beside it. -/
structure TU (w0 w : World) (gt : Nat) (t : Tp) (a : Option Addr) (cap : Nat) (ms : List Rm) : Prop where
  tp : ∃ gb, TpAt w gt gb t ∧ w0.heap.size ≤ gb
  low : w0.heap.size ≤ gt
  ok : t.ok
  all : RB w0.heap.size w a cap ms
  bel : Below w0.heap.size w0 w
/-- A log, and all records beside it. -/
structure TT (w0 w : World) (gt gl : Nat) (g : Lg) (a : Option Addr) (cap : Nat) (ms : List Rm) : Prop where
  ok : g.ok
  logs : ∃ F, LAc w0.heap.size gt gl w F g ∧ ∀ k, blk a k → ¬ F k
  all : RB w0.heap.size w a cap ms
  bel : Below w0.heap.size w0 w
section
variable {w0 w x : World} {gt gl : Nat} {t : Tp} {g g' : Lg} {a : Option Addr} {cap : Nat} {ms : List Rm}
theorem TU.later (h : TU w0 w gt t a cap ms) (p : Below w.heap.size w x) : TU w0 x gt t a cap ms := by
  obtain ⟨gb, q1, q2⟩ := h.tp
  exact ⟨⟨gb, q1.later p, q2⟩, h.low, h.ok, h.all.later p, h.bel.trans (p.mono h.bel.size)⟩
theorem TT.later (h : TT w0 w gt gl g a cap ms) (p : Below w.heap.size w x) : TT w0 x gt gl g a cap ms := by
  obtain ⟨F, q1, q2⟩ := h.logs
  exact ⟨h.ok, ⟨F, (base9 _).keep _ _ _ _ _ _ _ q1 (loose_none _ w) (Tn.of_below p) (fun _ _ h => h), q2⟩, h.all.later p, h.bel.trans (p.mono h.bel.size)⟩
theorem RB.lts (h : RB w0.heap.size w a cap ms) : ∀ k, blk a k → k < w.heap.size := fun k hk => by
  obtain ⟨_, cs, hr⟩ := h.kind k hk
  exact hr.lt
/-- A call of the log. -/
theorem TT.code (h : TT w0 w gt gl g a cap ms) (ok' : g'.ok) {P : Ending → Prop} {f : FuncId} {args : Array Value} (hc : ∀ F, LAc w0.heap.size gt gl w F g → Calls Try.prog f args w fun e x' => P e ∧ Aft (LAc w0.heap.size) gt gl w F g' x') : Calls Try.prog f args w fun e x' => P e ∧ TT w0 x' gt gl g' a cap ms ∧ LSide w x' := by
  obtain ⟨F, h1, h2⟩ := h.logs
  have hl := (base9 _).loose _ _ _ _ _ h1
  refine (hc F h1).mono ?_
  rintro e x' ⟨hp, F', q1, q2, q3⟩
  refine ⟨hp, ⟨ok', ⟨F', q1, fun k hk hF => ?_⟩, h.all.keep hl q2 (fun k hk => h2 k hk), h.bel.trans (q2.below (fun k hk => (hl k hk).1) h.bel.size)⟩, fun k cs hr => q2.row hr (fun hF => ?_)⟩
  · rcases q3 k hF with h6 | h6
    · exact h2 k hk h6
    · have := h.all.lts k hk
      omega
  · obtain ⟨gc, gb, a', cap', ms', wa, wc, hL, rfl⟩ := h1
    obtain ⟨_, u, ds, h4, h5⟩ := hL.kinds k hF
    have := row_kind hr h4
    rw [← this] at h5
    rcases h5 with h5 | h5 | h5 | h5 | h5 <;> exact absurd h5 (by decide)
theorem tapp (h : TT w0 w gt gl g a cap ms) (r : Rec) (va vb : Value) (hft : r.fits) (hin : RcIn w0 r va vb) :
    Calls Try.prog 10 #[.pointer (some ⟨gl, 0, none⟩), .agg (rcA r va vb), .int .u64 0, .int .i64 0] w fun e x' => e = .returned (.tuple #[.int .u64 (g.appN r 0 0 : Int), .int .i64 (g.appE r 0 0)]) ∧ TT w0 x' gt gl (g.app r 0 0) a cap ms ∧ LSide w x' :=
  h.code (g.app_ok h.ok r 0 0) (fun F hF => append9 _ gt gl w F g r va vb 0 0 hF h.ok hft (rck9 hin h.bel) (by decide) (by decide))
theorem twrite (h : TT w0 w gt gl g a cap ms) :
    Calls Try.prog 16 #[.pointer (some ⟨gl, 0, none⟩)] w fun e x' => e = .returned (.int .i64 0) ∧ TT w0 x' gt gl g.write a cap ms ∧ LSide w x' :=
  h.code (g.write_ok h.ok) (fun F hF => write9 _ gt gl w F g hF h.ok)
theorem tsync (h : TT w0 w gt gl g a cap ms) :
    Calls Try.prog 17 #[.pointer (some ⟨gl, 0, none⟩)] w fun e x' => e = .returned (.int .i64 0) ∧ TT w0 x' gt gl g.sync a cap ms ∧ LSide w x' :=
  h.code (g.sync_ok h.ok) (fun F hF => sync9 _ gt gl w F g hF h.ok)
theorem trecs (h : TT w0 w gt gl g a cap ms) :
    Calls Try.prog 11 #[.pointer (some ⟨gl, 0, none⟩)] w fun e x' => (∃ a cap ns, e = .returned (.slice a ns.length cap) ∧ RsIn x' (.slice a ns.length cap) ns ∧ msR ns = g.l ∧ ns.length ≤ 1000000000000) ∧ Below w.heap.size w x' := by
  obtain ⟨F, h1, h2⟩ := h.logs
  refine (records9 _ gt gl w F g h1 h.ok).mono ?_
  rintro e x' ⟨a, cap, ns, q1, q2, q3, q4, q5⟩
  refine ⟨⟨a, cap, ns, q1, q2, q3, ?_⟩, q5⟩
  have e1 : ns.length = g.l.length := by rw [← q3]; simp [msR]
  have := few_recs g h.ok
  omega
/-- The log is opened. -/
theorem topen (h : TU w0 w gt t a cap ms) :
    Calls Try.prog 8 #[.pointer (some ⟨gt, 0, none⟩), .int .u64 0] w fun e x' => ∃ gl, e = .returned (.tuple #[.pointer (some ⟨gl, 0, none⟩), .int .i64 0]) ∧ TT w0 x' gt gl (Lg.open t 0) a cap ms := by
  obtain ⟨gb, q1, q2⟩ := h.tp
  have hnot : ∀ k, blk a k → k ≠ gt ∧ k ≠ gb := fun k hk => by
    obtain ⟨_, cs, hr⟩ := h.all.kind k hk
    exact q1.apart hr (by decide) (by decide)
  refine (open9_any w0.heap.size gt gb w t 0 q1 h.ok h.low q2 (by decide)).mono ?_
  rintro e x' ⟨gl, F, rfl, h1, h2, h3, h4⟩
  have hlo : Loose w0.heap.size w (fun k => k = gt ∨ k = gb) := fun k hk => by
    obtain ⟨⟨c1, t1⟩, t2⟩ := q1.kind
    rcases hk with rfl | rfl
    · exact ⟨h.low, t1.lt, fun t cs hr => by rw [row_kind hr t1]; decide⟩
    · rcases t2 with e | ⟨c2, t2⟩
      · rw [e]
        exact ⟨h.low, t1.lt, fun t cs hr => by rw [row_kind hr t1]; decide⟩
      · exact ⟨q2, t2.lt, fun t cs hr => by rw [row_kind hr t2]; decide⟩
  refine ⟨gl, rfl, Lg.open_ok t h.ok 0, ⟨F, h1, fun k hk hF => ?_⟩, h.all.keep hlo h2 (fun k hk e => ?_), h.bel.trans (h2.below (fun k hk => (hlo k hk).1) h.bel.size)⟩
  · rcases h3 k hF with e | e | e
    · exact (hnot k hk).1 e
    · exact (hnot k hk).2 e
    · have := h.all.lts k hk
      omega
  · rcases e with e | e
    · exact (hnot k hk).1 e
    · exact (hnot k hk).2 e
/-- The log's tape, when the log is left. -/
theorem TT.tape (h : TT w0 w gt gl g a cap ms) : TU w0 w gt g.t a cap ms := by
  obtain ⟨F, h1, h2⟩ := h.logs
  have hl := (base9 _).loose _ _ _ _ _ h1
  obtain ⟨gb, q1, q2, q3⟩ := (base9 _).tape _ _ _ _ _ h1
  exact ⟨⟨gb, q1, (hl _ q3).1⟩, (hl _ q2).1, h.ok.tok, h.all, h.bel⟩
theorem tcrash (h : TU w0 w gt t a cap ms) (k : Int) :
    Calls Try.prog 27 #[.pointer (some ⟨gt, 0, none⟩), .int .i64 k] w fun e x' => e = .returned (.tuple #[]) ∧ TU w0 x' gt (t.crash k) a cap ms := by
  obtain ⟨gb, q1, q2⟩ := h.tp
  refine (crash8_any gt gb t k w q1 h.ok).mono ?_
  rintro e x' ⟨rfl, h1, h2⟩
  have hlo : Loose w0.heap.size w (fun k => k = gt ∨ k = gb) := fun k hk => by
    obtain ⟨⟨c1, t1⟩, t2⟩ := q1.kind
    rcases hk with rfl | rfl
    · exact ⟨h.low, t1.lt, fun t cs hr => by rw [row_kind hr t1]; decide⟩
    · rcases t2 with e | ⟨c2, t2⟩
      · rw [e]
        exact ⟨h.low, t1.lt, fun t cs hr => by rw [row_kind hr t1]; decide⟩
      · exact ⟨q2, t2.lt, fun t cs hr => by rw [row_kind hr t2]; decide⟩
  refine ⟨rfl, ⟨gb, h1, q2⟩, h.low, t.crash_ok h.ok k, h.all.keep hlo h2.tn (fun j hj e => ?_), h.bel.trans (h2.below h.low q2 h.bel.size)⟩
  obtain ⟨_, cs, hr⟩ := h.all.kind j hj
  have hn := q1.apart hr (by decide) (by decide)
  rcases e with e | e
  · exact hn.1 e
  · exact hn.2 e
theorem tbytes (h : TU w0 w gt t a cap ms) :
    Calls Try.prog 25 #[.pointer (some ⟨gt, 0, none⟩)] w fun e x' => ∃ ab c, e = .returned (.slice ab t.b.size c) ∧ t.b.size ≤ c ∧ IsB x' ab t.b.size t.b.data.toList ∧ Below w.heap.size w x' := by
  obtain ⟨gb, q1, q2⟩ := h.tp
  refine (bytes8_any gt gb t w q1 h.ok).mono ?_
  rintro e x' ⟨v, rfl, ho, hb⟩
  obtain ⟨ab, c, rfl, hc, hi⟩ := shape_isB ho
  exact ⟨ab, c, rfl, hc, hi, hb⟩
theorem tlen (h : TU w0 w gt t a cap ms) :
    Calls Try.prog 29 #[.pointer (some ⟨gt, 0, none⟩)] w fun e x' => e = .returned (.int .i64 (t.b.size : Int)) ∧ w = x' := by
  obtain ⟨gb, q1, q2⟩ := h.tp
  exact len8_any gt gb t w q1
theorem troom (h : TU w0 w gt t a cap ms) :
    Calls Try.prog 26 #[.pointer (some ⟨gt, 0, none⟩)] w fun e x' => e = .returned (.int .i64 (t.m : Int)) ∧ w = x' := by
  obtain ⟨gb, q1, q2⟩ := h.tp
  exact room8_any gt gb t w q1
/-- One more record behind all. -/
theorem TT.push (h : TT w0 w gt gl g a cap ms) (m : Rm) (gr c : Nat) (hr : RowAt w gr 28 (rcF m)) (hf : m.1.fits) (hin : RcIn w0 m.1 m.2.1 m.2.2) (hl : ms.length ≤ 100000000) :
    ∃ a' cap' w', (Builtin.append_ #[42, 42] 42 #[.slice a ms.length cap, .slice (some ⟨gr, 0, none⟩) 1 c]).run Try.prog w = .ok (.slice a' (ms.length + 1) cap') w' ∧ TT w0 w' gt gl g a' cap' (ms ++ [m]) ∧ LSide w w' := by
  obtain ⟨a', cap', w', q1, q2, q3, q4⟩ := run_push w0.heap.size w 42 42 Try.underlying42 a cap ms h.all m gr c hr ⟨hf, rck9 hin h.bel⟩ h.bel.size hl
  obtain ⟨F, h1, h2⟩ := h.logs
  have hl := (base9 _).loose _ _ _ _ _ h1
  refine ⟨a', cap', w', q1, ⟨h.ok, ⟨F, (base9 _).keep _ _ _ _ _ _ _ h1 h.all.loose q3 (fun k hk hb => h2 k hb hk), fun k hk hF => ?_⟩, q2, h.bel.trans (q3.below (fun k hk => (h.all.loose k hk).1) h.bel.size)⟩, fun k cs hk => q3.row hk (fun hb => ?_)⟩
  · rcases q4 k hk with h6 | h6
    · exact h2 k h6 hF
    · have := (hl k hF).2.1
      omega
  · obtain ⟨_, ds, h4⟩ := h.all.kind k hb
    exact absurd (row_kind hk h4) (by decide)
/-- A beginning of all. -/
theorem RB.take {B : Nat} {n : Nat} (h : RB B w a cap ms) (hn : n ≤ ms.length) : RB B w a cap (ms.take n) := by
  refine ⟨?_, fun m hm => h.2 m (List.mem_of_mem_take hm)⟩
  rcases h.1 with ⟨h1, h2, h3⟩ | ⟨b, off, cs, h1, h2, h3, h4, h5, h6⟩
  · exact .inl ⟨h1, by rw [h2]; simp, h3⟩
  · refine .inr ⟨b, off, cs, h1, h2, h3, h4, by rw [List.length_take]; omega, fun i hi => ?_⟩
    rw [List.length_take] at hi
    have e : (ms.take n).getD i rcZ = ms.getD i rcZ := by
      rw [List.getD_eq_getElem?_getD, List.getD_eq_getElem?_getD, List.getElem?_take, if_pos (by omega)]
    rw [e]
    exact h6 i (by omega)
end
theorem open_l (t : Tp) (base base' : Nat) : (Lg.open t base).l = (Lg.open t base').l := rfl
theorem open_fa (t : Tp) : (Lg.open t 0).fa = (Lg.open t 0).l.length ∧ (Lg.open t 0).on = (Lg.open t 0).l.length := ⟨rfl, rfl⟩
end Go.Proofs.Ytmdhnfeepadfaaa

/-
  The contract of quaysidelaw07.right.
-/
namespace Go.Proofs.Ytmdhnfeepadfaaa
open Go.RowKit
set_option linter.unusedVariables false

theorem take_snoc7 {α : Type} (xs : List α) (i : Nat) (z : α) (h : i < xs.length) : xs.take (i + 1) = xs.take i ++ [xs.getD i z] := by
  rw [List.take_add_one, List.getElem?_eq_getElem h, List.getD_eq_getElem?_getD, List.getElem?_eq_getElem h]
  rfl
theorem RsIn.mid {w : World} {a : Option Addr} {len cap : Nat} {ms : List (Rec × Value × Value)} (h : RsIn w (.slice a len cap) ms) {i : Nat} (hi : i < ms.length) : ∃ b off r e1 k1 e2 k2, a = some ⟨b, off, none⟩ ∧ ms.getD i rcZ = (r, .slice e1 r.ts.length k1, .slice e2 r.ds.length k2) ∧ r.fits ∧ (∀ x, Below w.heap.size w x → x.rangeAt b (off + i * 14) (rcA r (.slice e1 r.ts.length k1) (.slice e2 r.ds.length k2)).toList ∧ RcIn x r (.slice e1 r.ts.length k1) (.slice e2 r.ds.length k2)) := by
  obtain ⟨b, off, h1, h2, h3, h4, h5⟩ := h.at hi
  generalize ms.getD i rcZ = m at h3 h4 h5 ⊢
  obtain ⟨r, va, vb⟩ := m
  have h6 := h5
  obtain ⟨⟨e1, k1, h7, -⟩, ⟨e2, k2, h8, -⟩⟩ := h5
  simp only at h7 h8
  subst h7 h8
  exact ⟨b, off, r, e1, k1, e2, k2, h1, rfl, h4, fun x hx => ⟨rangeAt_below h3 hx h2, h6.below hx⟩⟩

end Go.Proofs.Ytmdhnfeepadfaaa
