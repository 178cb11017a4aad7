/-
  The contract of ring: whether one who waits has to go behind itself.
-/
import Derived.Test.YtmlbghloddiflaaLkWaiting
namespace Go.Proofs.Ytmlbghloddiflaa
open Go.RowKit Go.Maps
set_option linter.unusedVariables false

/-- A table in memory that stands for one of no program. -/
structure PtOk (t : Tb) (p : Pt) (N : Nat) : Prop where
  rep : Rep t p
  tok : t.ok
  len : ∀ x, x < 288 → (p.had x).length + (p.row x).length ≤ N
theorem PtOk.ok {t : Tb} {p : Pt} {N : Nat} (h : PtOk t p N) : p.ok N := ⟨h.rep.srt, h.len⟩
theorem PtOk.mem {t : Tb} {p : Pt} {N : Nat} (h : PtOk t p N) {x : Nat} {k : Hd} (hx : x < 288) (hk : k ∈ p.row x) : k ∈ t.row ∧ k.x = (x : Int) := by
  rw [h.rep.row x hx] at hk
  exact mem_que.1 hk
theorem fine_of {k : Hd} (hw : whoOk k.w = true) (hx : thingOk k.x = true) (hm : rgt k.m = true) : k.fine := by
  unfold whoOk at hw
  unfold thingOk at hx
  unfold rgt at hm
  simp only [Bool.and_eq_true, decide_eq_true_eq] at hw hx hm
  refine ⟨?_, ?_, ?_⟩
  · exact WalkArith.wf_i64 (by omega)
  · exact WalkArith.wf_i64 (by omega)
  · exact WalkArith.wf_i64 (by omega)
theorem PtOk.fine {t : Tb} {p : Pt} {N : Nat} (h : PtOk t p N) {x : Nat} {k : Hd} (hx : x < 288) (hk : k ∈ p.row x) : k.fine ∧ k.x = (x : Int) := by
  have hm := h.mem hx hk
  have hr := h.tok.rk k hm.1
  exact ⟨fine_of hr.1 hr.2.1 hr.2.2, hm.2⟩
theorem PtOk.one {t : Tb} {p : Pt} {N : Nat} (h : PtOk t p N) : OneRow p := fun x y a b hx hy ha hb e => by
  have h1 := wt_of h.tok.rone (h.mem hx ha).1
  have h2 := wt_of h.tok.rone (h.mem hy hb).1
  rw [e, h2] at h1
  exact (Option.some.inj h1).symm
theorem PtOk.dist {t : Tb} {p : Pt} {N : Nat} (h : PtOk t p N) {x : Nat} (hx : x < 288) : (p.row x).Pairwise fun a b => a.w ≠ b.w := by
  rw [h.rep.row x hx]
  exact h.tok.rone.filter _
theorem PtOk.told {t : Tb} {p : Pt} {N : Nat} (h : PtOk t p N) {M : Int → Option Hd} (hM : Told p 288 0 M) (a : Int) : M a = t.wt a := by
  cases e : t.wt a with
  | none =>
    cases e2 : M a with
    | none => rfl
    | some k =>
      obtain ⟨y, hy, hk, hw⟩ := hM.from' a k e2
      exact absurd hw (wt_none e k (h.mem hy hk).1)
  | some k =>
    obtain ⟨hk, rfl⟩ := wt_some e
    obtain ⟨h1, h2⟩ := thing_nat (h.tok.rk k hk).2.1
    exact hM.all k.x.toNat k h1 (by rw [h.rep.row _ h1]; exact mem_que.2 ⟨hk, h2⟩)
theorem next_wf {t : Tb} {p : Pt} {N : Nat} (h : PtOk t p N) {k : Hd} (hk : k ∈ t.row) {a : Int} (ha : a ∈ nextS p k) : wfI a := by
  obtain ⟨h1, h2⟩ := thing_nat (h.tok.rk k hk).2.1
  rcases List.mem_append.1 ha with ha | ha
  · obtain ⟨q, hq, rfl, _⟩ := mem_bar.1 ha
    have hm := (h.rep.had _ h1 q).1 hq
    have hr := h.tok.hk q hm.1
    exact (fine_of hr.1 hr.2.1 hr.2.2).1
  · obtain ⟨q, hq, rfl⟩ := lastW_mem ha
    have hq2 : q ∈ p.row k.x.toNat := List.takeWhile_subset _ hq
    exact (h.fine h1 hq2).1.1
theorem next_len {p : Pt} {N : Nat} (h : p.ok N) {k : Hd} (hx : k.x.toNat < 288) : (nextS p k).length ≤ N + 1 := by
  unfold nextS
  rw [List.length_append]
  have h1 := bar_len (p.had k.x.toNat) k
  have h2 := h.len _ hx
  have h3 : (lastW (aheadS (p.row k.x.toNat) k)).length ≤ 1 := by
    unfold lastW
    split <;> simp
  omega
theorem HB.pop {w : World} {s : Sl} {T : List Hd} {q : Hd} (h : HB w s (T ++ [q])) : HB w s T := by
  rcases h with ⟨_, h2, _⟩ | ⟨b, cs, h1, h2, h3, h4, h5, h6, h7⟩
  · exact absurd h2 (by simp)
  · rw [List.length_append] at h4
    exact .inr ⟨b, cs, h1, h2, h3, by omega, h5, h6, fun j u hu => h7 j u (by
      rw [flatH_append]
      rw [List.getElem?_append_left (List.getElem?_eq_some_iff.1 hu).1]
      exact hu)⟩
/-- What the search keeps to in memory: the table, the first one's box, the map, those to be gone on from. -/
structure RingAt (t : Tb) (p : Pt) (w : World) (g : Nat) (S : Nat → Sl) (f : Hd) (A : Array Value) (gb bm : Nat) (y : World) (s : Sl) (T : List Hd) (n : Nat) (M : Int → Option Hd) : Prop where
  tab : TAt y g p S
  box : RowAt y gb 46 A
  map : MapAt y bm n M
  todo : HB y s T
  new : ∀ k, s.b = some k → bm < k
  bel : Below w.heap.size w y
theorem RingAt.later {t : Tb} {p : Pt} {w : World} {g : Nat} {S : Nat → Sl} {f : Hd} {A : Array Value} {gb bm : Nat} {y z : World} {s : Sl} {T : List Hd} {n : Nat} {M : Int → Option Hd} (h : RingAt t p w g S f A gb bm y s T n M) (q : Below y.heap.size y z) : RingAt t p w g S f A gb bm z s T n M :=
  ⟨h.tab.later q, h.box.later q, h.map.later q, h.todo.later q, h.new, h.bel.trans (q.mono h.bel.size)⟩
theorem HB.row_of {y : World} {s : Sl} {T : List Hd} (h : HB y s T) {k : Nat} (hk : s.b = some k) : ∃ cs, RowAt y k 46 cs := by
  rcases h with ⟨h1, _⟩ | ⟨b, cs, h1, h2, _⟩
  · rw [h1] at hk; cases hk
  · rw [h1] at hk
    have := Option.some.inj hk
    subst this
    exact ⟨cs, h2⟩
section
variable {t : Tb} {p : Pt} {w : World} {g : Nat} {S : Nat → Sl} {f : Hd} {A : Array Value} {gb bm : Nat} {y z : World} {s : Sl} {T : List Hd} {n : Nat} {M : Int → Option Hd}
/-- One more to be gone on from. -/
theorem RingAt.push (h : RingAt t p w g S f A gb bm y s T n M) (hw : TAt w g p S) (hg : gb = w.heap.size) (hb : bm = w.heap.size + 1) (k : Hd) (gk c : Nat) (hk : RowAt y gk 46 (hdA k)) (hT : T.length ≤ 1000000) (ty : TypeId) :
    ∃ s' z, (Builtin.append_ #[30, 30] ty #[.slice (adr s.b) T.length s.c, .slice (some ⟨gk, 0, none⟩) 1 c]).run Try.prog y = .ok (.slice (adr s'.b) (T ++ [k]).length s'.c) z ∧ RingAt t p w g S f A gb bm z s' (T ++ [k]) n M ∧ mapSize z bm = mapSize y bm ∧ Tn (ofS s) y z := by
  obtain ⟨s', z, r1, r2, r3, r4⟩ := run_push13 y ty s T h.todo k gk c (cells_of_row hk) hT
  have hbm := h.map.lt
  have hnew : ∀ q, ofS s q → bm < q := fun q hq => h.new q hq
  have hmb : z.heap[bm]? = y.heap[bm]? := r3.block bm hbm (fun e => by have := hnew bm e; omega)
  refine ⟨s', z, ?_, ⟨h.tab.turn r3 (fun q hq e => ?_), r3.row h.box (fun e => ?_), h.map.keep hmb, r2, fun q hq => ?_, h.bel.trans (r3.below (fun q hq => ?_) h.bel.size)⟩, ?_, r3⟩
  · rw [List.length_append]
    exact r1
  · have h1 := hw.lt hq
    have h2 := hnew q e
    omega
  · have h2 := hnew gb e
    omega
  · rcases r4 q hq with h1 | h1
    · exact h.new q h1
    · omega
  · have h2 := hnew q hq
    omega
  · unfold mapSize
    rw [hmb]
/-- One taken out of the map. -/
theorem RingAt.out (h : RingAt t p w g S f A gb bm y s T n M) (hb : bm = w.heap.size + 1) {k : Int} (hk : wfI k) {q : Hd} (hq : M k = some q) (ty : TypeId) :
    ∃ z, (Builtin.delete_ #[98, 3] ty #[.map (some bm), .int .i64 k]).run Try.prog y = .ok (.tuple #[]) z ∧ RingAt t p w g S f A gb bm z s T n (dropM M k) ∧ mapSize z bm + 1 = mapSize y bm ∧ Tn (Is bm) y z := by
  obtain ⟨z, r1, r2, r3, r4⟩ := h.map.drop hk hq ty
  have hr : ∀ {k t cs}, RowAt y k t cs → ¬ Is bm k := fun hr e => h.map.not_row hr e
  exact ⟨z, r1, ⟨h.tab.turn r4 (fun q hq => by
      obtain ⟨_, _, h1, _⟩ := h.tab.kind hq
      exact hr h1), r4.row h.box (hr h.box), r2, h.todo.turn r4 (fun q hq => by
      obtain ⟨cs, h1⟩ := h.todo.row_of hq
      exact hr h1), h.new, h.bel.trans (r4.below (fun q hq => by rw [hq]; omega) h.bel.size)⟩, r3, r4⟩
end
theorem wpList_look13 {P : Program} {w : World} {ops : Array Oper} {rest : List Oper} {o : Oper} {a : Act} {Q : Exit → Act → World → Prop} (hg : o.guard = none) (t : TypeId) (m x : Operand) (hop : o.op = Op.lookup t m x true) (vm vx v : Value) (hm : a.eval m = vm) (hx : a.eval x = vx)
    (hrun : (Instr.lookup t vm vx true).run P w = .ok v w) (h : wpList P ops Q rest (a.put o.dst v) w) : wpList P ops Q (o :: rest) a w := by
  refine wpList_plain hg fun K' hK' => ?_
  unfold Oper.wp
  simp [execOp, hop, hm, hx, hrun, Result.andThen]
  exact hK' _ _ h
theorem wpList_del13 {P : Program} {w w' : World} {ops : Array Oper} {rest : List Oper} {o : Oper} {a : Act} {Q : Exit → Act → World → Prop} (hg : o.guard = none) (t k : TypeId) (m x : Operand) (hop : o.op = Op.call { callee := Callee.builtin Builtin.delete, args := #[m, x], argTypes := #[t, k] }) (vm vx : Value) (hm : a.eval m = vm) (hx : a.eval x = vx)
    (hrun : (Builtin.delete_ #[t, k] o.type #[vm, vx]).run P w = .ok (.tuple #[]) w') (h : wpList P ops Q rest (a.put o.dst (.tuple #[])) w') : wpList P ops Q (o :: rest) a w := by
  refine wpList_plain hg fun K' hK' => ?_
  unfold Oper.wp
  simp [execOp, hop, resolve, invoke, builtin, hm, hx, hrun, Result.andThen]
  exact hK' _ _ h
def lenS (v : Value) : Nat := match v with
  | .slice _ n _ => n
  | _ => 0
theorem OwnI.at {B : Nat} {y : World} {a : Option Addr} {m c : Nat} {l : List Int} (h : OwnI B y (.slice a m c) l) {j : Nat} (hj : j < l.length) : ∃ b, a = some ⟨b, 0, none⟩ ∧ y.cell? ⟨b, j, none⟩ = some (.int .i64 (l.getD j 0)) := by
  rcases h.2 with ⟨_, h0⟩ | ⟨g', cap, cur, e, hb, hr, hn, hm, hs, ht⟩
  · omega
  · injection e with e1 e2 e3
    refine ⟨g', e1, RowAt.cell (show RowAt y g' 3 cur from hr) j _ ?_⟩
    have h2 := intsV_get l j hj
    rw [← ht, List.getElem?_take] at h2
    split at h2
    · rwa [Array.getElem?_toList] at h2
    · cases h2
section
variable {w : World} {g : Nat} {p : Pt} {S : Nat → Sl}
set_option maxRecDepth 8000 in
set_option maxHeartbeats 12800000 in
theorem ring13 (h : TAt w g p S) {t : Tb} {N : Nat} (hp : PtOk t p N) (hN : N ≤ 3000) (f : Hd) (hf : f ∈ t.row) : Calls Try.prog 49 #[.pointer (some ⟨g, 0, none⟩), .agg (hdA f)] w fun e w' => ∃ r : Bool, e = .returned (.bool r) ∧ (r = true ↔ Relation.TransGen (stepS t p) f.w f.w) ∧ Below w.heap.size w w' := by
  have H := hide h
  have HP := hide hp
  have HF := hide hf
  have H0 := hide (CB.new h (hdA f))
  have HWA := hide (waiting13 (CB.new h (hdA f)).1 (N := N) (fun x hx => by have := hp.len x hx; omega) (by omega) hp.one (fun x k hx hk => (hp.fine hx hk).1.1))
  obtain ⟨gb, hgb⟩ : ∃ gb, gb = w.heap.size := ⟨_, rfl⟩
  have HGB := hide hgb
  clear h hp hf
  have HA3 := hide (show hdA f = #[.int .i64 f.w, .int .i64 f.x, .int .i64 f.m] from rfl)
  obtain ⟨A, hA⟩ : ∃ A, A = hdA f := ⟨_, rfl⟩
  have HA := hide hA
  rw [← hA] at H0 HWA ⊢
  clear hA
  go_enter Try.func49, Try.ntmps49
  go_wp2_with fail
  refine HWA.out.mono ?_
  rintro e w1 ⟨n0, M0, rfl, hM0, hn0, hTo, hb1⟩
  obtain ⟨bm, hbm⟩ : ∃ bm, bm = (w.alloc (.cells A 46)).heap.size := ⟨_, rfl⟩
  have hC1 := H0.out.later hb1
  have hbg : bm = w.heap.size + 1 := by rw [hbm]; simp
  rw [← hbm] at hM0 ⊢
  have HW1 := hide (And.intro hC1 (And.intro hM0 (And.intro hn0 hTo)))
  have HBG := hide hbg
  have d0 := hC1.2.1.cell 0 (.int .i64 f.w) (by rw [HA.out]; rfl)
  have d1 := hC1.2.1.cell 1 (.int .i64 f.x) (by rw [HA.out]; rfl)
  have d2 := hC1.2.1.cell 2 (.int .i64 f.m) (by rw [HA.out]; rfl)
  rw [← hgb] at d0 d1 d2 ⊢
  clear hM0 hn0 hTo hb1 hC1 hbm hbg HWA hgb
  have b2 : Below w1.heap.size w1 (w1.alloc (.cells #[.int .i64 f.w, .int .i64 f.x, .int .i64 f.m] 46)) := (Below.refl w1.heap.size w1).alloc (Nat.le_refl _) _
  have r2 := RowAt.new w1 46 #[.int .i64 f.w, .int .i64 f.x, .int .i64 f.m]
  have HR0 := hide (show RingAt t p w g S f A gb bm (w1.alloc (.cells #[.int .i64 f.w, .int .i64 f.x, .int .i64 f.m] 46)) ⟨some w1.heap.size, 1⟩ [f] n0 M0 from by
    have hC := HW1.out.1.later b2
    refine ⟨hC.1, by rw [HGB.out]; exact hC.2.1, HW1.out.2.1.later b2, .inr ⟨w1.heap.size, _, rfl, r2, rfl, Nat.le_refl _, by show 0 < 1; omega, by show 1 ≤ maxLen; unfold maxLen; omega, cells_of_row (k := f) r2⟩, fun k hk => ?_, hC.2.2⟩
    have := Option.some.inj hk
    have := HW1.out.2.1.lt
    omega)
  have HS0 := hide (show Srch t p f.w [f] M0 from Srch.start (wt_of HP.out.tok.rone HF.out) (HP.out.told HW1.out.2.2.2))
  have HC0 := hide (show mapSize (w1.alloc (.cells #[.int .i64 f.w, .int .i64 f.x, .int .i64 f.m] 46)) bm ≤ 288 * N from Nat.le_trans HR0.out.map.le HW1.out.2.2.1)
  clear b2 r2
  go_wp2
  go_loopw [6] (fun v wr => ∃ (s : Sl) (T : List Hd), v = .slice (adr s.b) T.length s.c ∧ Hid (∃ n M, RingAt t p w g S f A gb bm wr s T n M ∧ Srch t p f.w T M ∧ T.length + mapSize wr bm ≤ 1 + 288 * N)) (fun v wr => lenS v + mapSize wr bm)
  case atStart => exact ⟨⟨some w1.heap.size, 1⟩, [f], rfl, show ∃ n M, RingAt t p w g S f A gb bm _ _ [f] n M ∧ Srch t p f.w [f] M ∧ [f].length + mapSize _ bm ≤ 1 + 288 * N from ⟨n0, M0, HR0.out, HS0.out, by have := HC0.out; simp only [List.length_singleton]; omega⟩⟩
  case round =>
    obtain ⟨s, T, rfl, HR⟩ := hrel
    obtain ⟨n, M, hRA, hSR, hLN⟩ := HR.out
    rcases List.eq_nil_or_concat T with rfl | ⟨T', q, hTT⟩
    · have HE := hide (And.intro hSR.none hRA.bel)
      clear hRA hSR hLN HR d0 d1 d2
      go_wp2
      go_ret
      exact ⟨false, rfl, ⟨fun h => (nomatch h), fun h => absurd h HE.out.1⟩, HE.out.2⟩
    · have hTT2 : T = T' ++ [q] := by simpa using hTT
      subst hTT2
      clear hTT
      have hqt := hSR.todo q (List.mem_append_right _ (List.mem_singleton.2 rfl))
      have hqr := (wt_some hqt.1).1
      obtain ⟨hx1, hx2⟩ := thing_nat (HP.out.tok.rk q hqr).2.1
      obtain ⟨x, hxe⟩ : ∃ x, x = q.x.toNat := ⟨_, rfl⟩
      rw [← hxe] at hx1 hx2
      have hqm : q ∈ p.row x := by
        rw [HP.out.rep.row x hx1]
        exact mem_que.2 ⟨hqr, hx2⟩
      obtain ⟨i, hi⟩ := stands_of hqm
      have hlast : (T' ++ [q])[T'.length]? = some q := by simp
      obtain ⟨b, hb0, hbl, c0, c1, c2⟩ := hRA.todo.at hlast
      have hcap := hRA.todo.cap
      have eb : adr s.b = some ⟨b, 0, none⟩ := by rw [hb0]; rfl
      have elen : (T' ++ [q]).length = T'.length + 1 := by simp
      rw [eb, elen]
      rw [elen] at hcap hLN
      have HLD := hide (load_hold c0 c1 c2)
      have HRA := hide (And.intro hRA (And.intro hSR hLN))
      have HQ := hide (And.intro hqr (And.intro hx1 (And.intro hx2 (And.intro hqm (And.intro hi hxe)))))
      have HB0 := hide hb0
      have hTl : T'.length ≤ 1000000 := by omega
      have hTc : T'.length + 1 ≤ s.c := hcap.1
      have hc63 : s.c ≤ 9223372036854775807 := by have := hcap.2; unfold maxLen at this; exact this
      have i1 : (0 : Int) < (T'.length : Int) + 1 := by omega
      have i2 : (T'.length : Int) < (T'.length : Int) + 1 := by omega
      have i3 : ((T'.length + 1 : Nat) : Int) = (T'.length : Int) + 1 := by omega
      have i4 : (T'.length : Int) ≤ (s.c : Int) := by omega
      clear hRA hSR hLN HR c0 c1 c2 hbl hqt hqr hqm hi hxe hlast hcap eb elen hb0 d0 d1 d2
      go_wp2_with (with_reducible refine stop_at 24 rfl ?_)
      refine unstop10 ?_
      refine lst_load (some 24) (.agg (hdA q)) rfl rfl 46 (.tmp 23) rfl _ rfl (HLD.out) ?_
      simp only [Act.put, Array.setIfInBounds, List.size_toArray, List.length_cons, List.length_nil, Nat.reduceAdd, Nat.reduceLT, ↓reduceDIte, List.set_toArray, List.set_cons_succ, List.set_cons_zero]
      refine lst_run (some 7) rfl rfl (.pointer (some ⟨wr.heap.size, 0, none⟩)) (wr.alloc (.cells zeroH 46)) (by go_simp; rfl) ?_
      simp only [Act.put, Array.setIfInBounds, List.size_toArray, List.length_cons, List.length_nil, Nat.reduceAdd, Nat.reduceLT, ↓reduceDIte, List.set_toArray, List.set_cons_succ, List.set_cons_zero]
      refine wpList_store_part rfl 46 (.tmp 7) (.tmp 24) rfl wr.heap.size 0 46 zeroH (hdA q) rfl rfl (RowAt.new wr _ _) infoHs (by show 0 + 3 ≤ 3; omega) (hdA_one q) ?_
      intro w2 h21 h22
      rw [partA_all zeroH (hdA q) rfl] at h21
      have b2 : Below wr.heap.size wr w2 := h22.below ((Below.refl wr.heap.size wr).alloc (Nat.le_refl _) (.cells zeroH 46)) (Nat.le_refl _)
      simp only [Act.put]
      have hRA2 := HRA.out.1.later b2
      obtain ⟨gv, hgv⟩ : ∃ gv, gv = wr.heap.size := ⟨_, rfl⟩
      have HGV := hide hgv
      rw [← hgv] at h21 ⊢
      have hms2 : mapSize w2 bm = mapSize wr bm := by
        unfold mapSize
        rw [b2.block bm HRA.out.1.map.lt]
      have HW2 := hide (And.intro hRA2 (And.intro h21 hms2))
      have hlh : (p.had x).length ≤ 1000000 := by have := HP.out.len x hx1; omega
      have hlr : (p.row x).length ≤ 1000000 := by have := HP.out.len x hx1; omega
      have HNX := hide (next13 (x := x) hRA2.tab.drew hx1 q i (HP.out.fine hx1 HQ.out.2.2.2.1).1 (fun k hk => (HP.out.fine hx1 hk).1) HQ.out.2.2.2.2.1 hlh hlr)
      clear h21 h22 b2 hRA2 hms2 HLD hlh hlr hgv
      have i5 : (x : Int) < 288 := by omega
      go_wp2_with fail
      refine wp_region_noPanic ?_
      refine wp_region_held_drew (S := fun y => RowAt y gv 46 (hdA q)) (by kernel_rfl) (HW2.out.2.1) (fun hHeld => ?_)
      refine hand_take 0 (some 30) (.pointer (some ⟨g, 0, none⟩)) rfl rfl (by kernel_rfl) (by kernel_rfl) (by kernel_rfl) (fun _ _ _ h => h) (Or.inl ⟨by kernel_rfl, fun y hy => by go_simp⟩) hHeld ?_
      try simp only [Act.put, List.setIfInBounds_toArray, List.set_cons_zero, List.set_cons_succ]
      refine hand_take 1 (some 31) (.pointer (some ⟨gv, 1, none⟩)) rfl rfl (by kernel_rfl) (by kernel_rfl) (by kernel_rfl) (fun _ _ _ h => h) (Or.inl ⟨by kernel_rfl, fun y hy => by go_simp⟩) hHeld ?_
      try simp only [Act.put, List.setIfInBounds_toArray, List.set_cons_zero, List.set_cons_succ]
      refine hand_take 2 (some 32) (.int .i64 (x : Int)) rfl rfl (by kernel_rfl) (by kernel_rfl) (by kernel_rfl) (fun _ _ _ h => h) (Or.inl ⟨by kernel_rfl, fun y hy => by have h := (show y.cell? ⟨gv, 1, none⟩ = some (.int .i64 (x : Int)) from by have := hy.cell 1 (.int .i64 q.x) rfl; rw [HQ.out.2.2.1] at this; exact this); go_simp⟩) hHeld ?_
      try simp only [Act.put, List.setIfInBounds_toArray, List.set_cons_zero, List.set_cons_succ]
      refine hand_take 3 (some 33) (.pointer (some ⟨g, 0, none⟩)) rfl rfl (by kernel_rfl) (by kernel_rfl) (by kernel_rfl) (fun _ _ _ h => h) (Or.inl ⟨by kernel_rfl, fun y hy => by go_simp⟩) hHeld ?_
      try simp only [Act.put, List.setIfInBounds_toArray, List.set_cons_zero, List.set_cons_succ]
      refine hand_take 4 (some 34) (.pointer (some ⟨g, 0, none⟩)) rfl rfl (by kernel_rfl) (by kernel_rfl) (by kernel_rfl) (fun _ _ _ h => h) (Or.inl ⟨by kernel_rfl, fun y hy => by go_simp⟩) hHeld ?_
      try simp only [Act.put, List.setIfInBounds_toArray, List.set_cons_zero, List.set_cons_succ]
      refine hand_take 5 (some 35) (.pointer (some ⟨g, x * 2, none⟩)) rfl rfl (by kernel_rfl) (by kernel_rfl) (by kernel_rfl) (fun _ _ _ h => h) (Or.inl ⟨by kernel_rfl, fun y hy => by go_simp⟩) hHeld ?_
      try simp only [Act.put, List.setIfInBounds_toArray, List.set_cons_zero, List.set_cons_succ]
      refine hand_take 6 (some 36) (.agg (hdA q)) rfl rfl (by kernel_rfl) (by kernel_rfl) (by kernel_rfl) (fun _ _ _ h => h) (yieldsIf_load_run (by kernel_rfl) 46 _ rfl (.pointer (some ⟨gv, 0, none⟩)) rfl _ (fun y hy => load_box hy)) hHeld ?_
      try simp only [Act.put, List.setIfInBounds_toArray, List.set_cons_zero, List.set_cons_succ]
      refine hand_take 9 (some 39) (.int .i64 0) rfl rfl (by kernel_rfl) (by kernel_rfl) (by kernel_rfl) (fun _ _ _ h => h) (Or.inl ⟨by kernel_rfl, fun y hy => by go_simp⟩) hHeld ?_
      try simp only [Act.put, List.setIfInBounds_toArray, List.set_cons_zero, List.set_cons_succ]
      refine hand_one 7 (by kernel_rfl) ?_
      refine hand_call (some 37) rfl rfl rfl 76 #[.pointer (some ⟨g, x * 2, none⟩), .agg (hdA q)] ?he (HNX.out.mono ?_)
      (case he => go_simp)
      rintro e w3 ⟨v, rfl, hO, hb3⟩
      have hb3' : Below w2.heap.size w2 w3 := ⟨hb3.1, hb3.2, hb3.3, hb3.4, hb3.5⟩
      refine ⟨_, rfl, ?_⟩
      refine ⟨HW2.out.2.1.later hb3', ?_⟩
      have hgv3 := HW2.out.2.1.later hb3'
      obtain ⟨av, cv, hav⟩ := hO.shape
      subst hav
      have enx : barL (p.had x) q ++ lastW (aheadS (p.row x) q) = nextS p q := by unfold nextS; rw [← HQ.out.2.2.2.2.2]
      rw [enx] at hO ⊢
      obtain ⟨L, hL⟩ : ∃ L, L = nextS p q := ⟨_, rfl⟩
      rw [← hL] at hO ⊢
      have hms3 : mapSize w3 bm = mapSize w2 bm := by
        unfold mapSize
        rw [hb3'.block bm HW2.out.1.map.lt]
      have hRA3 : RingAt t p w g S f A gb bm w3 s T' n M := by
        have h := HW2.out.1.later hb3'
        exact ⟨h.tab, h.box, h.map, h.todo.pop, h.new, h.bel⟩
      have hSI : SrchIn t p f.w q L T' M := by
        rw [hL]
        exact HRA.out.2.1.pop
      have hLL : L.length ≤ N + 1 := by
        rw [hL]
        exact next_len HP.out.ok (by rw [← HQ.out.2.2.2.2.2]; exact hx1)
      have HW3 := hide (And.intro hRA3 (And.intro hSI (And.intro (show OwnI w2.heap.size w3 (.slice av L.length cv) L from hO) (show T'.length + mapSize w3 bm + 1 ≤ 1 + 288 * N ∧ mapSize w3 bm = mapSize wr bm from ⟨by have h1 := HRA.out.2.2; have h2 := HW2.out.2.2; omega, by rw [hms3]; exact HW2.out.2.2⟩))))
      have HLQ := hide hL
      try simp only [Act.put, List.setIfInBounds_toArray, List.set_cons_zero, List.set_cons_succ]
      refine hand_take 8 (some 38) (.int .i64 (L.length : Int)) rfl rfl (by kernel_rfl) (by kernel_rfl) (by kernel_rfl) (fun _ _ _ h => h) (Or.inl ⟨by kernel_rfl, fun y hy => by go_simp⟩) hgv3 ?_
      try simp only [Act.put, List.setIfInBounds_toArray, List.set_cons_zero, List.set_cons_succ]
      refine wpAnyH_done (by kernel_rfl) ?_ _
      refine NoPanic.normal ?_
      clear hO hb3 hb3' hgv3 enx hL hms3 hRA3 hSI hHeld HNX HW2
      have hLi : L.length ≤ 1000000 := by omega
      obtain ⟨C1, hC1⟩ : ∃ C1, C1 = T'.length + mapSize w3 bm := ⟨_, rfl⟩
      obtain ⟨Bw, hBw⟩ : ∃ Bw, Bw = w2.heap.size := ⟨_, rfl⟩
      rw [← hBw] at HW3
      have HCC := hide (show C1 < T'.length + 1 + mapSize wr bm ∧ C1 ≤ 288 * N from by have h1 := HW3.out.2.2.2; omega)
      have HST := hide (show ∃ n M, RingAt t p w g S f A gb bm w3 s T' n M ∧ SrchIn t p f.w q (L.drop 0) T' M ∧ T'.length + mapSize w3 bm = C1 ∧ OwnI Bw w3 (.slice av L.length cv) L from ⟨n, M, HW3.out.1, HW3.out.2.1, hC1.symm, HW3.out.2.2.1⟩)
      have HMS := hide (show lenS (.slice (some ⟨b, 0, none⟩) (T'.length + 1) s.c) = T'.length + 1 from rfl)
      have HSB := hide (show adr s.b = some ⟨b, 0, none⟩ from by rw [HB0.out]; rfl)
      clear hC1 hBw HW3 HRA
      go_wp2
      go_loopw [6, 39] (fun v q39 wr => ∃ (s : Sl) (T : List Hd) (j : Nat), j ≤ L.length ∧ q39 = .int .i64 j ∧ v = .slice (adr s.b) T.length s.c ∧ Hid (∃ n M, RingAt t p w g S f A gb bm wr s T n M ∧ SrchIn t p f.w q (L.drop j) T M ∧ T.length + mapSize wr bm = C1 ∧ OwnI Bw wr (.slice av L.length cv) L)) (fun _ q39 _ => L.length - (intOf q39).toNat)
      case atStart => exact ⟨s, T', 0, Nat.zero_le _, rfl, by rw [HSB.out], HST⟩
      case round =>
        obtain ⟨s2, T2, j, hj, rfl, rfl, HI⟩ := hrel
        by_cases hjl : j < L.length
        · have i6 : (j : Int) < (L.length : Int) := by omega
          obtain ⟨n2, M2, hRA, hSI, hSM, hO⟩ := HI.out
          obtain ⟨bv, hbv, cv0⟩ := hO.at hjl
          obtain ⟨a, ha⟩ : ∃ a, a = L.getD j 0 := ⟨_, rfl⟩
          rw [← ha] at cv0
          have hdrop : L.drop j = a :: L.drop (j + 1) := by
            rw [ha, List.drop_eq_getElem_cons hjl, List.getD_eq_getElem?_getD, List.getElem?_eq_getElem hjl]
            rfl
          rw [hdrop] at hSI
          have hwa : wfI a := by
            refine next_wf HP.out HQ.out.1 ?_
            rw [← HLQ.out]
            have : a ∈ L.drop j := by rw [hdrop]; exact List.mem_cons_self ..
            exact List.mem_of_mem_drop this
          subst hbv
          have d0 := hRA.box.cell 0 (.int .i64 f.w) (by rw [HA.out]; rfl)
          have hT2 : T2.length ≤ 1000000 := by have := HCC.out.2; omega
          have HZ := hide (And.intro hRA (And.intro hSI (And.intro hSM (And.intro hO hwa))))
          clear hRA hSI hSM hO HI ha hdrop hwa
          by_cases haf : a = f.w
          · have haf2 : (a == f.w) = true := by simp [haf]
            have HE := hide (show Relation.TransGen (stepS t p) f.w f.w ∧ Below w.heap.size w wr from ⟨by have h := HZ.out.2.1; rw [haf] at h; exact h.found, HZ.out.1.bel⟩)
            clear haf
            go_wp2
            go_ret
            exact ⟨true, rfl, ⟨fun _ => HE.out.1, fun _ => rfl⟩, HE.out.2⟩
          · have haf2 : (a == f.w) = false := by simpa using haf
            have HAF := hide haf
            clear haf
            have hlook := HZ.out.1.map.look HZ.out.2.2.2.2
            go_wp2_with (with_reducible refine stop_at 50 rfl ?_)
            refine unstop10 ?_
            refine wpList_look13 rfl 98 (.tmp 48) (.tmp 49) rfl _ _ _ rfl rfl hlook ?_
            simp only [Act.put, Array.setIfInBounds, List.size_toArray, List.length_cons, List.length_nil, Nat.reduceAdd, Nat.reduceLT, ↓reduceDIte, List.set_toArray, List.set_cons_succ, List.set_cons_zero]
            clear hlook cv0 d0
            obtain ⟨k, hk⟩ : ∃ k, k = (M2 a).getD hdZ := ⟨_, rfl⟩
            rw [← hk]
            have HK := hide hk
            clear hk
            obtain ⟨hm, hmm⟩ : ∃ hm, hm = (M2 a).isSome := ⟨_, rfl⟩
            rw [← hmm]
            have HMM := hide hmm
            clear hmm
            go_wp2_with (with_reducible refine stop_at 10 rfl ?_)
            refine unstop10 ?_
            refine lst_run (some 10) rfl rfl (.pointer (some ⟨wr.heap.size, 0, none⟩)) (wr.alloc (.cells zeroH 46)) (by go_simp; rfl) ?_
            simp only [Act.put, Array.setIfInBounds, List.size_toArray, List.length_cons, List.length_nil, Nat.reduceAdd, Nat.reduceLT, ↓reduceDIte, List.set_toArray, List.set_cons_succ, List.set_cons_zero]
            refine wpList_store_part rfl 46 (.tmp 10) (.tmp 51) rfl wr.heap.size 0 46 zeroH (hdA k) rfl rfl (RowAt.new wr _ _) infoHs (by show 0 + 3 ≤ 3; omega) (hdA_one k) ?_
            intro w4 h41 h42
            rw [partA_all zeroH (hdA k) rfl] at h41
            have b4 : Below wr.heap.size wr w4 := h42.below ((Below.refl wr.heap.size wr).alloc (Nat.le_refl _) (.cells zeroH 46)) (Nat.le_refl _)
            simp only [Act.put]
            have hRA4 := HZ.out.1.later b4
            have hO4 := HZ.out.2.2.2.1.later b4
            have hms4 : mapSize w4 bm = mapSize wr bm := by
              unfold mapSize
              rw [b4.block bm HZ.out.1.map.lt]
            obtain ⟨gk, hgk⟩ : ∃ gk, gk = wr.heap.size := ⟨_, rfl⟩
            rw [← hgk] at h41 ⊢
            clear h42 b4 hgk
            cases hm with
            | false =>
              have hnone : M2 a = none := by
                have := HMM.out
                cases e : M2 a with
                | none => rfl
                | some z => rw [e] at this; cases this
              have HE := hide (show ∃ n M, RingAt t p w g S f A gb bm w4 s2 T2 n M ∧ SrchIn t p f.w q (L.drop (j + 1)) T2 M ∧ T2.length + mapSize w4 bm = C1 ∧ OwnI Bw w4 (.slice (some ⟨bv, 0, none⟩) L.length cv) L from ⟨n2, M2, hRA4, HZ.out.2.1.pass HAF.out hnone, by rw [hms4]; exact HZ.out.2.2.1, hO4⟩)
              clear hnone hRA4 hO4 hms4 h41 HZ
              go_wp2
              go_roundw
              case rel => exact ⟨s2, T2, j + 1, by omega, by go_num, rfl, HE⟩
              case measure => simp [intOf]; omega
            | true =>
              have hsome : M2 a = some k := by
                have h1 := HMM.out
                have h2 := HK.out
                cases e : M2 a with
                | none => rw [e] at h1; cases h1
                | some z =>
                  rw [e] at h2
                  rw [h2]
                  rfl
              have b5 : Below w4.heap.size w4 (w4.alloc (.cells #[.int .i64 k.w, .int .i64 k.x, .int .i64 k.m] 46)) := (Below.refl w4.heap.size w4).alloc (Nat.le_refl _) _
              have r5 : RowAt (w4.alloc (.cells #[.int .i64 k.w, .int .i64 k.x, .int .i64 k.m] 46)) w4.heap.size 46 (hdA k) := RowAt.new w4 _ _
              have hRA5 := hRA4.later b5
              obtain ⟨s6, w6, hap, hRA6, hms6, hT6⟩ := hRA5.push H.out HGB.out HBG.out k w4.heap.size 1 r5 hT2 30
              have hO6 : OwnI Bw w6 (.slice (some ⟨bv, 0, none⟩) L.length cv) L := (hO4.later b5).turned hT6 (fun q hq => by
                obtain ⟨cs, h1⟩ := hRA5.todo.row_of hq
                exact (hO4.later b5).not h1 (by decide))
              obtain ⟨w7, hdel, hRA7, hms7, hT7⟩ := hRA6.out HBG.out HZ.out.2.2.2.2 hsome 0
              have hO7 : OwnI Bw w7 (.slice (some ⟨bv, 0, none⟩) L.length cv) L := hO6.turned hT7 (fun q hq e => by
                obtain ⟨_, cs, h1⟩ := hO6.block e
                exact hRA6.map.not_row h1 hq)
              have hms5 : mapSize (w4.alloc (.cells #[.int .i64 k.w, .int .i64 k.x, .int .i64 k.m] 46)) bm = mapSize w4 bm := by
                unfold mapSize
                rw [b5.block bm hRA4.map.lt]
              have HE := hide (show ∃ n M, RingAt t p w g S f A gb bm w7 s6 (T2 ++ [k]) n M ∧ SrchIn t p f.w q (L.drop (j + 1)) (T2 ++ [k]) M ∧ (T2 ++ [k]).length + mapSize w7 bm = C1 ∧ OwnI Bw w7 (.slice (some ⟨bv, 0, none⟩) L.length cv) L from ⟨n2, _, hRA7, HZ.out.2.1.more HAF.out hsome, by
                have h1 := HZ.out.2.2.1
                rw [List.length_append, List.length_singleton]
                omega, hO7⟩)
              clear hsome b5 r5 hRA4 hRA5 hms6 hT6 hO6 hRA7 hms7 hT7 hO7 hms5 hRA6 hO4 hms4 HZ HMM HK
              go_wp2_with (with_reducible refine stop_at 55 rfl ?_)
              refine unstop10 ?_
              refine lst_load (some 55) (.agg #[.int .i64 k.w, .int .i64 k.x, .int .i64 k.m]) rfl rfl 46 (.tmp 10) rfl _ rfl (load_box h41) ?_
              simp only [Act.put, Array.setIfInBounds, List.size_toArray, List.length_cons, List.length_nil, Nat.reduceAdd, Nat.reduceLT, ↓reduceDIte, List.set_toArray, List.set_cons_succ, List.set_cons_zero]
              clear h41
              go_wp2_with (first
                | (at_builtin; refine Lib.wpList_append_run _ rfl _ _ _ _ rfl _ _ rfl rfl _ _ hap ?_)
                | (at_builtin; refine wpList_del13 rfl 98 3 _ _ rfl _ _ rfl rfl hdel ?_))
              go_roundw
              case rel => exact ⟨s6, T2 ++ [k], j + 1, by omega, by go_num, by first | rfl | simp, HE⟩
              case measure => simp [intOf]; omega
        · have i6 : ¬ (j : Int) < (L.length : Int) := by omega
          have ej : j = L.length := by omega
          have HE := hide (show ∃ n M, RingAt t p w g S f A gb bm wr s2 T2 n M ∧ Srch t p f.w T2 M ∧ T2.length + mapSize wr bm ≤ 1 + 288 * N ∧ T2.length + mapSize wr bm = C1 from by
            obtain ⟨n2, M2, hRA, hSI, hSM, hO⟩ := HI.out
            rw [ej, List.drop_length] at hSI
            exact ⟨n2, M2, hRA, hSI.out, by have := HCC.out.2; omega, hSM⟩)
          clear HI ej
          go_wp2
          go_roundw
          case rel =>
            obtain ⟨n2, M2, h1, h2, h3, _⟩ := HE.out
            exact ⟨s2, T2, rfl, n2, M2, h1, h2, h3⟩
          case measure =>
            obtain ⟨n2, M2, h1, h2, h3, h4⟩ := HE.out
            have h5 := HCC.out.1
            simp [lenS]
            omega
end
end Go.Proofs.Ytmlbghloddiflaa
