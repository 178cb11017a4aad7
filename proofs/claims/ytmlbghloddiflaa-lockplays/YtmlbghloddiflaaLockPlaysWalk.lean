/-
  The walk of LockPlays: it returns true, and turns nothing that was there.
-/
import Derived.Test.YtmlbghloddiflaaDmClone
import Derived.Test.YtmlbghloddiflaaLkPlayed
import Derived.Deep.RegionHeld3
section
namespace Go.Proofs.Ytmlbghloddiflaa
open Go.RowKit
set_option linter.unusedVariables false
theorem OwnI_later13 {x y : World} {B n : Nat} {e : TypeId} {sz : Nat} {v : Value} {xs : List Value} (h : x.ownsRow B e sz v n xs) (hb : Below x.heap.size x y) : y.ownsRow B e sz v n xs := by
  obtain ⟨h1, h2⟩ := h
  refine ⟨h1, h2.imp id ?_⟩
  rintro ⟨g, cap, cur, a, b, c, d⟩
  exact ⟨g, cap, cur, a, b, RowAt.later (show RowAt x g e cur from c) hb, d⟩
theorem own13_shape {w : World} {B n : Nat} {e : TypeId} {sz : Nat} {v : Value} {xs : List Value} (h : w.ownsRow B e sz v n xs) : ∃ a c, v = .slice a n c ∧ n ≤ c ∧ (0 < n → ∃ b, a = some ⟨b, 0, none⟩) := by
  rcases h.2 with ⟨rfl, h0⟩ | ⟨g, cap, cur, rfl, _, _, h1, _⟩
  · exact ⟨none, 0, by rw [h0], by omega, fun h => absurd h (by omega)⟩
  · exact ⟨_, _, rfl, h1, fun _ => ⟨g, rfl⟩⟩
set_option maxRecDepth 4000 in
set_option maxHeartbeats 800000 in
theorem ints13o {w : World} {B C : Nat} {u v : Value} (l : List Int) (hl : l.length ≤ 10000000) (h1 : w.ownsRow B 3 1 u l.length (intsV l)) (h2 : w.ownsRow C 3 1 v l.length (intsV l)) : Calls Try.prog 24 #[u, v] w fun e w' => e = .returned (.bool true) ∧ Below w.heap.size w w' := by
  obtain ⟨a, c, rfl, hc, ha⟩ := own13_shape h1
  obtain ⟨a2, c2, rfl, hc2, ha2⟩ := own13_shape h2
  obtain ⟨n, hn⟩ : ∃ n, l.length = n := ⟨_, rfl⟩
  rw [hn] at h1 h2 hc hc2 ha ha2 hl ⊢
  have HL := hide hn
  have H1 := hide h1
  have H2 := hide h2
  have HA := hide (And.intro ha ha2)
  clear h1 h2 hn ha ha2
  go_enter Try.func24, Try.ntmps24
  go_wp2
  go_loopw [13] (fun v wr => ∃ j : Nat, j ≤ n ∧ v = .int .i64 j ∧ Hid (Below w.heap.size w wr)) (fun v _ => n - (intOf v).toNat)
  case atStart => exact ⟨0, Nat.zero_le _, rfl, Below.refl _ _⟩
  case round =>
    obtain ⟨j, hj, rfl, HB⟩ := hrel
    by_cases hlt : j < n
    · have i1 : (j : Int) < n := by omega
      obtain ⟨b1, rfl⟩ := HA.out.1 (by omega)
      obtain ⟨b2, rfl⟩ := HA.out.2 (by omega)
      have c0 := (OwnI_later13 H1.out HB.out).cellAt j (by omega)
      have d0 := (OwnI_later13 H2.out HB.out).cellAt j (by omega)
      rw [intsV_get _ _ (by rw [HL.out]; exact hlt)] at c0 d0
      generalize l.getD j 0 = z at *
      go_wp2_with fail
      go_quiet (fail)
      go_wp2
      go_roundw
      case rel => exact ⟨j + 1, by omega, by go_num, below_dn HB.out nq⟩
      case measure => simp [intOf]; omega
    · have i1 : ¬ (j : Int) < n := by omega
      go_wp2
      go_ret
      exact ⟨rfl, HB.out⟩

theorem let_sum (x : Int) : ∀ (l : List Hd) (t : Tb), (∀ k ∈ l, k ∈ t.row) → (l.Pairwise fun a b => a.w ≠ b.w) → (letL x l t).1.has.length + (letL x l t).1.row.length ≤ t.has.length + t.row.length ∧ (letL x l t).2.length ≤ l.length
  | [], t, _, _ => ⟨Nat.le_refl _, Nat.le_refl _⟩
  | m :: l, t, hm, hp => by
    by_cases hf : t.fits m.w x m.m = true
    · rw [let_yes hf]
      have hp2 := List.pairwise_cons.1 hp
      have ih := let_sum x l ((t.give m).away m.w) (fun k hk => mem_away.2 ⟨hm k (List.mem_cons_of_mem _ hk), fun e => hp2.1 k hk e.symm⟩) hp2.2
      have h1 := give_len m t.has
      have h2 := away_len_mem (hm m (List.mem_cons_self ..))
      have h3 : ((t.give m).away m.w).row = awayL t.row m.w := rfl
      have h4 : ((t.give m).away m.w).has = giveL t.has m := rfl
      rw [h3, h4] at ih
      refine ⟨?_, ?_⟩
      · have := ih.1
        show (letL x l ((t.give m).away m.w)).1.has.length + (letL x l ((t.give m).away m.w)).1.row.length ≤ _
        omega
      · have := ih.2
        simp only [List.length_cons]
        omega
    · unfold letL
      rw [if_neg hf]
      exact ⟨Nat.le_refl _, Nat.zero_le _⟩
theorem look_sum : ∀ (n : Nat) (x : Int) (t : Tb), t.ok → (lookL n x t).1.has.length + (lookL n x t).1.row.length ≤ t.has.length + t.row.length ∧ (lookL n x t).2.length ≤ n * (t.has.length + t.row.length)
  | 0, _, t, _ => ⟨Nat.le_refl _, Nat.zero_le _⟩
  | n + 1, x, t, h => by
    have hl := let_sum x (t.que x) t (fun k hk => (mem_que.1 hk).1) (h.rone.filter _)
    have hok := let_ok x (t.que x) t h (fun q hq => by
      have hm := mem_que.1 hq
      have := h.rk q hm.1
      exact ⟨this.1, this.2.1, this.2.2, hm.2⟩)
    have ih := look_sum n (x + 1) _ hok
    refine ⟨Nat.le_trans ih.1 hl.1, ?_⟩
    have h2 := Nat.le_trans hl.2 (List.length_filter_le _ t.row)
    have h3 := Nat.le_trans ih.2 (Nat.mul_le_mul (Nat.le_refl n) hl.1)
    show ((letL x (t.que x) t).2 ++ (lookL n (x + 1) (letL x (t.que x) t).1).2).length ≤ _
    rw [List.length_append, Nat.add_mul, Nat.one_mul]
    omega
theorem stop_sum {t : Tb} (h : t.ok) (who : Int) : (t.stop who).1.has.length + (t.stop who).1.row.length ≤ t.has.length + t.row.length ∧ (t.stop who).2.length ≤ 288 * (t.has.length + t.row.length) := by
  have h1 := look_sum 288 0 (t.away who) (h.away who)
  have h2 := away_len t.row who
  have h3 : (t.away who).row = awayL t.row who := rfl
  have h4 : (t.away who).has = t.has := rfl
  rw [h3, h4] at h1
  refine ⟨Nat.le_trans h1.1 (by omega), Nat.le_trans h1.2 (Nat.mul_le_mul (Nat.le_refl _) (by omega))⟩
theorem free_sum {t : Tb} (h : t.ok) (who : Int) : (t.free who).1.has.length + (t.free who).1.row.length ≤ t.has.length + t.row.length ∧ (t.free who).2.length ≤ 288 * (t.has.length + t.row.length) := by
  have h1 := look_sum 288 0 (({ t with has := awayL t.has who } : Tb).away who) ((h.drop who).away who)
  have h2 := away_len t.row who
  have h5 := away_len t.has who
  have h3 : (({ t with has := awayL t.has who } : Tb).away who).row = awayL t.row who := rfl
  have h4 : (({ t with has := awayL t.has who } : Tb).away who).has = awayL t.has who := rfl
  rw [h3, h4] at h1
  refine ⟨Nat.le_trans h1.1 (by omega), Nat.le_trans h1.2 (Nat.mul_le_mul (Nat.le_refl _) (by omega))⟩
theorem req_sum (t : Tb) (w x m : Int) : (t.request w x m).1.has.length + (t.request w x m).1.row.length ≤ t.has.length + t.row.length + 1 := by
  unfold Tb.request
  generalize (t.queue (t.asks w x m)).ring w = d
  unfold Tb.req
  split
  · split
    · exact Nat.le_succ _
    · split
      · exact Nat.le_succ _
      · split
        · have := give_len (t.asks w x m) t.has
          show (giveL t.has (t.asks w x m)).length + t.row.length ≤ _
          omega
        · split
          · exact Nat.le_succ _
          · show t.has.length + (t.row.take (t.place (t.asks w x m)) ++ t.asks w x m :: t.row.drop (t.place (t.asks w x m))).length ≤ _
            rw [List.length_append, List.length_cons, List.length_take, List.length_drop]
            omega
  · exact Nat.le_succ _
/-- No block of the code's table is one of another kind. -/
theorem Kt.other {w : World} {g : Nat} {t : Tb} {N : Nat} {F : Nat → Prop} (h : Kt w g t N F) {k : Nat} {ty : TypeId} {cs : Array Value} (hr : RowAt w k ty cs) (h1 : ty ≠ 35) (h2 : ty ≠ 46) : ¬ F k := fun hf => by
  obtain ⟨p, S, hT, _, _, rfl⟩ := h
  obtain ⟨t', cs', h3, h4⟩ := hT.kind hf
  have := row_kind hr h3
  rcases h4 with rfl | rfl
  · exact h1 this
  · exact h2 this
/-- Both tables, and a call in its block. -/
structure Q13 (w0 w : World) (g : Nat) (t : Tb) (N : Nat) (F : Nat → Prop) (h : Nat) (vH vR : Value) (e : Tb) (ob : Nat) (c : Lc) : Prop where
  code : Kt w g t N F
  doc : RT w0.heap.size w h vH vR e
  row : RowAt w ob 38 (lcA c)
  new : ∀ k, F k → w0.heap.size ≤ k
  bel : Below w0.heap.size w0 w
section
variable {w0 w x : World} {g : Nat} {t t' : Tb} {N N' : Nat} {F : Nat → Prop} {h : Nat} {vH vR : Value} {e e' : Tb} {ob : Nat} {c : Lc}
theorem Q13.later (q : Q13 w0 w g t N F h vH vR e ob c) (b : Below w.heap.size w x) : Q13 w0 x g t N F h vH vR e ob c := ⟨q.code.later b, q.doc.later b, q.row.later b, q.new, q.bel.trans (b.mono q.bel.size)⟩
theorem Q13.codes (q : Q13 w0 w g t N F h vH vR e ob c) (a : Kaft w g F t' N' x) : ∃ F', Q13 w0 x g t' N' F' h vH vR e ob c := by
  obtain ⟨F', k, tn, o⟩ := a
  have hR : ∀ k, F k → ¬ RF h vH vR k := fun k hk hf => by
    rcases hf with e | e | e
    · rw [e] at hk
      exact q.code.other q.doc.blk (by decide) (by decide) hk
    · obtain ⟨_, cs, r⟩ := q.doc.has.block e
      exact q.code.other r (by decide) (by decide) hk
    · obtain ⟨_, cs, r⟩ := q.doc.row.block e
      exact q.code.other r (by decide) (by decide) hk
  refine ⟨F', k, ⟨tn.row q.doc.blk (fun hk => hR h hk (.inl rfl)), q.doc.has.turned tn (fun k hk e => hR k hk (.inr (.inl e))), q.doc.row.turned tn (fun k hk e => hR k hk (.inr (.inr e))), q.doc.off, q.doc.new, q.doc.len⟩, tn.row q.row (q.code.other q.row (by decide) (by decide)), fun k hk => ?_, q.bel.trans (tn.below q.new q.bel.size)⟩
  rcases o k hk with z | z
  · exact q.new k z
  · exact Nat.le_trans q.bel.size z
theorem Q13.docs (q : Q13 w0 w g t N F h vH vR e ob c) (a : RAft w0.heap.size w h vH vR e' x) : ∃ vH' vR', Q13 w0 x g t N F h vH' vR' e' ob c := by
  obtain ⟨vH', vR', rt, tn, o⟩ := a
  refine ⟨vH', vR', q.code.turn tn (fun k hk hf => ?_), rt, tn.row q.row (fun hf => ?_), q.new, q.bel.trans (tn.below (fun k hf => ?_) q.bel.size)⟩
  · rcases hf with e | e | e
    · rw [e] at hk
      exact q.code.other q.doc.blk (by decide) (by decide) hk
    · obtain ⟨_, cs, r⟩ := q.doc.has.block e
      exact q.code.other r (by decide) (by decide) hk
    · obtain ⟨_, cs, r⟩ := q.doc.row.block e
      exact q.code.other r (by decide) (by decide) hk
  · rcases hf with e | e | e
    · rw [e] at q
      exact absurd (row_kind q.row q.doc.blk) (by decide)
    · obtain ⟨_, cs, r⟩ := q.doc.has.block e
      exact absurd (row_kind q.row r) (by decide)
    · obtain ⟨_, cs, r⟩ := q.doc.row.block e
      exact absurd (row_kind q.row r) (by decide)
  · rcases hf with e | e | e
    · rw [e]; exact q.doc.new
    · exact (q.doc.has.block e).1
    · exact (q.doc.row.block e).1
theorem Q13.cells (q : Q13 w0 w g t N F h vH vR e ob c) : w.cell? ⟨ob, 0, none⟩ = some (.int .i64 c.k) ∧ w.cell? ⟨ob, 1, none⟩ = some (.int .i64 c.w) ∧ w.cell? ⟨ob, 2, none⟩ = some (.int .i64 c.x) ∧ w.cell? ⟨ob, 3, none⟩ = some (.int .i64 c.m) := ⟨q.row.cell 0 _ rfl, q.row.cell 1 _ rfl, q.row.cell 2 _ rfl, q.row.cell 3 _ rfl⟩
/-- Both, kept by a walk. -/
structure D13 (w0 w : World) (g : Nat) (t : Tb) (N : Nat) (F : Nat → Prop) (h : Nat) (vH vR : Value) : Prop where
  code : Kt w g t N F
  doc : RT w0.heap.size w h vH vR t
  new : ∀ k, F k → w0.heap.size ≤ k
  bel : Below w0.heap.size w0 w
  sum : t.has.length + t.row.length ≤ N
theorem D13.call (q : D13 w0 w g t N F h vH vR) (c : Lc) : Q13 w0 (w.alloc (.cells (lcA c) 38)) g t N F h vH vR t w.heap.size c := by
  have b : Below w.heap.size w (w.alloc (.cells (lcA c) 38)) := (Below.refl _ _).alloc (Nat.le_refl _) _
  exact ⟨q.code.later b, q.doc.later b, RowAt.new w _ _, q.new, q.bel.trans (b.mono q.bel.size)⟩
theorem Q13.both (q : Q13 w0 w g t N F h vH vR t ob c) (s : t.has.length + t.row.length ≤ N) : D13 w0 w g t N F h vH vR := ⟨q.code, q.doc, q.new, q.bel, s⟩
theorem D13.more (q : D13 w0 w g t N F h vH vR) : D13 w0 w g t (N + 1) F h vH vR := ⟨q.code.weak (by omega), q.doc, q.new, q.bel, by have := q.sum; omega⟩
end
end Go.Proofs.Ytmlbghloddiflaa
end
section
namespace Go.Proofs.Ytmlbghloddiflaa
open Go.RowKit
set_option linter.unusedVariables false
/-- Numbers beside the document's table stay. -/
theorem own_beside {B C : Nat} {w x : World} {h : Nat} {vH vR v : Value} {t t' : Tb} {l : List Int} (q : RT B w h vH vR t) (o : OwnI C w v l) (a : RAft B w h vH vR t' x) : OwnI C x v l := by
  obtain ⟨_, _, _, tn, _⟩ := a
  exact o.turned tn (fun k hk e => by
    obtain ⟨_, cs, r⟩ := o.block e
    exact q.noI r hk)
section
variable {w0 x : World} {g : Nat} {t : Tb} {N : Nat} {F : Nat → Prop} {h : Nat} {vH vR : Value}
set_option maxRecDepth 8000 in
set_option maxHeartbeats 1600000 in
theorem does13_1 (q : D13 w0 x g t N F h vH vR) (hN : N + 1 ≤ 2900) (a b d : Int) : Calls Try.prog 11 #[.pointer (some ⟨g, 0, none⟩), .pointer (some ⟨h, 0, none⟩), .agg (lcA ⟨1, a, b, d⟩)] x fun e y => e = .returned (.bool true) ∧ ∃ F' vH' vR', D13 w0 y g ((t.request a b d).1) (N + 1) F' h vH' vR' := by
  have hbx : (Instr.box 38 (.agg (lcA ⟨1, a, b, d⟩))).run Try.prog x = .ok (.pointer (some ⟨x.heap.size, 0, none⟩)) (x.alloc (.cells (lcA ⟨1, a, b, d⟩) 38)) := rfl
  have HG := hide q.code.good
  have HSUM := hide q.sum
  have HQ := hide ((q.call ⟨1, a, b, d⟩).later (below_dn (Below.refl _ _) 1))
  have HD := hide (q.call ⟨1, a, b, d⟩)
  obtain ⟨c0, c1, c2, c3⟩ := HD.out.cells
  have c0' : (x.alloc (.cells (lcA ⟨1, a, b, d⟩) 38)).cell? ⟨x.heap.size, 0, none⟩ = some (.int .i64 1) := c0
  clear q c0 HD
  obtain ⟨E, hE⟩ : ∃ E, (t.request a b d).2 = E := ⟨_, rfl⟩
  have T1 := kreq HQ.out.code (by omega) a b d
  rw [hE] at T1
  have HT1 := hide T1
  have HE := hide hE
  have HX2 := hide (show t.has.length + 1 ≤ 3000 ∧ t.row.length + 1 ≤ 3000 from by have := HSUM.out; omega)
  clear hE T1
  go_enter Try.func11, Try.ntmps11
  go_wp2_with fail
  go_region_held3 (fun y => y.cell? ⟨x.heap.size, 1, none⟩ = some (.int .i64 a) ∧ y.cell? ⟨x.heap.size, 2, none⟩ = some (.int .i64 b) ∧ y.cell? ⟨x.heap.size, 3, none⟩ = some (.int .i64 d)) (go_keep)
    (first
      | (go_at_call 22; refine HT1.out.mono ?_; rintro e w2 ⟨rfl, q1⟩; obtain ⟨F2, hq2⟩ := HQ.out.codes q1; have HQ2 := hide hq2; clear q1 hq2; obtain ⟨-, m1, m2, m3⟩ := HQ2.out.cells; have T2 := rreq13 HQ2.out.doc HQ2.out.bel.size a b d HX2.out; rw [HE.out] at T2; have HT2 := hide T2; clear T2)
      | (go_at_call 27; refine HT2.out.mono ?_; rintro e w3 ⟨rfl, q2⟩; obtain ⟨vH3, vR3, hq3⟩ := HQ2.out.docs q2; have HQ3 := hide hq3; clear q2 hq3; obtain ⟨-, n1, n2, n3⟩ := HQ3.out.cells))
  have HF := hide (show ∃ F' vH' vR', D13 w0 w3 g (t.request a b d).1 (N + 1) F' h vH' vR' from ⟨_, _, _, HQ3.out.both (by have := req_sum t a b d; have := HSUM.out; omega)⟩)
  clear HQ3 m1 m2 m3 n1 n2 n3 HQ2 HT2
  go_wp2
  go_ret
  exact ⟨rfl, HF.out⟩
set_option maxRecDepth 8000 in
set_option maxHeartbeats 1600000 in
theorem does13_2 (q : D13 w0 x g t N F h vH vR) (hN : N + 1 ≤ 2900) (a b d : Int) : Calls Try.prog 11 #[.pointer (some ⟨g, 0, none⟩), .pointer (some ⟨h, 0, none⟩), .agg (lcA ⟨2, a, b, d⟩)] x fun e y => e = .returned (.bool true) ∧ ∃ F' vH' vR', D13 w0 y g ((t.free a).1) (N + 1) F' h vH' vR' := by
  have hbx : (Instr.box 38 (.agg (lcA ⟨2, a, b, d⟩))).run Try.prog x = .ok (.pointer (some ⟨x.heap.size, 0, none⟩)) (x.alloc (.cells (lcA ⟨2, a, b, d⟩) 38)) := rfl
  have HG := hide q.code.good
  have HSUM := hide q.sum
  have HQ := hide ((q.call ⟨2, a, b, d⟩).later (below_dn (Below.refl _ _) 1))
  have HD := hide (q.call ⟨2, a, b, d⟩)
  obtain ⟨c0, c1, c2, c3⟩ := HD.out.cells
  have c0' : (x.alloc (.cells (lcA ⟨2, a, b, d⟩) 38)).cell? ⟨x.heap.size, 0, none⟩ = some (.int .i64 2) := c0
  clear q c0 HD
  have HT1 := hide (kfree HQ.out.code (by omega) a)
  have HS := hide (free_sum HG.out.ok a)
  go_enter Try.func11, Try.ntmps11
  go_wp2_with fail
  go_region_held3 (fun y => y.cell? ⟨x.heap.size, 1, none⟩ = some (.int .i64 a)) (go_keep)
    (first
      | (go_at_call 23; refine HT1.out.mono ?_; rintro e w2 ⟨v1, rfl, o1, q1⟩; obtain ⟨F2, hq2⟩ := HQ.out.codes q1; have HQ2 := hide hq2; have HO1 := hide o1; clear q1 hq2 o1; obtain ⟨-, m1, m2, m3⟩ := HQ2.out.cells; have HT2 := hide (rfree13 HQ2.out.doc HQ2.out.bel.size HG.out.ok HSUM.out (by omega) a))
      | (go_at_call 28; refine HT2.out.mono ?_; rintro e w3 ⟨v2, rfl, o2, q2⟩; obtain ⟨vH3, vR3, hq3⟩ := HQ2.out.docs q2; have HQ3 := hide hq3; have HO3 := hide (And.intro (own_beside HQ2.out.doc HO1.out q2) o2); clear q2 hq3 o2; obtain ⟨-, n1, n2, n3⟩ := HQ3.out.cells; have HT3 := hide (ints13o (t.free a).2 (by have := HS.out.2; have := HSUM.out; omega) HO3.out.1 HO3.out.2))
      | (go_at_call 24; refine HT3.out.mono ?_; rintro e w4 ⟨rfl, b4⟩; have HQ4 := hide (HQ3.out.later b4); clear b4; obtain ⟨-, k1, k2, k3⟩ := HQ4.out.cells))
  have HF := hide (show ∃ F' vH' vR', D13 w0 w4 g (t.free a).1 (N + 1) F' h vH' vR' from ⟨_, _, _, (HQ4.out.both (Nat.le_trans HS.out.1 HSUM.out)).more⟩)
  clear HQ4 HQ3 m1 m2 m3 n1 n2 n3 HQ2 HT2 HT3 HO3
  go_wp2
  go_ret
  exact ⟨rfl, HF.out⟩
set_option maxRecDepth 8000 in
set_option maxHeartbeats 1600000 in
theorem does13_3 (q : D13 w0 x g t N F h vH vR) (hN : N + 1 ≤ 2900) (a b d : Int) : Calls Try.prog 11 #[.pointer (some ⟨g, 0, none⟩), .pointer (some ⟨h, 0, none⟩), .agg (lcA ⟨3, a, b, d⟩)] x fun e y => e = .returned (.bool true) ∧ ∃ F' vH' vR', D13 w0 y g ((t.stop a).1) (N + 1) F' h vH' vR' := by
  have hbx : (Instr.box 38 (.agg (lcA ⟨3, a, b, d⟩))).run Try.prog x = .ok (.pointer (some ⟨x.heap.size, 0, none⟩)) (x.alloc (.cells (lcA ⟨3, a, b, d⟩) 38)) := rfl
  have HG := hide q.code.good
  have HSUM := hide q.sum
  have HQ := hide ((q.call ⟨3, a, b, d⟩).later (below_dn (Below.refl _ _) 1))
  have HD := hide (q.call ⟨3, a, b, d⟩)
  obtain ⟨c0, c1, c2, c3⟩ := HD.out.cells
  have c0' : (x.alloc (.cells (lcA ⟨3, a, b, d⟩) 38)).cell? ⟨x.heap.size, 0, none⟩ = some (.int .i64 3) := c0
  clear q c0 HD
  have HT1 := hide (kstop HQ.out.code (by omega) a)
  have HS := hide (stop_sum HG.out.ok a)
  go_enter Try.func11, Try.ntmps11
  go_wp2_with fail
  go_region_held3 (fun y => y.cell? ⟨x.heap.size, 1, none⟩ = some (.int .i64 a)) (go_keep)
    (first
      | (go_at_call 29; refine HT1.out.mono ?_; rintro e w2 ⟨v1, rfl, o1, q1⟩; obtain ⟨F2, hq2⟩ := HQ.out.codes q1; have HQ2 := hide hq2; have HO1 := hide o1; clear q1 hq2 o1; obtain ⟨-, m1, m2, m3⟩ := HQ2.out.cells; have HT2 := hide (rstop13 HQ2.out.doc HQ2.out.bel.size HG.out.ok HSUM.out (by omega) a))
      | (go_at_call 30; refine HT2.out.mono ?_; rintro e w3 ⟨v2, rfl, o2, q2⟩; obtain ⟨vH3, vR3, hq3⟩ := HQ2.out.docs q2; have HQ3 := hide hq3; have HO3 := hide (And.intro (own_beside HQ2.out.doc HO1.out q2) o2); clear q2 hq3 o2; obtain ⟨-, n1, n2, n3⟩ := HQ3.out.cells; have HT3 := hide (ints13o (t.stop a).2 (by have := HS.out.2; have := HSUM.out; omega) HO3.out.1 HO3.out.2))
      | (go_at_call 24; refine HT3.out.mono ?_; rintro e w4 ⟨rfl, b4⟩; have HQ4 := hide (HQ3.out.later b4); clear b4; obtain ⟨-, k1, k2, k3⟩ := HQ4.out.cells))
  have HF := hide (show ∃ F' vH' vR', D13 w0 w4 g (t.stop a).1 (N + 1) F' h vH' vR' from ⟨_, _, _, (HQ4.out.both (Nat.le_trans HS.out.1 HSUM.out)).more⟩)
  clear HQ4 HQ3 m1 m2 m3 n1 n2 n3 HQ2 HT2 HT3 HO3
  go_wp2
  go_ret
  exact ⟨rfl, HF.out⟩
set_option maxRecDepth 8000 in
set_option maxHeartbeats 1600000 in
theorem does13_4 (q : D13 w0 x g t N F h vH vR) (hN : N + 1 ≤ 2900) (a b d : Int) : Calls Try.prog 11 #[.pointer (some ⟨g, 0, none⟩), .pointer (some ⟨h, 0, none⟩), .agg (lcA ⟨4, a, b, d⟩)] x fun e y => e = .returned (.bool true) ∧ ∃ F' vH' vR', D13 w0 y g (t) (N + 1) F' h vH' vR' := by
  have hbx : (Instr.box 38 (.agg (lcA ⟨4, a, b, d⟩))).run Try.prog x = .ok (.pointer (some ⟨x.heap.size, 0, none⟩)) (x.alloc (.cells (lcA ⟨4, a, b, d⟩) 38)) := rfl
  have HG := hide q.code.good
  have HSUM := hide q.sum
  have HQ := hide ((q.call ⟨4, a, b, d⟩).later (below_dn (Below.refl _ _) 1))
  have HD := hide (q.call ⟨4, a, b, d⟩)
  obtain ⟨c0, c1, c2, c3⟩ := HD.out.cells
  have c0' : (x.alloc (.cells (lcA ⟨4, a, b, d⟩) 38)).cell? ⟨x.heap.size, 0, none⟩ = some (.int .i64 4) := c0
  clear q c0 HD
  obtain ⟨E, hE⟩ : ∃ E, t.at a b = E := ⟨_, rfl⟩
  have T1 := kholds HQ.out.code (by omega) a b
  rw [hE] at T1
  have HT1 := hide T1
  have HE := hide hE
  clear hE T1
  go_enter Try.func11, Try.ntmps11
  go_wp2_with fail
  go_region_held3 (fun y => y.cell? ⟨x.heap.size, 1, none⟩ = some (.int .i64 a) ∧ y.cell? ⟨x.heap.size, 2, none⟩ = some (.int .i64 b)) (go_keep)
    (first
      | (go_at_call 17; refine HT1.out.mono ?_; rintro e w2 ⟨rfl, b1⟩; have HQ2 := hide (HQ.out.later b1); clear b1; obtain ⟨-, m1, m2, m3⟩ := HQ2.out.cells; have T2 := rholds13 HQ2.out.doc a b; rw [HE.out] at T2; have HT2 := hide T2; clear T2)
      | (go_at_call 31; refine HT2.out.mono ?_; rintro e w3 ⟨rfl, rfl⟩))
  have HF := hide (show ∃ F' vH' vR', D13 w0 w2 g t (N + 1) F' h vH' vR' from ⟨_, _, _, (HQ2.out.both HSUM.out).more⟩)
  clear m1 m2 m3 HQ2 HT2
  go_wp2
  go_ret
  exact ⟨rfl, HF.out⟩
set_option maxRecDepth 8000 in
set_option maxHeartbeats 1600000 in
theorem does13_5 (q : D13 w0 x g t N F h vH vR) (hN : N + 1 ≤ 2900) (a b d : Int) : Calls Try.prog 11 #[.pointer (some ⟨g, 0, none⟩), .pointer (some ⟨h, 0, none⟩), .agg (lcA ⟨5, a, b, d⟩)] x fun e y => e = .returned (.bool true) ∧ ∃ F' vH' vR', D13 w0 y g (t) (N + 1) F' h vH' vR' := by
  have hbx : (Instr.box 38 (.agg (lcA ⟨5, a, b, d⟩))).run Try.prog x = .ok (.pointer (some ⟨x.heap.size, 0, none⟩)) (x.alloc (.cells (lcA ⟨5, a, b, d⟩) 38)) := rfl
  have HG := hide q.code.good
  have HSUM := hide q.sum
  have HQ := hide (q.call ⟨5, a, b, d⟩)
  have HD := hide (q.call ⟨5, a, b, d⟩)
  obtain ⟨c0, c1, c2, c3⟩ := HD.out.cells
  have c0' : (x.alloc (.cells (lcA ⟨5, a, b, d⟩) 38)).cell? ⟨x.heap.size, 0, none⟩ = some (.int .i64 5) := c0
  clear q c0 HD
  obtain ⟨k, hk⟩ : ∃ k, (t.wt a).getD hdZ = k := ⟨_, rfl⟩
  obtain ⟨s, hs⟩ : ∃ s, (t.wt a).isSome = s := ⟨_, rfl⟩
  have T1 := kwaits HQ.out.code (by omega) a
  rw [hk, hs] at T1
  have HT1 := hide T1
  have HKS := hide (And.intro hk hs)
  clear hk hs T1
  go_enter Try.func11, Try.ntmps11
  go_wp2_with fail
  refine HT1.out.mono ?_
  rintro e w2 ⟨rfl, b1⟩
  simp only [hdA]
  have b2 : Below w2.heap.size w2 (w2.alloc (.cells #[.int .i64 k.w, .int .i64 k.x, .int .i64 k.m] 46)) := (Below.refl _ _).alloc (Nat.le_refl _) _
  have HN1 := hide (RowAt.new w2 46 #[.int .i64 k.w, .int .i64 k.x, .int .i64 k.m])
  have HQ2 := hide ((HQ.out.later b1).later b2)
  clear b1 b2 c1 c2 c3 c0' HQ HT1
  obtain ⟨-, c1, c2, c3⟩ := HQ2.out.cells
  have T2 := rwaits13 HQ2.out.doc a
  rw [HKS.out.1, HKS.out.2] at T2
  have HT2 := hide T2
  clear T2
  go_wp2_with fail
  refine HT2.out.mono ?_
  rintro e w3 ⟨rfl, b1⟩
  simp only [hdA]
  have b2 : Below w3.heap.size w3 (w3.alloc (.cells #[.int .i64 k.w, .int .i64 k.x, .int .i64 k.m] 64)) := (Below.refl _ _).alloc (Nat.le_refl _) _
  have HN2 := hide (RowAt.new w3 64 #[.int .i64 k.w, .int .i64 k.x, .int .i64 k.m])
  have HN3 := hide ((HN1.out.later b1).later b2)
  have HQ3 := hide ((HQ2.out.later b1).later b2)
  clear b1 b2 c1 c2 c3 HQ2 HT2
  have k0 := HN3.out.cell 0 _ rfl
  have k1 := HN3.out.cell 1 _ rfl
  have k2 := HN3.out.cell 2 _ rfl
  have l0 := HN2.out.cell 0 _ rfl
  have l1 := HN2.out.cell 1 _ rfl
  have l2 := HN2.out.cell 2 _ rfl
  have ess : (s == s) = true := by simp
  go_wp2_with fail
  refine (same13 k _).mono ?_
  rintro e w4 ⟨rfl, b4⟩
  have HF := hide (show ∃ F' vH' vR', D13 w0 w4 g t (N + 1) F' h vH' vR' from ⟨_, _, _, ((HQ3.out.later b4).both HSUM.out).more⟩)
  clear b4 k0 k1 k2 l0 l1 l2 HQ3
  go_wp2
  go_ret
  exact ⟨by first | rfl | simp, HF.out⟩
set_option maxRecDepth 8000 in
set_option maxHeartbeats 1600000 in
theorem does13_6 (q : D13 w0 x g t N F h vH vR) (hN : N + 1 ≤ 2900) (a b d : Int) : Calls Try.prog 11 #[.pointer (some ⟨g, 0, none⟩), .pointer (some ⟨h, 0, none⟩), .agg (lcA ⟨6, a, b, d⟩)] x fun e y => e = .returned (.bool true) ∧ ∃ F' vH' vR', D13 w0 y g (t) (N + 1) F' h vH' vR' := by
  have hbx : (Instr.box 38 (.agg (lcA ⟨6, a, b, d⟩))).run Try.prog x = .ok (.pointer (some ⟨x.heap.size, 0, none⟩)) (x.alloc (.cells (lcA ⟨6, a, b, d⟩) 38)) := rfl
  have HG := hide q.code.good
  have HSUM := hide q.sum
  have HQ := hide ((q.call ⟨6, a, b, d⟩).later (below_dn (Below.refl _ _) 1))
  have HD := hide (q.call ⟨6, a, b, d⟩)
  obtain ⟨c0, c1, c2, c3⟩ := HD.out.cells
  have c0' : (x.alloc (.cells (lcA ⟨6, a, b, d⟩) 38)).cell? ⟨x.heap.size, 0, none⟩ = some (.int .i64 6) := c0
  clear q c0 HD
  have HT1 := hide (kbehind HQ.out.code (by omega) a)
  have HS := hide (show (t.behL a).length ≤ 10000000 from by
    have h1 := List.length_filter_le (fun b => t.beh a b) t.owners
    have h2 := owners_len t
    have h3 := HSUM.out
    unfold Tb.behL
    omega)
  go_enter Try.func11, Try.ntmps11
  go_wp2_with fail
  go_region_held3 (fun y => y.cell? ⟨x.heap.size, 1, none⟩ = some (.int .i64 a)) (go_keep)
    (first
      | (go_at_call 20; refine HT1.out.mono ?_; rintro e w2 ⟨v1, rfl, o1, b1⟩; have HQ2 := hide (HQ.out.later b1); have HO1 := hide o1; clear b1 o1; obtain ⟨-, m1, m2, m3⟩ := HQ2.out.cells; have HT2 := hide (rbehind13 HQ2.out.doc a))
      | (go_at_call 34; refine HT2.out.mono ?_; rintro e w3 ⟨v2, rfl, o2, b2⟩; have HQ3 := hide (HQ2.out.later b2); have HO3 := hide (And.intro (HO1.out.later b2) o2); clear b2 o2; obtain ⟨-, n1, n2, n3⟩ := HQ3.out.cells; have HT3 := hide (ints13o (t.behL a) HS.out HO3.out.1 HO3.out.2))
      | (go_at_call 24; refine HT3.out.mono ?_; rintro e w4 ⟨rfl, b4⟩; have HQ4 := hide (HQ3.out.later b4); clear b4; obtain ⟨-, k1, k2, k3⟩ := HQ4.out.cells))
  have HF := hide (show ∃ F' vH' vR', D13 w0 w4 g t (N + 1) F' h vH' vR' from ⟨_, _, _, (HQ4.out.both HSUM.out).more⟩)
  clear HQ4 HQ3 m1 m2 m3 n1 n2 n3 HQ2 HT2 HT3 HO3
  go_wp2
  go_ret
  exact ⟨rfl, HF.out⟩
set_option maxRecDepth 8000 in
set_option maxHeartbeats 1600000 in
theorem does13_7 (q : D13 w0 x g t N F h vH vR) (hN : N + 1 ≤ 2900) (a b d : Int) : Calls Try.prog 11 #[.pointer (some ⟨g, 0, none⟩), .pointer (some ⟨h, 0, none⟩), .agg (lcA ⟨7, a, b, d⟩)] x fun e y => e = .returned (.bool true) ∧ ∃ F' vH' vR', D13 w0 y g (t) (N + 1) F' h vH' vR' := by
  have hbx : (Instr.box 38 (.agg (lcA ⟨7, a, b, d⟩))).run Try.prog x = .ok (.pointer (some ⟨x.heap.size, 0, none⟩)) (x.alloc (.cells (lcA ⟨7, a, b, d⟩) 38)) := rfl
  have HG := hide q.code.good
  have HSUM := hide q.sum
  have HQ := hide ((q.call ⟨7, a, b, d⟩).later (below_dn (Below.refl _ _) 1))
  have HD := hide (q.call ⟨7, a, b, d⟩)
  obtain ⟨c0, c1, c2, c3⟩ := HD.out.cells
  have c0' : (x.alloc (.cells (lcA ⟨7, a, b, d⟩) 38)).cell? ⟨x.heap.size, 0, none⟩ = some (.int .i64 7) := c0
  clear q c0 HD
  have HT1 := hide (kqueue HQ.out.code (by omega) b)
  have HS := hide (show (t.que b).length ≤ 100000 from by
    have h1 := List.length_filter_le (fun k : Hd => decide (k.x = b)) t.row
    have h3 := HSUM.out
    unfold Tb.que queL
    omega)
  go_enter Try.func11, Try.ntmps11
  go_wp2_with fail
  go_region_held3 (fun y => y.cell? ⟨x.heap.size, 2, none⟩ = some (.int .i64 b)) (go_keep)
    (first
      | (go_at_call 35; refine HT1.out.mono ?_; rintro e w2 ⟨v1, rfl, o1, b1⟩; have HQ2 := hide (HQ.out.later b1); have HO1 := hide o1; clear b1 o1; obtain ⟨-, m1, m2, m3⟩ := HQ2.out.cells; have HT2 := hide (rqueueL13 HQ2.out.doc b))
      | (go_at_call 36; refine HT2.out.mono ?_; rintro e w3 ⟨v2, rfl, o2, b2⟩; have HQ3 := hide (HQ2.out.later b2); have HO3 := hide (And.intro (HO1.out.later b2) o2); clear b2 o2; obtain ⟨-, n1, n2, n3⟩ := HQ3.out.cells; have HT3 := hide (holds13s HS.out HO3.out.1 HO3.out.2))
      | (go_at_call 12; refine HT3.out.mono ?_; rintro e w4 ⟨rfl, b4⟩; have HQ4 := hide (HQ3.out.later b4); clear b4; obtain ⟨-, k1, k2, k3⟩ := HQ4.out.cells))
  have HF := hide (show ∃ F' vH' vR', D13 w0 w4 g t (N + 1) F' h vH' vR' from ⟨_, _, _, (HQ4.out.both HSUM.out).more⟩)
  clear HQ4 HQ3 m1 m2 m3 n1 n2 n3 HQ2 HT2 HT3 HO3
  go_wp2
  go_ret
  exact ⟨rfl, HF.out⟩
set_option maxRecDepth 8000 in
set_option maxHeartbeats 1600000 in
theorem does13_8 (q : D13 w0 x g t N F h vH vR) (hN : N + 1 ≤ 2900) (a b d : Int) : Calls Try.prog 11 #[.pointer (some ⟨g, 0, none⟩), .pointer (some ⟨h, 0, none⟩), .agg (lcA ⟨8, a, b, d⟩)] x fun e y => e = .returned (.bool true) ∧ ∃ F' vH' vR', D13 w0 y g (t) (N + 1) F' h vH' vR' := by
  have hbx : (Instr.box 38 (.agg (lcA ⟨8, a, b, d⟩))).run Try.prog x = .ok (.pointer (some ⟨x.heap.size, 0, none⟩)) (x.alloc (.cells (lcA ⟨8, a, b, d⟩) 38)) := rfl
  have HG := hide q.code.good
  have HSUM := hide q.sum
  have HQ := hide (q.call ⟨8, a, b, d⟩)
  have HD := hide (q.call ⟨8, a, b, d⟩)
  obtain ⟨c0, c1, c2, c3⟩ := HD.out.cells
  have c0' : (x.alloc (.cells (lcA ⟨8, a, b, d⟩) 38)).cell? ⟨x.heap.size, 0, none⟩ = some (.int .i64 8) := c0
  clear q c0 HD
  have HT1 := hide (kheld HQ.out.code (by omega))
  have HS := hide (show t.held.length ≤ 100000 from by rw [HG.out.ok.held_len]; have := HSUM.out; omega)
  go_enter Try.func11, Try.ntmps11
  go_wp2_with fail
  refine HT1.out.mono ?_
  rintro e w2 ⟨v1, rfl, o1, b1⟩
  have HQ2 := hide (HQ.out.later b1)
  have HO1 := hide o1
  clear b1 o1 HT1 c1 c2 c3 c0'
  have HT2 := hide (rheld13 HQ2.out.doc HG.out.ok)
  go_wp2_with fail
  refine HT2.out.mono ?_
  rintro e w3 ⟨v2, rfl, o2, b2⟩
  have HQ3 := hide (HQ2.out.later b2)
  have HO3 := hide (And.intro (HO1.out.later b2) o2)
  clear b2 o2 HT2
  have HT3 := hide (holds13s HS.out HO3.out.1 HO3.out.2)
  go_wp2_with fail
  refine HT3.out.mono ?_
  rintro e w4 ⟨rfl, b4⟩
  have HF := hide (show ∃ F' vH' vR', D13 w0 w4 g t (N + 1) F' h vH' vR' from ⟨_, _, _, ((HQ3.out.later b4).both HSUM.out).more⟩)
  clear b4 HQ3 HO3 HT3
  go_wp2
  go_ret
  exact ⟨rfl, HF.out⟩
set_option maxRecDepth 8000 in
set_option maxHeartbeats 1600000 in
theorem does13_0 (q : D13 w0 x g t N F h vH vR) (c : Lc) (h1 : ¬ c.k = 1) (h2 : ¬ c.k = 2) (h3 : ¬ c.k = 3) (h4 : ¬ c.k = 4) (h5 : ¬ c.k = 5) (h6 : ¬ c.k = 6) (h7 : ¬ c.k = 7) (h8 : ¬ c.k = 8) : Calls Try.prog 11 #[.pointer (some ⟨g, 0, none⟩), .pointer (some ⟨h, 0, none⟩), .agg (lcA c)] x fun e y => e = .returned (.bool true) ∧ ∃ F' vH' vR', D13 w0 y g t (N + 1) F' h vH' vR' := by
  have hbx : (Instr.box 38 (.agg (lcA c))).run Try.prog x = .ok (.pointer (some ⟨x.heap.size, 0, none⟩)) (x.alloc (.cells (lcA c) 38)) := rfl
  have HQ := hide (q.call c)
  have HSUM := hide q.sum
  obtain ⟨c0, c1, c2, c3⟩ := HQ.out.cells
  have e1 : (c.k == 1) = false := by rw [beq_eq_false_iff_ne]; exact h1
  have e2 : (c.k == 2) = false := by rw [beq_eq_false_iff_ne]; exact h2
  have e3 : (c.k == 3) = false := by rw [beq_eq_false_iff_ne]; exact h3
  have e4 : (c.k == 4) = false := by rw [beq_eq_false_iff_ne]; exact h4
  have e5 : (c.k == 5) = false := by rw [beq_eq_false_iff_ne]; exact h5
  have e6 : (c.k == 6) = false := by rw [beq_eq_false_iff_ne]; exact h6
  have e7 : (c.k == 7) = false := by rw [beq_eq_false_iff_ne]; exact h7
  have e8 : (c.k == 8) = false := by rw [beq_eq_false_iff_ne]; exact h8
  clear q h1 h2 h3 h4 h5 h6 h7 h8
  go_enter Try.func11, Try.ntmps11
  go_wp2
  go_ret
  exact ⟨rfl, _, _, _, (HQ.out.both HSUM.out).more⟩
/-- A call of a script, of both. -/
theorem does13 (q : D13 w0 x g t N F h vH vR) (hN : N + 1 ≤ 2900) (c : Lc) : Calls Try.prog 11 #[.pointer (some ⟨g, 0, none⟩), .pointer (some ⟨h, 0, none⟩), .agg (lcA c)] x fun e y => e = .returned (.bool true) ∧ ∃ t' F' vH' vR', D13 w0 y g t' (N + 1) F' h vH' vR' := by
  have key : ∀ t2, (Calls Try.prog 11 #[.pointer (some ⟨g, 0, none⟩), .pointer (some ⟨h, 0, none⟩), .agg (lcA c)] x fun e y => e = .returned (.bool true) ∧ ∃ F' vH' vR', D13 w0 y g t2 (N + 1) F' h vH' vR') → Calls Try.prog 11 #[.pointer (some ⟨g, 0, none⟩), .pointer (some ⟨h, 0, none⟩), .agg (lcA c)] x fun e y => e = .returned (.bool true) ∧ ∃ t' F' vH' vR', D13 w0 y g t' (N + 1) F' h vH' vR' := fun t2 z => z.mono fun e y hz => ⟨hz.1, t2, hz.2⟩
  obtain ⟨k, a, b, d⟩ := c
  by_cases h1 : k = 1
  · subst h1; exact key _ (does13_1 q hN a b d)
  by_cases h2 : k = 2
  · subst h2; exact key _ (does13_2 q hN a b d)
  by_cases h3 : k = 3
  · subst h3; exact key _ (does13_3 q hN a b d)
  by_cases h4 : k = 4
  · subst h4; exact key _ (does13_4 q hN a b d)
  by_cases h5 : k = 5
  · subst h5; exact key _ (does13_5 q hN a b d)
  by_cases h6 : k = 6
  · subst h6; exact key _ (does13_6 q hN a b d)
  by_cases h7 : k = 7
  · subst h7; exact key _ (does13_7 q hN a b d)
  by_cases h8 : k = 8
  · subst h8; exact key _ (does13_8 q hN a b d)
  exact key _ (does13_0 q ⟨k, a, b, d⟩ h1 h2 h3 h4 h5 h6 h7 h8)
end
end Go.Proofs.Ytmlbghloddiflaa
end
section
namespace Go.Proofs.Ytmlbghloddiflaa.lockPlays
open Go.RowKit
set_option linter.unusedVariables false

theorem zero13 {w0 w : World} (hb : Below w0.heap.size w0 w) {g : Nat} {F : Nat → Prop} (hk : Kt w g ⟨[], []⟩ 0 F) (hn : ∀ k, F k → w0.heap.size ≤ k) : D13 w0 (w.alloc (.cells #[.slice none 0 0, .slice none 0 0] 29)) g ⟨[], []⟩ 0 F w.heap.size (.slice none 0 0) (.slice none 0 0) := by
  have b : Below w.heap.size w (w.alloc (.cells #[.slice none 0 0, .slice none 0 0] 29)) := (Below.refl _ _).alloc (Nat.le_refl _) _
  exact ⟨hk.later b, ⟨RowAt.new w _ _, OwnR.nil _ _, OwnR.nil _ _, (fun k hk => by cases hk), hb.size, by simp⟩, hn, hb.trans (b.mono hb.size), Nat.le_refl _⟩
set_option maxRecDepth 8000 in
set_option maxHeartbeats 3200000 in
theorem walk (v : Value) (cs : List Lc) (z : Bool) (w : World) (h1 : RowsIn lcA Lc.zero 4 w v cs) (h2 : cs.length ≤ maxLen) (h3 : ∀ c ∈ cs, c.fits) (h4 : ∀ a len cap, v = .slice a len cap → len ≤ cap) :
    Calls Try.prog 3 #[v, .bool z] w fun e w' => e = .returned (.bool true) ∧ Below w.heap.size w w' := by
  have h' := h1
  obtain ⟨a, cap, rfl, -⟩ := h'
  have hs : Scr13 w (.slice a cs.length cap) cs := ⟨h1, h3, h4⟩
  have hcap := h4 _ _ _ rfl
  obtain ⟨ln, hln⟩ : ∃ ln, cs.length = ln := ⟨_, rfl⟩
  rw [hln] at hs h2 hcap ⊢
  have HS := hide hs
  have HLN := hide hln
  clear h1 h3 h4 hs hln
  go_enter Try.func3, Try.ntmps3
  go_wp2_with fail
  refine (awake13 _).mono ?_
  rintro e w1 ⟨rfl, hb1⟩
  by_cases hl : 100 < ln
  · have hl2 : (100 : Int) < (ln : Int) := by omega
    go_wp2_with fail
    refine (awake13 _).mono ?_
    rintro e w2 ⟨rfl, hb2⟩
    go_wp2
    go_ret
    exact ⟨rfl, hb1.trans (hb2.mono hb1.size)⟩
  have hl2 : ¬ (100 : Int) < (ln : Int) := by omega
  have HB1 := hide hb1
  clear hb1
  go_wp2_with fail
  refine (knew13 HB1.out).mono ?_
  rintro e w2 ⟨g, rfl, hK, -, -⟩
  cases z with
  | false =>
    have HD := hide (zero13 hK.bel hK.tab hK.new)
    clear hK HB1
    go_wp2
    go_loopw [26] (fun q wr => ∃ j : Nat, j ≤ ln ∧ q = .int .i64 j ∧ Hid (∃ t' F' vH' vR', D13 w wr g t' j F' w2.heap.size vH' vR')) (fun q _ => ln - (intOf q).toNat)
    case atStart => exact ⟨0, Nat.zero_le _, rfl, _, _, _, _, HD.out⟩
    case round =>
      obtain ⟨j, hj, rfl, HR⟩ := hrel
      obtain ⟨t', F', vH', vR', hD⟩ := HR.out
      by_cases hlt : j < ln
      · have i1 : (j : Int) < (ln : Int) := by omega
        obtain ⟨b, off, rfl, -, c, hc, hld, -, hfit⟩ := HS.out.at hD.bel (j := j) (by rw [HLN.out]; exact hlt)
        have HLD := hide hld
        have HT := hide (does13 hD (by omega) c)
        clear hld hc hfit hD HR
        go_wp2_with (with_reducible refine stop_at 34 rfl ?_)
        refine unstop10 ?_
        refine lst_load (some 34) (.agg (lcA c)) rfl rfl 38 (.tmp 33) rfl _ rfl HLD.out ?_
        simp only [Act.put, Array.setIfInBounds, List.size_toArray, List.length_cons, List.length_nil, Nat.reduceAdd, Nat.reduceLT, ↓reduceDIte, List.set_toArray, List.set_cons_succ, List.set_cons_zero]
        clear HLD
        go_wp2_with fail
        refine HT.out.mono ?_
        rintro e w4 ⟨rfl, hq⟩
        have HQ := hide hq
        clear hq HT
        go_wp2
        go_roundw
        case rel => exact ⟨j + 1, by omega, by go_num, HQ⟩
        case measure => simp [intOf]; omega
      · have i1 : ¬ (j : Int) < (ln : Int) := by omega
        have HG := hide hD.code.good
        have HT1 := hide (kheld hD.code (by omega))
        have HDD := hide hD
        have HSL := hide (show t'.held.length ≤ 100000 from by rw [HG.out.ok.held_len]; have := HDD.out.sum; omega)
        clear hD HR
        go_wp2_with fail
        refine HT1.out.mono ?_
        rintro e w5 ⟨v1, rfl, o1, b1⟩
        have HO1 := hide o1
        have HT2 := hide (rheld13 (HDD.out.doc.later b1) HG.out.ok)
        have HB5 := hide (HDD.out.bel.trans (b1.mono HDD.out.bel.size))
        clear b1 o1 HT1
        go_wp2_with fail
        refine HT2.out.mono ?_
        rintro e w6 ⟨v2, rfl, o2, b2⟩
        have HT3 := hide (holds13s HSL.out (HO1.out.later b2) o2)
        have HB6 := hide (HB5.out.trans (b2.mono HB5.out.size))
        clear b2 o2 HT2
        go_wp2_with fail
        refine HT3.out.mono ?_
        rintro e w7 ⟨rfl, b3⟩
        have HX := hide (HB6.out.trans (b3.mono HB6.out.size))
        clear b3 HT3
        go_wp2
        go_ret
        exact ⟨rfl, HX.out⟩
  | true =>
    have b1 : Below w2.heap.size w2 (w2.alloc (.cells #[.slice none 0 0, .slice none 0 0] 29)) := (Below.refl _ _).alloc (Nat.le_refl _) _
    have b2 : Below (w2.alloc (.cells #[.slice none 0 0, .slice none 0 0] 29)).heap.size (w2.alloc (.cells #[.slice none 0 0, .slice none 0 0] 29)) ((w2.alloc (.cells #[.slice none 0 0, .slice none 0 0] 29)).alloc (.cells zTab 35)) := (Below.refl _ _).alloc (Nat.le_refl _) _
    have hz := zero13 hK.bel hK.tab hK.new
    have HD := hide (show D13 w ((w2.alloc (.cells #[.slice none 0 0, .slice none 0 0] 29)).alloc (.cells zTab 35)) (w2.heap.size + 1) ⟨[], []⟩ 0 (Is (w2.heap.size + 1)) w2.heap.size (.slice none 0 0) (.slice none 0 0) from by
      have r := RowAt.new (w2.alloc (.cells #[.slice none 0 0, .slice none 0 0] 29)) 35 zTab
      rw [World.size_alloc] at r
      refine ⟨Kt.new r, hz.doc.later b2, fun k hk => ?_, hz.bel.trans (b2.mono hz.bel.size), Nat.le_refl _⟩
      rw [show k = w2.heap.size + 1 from hk]
      have := hK.bel.size
      omega)
    have hbz := build13
    generalize zTab = Z at *
    clear hK HB1 b1 b2 hz
    go_wp2_with (with_reducible refine stop_at 20 rfl ?_)
    refine unstop10 ?_
    refine lst_run (some 20) rfl rfl (.agg Z) _ (hbz _ rfl _ _) ?_
    simp only [Act.put, Array.setIfInBounds, List.size_toArray, List.length_cons, List.length_nil, Nat.reduceAdd, Nat.reduceLT, ↓reduceDIte, List.set_toArray, List.set_cons_succ, List.set_cons_zero]
    clear hbz
    go_wp2
    go_loopw [26] (fun q wr => ∃ j : Nat, j ≤ ln ∧ q = .int .i64 j ∧ Hid (∃ t' F' vH' vR', D13 w wr (w2.heap.size + 1) t' j F' w2.heap.size vH' vR')) (fun q _ => ln - (intOf q).toNat)
    case atStart => exact ⟨0, Nat.zero_le _, rfl, _, _, _, _, HD.out⟩
    case round =>
      obtain ⟨j, hj, rfl, HR⟩ := hrel
      obtain ⟨t', F', vH', vR', hD⟩ := HR.out
      by_cases hlt : j < ln
      · have i1 : (j : Int) < (ln : Int) := by omega
        obtain ⟨b, off, rfl, -, c, hc, hld, -, hfit⟩ := HS.out.at hD.bel (j := j) (by rw [HLN.out]; exact hlt)
        have HLD := hide hld
        have HT := hide (does13 hD (by omega) c)
        clear hld hc hfit hD HR
        go_wp2_with (with_reducible refine stop_at 34 rfl ?_)
        refine unstop10 ?_
        refine lst_load (some 34) (.agg (lcA c)) rfl rfl 38 (.tmp 33) rfl _ rfl HLD.out ?_
        simp only [Act.put, Array.setIfInBounds, List.size_toArray, List.length_cons, List.length_nil, Nat.reduceAdd, Nat.reduceLT, ↓reduceDIte, List.set_toArray, List.set_cons_succ, List.set_cons_zero]
        clear HLD
        go_wp2_with fail
        refine HT.out.mono ?_
        rintro e w4 ⟨rfl, hq⟩
        have HQ := hide hq
        clear hq HT
        go_wp2
        go_roundw
        case rel => exact ⟨j + 1, by omega, by go_num, HQ⟩
        case measure => simp [intOf]; omega
      · have i1 : ¬ (j : Int) < (ln : Int) := by omega
        have HG := hide hD.code.good
        have HT1 := hide (kheld hD.code (by omega))
        have HDD := hide hD
        have HSL := hide (show t'.held.length ≤ 100000 from by rw [HG.out.ok.held_len]; have := HDD.out.sum; omega)
        clear hD HR
        go_wp2_with fail
        refine HT1.out.mono ?_
        rintro e w5 ⟨v1, rfl, o1, b1⟩
        have HO1 := hide o1
        have HT2 := hide (rheld13 (HDD.out.doc.later b1) HG.out.ok)
        have HB5 := hide (HDD.out.bel.trans (b1.mono HDD.out.bel.size))
        clear b1 o1 HT1
        go_wp2_with fail
        refine HT2.out.mono ?_
        rintro e w6 ⟨v2, rfl, o2, b2⟩
        have HT3 := hide (holds13s HSL.out (HO1.out.later b2) o2)
        have HB6 := hide (HB5.out.trans (b2.mono HB5.out.size))
        clear b2 o2 HT2
        go_wp2_with fail
        refine HT3.out.mono ?_
        rintro e w7 ⟨rfl, b3⟩
        have HX := hide (HB6.out.trans (b3.mono HB6.out.size))
        clear b3 HT3
        go_wp2
        go_ret
        exact ⟨rfl, HX.out⟩
end Go.Proofs.Ytmlbghloddiflaa.lockPlays
end
