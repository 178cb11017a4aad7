/-
  The contract of a place's barring: the owners whose locks keep a wanted one out.
-/
import Derived.Test.YtmlbghloddiflaaLkLeave
namespace Go.Proofs.Ytmlbghloddiflaa
open Go.RowKit
set_option linter.unusedVariables false

def intsV (l : List Int) : List Value := l.map (.int .i64 ·)
theorem intsV_snoc (l : List Int) (x : Int) : intsV (l ++ [x]) = intsV l ++ [.int .i64 x] := by simp [intsV]
theorem intsV_len (l : List Int) : (intsV l).length = l.length := by simp [intsV]
theorem intsV_get (l : List Int) (j : Nat) (h : j < l.length) : (intsV l)[j]? = some (.int .i64 (l.getD j 0)) := by
  simp [intsV, List.getD, List.getElem?_eq_getElem h]
/-- A list of numbers in memory of one's own. -/
def OwnI (B : Nat) (y : World) (v : Value) (l : List Int) : Prop := y.ownsRow B 3 1 v l.length (intsV l)
theorem infoI13 : (Try.prog.info? 3).map (fun i => (i.zero, i.size, i.bytes)) = some (some (.int .i64 0), 1, 8) := by kernel_rfl
theorem OwnI.nil (B : Nat) (y : World) : OwnI B y (.slice none 0 0) [] := World.ownsRow_nil _ _ _ _
theorem OwnI.later {B : Nat} {y z : World} {v : Value} {l : List Int} (h : OwnI B y v l) (q : Below y.heap.size y z) : OwnI B z v l := by
  obtain ⟨h1, h2⟩ := h
  refine ⟨h1, h2.imp id ?_⟩
  rintro ⟨g, cap, cur, a, b, c, d⟩
  exact ⟨g, cap, cur, a, b, RowAt.later (show RowAt y g _ cur from c) q, d⟩
theorem OwnI.turn {F : Nat → Prop} {B : Nat} {y z : World} {v : Value} {l : List Int} (h : OwnI B y v l) (q : Tn F y z) (hF : ∀ k, B ≤ k → k < y.heap.size → ¬ F k) : OwnI B z v l := by
  obtain ⟨h1, h2⟩ := h
  refine ⟨h1, h2.imp id ?_⟩
  rintro ⟨g, cap, cur, a, b, c, d⟩
  have c' : RowAt y g _ cur := c
  exact ⟨g, cap, cur, a, b, q.row c' (hF g b c'.lt), d⟩
theorem OwnI.weak {B C : Nat} {y : World} {v : Value} {l : List Int} (h : OwnI B y v l) (hc : C ≤ B) : OwnI C y v l := by
  obtain ⟨h1, h2⟩ := h
  refine ⟨h1, h2.imp id ?_⟩
  rintro ⟨g, cap, cur, a, b, c, d⟩
  exact ⟨g, cap, cur, a, Nat.le_trans hc b, c, d⟩
/-- One number more. -/
theorem OwnI.push {B : Nat} {y : World} {v : Value} {l : List Int} (h : OwnI B y v l) (n : Int) (g c : Nat) (hg : y.cell? ⟨g, 0, none⟩ = some (.int .i64 n)) (hB : B ≤ y.heap.size) (hl : l.length ≤ 100000000) (ty : TypeId) :
    ∃ v' y', (Builtin.append_ #[50, 50] ty #[v, .slice (some ⟨g, 0, none⟩) 1 c]).run Try.prog y = .ok v' y' ∧ OwnI B y' v' (l ++ [n]) ∧ Tn (fun k => v.ownBlock = some k) y y' := by
  obtain ⟨i, hi0, hi1⟩ := Option.map_eq_some_iff.1 infoI13
  simp only [Prod.mk.injEq] at hi1
  obtain ⟨v', y', r1, r2, r3, _⟩ := run_append_own (P := Try.prog) y B 50 ty 3 i (.int .i64 0) 1 8 Try.underlying50 hi0 hi1.1 hi1.2.1 hi1.2.2 rfl (by omega) v l.length (intsV l) h ⟨g, 0, none⟩ 1 c [.int .i64 n] rfl (fun j u hu => by
    match j with
    | 0 => simp at hu; subst hu; rw [Addr.add_lit]; exact hg
    | j + 1 => simp at hu) (fun u hu => by rw [List.mem_singleton.1 hu]; rfl) (by unfold maxLen; omega) (by omega) hB
  refine ⟨v', y', r1, ?_, Tn.of_grown r3 (fun k hk => hk)⟩
  unfold OwnI
  rw [intsV_snoc, List.length_append]
  exact r2
theorem OwnI.block {B : Nat} {y : World} {v : Value} {l : List Int} (h : OwnI B y v l) {k : Nat} (hk : v.ownBlock = some k) : B ≤ k ∧ ∃ cs, RowAt y k 3 cs := by
  rcases h.2 with ⟨rfl, _⟩ | ⟨g', cap, cur, rfl, hb, hr, _⟩
  · cases hk
  · injection hk with hk
    subst hk
    exact ⟨hb, cur, hr⟩
theorem OwnI.not {B : Nat} {y : World} {v : Value} {l : List Int} (h : OwnI B y v l) {k : Nat} {t : TypeId} {cs : Array Value} (hr : RowAt y k t cs) (ht : t ≠ 3) : ¬ v.ownBlock = some k := fun e => by
  obtain ⟨_, cs', h2⟩ := h.block e
  exact ht (row_kind hr h2)
section
variable {w : World} {g : Nat} {p : Pt} {S : Nat → Sl} {x : Nat}
theorem take_snoc (l : List Hd) (j : Nat) (m : Hd) (h : l[j]? = some m) : l.take (j + 1) = l.take j ++ [m] := by
  obtain ⟨h1, rfl⟩ := List.getElem?_eq_some_iff.1 h
  rw [List.take_succ_eq_append_getElem h1]
theorem bar_snoc (l : List Hd) (m k : Hd) : barL (l ++ [m]) k = if bars m k = true then barL l k ++ [m.w] else barL l k := by
  unfold barL
  rw [List.filter_append, List.map_append]
  by_cases h : bars m k = true
  · rw [if_pos h]; simp [h]
  · rw [if_neg h]; simp [h]
theorem bar_len (l : List Hd) (k : Hd) : (barL l k).length ≤ l.length := by
  unfold barL
  rw [List.length_map]
  exact List.length_filter_le _ _
set_option maxRecDepth 8000 in
set_option maxHeartbeats 3200000 in
theorem barring13 (h : TAt w g p S) (hx : x < 288) (k : Hd) (hl : (p.had x).length ≤ 1000000) :
    Calls Try.prog 41 #[.pointer (some ⟨g, x * 2, none⟩), .agg (hdA k)] w fun e w' => ∃ v, e = .returned v ∧ OwnI w.heap.size w' v (barL (p.had x) k) ∧ Below w.heap.size w w' := by
  have H := hide h
  have HC := hide (fun y (hy : CB w g p S w.heap.size (hdA k) y) => hy.1.had hx)
  have hcap := (h.hadB hx).cap
  have H0 := hide (CB.new h (hdA k))
  have HL := hide (fun y (hy : CB w g p S w.heap.size (hdA k) y) => load_box hy.2.1)
  have HBR := hide (fun (m : Hd) (y : World) => bars13 m k y)
  have c0 := HC.out _ (CB.new h (hdA k))
  clear h
  obtain ⟨n, hn⟩ : ∃ n, n = (p.had x).length := ⟨_, rfl⟩
  have HN := hide hn
  rw [← hn] at hcap c0 hl
  clear hn
  obtain ⟨ad, had⟩ : ∃ ad, ad = adr (S (x * 2)).b := ⟨_, rfl⟩
  have HAD := hide had
  unfold slV at c0
  rw [← had] at c0
  clear had
  generalize (S (x * 2)).c = c at *
  obtain ⟨A, hA⟩ : ∃ A, A = hdA k := ⟨_, rfl⟩
  have HA := hide hA
  rw [← hA] at H0 HL HBR c0 HC ⊢
  clear hA HC
  go_enter Try.func41, Try.ntmps41
  go_wp2
  clear c0
  go_loopw [5, 13] (fun v q wr => ∃ j : Nat, j ≤ n ∧ q = .int .i64 j ∧ Hid (CB w g p S w.heap.size A wr ∧ OwnI w.heap.size wr v (barL ((p.had x).take j) k))) (fun _ q _ => n - (intOf q).toNat)
  case atStart => exact ⟨0, Nat.zero_le _, rfl, ⟨H0.out, OwnI.nil _ _⟩⟩
  case round =>
    obtain ⟨j, hj, rfl, HR⟩ := hrel
    by_cases hlt : j < n
    · have i1 : (j : Int) < n := by omega
      obtain ⟨m, hmm⟩ : ∃ m, (p.had x)[j]? = some m := ⟨_, List.getElem?_eq_getElem (by have := HN.out; omega)⟩
      obtain ⟨b, hb0, hbl, c0, c1, c2⟩ := (HR.out.1.1.hadB hx).at hmm
      have hmeq := HAD.out
      rw [hb0] at hmeq
      have hmeq2 : ad = some ⟨b, 0, none⟩ := hmeq
      subst hmeq2
      have HLD := hide (load_hold c0 c1 c2)
      have HT := hide (take_snoc _ _ _ hmm)
      clear hmm hmeq hb0 c0 c1 c2 hbl
      go_wp2_with (with_reducible refine stop_at 16 rfl ?_)
      refine unstop10 ?_
      refine lst_load (some 16) (.agg (hdA m)) rfl rfl 46 (.tmp 15) rfl _ rfl (HLD.out) ?_
      simp only [Act.put, Array.setIfInBounds, List.size_toArray, List.length_cons, List.length_nil, Nat.reduceAdd, Nat.reduceLT, ↓reduceDIte, List.set_toArray, List.set_cons_succ, List.set_cons_zero]
      refine lst_run (some 7) rfl rfl (.pointer (some ⟨wr.heap.size, 0, none⟩)) (wr.alloc (.cells zeroH 46)) (by go_simp; rfl) ?_
      simp only [Act.put, Array.setIfInBounds, List.size_toArray, List.length_cons, List.length_nil, Nat.reduceAdd, Nat.reduceLT, ↓reduceDIte, List.set_toArray, List.set_cons_succ, List.set_cons_zero]
      refine wpList_store_part rfl 46 (.tmp 7) (.tmp 16) rfl wr.heap.size 0 46 zeroH (hdA m) rfl rfl (RowAt.new wr _ _) infoHs (by show 0 + 3 ≤ 3; omega) (hdA_one m) ?_
      intro w2 h21 h22
      rw [partA_all zeroH (hdA m) rfl] at h21
      have b2 : Below wr.heap.size wr w2 := h22.below ((Below.refl wr.heap.size wr).alloc (Nat.le_refl _) (.cells zeroH 46)) (Nat.le_refl _)
      simp only [Act.put]
      have HR2 := hide (And.intro (HR.out.1.later b2) (And.intro (HR.out.2.later b2) h21))
      have d0 := h21.cell 0 (.int .i64 m.w) rfl
      have d1 := h21.cell 1 (.int .i64 m.x) rfl
      have d2 := h21.cell 2 (.int .i64 m.m) rfl
      have hA3 : A = #[.int .i64 k.w, .int .i64 k.x, .int .i64 k.m] := HA.out
      have e0 := HR2.out.1.2.1.cell 0 (.int .i64 k.w) (by rw [HA.out]; rfl)
      have e1 := HR2.out.1.2.1.cell 1 (.int .i64 k.x) (by rw [HA.out]; rfl)
      have e2 := HR2.out.1.2.1.cell 2 (.int .i64 k.m) (by rw [HA.out]; rfl)
      have HB1 := hide (HBR.out m w2)
      rw [HA.out] at HB1
      unfold hdA at HB1
      obtain ⟨gv, hgv⟩ : ∃ gv, gv = wr.heap.size := ⟨_, rfl⟩
      have HGV := hide (And.intro hgv b2.size)
      rw [← hgv] at d0 d1 d2 ⊢
      clear h21 h22 b2 HLD hgv hA3
      cases hq : bars m k with
      | false =>
        rw [hq] at HB1
        have HQ := hide hq
        clear hq
        go_wp2_with fail
        refine HB1.out.mono ?_
        rintro e w4 ⟨rfl, hb4⟩
        have HR4 := hide (And.intro (HR2.out.1.later hb4) (HR2.out.2.1.later hb4))
        clear d0 d1 d2 e0 e1 e2 HB1 hb4
        go_wp2
        go_roundw
        case rel => exact ⟨j + 1, by omega, by go_num, ⟨HR4.out.1, by rw [HT.out, bar_snoc, if_neg (by rw [HQ.out]; simp)]; exact HR4.out.2⟩⟩
        case measure => simp [intOf]; omega
      | true =>
        rw [hq] at HB1
        have HQ := hide hq
        clear hq
        go_wp2_with fail
        refine HB1.out.mono ?_
        rintro e w4 ⟨rfl, hb4⟩
        have hgv2 : RowAt w4 gv 46 (hdA m) := by
          have h := HR2.out.2.2
          rw [← HGV.out.1] at h
          exact h.later hb4
        have b5 : Below w4.heap.size w4 (w4.alloc (.cells #[.int .i64 m.w] 3)) := (Below.refl w4.heap.size w4).alloc (Nat.le_refl _) _
        have hcell : (w4.alloc (.cells #[.int .i64 m.w] 3)).cell? ⟨w4.heap.size, 0, none⟩ = some (.int .i64 m.w) := (RowAt.new w4 3 #[.int .i64 m.w]).cell 0 _ rfl
        have hO5 := (HR2.out.2.1.later hb4).later b5
        have hblen := bar_len ((p.had x).take j) k
        rw [List.length_take] at hblen
        obtain ⟨v', w6, ha, hO6, hT6⟩ := hO5.push m.w w4.heap.size 1 hcell (Nat.le_trans HR2.out.1.2.2.size (Nat.le_trans hb4.size b5.size)) (by omega) 50
        have f0 := hgv2.cell 0 (.int .i64 m.w) rfl
        have hCB5 := (HR2.out.1.later hb4).later b5
        have HR4 := hide (show CB w g p S w.heap.size A w6 ∧ OwnI w.heap.size w6 v' (barL ((p.had x).take j) k ++ [m.w]) from ⟨⟨hCB5.1.turn hT6 (fun q hq e => by
          have h1 := (hO5.block e).1
          have h2 := H.out.lt hq
          omega), hT6.row hCB5.2.1 (hO5.not hCB5.2.1 (by decide)), hCB5.2.2.trans (hT6.below (fun q hq => (hO5.block hq).1) hCB5.2.2.size)⟩, hO6⟩)
        clear d0 d1 d2 e0 e1 e2 HB1 hb4 hgv2 b5 hcell hO5 hblen hO6 hT6 hCB5
        go_wp2_with (at_builtin; refine Lib.wpList_append_run _ rfl _ _ _ _ rfl _ _ rfl rfl _ _ ha ?_)
        go_roundw
        case rel => exact ⟨j + 1, by omega, by go_num, ⟨HR4.out.1, by rw [HT.out, bar_snoc, if_pos HQ.out]; exact HR4.out.2⟩⟩
        case measure => simp [intOf]; omega
    · have i1 : ¬ (j : Int) < n := by omega
      obtain rfl : j = n := by omega
      go_wp2
      go_ret
      refine ⟨_, rfl, ?_, HR.out.1.2.2⟩
      have := HR.out.2
      rw [HN.out, List.take_length] at this
      exact this
end
end Go.Proofs.Ytmlbghloddiflaa
