/-
  The code's directory and the document's side by side; the contract of the statements' does. (gen14/does.py)
-/
import Derived.Test.YtpbdachbefafiaaOwPlay
import Derived.Test.YtpbdachbefafiaaOwRef3
import Derived.Deep.RegionHeld3
namespace Go.Proofs.Ytpbdachbefafiaa
open Go.RowKit
set_option linter.unusedVariables false
set_option maxRecDepth 4000 in
set_option maxHeartbeats 800000 in
theorem ints14 {w : World} {B C : Nat} {u v : Value} (l : List Int) (hl : l.length ≤ 32) (h1 : w.ownsRow B 3 1 u l.length (intsV l)) (h2 : w.ownsRow C 3 1 v l.length (intsV l)) : Calls Try.prog 25 #[u, v] w fun e w' => e = .returned (.bool true) ∧ Below w.heap.size w w' := by
  obtain ⟨a, c, rfl, hc, ha'⟩ := ow_shape h1
  have ha : 0 < l.length → ∃ b, a = some ⟨b, 0, none⟩ := fun q => by obtain ⟨b, e, _⟩ := ha' q; exact ⟨b, e⟩
  obtain ⟨a2, c2, rfl, hc2, ha2'⟩ := ow_shape h2
  have ha2 : 0 < l.length → ∃ b, a2 = some ⟨b, 0, none⟩ := fun q => by obtain ⟨b, e, _⟩ := ha2' q; exact ⟨b, e⟩
  clear ha' ha2'
  obtain ⟨n, hn⟩ : ∃ n, l.length = n := ⟨_, rfl⟩
  rw [hn] at h1 h2 hc hc2 ha ha2 hl ⊢
  have HL := hide hn
  have H1 := hide h1
  have H2 := hide h2
  have HA := hide (And.intro ha ha2)
  clear h1 h2 hn ha ha2
  go_enter Try.func25, Try.ntmps25
  go_wp2
  go_loopw [13] (fun v wr => ∃ j : Nat, j ≤ n ∧ v = .int .i64 j ∧ Hid (Below w.heap.size w wr)) (fun v _ => n - (intOf v).toNat)
  case atStart => exact ⟨0, Nat.zero_le _, rfl, Below.refl _ _⟩
  case round =>
    obtain ⟨j, hj, rfl, HB⟩ := hrel
    by_cases hlt : j < n
    · have i1 : (j : Int) < n := by omega
      obtain ⟨b1, rfl⟩ := HA.out.1 (by omega)
      obtain ⟨b2, rfl⟩ := HA.out.2 (by omega)
      have c0 := (ow_later H1.out HB.out).cellAt j (by omega)
      have d0 := (ow_later H2.out HB.out).cellAt j (by omega)
      rw [intsV_get _ _ (by rw [HL.out]; exact hlt)] at c0 d0
      generalize l.getD j 0 = z at *
      go_wp2_with fail
      go_quiet (fail)
      go_wp2
      go_roundw
      case rel => exact ⟨j + 1, by omega, by go_num, below_dn HB.out nq⟩
      case measure => simp [intOf]; omega
    · have i1 : ¬ (j : Int) < n := by omega
      go_wp2
      go_ret
      exact ⟨rfl, HB.out⟩

/-- Both directories, and a call in its block. -/
structure Q14 (w0 w : World) (g gr h hr : Nat) (d e : Dr) (ob : Nat) (c : Od) : Prop where
  code : DC w g gr d
  doc : DD w h hr e
  row : RowAt w ob 30 (odA c)
  new : w0.heap.size ≤ g ∧ w0.heap.size ≤ gr ∧ w0.heap.size ≤ h ∧ w0.heap.size ≤ hr
  bel : Below w0.heap.size w0 w
section
variable {w0 w x : World} {g gr h hr ob : Nat} {d e d' : Dr} {c : Od}
theorem Q14.later (q : Q14 w0 w g gr h hr d e ob c) (b : Below w.heap.size w x) : Q14 w0 x g gr h hr d e ob c := ⟨q.code.later b, q.doc.later b, q.row.later b, q.new, q.bel.trans (b.mono q.bel.size)⟩
theorem Q14.drewN (q : Q14 w0 w g gr h hr d e ob c) (n : Nat) : Q14 w0 (w.drewN n) g gr h hr d e ob c := q.later (below_dn (Below.refl _ _) n)
theorem Q14.codes (q : Q14 w0 w g gr h hr d e ob c) (a : DC x g gr d') (t : Tn (Is gr) w x) : Q14 w0 x g gr h hr d' e ob c := by
  obtain ⟨_, _, r1, r2⟩ := q.code.kinds
  obtain ⟨_, _, r3, r4⟩ := q.doc.kinds
  refine ⟨a, q.doc.turn t (fun k => ?_) (fun k => ?_), t.row q.row (fun k => ?_), q.new, q.bel.trans (t.below (fun k hk => by rw [show k = gr from hk]; exact q.new.2.1) q.bel.size)⟩
  · have k' : h = gr := k
    subst k'
    exact absurd (row_kind r3 r2) (by decide)
  · have k' : hr = gr := k
    subst k'
    exact absurd (row_kind r4 r2) (by decide)
  · have k' : ob = gr := k
    subst k'
    exact absurd (row_kind q.row r2) (by decide)
theorem Q14.docs (q : Q14 w0 w g gr h hr d e ob c) (a : DD x h hr d') (t : Tn (Is hr) w x) : Q14 w0 x g gr h hr d d' ob c := by
  obtain ⟨_, _, r1, r2⟩ := q.code.kinds
  obtain ⟨_, _, r3, r4⟩ := q.doc.kinds
  refine ⟨q.code.turn t (fun k => ?_) (fun k => ?_), a, t.row q.row (fun k => ?_), q.new, q.bel.trans (t.below (fun k hk => by rw [show k = hr from hk]; exact q.new.2.2.2) q.bel.size)⟩
  · have k' : g = hr := k
    subst k'
    exact absurd (row_kind r1 r4) (by decide)
  · have k' : gr = hr := k
    subst k'
    exact absurd (row_kind r2 r4) (by decide)
  · have k' : ob = hr := k
    subst k'
    exact absurd (row_kind q.row r4) (by decide)
theorem Q14.cells (q : Q14 w0 w g gr h hr d e ob c) : w.cell? ⟨ob, 0, none⟩ = some (.int .i64 c.k) ∧ w.cell? ⟨ob, 1, none⟩ = some (.int .i64 c.p) ∧ w.cell? ⟨ob, 2, none⟩ = some (.int .i64 c.a) ∧ w.cell? ⟨ob, 3, none⟩ = some (.int .i64 c.b) := ⟨q.row.cell 0 _ rfl, q.row.cell 1 _ rfl, q.row.cell 2 _ rfl, q.row.cell 3 _ rfl⟩
/-- Both, kept by a walk. -/
structure D14 (w0 w : World) (g gr h hr : Nat) (d : Dr) : Prop where
  code : DC w g gr d
  doc : DD w h hr d
  new : w0.heap.size ≤ g ∧ w0.heap.size ≤ gr ∧ w0.heap.size ≤ h ∧ w0.heap.size ≤ hr
  bel : Below w0.heap.size w0 w
  ok : d.ok
theorem D14.call (q : D14 w0 w g gr h hr d) (c : Od) : Q14 w0 (w.alloc (.cells (odA c) 30)) g gr h hr d d w.heap.size c := by
  have b : Below w.heap.size w (w.alloc (.cells (odA c) 30)) := (Below.refl _ _).alloc (Nat.le_refl _) _
  exact ⟨q.code.later b, q.doc.later b, RowAt.new w _ _, q.new, q.bel.trans (b.mono q.bel.size)⟩
theorem Q14.both (q : Q14 w0 w g gr h hr d d ob c) (k : d.ok) : D14 w0 w g gr h hr d := ⟨q.code, q.doc, q.new, q.bel, k⟩
end
section
variable {w0 x : World} {g gr h hr : Nat} {d : Dr}
set_option maxRecDepth 8000 in
set_option maxHeartbeats 3200000 in
theorem does14_1 (q : D14 w0 x g gr h hr d) (p a b : Int) : Calls Try.prog 11 #[.pointer (some ⟨g, 0, none⟩), .pointer (some ⟨h, 0, none⟩), .agg (odA ⟨1, p, a, b⟩)] x fun e y => e = .returned (.bool true) ∧ D14 w0 y g gr h hr (d.ask p a) := by
  have hbx : (Instr.box 30 (.agg (odA ⟨1, p, a, b⟩))).run Try.prog x = .ok (.pointer (some ⟨x.heap.size, 0, none⟩)) (x.alloc (.cells (odA ⟨1, p, a, b⟩) 30)) := rfl
  have HO := hide q.ok
  have HQ := hide (q.call ⟨1, p, a, b⟩)
  obtain ⟨c0, c1, c2, c3⟩ := HQ.out.cells
  have c0' : (x.alloc (.cells (odA ⟨1, p, a, b⟩) 30)).cell? ⟨x.heap.size, 0, none⟩ = some (.int .i64 1) := c0
  clear q c0
  obtain ⟨N, hN⟩ : ∃ N, d.askN p a = N := ⟨_, rfl⟩
  obtain ⟨E, hE⟩ : ∃ E, d.askE p a = E := ⟨_, rfl⟩
  have HNE := hide (And.intro hN hE)
  clear hN hE
  go_enter Try.func11, Try.ntmps11
  go_wp2_with fail
  have T := ask14 p a HQ.out.code
  rw [HNE.out.1, HNE.out.2] at T
  refine T.mono ?_
  clear T
  rintro e w2 ⟨rfl, q1, t1⟩
  have HQ2 := hide (HQ.out.codes q1 t1)
  clear q1 t1 c1 c2 c3 c0' HQ
  obtain ⟨-, c1, c2, c3⟩ := HQ2.out.cells
  go_wp2_with fail
  have T := rask14 p a HQ2.out.doc
  rw [HNE.out.1, HNE.out.2] at T
  refine T.mono ?_
  clear T HNE
  rintro e w3 ⟨rfl, q1, t1⟩
  have HQ3 := hide ((HQ2.out.docs q1 t1).both (HO.out.ask p a))
  clear q1 t1 c1 c2 c3 HQ2
  go_wp2
  go_ret
  exact ⟨rfl, HQ3.out⟩
set_option maxRecDepth 8000 in
set_option maxHeartbeats 3200000 in
theorem does14_2 (q : D14 w0 x g gr h hr d) (p a b : Int) : Calls Try.prog 11 #[.pointer (some ⟨g, 0, none⟩), .pointer (some ⟨h, 0, none⟩), .agg (odA ⟨2, p, a, b⟩)] x fun e y => e = .returned (.bool true) ∧ D14 w0 y g gr h hr (d.sh p a b) := by
  have hbx : (Instr.box 30 (.agg (odA ⟨2, p, a, b⟩))).run Try.prog x = .ok (.pointer (some ⟨x.heap.size, 0, none⟩)) (x.alloc (.cells (odA ⟨2, p, a, b⟩) 30)) := rfl
  have HO := hide q.ok
  have HQ := hide ((q.call ⟨2, p, a, b⟩).drewN 1)
  have HD := hide (q.call ⟨2, p, a, b⟩)
  obtain ⟨c0, c1, c2, c3⟩ := HD.out.cells
  have c0' : (x.alloc (.cells (odA ⟨2, p, a, b⟩) 30)).cell? ⟨x.heap.size, 0, none⟩ = some (.int .i64 2) := c0
  clear q c0 HD
  obtain ⟨E, hE⟩ : ∃ E, d.shE p a b = E := ⟨_, rfl⟩
  have T1 := ship14 p a b HQ.out.code
  rw [hE] at T1
  have HT1 := hide T1
  have HE := hide hE
  clear hE T1
  go_enter Try.func11, Try.ntmps11
  go_wp2_with fail
  go_region_held3 (fun y => y.cell? ⟨x.heap.size, 1, none⟩ = some (.int .i64 p) ∧ y.cell? ⟨x.heap.size, 2, none⟩ = some (.int .i64 a) ∧ y.cell? ⟨x.heap.size, 3, none⟩ = some (.int .i64 b)) (go_keep)
    (first
      | (go_at_call 19; refine HT1.out.mono ?_; rintro e w2 ⟨rfl, q1, t1⟩; have HQ2 := hide (HQ.out.codes q1 t1); clear q1 t1; obtain ⟨-, m1, m2, m3⟩ := HQ2.out.cells; have T2 := rship14 p a b HQ2.out.doc; rw [HE.out] at T2; have HT2 := hide T2; clear T2)
      | (go_at_call 22; refine HT2.out.mono ?_; rintro e w3 ⟨rfl, q2, t2⟩; have HQ3 := hide (HQ2.out.docs q2 t2); clear q2 t2; obtain ⟨-, n1, n2, n3⟩ := HQ3.out.cells))
  have HF := hide (HQ3.out.both (HO.out.sh p a b))
  clear HQ3 m1 m2 m3 n1 n2 n3 HQ2 HT2
  go_wp2
  go_ret
  exact ⟨rfl, HF.out⟩
set_option maxRecDepth 8000 in
set_option maxHeartbeats 3200000 in
theorem does14_3 (q : D14 w0 x g gr h hr d) (p a b : Int) : Calls Try.prog 11 #[.pointer (some ⟨g, 0, none⟩), .pointer (some ⟨h, 0, none⟩), .agg (odA ⟨3, p, a, b⟩)] x fun e y => e = .returned (.bool true) ∧ D14 w0 y g gr h hr (d.la p a) := by
  have hbx : (Instr.box 30 (.agg (odA ⟨3, p, a, b⟩))).run Try.prog x = .ok (.pointer (some ⟨x.heap.size, 0, none⟩)) (x.alloc (.cells (odA ⟨3, p, a, b⟩) 30)) := rfl
  have HO := hide q.ok
  have HQ := hide ((q.call ⟨3, p, a, b⟩).drewN 1)
  have HD := hide (q.call ⟨3, p, a, b⟩)
  obtain ⟨c0, c1, c2, c3⟩ := HD.out.cells
  have c0' : (x.alloc (.cells (odA ⟨3, p, a, b⟩) 30)).cell? ⟨x.heap.size, 0, none⟩ = some (.int .i64 3) := c0
  clear q c0 HD
  obtain ⟨E, hE⟩ : ∃ E, d.laE p a = E := ⟨_, rfl⟩
  have T1 := land14 p a HQ.out.code
  rw [hE] at T1
  have HT1 := hide T1
  have HE := hide hE
  clear hE T1
  go_enter Try.func11, Try.ntmps11
  go_wp2_with fail
  go_region_held3 (fun y => y.cell? ⟨x.heap.size, 1, none⟩ = some (.int .i64 p) ∧ y.cell? ⟨x.heap.size, 2, none⟩ = some (.int .i64 a)) (go_keep)
    (first
      | (go_at_call 18; refine HT1.out.mono ?_; rintro e w2 ⟨rfl, q1, t1⟩; have HQ2 := hide (HQ.out.codes q1 t1); clear q1 t1; obtain ⟨-, m1, m2, m3⟩ := HQ2.out.cells; have T2 := rland14 p a HQ2.out.doc; rw [HE.out] at T2; have HT2 := hide T2; clear T2)
      | (go_at_call 23; refine HT2.out.mono ?_; rintro e w3 ⟨rfl, q2, t2⟩; have HQ3 := hide (HQ2.out.docs q2 t2); clear q2 t2; obtain ⟨-, n1, n2, n3⟩ := HQ3.out.cells))
  have HF := hide (HQ3.out.both (HO.out.la p a))
  clear HQ3 m1 m2 m3 n1 n2 n3 HQ2 HT2
  go_wp2
  go_ret
  exact ⟨rfl, HF.out⟩
set_option maxRecDepth 8000 in
set_option maxHeartbeats 3200000 in
theorem does14_4 (q : D14 w0 x g gr h hr d) (p a b : Int) : Calls Try.prog 11 #[.pointer (some ⟨g, 0, none⟩), .pointer (some ⟨h, 0, none⟩), .agg (odA ⟨4, p, a, b⟩)] x fun e y => e = .returned (.bool true) ∧ D14 w0 y g gr h hr (d.le p a) := by
  have hbx : (Instr.box 30 (.agg (odA ⟨4, p, a, b⟩))).run Try.prog x = .ok (.pointer (some ⟨x.heap.size, 0, none⟩)) (x.alloc (.cells (odA ⟨4, p, a, b⟩) 30)) := rfl
  have HO := hide q.ok
  have HQ := hide ((q.call ⟨4, p, a, b⟩).drewN 1)
  have HD := hide (q.call ⟨4, p, a, b⟩)
  obtain ⟨c0, c1, c2, c3⟩ := HD.out.cells
  have c0' : (x.alloc (.cells (odA ⟨4, p, a, b⟩) 30)).cell? ⟨x.heap.size, 0, none⟩ = some (.int .i64 4) := c0
  clear q c0 HD
  obtain ⟨E, hE⟩ : ∃ E, d.leE p a = E := ⟨_, rfl⟩
  have T1 := leave14 p a HQ.out.code
  rw [hE] at T1
  have HT1 := hide T1
  have HE := hide hE
  clear hE T1
  go_enter Try.func11, Try.ntmps11
  go_wp2_with fail
  go_region_held3 (fun y => y.cell? ⟨x.heap.size, 1, none⟩ = some (.int .i64 p) ∧ y.cell? ⟨x.heap.size, 2, none⟩ = some (.int .i64 a)) (go_keep)
    (first
      | (go_at_call 20; refine HT1.out.mono ?_; rintro e w2 ⟨rfl, q1, t1⟩; have HQ2 := hide (HQ.out.codes q1 t1); clear q1 t1; obtain ⟨-, m1, m2, m3⟩ := HQ2.out.cells; have T2 := rleave14 p a HQ2.out.doc; rw [HE.out] at T2; have HT2 := hide T2; clear T2)
      | (go_at_call 24; refine HT2.out.mono ?_; rintro e w3 ⟨rfl, q2, t2⟩; have HQ3 := hide (HQ2.out.docs q2 t2); clear q2 t2; obtain ⟨-, n1, n2, n3⟩ := HQ3.out.cells))
  have HF := hide (HQ3.out.both (HO.out.le p a))
  clear HQ3 m1 m2 m3 n1 n2 n3 HQ2 HT2
  go_wp2
  go_ret
  exact ⟨rfl, HF.out⟩
set_option maxRecDepth 8000 in
set_option maxHeartbeats 3200000 in
theorem does14_6 (q : D14 w0 x g gr h hr d) (p a b : Int) : Calls Try.prog 11 #[.pointer (some ⟨g, 0, none⟩), .pointer (some ⟨h, 0, none⟩), .agg (odA ⟨6, p, a, b⟩)] x fun e y => e = .returned (.bool true) ∧ D14 w0 y g gr h hr (d.he p) := by
  have hbx : (Instr.box 30 (.agg (odA ⟨6, p, a, b⟩))).run Try.prog x = .ok (.pointer (some ⟨x.heap.size, 0, none⟩)) (x.alloc (.cells (odA ⟨6, p, a, b⟩) 30)) := rfl
  have HO := hide q.ok
  have HQ := hide ((q.call ⟨6, p, a, b⟩).drewN 1)
  have HD := hide (q.call ⟨6, p, a, b⟩)
  obtain ⟨c0, c1, c2, c3⟩ := HD.out.cells
  have c0' : (x.alloc (.cells (odA ⟨6, p, a, b⟩) 30)).cell? ⟨x.heap.size, 0, none⟩ = some (.int .i64 6) := c0
  clear q c0 HD
  obtain ⟨E, hE⟩ : ∃ E, d.heE p = E := ⟨_, rfl⟩
  have T1 := heal14 p HQ.out.code
  rw [hE] at T1
  have HT1 := hide T1
  have HE := hide hE
  clear hE T1
  go_enter Try.func11, Try.ntmps11
  go_wp2_with fail
  go_region_held3 (fun y => y.cell? ⟨x.heap.size, 1, none⟩ = some (.int .i64 p)) (go_keep)
    (first
      | (go_at_call 16; refine HT1.out.mono ?_; rintro e w2 ⟨rfl, q1, t1⟩; have HQ2 := hide (HQ.out.codes q1 t1); clear q1 t1; obtain ⟨-, m1, m2, m3⟩ := HQ2.out.cells; have T2 := rheal14 HO.out p HQ2.out.doc; rw [HE.out] at T2; have HT2 := hide T2; clear T2)
      | (go_at_call 27; refine HT2.out.mono ?_; rintro e w3 ⟨rfl, q2, t2⟩; have HQ3 := hide (HQ2.out.docs q2 t2); clear q2 t2; obtain ⟨-, n1, n2, n3⟩ := HQ3.out.cells))
  have HF := hide (HQ3.out.both (HO.out.he p))
  clear HQ3 m1 m2 m3 n1 n2 n3 HQ2 HT2
  go_wp2
  go_ret
  exact ⟨rfl, HF.out⟩
end
end Go.Proofs.Ytpbdachbefafiaa
