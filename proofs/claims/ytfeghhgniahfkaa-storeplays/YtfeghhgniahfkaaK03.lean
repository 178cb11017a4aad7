/-
  Texts that lean on one another, one behind the other: each opens with its own remark.
-/
import Derived.DeepKeys
import Derived.Laws.StructEq
import Derived.Test.YtfeghhgniahfkaaK00
import Derived.Test.YtfeghhgniahfkaaK02
import Derived.Test.YtfeghhgniahfkaaK01

/-
  Two pages held against each other by == or !=.
-/
namespace Go.Proofs.Ytfeghhgniahfkaa
open Go.RowKit
set_option linter.unusedVariables false


/-- A page's cells as plain data. -/
def litsP (p : Pg) : List Lit := [.int .u64 p.l, .bool (p.u 0), .string (p.s 0).data.toList, .bool (p.u 1), .string (p.s 1).data.toList, .bool (p.u 2), .string (p.s 2).data.toList, .bool (p.u 3), .string (p.s 3).data.toList, .bool (p.u 4), .string (p.s 4).data.toList, .bool (p.u 5), .string (p.s 5).data.toList, .bool (p.u 6), .string (p.s 6).data.toList, .bool (p.u 7), .string (p.s 7).data.toList]

theorem litsP_iff (p q : Pg) : litsP p = litsP q ↔ p.same q := by
  unfold litsP
  simp only [List.cons.injEq, and_true, Lit.int.injEq, Lit.bool.injEq, Lit.string.injEq, data_inj, true_and]
  constructor
  · rintro ⟨h, a0, b0, a1, b1, a2, b2, a3, b3, a4, b4, a5, b5, a6, b6, a7, b7⟩
    refine ⟨by omega, fun i hi => ?_⟩
    rcases lt8 hi with rfl | rfl | rfl | rfl | rfl | rfl | rfl | rfl
    · exact ⟨a0, b0⟩
    · exact ⟨a1, b1⟩
    · exact ⟨a2, b2⟩
    · exact ⟨a3, b3⟩
    · exact ⟨a4, b4⟩
    · exact ⟨a5, b5⟩
    · exact ⟨a6, b6⟩
    · exact ⟨a7, b7⟩
  · rintro ⟨h, g⟩
    exact ⟨by omega, (g 0 (by omega)).1, (g 0 (by omega)).2, (g 1 (by omega)).1, (g 1 (by omega)).2, (g 2 (by omega)).1, (g 2 (by omega)).2, (g 3 (by omega)).1, (g 3 (by omega)).2, (g 4 (by omega)).1, (g 4 (by omega)).2, (g 5 (by omega)).1, (g 5 (by omega)).2, (g 6 (by omega)).1, (g 6 (by omega)).2, (g 7 (by omega)).1, (g 7 (by omega)).2⟩

theorem cell_lits (u : Bool) (s : ByteArray) (hs : s.size ≤ maxLen) : Try.prog.keyLits 2 32 [.bool u, .string s] = some [.bool u, .string s.data.toList] := by
  have e0 : Try.prog.cellsOf 4 = 1 := by kernel_rfl
  have e1 : Try.prog.cellsOf 9 = 1 := by kernel_rfl
  have e2 : Try.prog.cellsOf 32 = 2 := by kernel_rfl
  simp [Program.keyLits, Try.underlying32, Try.underlying4, Try.underlying9, e0, e1, e2, hs]

theorem lits_page (p : Pg) (h : p.fits) : Try.prog.keyLits 4 35 (pgA p).toList = some (litsP p) := by
  have e0 : Try.prog.cellsOf 30 = 1 := by kernel_rfl
  have e1 : Try.prog.cellsOf 33 = 16 := by kernel_rfl
  have e2 : Try.prog.cellsOf 32 = 2 := by kernel_rfl
  have e3 : Try.prog.cellsOf 35 = 17 := by kernel_rfl
  have hw : (Lit.int .u64 (p.l : Int)).wf = true := by
    have h1 := h.1
    have m1 : IntKind.u64.min = 0 := rfl
    have m2 : IntKind.u64.max = 18446744073709551615 := by decide
    simp only [Lit.wf, m1, m2, Bool.and_eq_true, decide_eq_true_eq]
    omega
  have r8 : List.range 8 = [0, 1, 2, 3, 4, 5, 6, 7] := rfl
  have c0 := cell_lits (p.u 0) (p.s 0) (h.2 0 (by omega))
  have c1 := cell_lits (p.u 1) (p.s 1) (h.2 1 (by omega))
  have c2 := cell_lits (p.u 2) (p.s 2) (h.2 2 (by omega))
  have c3 := cell_lits (p.u 3) (p.s 3) (h.2 3 (by omega))
  have c4 := cell_lits (p.u 4) (p.s 4) (h.2 4 (by omega))
  have c5 := cell_lits (p.u 5) (p.s 5) (h.2 5 (by omega))
  have c6 := cell_lits (p.u 6) (p.s 6) (h.2 6 (by omega))
  have c7 := cell_lits (p.u 7) (p.s 7) (h.2 7 (by omega))
  have hu : Try.prog.keyLits 3 30 [.int .u64 (p.l : Int)] = some [.int .u64 (p.l : Int)] := by
    simp [Program.keyLits, Try.underlying30, hw]
  have ha : Try.prog.keyLits 3 33 [.bool (p.u 0), .string (p.s 0), .bool (p.u 1), .string (p.s 1), .bool (p.u 2), .string (p.s 2), .bool (p.u 3), .string (p.s 3), .bool (p.u 4), .string (p.s 4), .bool (p.u 5), .string (p.s 5), .bool (p.u 6), .string (p.s 6), .bool (p.u 7), .string (p.s 7)] = some (litsP p).tail := by
    unfold Program.keyLits
    simp [Try.underlying33, e1, e2, r8, c0, c1, c2, c3, c4, c5, c6, c7, litsP]
  unfold Program.keyLits
  simp [Try.underlying35, e0, e1, e3, pgA, hu, ha]
  simp [litsP]

theorem run_page_eql (p q : Pg) (hp : p.fits) (hq : q.fits) (w : World) : (binOp .eql 35 (.agg (pgA p)) (.agg (pgA q))).run Try.prog w = .ok (.bool (decide (p.same q))) w := by
  obtain ⟨r, hr, hiff⟩ := run_equalIn_deep (P := Try.prog) 9996 4 35 (by kernel_rfl) w 4 4 (.agg (pgA p)) (.agg (pgA q)) (litsP p) (litsP q) (by kernel_rfl) (by kernel_rfl) (lits_page p hp) (lits_page q hq)
  have e : r = decide (p.same q) := by
    rw [Bool.eq_iff_iff, hiff, litsP_iff, decide_eq_true_iff]
  rw [e] at hr
  have hr2 : (Op.equal 35 (.agg (pgA p)) (.agg (pgA q))).run Try.prog w = .ok (decide (p.same q)) w := hr
  simp [binOp, hr2]
theorem run_page_neq (p q : Pg) (hp : p.fits) (hq : q.fits) (w : World) : (binOp .neq 35 (.agg (pgA p)) (.agg (pgA q))).run Try.prog w = .ok (.bool (!decide (p.same q))) w := by
  obtain ⟨r, hr, hiff⟩ := run_equalIn_deep (P := Try.prog) 9996 4 35 (by kernel_rfl) w 4 4 (.agg (pgA p)) (.agg (pgA q)) (litsP p) (litsP q) (by kernel_rfl) (by kernel_rfl) (lits_page p hp) (lits_page q hq)
  have e : r = decide (p.same q) := by
    rw [Bool.eq_iff_iff, hiff, litsP_iff, decide_eq_true_iff]
  rw [e] at hr
  have hr2 : (Op.equal 35 (.agg (pgA p)) (.agg (pgA q))).run Try.prog w = .ok (decide (p.same q)) w := hr
  simp [binOp, hr2]
theorem page_guard (op : BinOp) (x y : Operand) (p q : Pg) (w : World) : (eqGuard op 35 x y (.agg (pgA p)) (.agg (pgA q))).run Try.prog w = .ok () w := run_eqGuard_agg (P := Try.prog) w op 35 x y (pgA p) (pgA q) (by kernel_rfl)
end Go.Proofs.Ytfeghhgniahfkaa

/-
  The contract of quaysidelaw10.does. (gen10/does.py)
-/
namespace Go.Proofs.Ytfeghhgniahfkaa
open Go.RowKit
set_option linter.unusedVariables false

/-- A row beside the document's store. -/
theorem tn_row10 {x y : World} {hs gp c o : Nat} {d : Sc} {cs ps rs : Array Value} {t : TypeId} (h : DV x hs gp c d cs ps) (q : Tn (FD hs gp) x y) (hr : RowAt x o t rs) (h1 : t ≠ 83) (h2 : t ≠ 9) : RowAt y o t rs := q.row hr (fun e => by
  rcases e with rfl | rfl
  · exact h1 (row_kind hr h.st)
  · exact h2 (row_kind hr h.pr))
section
variable {w0 x : World} {gs hs : Nat} {s d : Sc}
theorem D10.drewN (h : D10 w0 x gs hs s d) (n : Nat) : D10 w0 (x.drewN n) gs hs s d := h.later (below_dn (Below.refl _ _) n)
set_option maxRecDepth 4000 in
set_option maxHeartbeats 3200000 in
theorem does10_1 (o : Oc) (ho : o.k = 1) (h : D10 w0 x gs hs s d) : Calls Try.prog 12 #[.pointer (some ⟨gs, 0, none⟩), .pointer (some ⟨hs, 0, none⟩), .agg (ocA o)] x fun e y => e = .returned (.bool true) ∧ ∃ s' d', D10 w0 y gs hs s' d' := by
  have hb0 : Below x.heap.size x (x.alloc (.cells (ocA o) 37)) := (Below.refl _ _).alloc (Nat.le_refl _) _
  have hR0 : RowAt (x.alloc (.cells (ocA o) 37)) x.heap.size 37 (ocA o) := RowAt.new x _ _
  have c0 : (x.alloc (.cells (ocA o) 37)).cell? ⟨x.heap.size, 0, none⟩ = some (.int .i64 1) := by rw [hR0.cell 0 (.int .i64 o.k) rfl, ho]
  have H : Hid (D10 w0 (x.alloc (.cells (ocA o) 37)) gs hs s d ∧ RowAt (x.alloc (.cells (ocA o) 37)) x.heap.size 37 (ocA o)) := hide ⟨h.later hb0, hR0⟩
  obtain ⟨ob, hob⟩ : ∃ ob, x.heap.size = ob := ⟨_, rfl⟩
  have HOB := hide hob
  clear h hb0 hR0 hob
  go_enter Try.func12, Try.ntmps12
  go_wp2_with fail
  rw [HOB.out] at H ⊢
  refine gen_wp (fun z => Hid (D10 w0 z gs hs s d ∧ RowAt z ob 37 (ocA o))) H ?_
  clear H c0
  intro y H
  have HD : Hid (D10 w0 y.drew gs hs s d ∧ RowAt y.drew ob 37 (ocA o)) := hide ⟨H.out.1.drewN 1, H.out.2⟩
  obtain ⟨old, tr, hk⟩ := HD.out.1.k
  obtain ⟨gp, c, cs, ps, hgp, hv⟩ := HD.out.1.r
  refine wp_region_noPanic ?_
  refine wp_region_held_drew (S := fun z => RowAt z ob 37 (ocA o)) (by kernel_rfl) (HD.out.2) (fun hHeld => ?_)
  refine hand_take 0 (some 17) (.pointer (some ⟨gs, 0, none⟩)) rfl rfl (by kernel_rfl) (by kernel_rfl) (by kernel_rfl) (fun _ _ _ h => h) (Or.inl ⟨by kernel_rfl, fun x hSx => by go_simp⟩) hHeld ?_
  try simp only [Act.put, List.setIfInBounds_toArray, List.set_cons_zero, List.set_cons_succ]
  refine hand_take 1 (some 18) (.pointer (some ⟨ob, 1, none⟩)) rfl rfl (by kernel_rfl) (by kernel_rfl) (by kernel_rfl) (fun _ _ _ h => h) (Or.inl ⟨by kernel_rfl, fun x hSx => by go_simp⟩) hHeld ?_
  try simp only [Act.put, List.setIfInBounds_toArray, List.set_cons_zero, List.set_cons_succ]
  refine hand_take 2 (some 19) (.int .i64 o.n) rfl rfl (by kernel_rfl) (by kernel_rfl) (by kernel_rfl) (fun _ _ _ h => h) (Or.inl ⟨by kernel_rfl, fun x hSx => by have h : World.cell? x ⟨ob, 1, none⟩ = some (.int .i64 o.n) := hSx.cell 1 _ rfl; go_simp⟩) hHeld ?_
  try simp only [Act.put, List.setIfInBounds_toArray, List.set_cons_zero, List.set_cons_succ]
  refine hand_take 3 (some 20) (.pointer (some ⟨ob, 2, none⟩)) rfl rfl (by kernel_rfl) (by kernel_rfl) (by kernel_rfl) (fun _ _ _ h => h) (Or.inl ⟨by kernel_rfl, fun x hSx => by go_simp⟩) hHeld ?_
  try simp only [Act.put, List.setIfInBounds_toArray, List.set_cons_zero, List.set_cons_succ]
  refine hand_take 4 (some 21) (.int .i64 o.i) rfl rfl (by kernel_rfl) (by kernel_rfl) (by kernel_rfl) (fun _ _ _ h => h) (Or.inl ⟨by kernel_rfl, fun x hSx => by have h : World.cell? x ⟨ob, 2, none⟩ = some (.int .i64 o.i) := hSx.cell 2 _ rfl; go_simp⟩) hHeld ?_
  try simp only [Act.put, List.setIfInBounds_toArray, List.set_cons_zero, List.set_cons_succ]
  refine hand_take 5 (some 22) (.pointer (some ⟨ob, 4, none⟩)) rfl rfl (by kernel_rfl) (by kernel_rfl) (by kernel_rfl) (fun _ _ _ h => h) (Or.inl ⟨by kernel_rfl, fun x hSx => by go_simp⟩) hHeld ?_
  try simp only [Act.put, List.setIfInBounds_toArray, List.set_cons_zero, List.set_cons_succ]
  refine hand_take 6 (some 23) (.agg (pgA o.p)) rfl rfl (by kernel_rfl) (by kernel_rfl) (by kernel_rfl) (fun _ _ _ h => h) (yieldsIf_load_run (by kernel_rfl) 35 _ rfl (.pointer (some ⟨ob, 4, none⟩)) rfl _ (fun x hSx => by have h := load_part (P := Try.prog) x 37 35 ob 4 17 (ocA o) hSx _ Try.underlying35 rfl infoPg10 (by show 4 + 17 ≤ 21; omega); rw [ocA_page] at h; exact h)) hHeld ?_
  try simp only [Act.put, List.setIfInBounds_toArray, List.set_cons_zero, List.set_cons_succ]
  refine hand_take 7 (some 24) (.pointer (some ⟨ob, 3, none⟩)) rfl rfl (by kernel_rfl) (by kernel_rfl) (by kernel_rfl) (fun _ _ _ h => h) (Or.inl ⟨by kernel_rfl, fun x hSx => by go_simp⟩) hHeld ?_
  try simp only [Act.put, List.setIfInBounds_toArray, List.set_cons_zero, List.set_cons_succ]
  refine hand_take 8 (some 25) (.int .i64 o.m) rfl rfl (by kernel_rfl) (by kernel_rfl) (by kernel_rfl) (fun _ _ _ h => h) (Or.inl ⟨by kernel_rfl, fun x hSx => by have h : World.cell? x ⟨ob, 3, none⟩ = some (.int .i64 o.m) := hSx.cell 3 _ rfl; go_simp⟩) hHeld ?_
  try simp only [Act.put, List.setIfInBounds_toArray, List.set_cons_zero, List.set_cons_succ]
  refine hand_take 10 (some 27) (.pointer (some ⟨hs, 0, none⟩)) rfl rfl (by kernel_rfl) (by kernel_rfl) (by kernel_rfl) (fun _ _ _ h => h) (Or.inl ⟨by kernel_rfl, fun x hSx => by go_simp⟩) hHeld ?_
  try simp only [Act.put, List.setIfInBounds_toArray, List.set_cons_zero, List.set_cons_succ]
  refine hand_take 11 (some 28) (.pointer (some ⟨ob, 1, none⟩)) rfl rfl (by kernel_rfl) (by kernel_rfl) (by kernel_rfl) (fun _ _ _ h => h) (Or.inl ⟨by kernel_rfl, fun x hSx => by go_simp⟩) hHeld ?_
  try simp only [Act.put, List.setIfInBounds_toArray, List.set_cons_zero, List.set_cons_succ]
  refine hand_take 12 (some 29) (.int .i64 o.n) rfl rfl (by kernel_rfl) (by kernel_rfl) (by kernel_rfl) (fun _ _ _ h => h) (Or.inl ⟨by kernel_rfl, fun x hSx => by have h : World.cell? x ⟨ob, 1, none⟩ = some (.int .i64 o.n) := hSx.cell 1 _ rfl; go_simp⟩) hHeld ?_
  try simp only [Act.put, List.setIfInBounds_toArray, List.set_cons_zero, List.set_cons_succ]
  refine hand_take 13 (some 30) (.pointer (some ⟨ob, 2, none⟩)) rfl rfl (by kernel_rfl) (by kernel_rfl) (by kernel_rfl) (fun _ _ _ h => h) (Or.inl ⟨by kernel_rfl, fun x hSx => by go_simp⟩) hHeld ?_
  try simp only [Act.put, List.setIfInBounds_toArray, List.set_cons_zero, List.set_cons_succ]
  refine hand_take 14 (some 31) (.int .i64 o.i) rfl rfl (by kernel_rfl) (by kernel_rfl) (by kernel_rfl) (fun _ _ _ h => h) (Or.inl ⟨by kernel_rfl, fun x hSx => by have h : World.cell? x ⟨ob, 2, none⟩ = some (.int .i64 o.i) := hSx.cell 2 _ rfl; go_simp⟩) hHeld ?_
  try simp only [Act.put, List.setIfInBounds_toArray, List.set_cons_zero, List.set_cons_succ]
  refine hand_take 15 (some 32) (.pointer (some ⟨ob, 4, none⟩)) rfl rfl (by kernel_rfl) (by kernel_rfl) (by kernel_rfl) (fun _ _ _ h => h) (Or.inl ⟨by kernel_rfl, fun x hSx => by go_simp⟩) hHeld ?_
  try simp only [Act.put, List.setIfInBounds_toArray, List.set_cons_zero, List.set_cons_succ]
  refine hand_take 16 (some 33) (.agg (pgA o.p)) rfl rfl (by kernel_rfl) (by kernel_rfl) (by kernel_rfl) (fun _ _ _ h => h) (yieldsIf_load_run (by kernel_rfl) 35 _ rfl (.pointer (some ⟨ob, 4, none⟩)) rfl _ (fun x hSx => by have h := load_part (P := Try.prog) x 37 35 ob 4 17 (ocA o) hSx _ Try.underlying35 rfl infoPg10 (by show 4 + 17 ≤ 21; omega); rw [ocA_page] at h; exact h)) hHeld ?_
  try simp only [Act.put, List.setIfInBounds_toArray, List.set_cons_zero, List.set_cons_succ]
  refine hand_take 17 (some 34) (.pointer (some ⟨ob, 3, none⟩)) rfl rfl (by kernel_rfl) (by kernel_rfl) (by kernel_rfl) (fun _ _ _ h => h) (Or.inl ⟨by kernel_rfl, fun x hSx => by go_simp⟩) hHeld ?_
  try simp only [Act.put, List.setIfInBounds_toArray, List.set_cons_zero, List.set_cons_succ]
  refine hand_take 18 (some 35) (.int .i64 o.m) rfl rfl (by kernel_rfl) (by kernel_rfl) (by kernel_rfl) (fun _ _ _ h => h) (Or.inl ⟨by kernel_rfl, fun x hSx => by have h : World.cell? x ⟨ob, 3, none⟩ = some (.int .i64 o.m) := hSx.cell 3 _ rfl; go_simp⟩) hHeld ?_
  try simp only [Act.put, List.setIfInBounds_toArray, List.set_cons_zero, List.set_cons_succ]
  refine hand_one 9 (by kernel_rfl) ?_
  refine hand_call (some 26) rfl rfl rfl 15 #[.pointer (some ⟨gs, 0, none⟩), .int .i64 o.n, .int .i64 o.i, .agg (pgA o.p), .int .i64 o.m] ?he ((hk.write o.n o.i o.p o.m).mono ?_)
  (case he => go_simp)
  rintro e w2 ⟨rfl, hk2, hsd⟩
  have hv2 := hv.side hsd
  have hr2 := hsd.row HD.out.2 (by decide) (by decide)
  refine ⟨_, rfl, hr2, ?_⟩
  try simp only [Act.put, List.setIfInBounds_toArray, List.set_cons_zero, List.set_cons_succ]
  refine hand_one 19 (by kernel_rfl) ?_
  refine hand_call (some 36) rfl rfl rfl 28 #[.pointer (some ⟨hs, 0, none⟩), .int .i64 o.n, .int .i64 o.i, .agg (pgA o.p), .int .i64 o.m] ?he ((rwrite10 hv2 HD.out.1.pr hk.ok o.n o.i o.p o.m).mono ?_)
  (case he => go_simp)
  rintro e w3 ⟨rfl, ⟨d', cs', ps', hv3, hpr⟩, ht⟩
  have hr3 := tn_row10 hv2 ht hr2 (by decide) (by decide)
  have HF : Hid (D10 w0 w3 gs hs (s.wS o.n o.i o.p o.m) d') := hide ⟨⟨_, _, hk2.doc hv2 ⟨HD.out.1.lo, hgp⟩ ht⟩, ⟨gp, c, cs', ps', hgp, hv3⟩, HD.out.1.lo, hpr, by rw [Sc.wS_n]; exact HD.out.1.pos⟩
  refine ⟨_, rfl, hr3, ?_⟩
  try simp only [Act.put, List.setIfInBounds_toArray, List.set_cons_zero, List.set_cons_succ]
  generalize s.wE o.n o.i o.p o.m = E at *
  refine hand_one 20 (by kernel_rfl) ?_
  refine hand_run (some 37) rfl rfl rfl (.bool true) w3 ?hz ?_
  (case hz => go_simp)
  refine ⟨hr3, ?_⟩
  try simp only [Act.put, List.setIfInBounds_toArray, List.set_cons_zero, List.set_cons_succ]
  refine hand_one 21 (by kernel_rfl) ?_
  refine hand_run (some 6) rfl rfl rfl (.bool true) w3 ?hz ?_
  (case hz => go_simp)
  refine ⟨hr3, ?_⟩
  try simp only [Act.put, List.setIfInBounds_toArray, List.set_cons_zero, List.set_cons_succ]
  refine wpAnyH_done (by kernel_rfl) ?_ _
  refine NoPanic.normal ?_
  clear hr3 hv3 hpr ht hr2 hv2 hk2 hsd hk hv HD H
  go_wp2
  go_ret
  exact ⟨rfl, _, _, HF.out⟩
set_option maxRecDepth 4000 in
set_option maxHeartbeats 3200000 in
theorem does10_2 (o : Oc) (ho : o.k = 2) (h : D10 w0 x gs hs s d) : Calls Try.prog 12 #[.pointer (some ⟨gs, 0, none⟩), .pointer (some ⟨hs, 0, none⟩), .agg (ocA o)] x fun e y => e = .returned (.bool true) ∧ ∃ s' d', D10 w0 y gs hs s' d' := by
  have hb0 : Below x.heap.size x (x.alloc (.cells (ocA o) 37)) := (Below.refl _ _).alloc (Nat.le_refl _) _
  have hR0 : RowAt (x.alloc (.cells (ocA o) 37)) x.heap.size 37 (ocA o) := RowAt.new x _ _
  have c0 : (x.alloc (.cells (ocA o) 37)).cell? ⟨x.heap.size, 0, none⟩ = some (.int .i64 2) := by rw [hR0.cell 0 (.int .i64 o.k) rfl, ho]
  have H : Hid (D10 w0 (x.alloc (.cells (ocA o) 37)) gs hs s d ∧ RowAt (x.alloc (.cells (ocA o) 37)) x.heap.size 37 (ocA o)) := hide ⟨h.later hb0, hR0⟩
  obtain ⟨ob, hob⟩ : ∃ ob, x.heap.size = ob := ⟨_, rfl⟩
  have HOB := hide hob
  clear h hb0 hR0 hob
  have c1 : (x.alloc (.cells (ocA o) 37)).cell? ⟨x.heap.size, 1, none⟩ = some (.int .i64 o.n) := H.out.2.cell 1 _ rfl
  have c3 : (x.alloc (.cells (ocA o) 37)).cell? ⟨x.heap.size, 3, none⟩ = some (.int .i64 o.m) := H.out.2.cell 3 _ rfl
  have HD : Hid (D10 w0 ((x.alloc (.cells (ocA o) 37)).drewN 1) gs hs s d ∧ RowAt ((x.alloc (.cells (ocA o) 37)).drewN 1) x.heap.size 37 (ocA o)) := hide ⟨H.out.1.drewN 1, H.out.2⟩
  obtain ⟨old, tr, hk⟩ := HD.out.1.k
  obtain ⟨gp, c, cs, ps, hgp, hv⟩ := HD.out.1.r
  have HK := hide hk
  have HV := hide hv
  clear hk hv H
  go_enter Try.func12, Try.ntmps12
  go_wp2_with fail
  go_region_held3 (fun y => y.cell? ⟨x.heap.size, 1, none⟩ = some (.int .i64 o.n) ∧ y.cell? ⟨x.heap.size, 3, none⟩ = some (.int .i64 o.m)) (go_keep)
    (first
      | (go_at_call 14; refine (HK.out.mend o.n o.m).mono ?_; rintro e w2 ⟨rfl, ⟨old2, tr2, hk2, -⟩, hsd⟩; have HV2 := hide (HV.out.side hsd); have HR2 := hide (hsd.row HD.out.2 (by decide) (by decide)); have m1 : w2.cell? ⟨x.heap.size, 1, none⟩ = some (.int .i64 o.n) := HR2.out.cell 1 _ rfl; have m3 : w2.cell? ⟨x.heap.size, 3, none⟩ = some (.int .i64 o.m) := HR2.out.cell 3 _ rfl; have HK2 := hide hk2; clear hk2 hsd)
      | (go_at_call 29; refine (rmend10 HV2.out HD.out.1.pr HK.out.ok HD.out.1.pos o.n o.m).mono ?_; rintro e w3 ⟨rfl, ⟨d', cs', ps', hv3, hpr⟩, ht⟩; have HR3 := hide (tn_row10 HV2.out ht HR2.out (by decide) (by decide)); have n1 : w3.cell? ⟨x.heap.size, 1, none⟩ = some (.int .i64 o.n) := HR3.out.cell 1 _ rfl; have n3 : w3.cell? ⟨x.heap.size, 3, none⟩ = some (.int .i64 o.m) := HR3.out.cell 3 _ rfl; have HF : Hid (D10 w0 w3 gs hs (s.mS o.n o.m) d') := hide ⟨⟨_, _, HK2.out.doc HV2.out ⟨HD.out.1.lo, hgp⟩ ht⟩, ⟨gp, c, cs', ps', hgp, hv3⟩, HD.out.1.lo, hpr, by rw [Sc.mS_n]; exact HD.out.1.pos⟩; clear hv3 hpr ht))
  go_wp2
  go_ret
  exact ⟨rfl, _, _, HF.out⟩
set_option maxRecDepth 4000 in
set_option maxHeartbeats 3200000 in
theorem does10_3g (o : Oc) (ho : o.k = 3) (q : Pg) (hq : q.fits) (E : Int) (HA : Hid (∀ y, D10 w0 y gs hs s d → Calls Try.prog 17 #[.pointer (some ⟨gs, 0, none⟩), .int .i64 o.i] y fun e w' => e = .returned (.tuple #[.agg (pgA q), .int .i64 E]) ∧ Below y.heap.size y w')) (HB : Hid (∀ y, D10 w0 y gs hs s d → Calls Try.prog 30 #[.pointer (some ⟨hs, 0, none⟩), .int .i64 o.i] y fun e w' => e = .returned (.tuple #[.agg (pgA q), .int .i64 E]) ∧ Below y.heap.size y w')) (h : D10 w0 x gs hs s d) : Calls Try.prog 12 #[.pointer (some ⟨gs, 0, none⟩), .pointer (some ⟨hs, 0, none⟩), .agg (ocA o)] x fun e y => e = .returned (.bool true) ∧ ∃ s' d', D10 w0 y gs hs s' d' := by
  have hb0 : Below x.heap.size x (x.alloc (.cells (ocA o) 37)) := (Below.refl _ _).alloc (Nat.le_refl _) _
  have hR0 : RowAt (x.alloc (.cells (ocA o) 37)) x.heap.size 37 (ocA o) := RowAt.new x _ _
  have c0 : (x.alloc (.cells (ocA o) 37)).cell? ⟨x.heap.size, 0, none⟩ = some (.int .i64 3) := by rw [hR0.cell 0 (.int .i64 o.k) rfl, ho]
  have H : Hid (D10 w0 (x.alloc (.cells (ocA o) 37)) gs hs s d ∧ RowAt (x.alloc (.cells (ocA o) 37)) x.heap.size 37 (ocA o)) := hide ⟨h.later hb0, hR0⟩
  obtain ⟨ob, hob⟩ : ∃ ob, x.heap.size = ob := ⟨_, rfl⟩
  have HOB := hide hob
  clear h hb0 hR0 hob
  have c2 : (x.alloc (.cells (ocA o) 37)).cell? ⟨x.heap.size, 2, none⟩ = some (.int .i64 o.i) := H.out.2.cell 2 _ rfl
  go_enter Try.func12, Try.ntmps12
  go_wp2_with fail
  refine (HA.out _ H.out.1).mono ?_
  rintro e w2 ⟨rfl, hb2⟩
  have H2 := hide (And.intro (H.out.1.later hb2) (H.out.2.later hb2))
  clear hb2 HA c0 c2 H
  rw [HOB.out] at H2 ⊢
  go_wp2_with (refine wpList_store_page rfl _ _ rfl w2.heap.size Pg.zero q rfl rfl (heap_alloc_new w2 _) ?_; intro w3 hP3 hk3; refine stop10 ?_)
  have hb3 := hk3 _ _ ((Below.refl _ _).alloc (Nat.le_refl _) _) (Nat.le_refl _)
  obtain ⟨g3, hg3⟩ : ∃ g3, g3 = w2.heap.size := ⟨_, rfl⟩
  have H3 := hide (And.intro (H2.out.1.later hb3) (And.intro (H2.out.2.later hb3) hP3))
  rw [← hg3] at H3 ⊢
  have c2 : w3.cell? ⟨ob, 2, none⟩ = some (.int .i64 o.i) := H3.out.2.1.cell 2 _ rfl
  clear hP3 hk3 hb3 hg3 H2
  refine unstop10 ?_
  go_wp2_with fail
  refine (HB.out _ H3.out.1).mono ?_
  rintro e w4 ⟨rfl, hb4⟩
  have H4 := hide (And.intro (H3.out.1.later hb4) (H3.out.2.2.below hb4 H3.out.2.2.lt))
  clear hb4 HB c2 H3
  go_wp2_with (refine wpList_store_page rfl _ _ rfl w4.heap.size Pg.zero q rfl rfl (heap_alloc_new w4 _) ?_; intro w5 hP5 hk5; refine stop10 ?_)
  have hb5 := hk5 _ _ ((Below.refl _ _).alloc (Nat.le_refl _) _) (Nat.le_refl _)
  have H5 := hide (And.intro (H4.out.1.later hb5) (And.intro (H4.out.2.below hb5 H4.out.2.lt) hP5))
  have heq := run_page_eql q q hq hq w5
  rw [decide_eq_true (Pg.same.refl q)] at heq
  clear hP5 hk5 hb5 H4
  refine unstop10 ?_
  go_wp2_with (first | (refine wpList_load_page rfl _ rfl w4.heap.size rfl q H5.out.2.2 ?_) | (refine wpList_load_page rfl _ rfl g3 rfl q H5.out.2.1 ?_) | (refine wpList_binop rfl .eql 35 _ _ _ rfl (.agg (pgA q)) (.agg (pgA q)) _ rfl rfl (page_guard _ _ _ q q _) heq ?_))
  go_ret
  exact ⟨rfl, _, _, H5.out.1⟩
theorem does10_3 (o : Oc) (ho : o.k = 3) (h : D10 w0 x gs hs s d) : Calls Try.prog 12 #[.pointer (some ⟨gs, 0, none⟩), .pointer (some ⟨hs, 0, none⟩), .agg (ocA o)] x fun e y => e = .returned (.bool true) ∧ ∃ s' d', D10 w0 y gs hs s' d' := by
  by_cases hid : 0 ≤ o.i ∧ o.i < (s.n : Int)
  · obtain ⟨i, hi⟩ := Int.eq_ofNat_of_zero_le hid.1
    have hin : i < s.n := by omega
    obtain ⟨old, tr, hk⟩ := h.k
    cases ht : tr i with
    | none =>
      have hl := hk.ok.lie i hin ht
      have h3 := dec_image (i : Int) (old i) (by have := hk.ok.wf.n; omega) (hk.ok.rt i hin)
      rw [Int.toNat_natCast, ← hl] at h3
      refine does10_3g o ho (old i) (hk.ok.rt i hin).fits 0 (hide fun y hy => ?_) (hide fun y hy => ?_) h
      · obtain ⟨old2, tr2, hk2⟩ := hy.k
        obtain ⟨gp, _, hs2⟩ := hk2.st
        have h4 := read10 i hin hs2
        rw [h3.1, h3.2] at h4
        rw [hi]
        exact h4
      · obtain ⟨gp, c, cs, ps, _, hv⟩ := hy.r
        have h4 := rread10 hv i (by rw [hy.pr.n]; exact hin)
        rw [hy.pr.pl i hin, h3.1, h3.2] at h4
        rw [hi]
        exact h4
    | some t =>
      have h3 : tornB (s.pl i) = true := by
        rw [hk.ok.torn i hin, ht]
        rfl
      have h5 := dec_torn (i : Int) (s.pl i) (by have := hk.ok.wf.n; omega) h3
      have h6 : decP (i : Int) (s.pl i) = Pg.zero := decP_no _ _ (by rw [h5]; omega)
      refine does10_3g o ho Pg.zero zero_right.fits 14 (hide fun y hy => ?_) (hide fun y hy => ?_) h
      · obtain ⟨old2, tr2, hk2⟩ := hy.k
        obtain ⟨gp, _, hs2⟩ := hk2.st
        have h4 := read10 i hin hs2
        rw [h5, h6] at h4
        rw [hi]
        exact h4
      · obtain ⟨gp, c, cs, ps, _, hv⟩ := hy.r
        have h4 := rread10 hv i (by rw [hy.pr.n]; exact hin)
        rw [hy.pr.pl i hin, h5, h6] at h4
        rw [hi]
        exact h4
  · refine does10_3g o ho Pg.zero zero_right.fits 1 (hide fun y hy => ?_) (hide fun y hy => ?_) h
    · obtain ⟨old2, tr2, hk2⟩ := hy.k
      exact read10_no _ s.n o.i y (fun z hz => (hk2.later hz).pages) hid
    · obtain ⟨gp, c, cs, ps, _, hv⟩ := hy.r
      exact rread10_no hv o.i (by rw [hy.pr.n]; exact hid)
set_option maxRecDepth 4000 in
set_option maxHeartbeats 3200000 in
theorem does10_4 (o : Oc) (ho : o.k = 4) (h : D10 w0 x gs hs s d) : Calls Try.prog 12 #[.pointer (some ⟨gs, 0, none⟩), .pointer (some ⟨hs, 0, none⟩), .agg (ocA o)] x fun e y => e = .returned (.bool true) ∧ ∃ s' d', D10 w0 y gs hs s' d' := by
  have hb0 : Below x.heap.size x (x.alloc (.cells (ocA o) 37)) := (Below.refl _ _).alloc (Nat.le_refl _) _
  have hR0 : RowAt (x.alloc (.cells (ocA o) 37)) x.heap.size 37 (ocA o) := RowAt.new x _ _
  have c0 : (x.alloc (.cells (ocA o) 37)).cell? ⟨x.heap.size, 0, none⟩ = some (.int .i64 4) := by rw [hR0.cell 0 (.int .i64 o.k) rfl, ho]
  have H : Hid (D10 w0 (x.alloc (.cells (ocA o) 37)) gs hs s d ∧ RowAt (x.alloc (.cells (ocA o) 37)) x.heap.size 37 (ocA o)) := hide ⟨h.later hb0, hR0⟩
  obtain ⟨ob, hob⟩ : ∃ ob, x.heap.size = ob := ⟨_, rfl⟩
  have HOB := hide hob
  clear h hb0 hR0 hob
  have c2 : (x.alloc (.cells (ocA o) 37)).cell? ⟨x.heap.size, 2, none⟩ = some (.int .i64 o.i) := H.out.2.cell 2 _ rfl
  obtain ⟨old, tr, hk⟩ := H.out.1.k
  have HK := hide hk
  have HPR := hide H.out.1.pr
  clear hk
  by_cases hid : 0 ≤ o.i ∧ o.i < (s.n : Int)
  · obtain ⟨i, hi⟩ := Int.eq_ofNat_of_zero_le hid.1
    have hin : i < s.n := by omega
    have i1 : ¬ (i : Int) < 0 := by omega
    have i2 : ¬ (s.n : Int) ≤ (i : Int) := by omega
    have i3 : (i : Int) < (s.n : Int) := by omega
    have HI := hide hi
    rw [hi] at c2
    clear hid hi
    go_enter Try.func12, Try.ntmps12
    go_wp2_with fail
    refine (HK.out.image i hin).mono ?_
    rintro e w2 ⟨v, rfl, ho2, hb⟩
    obtain ⟨a2, c2', rfl, hc2, hB⟩ := shape_isB ho2
    have H2 := hide (And.intro (H.out.1.later hb) (H.out.2.later hb))
    obtain ⟨gp, c, cs, ps, hgp, hv⟩ := H2.out.1.r
    have HV := hide hv
    have d0 := hv.c0
    have cp := hv.cpl i (by rw [HPR.out.n]; exact hin)
    rw [HPR.out.n] at d0
    rw [HPR.out.pl i hin] at cp
    obtain ⟨L, hL⟩ : ∃ L, s.pl i = L := ⟨_, rfl⟩
    rw [hL] at hB cp
    have hr2 := H2.out.2
    have c3 : w2.cell? ⟨x.heap.size, 2, none⟩ = some (.int .i64 (i : Int)) := by
      rw [hr2.cell 2 (.int .i64 o.i) rfl, HI.out]
    have HB := hide hB
    clear ho2 hB hb hv hr2 c2 c0 H HK hL
    go_wp2_with fail
    go_quiet (fail)
    go_wp2_with fail
    refine gen_wp (fun y => Hid (D10 w0 y gs hs s d) ∧ y.cell? ⟨hs, 0, none⟩ = some (.slice (some ⟨gp, 0, none⟩) s.n c) ∧ y.cell? ⟨gp, i, none⟩ = some (.string ⟨L.toArray⟩) ∧ y.cell? ⟨x.heap.size, 2, none⟩ = some (.int .i64 (i : Int)) ∧ Hid (IsB y a2 256 L)) ⟨hide (H2.out.1.drewN nq), d0, cp, c3, hide HB.out⟩ ?_
    clear d0 cp c3 H2 HB HV
    rintro y ⟨H3, d0, cp, c3, HB⟩
    have ht : ∀ n, Sem.run Try.prog (Go.convert 61 9 (.slice a2 256 c2')) (y.drewN n) = .ok (.string ⟨L.toArray⟩) (y.drewN n) := fun n => run_toString (P := Try.prog) (y.drewN n) 61 9 5 Try.underlying61 Try.underlying5 Try.underlying9 a2 256 c2' L HB.out
    go_quiet (fail)
    go_wp2
    go_ret
    exact ⟨rfl, _, _, H3.out.drewN nq⟩
  · go_enter Try.func12, Try.ntmps12
    go_wp2_with fail
    refine (image10_no _ s.n o.i _ (hide HK.out.pages) hid).mono ?_
    rintro e w2 ⟨rfl, rfl⟩
    obtain ⟨gp, c, cs, ps, hgp, hv⟩ := H.out.1.r
    have d0 := hv.c0
    rw [HPR.out.n] at d0
    clear hv
    by_cases h0 : o.i < 0
    · go_wp2_with fail
      go_quiet (fail)
      go_wp2
      go_ret
      exact ⟨rfl, _, _, H.out.1.drewN nq⟩
    · have h1 : (s.n : Int) ≤ o.i := by omega
      go_wp2_with fail
      go_quiet (fail)
      go_wp2
      go_ret
      exact ⟨rfl, _, _, H.out.1.drewN nq⟩
set_option maxRecDepth 4000 in
set_option maxHeartbeats 3200000 in
theorem does10_0 (o : Oc) (k1 : ¬ o.k = 1) (k2 : ¬ o.k = 2) (k3 : ¬ o.k = 3) (k4 : ¬ o.k = 4) (h : D10 w0 x gs hs s d) : Calls Try.prog 12 #[.pointer (some ⟨gs, 0, none⟩), .pointer (some ⟨hs, 0, none⟩), .agg (ocA o)] x fun e y => e = .returned (.bool true) ∧ ∃ s' d', D10 w0 y gs hs s' d' := by
  have hb0 : Below x.heap.size x (x.alloc (.cells (ocA o) 37)) := (Below.refl _ _).alloc (Nat.le_refl _) _
  have hR0 : RowAt (x.alloc (.cells (ocA o) 37)) x.heap.size 37 (ocA o) := RowAt.new x _ _
  have c0 : (x.alloc (.cells (ocA o) 37)).cell? ⟨x.heap.size, 0, none⟩ = some (.int .i64 o.k) := by rw [hR0.cell 0 (.int .i64 o.k) rfl]
  have H : Hid (D10 w0 (x.alloc (.cells (ocA o) 37)) gs hs s d ∧ RowAt (x.alloc (.cells (ocA o) 37)) x.heap.size 37 (ocA o)) := hide ⟨h.later hb0, hR0⟩
  obtain ⟨ob, hob⟩ : ∃ ob, x.heap.size = ob := ⟨_, rfl⟩
  have HOB := hide hob
  clear h hb0 hR0 hob
  go_enter Try.func12, Try.ntmps12
  go_wp2_with fail
  refine (alike10 H.out.1).mono ?_
  rintro e w2 ⟨rfl, h2, -⟩
  have H2 := hide h2
  clear h2
  go_wp2
  go_ret
  exact ⟨rfl, _, _, H2.out⟩
theorem does10 (o : Oc) (h : D10 w0 x gs hs s d) : Calls Try.prog 12 #[.pointer (some ⟨gs, 0, none⟩), .pointer (some ⟨hs, 0, none⟩), .agg (ocA o)] x fun e y => e = .returned (.bool true) ∧ ∃ s' d', D10 w0 y gs hs s' d' := by
  by_cases k1 : o.k = 1
  · exact does10_1 o k1 h
  by_cases k2 : o.k = 2
  · exact does10_2 o k2 h
  by_cases k3 : o.k = 3
  · exact does10_3 o k3 h
  by_cases k4 : o.k = 4
  · exact does10_4 o k4 h
  exact does10_0 o k1 k2 k3 k4 h
end
end Go.Proofs.Ytfeghhgniahfkaa
