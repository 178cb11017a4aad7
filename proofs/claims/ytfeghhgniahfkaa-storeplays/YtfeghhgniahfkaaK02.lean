/-
  Texts that lean on one another, one behind the other: each opens with its own remark.
-/
import Derived.Test.YtfeghhgniahfkaaProg
import Derived.WalkSpells
import Derived.Laws.OwnMore
import Derived.Deep.RegionHeld3
import Derived.Deep.QuietTactic
import Derived.BigQuiet
import Derived.Laws.AppendOwn
import Derived.WalkKit
import Derived.OpenShut
import Derived.ShutString
import Derived.SizedLaws
import Derived.ChangeOld
import Derived.Deep.Slices
import Derived.Lib.SmallJoins
import Derived.Test.YtfeghhgniahfkaaRows
import Derived.Deep.MidRow
import Derived.Test.YtfeghhgniahfkaaK01
import Derived.Test.YtfeghhgniahfkaaK00

/-
  What a page's image is decoded as, of no program.
-/
namespace Go.Proofs.Ytfeghhgniahfkaa
open Go.RowKit
set_option linter.unusedVariables false

theorem torn_image (id : Nat) (p : Pg) (hp : p.right) : tornB (imageB id p) = false := by
  obtain ⟨h1, h2, _⟩ := image_parts id p hp
  unfold tornB
  rw [h1, h2]
  simp

theorem sum_image (id : Nat) (p : Pg) (hp : p.right) : leN ((taleOf (imageB id p)).drop 236) = crc ((taleOf (imageB id p)).take 236) := by
  rw [(image_parts id p hp).2.2]
  have hl := taleB_length id p hp
  have hb := bodyB_length id p hp
  have h1 : (taleB id p).take 236 = bodyB id p := by
    unfold taleB
    rw [List.take_left' hb]
  have h2 := (seal_eq_iff (taleB id p) (by omega)).1
  rw [hl] at h2
  refine h2 ?_
  show (taleB id p).take 236 ++ leB (crc ((taleB id p).take 236)) = taleB id p
  rw [h1]
  rfl

theorem dec_image (id : Int) (p : Pg) (h0 : 0 ≤ id ∧ id ≤ 31) (hp : p.right) : decE id (imageB id.toNat p) = 0 ∧ pgA (decP id (imageB id.toNat p)) = pgA p := by
  have hs := scan_image id.toNat p hp
  have h1 : decE id (imageB id.toNat p) = 0 := by
    rw [dec_last id _ h0 (imageB_length _ _ hp) (torn_image _ _ hp) (sum_image _ _ hp), if_pos ⟨hs.symm.right hp, hs.image _⟩]
  refine ⟨h1, ?_⟩
  unfold decP
  rw [if_pos h1]
  exact same_pgA hs

theorem dec_other (id jd : Int) (p : Pg) (h0 : 0 ≤ id ∧ id ≤ 31) (hp : p.right) : decE jd (imageB id.toNat p) = 0 ↔ jd = id := by
  constructor
  · intro h
    by_cases hj : 0 ≤ jd ∧ jd ≤ 31
    · rw [dec_last jd _ hj (imageB_length _ _ hp) (torn_image _ _ hp) (sum_image _ _ hp)] at h
      by_cases hr : (scanP (imageB id.toNat p)).right ∧ imageB jd.toNat (scanP (imageB id.toNat p)) = imageB id.toNat p
      · have := (image_inj hr.1 hp (by omega) (by omega) hr.2).1
        omega
      · rw [if_neg hr] at h
        cases h
    · unfold decE at h
      rw [if_pos hj] at h
      cases h
  · rintro rfl
    exact (dec_image jd p h0 hp).1

theorem dec_short (id : Int) (bs : List UInt8) (h0 : 0 ≤ id ∧ id ≤ 31) (h : bs.length < 256) : decE id bs = 4 := by
  unfold decE
  rw [if_neg (by simpa using h0), if_pos h]
theorem dec_long (id : Int) (bs : List UInt8) (h0 : 0 ≤ id ∧ id ≤ 31) (h : 256 < bs.length) : decE id bs = 2 := by
  unfold decE
  rw [if_neg (by simpa using h0), if_neg (by omega), if_pos h]
theorem dec_torn (id : Int) (bs : List UInt8) (h0 : 0 ≤ id ∧ id ≤ 31) (ht : tornB bs = true) : decE id bs = 14 := by
  have h : bs.length = 256 := by
    unfold tornB at ht
    exact (of_decide_eq_true ht).1
  unfold decE
  rw [if_neg (by simpa using h0), if_neg (by omega), if_neg (by omega), if_pos ht]
theorem enc_yes (id : Int) (p : Pg) (h : 0 ≤ id ∧ id ≤ 31 ∧ p.right) : encB id p = (imageB id.toNat p, 0) := by unfold encB; rw [if_pos h]
theorem enc_no (id : Int) (p : Pg) (h : ¬ (0 ≤ id ∧ id ≤ 31 ∧ p.right)) : encB id p = ([], 1) := by unfold encB; rw [if_neg h]
end Go.Proofs.Ytfeghhgniahfkaa

/-
  A store of the code's that a walk keeps, call by call: all that was there when the walk began stays.
-/
namespace Go.Proofs.Ytfeghhgniahfkaa
open Go.RowKit
set_option linter.unusedVariables false

/-- Blocks of other kinds than the store's are as they were. -/
structure Side10 (w w' : World) : Prop where
  size : w.heap.size ≤ w'.heap.size
  block : ∀ (k : Nat) (cs : Array Value) (t : TypeId) (fr : Nat × Nat), t ≠ 75 → t ≠ 70 → w.heap[k]? = some (Obj.cells cs t fr) → w'.heap[k]? = some (Obj.cells cs t fr)
theorem Side10.refl (w : World) : Side10 w w := ⟨Nat.le_refl _, fun _ _ _ _ _ _ h => h⟩
theorem Side10.trans {w x y : World} (p : Side10 w x) (q : Side10 x y) : Side10 w y := ⟨Nat.le_trans p.size q.size, fun k cs t fr h1 h2 h => q.block k cs t fr h1 h2 (p.block k cs t fr h1 h2 h)⟩
theorem Side10.of_below {w x : World} (p : Below w.heap.size w x) : Side10 w x := ⟨p.size, fun k cs t fr _ _ h => (p.block k (Array.getElem?_eq_some_iff.1 h).1).trans h⟩
theorem Side10.row {w x : World} {k : Nat} {t : TypeId} {cs : Array Value} (p : Side10 w x) (h : RowAt w k t cs) (h1 : t ≠ 75) (h2 : t ≠ 70) : RowAt x k t cs := p.block k cs t (0, 0) h1 h2 h
theorem Side10.page {w x : World} {k : Nat} {p : Pg} (q : Side10 w x) (h : PgAt w k p) : PgAt x k p := q.block k _ 35 (0, 0) (by decide) (by decide) h
theorem SAt.side {w x : World} {gs gp : Nat} {s : Sc} (h : SAt w gs gp s) (p : Tn (FS gs gp) w x) : Side10 w x := by
  obtain ⟨cs, ps, h⟩ := h
  refine ⟨p.size, fun k c t fr h1 h2 hk => (p.block k (Array.getElem?_eq_some_iff.1 hk).1 (fun e => ?_)).trans hk⟩
  rcases e with rfl | rfl
  · have h3 := h.st
    unfold RowAt at h3
    rw [h3] at hk
    injection hk with hk
    injection hk with _ h4
    exact h1 h4.symm
  · have h3 := h.pr
    unfold RowAt at h3
    rw [h3] at hk
    injection hk with hk
    injection hk with _ h4
    exact h2 h4.symm

structure K10 (w0 w : World) (gs : Nat) (s : Sc) (old : Nat → Pg) (tr : Nat → Option (Pg × Bool)) : Prop where
  low : w0.heap.size ≤ gs
  st : ∃ gp, w0.heap.size ≤ gp ∧ SAt w gs gp s
  ok : s.ok old tr
  bel : Below w0.heap.size w0 w
section
variable {w0 w x : World} {gs : Nat} {s : Sc} {old : Nat → Pg} {tr : Nat → Option (Pg × Bool)}
theorem K10.later (h : K10 w0 w gs s old tr) (p : Below w.heap.size w x) : K10 w0 x gs s old tr := by
  obtain ⟨gp, h1, h2⟩ := h.st
  exact ⟨h.low, ⟨gp, h1, h2.later p⟩, h.ok, h.bel.trans (p.mono h.bel.size)⟩
theorem K10.alloc (h : K10 w0 w gs s old tr) (o : Obj) : K10 w0 (w.alloc o) gs s old tr := h.later ((Below.refl _ _).alloc (Nat.le_refl _) _)
theorem K10.drew (h : K10 w0 w gs s old tr) : K10 w0 w.drew gs s old tr := h.later dq
/-- A cell of another block turned. -/
theorem K10.set (h : K10 w0 w gs s old tr) {k : Nat} {t : TypeId} {cs : Array Value} (hr : RowAt w k t cs) (h1 : t ≠ 75) (h2 : t ≠ 70) (hk : w0.heap.size ≤ k) (j : Nat) (v : Value) : K10 w0 (w.setCell ⟨k, j, none⟩ v) gs s old tr := by
  obtain ⟨gp, h3, cs', ps, h4⟩ := h.st
  refine ⟨h.low, ⟨gp, h3, cs', ps, h4.keep ?_ ?_⟩, h.ok, h.bel.setCell hk v⟩
  · exact heap_setCell_other w ⟨k, j, none⟩ gs v (fun e => by
      have e' : gs = k := e
      subst e'
      exact h1 (row_kind hr h4.st))
  · exact heap_setCell_other w ⟨k, j, none⟩ gp v (fun e => by
      have e' : gp = k := e
      subst e'
      exact h2 (row_kind hr h4.pr))
/-- Another block turned. -/
theorem K10.only (h : K10 w0 w gs s old tr) {k : Nat} {t : TypeId} {cs : Array Value} (hr : RowAt w k t cs) (h1 : t ≠ 75) (h2 : t ≠ 70) (hk : w0.heap.size ≤ k) (p : Only k w x) : K10 w0 x gs s old tr := by
  obtain ⟨gp, h3, cs', ps, h4⟩ := h.st
  refine ⟨h.low, ⟨gp, h3, cs', ps, h4.keep ?_ ?_⟩, h.ok, p.below h.bel hk⟩
  · exact p.block gs (fun e => by
      subst e
      exact h1 (row_kind hr h4.st))
  · exact p.block gp (fun e => by
      subst e
      exact h2 (row_kind hr h4.pr))
theorem K10.pages (h : K10 w0 w gs s old tr) : Calls Try.prog 13 #[.pointer (some ⟨gs, 0, none⟩)] w fun e w' => e = .returned (.int .i64 (s.n : Int)) ∧ w = w' := by
  obtain ⟨gp, _, h2⟩ := h.st
  exact pages10 h2
theorem K10.out (h : K10 w0 w gs s old tr) (n : Int) : Calls Try.prog 16 #[.pointer (some ⟨gs, 0, none⟩), .int .i64 n] w fun e w' => e = .returned (.bool (s.outB n)) ∧ w = w' := by
  obtain ⟨gp, _, h2⟩ := h.st
  exact out10 n h2
theorem K10.image (h : K10 w0 w gs s old tr) (i : Nat) (hi : i < s.n) : Calls Try.prog 23 #[.pointer (some ⟨gs, 0, none⟩), .int .i64 (i : Int)] w fun e w' => ∃ v, e = .returned (.tuple #[v, .int .i64 0]) ∧ w'.ownsRow w.heap.size 5 1 v 256 (toV (s.pl i)) ∧ Below w.heap.size w w' := by
  obtain ⟨gp, _, h2⟩ := h.st
  exact image10 i hi h2
theorem K10.read (h : K10 w0 w gs s old tr) (i : Nat) (hi : i < s.n) (ht : tr i = none) : Calls Try.prog 17 #[.pointer (some ⟨gs, 0, none⟩), .int .i64 (i : Int)] w fun e w' => e = .returned (.tuple #[.agg (pgA (old i)), .int .i64 0]) ∧ Below w.heap.size w w' := by
  obtain ⟨gp, _, h2⟩ := h.st
  have h3 := dec_image (i : Int) (old i) (by have := h.ok.wf.n; omega) (h.ok.rt i hi)
  rw [Int.toNat_natCast, ← h.ok.lie i hi ht] at h3
  have h4 := read10 i hi h2
  rw [h3.1, h3.2] at h4
  exact h4
theorem K10.torn (h : K10 w0 w gs s old tr) (i : Nat) (hi : i < s.n) (ht : tr i ≠ none) : Calls Try.prog 17 #[.pointer (some ⟨gs, 0, none⟩), .int .i64 (i : Int)] w fun e w' => e = .returned (.tuple #[.agg (pgA Pg.zero), .int .i64 14]) ∧ Below w.heap.size w w' := by
  obtain ⟨gp, _, h2⟩ := h.st
  have h3 : tornB (s.pl i) = true := by
    rw [h.ok.torn i hi]
    cases e : tr i with
    | none => exact absurd e ht
    | some _ => rfl
  have h5 := dec_torn (i : Int) (s.pl i) (by have := h.ok.wf.n; omega) h3
  have h4 := read10 i hi h2
  rw [h5, decP_no _ _ (by rw [h5]; omega)] at h4
  exact h4
/-- What is beneath, behind a Write. -/
def wO (s : Sc) (old : Nat → Pg) (node id : Int) (p : Pg) (mask : Int) : Nat → Pg := if s.wE node id p mask = 0 ∨ s.wE node id p mask = 9 then wOld old id.toNat p mask else old
def wT (s : Sc) (tr : Nat → Option (Pg × Bool)) (node id : Int) (p : Pg) (mask : Int) : Nat → Option (Pg × Bool) := if s.wE node id p mask = 0 ∨ s.wE node id p mask = 9 then wTr tr id.toNat p mask else tr
theorem K10.write (h : K10 w0 w gs s old tr) (node id : Int) (p : Pg) (mask : Int) :
    Calls Try.prog 15 #[.pointer (some ⟨gs, 0, none⟩), .int .i64 node, .int .i64 id, .agg (pgA p), .int .i64 mask] w fun e w' => e = .returned (.int .i64 (s.wE node id p mask)) ∧ K10 w0 w' gs (s.wS node id p mask) (wO s old node id p mask) (wT s tr node id p mask) ∧ Side10 w w' := by
  obtain ⟨gp, h1, h2⟩ := h.st
  refine (write10 node id p mask h2).mono ?_
  rintro e w' ⟨rfl, h3, h4⟩
  refine ⟨rfl, ⟨h.low, ⟨gp, h1, h3⟩, ?_, h.bel.trans (h4.below (fun k hk => by rcases hk with rfl | rfl; exact h.low; exact h1) h.bel.size)⟩, h2.side h4⟩
  unfold wO wT
  by_cases g : s.wE node id p mask = 0 ∨ s.wE node id p mask = 9
  · rw [if_pos g, if_pos g]
    exact (h.ok.write node id p mask g).1
  · rw [if_neg g, if_neg g, Sc.wS_no g]
    exact h.ok
theorem K10.mend (h : K10 w0 w gs s old tr) (node mask : Int) :
    Calls Try.prog 14 #[.pointer (some ⟨gs, 0, none⟩), .int .i64 node, .int .i64 mask] w fun e w' => e = .returned (.int .i64 (s.mE node mask)) ∧ (∃ old' tr', K10 w0 w' gs (s.mS node mask) old' tr' ∧ Came old old' tr tr') ∧ Side10 w w' := by
  obtain ⟨gp, h1, h2⟩ := h.st
  obtain ⟨old', tr', h5, h6⟩ := h.ok.mend node mask
  refine (mend10 node mask h2).mono ?_
  rintro e w' ⟨rfl, h3, h4⟩
  exact ⟨rfl, ⟨old', tr', ⟨h.low, ⟨gp, h1, h3⟩, h5, h.bel.trans (h4.below (fun k hk => by rcases hk with rfl | rfl; exact h.low; exact h1) h.bel.size)⟩, h6⟩, h2.side h4⟩
end
theorem knew10 (p : Int) (w0 w : World) (h : Below w0.heap.size w0 w) :
    Calls Try.prog 9 #[.int .i64 p] w fun e w' => ∃ gs, e = .returned (.pointer (some ⟨gs, 0, none⟩)) ∧ K10 w0 w' gs (Sc.new (npg p)) (fun _ => Pg.zero) (fun _ => none) ∧ Below w.heap.size w w' :=
  (new10 p w).mono fun e w' he => ⟨_, he.1, ⟨by have := h.size; omega, ⟨_, h.size, he.2.1⟩, Sc.new_ok _ (npg_le p).2, h.trans (he.2.2.mono h.size)⟩, he.2.2⟩

/-- A Write of a right page onto a store that nobody is writing on. -/
theorem wE_new (s : Sc) (old : Nat → Pg) (tr : Nat → Option (Pg × Bool)) (h : s.ok old tr) (nd i : Nat) (p : Pg) (mask : Int) (hn : nd < 8) (hi : i < s.n) (hm : maskOk mask) (hp : p.right) (ho : ∀ m, m < 8 → s.out m = true → m ≠ nd ∧ s.id m ≠ (i : Int)) (ht : tr i = none) (hl : (old i).l < p.l) : s.wE nd i p mask = if mask = 15 then 0 else 9 := by
  unfold Sc.wE
  rw [if_neg (fun g => g ⟨by omega, by omega, by omega, by omega, hm, hp⟩), if_neg]
  rintro (g | g | g)
  · exact (ho nd hn (by simpa using g)).1 rfl
  · obtain ⟨m, h1, h2, h3⟩ := (s.busy_iff (i : Int)).1 g
    exact (ho m h1 h2).2 h3
  · rw [Int.toNat_natCast, h.lie i hi ht, stamp_image i _ (h.rt i hi)] at g
    have g' : p.l ≤ (old i).l := g
    omega
end Go.Proofs.Ytfeghhgniahfkaa

/-
  The contract of the statements' awake (store).
-/
namespace Go.Proofs.Ytfeghhgniahfkaa
open Go.RowKit
set_option linter.unusedVariables false

def pg5 : Pg := ⟨5, Pg.zero.u, Pg.zero.s⟩
theorem pg5_right : pg5.right := ⟨by unfold pg5 maxP; simp only; omega, fun i _ => ⟨Nat.zero_le _, fun _ => rfl⟩⟩
theorem new_free (k : Nat) : ∀ m, m < 8 → (Sc.new k).out m = true → m ≠ 0 ∧ (Sc.new k).id m ≠ ((1 : Nat) : Int) := fun m _ h => absurd h (by show ¬ false = true; decide)
theorem wE_pg5 : (Sc.new 2).wE ((0 : Nat) : Int) ((1 : Nat) : Int) pg5 15 = 0 := by
  rw [wE_new (Sc.new 2) (fun _ => Pg.zero) (fun _ => none) (Sc.new_ok 2 (by omega)) 0 1 pg5 15 (by omega) (by show 1 < 2; omega) (by omega) pg5_right (new_free 2) rfl (by show 0 < 5; omega), if_pos rfl]

set_option maxRecDepth 4000 in
set_option maxHeartbeats 800000 in
theorem awake10 (w : World) : Calls Try.prog 8 #[] w fun e w' => e = .returned (.bool true) ∧ Below w.heap.size w w' := by
  go_enter Try.func8, Try.ntmps8
  go_wp2_with fail
  refine (knew10 2 w w (Below.refl _ _)).mono ?_
  rintro e w1 ⟨gs, rfl, h1, -⟩
  have H1 := hide (show K10 w w1 gs (Sc.new 2) (fun _ => Pg.zero) (fun _ => none) from h1)
  have HW := hide (H1.out.write ((0 : Nat) : Int) ((1 : Nat) : Int) pg5 15)
  clear h1
  go_wp2_with fail
  refine HW.out.mono ?_
  rintro e w2 ⟨rfl, h2, -⟩
  have eO : wO (Sc.new 2) (fun _ => Pg.zero) ((0 : Nat) : Int) ((1 : Nat) : Int) pg5 15 1 = pg5 := by
    unfold wO
    rw [if_pos (.inl wE_pg5)]
    unfold wOld
    rw [if_pos rfl]
    exact put1_same _ _ _
  have eT : wT (Sc.new 2) (fun _ => none) ((0 : Nat) : Int) ((1 : Nat) : Int) pg5 15 1 = none := by
    unfold wT
    rw [if_pos (.inl wE_pg5)]
    rfl
  have eN : ((Sc.new 2).wS ((0 : Nat) : Int) ((1 : Nat) : Int) pg5 15).n = 2 := Sc.wS_n _ _ _ _ _
  have hr := h2.read 1 (by rw [eN]; omega) eT
  rw [eO] at hr
  have hpg := fun x (hb : Below w2.heap.size w2 x) => (h2.later hb).pages
  rw [eN] at hpg
  have HRd := hide hr
  have HPg := hide hpg
  have HB := hide h2.bel
  rw [wE_pg5]
  clear hr hpg h2 eO eT eN HW H1
  go_wp2_with fail
  refine HRd.out.mono ?_
  rintro e w3 ⟨rfl, hb3⟩
  have H3 := hide hb3
  clear hb3
  go_wp2_with (refine wpList_store_page rfl _ _ rfl w3.heap.size Pg.zero pg5 rfl rfl (heap_alloc_new w3 _) ?_)
  intro w4 hP4 hk
  have hb4 := hk _ _ (H3.out.alloc H3.out.size _) H3.out.size
  have c0 := hP4.lsn
  have HB4 := hide hb4
  clear hP4 hk hb4 H3
  have c0 : w4.cell? ⟨w3.heap.size, 0, none⟩ = some (.int .u64 5) := c0
  go_wp2_with fail
  refine (HPg.out _ HB4.out).mono ?_
  rintro e w5 ⟨rfl, rfl⟩
  go_wp2
  go_ret
  exact ⟨rfl, HB.out.trans (HB4.out.mono HB.out.size)⟩
end Go.Proofs.Ytfeghhgniahfkaa

/-
  Plain facts on stores: who is out behind a call; the document's Mask.
-/
namespace Go.Proofs.Ytfeghhgniahfkaa
open Go.RowKit
set_option linter.unusedVariables false

theorem Sc.mS_other (s : Sc) (node mask : Int) (m : Nat) (h : m ≠ node.toNat) : (s.mS node mask).out m = s.out m := by
  unfold Sc.mS
  split
  · rfl
  · split
    · split
      · exact put1_other _ _ _ _ h
      · rfl
    · exact put1_other _ _ _ _ h
theorem Sc.wS_out15 (s : Sc) (node id : Int) (p : Pg) : (s.wS node id p 15).out = s.out := by
  unfold Sc.wS
  split
  · rfl
  · rfl
theorem Sc.ok.done {s : Sc} {old : Nat → Pg} {tr : Nat → Option (Pg × Bool)} (h : s.ok old tr) (ho : ∀ m, m < 8 → s.out m = false) (i : Nat) (hi : i < s.n) : tr i = none := by
  cases ht : tr i with
  | none => rfl
  | some x =>
    obtain ⟨I, b⟩ := x
    obtain ⟨_, _, _, m, h1, h2, _⟩ := h.tor i I b hi ht
    rw [ho m h1] at h2
    cases h2
theorem Sc.wE_out (s : Sc) (nd i : Nat) (p : Pg) (hn : nd < 8) (hi : i < s.n) (hp : p.right) (h : s.out nd = true ∨ s.busy (i : Int) = true) : s.wE nd i p 15 = 13 := by
  unfold Sc.wE
  rw [if_neg (fun g => g ⟨by omega, by omega, by omega, by omega, by omega, hp⟩), Int.toNat_natCast, if_pos]
  rcases h with h | h
  · exact .inl h
  · exact .inr (.inl h)
set_option maxRecDepth 4000 in
set_option maxHeartbeats 400000 in
theorem rmask10_at (m : Int) (w : World) (r : Bool) (Hr : Hid (r = true ↔ maskOk m)) : Calls Try.prog 19 #[.int .i64 m] w fun e w' => e = .returned (.bool r) ∧ w = w' := by
  go_enter Try.func19, Try.ntmps19
  go_wp2
  all_goals
    go_ret
    refine ⟨?_, rfl⟩
    have hr := Hr.out
    show Ending.returned (.bool _) = Ending.returned (.bool _)
    congr 2
    rw [Bool.eq_iff_iff, hr]
    simp
    omega
theorem rmask10 (m : Int) (w : World) : Calls Try.prog 19 #[.int .i64 m] w fun e w' => e = .returned (.bool (decide (maskOk m))) ∧ w = w' := rmask10_at m w _ decide_eq_true_iff
end Go.Proofs.Ytfeghhgniahfkaa

/-
  The contract of quaysideref04.Right.
-/
namespace Go.Proofs.Ytfeghhgniahfkaa
open Go.RowKit
set_option linter.unusedVariables false

theorem right_no (p : Pg) (j : Nat) (hj : j < 8) (h : ¬ cellOk (p.u j) (p.s j)) : decide p.right = false := by
  rw [decide_eq_false_iff_not]
  intro hp
  exact h (hp.2 j hj)
theorem ok_more {p : Pg} {j : Nat} (h : ∀ k, k < j → cellOk (p.u k) (p.s k)) (hj : cellOk (p.u j) (p.s j)) : ∀ k, k < j + 1 → cellOk (p.u k) (p.s k) := by
  intro k hk
  by_cases hkj : k = j
  · subst hkj
    exact hj
  · exact h k (by omega)

set_option maxRecDepth 4000 in
set_option maxHeartbeats 400000 in
theorem rright_at (p : Pg) (w : World) (r : Bool) (Hr : Hid (decide p.right = r)) :
    Calls Try.prog 18 #[.agg (pgA p)] w fun e w' => e = .returned (.bool r) ∧ Below w.heap.size w w' := by
  have hP : PgAt (w.alloc (.cells (pgA p) 35)) w.heap.size p := heap_alloc_new w _
  have hb0 : Below w.heap.size w (w.alloc (.cells (pgA p) 35)) := (Below.refl _ _).alloc (Nat.le_refl _) _
  have hz0 : w.heap.size < (w.alloc (.cells (pgA p) 35)).heap.size := by simp
  go_enter Try.func18, Try.ntmps18
  go_wp2
  generalize w.alloc (.cells (pgA p) 35) = w0 at *
  go_loopw [3] (fun i wr => ∃ j : Nat, j ≤ 8 ∧ i = .int .i64 j ∧ Below w.heap.size w wr ∧ w.heap.size < wr.heap.size ∧ PgAt wr w.heap.size p ∧ ∀ k, k < j → cellOk (p.u k) (p.s k)) (fun i _ => 8 - (intOf i).toNat)
  case atStart => exact ⟨0, Nat.zero_le _, rfl, hb0, hz0, hP, fun k hk => absurd hk (by omega)⟩
  case round =>
    obtain ⟨j, hj, rfl, hbr, hzr, hPr, hok⟩ := hrel
    clear hP hb0 hz0
    by_cases hlt : j < 8
    · have c1 := hPr.used j hlt
      have c2 := hPr.val j hlt
      have HP := hide hPr
      have HK := hide hok
      clear hPr hok
      have hno := right_no p j hlt
      have hyes := fun (h : cellOk (p.u j) (p.s j)) => ok_more HK.out h
      generalize p.u j = u at *
      generalize p.s j = s at *
      have HN := hide hno
      have HY := hide hyes
      clear hno hyes HK
      by_cases h20 : (s.size : Int) ≤ 20
      · cases u with
        | true =>
          go_wp2
          go_roundw
          case rel => exact ⟨j + 1, by omega, by go_num, hbr.alloc hbr.size _, lt_alloc hzr _, HP.out.alloc hzr _, HY.out ⟨by omega, by simp⟩⟩
          case measure => simp [intOf]; omega
        | false =>
          by_cases he : s.toList.isEmpty = true
          · have he2 := (empty_iff s).1 he
            go_wp2
            go_roundw
            case rel => exact ⟨j + 1, by omega, by go_num, hbr.alloc hbr.size _, lt_alloc hzr _, HP.out.alloc hzr _, HY.out ⟨by omega, fun _ => he2⟩⟩
            case measure => simp [intOf]; omega
          · have he1 : s.toList.isEmpty = false := by simpa using he
            have he2 : ¬ s.size = 0 := fun h => he ((empty_iff s).2 h)
            clear he
            go_wp2
            go_ret
            exact ⟨by rw [← Hr.out, HN.out (fun h => he2 (h.2 rfl))]; rfl, hbr.alloc hbr.size _⟩
      · go_wp2
        go_ret
        exact ⟨by rw [← Hr.out, HN.out (fun h => by have := h.1; omega)]; rfl, hbr.alloc hbr.size _⟩
    · have c1 := hPr.lsn
      obtain rfl : j = 8 := by omega
      have e2 : maxP = 4611686018427387904 := rfl
      have e : decide p.right = decide ((p.l : Int) ≤ 4611686018427387904) := decide_eq_decide.2 ⟨fun h => by have := h.1; omega, fun h => ⟨by omega, hok⟩⟩
      have HE := hide e
      clear hok hPr e e2
      go_wp2
      go_ret
      rw [← Hr.out, HE.out]
      exact ⟨rfl, hbr⟩

/-- THE CONTRACT. -/
theorem rright_any (p : Pg) (w : World) :
    Calls Try.prog 18 #[.agg (pgA p)] w fun e w' => e = .returned (.bool (decide p.right)) ∧ Below w.heap.size w w' := rright_at p w _ (hide rfl)
end Go.Proofs.Ytfeghhgniahfkaa

/-
  The contract of quaysideref01.Number.
-/
namespace Go.Proofs.Ytfeghhgniahfkaa
open Go.RowKit
set_option linter.unusedVariables false

set_option maxRecDepth 4000 in
set_option maxHeartbeats 400000 in
theorem number_any (k n : Nat) (w : World) (h2 : k ≤ 8) (hn : n < 18446744073709551616) :
    Calls Try.prog 55 #[.int .i64 k, .int .u64 n] w fun e w' => e = .returned (.string ⟨(beB k n).toArray⟩) ∧ Below w.heap.size w w' := by
  go_enter Try.func55, Try.ntmps55
  go_wp2
  go_loopw [1, 5, 6] (fun v s i wr => ∃ j : Nat, j ≤ k ∧ i = .int .i64 j ∧ v = .int .u64 (sh n j : Nat) ∧ s = .string ⟨(beB j n).toArray⟩ ∧ Below w.heap.size w wr) (fun _ _ i _ => k - (intOf i).toNat)
  case atStart => exact ⟨0, Nat.zero_le _, rfl, by rw [sh_zero], rfl, Below.refl _ _⟩
  case round =>
    obtain ⟨j, hj, rfl, rfl, rfl, hbr⟩ := hrel
    have hsh : sh n j < 18446744073709551616 := Nat.lt_of_le_of_lt (sh_le n j) hn
    by_cases hlt : j < k
    · have hcv := run_oneByte (P := Try.prog) wr 61 9 5 Try.underlying61 Try.underlying5 Try.underlying9 (((sh n j : Nat) : Int) % 256) (UInt8.ofNat (sh n j)) (by rw [toNat_ofNat]; omega)
      have hln : (beB j n).length = j := beB_length j n
      go_wp2
      go_roundw
      case rel => exact ⟨j + 1, by omega, by go_num, by rw [← sh_succ n j]; go_num, by rw [str_cons], hbr.alloc hbr.size _⟩
      case measure => simp [intOf]; omega
    · go_wp2
      go_ret
      obtain rfl : j = k := by omega
      exact ⟨rfl, hbr⟩
end Go.Proofs.Ytfeghhgniahfkaa

/-
  The contract of quaysideref01.Take: it answers 'takeS' too, over the string's bytes.
-/
namespace Go.Proofs.Ytfeghhgniahfkaa
open Go.RowKit
set_option linter.unusedVariables false

set_option maxRecDepth 4000 in
set_option maxHeartbeats 400000 in
theorem rtake_arg1 (s : ByteArray) (p k : Int) (w : World) (h : k < 1) :
    Calls Try.prog 73 #[.string s, .int .i64 p, .int .i64 k] w fun e w' => e = .returned (.tuple #[.int .u64 0, .int .i64 1]) ∧ w = w' := by
  go_enter Try.func73, Try.ntmps73
  go_wp2
  go_ret2
  exact ⟨rfl, rfl⟩

set_option maxRecDepth 4000 in
set_option maxHeartbeats 400000 in
theorem rtake_arg2 (s : ByteArray) (p k : Int) (w : World) (h : 8 < k) :
    Calls Try.prog 73 #[.string s, .int .i64 p, .int .i64 k] w fun e w' => e = .returned (.tuple #[.int .u64 0, .int .i64 1]) ∧ w = w' := by
  have h1 : ¬ k < 1 := by omega
  go_enter Try.func73, Try.ntmps73
  go_wp2
  go_ret2
  exact ⟨rfl, rfl⟩

set_option maxRecDepth 4000 in
set_option maxHeartbeats 400000 in
theorem rtake_arg3 (s : ByteArray) (p k : Int) (w : World) (h1 : 1 ≤ k) (h2 : k ≤ 8) (h3 : p < 0) :
    Calls Try.prog 73 #[.string s, .int .i64 p, .int .i64 k] w fun e w' => e = .returned (.tuple #[.int .u64 0, .int .i64 1]) ∧ w = w' := by
  have h4 : ¬ k < 1 := by omega
  have h5 : ¬ 8 < k := by omega
  go_enter Try.func73, Try.ntmps73
  go_wp2
  go_ret2
  exact ⟨rfl, rfl⟩

set_option maxRecDepth 4000 in
set_option maxHeartbeats 400000 in
theorem rtake_short1 (s : ByteArray) (p k : Int) (w : World) (h1 : 1 ≤ k) (h2 : k ≤ 8) (h3 : 0 ≤ p) (h4 : (s.size : Int) < p) :
    Calls Try.prog 73 #[.string s, .int .i64 p, .int .i64 k] w fun e w' => e = .returned (.tuple #[.int .u64 0, .int .i64 4]) ∧ w = w' := by
  have h5 : ¬ p < 0 := by omega
  have h6 : ¬ k < 1 := by omega
  have h7 : ¬ 8 < k := by omega
  go_enter Try.func73, Try.ntmps73
  go_wp2
  go_ret2
  exact ⟨rfl, rfl⟩

set_option maxRecDepth 4000 in
set_option maxHeartbeats 400000 in
theorem rtake_short2 (s : ByteArray) (p k : Int) (w : World) (hl : s.size ≤ 9223372036854775807) (h1 : 1 ≤ k) (h2 : k ≤ 8) (h3 : 0 ≤ p) (h4 : p ≤ (s.size : Int)) (h8 : (s.size : Int) - p < k) :
    Calls Try.prog 73 #[.string s, .int .i64 p, .int .i64 k] w fun e w' => e = .returned (.tuple #[.int .u64 0, .int .i64 4]) ∧ w = w' := by
  have h5 : ¬ p < 0 := by omega
  have h6 : ¬ k < 1 := by omega
  have h7 : ¬ 8 < k := by omega
  have h9 : ¬ (s.size : Int) < p := by omega
  go_enter Try.func73, Try.ntmps73
  go_wp2
  go_ret2
  exact ⟨rfl, rfl⟩

set_option maxRecDepth 4000 in
set_option maxHeartbeats 400000 in
theorem rtake_ok (s : ByteArray) (p k : Nat) (w : World) (hl : s.size ≤ 9223372036854775807) (h1 : 1 ≤ k) (h2 : k ≤ 8) (h4 : p + k ≤ s.size) :
    Calls Try.prog 73 #[.string s, .int .i64 p, .int .i64 k] w fun e w' => e = .returned (.tuple #[.int .u64 (beAt s.data.toList p k : Nat), .int .i64 0]) ∧ w = w' := by
  have h3 : ¬ (p : Int) < 0 := by omega
  have h5 : ¬ (s.size : Int) - (p : Int) < (k : Int) := by omega
  have h6 : ¬ (k : Int) < 1 := by omega
  have h7 : ¬ 8 < (k : Int) := by omega
  have h8 : ¬ (s.size : Int) < (p : Int) := by omega
  go_enter Try.func73, Try.ntmps73
  go_wp2
  go_loop [8, 9] (fun n i => ∃ j : Nat, j ≤ k ∧ i = .int .i64 j ∧ n = .int .u64 (beAt s.data.toList p j : Nat)) (fun _ i => k - (intOf i).toNat)
  case atStart => exact ⟨0, Nat.zero_le _, rfl, by rw [beAt_zero]; rfl⟩
  case round =>
    obtain ⟨j, hj, rfl, rfl⟩ := hrel
    by_cases hlt : j < k
    · have hn := beAt_lt7 s.data.toList p j (by omega)
      have hpj : p + j < s.size := by omega
      go_wp2
      go_round
      case rel => exact ⟨j + 1, by omega, by go_num, by rw [rtake_step s p j (by omega) (by omega)]⟩
      case measure => simp [intOf]; omega
    · go_wp2
      go_ret2
      obtain rfl : j = k := by omega
      exact ⟨rfl, rfl⟩

/-- THE CONTRACT. -/
theorem rtake_any (s : ByteArray) (p k : Int) (w : World) (hl : s.size ≤ 9223372036854775807) :
    Calls Try.prog 73 #[.string s, .int .i64 p, .int .i64 k] w fun e w' => e = .returned (.tuple #[.int .u64 (takeS s.data.toList p k).1, .int .i64 (takeS s.data.toList p k).2]) ∧ w = w' := by
  have hs : s.data.toList.length = s.size := by simp
  by_cases h1 : k < 1
  · rw [takeS_arg _ p k (Or.inl h1)]
    exact rtake_arg1 s p k w h1
  by_cases h2 : 8 < k
  · rw [takeS_arg _ p k (Or.inr (Or.inl h2))]
    exact rtake_arg2 s p k w h2
  by_cases h3 : p < 0
  · rw [takeS_arg _ p k (Or.inr (Or.inr h3))]
    exact rtake_arg3 s p k w (by omega) (by omega) h3
  have h0 : ¬ (k < 1 ∨ 8 < k ∨ p < 0) := by omega
  by_cases h4 : (s.data.toList.length : Int) - p < k
  · rw [takeS_short _ p k h0 h4]
    by_cases h5 : (s.size : Int) < p
    · exact rtake_short1 s p k w (by omega) (by omega) (by omega) h5
    · exact rtake_short2 s p k w hl (by omega) (by omega) (by omega) (by omega) (by omega)
  · rw [takeS_ok _ p k h0 h4]
    obtain ⟨pn, rfl⟩ := Int.eq_ofNat_of_zero_le (show 0 ≤ p by omega)
    obtain ⟨kn, rfl⟩ := Int.eq_ofNat_of_zero_le (show 0 ≤ k by omega)
    exact rtake_ok s pn kn w hl (by omega) (by omega) (by omega)
end Go.Proofs.Ytfeghhgniahfkaa

/-
  The contracts of quaysideref02's run, Of and Seal.
-/
namespace Go.Proofs.Ytfeghhgniahfkaa
open Go.RowKit
set_option linter.unusedVariables false

theorem bit_form (s : ByteArray) (j : Nat) (h : j / 8 < s.size) : (IntKind.u64.wrap (s[j / 8].toNat : Int) / 2 ^ (j % 8)).tmod 2 = ((bitAt s.data.toList j).toNat : Int) := by
  have hb : s[j / 8].toNat < 256 := s[j / 8].toNat_lt
  have e : IntKind.u64.wrap (s[j / 8].toNat : Int) = (s[j / 8].toNat : Int) := by rw [IntKind.wrap_u64]; omega
  rw [e, bitAt, getD_str s (j / 8) h, bit_mod]
  have e2 : (s[j / 8].toNat : Int) / 2 ^ (j % 8) = ((s[j / 8].toNat / 2 ^ (j % 8) : Nat) : Int) := by simp
  rw [e2]
  generalize s[j / 8].toNat / 2 ^ (j % 8) = q
  rw [Int.tmod_eq_emod_of_nonneg (by omega)]
  omega

theorem rr_yes (s : ByteArray) (q j : Nat) (hq : q < 2 ^ 32) (h : j / 8 < s.size) (ht : ((q : Int) % 2 != (IntKind.u64.wrap (s[j / 8].toNat : Int) / 2 ^ (j % 8)).tmod 2) = true) :
    bits .xor .u64 ((q : Int) / 2) 3988292384 = ((bst q (bitAt s.data.toList j) : Nat) : Int) := by
  rw [bit_form s j h, bne_iff_ne] at ht
  have e : ((q : Int) / 2) = ((q / 2 : Nat) : Int) := by omega
  have e2 : (3988292384 : Int) = ((3988292384 : Nat) : Int) := rfl
  rw [e, e2, u64_xor_nat (q / 2) 3988292384 (by omega) (by omega), bst_if, if_neg (by omega)]
  rfl

theorem rr_no (s : ByteArray) (q j : Nat) (h : j / 8 < s.size) (ht : ((q : Int) % 2 != (IntKind.u64.wrap (s[j / 8].toNat : Int) / 2 ^ (j % 8)).tmod 2) = false) :
    (q : Int) / 2 = ((bst q (bitAt s.data.toList j) : Nat) : Int) := by
  rw [bit_form s j h, bne_eq_false_iff_eq] at ht
  rw [bst_if, if_pos (by omega)]
  omega

set_option maxRecDepth 4000 in
set_option maxHeartbeats 400000 in
theorem rrun_any (s : ByteArray) (r : Nat) (w : World) (hs : s.size ≤ 140737488355328) (hr : r < 2 ^ 32) :
    Calls Try.prog 80 #[.int .u64 r, .string s] w fun e w' => e = .returned (.int .u64 (crun r s.data.toList : Nat)) ∧ w = w' := by
  go_enter Try.func80, Try.ntmps80
  go_wp2
  go_loop [0, 5] (fun q i => ∃ j : Nat, j ≤ 8 * s.size ∧ i = .int .i64 j ∧ q = .int .u64 (bruns r (bitAt s.data.toList) j : Nat)) (fun _ i => 8 * s.size - (intOf i).toNat)
  case atStart => exact ⟨0, Nat.zero_le _, rfl, rfl⟩
  case round =>
    obtain ⟨j, hj, rfl, rfl⟩ := hrel
    by_cases hlt : j < 8 * s.size
    · have hq := bruns_lt r (bitAt s.data.toList) hr j
      have hjs : j / 8 < s.size := by omega
      go_wp2
      · go_round
        case rel => exact ⟨j + 1, by omega, by go_num, congrArg (Value.int .u64) (rr_yes s _ j hq hjs (by assumption))⟩
        case measure => simp [intOf]; omega
      · go_round
        case rel => exact ⟨j + 1, by omega, by go_num, congrArg (Value.int .u64) (rr_no s _ j hjs (by assumption))⟩
        case measure => simp [intOf]; omega
    · go_wp2
      go_ret
      obtain rfl : j = 8 * s.size := by omega
      have e := crun_bruns r s.data.toList
      rw [data_length] at e
      rw [e]
      exact ⟨rfl, rfl⟩

set_option maxRecDepth 4000 in
set_option maxHeartbeats 400000 in
theorem rof_any (s : ByteArray) (w : World) (hs : s.size ≤ 140737488355328) :
    Calls Try.prog 78 #[.string s] w fun e w' => e = .returned (.int .u32 (crc s.data.toList : Nat)) ∧ w = w' := by
  have hc := crun_lt s.data.toList 4294967295 (by decide)
  have R := rrun_any s 4294967295 w hs (by decide)
  have HR := hide R
  clear R
  go_enter Try.func78, Try.ntmps78
  go_wp2_with fail
  refine HR.out.mono ?_
  rintro e w1 ⟨rfl, rfl⟩
  go_wp2
  go_ret
  exact ⟨congrArg (fun x => Ending.returned (Value.int .u32 x)) (ones_subI _ hc), rfl⟩

set_option maxRecDepth 4000 in
set_option maxHeartbeats 400000 in
theorem rseal_any (s : ByteArray) (w : World) (hs : s.size ≤ 140737488355328) :
    Calls Try.prog 72 #[.string s] w fun e w' => e = .returned (.string ⟨(s.data.toList ++ leB (crc s.data.toList)).toArray⟩) ∧ Below w.heap.size w w' := by
  have hx := crc_lt s.data.toList
  have R := rof_any s w hs
  obtain ⟨x, ex⟩ : ∃ x, x = crc s.data.toList := ⟨_, rfl⟩
  rw [← ex] at R hx
  rw [← ex]
  have HR := hide R
  clear R ex
  go_enter Try.func72, Try.ntmps72
  go_wp2_with fail
  refine HR.out.mono ?_
  rintro e w1 ⟨rfl, rfl⟩
  go_wp2
  go_loopw [3, 4, 5] (fun v o i wr => ∃ j : Nat, j ≤ 4 ∧ i = .int .i64 j ∧ v = .int .u32 (sh x j : Nat) ∧ o = .string ⟨(s.data.toList ++ (leB x).take j).toArray⟩ ∧ Below w.heap.size w wr) (fun _ _ i _ => 4 - (intOf i).toNat)
  case atStart => exact ⟨0, Nat.zero_le _, rfl, by rw [sh_zero], by rw [List.take_zero, List.append_nil, mk_self], Below.refl _ _⟩
  case round =>
    obtain ⟨j, hj, rfl, rfl, rfl, hbr⟩ := hrel
    have hsh : sh x j < 4294967296 := Nat.lt_of_le_of_lt (sh_le x j) hx
    by_cases hlt : j < 4
    · have hcv := run_oneByte (P := Try.prog) wr 61 9 5 Try.underlying61 Try.underlying5 Try.underlying9 (((sh x j : Nat) : Int) % 256) (UInt8.ofNat (sh x j)) (by rw [toNat_ofNat]; omega)
      have hln : ByteArray.size ⟨(s.data.toList ++ (leB x).take j).toArray⟩ + 1 ≤ 9223372036854775807 := by
        have e := size_mk (s.data.toList ++ (leB x).take j)
        rw [List.length_append, data_length, List.length_take] at e
        omega
      have hl1 : ByteArray.size ⟨#[UInt8.ofNat (sh x j)]⟩ = 1 := rfl
      go_wp2
      go_roundw
      case rel => exact ⟨j + 1, by omega, by go_num, by rw [← sh_succ x j]; go_num, by rw [leB_take x j hlt, ← List.append_assoc]; exact congrArg Value.string (mk_append _ [UInt8.ofNat (sh x j)]), hbr.alloc hbr.size _⟩
      case measure => simp [intOf]; omega
    · go_wp2
      go_ret
      obtain rfl : j = 4 := by omega
      exact ⟨rfl, hbr⟩
end Go.Proofs.Ytfeghhgniahfkaa

/-
  The contracts of quaysideref04's functions.
-/
namespace Go.Proofs.Ytfeghhgniahfkaa
open Go.RowKit
set_option linter.unusedVariables false

/-- A string's length. -/
def strLen : Value → Nat
  | .string s => s.size
  | _ => 0

theorem mk_vals (l : List UInt8) (s : ByteArray) : (⟨l.toArray⟩ : ByteArray) ++ s = ⟨(l ++ valB true s).toArray⟩ := by
  have h := mk_append l s.data.toList
  rw [mk_self] at h
  exact h

theorem num1 (n : Nat) (w : World) (hn : n < 256) : ∃ N : ByteArray, N.size = 1 ∧ N = ⟨#[UInt8.ofNat n]⟩ ∧
    ∀ w, Calls Try.prog 55 #[.int .i64 1, .int .u64 n] w fun e w' => e = .returned (.string N) ∧ Below w.heap.size w w' := by
  have e : beB 1 n = [UInt8.ofNat n] := by simp [beB]
  refine ⟨⟨#[UInt8.ofNat n]⟩, rfl, rfl, fun w => ?_⟩
  have h := number_any 1 n w (by omega) (by omega)
  rw [e] at h
  exact h

set_option maxRecDepth 4000 in
set_option maxHeartbeats 400000 in
theorem rtale_any (id : Nat) (p : Pg) (w : World) (hid : id < 32) (hp : p.right) :
    Calls Try.prog 56 #[.int .i64 id, .agg (pgA p)] w fun e w' => e = .returned (.string ⟨(taleB id p).toArray⟩) ∧ Below w.heap.size w w' := by
  have hP : PgAt (w.alloc (.cells (pgA p) 35)) w.heap.size p := heap_alloc_new w _
  have hb0 : Below w.heap.size w (w.alloc (.cells (pgA p) 35)) := (Below.refl _ _).alloc (Nat.le_refl _) _
  have hz0 : w.heap.size < (w.alloc (.cells (pgA p) 35)).heap.size := by simp
  have HR := hide hp
  clear hp
  go_enter Try.func56, Try.ntmps56
  go_wp2_with fail
  generalize w.alloc (.cells (pgA p) 35) = w0 at *
  refine (number_any 2 id w0 (by omega) (by omega)).mono ?_
  rintro e w1 ⟨rfl, hb1⟩
  have hP1 := hP.below hb1 hz0
  have c1 := hb0.trans (hb1.mono hb0.size)
  have hz1 : w.heap.size < w1.heap.size := Nat.lt_of_lt_of_le hz0 hb1.size
  clear hP hb0 hz0 hb1
  go_wp2
  go_loopw [5, 6, 7] (fun s v i wr => ∃ j : Nat, j ≤ 8 ∧ i = .int .i64 j ∧ s = .string ⟨(beB 2 id ++ lensB p j).toArray⟩ ∧ v = .string ⟨(valsB p j).toArray⟩ ∧ Below w.heap.size w wr ∧ w.heap.size < wr.heap.size ∧ PgAt wr w.heap.size p) (fun _ _ i _ => 8 - (intOf i).toNat)
  case atStart => exact ⟨0, Nat.zero_le _, rfl, by simp [lensB], rfl, c1, hz1, hP1⟩
  case round =>
    obtain ⟨j, hj, rfl, rfl, rfl, hbr, hzr, hPr⟩ := hrel
    clear hP1 c1 hz1
    have z1 := size_mk (beB 2 id ++ lensB p j)
    have z2 := size_mk (valsB p j)
    have z3 := valsB_le p HR.out j hj
    rw [List.length_append, beB_length, lensB_length] at z1
    by_cases hlt : j < 8
    · have c1 := hPr.used j hlt
      have c2 := hPr.val j hlt
      have HP := hide hPr
      have HL := hide (lensB_succ p j)
      have HV := hide (valsB_succ p j)
      have hok := HR.out.2 j hlt
      clear hPr
      generalize p.u j = u at *
      generalize p.s j = s at *
      generalize hS : (⟨(beB 2 id ++ lensB p j).toArray⟩ : ByteArray) = S at *
      generalize hV : (⟨(valsB p j).toArray⟩ : ByteArray) = V at *
      have HS := hide hS
      have HV2 := hide hV
      have h20 := hok.1
      clear hS hV hok
      cases u with
      | true =>
        obtain ⟨N, n1, n2, hN⟩ := num1 s.size wr (by omega)
        have HN := hide hN
        have HN2 := hide n2
        clear hN n2
        have hsz : S.size + N.size ≤ 9223372036854775807 := by omega
        have hvz : V.size + s.size ≤ 9223372036854775807 := by omega
        go_wp2_with fail
        refine (HN.out _).mono ?_
        rintro e w2 ⟨rfl, hb2⟩
        have hP2 := HP.out.below hb2 hzr
        have hz2 : w.heap.size < w2.heap.size := Nat.lt_of_lt_of_le hzr hb2.size
        have d2 := hbr.trans (hb2.mono hbr.size)
        have k2 := hP2.val j hlt
        have HP2 := hide hP2
        have hcv : p.s j = s := by
          have := (HP.out.val j hlt).symm.trans c2
          injection this with this
          injection this
        rw [hcv] at k2
        clear hb2 hP2 c1 c2 HN hcv
        go_wp2
        go_roundw
        case rel => exact ⟨j + 1, by omega, by go_num, by rw [HL.out, ← HS.out, HN2.out, ← List.append_assoc]; exact congrArg Value.string (mk_append _ [UInt8.ofNat s.size]), by rw [HV.out, ← HV2.out]; exact congrArg Value.string (mk_vals (valsB p j) s), d2, hz2, HP2.out⟩
        case measure => simp [intOf]; omega
      | false =>
        obtain ⟨N, n1, n2, hN⟩ := num1 255 wr (by omega)
        have HN := hide hN
        have HN2 := hide n2
        clear hN n2
        have hsz : S.size + N.size ≤ 9223372036854775807 := by omega
        go_wp2_with fail
        refine (HN.out _).mono ?_
        rintro e w2 ⟨rfl, hb2⟩
        have hP2 := HP.out.below hb2 hzr
        have hz2 : w.heap.size < w2.heap.size := Nat.lt_of_lt_of_le hzr hb2.size
        have d2 := hbr.trans (hb2.mono hbr.size)
        have HP2 := hide hP2
        clear hb2 hP2 c1 c2 HN
        go_wp2
        go_roundw
        case rel => exact ⟨j + 1, by omega, by go_num, by rw [HL.out, ← HS.out, HN2.out, ← List.append_assoc]; exact congrArg Value.string (mk_append _ [UInt8.ofNat 255]), by rw [HV.out, ← HV2.out]; simp [valB], d2, hz2, HP2.out⟩
        case measure => simp [intOf]; omega
    · obtain rfl : j = 8 := by omega
      have hsz : ByteArray.size ⟨(beB 2 id ++ lensB p 8).toArray⟩ + ByteArray.size ⟨(valsB p 8).toArray⟩ ≤ 9223372036854775807 := by omega
      clear hPr
      have hh := headB_le id p HR.out
      have HB := hide (show bodyB id p = headB id p ++ List.replicate (236 - (headB id p).length) 0 from rfl)
      have HT := hide (show taleB id p = bodyB id p ++ leB (crc (bodyB id p)) from rfl)
      have hbl := bodyB_length id p HR.out
      have hst : (⟨(beB 2 id ++ lensB p 8).toArray⟩ : ByteArray) ++ ⟨(valsB p 8).toArray⟩ = ⟨(headB id p).toArray⟩ := mk_append _ _
      generalize headB id p = hd at *
      generalize bodyB id p = bd at *
      obtain ⟨tl, htl⟩ : ∃ tl, taleB id p = tl := ⟨_, rfl⟩
      rw [htl] at HT
      have HTL := hide htl
      clear htl
      go_wp2
      clear hst hsz z1 z2 z3
      go_loop [5] (fun s => ∃ k : Nat, hd.length + k ≤ 236 ∧ s = .string ⟨(hd ++ List.replicate k 0).toArray⟩) (fun s => 236 - strLen s)
      case atStart => exact ⟨0, by omega, by simp⟩
      case round =>
        obtain ⟨k, hk, rfl⟩ := hrel
        have zk := size_mk (hd ++ List.replicate k 0)
        rw [List.length_append, List.length_replicate] at zk
        have hone : ByteArray.size ⟨#[0]⟩ = 1 := rfl
        by_cases hlt2 : hd.length + k < 236
        · have hmk := mk_append (hd ++ List.replicate k 0) [0]
          have hrep : hd ++ List.replicate (k + 1) 0 = hd ++ List.replicate k 0 ++ [0] := by rw [List.replicate_succ', List.append_assoc]
          have HM := hide (hmk.trans (by rw [← hrep]))
          have zk2 := size_mk (hd ++ List.replicate (k + 1) 0)
          rw [List.length_append, List.length_replicate] at zk2
          have HZ := hide zk2
          clear hmk hrep zk2 HB HT
          have hlt3 : (ByteArray.size ⟨(hd ++ List.replicate k 0).toArray⟩ : Int) < 236 := by omega
          have hlt4 : ByteArray.size ⟨(hd ++ List.replicate k 0).toArray⟩ + 1 ≤ 9223372036854775807 := by omega
          have HK := hide zk
          clear zk
          generalize (⟨(hd ++ List.replicate k 0).toArray⟩ : ByteArray) = S at *
          go_wp2
          go_round
          case rel => exact ⟨k + 1, by omega, congrArg Value.string HM.out⟩
          case measure =>
            have e1 := HM.out
            have e2 := HZ.out
            have e3 := HK.out
            rw [← e1] at e2
            show 236 - (S ++ ⟨#[0]⟩ : ByteArray).size < 236 - S.size
            rw [e2, e3]
            omega
        · obtain rfl : k = 236 - hd.length := by omega
          rw [← HB.out] at zk ⊢
          have R := rseal_any ⟨bd.toArray⟩ wr (by omega)
          have ed : (⟨bd.toArray⟩ : ByteArray).data.toList = bd := rfl
          rw [ed, ← HT.out] at R
          have HS := hide R
          clear R
          have hge : ¬ (ByteArray.size ⟨bd.toArray⟩ : Int) < 236 := by omega
          clear zk HB HT hbl
          generalize (⟨bd.toArray⟩ : ByteArray) = B at *
          go_wp2_with fail
          refine HS.out.mono ?_
          rintro e w3 ⟨rfl, hb3⟩
          go_wp2
          go_ret
          rw [HTL.out]
          exact ⟨rfl, hbr.trans (hb3.mono hbr.size)⟩
end Go.Proofs.Ytfeghhgniahfkaa

/-
  The contracts of quaysideref04's Image, Encode, Torn and Stamp.
-/
namespace Go.Proofs.Ytfeghhgniahfkaa
open Go.RowKit
set_option linter.unusedVariables false

set_option maxRecDepth 4000 in
set_option maxHeartbeats 400000 in
theorem rimage_any (id : Nat) (p : Pg) (w : World) (hid : id < 32) (hp : p.right) :
    Calls Try.prog 27 #[.int .i64 id, .agg (pgA p)] w fun e w' => e = .returned (.string ⟨(imageB id p).toArray⟩) ∧ Below w.heap.size w w' := by
  have hP : PgAt (w.alloc (.cells (pgA p) 35)) w.heap.size p := heap_alloc_new w _
  have hb0 : Below w.heap.size w (w.alloc (.cells (pgA p) 35)) := (Below.refl _ _).alloc (Nat.le_refl _) _
  have hz0 : w.heap.size < (w.alloc (.cells (pgA p) 35)).heap.size := by simp
  have HR := hide hp
  have hl : p.l < 18446744073709551616 := by have := hp.1; unfold maxP at this; omega
  clear hp
  go_enter Try.func27, Try.ntmps27
  go_wp2_with fail
  generalize w.alloc (.cells (pgA p) 35) = w0 at *
  have hPd := pg_drew hP
  have hc := hPd.lsn
  have hbd := hb0.drew
  have ha := hPd.all
  have HPd := hide hPd
  clear hP hb0 hPd hc
  go_region_held3 (fun x => x.cell? ⟨w.heap.size, 0, none⟩ = some (.int .u64 p.l) ∧ x.cell? ⟨w.heap.size, 1, none⟩ = some (.bool (p.u 0)) ∧ x.cell? ⟨w.heap.size, 2, none⟩ = some (.string (p.s 0)) ∧ x.cell? ⟨w.heap.size, 3, none⟩ = some (.bool (p.u 1)) ∧ x.cell? ⟨w.heap.size, 4, none⟩ = some (.string (p.s 1)) ∧ x.cell? ⟨w.heap.size, 5, none⟩ = some (.bool (p.u 2)) ∧ x.cell? ⟨w.heap.size, 6, none⟩ = some (.string (p.s 2)) ∧ x.cell? ⟨w.heap.size, 7, none⟩ = some (.bool (p.u 3)) ∧ x.cell? ⟨w.heap.size, 8, none⟩ = some (.string (p.s 3)) ∧ x.cell? ⟨w.heap.size, 9, none⟩ = some (.bool (p.u 4)) ∧ x.cell? ⟨w.heap.size, 10, none⟩ = some (.string (p.s 4)) ∧ x.cell? ⟨w.heap.size, 11, none⟩ = some (.bool (p.u 5)) ∧ x.cell? ⟨w.heap.size, 12, none⟩ = some (.string (p.s 5)) ∧ x.cell? ⟨w.heap.size, 13, none⟩ = some (.bool (p.u 6)) ∧ x.cell? ⟨w.heap.size, 14, none⟩ = some (.string (p.s 6)) ∧ x.cell? ⟨w.heap.size, 15, none⟩ = some (.bool (p.u 7)) ∧ x.cell? ⟨w.heap.size, 16, none⟩ = some (.string (p.s 7))) (go_keep)
    (first | (go_at_call 55; refine (number_any 8 p.l _ (by omega) hl).mono ?_; rintro e w5 ⟨rfl, hb5⟩; have k2 := HPd.out.below hb5 hz0; have k1 := k2.all; have HK2 := hide k2; clear k2) | (go_at_call 56; refine (rtale_any id p _ hid HR.out).mono ?_; rintro e w6 ⟨rfl, hb6⟩; have k4 := HK2.out.below hb6 (Nat.lt_of_lt_of_le hz0 hb5.size); have k3 := k4.all; clear k4))
  have d6 : Below w.heap.size w w6 := (hbd.trans (hb5.mono hbd.size)).trans (hb6.mono (hbd.trans (hb5.mono hbd.size)).size)
  clear k1 k3 ha HPd HK2 hb5 hb6 hbd hz0 hl
  have zN := size_mk (beB 8 p.l)
  rw [beB_length] at zN
  have zT := size_mk (taleB id p)
  rw [taleB_length id p HR.out] at zT
  have x1 := extract_eq ⟨(taleB id p).toArray⟩ 0 120 (by omega)
  have x2 := extract_eq ⟨(taleB id p).toArray⟩ 120 120 (by omega)
  have ed : (⟨(taleB id p).toArray⟩ : ByteArray).data.toList = taleB id p := rfl
  rw [ed] at x1 x2
  rw [List.drop_zero] at x1
  rw [List.take_of_length_le (by rw [List.length_drop, taleB_length id p HR.out]; omega)] at x2
  have z1 := size_mk ((taleB id p).take 120)
  have z2 := size_mk ((taleB id p).drop 120)
  rw [List.length_take, taleB_length id p HR.out] at z1
  rw [List.length_drop, taleB_length id p HR.out] at z2
  have HE := hide (show imageB id p = beB 8 p.l ++ (taleB id p).take 120 ++ beB 8 p.l ++ (taleB id p).drop 120 from rfl)
  have HE2 := hide (show ((⟨(beB 8 p.l).toArray⟩ : ByteArray) ++ ⟨((taleB id p).take 120).toArray⟩ ++ ⟨(beB 8 p.l).toArray⟩ ++ ⟨((taleB id p).drop 120).toArray⟩ : ByteArray) = ⟨(imageB id p).toArray⟩ by rw [HE.out, mk_append, mk_append, mk_append])
  clear ed HE HR
  generalize (⟨(beB 8 p.l).toArray⟩ : ByteArray) = N at *
  generalize (⟨((taleB id p).take 120).toArray⟩ : ByteArray) = A at *
  generalize (⟨((taleB id p).drop 120).toArray⟩ : ByteArray) = B at *
  generalize (⟨(taleB id p).toArray⟩ : ByteArray) = T at *
  go_wp2_with fail
  go_quiet (fail)
  go_wp2
  go_ret
  rw [← HE2.out]
  exact ⟨rfl, d6.1, d6.2, d6.3, d6.4, d6.5⟩

set_option maxRecDepth 4000 in
set_option maxHeartbeats 400000 in
theorem rtorn_any (s : ByteArray) (w : World) (hs : s.size ≤ 140737488355328) :
    Calls Try.prog 61 #[.string s] w fun e w' => e = .returned (.bool (tornB s.data.toList)) ∧ ∃ m, w' = w.drewN m := by
  by_cases h : s.size = 256
  · have x1 := extract_eq s 0 8 (by omega)
    have x2 := extract_eq s 128 8 (by omega)
    rw [List.drop_zero] at x1
    have e : tornB s.data.toList = decide (s.data.toList.take 8 ≠ (s.data.toList.drop 128).take 8) := by
      unfold tornB
      rw [data_length]
      simp [h]
    have hi : (s.size : Int) = 256 := by omega
    generalize s.data.toList.take 8 = A at *
    generalize (s.data.toList.drop 128).take 8 = B at *
    have hAB : ((⟨A.toArray⟩ : ByteArray).toList != (⟨B.toArray⟩ : ByteArray).toList) = decide (A ≠ B) := by
      rw [ByteArray.toList_eq, ByteArray.toList_eq]
      have ea : ∀ l : List UInt8, (⟨l.toArray⟩ : ByteArray).data.toList = l := fun l => rfl
      rw [ea, ea]
      by_cases hab : A = B <;> simp [hab]
    have HE := hide e
    clear e
    go_enter Try.func61, Try.ntmps61
    go_wp2_with fail
    go_quiet (fail)
    go_wp2
    go_ret
    have e2 : decide (A ≠ B) = !(A == B) := by by_cases hab : A = B <;> simp [hab]
    rw [HE.out, e2]
    exact ⟨rfl, nq, rfl⟩
  · have e : tornB s.data.toList = false := by
      unfold tornB
      rw [data_length]
      simp [h]
    have hi : ((s.size : Int) == 256) = false := by simp; omega
    have HE := hide e
    clear e h
    go_enter Try.func61, Try.ntmps61
    go_wp2_with fail
    go_quiet (fail)
    go_wp2
    go_ret
    rw [HE.out]
    exact ⟨rfl, nq, rfl⟩

theorem quiet_more {f : FuncId} {args : Array Value} {w : World} {n : Nat} {v : Value} (h : ∀ w, Calls Try.prog f args w fun e w' => e = .returned v ∧ ∃ m, w' = w.drewN m) :
    Calls Try.prog f args (w.drewN n) fun e w'' => e = .returned v ∧ ∃ m, w'' = w.drewN m :=
  (h (w.drewN n)).mono fun _ _ ⟨he, m, hm⟩ => ⟨he, n + m, by rw [hm, World.drewN_drewN]⟩

set_option maxRecDepth 4000 in
set_option maxHeartbeats 400000 in
theorem rstamp_any (s : ByteArray) (w : World) (hs : s.size ≤ 140737488355328) :
    Calls Try.prog 59 #[.string s] w fun e w' => e = .returned (.tuple #[.int .u64 (stampB s.data.toList).1, .bool (stampB s.data.toList).2]) ∧ ∃ m, w' = w.drewN m := by
  have hd := data_length s
  have HT := hide (fun w => rtorn_any s w hs)
  by_cases h : s.size = 256
  · have hi : (s.size : Int) = 256 := by omega
    cases ht : tornB s.data.toList with
    | true =>
      have e : stampB s.data.toList = (0, false) := by unfold stampB; rw [ht]; simp
      rw [e]
      have HT2 : Hid (∀ w, Calls Try.prog 61 #[.string s] w fun e w' => e = .returned (.bool true) ∧ ∃ m, w' = w.drewN m) := by
        have := HT.out
        rw [ht] at this
        exact this
      clear HT e ht hd
      go_enter Try.func59, Try.ntmps59
      go_wp2_with fail
      refine (HT2.out _).mono ?_
      rintro e w1 ⟨rfl, nq, rfl⟩
      go_wp2
      go_ret2
      exact ⟨rfl, nq, rfl⟩
    | false =>
      have e : stampB s.data.toList = (beAt s.data.toList 0 8, true) := by unfold stampB; rw [ht, hd]; simp [h]
      rw [e]
      have HT2 : Hid (∀ w, Calls Try.prog 61 #[.string s] w fun e w' => e = .returned (.bool false) ∧ ∃ m, w' = w.drewN m) := by
        have := HT.out
        rw [ht] at this
        exact this
      have et : takeS s.data.toList 0 8 = (((beAt s.data.toList 0 8 : Nat) : Int), 0) := by
        rw [takeS_ok s.data.toList 0 8 (by omega) (by omega)]
        rfl
      have HK := hide (fun w => rtake_any s 0 8 w (by omega))
      have HK2 : Hid (∀ w, Calls Try.prog 73 #[.string s, .int .i64 0, .int .i64 8] w fun e w' => e = .returned (.tuple #[.int .u64 (beAt s.data.toList 0 8 : Nat), .int .i64 0]) ∧ w = w') := by
        have := HK.out
        rw [et] at this
        exact this
      clear HT e ht hd HK et
      go_enter Try.func59, Try.ntmps59
      go_wp2_with fail
      refine (HT2.out _).mono ?_
      rintro e w1 ⟨rfl, nq, rfl⟩
      go_wp2_with fail
      refine (HK2.out _).mono ?_
      rintro e w2 ⟨rfl, rfl⟩
      go_wp2
      go_ret2
      exact ⟨rfl, nq, rfl⟩
  · have e : stampB s.data.toList = (0, false) := by unfold stampB; rw [hd]; simp [h]
    rw [e]
    have hi : ((s.size : Int) != 256) = true := by simp; omega
    clear HT e hd h
    go_enter Try.func59, Try.ntmps59
    go_wp2
    go_ret2
    exact ⟨rfl, 0, rfl⟩
end Go.Proofs.Ytfeghhgniahfkaa

/-
  The contract of quaysideref04's Encode.
-/
namespace Go.Proofs.Ytfeghhgniahfkaa
open Go.RowKit
set_option linter.unusedVariables false

end Go.Proofs.Ytfeghhgniahfkaa

/-
  The contract of quaysideref04's Decode.
-/
namespace Go.Proofs.Ytfeghhgniahfkaa
open Go.RowKit
set_option linter.unusedVariables false

set_option maxRecDepth 4000 in
set_option maxHeartbeats 400000 in
theorem rdec_id (id : Int) (s : ByteArray) (w : World) (h : id < 0 ∨ 31 < id) :
    Calls Try.prog 62 #[.int .i64 id, .string s] w fun e w' => e = .returned (.tuple #[.agg (pgA Pg.zero), .int .i64 1]) ∧ Below w.heap.size w w' := by
  by_cases h1 : id < 0
  · clear h
    go_enter Try.func62, Try.ntmps62
    go_wp2
    exact bodyPost_ret (res_page rfl _ _ w.heap.size Pg.zero rfl (heap_alloc_new w _)) rfl ⟨rfl, (Below.refl _ _).alloc (Nat.le_refl _) _⟩
  · have h2 : 31 < id := by omega
    clear h
    go_enter Try.func62, Try.ntmps62
    go_wp2
    exact bodyPost_ret (res_page rfl _ _ w.heap.size Pg.zero rfl (heap_alloc_new w _)) rfl ⟨rfl, (Below.refl _ _).alloc (Nat.le_refl _) _⟩

set_option maxRecDepth 4000 in
set_option maxHeartbeats 400000 in
theorem rdec_short (id : Int) (s : ByteArray) (w : World) (h1 : ¬ id < 0) (h2 : ¬ 31 < id) (h3 : (s.size : Int) < 256) :
    Calls Try.prog 62 #[.int .i64 id, .string s] w fun e w' => e = .returned (.tuple #[.agg (pgA Pg.zero), .int .i64 4]) ∧ Below w.heap.size w w' := by
  go_enter Try.func62, Try.ntmps62
  go_wp2
  exact bodyPost_ret (res_page rfl _ _ w.heap.size Pg.zero rfl (heap_alloc_new w _)) rfl ⟨rfl, (Below.refl _ _).alloc (Nat.le_refl _) _⟩

set_option maxRecDepth 4000 in
set_option maxHeartbeats 400000 in
theorem rdec_long (id : Int) (s : ByteArray) (w : World) (h1 : ¬ id < 0) (h2 : ¬ 31 < id) (h3 : ¬ (s.size : Int) < 256) (h4 : 256 < (s.size : Int)) :
    Calls Try.prog 62 #[.int .i64 id, .string s] w fun e w' => e = .returned (.tuple #[.agg (pgA Pg.zero), .int .i64 2]) ∧ Below w.heap.size w w' := by
  go_enter Try.func62, Try.ntmps62
  go_wp2
  exact bodyPost_ret (res_page rfl _ _ w.heap.size Pg.zero rfl (heap_alloc_new w _)) rfl ⟨rfl, (Below.refl _ _).alloc (Nat.le_refl _) _⟩

set_option maxRecDepth 4000 in
set_option maxHeartbeats 400000 in
theorem rdec_torn (id : Int) (s : ByteArray) (w : World) (h1 : ¬ id < 0) (h2 : ¬ 31 < id) (h3 : (s.size : Int) = 256) (ht : tornB s.data.toList = true) :
    Calls Try.prog 62 #[.int .i64 id, .string s] w fun e w' => e = .returned (.tuple #[.agg (pgA Pg.zero), .int .i64 14]) ∧ Below w.heap.size w w' := by
  have HT := hide (fun w => rtorn_any s w (by omega))
  rw [ht] at HT
  clear ht
  go_enter Try.func62, Try.ntmps62
  go_wp2_with fail
  refine (HT.out _).mono ?_
  rintro e w1 ⟨rfl, m, rfl⟩
  have hP1 : PgAt ((w.alloc (.cells (pgA Pg.zero) 35)).drewN m) w.heap.size Pg.zero := heap_alloc_new w _
  have hb1 : Below w.heap.size w ((w.alloc (.cells (pgA Pg.zero) 35)).drewN m) := below_dn ((Below.refl w.heap.size w).alloc (Nat.le_refl _) _) m
  have HP1 := hide hP1
  clear hP1 HT
  go_wp2_with (refine wpList_store_page rfl (.tmp 4) (.tmp 32) rfl w.heap.size Pg.zero Pg.zero rfl rfl HP1.out ?_)
  intro w2 hP2 hk
  have HP2 := hide hP2
  have d2 := hk _ _ hb1 (Nat.le_refl _)
  clear hP2 hk hb1 HP1
  go_wp2
  exact bodyPost_ret (res_page rfl _ _ w.heap.size Pg.zero rfl HP2.out) rfl ⟨rfl, d2⟩
end Go.Proofs.Ytfeghhgniahfkaa

/-
  quaysideref04's Decode where the sum is wrong.
-/
namespace Go.Proofs.Ytfeghhgniahfkaa
open Go.RowKit
set_option linter.unusedVariables false

theorem tale_str (s : ByteArray) (h : s.size = 256) : s.extract 8 128 ++ s.extract 136 s.size = ⟨(taleOf s.data.toList).toArray⟩ := by
  have x1 := extract_eq s 8 120 (by omega)
  have x2 := extract_eq s 136 120 (by omega)
  rw [h]
  rw [List.take_of_length_le (by rw [List.length_drop, data_length]; omega)] at x2
  rw [x1, x2, mk_append]
  rfl

set_option maxRecDepth 4000 in
set_option maxHeartbeats 3200000 in
theorem rdec_sum (id : Int) (s : ByteArray) (w : World) (h1 : ¬ id < 0) (h2 : ¬ 31 < id) (h3 : s.size = 256) (ht : tornB s.data.toList = false)
    (hs : ¬ leN ((taleOf s.data.toList).drop 236) = crc ((taleOf s.data.toList).take 236)) :
    Calls Try.prog 62 #[.int .i64 id, .string s] w fun e w' => e = .returned (.tuple #[.agg (pgA Pg.zero), .int .i64 3]) ∧ Below w.heap.size w w' := by
  have HT := hide (fun w => rtorn_any s w (by omega))
  rw [ht] at HT
  have h4 : (s.size : Int) = 256 := by omega
  have htl := taleOf_length s.data.toList (by rw [data_length]; exact h3)
  have xt := tale_str s h3
  have e := extract_eq ⟨(taleOf s.data.toList).toArray⟩ 0 236 (by rw [size_mk]; omega)
  have ed : (⟨(taleOf s.data.toList).toArray⟩ : ByteArray).data.toList = taleOf s.data.toList := rfl
  rw [ed, List.drop_zero, Nat.zero_add] at e
  have R := fun w => rseal_any ⟨((taleOf s.data.toList).take 236).toArray⟩ w (by rw [size_mk, List.length_take]; omega)
  have ed2 : (⟨((taleOf s.data.toList).take 236).toArray⟩ : ByteArray).data.toList = (taleOf s.data.toList).take 236 := rfl
  rw [ed2] at R
  have hne : ¬ (taleOf s.data.toList).take 236 ++ leB (crc ((taleOf s.data.toList).take 236)) = taleOf s.data.toList := by
    intro h
    have h5 := (seal_eq_iff (taleOf s.data.toList) (by omega)).1
    rw [htl] at h5
    exact hs (h5 h)
  have hne2 := ne_list2 ⟨(taleOf s.data.toList).toArray⟩ _ (by rw [ed]; exact hne)
  have zT := size_mk (taleOf s.data.toList)
  rw [htl] at zT
  have HS := hide R
  clear R ed ed2 hne hs ht htl h3
  generalize (⟨((taleOf s.data.toList).take 236 ++ leB (crc ((taleOf s.data.toList).take 236))).toArray⟩ : ByteArray) = X at *
  generalize (⟨((taleOf s.data.toList).take 236).toArray⟩ : ByteArray) = B at *
  generalize (⟨(taleOf s.data.toList).toArray⟩ : ByteArray) = T at *
  go_enter Try.func62, Try.ntmps62
  go_wp2_with fail
  refine (HT.out _).mono ?_
  rintro e w1 ⟨rfl, m, rfl⟩
  have hP1 : PgAt ((w.alloc (.cells (pgA Pg.zero) 35)).drewN m) w.heap.size Pg.zero := heap_alloc_new w _
  have hb1 : Below w.heap.size w ((w.alloc (.cells (pgA Pg.zero) 35)).drewN m) := below_dn ((Below.refl w.heap.size w).alloc (Nat.le_refl _) _) m
  have hz1 : w.heap.size < ((w.alloc (.cells (pgA Pg.zero) 35)).drewN m).heap.size := (by simp : w.heap.size < (w.alloc (.cells (pgA Pg.zero) 35)).heap.size)
  have HP1 := hide (And.intro hP1 (And.intro hb1 hz1))
  clear hP1 hb1 hz1 HT
  refine gen_world (fun x => Hid (PgAt x w.heap.size Pg.zero ∧ Below w.heap.size w x ∧ w.heap.size < x.heap.size)) HP1 ?_
  clear HP1
  intro w1 HP1
  go_wp2_with fail
  go_quiet (fail)
  have HP2 : Hid (PgAt (w1.drewN nq) w.heap.size Pg.zero ∧ Below w.heap.size w (w1.drewN nq) ∧ w.heap.size < (w1.drewN nq).heap.size) := ⟨HP1.out.1, below_dn HP1.out.2.1 nq, HP1.out.2.2⟩
  generalize w1.drewN nq = w2 at *
  clear HP1
  go_wp2_with fail
  refine (HS.out _).mono ?_
  rintro e w3 ⟨rfl, hb3⟩
  have hP3 := HP2.out.1.below hb3 HP2.out.2.2
  have d3 := HP2.out.2.1.trans (hb3.mono HP2.out.2.1.size)
  have HP3 := hide hP3
  clear hP3 hb3 HP2 HS
  go_wp2_with (refine wpList_store_page rfl (.tmp 4) (.tmp 43) rfl w.heap.size Pg.zero Pg.zero rfl rfl HP3.out ?_)
  intro w4 hP4 hk
  have HP4 := hide hP4
  have d4 := hk _ _ d3 (Nat.le_refl _)
  clear hP4 hk d3 HP3
  go_wp2
  exact bodyPost_ret (res_page rfl _ _ w.heap.size Pg.zero rfl HP4.out) rfl ⟨rfl, d4⟩
end Go.Proofs.Ytfeghhgniahfkaa

/-
  quaysideref04's Decode where the sum is right.
-/
namespace Go.Proofs.Ytfeghhgniahfkaa
open Go.RowKit
set_option linter.unusedVariables false

/-- Two pages in memory: the result's and the variable's. -/
def Two (w : World) (g gp : Nat) (q : Pg) (x : World) : Prop := PgAt x g Pg.zero ∧ PgAt x gp q ∧ Below g w x ∧ gp < x.heap.size
theorem two_setL {w x : World} {g gp : Nat} {q : Pg} (h : PgAt x g Pg.zero ∧ PgAt x gp q ∧ Below g w x ∧ gp < x.heap.size) (hg : g < gp) (n : Nat) : Two w g gp ⟨n, q.u, q.s⟩ (x.setCell ⟨gp, 0, none⟩ (.int .u64 n)) := by
  refine ⟨h.1.other _ _ (by simp; omega), ?_, ?_, ?_⟩
  · have h1 := heap_setCell_same x gp 0 _ _ (.int .u64 n) h.2.1
    exact h1
  · exact h.2.2.1.setCell (Nat.le_of_lt hg) _
  · simpa using h.2.2.2

theorem two_zero {w x : World} {g gp : Nat} {bs : List UInt8} (h : Two w g gp ⟨beAt bs 0 8, Pg.zero.u, Pg.zero.s⟩ x) : Two w g gp (prefP bs 0) x := by
  refine ⟨h.1, ?_, h.2.2⟩
  have h1 := h.2.1
  unfold PgAt at h1 ⊢
  rw [pref_zero]
  exact h1
theorem two_skip {w x : World} {g gp j : Nat} {bs : List UInt8} (h : Two w g gp (prefP bs j) x) (hu : usedAt (taleOf bs) j = false) : Two w g gp (prefP bs (j + 1)) x := by
  refine ⟨h.1, ?_, h.2.2⟩
  have h1 := h.2.1
  unfold PgAt at h1 ⊢
  rw [pref_skip bs j hu]
  exact h1
theorem len_more {t : List UInt8} {j : Nat} (h : ∀ k, k < j → lenAt t k ≤ 20) (hj : lenAt t j ≤ 20) : ∀ k, k < j + 1 → lenAt t k ≤ 20 := by
  intro k hk
  by_cases hkj : k = j
  · subst hkj
    exact hj
  · exact h k (by omega)

theorem two_more {w x : World} {g gp j : Nat} {bs : List UInt8} (h : Two w g gp (prefP bs j) x) (hg : g < gp) (hj : j < 8) (hu : usedAt (taleOf bs) j = true) :
    Two w g gp (prefP bs (j + 1)) ((x.setCell ⟨gp, 1 + j * 2, none⟩ (.bool true)).setCell ⟨gp, 1 + j * 2 + 1, none⟩ (.string (cutAt (taleOf bs) j))) := by
  refine ⟨(h.1.other _ _ (by simp; omega)).other _ _ (by simp; omega), ?_, (h.2.2.1.setCell (Nat.le_of_lt hg) _).setCell (Nat.le_of_lt hg) _, by simpa using h.2.2.2⟩
  have h1 := heap_setCell_same x gp (1 + j * 2) _ _ (.bool true) h.2.1
  have h2 := heap_setCell_same _ gp (1 + j * 2 + 1) _ _ (.string (cutAt (taleOf bs) j)) h1
  rw [pgA_set _ j hj, pref_more bs j hu] at h2
  exact h2

theorem two_scan {w x : World} {g gp : Nat} {bs : List UInt8} (h : Two w g gp (prefP bs 8) x) : Two w g gp (scanP bs) x := by
  refine ⟨h.1, ?_, h.2.2⟩
  have h1 := h.2.1
  unfold PgAt at h1 ⊢
  rw [same_pgA (pref_full bs)] at h1
  exact h1

theorem Two.later {w x y : World} {g gp : Nat} {q : Pg} (h : Two w g gp q x) (hb : Below x.heap.size x y) (hg : g < gp) : Two w g gp q y :=
  ⟨h.1.below hb (Nat.lt_trans hg h.2.2.2), h.2.1.below hb h.2.2.2, h.2.2.1.trans (hb.mono (Nat.le_of_lt (Nat.lt_trans hg h.2.2.2))), Nat.lt_of_lt_of_le h.2.2.2 hb.size⟩

set_option maxRecDepth 4000 in
set_option maxHeartbeats 400000 in
theorem rdec_rest (id : Nat) (s : ByteArray) (w : World) (hid : id < 32) (h3 : s.size = 256) (ht : tornB s.data.toList = false)
    (hs : leN ((taleOf s.data.toList).drop 236) = crc ((taleOf s.data.toList).take 236)) :
    Calls Try.prog 62 #[.int .i64 id, .string s] w fun e w' => e = .returned (.tuple #[.agg (pgA (decP id s.data.toList)), .int .i64 (decE id s.data.toList)]) ∧ Below w.heap.size w w' := by
  have HT := hide (fun w => rtorn_any s w (by omega))
  rw [ht] at HT
  have h4 : (s.size : Int) = 256 := by omega
  have h1 : ¬ (id : Int) < 0 := by omega
  have h2 : ¬ 31 < (id : Int) := by omega
  have htl := taleOf_length s.data.toList (by rw [data_length]; exact h3)
  have xt := tale_str s h3
  have e := extract_eq ⟨(taleOf s.data.toList).toArray⟩ 0 236 (by rw [size_mk]; omega)
  have ed : (⟨(taleOf s.data.toList).toArray⟩ : ByteArray).data.toList = taleOf s.data.toList := rfl
  rw [ed, List.drop_zero, Nat.zero_add] at e
  have R := fun w => rseal_any ⟨((taleOf s.data.toList).take 236).toArray⟩ w (by rw [size_mk, List.length_take]; omega)
  have ed2 : (⟨((taleOf s.data.toList).take 236).toArray⟩ : ByteArray).data.toList = (taleOf s.data.toList).take 236 := rfl
  rw [ed2] at R
  have heq : (taleOf s.data.toList).take 236 ++ leB (crc ((taleOf s.data.toList).take 236)) = taleOf s.data.toList := by
    have h5 := (seal_eq_iff (taleOf s.data.toList) (by omega)).2
    rw [htl] at h5
    exact h5 hs
  rw [heq] at R
  have zT := size_mk (taleOf s.data.toList)
  rw [htl] at zT
  have HS := hide R
  obtain ⟨T, hT⟩ : ∃ T : ByteArray, T = ⟨(taleOf s.data.toList).toArray⟩ := ⟨_, rfl⟩
  rw [← hT] at HS xt e zT
  have hne2 : (T.toList == T.toList) = true := by simp
  have HTT := hide hT
  have et : takeS s.data.toList 0 8 = (((beAt s.data.toList 0 8 : Nat) : Int), 0) := by
    rw [takeS_ok s.data.toList 0 8 (by omega) (by rw [data_length]; omega)]
    rfl
  have K := fun w => rtake_any s 0 8 w (by omega)
  rw [et] at K
  have HK := hide K
  have H3 := hide h3
  have HD := hide (dec_last id s.data.toList (by omega) (by rw [data_length]; exact h3) ht hs)
  clear R ed ed2 hs ht htl heq hT et K h3
  generalize (⟨((taleOf s.data.toList).take 236).toArray⟩ : ByteArray) = B at *
  go_enter Try.func62, Try.ntmps62
  go_wp2_with fail
  refine (HT.out _).mono ?_
  rintro e w1 ⟨rfl, m, rfl⟩
  have hP1 : PgAt ((w.alloc (.cells (pgA Pg.zero) 35)).drewN m) w.heap.size Pg.zero := heap_alloc_new w _
  have hb1 : Below w.heap.size w ((w.alloc (.cells (pgA Pg.zero) 35)).drewN m) := below_dn ((Below.refl w.heap.size w).alloc (Nat.le_refl _) _) m
  have hz1 : w.heap.size < ((w.alloc (.cells (pgA Pg.zero) 35)).drewN m).heap.size := (by simp : w.heap.size < (w.alloc (.cells (pgA Pg.zero) 35)).heap.size)
  have HP1 := hide (And.intro hP1 (And.intro hb1 hz1))
  clear hP1 hb1 hz1 HT
  refine gen_world (fun x => Hid (PgAt x w.heap.size Pg.zero ∧ Below w.heap.size w x ∧ w.heap.size < x.heap.size)) HP1 ?_
  clear HP1
  intro w1 HP1
  go_wp2_with fail
  go_quiet (fail)
  have HP2 : Hid (PgAt (w1.drewN nq) w.heap.size Pg.zero ∧ Below w.heap.size w (w1.drewN nq) ∧ w.heap.size < (w1.drewN nq).heap.size) := ⟨HP1.out.1, below_dn HP1.out.2.1 nq, HP1.out.2.2⟩
  generalize w1.drewN nq = w2 at *
  clear HP1
  go_wp2_with fail
  refine (HS.out _).mono ?_
  rintro e w3 ⟨rfl, hb3⟩
  have hP3 := HP2.out.1.below hb3 HP2.out.2.2
  have d3 := HP2.out.2.1.trans (hb3.mono HP2.out.2.1.size)
  have z3 : w.heap.size < w3.heap.size := Nat.lt_of_lt_of_le HP2.out.2.2 hb3.size
  have HP3 := hide (And.intro hP3 (And.intro d3 z3))
  clear hP3 hb3 HP2 HS d3 z3
  go_wp2_with fail
  obtain ⟨gp, hgp⟩ : ∃ g, g = w3.heap.size := ⟨_, rfl⟩
  rw [← hgp]
  have hg0 : w.heap.size < gp := by rw [hgp]; exact HP3.out.2.2
  have HQ : Hid (PgAt (w3.alloc (.cells (pgA Pg.zero) 35)) w.heap.size Pg.zero ∧ PgAt (w3.alloc (.cells (pgA Pg.zero) 35)) gp Pg.zero ∧ Below w.heap.size w (w3.alloc (.cells (pgA Pg.zero) 35)) ∧ gp < (w3.alloc (.cells (pgA Pg.zero) 35)).heap.size) :=
    ⟨HP3.out.1.alloc HP3.out.2.2 _, by rw [hgp]; exact heap_alloc_new w3 _, HP3.out.2.1.alloc HP3.out.2.1.size _, by rw [hgp]; simp⟩
  refine gen_calls (fun x => Hid (PgAt x w.heap.size Pg.zero ∧ PgAt x gp Pg.zero ∧ Below w.heap.size w x ∧ gp < x.heap.size)) HQ ?_
  clear HQ HP3 hgp
  clear w2 w3
  intro w4 HQ
  refine (HK.out _).mono ?_
  rintro e w5 ⟨rfl, rfl⟩
  have c0 := HQ.out.2.1.lsn
  have f0 := HQ.out.2.1.free 0
  have HQ5 := hide (two_zero (two_setL HQ.out hg0 (beAt s.data.toList 0 8)))
  clear HK HQ
  go_wp2_with fail
  refine gen_wp (fun x => Hid (Two w w.heap.size gp (prefP s.data.toList 0) x)) HQ5 ?_
  clear HQ5 c0 f0
  clear w4
  intro w5 HQ5
  go_loopw [8, 9] (fun a i wr => ∃ j : Nat, j ≤ 8 ∧ i = .int .i64 j ∧ a = .int .i64 (posAt (taleOf s.data.toList) j : Nat) ∧ Two w w.heap.size gp (prefP s.data.toList j) wr ∧ (∀ k, k < j → lenAt (taleOf s.data.toList) k ≤ 20)) (fun _ i _ => 8 - (intOf i).toNat)
  case atStart => exact ⟨0, Nat.zero_le _, rfl, rfl, HQ5.out, fun k hk => absurd hk (by omega)⟩
  case round =>
    obtain ⟨j, hj, rfl, rfl, hq, hlen⟩ := hrel
    clear HQ5
    have HQ := hide hq
    have HLN := hide hlen
    have hpl := pos_le _ _ hlen
    clear hq hlen
    by_cases hlt : j < 8
    · have hm := nAt_str s T HTT.out j (by omega)
      have hm2 : T[2 + j].toNat < 256 := T[2 + j].toNat_lt
      obtain ⟨mm, hmm⟩ : ∃ mm, nAt (taleOf s.data.toList) j = mm := ⟨_, rfl⟩
      rw [hmm] at hm
      rw [hm] at hm2
      have HMM := hide hmm
      clear hmm
      by_cases h255 : mm = 255
      · subst h255
        have hl := len_unused _ _ HMM.out
        have HN := hide (two_skip HQ.out hl.2)
        have HP := hide (show posAt (taleOf s.data.toList) (j + 1) = posAt (taleOf s.data.toList) j by rw [posAt, hl.1]; rfl)
        have HL2 := hide (len_more HLN.out (show lenAt (taleOf s.data.toList) j ≤ 20 by omega))
        clear hl HQ HLN
        generalize posAt (taleOf s.data.toList) j = pp at *
        go_wp2
        go_roundw
        case rel => exact ⟨j + 1, by omega, by go_num, by rw [HP.out], HN.out, HL2.out⟩
        case measure => simp [intOf]; omega
      · have hl := len_used _ _ mm HMM.out h255
        by_cases h20 : 20 < mm
        · have hw := scan_wrong s.data.toList j (by rw [data_length]; exact H3.out) hlt HLN.out (by rw [hl.1]; exact h20)
          have he : decE id s.data.toList = 2 := by rw [HD.out, if_neg (fun h => hw h.1)]
          have hp : decP id s.data.toList = Pg.zero := decP_no _ _ (by rw [he]; decide)
          have HE := hide (And.intro he hp)
          have h5 : ((mm : Int) == 255) = false := by simp; omega
          have h6 : (20 : Int) < (mm : Int) := by omega
          have HQ1 := hide HQ.out.1
          have hb1 := HQ.out.2.2.1
          clear hw he hp hl HQ HLN h255 HD
          generalize posAt (taleOf s.data.toList) j = pp at *
          go_wp2_with (refine wpList_store_page rfl (.tmp 4) (.tmp 63) rfl w.heap.size Pg.zero Pg.zero rfl rfl HQ1.out ?_)
          intro w6 hP6 hk
          have HP6 := hide hP6
          have d6 := hk _ _ hb1 (Nat.le_refl _)
          clear hP6 hk hb1 HQ1
          go_wp2
          rw [HE.out.1, HE.out.2]
          exact bodyPost_ret (res_page rfl _ _ w.heap.size Pg.zero rfl HP6.out) rfl ⟨rfl, d6⟩
        · have h5 : ((mm : Int) == 255) = false := by simp; omega
          have h6 : ¬ (20 : Int) < (mm : Int) := by omega
          have hcut := cut_str s T HTT.out j (by rw [hl.1]; omega)
          have HP := hide (show posAt (taleOf s.data.toList) (j + 1) = posAt (taleOf s.data.toList) j + mm by rw [posAt, hl.1])
          have HL2 := hide (len_more HLN.out (show lenAt (taleOf s.data.toList) j ≤ 20 by omega))
          rw [hl.1] at hcut
          have HN := hide (two_more HQ.out hg0 hlt hl.2)
          have c1 := HQ.out.2.1.used j hlt
          have c2 := HQ.out.2.1.val j hlt
          have f1 := HQ.out.2.1.free (1 + j * 2)
          have f2 := HQ.out.2.1.free (1 + j * 2 + 1)
          clear hl HLN h255 HD HQ
          generalize posAt (taleOf s.data.toList) j = pp at *
          generalize cutAt (taleOf s.data.toList) j = C at *
          go_wp2
          go_roundw
          case rel => exact ⟨j + 1, by omega, by go_num, by rw [HP.out]; go_num, HN.out, HL2.out⟩
          case measure => simp [intOf]; omega
    · obtain rfl : j = 8 := by omega
      have HS8 := hide (two_scan HQ.out)
      clear HQ HLN hpl hlt hj
      generalize posAt (taleOf s.data.toList) 8 = pp at *
      have R := fun w => rright_any (scanP s.data.toList) w
      by_cases hr : (scanP s.data.toList).right
      · rw [decide_eq_true hr] at R
        have HR := hide R
        have HI := hide (fun w => rimage_any id (scanP s.data.toList) w hid hr)
        clear R
        go_wp2_with (refine wpList_load_page rfl (.tmp 7) rfl gp rfl (scanP s.data.toList) HS8.out.2.1 ?_)
        refine (HR.out _).mono ?_
        rintro e w7 ⟨rfl, hb7⟩
        have HS7 := hide (HS8.out.later hb7 hg0)
        clear HS8 hb7 HR
        go_wp2_with (refine wpList_load_page rfl (.tmp 7) rfl gp rfl (scanP s.data.toList) HS7.out.2.1 ?_)
        refine (HI.out _).mono ?_
        rintro e w8 ⟨rfl, hb8⟩
        have HS9 := hide (HS7.out.later hb8 hg0)
        clear HS7 hb8 HI
        by_cases hi : imageB id (scanP s.data.toList) = s.data.toList
        · have he : decE id s.data.toList = 0 := by rw [HD.out, if_pos ⟨hr, by simpa using hi⟩]
          have hp : decP id s.data.toList = scanP s.data.toList := by unfold decP; rw [if_pos he]
          have HE := hide (And.intro he hp)
          have hx : (⟨(imageB id (scanP s.data.toList)).toArray⟩ : ByteArray) = s := by rw [hi, mk_self]
          have hne3 : (s.toList == s.toList) = true := by simp
          rw [hx]
          clear he hp HD hi hx
          go_wp2_with (first | (refine wpList_load_page rfl (.tmp 7) rfl gp rfl (scanP s.data.toList) HS9.out.2.1 ?_) | (refine wpList_store_page rfl (.tmp 4) (.tmp 88) rfl w.heap.size Pg.zero (scanP s.data.toList) rfl rfl HS9.out.1 ?_))
          intro w10 hP10 hk
          have HP10 := hide hP10
          have d10 := hk _ _ HS9.out.2.2.1 (Nat.le_refl _)
          clear hP10 hk HS9
          go_wp2
          rw [HE.out.1, HE.out.2]
          exact bodyPost_ret (res_page rfl _ _ w.heap.size (scanP s.data.toList) rfl HP10.out) rfl ⟨rfl, d10⟩
        · have he : decE id s.data.toList = 2 := by rw [HD.out, if_neg (fun h => hi (by simpa using h.2))]
          have hp : decP id s.data.toList = Pg.zero := decP_no _ _ (by rw [he]; decide)
          have HE := hide (And.intro he hp)
          have hne3 := ne_list2 s _ hi
          generalize (⟨(imageB id (scanP s.data.toList)).toArray⟩ : ByteArray) = I at *
          clear he hp HD hi
          go_wp2_with (first | (refine wpList_load_page rfl (.tmp 7) rfl gp rfl (scanP s.data.toList) HS9.out.2.1 ?_) | (refine wpList_store_page rfl (.tmp 4) (.tmp 87) rfl w.heap.size Pg.zero Pg.zero rfl rfl HS9.out.1 ?_))
          intro w10 hP10 hk
          have HP10 := hide hP10
          have d10 := hk _ _ HS9.out.2.2.1 (Nat.le_refl _)
          clear hP10 hk HS9
          go_wp2
          rw [HE.out.1, HE.out.2]
          exact bodyPost_ret (res_page rfl _ _ w.heap.size Pg.zero rfl HP10.out) rfl ⟨rfl, d10⟩
      · rw [decide_eq_false hr] at R
        have HR := hide R
        have he : decE id s.data.toList = 2 := by rw [HD.out, if_neg (fun h => hr h.1)]
        have hp : decP id s.data.toList = Pg.zero := decP_no _ _ (by rw [he]; decide)
        have HE := hide (And.intro he hp)
        clear R he hp HD
        go_wp2_with (refine wpList_load_page rfl (.tmp 7) rfl gp rfl (scanP s.data.toList) HS8.out.2.1 ?_)
        refine (HR.out _).mono ?_
        rintro e w7 ⟨rfl, hb7⟩
        have HS7 := hide (HS8.out.later hb7 hg0)
        clear HS8 hb7 HR
        go_wp2_with (first | (refine wpList_load_page rfl (.tmp 7) rfl gp rfl (scanP s.data.toList) HS7.out.2.1 ?_) | (refine wpList_store_page rfl (.tmp 4) (.tmp 87) rfl w.heap.size Pg.zero Pg.zero rfl rfl HS7.out.1 ?_))
        intro w10 hP10 hk
        have HP10 := hide hP10
        have d10 := hk _ _ HS7.out.2.2.1 (Nat.le_refl _)
        clear hP10 hk HS7
        go_wp2
        rw [HE.out.1, HE.out.2]
        exact bodyPost_ret (res_page rfl _ _ w.heap.size Pg.zero rfl HP10.out) rfl ⟨rfl, d10⟩

/-- THE CONTRACT. -/
theorem rdec_any (id : Int) (s : ByteArray) (w : World) (hz : s.size ≤ 140737488355328) :
    Calls Try.prog 62 #[.int .i64 id, .string s] w fun e w' => e = .returned (.tuple #[.agg (pgA (decP id s.data.toList)), .int .i64 (decE id s.data.toList)]) ∧ Below w.heap.size w w' := by
  have hd := data_length s
  by_cases h : 0 ≤ id ∧ id ≤ 31
  · obtain ⟨n, rfl⟩ := Int.eq_ofNat_of_zero_le h.1
    have h1 : ¬ ((n : Int) < 0) := by omega
    have h2 : ¬ (31 < (n : Int)) := by omega
    by_cases h3 : s.size < 256
    · have e : decE n s.data.toList = 4 := by unfold decE; rw [if_neg (by simpa using h), if_pos (by omega)]
      rw [decP_no n s.data.toList (by rw [e]; decide), e]
      exact rdec_short n s w h1 h2 (by omega)
    · by_cases h4 : 256 < s.size
      · have e : decE n s.data.toList = 2 := by unfold decE; rw [if_neg (by simpa using h), if_neg (by omega), if_pos (by omega)]
        rw [decP_no n s.data.toList (by rw [e]; decide), e]
        exact rdec_long n s w h1 h2 (by omega) (by omega)
      · cases ht : tornB s.data.toList with
        | true =>
          have e : decE n s.data.toList = 14 := by unfold decE; rw [if_neg (by simpa using h), if_neg (by omega), if_neg (by omega), if_pos ht]
          rw [decP_no n s.data.toList (by rw [e]; decide), e]
          exact rdec_torn n s w h1 h2 (by omega) ht
        | false =>
          by_cases hs : leN ((taleOf s.data.toList).drop 236) = crc ((taleOf s.data.toList).take 236)
          · exact rdec_rest n s w (by omega) (by omega) ht hs
          · have e : decE n s.data.toList = 3 := by unfold decE; rw [if_neg (by simpa using h), if_neg (by omega), if_neg (by omega), if_neg (by simp [ht]), if_pos hs]
            rw [decP_no n s.data.toList (by rw [e]; decide), e]
            exact rdec_sum n s w h1 h2 (by omega) ht hs
  · have e : decE id s.data.toList = 1 := by unfold decE; rw [if_pos h]
    rw [decP_no id s.data.toList (by rw [e]; decide), e]
    exact rdec_id id s w (by omega)
end Go.Proofs.Ytfeghhgniahfkaa

/-
  The document's store in memory, and its small functions: node, there, Read.
-/
namespace Go.Proofs.Ytfeghhgniahfkaa
open Go.RowKit
set_option linter.unusedVariables false

/-- A node's cells. -/
def arD (b : List UInt8) (i : Int) (o : Bool) : List Value := [.string ⟨b.toArray⟩, .bool o, .int .i64 i]
/-- The document's store's block. -/
structure DB (cs : Array Value) (gp c : Nat) (s : Sc) : Prop where
  size : cs.size = 25
  sl : cs[0]? = some (.slice (some ⟨gp, 0, none⟩) s.n c)
  ar : ∀ m, m < 8 → Lies cs (1 + m * 3) (arD (s.ar m) (s.id m) (s.out m))
/-- Its places' row. -/
def DP (ps : Array Value) (s : Sc) : Prop := ∀ i, i < s.n → ps[i]? = some (.string ⟨(s.pl i).toArray⟩)
structure DV (w : World) (gs gp c : Nat) (s : Sc) (cs ps : Array Value) : Prop where
  st : RowAt w gs 83 cs
  sb : DB cs gp c s
  pr : RowAt w gp 9 ps
  pb : DP ps s
  n : s.n ≤ 32
  le : ∀ i, i < s.n → (s.pl i).length = 256
section
variable {w x : World} {gs gp c : Nat} {s : Sc} {cs ps : Array Value}
theorem DV.keep (h : DV w gs gp c s cs ps) (h1 : x.heap[gs]? = w.heap[gs]?) (h2 : x.heap[gp]? = w.heap[gp]?) : DV x gs gp c s cs ps := ⟨h1.trans h.st, h.sb, h2.trans h.pr, h.pb, h.n, h.le⟩
theorem DV.later (h : DV w gs gp c s cs ps) (hb : Below w.heap.size w x) : DV x gs gp c s cs ps := h.keep (hb.block _ h.st.lt) (hb.block _ h.pr.lt)
theorem DV.c0 (h : DV w gs gp c s cs ps) : w.cell? ⟨gs, 0, none⟩ = some (.slice (some ⟨gp, 0, none⟩) s.n c) := h.st.cell 0 _ h.sb.sl
theorem DV.car (h : DV w gs gp c s cs ps) (m : Nat) (hm : m < 8) : w.cell? ⟨gs, 1 + m * 3, none⟩ = some (.string ⟨(s.ar m).toArray⟩) := h.st.cell _ _ ((h.sb.ar m hm).cell 0 _ rfl)
theorem DV.cout (h : DV w gs gp c s cs ps) (m : Nat) (hm : m < 8) : w.cell? ⟨gs, 1 + m * 3 + 1, none⟩ = some (.bool (s.out m)) := h.st.cell _ _ ((h.sb.ar m hm).cell 1 _ rfl)
theorem DV.cid (h : DV w gs gp c s cs ps) (m : Nat) (hm : m < 8) : w.cell? ⟨gs, 1 + m * 3 + 2, none⟩ = some (.int .i64 (s.id m)) := h.st.cell _ _ ((h.sb.ar m hm).cell 2 _ rfl)
theorem DV.cpl (h : DV w gs gp c s cs ps) (i : Nat) (hi : i < s.n) : w.cell? ⟨gp, i, none⟩ = some (.string ⟨(s.pl i).toArray⟩) := h.pr.cell i _ (h.pb i hi)

set_option maxRecDepth 4000 in
set_option maxHeartbeats 400000 in
theorem rnode10 (n : Int) (w : World) : Calls Try.prog 57 #[.int .i64 n] w fun e w' => e = .returned (.bool (decide (0 ≤ n ∧ n < 8))) ∧ w = w' := by
  by_cases h0 : 0 ≤ n
  · by_cases h1 : n < 8
    · rw [decide_eq_true (And.intro h0 h1)]
      go_enter Try.func57, Try.ntmps57
      go_wp2
      go_ret
      exact ⟨rfl, rfl⟩
    · rw [decide_eq_false (fun g => h1 g.2)]
      go_enter Try.func57, Try.ntmps57
      go_wp2
      go_ret
      exact ⟨rfl, rfl⟩
  · rw [decide_eq_false (fun g => h0 g.1)]
    go_enter Try.func57, Try.ntmps57
    go_wp2
    go_ret
    exact ⟨rfl, rfl⟩
set_option maxRecDepth 4000 in
set_option maxHeartbeats 400000 in
theorem rthere10 (h : DV w gs gp c s cs ps) (id : Int) : Calls Try.prog 58 #[.pointer (some ⟨gs, 0, none⟩), .int .i64 id] w fun e w' => e = .returned (.bool (decide (0 ≤ id ∧ id < (s.n : Int)))) ∧ w = w' := by
  have c0 := h.c0
  clear h
  by_cases h0 : 0 ≤ id
  · by_cases h1 : id < (s.n : Int)
    · rw [decide_eq_true (And.intro h0 h1)]
      go_enter Try.func58, Try.ntmps58
      go_wp2
      go_ret
      exact ⟨rfl, rfl⟩
    · rw [decide_eq_false (fun g => h1 g.2)]
      go_enter Try.func58, Try.ntmps58
      go_wp2
      go_ret
      exact ⟨by simp, rfl⟩
  · rw [decide_eq_false (fun g => h0 g.1)]
    go_enter Try.func58, Try.ntmps58
    go_wp2
    go_ret
    exact ⟨rfl, rfl⟩
set_option maxRecDepth 4000 in
set_option maxHeartbeats 400000 in
theorem rread10 (h : DV w gs gp c s cs ps) (k : Nat) (hk : k < s.n) : Calls Try.prog 30 #[.pointer (some ⟨gs, 0, none⟩), .int .i64 (k : Int)] w fun e w' => e = .returned (.tuple #[.agg (pgA (decP k (s.pl k))), .int .i64 (decE k (s.pl k))]) ∧ Below w.heap.size w w' := by
  have hb0 : Below w.heap.size w (w.alloc (.cells (pgA Pg.zero) 35)) := (Below.refl _ _).alloc (Nat.le_refl _) _
  have hP0 : PgAt (w.alloc (.cells (pgA Pg.zero) 35)) w.heap.size Pg.zero := heap_alloc_new w _
  have h1 := h.later hb0
  have R := rthere10 h1 (k : Int)
  rw [decide_eq_true (by omega)] at R
  have HR := hide R
  have c0 := h1.c0
  have cp := h1.cpl k hk
  have i1 : (k : Int) < (s.n : Int) := by omega
  have hsz : (⟨(s.pl k).toArray⟩ : ByteArray).size ≤ 140737488355328 := by
    show (s.pl k).toArray.size ≤ _
    rw [List.size_toArray, h.le k hk]
    decide
  have HD := hide (rdec_any (k : Int) ⟨(s.pl k).toArray⟩ (w.alloc (.cells (pgA Pg.zero) 35)) hsz)
  have H0 := hide (And.intro hb0 hP0)
  clear R h h1 hb0 hP0 hsz
  go_enter Try.func30, Try.ntmps30
  go_wp2_with fail
  refine HR.out.mono ?_
  rintro e w1 ⟨rfl, rfl⟩
  go_wp2_with fail
  refine HD.out.mono ?_
  rintro e w3 ⟨rfl, hb3⟩
  have HB3 := hide (And.intro (H0.out.1.trans (hb3.mono H0.out.1.size)) (H0.out.2.below hb3 (by simp)))
  clear hb3 H0 HD HR
  obtain ⟨q, hq⟩ : ∃ q, decP k (s.pl k) = q := ⟨_, rfl⟩
  have HQ := hide hq
  clear hq
  rw [HQ.out]
  go_wp2_with (refine wpList_store_page rfl _ _ rfl w.heap.size Pg.zero q rfl rfl HB3.out.2 ?_)
  intro w4 hP4 hk
  have hb4 := hk _ _ HB3.out.1 (Nat.le_refl _)
  have HP4 := hide hP4
  clear hP4 hk HB3
  go_wp2
  exact bodyPost_ret (res_page rfl _ _ w.heap.size q rfl HP4.out) rfl ⟨by rw [HQ.out]; rfl, hb4⟩
set_option maxRecDepth 4000 in
set_option maxHeartbeats 400000 in
theorem rread10_no (h : DV w gs gp c s cs ps) (id : Int) (hid : ¬ (0 ≤ id ∧ id < (s.n : Int))) : Calls Try.prog 30 #[.pointer (some ⟨gs, 0, none⟩), .int .i64 id] w fun e w' => e = .returned (.tuple #[.agg (pgA Pg.zero), .int .i64 1]) ∧ Below w.heap.size w w' := by
  have hb0 : Below w.heap.size w (w.alloc (.cells (pgA Pg.zero) 35)) := (Below.refl _ _).alloc (Nat.le_refl _) _
  have hP0 : PgAt (w.alloc (.cells (pgA Pg.zero) 35)) w.heap.size Pg.zero := heap_alloc_new w _
  have R := rthere10 (h.later hb0) id
  rw [decide_eq_false hid] at R
  have HR := hide R
  have H0 := hide (And.intro hb0 hP0)
  clear R h hb0 hP0
  go_enter Try.func30, Try.ntmps30
  go_wp2_with fail
  refine HR.out.mono ?_
  rintro e w1 ⟨rfl, rfl⟩
  go_wp2_with (refine wpList_store_page rfl _ _ rfl w.heap.size Pg.zero Pg.zero rfl rfl H0.out.2 ?_)
  intro w4 hP4 hk
  have hb4 := hk _ _ H0.out.1 (Nat.le_refl _)
  have HP4 := hide hP4
  clear hP4 hk H0
  go_wp2
  exact bodyPost_ret (res_page rfl _ _ w.heap.size Pg.zero rfl HP4.out) rfl ⟨rfl, hb4⟩
end

/-- lay: the sectors of an image that two bits name, over a place. -/
theorem mkS_cut (u : List UInt8) (hu : u.length = 256) : (⟨u.toArray⟩ : ByteArray).size = 256 ∧ (⟨u.toArray⟩ : ByteArray).extract 0 128 = ⟨(u.take 128).toArray⟩ ∧ (⟨u.toArray⟩ : ByteArray).extract 128 256 = ⟨(u.drop 128).toArray⟩ := by
  have hs : (⟨u.toArray⟩ : ByteArray).size = 256 := by
    show u.toArray.size = 256
    rw [List.size_toArray, hu]
  have x1 := extract_eq (⟨u.toArray⟩ : ByteArray) 0 128 (by omega)
  have x2 := extract_eq (⟨u.toArray⟩ : ByteArray) 128 128 (by omega)
  refine ⟨hs, x1, x2.trans ?_⟩
  show (⟨((u.drop 128).take 128).toArray⟩ : ByteArray) = _
  rw [List.take_of_length_le (by rw [List.length_drop]; omega)]
set_option maxRecDepth 4000 in
set_option maxHeartbeats 400000 in
theorem rlay10 (u o : List UInt8) (m : Nat) (w : World) (hu : u.length = 256) (ho : o.length = 256) (hm : m < 4) : Calls Try.prog 60 #[.string ⟨u.toArray⟩, .string ⟨o.toArray⟩, .int .i64 (m : Int)] w fun e w' => e = .returned (.string ⟨(layB u o m).toArray⟩) ∧ ∃ n, w' = w.drewN n := by
  obtain ⟨u0, u1, u2⟩ := mkS_cut u hu
  obtain ⟨o0, o1, o2⟩ := mkS_cut o ho
  have ha : ∀ a b : List UInt8, (⟨a.toArray⟩ ++ ⟨b.toArray⟩ : ByteArray) = ⟨(a ++ b).toArray⟩ := fun a b => by
    apply ByteArray.ext
    simp [ByteArray.data_append]
  have HE : Hid (layB u o m = (if m % 2 = 1 then o.take 128 else u.take 128) ++ (if m / 2 % 2 = 1 then o.drop 128 else u.drop 128)) := hide rfl
  generalize layB u o m = R at *
  generalize (⟨u.toArray⟩ : ByteArray) = U at *
  generalize (⟨o.toArray⟩ : ByteArray) = O at *
  have U0 : (U.size : Int) = 256 := by omega
  have O0 : (O.size : Int) = 256 := by omega
  have cs : m = 0 ∨ m = 1 ∨ m = 2 ∨ m = 3 := by omega
  rcases cs with rfl | rfl | rfl | rfl
  all_goals
    go_enter Try.func60, Try.ntmps60
    go_wp2_with fail
    go_quiet (fail)
    go_wp2
    go_ret
    rw [HE.out]
    exact ⟨by first | exact congrArg (fun b => Ending.returned (.string b)) (ha _ _) | simp, nq, rfl⟩
end Go.Proofs.Ytfeghhgniahfkaa

/-
  A region in the order of its text, walked by hand, operation by operation: for guarded operations that load structs. Of no program.
-/
namespace Go.Proofs.Ytfeghhgniahfkaa
open Go.RowKit
set_option linter.unusedVariables false

/-- A place at which a walk stands still. -/
def Stop10 (p : Prop) : Prop := p
theorem unstop10 {p : Prop} (h : p) : Stop10 p := h
theorem stop10 {p : Prop} (h : Stop10 p) : p := h
section
variable {P : Program} {ops : Array Oper} {rest : List Oper} {o : Oper} {a : Act} {w : World} {Q : Exit → Act → World → Prop}
/-- .. at the operation that writes this slot. -/
theorem stop_at (d : Tmp) (hd : o.dst = some d) (h : Stop10 (wpList P ops Q (o :: rest) a w)) : wpList P ops Q (o :: rest) a w := h
theorem lst_val (d : Option Tmp) (v : Value) (hd : o.dst = d) (hw : Region.wanted o (yielded ops a.tmps) = true) (hv : (execOp a.eval o).run P w = .ok (.value v) w) (h : wpList P ops Q rest (a.put d v) w) : wpList P ops Q (o :: rest) a w := by
  subst hd
  exact wpList_val hw v hv h
theorem lst_skip (d : Option Tmp) (hd : o.dst = d) (hw : Region.wanted o (yielded ops a.tmps) = false) (h : wpList P ops Q rest (a.put d undef) w) : wpList P ops Q (o :: rest) a w := by
  subst hd
  refine wpList_step fun K hK => ?_
  rw [if_neg (by rw [hw]; simp)]
  exact hK _ _ h
theorem lst_call (d : Option Tmp) (hd : o.dst = d) (hw : Region.wanted o (yielded ops a.tmps) = true) (f : FuncId) (args : Array Value) (he : (execOp a.eval o).run P w = .ok (.enter f args) w)
    (hc : Calls P f args w fun e w' => ∃ v, e = .returned v ∧ wpList P ops Q rest (a.put d v) w') : wpList P ops Q (o :: rest) a w := by
  subst hd
  refine wpList_step fun K hK => ?_
  rw [if_pos hw]
  unfold Oper.wp
  rw [he, Oper.upon_enter]
  refine hc.mono ?_
  rintro e w' ⟨v, rfl, h⟩
  exact hK _ _ h
theorem lst_load (d : Option Tmp) (v : Value) (hd : o.dst = d) (hw : Region.wanted o (yielded ops a.tmps) = true) (t : TypeId) (x : Operand) (ho : o.op = .load t x) (u : Value) (hu : a.eval x = u) (hv : (Instr.loadAt t u).run P w = .ok v w) (h : wpList P ops Q rest (a.put d v) w) : wpList P ops Q (o :: rest) a w :=
  lst_val d v hd hw (by unfold execOp; simp only [ho, hu, Sem.run_bind, hv, Result.andThen_ok, Sem.run_pure]) h
theorem lst_bin (d : Option Tmp) (v : Value) (hd : o.dst = d) (hw : Region.wanted o (yielded ops a.tmps) = true) (op : BinOp) (t r : TypeId) (x y : Operand) (ho : o.op = .binOp op t x y r) (u z : Value) (hu : a.eval x = u) (hz : a.eval y = z) (hg : (eqGuard op t x y u z).run P w = .ok () w) (hv : (binOp op t u z).run P w = .ok v w) (h : wpList P ops Q rest (a.put d v) w) : wpList P ops Q (o :: rest) a w := by
  subst hd
  exact wpList_binop hw op t r x y ho u z v hu hz hg hv h
/-- An operation that turns the world, by what it answers. -/
theorem lst_run (d : Option Tmp) (hd : o.dst = d) (hw : Region.wanted o (yielded ops a.tmps) = true) (v : Value) (w' : World) (he : (execOp a.eval o).run P w = .ok (.value v) w') (h : wpList P ops Q rest (a.put d v) w') : wpList P ops Q (o :: rest) a w := by
  subst hd
  refine wpList_step fun K hK => ?_
  rw [if_pos hw]
  unfold Oper.wp
  rw [he]
  exact hK _ _ h
theorem lst_nil (h : Q .normal a w) : wpList P ops Q [] a w := h
end
end Go.Proofs.Ytfeghhgniahfkaa

/-
  The document's Mend: what it refuses, and a node that isn't out.
-/
namespace Go.Proofs.Ytfeghhgniahfkaa
open Go.RowKit
set_option linter.unusedVariables false

/-- A node of the document's that is as new. -/
def Sc.fresh (s : Sc) (m : Nat) : Sc := { s with ar := put1 s.ar m [], id := put1 s.id m 0, out := put1 s.out m false }
theorem infoNd : (Try.prog.info? 80).map (·.size) = some 3 := by kernel_rfl

set_option maxRecDepth 4000 in
set_option maxHeartbeats 400000 in
theorem rmend10_arg (v : Option Addr) (node mask : Int) (w : World) (hbad : ¬ (0 ≤ node ∧ node < 8 ∧ 0 ≤ mask ∧ mask ≤ 3)) :
    Calls Try.prog 29 #[.pointer v, .int .i64 node, .int .i64 mask] w fun e w' => e = .returned (.int .i64 1) ∧ w = w' := by
  have N := fun w => rnode10 node w
  by_cases h1 : 0 ≤ node ∧ node < 8
  · rw [decide_eq_true h1] at N
    have HN := hide N
    by_cases h2 : mask < 0
    · clear N hbad h1
      go_enter Try.func29, Try.ntmps29
      go_wp2_with fail
      refine (HN.out _).mono ?_
      rintro e w1 ⟨rfl, rfl⟩
      go_wp2
      go_ret
      exact ⟨rfl, rfl⟩
    · have h3 : 3 < mask := by omega
      clear N hbad h1
      go_enter Try.func29, Try.ntmps29
      go_wp2_with fail
      refine (HN.out _).mono ?_
      rintro e w1 ⟨rfl, rfl⟩
      go_wp2
      go_ret
      exact ⟨rfl, rfl⟩
  · rw [decide_eq_false h1] at N
    have HN := hide N
    clear N hbad h1
    go_enter Try.func29, Try.ntmps29
    go_wp2_with fail
    refine (HN.out _).mono ?_
    rintro e w1 ⟨rfl, rfl⟩
    go_wp2
    go_ret
    exact ⟨rfl, rfl⟩

section
variable {w x : World} {gs gp c : Nat} {s : Sc} {cs ps : Array Value}
theorem DB.ext (h : DB cs gp c s) (m : Nat) (hm : m < 8) : cs.extract (1 + m * 3) (1 + m * 3 + 3) = (arD (s.ar m) (s.id m) (s.out m)).toArray ∧ 1 + m * 3 + 3 ≤ cs.size := by
  have h2 : 1 + m * 3 + 3 ≤ cs.size := by rw [h.size]; omega
  exact ⟨(h.ar m hm).ext 3 rfl h2, h2⟩
/-- A node that is laid anew. -/
theorem DB.put (h : DB cs gp c s) (m : Nat) (hm : m < 8) (b : List UInt8) (i : Int) (o : Bool) : DB (partA cs (1 + m * 3) (arD b i o)) gp c { s with ar := put1 s.ar m b, id := put1 s.id m i, out := put1 s.out m o } := by
  have hf : 1 + m * 3 + (arD b i o).length ≤ cs.size := by
    rw [h.size]
    show 1 + m * 3 + 3 ≤ 25
    omega
  refine ⟨(partA_size _ _ _ hf).trans h.size, ?_, fun k hk => ?_⟩
  · rw [partA_out _ _ _ hf 0 (by omega)]
    exact h.sl
  · show Lies _ _ (arD (put1 s.ar m b k) (put1 s.id m i k) (put1 s.out m o k))
    by_cases e : k = m
    · subst e
      rw [put1_same, put1_same, put1_same]
      exact Lies.same _ _ _ hf
    · rw [put1_other _ _ _ _ e, put1_other _ _ _ _ e, put1_other _ _ _ _ e]
      refine (h.ar k hk).apart _ _ hf ?_
      show 1 + k * 3 + 3 ≤ 1 + m * 3 ∨ 1 + m * 3 + 3 ≤ 1 + k * 3
      omega
theorem DV.ne (h : DV w gs gp c s cs ps) : gs ≠ gp := fun e => by
  have h1 := h.st
  have h2 := h.pr
  rw [e] at h1
  unfold RowAt at h1 h2
  rw [h1] at h2
  injection h2 with h2
  injection h2 with _ h3
  exact absurd h3 (by decide)

set_option maxRecDepth 4000 in
set_option maxHeartbeats 800000 in
theorem rmend10_idle (h : DV w gs gp c s cs ps) (nd mk : Nat) (hn : nd < 8) (hm : mk ≤ 3) (ho : s.out nd = false) :
    Calls Try.prog 29 #[.pointer (some ⟨gs, 0, none⟩), .int .i64 (nd : Int), .int .i64 (mk : Int)] w fun e w' => e = .returned (.int .i64 0) ∧ (∃ cs', DV w' gs gp c (s.fresh nd) cs' ps) ∧ Tn (fun k => k = gs) w w' := by
  have N := rnode10 nd w
  rw [decide_eq_true (by omega)] at N
  have HN := hide N
  have i1 : (nd : Int) < 8 := by omega
  have j1 : ¬ (mk : Int) < 0 := by omega
  have j2 : ¬ (3 : Int) < (mk : Int) := by omega
  have a0 := h.car nd hn
  have a1 := h.cout nd hn
  have a2 := h.cid nd hn
  rw [ho] at a1
  have hlt : gs < w.heap.size := h.st.lt
  have HV := hide h
  have hV1 : ∀ n, DV ((w.alloc (.cells #[.string ⟨(s.ar nd).toArray⟩, .bool false, .int .i64 (s.id nd)] 80)).drewN n) gs gp c s cs ps := fun n => (h.later ((Below.refl _ _).alloc (Nat.le_refl _) _)).keep rfl rfl
  have HX := hide hV1
  clear hV1
  clear N h ho
  go_enter Try.func29, Try.ntmps29
  go_wp2_with fail
  refine HN.out.mono ?_
  rintro e w1 ⟨rfl, rfl⟩
  go_wp2_with fail
  go_quiet (fail)
  clear a0 a1 a2 hlt
  go_wp2_with (refine wpList_store_part rfl _ _ _ rfl gs (1 + nd * 3) _ cs _ rfl rfl (HX.out nq).st infoNd ?_ ?_ ?_)
  (case refine_1 =>
    rw [HV.out.sb.size]
    show 1 + nd * 3 + 3 ≤ 25
    omega)
  (case refine_2 => decide +kernel)
  intro w2 hR hO
  have hV2 : DV w2 gs gp c (s.fresh nd) _ ps := ⟨hR, HV.out.sb.put nd hn [] 0 false, hO.row (HX.out nq).pr (fun e => HV.out.ne e.symm), HV.out.pb, HV.out.n, HV.out.le⟩
  have hT2 : Tn (fun k => k = gs) w w2 := (Tn.of_below (F := fun k => k = gs) (((Below.refl _ _).alloc (Nat.le_refl _) (.cells #[.string ⟨(s.ar nd).toArray⟩, .bool false, .int .i64 (s.id nd)] 80)) : Below w.heap.size w _)).trans ⟨hO.os, hO.tape, hO.output, Nat.le_of_eq hO.size, fun k hk hn => hO.block k hn⟩ (fun k hk => .inl hk)
  have H2 := hide (And.intro hV2 hT2)
  clear hV2 hT2 hR hO HX HV
  go_wp2
  go_ret
  exact ⟨rfl, ⟨_, H2.out.1⟩, H2.out.2⟩
end
end Go.Proofs.Ytfeghhgniahfkaa

/-
  The document's Mend: a node that is out.
-/
namespace Go.Proofs.Ytfeghhgniahfkaa
open Go.RowKit
set_option linter.unusedVariables false

section
variable {w x : World} {gs gp c : Nat} {s : Sc} {cs ps : Array Value}

set_option maxRecDepth 4000 in
set_option maxHeartbeats 800000 in
theorem rmend10_whole (h : DV w gs gp c s cs ps) (nd mk k : Nat) (hn : nd < 8) (hm : mk ≤ 3) (ho : s.out nd = true) (hk : s.id nd = (k : Int)) (hkn : k < s.n) (ht : tornB (s.pl k) = false) :
    Calls Try.prog 29 #[.pointer (some ⟨gs, 0, none⟩), .int .i64 (nd : Int), .int .i64 (mk : Int)] w fun e w' => e = .returned (.int .i64 0) ∧ (∃ cs', DV w' gs gp c (s.fresh nd) cs' ps) ∧ Tn (fun k => k = gs) w w' := by
  have N := rnode10 nd w
  rw [decide_eq_true (by omega)] at N
  have HN := hide N
  have i1 : (nd : Int) < 8 := by omega
  have i2 : (k : Int) < (s.n : Int) := by omega
  have j1 : ¬ (mk : Int) < 0 := by omega
  have j2 : ¬ (3 : Int) < (mk : Int) := by omega
  have c0 := h.c0
  have cp := h.cpl k hkn
  have a0 := h.car nd hn
  have a1 := h.cout nd hn
  have a2 := h.cid nd hn
  rw [ho] at a1
  rw [hk] at a2
  have hlt : gs < w.heap.size := h.st.lt
  have hlp : gp < w.heap.size := h.pr.lt
  have HV := hide h
  have hV1 : ∀ n, DV ((w.alloc (.cells #[.string ⟨(s.ar nd).toArray⟩, .bool true, .int .i64 (k : Int)] 80)).drewN n) gs gp c s cs ps := fun n => (h.later ((Below.refl _ _).alloc (Nat.le_refl _) _)).keep rfl rfl
  have HX := hide hV1
  have hsz : (⟨(s.pl k).toArray⟩ : ByteArray).size ≤ 140737488355328 := by
    show (s.pl k).toArray.size ≤ _
    rw [List.size_toArray, h.le k hkn]
    decide
  have T := fun w => rtorn_any ⟨(s.pl k).toArray⟩ w hsz
  have e : tornB (⟨(s.pl k).toArray⟩ : ByteArray).data.toList = false := ht
  rw [e] at T
  have HT := hide T
  clear N h ho hV1 T e hsz ht hk
  go_enter Try.func29, Try.ntmps29
  go_wp2_with fail
  refine HN.out.mono ?_
  rintro e w1 ⟨rfl, rfl⟩
  go_wp2_with fail
  go_quiet (first | (go_at_call 61; exact quiet_more HT.out))
  clear a0 a1 a2 hlt hlp c0 cp
  go_wp2_with (refine wpList_store_part rfl _ _ _ rfl gs (1 + nd * 3) _ cs _ rfl rfl (HX.out nq).st infoNd ?_ ?_ ?_)
  (case refine_1 =>
    rw [HV.out.sb.size]
    show 1 + nd * 3 + 3 ≤ 25
    omega)
  (case refine_2 => decide +kernel)
  intro w2 hR hO
  have hV2 : DV w2 gs gp c (s.fresh nd) _ ps := ⟨hR, HV.out.sb.put nd hn [] 0 false, hO.row (HX.out nq).pr (fun e => HV.out.ne e.symm), HV.out.pb, HV.out.n, HV.out.le⟩
  have hT2 : Tn (fun k => k = gs) w w2 := (Tn.of_below (F := fun k => k = gs) (((Below.refl _ _).alloc (Nat.le_refl _) (.cells #[.string ⟨(s.ar nd).toArray⟩, .bool true, .int .i64 (k : Int)] 80)) : Below w.heap.size w _)).trans ⟨hO.os, hO.tape, hO.output, Nat.le_of_eq hO.size, fun k hk hn => hO.block k hn⟩ (fun k hk => .inl hk)
  have H2 := hide (And.intro hV2 hT2)
  clear hV2 hT2 hR hO HX HV
  go_wp2
  go_ret
  exact ⟨rfl, ⟨_, H2.out.1⟩, H2.out.2⟩
end
end Go.Proofs.Ytfeghhgniahfkaa

/-
  The document's Mend: a node that is out over a torn place.
-/
namespace Go.Proofs.Ytfeghhgniahfkaa
open Go.RowKit
set_option linter.unusedVariables false

theorem hand_skip {P : Program} {ops : Array Oper} {Q : Exit → Act → World → Prop} {a : Act} {w : World} {o : Oper} {K : Act → World → Prop} {i : Nat} (ho : ops[i]? = some o) (hd : o.dst = none) (hg : o.guard = none) (w' : World) (he : (execOp a.eval o).run P w = .ok .skip w') (h : K a w') : wpOp P ops Q i K a w := by
  refine wpOp_step ho (fun K' hK => ?_)
  have hw : Region.wanted o (yielded ops a.tmps) = true := by simp [Region.wanted, hg]
  rw [if_pos hw]
  unfold Oper.wp
  rw [he]
  show K' (a.put o.dst undef) w'
  rw [hd]
  exact hK _ _ h

section
variable {w x : World} {gs gp c : Nat} {s : Sc} {cs ps : Array Value}

set_option maxRecDepth 4000 in
set_option maxHeartbeats 800000 in
theorem rmend10_torn (h : DV w gs gp c s cs ps) (nd mk k : Nat) (hn : nd < 8) (hm : mk ≤ 3) (ho : s.out nd = true) (hk : s.id nd = (k : Int)) (hkn : k < s.n) (ht : tornB (s.pl k) = true) (ha : (s.ar nd).length = 256) :
    Calls Try.prog 29 #[.pointer (some ⟨gs, 0, none⟩), .int .i64 (nd : Int), .int .i64 (mk : Int)] w fun e w' => e = .returned (.int .i64 (if mk = 3 then 0 else 9)) ∧ (∃ cs' ps', DV w' gs gp c (if mk = 3 then (s.mPl nd mk).fresh nd else s.mPl nd mk) cs' ps') ∧ Tn (fun k => k = gs ∨ k = gp) w w' := by
  have N := rnode10 nd w
  rw [decide_eq_true (by omega)] at N
  have HN := hide N
  have i1 : (nd : Int) < 8 := by omega
  have i2 : (k : Int) < (s.n : Int) := by omega
  have j1 : ¬ (mk : Int) < 0 := by omega
  have j2 : ¬ (3 : Int) < (mk : Int) := by omega
  have c0 := h.c0
  have cp := h.cpl k hkn
  have a0 := h.car nd hn
  have a1 := h.cout nd hn
  have a2 := h.cid nd hn
  rw [ho] at a1
  rw [hk] at a2
  have hlt : gs < w.heap.size := h.st.lt
  have hlp : gp < w.heap.size := h.pr.lt
  have HV := hide h
  have hV1 : ∀ n, DV ((w.alloc (.cells #[.string ⟨(s.ar nd).toArray⟩, .bool true, .int .i64 (k : Int)] 80)).drewN n) gs gp c s cs ps := fun n => (h.later ((Below.refl _ _).alloc (Nat.le_refl _) _)).keep rfl rfl
  have hN1 : ∀ n, RowAt ((w.alloc (.cells #[.string ⟨(s.ar nd).toArray⟩, .bool true, .int .i64 (k : Int)] 80)).drewN n) w.heap.size 80 #[.string ⟨(s.ar nd).toArray⟩, .bool true, .int .i64 (k : Int)] := fun n => heap_alloc_new w _
  have hB1 : ∀ n, Below w.heap.size w ((w.alloc (.cells #[.string ⟨(s.ar nd).toArray⟩, .bool true, .int .i64 (k : Int)] 80)).drewN n) := fun n =>
    have b : Below w.heap.size w (w.alloc (.cells #[.string ⟨(s.ar nd).toArray⟩, .bool true, .int .i64 (k : Int)] 80)) := (Below.refl _ _).alloc (Nat.le_refl _) _
    ⟨b.1, b.2, b.3, b.4, b.5⟩
  have HX := hide (fun n => And.intro (hV1 n) (And.intro (hN1 n) (hB1 n)))
  have HL := hide (fun w => (rlay10 (s.pl k) (s.ar nd) mk w (h.le k hkn) ha (by omega)).mono (R' := fun e w' => e = .returned (.string ⟨(layB (s.pl k) (s.ar nd) mk).toArray⟩) ∧ Below w.heap.size w w') (fun e w' ⟨h1, n, h2⟩ => ⟨h1, by rw [h2]; exact ⟨rfl, rfl, rfl, Nat.le_refl _, fun _ _ => rfl⟩⟩))
  have HLT := hide (And.intro h.st.lt h.pr.lt)
  have HID := hide (And.intro hk (layB_length (s.pl k) (s.ar nd) mk (h.le k hkn) ha))
  obtain ⟨gb, hgb⟩ : ∃ gb, w.heap.size = gb := ⟨_, rfl⟩
  have HGB := hide hgb
  clear hgb
  have hsz : (⟨(s.pl k).toArray⟩ : ByteArray).size ≤ 140737488355328 := by
    show (s.pl k).toArray.size ≤ _
    rw [List.size_toArray, h.le k hkn]
    decide
  have T := fun w => rtorn_any ⟨(s.pl k).toArray⟩ w hsz
  have e : tornB (⟨(s.pl k).toArray⟩ : ByteArray).data.toList = true := ht
  rw [e] at T
  have HT := hide T
  clear N h ho hV1 hN1 hB1 T e hsz ht hk ha
  go_enter Try.func29, Try.ntmps29
  go_wp2_with fail
  refine HN.out.mono ?_
  rintro e w1 ⟨rfl, rfl⟩
  go_wp2_with fail
  go_quiet (first | (go_at_call 61; exact quiet_more HT.out))
  clear c0 cp a0 a1 a2 hlt hlp HT HN
  go_wp2_with fail
  rw [HGB.out] at HX HLT ⊢
  refine gen_wp (fun z => Hid (DV z gs gp c s cs ps ∧ RowAt z gb 80 #[.string ⟨(s.ar nd).toArray⟩, .bool true, .int .i64 (k : Int)] ∧ Below gb w z)) (hide (HX.out nq)) ?_
  clear HX
  intro y H
  have HD : Hid (DV y.drew gs gp c s cs ps ∧ RowAt y.drew gb 80 #[.string ⟨(s.ar nd).toArray⟩, .bool true, .int .i64 (k : Int)] ∧ Below gb w y.drew) := hide ⟨H.out.1.keep rfl rfl, H.out.2.1, ⟨H.out.2.2.1, H.out.2.2.2, H.out.2.2.3, H.out.2.2.4, H.out.2.2.5⟩⟩
  refine wp_region_noPanic ?_
  refine wp_region_held_drew (S := fun z => RowAt z gs 83 cs ∧ RowAt z gb 80 #[.string ⟨(s.ar nd).toArray⟩, .bool true, .int .i64 (k : Int)]) (by kernel_rfl) (⟨HD.out.1.st, HD.out.2.1⟩) (fun hHeld => ?_)
  refine hand_take 0 (some 38) (.pointer (some ⟨gs, 0, none⟩)) rfl rfl (by kernel_rfl) (by kernel_rfl) (by kernel_rfl) (fun _ _ _ h => h) (Or.inl ⟨by kernel_rfl, fun x hSx => by go_simp⟩) hHeld ?_
  try simp only [Act.put, List.setIfInBounds_toArray, List.set_cons_zero, List.set_cons_succ]
  refine hand_take 1 (some 39) (.pointer (some ⟨gs, 0, none⟩)) rfl rfl (by kernel_rfl) (by kernel_rfl) (by kernel_rfl) (fun _ _ _ h => h) (Or.inl ⟨by kernel_rfl, fun x hSx => by go_simp⟩) hHeld ?_
  try simp only [Act.put, List.setIfInBounds_toArray, List.set_cons_zero, List.set_cons_succ]
  refine hand_take 2 (some 40) (.pointer (some ⟨gs, 0, none⟩)) rfl rfl (by kernel_rfl) (by kernel_rfl) (by kernel_rfl) (fun _ _ _ h => h) (Or.inl ⟨by kernel_rfl, fun x hSx => by go_simp⟩) hHeld ?_
  try simp only [Act.put, List.setIfInBounds_toArray, List.set_cons_zero, List.set_cons_succ]
  refine hand_take 3 (some 41) (.slice (some ⟨gp, 0, none⟩) s.n c) rfl rfl (by kernel_rfl) (by kernel_rfl) (by kernel_rfl) (fun _ _ _ h => h) (Or.inl ⟨by kernel_rfl, fun x hSx => by have h := hSx.1.cell 0 _ HV.out.sb.sl; go_simp⟩) hHeld ?_
  try simp only [Act.put, List.setIfInBounds_toArray, List.set_cons_zero, List.set_cons_succ]
  refine hand_take 4 (some 42) (.pointer (some ⟨gb, 2, none⟩)) rfl rfl (by kernel_rfl) (by kernel_rfl) (by kernel_rfl) (fun _ _ _ h => h) (Or.inl ⟨by kernel_rfl, fun x hSx => by go_simp⟩) hHeld ?_
  try simp only [Act.put, List.setIfInBounds_toArray, List.set_cons_zero, List.set_cons_succ]
  refine hand_take 5 (some 43) (.int .i64 (k : Int)) rfl rfl (by kernel_rfl) (by kernel_rfl) (by kernel_rfl) (fun _ _ _ h => h) (Or.inl ⟨by kernel_rfl, fun x hSx => by have h := hSx.2.cell 2 _ rfl; go_simp⟩) hHeld ?_
  try simp only [Act.put, List.setIfInBounds_toArray, List.set_cons_zero, List.set_cons_succ]
  refine hand_take 6 (some 44) (.pointer (some ⟨gs, 0, none⟩)) rfl rfl (by kernel_rfl) (by kernel_rfl) (by kernel_rfl) (fun _ _ _ h => h) (Or.inl ⟨by kernel_rfl, fun x hSx => by go_simp⟩) hHeld ?_
  try simp only [Act.put, List.setIfInBounds_toArray, List.set_cons_zero, List.set_cons_succ]
  refine hand_take 7 (some 45) (.pointer (some ⟨gs, 0, none⟩)) rfl rfl (by kernel_rfl) (by kernel_rfl) (by kernel_rfl) (fun _ _ _ h => h) (Or.inl ⟨by kernel_rfl, fun x hSx => by go_simp⟩) hHeld ?_
  try simp only [Act.put, List.setIfInBounds_toArray, List.set_cons_zero, List.set_cons_succ]
  refine hand_take 8 (some 46) (.pointer (some ⟨gs, 0, none⟩)) rfl rfl (by kernel_rfl) (by kernel_rfl) (by kernel_rfl) (fun _ _ _ h => h) (Or.inl ⟨by kernel_rfl, fun x hSx => by go_simp⟩) hHeld ?_
  try simp only [Act.put, List.setIfInBounds_toArray, List.set_cons_zero, List.set_cons_succ]
  refine hand_take 9 (some 47) (.slice (some ⟨gp, 0, none⟩) s.n c) rfl rfl (by kernel_rfl) (by kernel_rfl) (by kernel_rfl) (fun _ _ _ h => h) (Or.inl ⟨by kernel_rfl, fun x hSx => by have h := hSx.1.cell 0 _ HV.out.sb.sl; go_simp⟩) hHeld ?_
  try simp only [Act.put, List.setIfInBounds_toArray, List.set_cons_zero, List.set_cons_succ]
  refine hand_take 10 (some 48) (.pointer (some ⟨gb, 2, none⟩)) rfl rfl (by kernel_rfl) (by kernel_rfl) (by kernel_rfl) (fun _ _ _ h => h) (Or.inl ⟨by kernel_rfl, fun x hSx => by go_simp⟩) hHeld ?_
  try simp only [Act.put, List.setIfInBounds_toArray, List.set_cons_zero, List.set_cons_succ]
  refine hand_take 11 (some 49) (.int .i64 (k : Int)) rfl rfl (by kernel_rfl) (by kernel_rfl) (by kernel_rfl) (fun _ _ _ h => h) (Or.inl ⟨by kernel_rfl, fun x hSx => by have h := hSx.2.cell 2 _ rfl; go_simp⟩) hHeld ?_
  try simp only [Act.put, List.setIfInBounds_toArray, List.set_cons_zero, List.set_cons_succ]
  refine hand_take 12 (some 50) (.pointer (some ⟨gp, k, none⟩)) rfl rfl (by kernel_rfl) (by kernel_rfl) (by kernel_rfl) (fun _ _ _ h => h) (Or.inl ⟨by kernel_rfl, fun x hSx => by go_simp⟩) hHeld ?_
  try simp only [Act.put, List.setIfInBounds_toArray, List.set_cons_zero, List.set_cons_succ]
  refine hand_take 14 (some 52) (.pointer (some ⟨gb, 0, none⟩)) rfl rfl (by kernel_rfl) (by kernel_rfl) (by kernel_rfl) (fun _ _ _ h => h) (Or.inl ⟨by kernel_rfl, fun x hSx => by go_simp⟩) hHeld ?_
  try simp only [Act.put, List.setIfInBounds_toArray, List.set_cons_zero, List.set_cons_succ]
  refine hand_take 15 (some 53) (.string ⟨(s.ar nd).toArray⟩) rfl rfl (by kernel_rfl) (by kernel_rfl) (by kernel_rfl) (fun _ _ _ h => h) (Or.inl ⟨by kernel_rfl, fun x hSx => by have h := hSx.2.cell 0 _ rfl; go_simp⟩) hHeld ?_
  try simp only [Act.put, List.setIfInBounds_toArray, List.set_cons_zero, List.set_cons_succ]
  refine hand_take 16 (some 54) (.int .i64 (mk : Int)) rfl rfl (by kernel_rfl) (by kernel_rfl) (by kernel_rfl) (fun _ _ _ h => h) (Or.inl ⟨by kernel_rfl, fun x hSx => by go_simp⟩) hHeld ?_
  try simp only [Act.put, List.setIfInBounds_toArray, List.set_cons_zero, List.set_cons_succ]
  refine hand_one 13 (by kernel_rfl) ?_
  refine hand_run (some 51) rfl rfl rfl (.string ⟨(s.pl k).toArray⟩) y.drew ?hz ?_
  (case hz => have h := HD.out.1.cpl k hkn; go_simp)
  refine ⟨⟨HD.out.1.st, HD.out.2.1⟩, ?_⟩
  try simp only [Act.put, List.setIfInBounds_toArray, List.set_cons_zero, List.set_cons_succ]
  refine hand_one 17 (by kernel_rfl) ?_
  refine hand_call (some 55) rfl rfl rfl 60 #[.string ⟨(s.pl k).toArray⟩, .string ⟨(s.ar nd).toArray⟩, .int .i64 (mk : Int)] ?he ((HL.out y.drew).mono ?_)
  (case he => go_simp)
  rintro e w7 ⟨rfl, hb7⟩
  have hS7 := HD.out.1.later hb7
  have hN7 := HD.out.2.1.later hb7
  have hB7 := HD.out.2.2.trans (hb7.mono (by have := HD.out.2.2.size; have := HGB.out; omega))
  refine ⟨_, rfl, ?_⟩
  refine ⟨⟨hS7.st, hN7⟩, ?_⟩
  try simp only [Act.put, List.setIfInBounds_toArray, List.set_cons_zero, List.set_cons_succ]
  have hHeld := And.intro hS7.st hN7
  refine hand_take 18 (some 56) (.pointer (some ⟨gp, k, none⟩)) rfl rfl (by kernel_rfl) (by kernel_rfl) (by kernel_rfl) (fun _ _ _ h => h) (Or.inl ⟨by kernel_rfl, fun x hSx => by go_simp⟩) hHeld ?_
  try simp only [Act.put, List.setIfInBounds_toArray, List.set_cons_zero, List.set_cons_succ]
  refine hand_one 19 (by kernel_rfl) ?_
  generalize hL : layB (s.pl k) (s.ar nd) mk = L at *
  refine hand_skip rfl rfl rfl (w7.setCell ⟨gp, k, none⟩ (.string ⟨L.toArray⟩)) ?hs ?_
  (case hs => have h := hS7.cpl k hkn; have h2 := hS7.pr.free k; go_simp)
  refine ⟨⟨hS7.st.other _ _ hS7.ne, hN7.other _ _ (fun e => by have h9 := HLT.out.2; have e2 : gb = gp := e; omega)⟩, ?_⟩
  try simp only [Act.put, List.setIfInBounds_toArray, List.set_cons_zero, List.set_cons_succ]
  refine wpAnyH_done (by kernel_rfl) ?_ _
  refine NoPanic.normal ?_
  have eP : s.mPl nd mk = { s with pl := put1 s.pl k L } := by
    unfold Sc.mPl
    rw [HID.out.1, Int.toNat_natCast, hL]
  have lL : L.length = 256 := HID.out.2
  have hV8 : DV (w7.setCell ⟨gp, k, none⟩ (.string ⟨L.toArray⟩)) gs gp c (s.mPl nd mk) cs (ps.setIfInBounds k (.string ⟨L.toArray⟩)) := by
    rw [eP]
    refine ⟨hS7.st.other _ _ hS7.ne, ⟨HV.out.sb.size, HV.out.sb.sl, HV.out.sb.ar⟩, hS7.pr.set k _, fun i hi => ?_, HV.out.n, fun i hi => ?_⟩
    · show _ = some (Value.string ⟨(put1 s.pl k L i).toArray⟩)
      by_cases e : i = k
      · subst e
        rw [put1_same, Array.getElem?_setIfInBounds_self_of_lt (Array.getElem?_eq_some_iff.1 (HV.out.pb i hkn)).1]
      · rw [put1_other _ _ _ _ e, Array.getElem?_setIfInBounds_ne (fun h => e h.symm)]
        exact HV.out.pb i hi
    · show (put1 s.pl k L i).length = 256
      by_cases e : i = k
      · subst e
        rw [put1_same]
        exact lL
      · rw [put1_other _ _ _ _ e]
        exact HV.out.le i hi
  have hT8 : Tn (fun k => k = gs ∨ k = gp) w (w7.setCell ⟨gp, k, none⟩ (.string ⟨L.toArray⟩)) := (Tn.of_below (by rw [HGB.out]; exact hB7)).set gp k _ (.inr rfl)
  have H8 := hide (And.intro hV8 hT8)
  clear hV8 hT8 hS7 hN7 hB7 hHeld hb7 eP lL hL HD HL HID H
  generalize w7.setCell ⟨gp, k, none⟩ (.string ⟨L.toArray⟩) = w8 at *
  by_cases h3 : mk = 3
  · subst h3
    go_wp2_with (refine wpList_store_part rfl _ _ _ rfl gs (1 + nd * 3) _ cs _ rfl rfl H8.out.1.st infoNd ?_ ?_ ?_)
    (case refine_1 =>
      rw [HV.out.sb.size]
      show 1 + nd * 3 + 3 ≤ 25
      omega)
    (case refine_2 => decide +kernel)
    intro w2 hR hO
    have hV2 : DV w2 gs gp c ((s.mPl nd 3).fresh nd) _ _ := ⟨hR, H8.out.1.sb.put nd hn [] 0 false, hO.row H8.out.1.pr (fun e => HV.out.ne e.symm), H8.out.1.pb, H8.out.1.n, H8.out.1.le⟩
    have hT2 : Tn (fun k => k = gs ∨ k = gp) w w2 := H8.out.2.trans (G := fun k => k = gs) ⟨hO.os, hO.tape, hO.output, Nat.le_of_eq hO.size, fun k hk hn => hO.block k hn⟩ (fun k hk => .inl (.inl hk))
    have H2 := hide (And.intro hV2 hT2)
    clear hV2 hT2 hR hO H8 HV
    go_wp2
    go_ret
    exact ⟨rfl, ⟨_, _, H2.out.1⟩, H2.out.2⟩
  · have h4 : mk = 0 ∨ mk = 1 ∨ mk = 2 := by omega
    clear h3
    rcases h4 with rfl | rfl | rfl
    all_goals
      go_wp2
      go_ret
      exact ⟨rfl, ⟨_, _, H8.out.1⟩, H8.out.2⟩
end
end Go.Proofs.Ytfeghhgniahfkaa

/-
  The code's store and the document's: what is alike in both. Of no program.
-/
namespace Go.Proofs.Ytfeghhgniahfkaa
open Go.RowKit
set_option linter.unusedVariables false

/-- s the code's, d the document's. -/
structure Pr (s d : Sc) : Prop where
  n : d.n = s.n
  pl : ∀ i, i < s.n → d.pl i = s.pl i
  out : ∀ m, m < 8 → d.out m = s.out m
  id : ∀ m, m < 8 → s.out m = true → d.id m = s.id m
  ar : ∀ m, m < 8 → s.out m = true → tornB (s.pl (s.id m).toNat) = true → d.ar m = s.ar m
/-- A node of the document's that is as new. -/
def Sc.fresh0 (s : Sc) (m : Nat) : Sc := { s with ar := put1 s.ar m [], id := put1 s.id m 0, out := put1 s.out m false }
/-- The document's store behind a Write that is done. -/
def Sc.dW (d : Sc) (nd i : Nat) (p : Pg) (mk : Nat) : Sc := ⟨d.n, put1 d.pl i (layB (d.pl i) (imageB i p) (mk / 4)), put1 d.ar nd (if mk = 15 then [] else imageB i p), put1 d.id nd (if mk = 15 then 0 else (i : Int)), put1 d.out nd (decide (mk ≠ 15))⟩
section
variable {s d : Sc} {old : Nat → Pg} {tr : Nat → Option (Pg × Bool)}
theorem Pr.busy (h : Pr s d) (i : Int) : d.busy i = s.busy i := by
  have : (d.busy i = true) ↔ (s.busy i = true) := by
    rw [Sc.busy_iff, Sc.busy_iff]
    constructor
    · rintro ⟨m, h1, h2, h3⟩
      have ho : s.out m = true := by rw [← h.out m h1]; exact h2
      exact ⟨m, h1, ho, by rw [← h.id m h1 ho]; exact h3⟩
    · rintro ⟨m, h1, h2, h3⟩
      exact ⟨m, h1, by rw [h.out m h1]; exact h2, by rw [h.id m h1 h2]; exact h3⟩
  cases e : d.busy i <;> cases e2 : s.busy i <;> simp_all
theorem Pr.wE (h : Pr s d) (node id : Int) (p : Pg) (mask : Int) : d.wE node id p mask = s.wE node id p mask := by
  unfold Sc.wE
  have hm : d.may node id p mask ↔ s.may node id p mask := by
    unfold Sc.may
    rw [h.n]
  by_cases g : s.may node id p mask
  · rw [if_neg (show ¬ ¬ d.may node id p mask from fun c => c (hm.2 g)), if_neg (show ¬ ¬ s.may node id p mask from fun c => c g), h.out node.toNat (by have := g.1; have := g.2.1; omega), h.busy, h.pl id.toNat (by have := g.2.2.1; have := g.2.2.2.1; omega)]
  · rw [if_pos (show ¬ d.may node id p mask from fun c => g (hm.1 c)), if_pos (show ¬ s.may node id p mask from g)]
theorem Pr.write (h : Pr s d) (hs : s.ok old tr) (node id : Int) (p : Pg) (mask : Int) (hgo : s.wE node id p mask = 0 ∨ s.wE node id p mask = 9) : Pr (s.wS node id p mask) (d.dW node.toNat id.toNat p mask.toNat) := by
  obtain ⟨⟨a1, a2, a3, a4, a5, a6⟩, a7, a8, a9⟩ := Sc.wE_go hgo
  have eS : s.wS node id p mask = s.wGo node.toNat id.toNat p mask.toNat := if_pos hgo
  obtain ⟨nd, rfl⟩ := Int.eq_ofNat_of_zero_le a1
  obtain ⟨i, rfl⟩ := Int.eq_ofNat_of_zero_le a3
  have hm0 : 0 ≤ mask := by rcases a5 with rfl | rfl | rfl | rfl | rfl | rfl | rfl <;> omega
  obtain ⟨mk, rfl⟩ := Int.eq_ofNat_of_zero_le hm0
  have hi : i < s.n := by omega
  have hn : nd < 8 := by omega
  simp only [Int.toNat_natCast] at *
  rw [eS]
  have ht := hs.free i hi a8
  have hl := hs.lie i hi ht
  have hnt : tornB (s.pl i) = false := by rw [hs.torn i hi, ht]; rfl
  have lp := imageB_length i p a6
  have la := hs.wf.ar nd hn
  have nobusy : ∀ m, m < 8 → s.out m = true → s.id m ≠ (i : Int) := fun m hm ho hid => by
    have := (s.busy_iff (i : Int)).2 ⟨m, hm, ho, hid⟩
    rw [a8] at this
    cases this
  have hmk : mk = 0 ∨ mk = 1 ∨ mk = 2 ∨ mk = 3 ∨ mk = 7 ∨ mk = 11 ∨ mk = 15 := by omega
  refine ⟨h.n, fun k hk => ?_, fun m hm => ?_, fun m hm ho => ?_, fun m hm ho htn => ?_⟩
  · show put1 d.pl i _ k = put1 s.pl i _ k
    by_cases e : k = i
    · subst e
      rw [put1_same, put1_same, h.pl k hi]
    · rw [put1_other _ _ _ _ e, put1_other _ _ _ _ e]
      exact h.pl k hk
  · show put1 d.out nd _ m = (if mk = 15 then s.out else put1 s.out nd true) m
    by_cases e : m = nd
    · subst e
      rw [put1_same]
      by_cases g : mk = 15
      · rw [if_pos g, a7]
        simp [g]
      · rw [if_neg g, put1_same]
        simp [g]
    · rw [put1_other _ _ _ _ e, h.out m hm]
      by_cases g : mk = 15
      · rw [if_pos g]
      · rw [if_neg g, put1_other _ _ _ _ e]
  · have ho2 : (if mk = 15 then s.out else put1 s.out nd true) m = true := ho
    show put1 d.id nd _ m = (if mk = 15 then s.id else put1 s.id nd (i : Int)) m
    by_cases e : m = nd
    · subst e
      rw [put1_same]
      by_cases g : mk = 15
      · rw [if_pos g, a7] at ho2
        cases ho2
      · rw [if_neg g, if_neg g, put1_same]
    · rw [put1_other _ _ _ _ e]
      by_cases g : mk = 15
      · rw [if_pos g] at ho2 ⊢
        exact h.id m hm ho2
      · rw [if_neg g, put1_other _ _ _ _ e] at ho2 ⊢
        exact h.id m hm ho2
  · have ho2 : (if mk = 15 then s.out else put1 s.out nd true) m = true := ho
    have ht2 : tornB (put1 s.pl i (layB (s.pl i) (imageB i p) (mk / 4)) ((if mk = 15 then s.id else put1 s.id nd (i : Int)) m).toNat) = true := htn
    show put1 d.ar nd _ m = put1 s.ar nd _ m
    by_cases e : m = nd
    · subst e
      by_cases g : mk = 15
      · rw [if_pos g, a7] at ho2
        cases ho2
      · rw [if_neg g, put1_same, Int.toNat_natCast, put1_same] at ht2
        have hm3 : mk % 4 = 3 := by
          rcases hmk with g1 | g1 | g1 | g1 | g1 | g1 | g1
          · rw [layB_zero _ _ _ (by omega), hnt] at ht2; cases ht2
          · rw [layB_zero _ _ _ (by omega), hnt] at ht2; cases ht2
          · rw [layB_zero _ _ _ (by omega), hnt] at ht2; cases ht2
          · rw [layB_zero _ _ _ (by omega), hnt] at ht2; cases ht2
          · omega
          · omega
          · omega
        rw [put1_same, put1_same, if_neg g, layB_all _ _ _ hm3]
    · rw [put1_other _ _ _ _ e, put1_other _ _ _ _ e]
      have ho3 : s.out m = true := by
        by_cases g : mk = 15
        · rw [if_pos g] at ho2; exact ho2
        · rw [if_neg g, put1_other _ _ _ _ e] at ho2; exact ho2
      have hid : (if mk = 15 then s.id else put1 s.id nd (i : Int)) m = s.id m := by
        by_cases g : mk = 15
        · rw [if_pos g]
        · rw [if_neg g, put1_other _ _ _ _ e]
      rw [hid] at ht2
      have hne : (s.id m).toNat ≠ i := fun c => nobusy m hm ho3 (by have := (hs.wf.id m hm ho3).1; omega)
      rw [put1_other _ _ _ _ hne] at ht2
      exact h.ar m hm ho3 ht2
theorem Pr.idle (h : Pr s d) (nd : Nat) (ho : s.out nd = false) : Pr s (d.fresh0 nd) := by
  refine ⟨h.n, h.pl, fun m hm => ?_, fun m hm g => ?_, fun m hm g t => ?_⟩
  · show put1 d.out nd false m = s.out m
    by_cases e : m = nd
    · subst e; rw [put1_same, ho]
    · rw [put1_other _ _ _ _ e]; exact h.out m hm
  · have e : m ≠ nd := fun e => by rw [e, ho] at g; cases g
    show put1 d.id nd 0 m = s.id m
    rw [put1_other _ _ _ _ e]; exact h.id m hm g
  · have e : m ≠ nd := fun e => by rw [e, ho] at g; cases g
    show put1 d.ar nd [] m = s.ar m
    rw [put1_other _ _ _ _ e]; exact h.ar m hm g t
theorem Pr.leave (h : Pr s d) (nd : Nat) : Pr { s with out := put1 s.out nd false } (d.fresh0 nd) := by
  refine ⟨h.n, h.pl, fun m hm => ?_, fun m hm g => ?_, fun m hm g t => ?_⟩
  · show put1 d.out nd false m = put1 s.out nd false m
    by_cases e : m = nd
    · subst e; rw [put1_same, put1_same]
    · rw [put1_other _ _ _ _ e, put1_other _ _ _ _ e]; exact h.out m hm
  · have g2 : put1 s.out nd false m = true := g
    have e : m ≠ nd := fun e => by rw [e, put1_same] at g2; cases g2
    rw [put1_other _ _ _ _ e] at g2
    show put1 d.id nd 0 m = s.id m
    rw [put1_other _ _ _ _ e]; exact h.id m hm g2
  · have g2 : put1 s.out nd false m = true := g
    have e : m ≠ nd := fun e => by rw [e, put1_same] at g2; cases g2
    rw [put1_other _ _ _ _ e] at g2
    show put1 d.ar nd [] m = s.ar m
    rw [put1_other _ _ _ _ e]; exact h.ar m hm g2 t
theorem Pr.torn (h : Pr s d) (hs : s.ok old tr) (nd mk : Nat) (hn : nd < 8) (ho : s.out nd = true) (ht : tornB (s.pl (s.id nd).toNat) = true) : Pr (s.mPl nd mk) (d.mPl nd mk) := by
  have hid := hs.wf.id nd hn ho
  have hin : (s.id nd).toNat < s.n := by omega
  refine ⟨h.n, fun k hk => ?_, h.out, h.id, fun m hm g t => ?_⟩
  · show put1 d.pl (d.id nd).toNat _ k = put1 s.pl (s.id nd).toNat _ k
    rw [h.id nd hn ho, h.ar nd hn ho ht, h.pl _ hin]
    by_cases e : k = (s.id nd).toNat
    · subst e; rw [put1_same, put1_same]
    · rw [put1_other _ _ _ _ e, put1_other _ _ _ _ e]
      exact h.pl k hk
  · show d.ar m = s.ar m
    by_cases e : m = nd
    · rw [e]; exact h.ar nd hn ho ht
    · have g2 : s.out m = true := g
      have hne : (s.id m).toNat ≠ (s.id nd).toNat := fun c => e (hs.one m nd hm hn g2 ho (by have := (hs.wf.id m hm g2).1; omega))
      have t2 : tornB (put1 s.pl (s.id nd).toNat (layB (s.pl (s.id nd).toNat) (s.ar nd) mk) (s.id m).toNat) = true := t
      rw [put1_other _ _ _ _ hne] at t2
      exact h.ar m hm g2 t2
end
end Go.Proofs.Ytfeghhgniahfkaa

/-
  The document's Write: what it refuses. (gen10/rwrite.py)
-/
namespace Go.Proofs.Ytfeghhgniahfkaa
open Go.RowKit
set_option linter.unusedVariables false

section
variable {w x : World} {gs gp c : Nat} {s : Sc} {cs ps : Array Value}
set_option maxRecDepth 4000 in
set_option maxHeartbeats 800000 in
theorem rwrite10_a (h : DV w gs gp c s cs ps) (node id : Int) (p : Pg) (mask : Int) (h1 : ¬ (0 ≤ node ∧ node < 8)) : Calls Try.prog 28 #[.pointer (some ⟨gs, 0, none⟩), .int .i64 node, .int .i64 id, .agg (pgA p), .int .i64 mask] w fun e w' => e = .returned (.int .i64 1) ∧ Below w.heap.size w w' := by
  have hb0 : Below w.heap.size w (w.alloc (.cells (pgA p) 35)) := (Below.refl _ _).alloc (Nat.le_refl _) _
  have hP0 : PgAt (w.alloc (.cells (pgA p) 35)) w.heap.size p := heap_alloc_new w _
  have N := fun w => rnode10 node w
  have T := rthere10 (h.later hb0) id
  have R := fun w => rright_any p w
  have M := fun w => rmask10 mask w
  rw [decide_eq_false h1] at N
  have HN := hide N
  have HT := hide T
  have HR := hide R
  have HM := hide M
  have HB := hide hb0
  have HP := hide hP0
  clear N T R M hb0 hP0 h
  go_enter Try.func28, Try.ntmps28
  go_wp2_with fail
  refine (HN.out _).mono ?_
  rintro e w1 ⟨rfl, rfl⟩
  go_wp2
  go_ret
  exact ⟨rfl, HB.out⟩
set_option maxRecDepth 4000 in
set_option maxHeartbeats 800000 in
theorem rwrite10_b (h : DV w gs gp c s cs ps) (node id : Int) (p : Pg) (mask : Int) (h1 : 0 ≤ node ∧ node < 8) (h2 : ¬ (0 ≤ id ∧ id < (s.n : Int))) : Calls Try.prog 28 #[.pointer (some ⟨gs, 0, none⟩), .int .i64 node, .int .i64 id, .agg (pgA p), .int .i64 mask] w fun e w' => e = .returned (.int .i64 1) ∧ Below w.heap.size w w' := by
  have hb0 : Below w.heap.size w (w.alloc (.cells (pgA p) 35)) := (Below.refl _ _).alloc (Nat.le_refl _) _
  have hP0 : PgAt (w.alloc (.cells (pgA p) 35)) w.heap.size p := heap_alloc_new w _
  have N := fun w => rnode10 node w
  have T := rthere10 (h.later hb0) id
  have R := fun w => rright_any p w
  have M := fun w => rmask10 mask w
  rw [decide_eq_true h1] at N
  rw [decide_eq_false h2] at T
  have HN := hide N
  have HT := hide T
  have HR := hide R
  have HM := hide M
  have HB := hide hb0
  have HP := hide hP0
  clear N T R M hb0 hP0 h
  go_enter Try.func28, Try.ntmps28
  go_wp2_with fail
  refine (HN.out _).mono ?_
  rintro e w1 ⟨rfl, rfl⟩
  go_wp2_with fail
  refine HT.out.mono ?_
  rintro e w1 ⟨rfl, rfl⟩
  go_wp2
  go_ret
  exact ⟨rfl, HB.out⟩
set_option maxRecDepth 4000 in
set_option maxHeartbeats 800000 in
theorem rwrite10_c (h : DV w gs gp c s cs ps) (node id : Int) (p : Pg) (mask : Int) (h1 : 0 ≤ node ∧ node < 8) (h2 : 0 ≤ id ∧ id < (s.n : Int)) (h3 : ¬ p.right) : Calls Try.prog 28 #[.pointer (some ⟨gs, 0, none⟩), .int .i64 node, .int .i64 id, .agg (pgA p), .int .i64 mask] w fun e w' => e = .returned (.int .i64 1) ∧ Below w.heap.size w w' := by
  have hb0 : Below w.heap.size w (w.alloc (.cells (pgA p) 35)) := (Below.refl _ _).alloc (Nat.le_refl _) _
  have hP0 : PgAt (w.alloc (.cells (pgA p) 35)) w.heap.size p := heap_alloc_new w _
  have N := fun w => rnode10 node w
  have T := rthere10 (h.later hb0) id
  have R := fun w => rright_any p w
  have M := fun w => rmask10 mask w
  rw [decide_eq_true h1] at N
  rw [decide_eq_true h2] at T
  rw [decide_eq_false h3] at R
  have HN := hide N
  have HT := hide T
  have HR := hide R
  have HM := hide M
  have HB := hide hb0
  have HP := hide hP0
  clear N T R M hb0 hP0 h
  go_enter Try.func28, Try.ntmps28
  go_wp2_with fail
  refine (HN.out _).mono ?_
  rintro e w1 ⟨rfl, rfl⟩
  go_wp2_with fail
  refine HT.out.mono ?_
  rintro e w1 ⟨rfl, rfl⟩
  go_wp2_with (refine wpList_load_page rfl _ rfl w.heap.size rfl p HP.out ?_)
  refine (HR.out _).mono ?_
  rintro e w1 ⟨rfl, hb1⟩
  have HB1 := hide (HB.out.trans (hb1.mono HB.out.size))
  clear hb1
  go_wp2
  go_ret
  exact ⟨rfl, HB1.out⟩
set_option maxRecDepth 4000 in
set_option maxHeartbeats 800000 in
theorem rwrite10_d (h : DV w gs gp c s cs ps) (node id : Int) (p : Pg) (mask : Int) (h1 : 0 ≤ node ∧ node < 8) (h2 : 0 ≤ id ∧ id < (s.n : Int)) (h3 : p.right) (h4 : ¬ maskOk mask) : Calls Try.prog 28 #[.pointer (some ⟨gs, 0, none⟩), .int .i64 node, .int .i64 id, .agg (pgA p), .int .i64 mask] w fun e w' => e = .returned (.int .i64 1) ∧ Below w.heap.size w w' := by
  have hb0 : Below w.heap.size w (w.alloc (.cells (pgA p) 35)) := (Below.refl _ _).alloc (Nat.le_refl _) _
  have hP0 : PgAt (w.alloc (.cells (pgA p) 35)) w.heap.size p := heap_alloc_new w _
  have N := fun w => rnode10 node w
  have T := rthere10 (h.later hb0) id
  have R := fun w => rright_any p w
  have M := fun w => rmask10 mask w
  rw [decide_eq_true h1] at N
  rw [decide_eq_true h2] at T
  rw [decide_eq_true h3] at R
  rw [decide_eq_false h4] at M
  have HN := hide N
  have HT := hide T
  have HR := hide R
  have HM := hide M
  have HB := hide hb0
  have HP := hide hP0
  clear N T R M hb0 hP0 h
  go_enter Try.func28, Try.ntmps28
  go_wp2_with fail
  refine (HN.out _).mono ?_
  rintro e w1 ⟨rfl, rfl⟩
  go_wp2_with fail
  refine HT.out.mono ?_
  rintro e w1 ⟨rfl, rfl⟩
  go_wp2_with (refine wpList_load_page rfl _ rfl w.heap.size rfl p HP.out ?_)
  refine (HR.out _).mono ?_
  rintro e w1 ⟨rfl, hb1⟩
  have HB1 := hide (HB.out.trans (hb1.mono HB.out.size))
  clear hb1
  go_wp2_with fail
  refine (HM.out _).mono ?_
  rintro e w1 ⟨rfl, rfl⟩
  go_wp2
  go_ret
  exact ⟨rfl, HB1.out⟩
set_option maxRecDepth 4000 in
set_option maxHeartbeats 3200000 in
theorem rwrite10_look (h : DV w gs gp c s cs ps) (nd i mk : Nat) (p : Pg) (hn : nd < 8) (hi : i < s.n) (hp : p.right) (hm : maskOk (mk : Int)) (E : Int) (D : Sc) (HE : Hid ((s.out nd = true ∨ s.busy (i : Int) = true ∨ p.l ≤ (stampB (s.pl i)).1 → E = 13 ∧ D = s) ∧ (¬ (s.out nd = true ∨ s.busy (i : Int) = true ∨ p.l ≤ (stampB (s.pl i)).1) → E = (if mk = 15 then 0 else 9) ∧ D = s.dW nd i p mk))) : Calls Try.prog 28 #[.pointer (some ⟨gs, 0, none⟩), .int .i64 (nd : Int), .int .i64 (i : Int), .agg (pgA p), .int .i64 (mk : Int)] w fun e w' => e = .returned (.int .i64 E) ∧ (∃ cs' ps', DV w' gs gp c D cs' ps') ∧ Tn (fun k => k = gs ∨ k = gp) w w' := by
  have hb0 : Below w.heap.size w (w.alloc (.cells (pgA p) 35)) := (Below.refl _ _).alloc (Nat.le_refl _) _
  have hP0 : PgAt (w.alloc (.cells (pgA p) 35)) w.heap.size p := heap_alloc_new w _
  have N := fun w => rnode10 (nd : Int) w
  have T := rthere10 (h.later hb0) (i : Int)
  have R := fun w => rright_any p w
  have M := fun w => rmask10 (mk : Int) w
  rw [decide_eq_true (by omega)] at N
  rw [decide_eq_true (by omega)] at T
  rw [decide_eq_true hp] at R
  rw [decide_eq_true hm] at M
  have HN := hide N
  have HT := hide T
  have HR := hide R
  have HM := hide M
  have HB := hide (And.intro hb0 (h.later hb0))
  have HP := hide hP0
  have HV := hide h
  have hn32 := h.n
  have HMK := hide hm
  have hmk : mk ≤ 15 := by omega
  clear N T R M hb0 hP0 h hm
  go_enter Try.func28, Try.ntmps28
  go_wp2_with fail
  refine (HN.out _).mono ?_
  rintro e w1 ⟨rfl, rfl⟩
  go_wp2_with fail
  refine HT.out.mono ?_
  rintro e w1 ⟨rfl, rfl⟩
  go_wp2_with (refine wpList_load_page rfl _ rfl w.heap.size rfl p HP.out ?_)
  refine (HR.out _).mono ?_
  rintro e w1 ⟨rfl, hb1⟩
  have HB1 := hide (And.intro (HB.out.2.later hb1) (And.intro (HB.out.1.trans (hb1.mono HB.out.1.size)) (HP.out.below hb1 (by simp))))
  clear hb1 HB HP HT HR HN
  go_wp2_with fail
  refine (HM.out _).mono ?_
  rintro e w2 ⟨rfl, rfl⟩
  clear HM
  go_wp2
  go_loopw [11] (fun v wr => ∃ j : Nat, j ≤ 8 ∧ v = .int .i64 j ∧ wr = w1 ∧ Hid (∀ m, m < j → ¬ (s.out m = true ∧ (m = nd ∨ s.id m = (i : Int))))) (fun v _ => 8 - (intOf v).toNat)
  case atStart => exact ⟨0, by omega, rfl, rfl, fun m hm => absurd hm (Nat.not_lt_zero _)⟩
  case round =>
    obtain ⟨j, hj, rfl, rfl, HNo⟩ := hrel
    by_cases hlt : j < 8
    · have i1 : (j : Int) < 8 := by omega
      have a1 := HB1.out.1.cout j hlt
      have a2 := HB1.out.1.cid j hlt
      obtain ⟨u, hu⟩ : ∃ u, s.out j = u := ⟨_, rfl⟩
      obtain ⟨z, hz⟩ : ∃ z, s.id j = z := ⟨_, rfl⟩
      rw [hu] at a1
      rw [hz] at a2
      have HU := hide (And.intro hu hz)
      clear hu hz
      have stop : ¬ (u = true ∧ (j = nd ∨ z = (i : Int))) → ∀ m, m < j + 1 → ¬ (s.out m = true ∧ (m = nd ∨ s.id m = (i : Int))) := fun hno m hm g => by
        by_cases e : m = j
        · rw [e, HU.out.1, HU.out.2] at g
          exact hno g
        · exact HNo.out m (by omega) g
      have HST := hide stop
      clear stop
      cases u with
      | false =>
        have HNo2 := hide (HST.out (fun g => by cases g.1))
        clear HNo HST
        go_wp2
        go_roundw
        case rel => exact ⟨j + 1, by omega, by go_num, by first | rfl | trivial, HNo2⟩
        case measure => simp [intOf]; omega
      | true =>
        by_cases e1 : j = nd
        · have e2 : ((j : Int) == (nd : Int)) = true := by rw [e1]; exact beq_self_eq_true _
          have HF := hide (HE.out.1 (.inl (by rw [← e1]; exact HU.out.1)))
          subst e1
          clear HST HE
          go_wp2
          go_ret
          rw [HF.out.1, HF.out.2]
          exact ⟨rfl, ⟨_, _, HB1.out.1⟩, Tn.of_below HB1.out.2.1⟩
        · have e2 : ((j : Int) == (nd : Int)) = false := by
            simp only [beq_eq_false_iff_ne, ne_eq]
            omega
          have e3 : ¬ (j : Int) = (nd : Int) := by omega
          by_cases g1 : z = (i : Int)
          · have g2 : (z == (i : Int)) = true := by simpa using g1
            have HF := hide (HE.out.1 (.inr (.inl ((s.busy_iff _).2 ⟨j, hlt, HU.out.1, by rw [HU.out.2]; exact g1⟩))))
            clear HST HE g1
            go_wp2
            go_ret
            rw [HF.out.1, HF.out.2]
            exact ⟨rfl, ⟨_, _, HB1.out.1⟩, Tn.of_below HB1.out.2.1⟩
          · have g2 : (z == (i : Int)) = false := by simpa using g1
            have HNo2 := hide (HST.out (fun g => by
              rcases g.2 with g3 | g3
              · exact e1 g3
              · exact g1 g3))
            clear HNo HST g1
            go_wp2
            go_roundw
            case rel => exact ⟨j + 1, by omega, by go_num, by first | rfl | trivial, HNo2⟩
            case measure => simp [intOf]; omega
    · have i1 : ¬ (j : Int) < 8 := by omega
      have HF1 := hide (show ¬ s.out nd = true from fun g => HNo.out nd (by omega) ⟨g, .inl rfl⟩)
      have HF2 := hide (show ¬ s.busy (i : Int) = true from fun g => by
        obtain ⟨m, m1, m2, m3⟩ := (s.busy_iff _).1 g
        exact HNo.out m (by omega) ⟨m2, .inr m3⟩)
      clear HNo
      have c0 := HB1.out.1.c0
      have cp := HB1.out.1.cpl i hi
      have i2 : (i : Int) < (s.n : Int) := by omega
      have hsz : (⟨(s.pl i).toArray⟩ : ByteArray).size ≤ 140737488355328 := by
        show (s.pl i).toArray.size ≤ _
        rw [List.size_toArray, HV.out.le i hi]
        decide
      go_wp2_with fail
      refine (rstamp_any ⟨(s.pl i).toArray⟩ _ hsz).mono ?_
      rintro e w3 ⟨rfl, m, rfl⟩
      have es : (stampB (⟨(s.pl i).toArray⟩ : ByteArray).data.toList) = stampB (s.pl i) := rfl
      rw [es]
      obtain ⟨st, hst⟩ : ∃ st, (stampB (s.pl i)).1 = st := ⟨_, rfl⟩
      obtain ⟨sb, hsb⟩ : ∃ sb, (stampB (s.pl i)).2 = sb := ⟨_, rfl⟩
      rw [hst, hsb]
      rw [hst] at HE
      clear es hst hsb hsz c0 cp
      have HB3 : Hid (DV (wr.drewN m) gs gp c s cs ps ∧ Below w.heap.size w (wr.drewN m) ∧ PgAt (wr.drewN m) w.heap.size p) := hide ⟨HB1.out.1.keep rfl rfl, ⟨HB1.out.2.1.1, HB1.out.2.1.2, HB1.out.2.1.3, HB1.out.2.1.4, HB1.out.2.1.5⟩, HB1.out.2.2⟩
      generalize wr.drewN m = w4 at *
      clear HB1
      have cl : w4.cell? ⟨w.heap.size, 0, none⟩ = some (.int .u64 (p.l : Int)) := (show RowAt w4 w.heap.size 35 (pgA p) from HB3.out.2.2).cell 0 _ rfl
      by_cases hle : p.l ≤ st
      · have hle2 : (p.l : Int) ≤ (st : Int) := by omega
        have HF := hide (HE.out.1 (.inr (.inr hle)))
        clear HE hle
        go_wp2
        go_ret
        rw [HF.out.1, HF.out.2]
        exact ⟨rfl, ⟨_, _, HB3.out.1⟩, Tn.of_below HB3.out.2.1⟩
      · have hle2 : ¬ (p.l : Int) ≤ (st : Int) := by omega
        have HF := hide (HE.out.2 (fun g => by
          rcases g with g | g | g
          · exact HF1.out g
          · exact HF2.out g
          · exact hle g))
        clear HE hle
        go_wp2_with (refine wpList_load_page rfl _ rfl w.heap.size rfl p HB3.out.2.2 ?_)
        refine (rimage_any i p _ (by omega) hp).mono ?_
        rintro e w5 ⟨rfl, hb5⟩
        have H : Hid (DV w5 gs gp c s cs ps ∧ Below w.heap.size w w5) := hide ⟨HB3.out.1.later hb5, HB3.out.2.1.trans (hb5.mono HB3.out.2.1.size)⟩
        clear hb5 HB3 cl HF1 HF2 hle2
        have li := imageB_length i p hp
        have HL := hide (fun w => (rlay10 (s.pl i) (imageB i p) (mk / 4) w (HV.out.le i hi) li (by omega)).mono (R' := fun e w' => e = .returned (.string ⟨(layB (s.pl i) (imageB i p) (mk / 4)).toArray⟩) ∧ Below w.heap.size w w') (fun e w' ⟨h1, n, h2⟩ => ⟨h1, by rw [h2]; exact ⟨rfl, rfl, rfl, Nat.le_refl _, fun _ _ => rfl⟩⟩))
        have HID := hide (layB_length (s.pl i) (imageB i p) (mk / 4) (HV.out.le i hi) li)
        have HLI := hide li
        clear li
        have hq : ((mk : Int)).tdiv 4 = ((mk / 4 : Nat) : Int) := rfl
        go_wp2_with fail
        refine gen_wp (fun z => Hid (DV z gs gp c s cs ps ∧ Below w.heap.size w z)) H ?_
        clear H
        intro y H
        have HD : Hid (DV y.drew gs gp c s cs ps ∧ Below w.heap.size w y.drew) := hide ⟨H.out.1.keep rfl rfl, ⟨H.out.2.1, H.out.2.2, H.out.2.3, H.out.2.4, H.out.2.5⟩⟩
        refine wp_region_noPanic ?_
        refine wp_region_held_drew (S := fun z => RowAt z gs 83 cs) (by kernel_rfl) (HD.out.1.st) (fun hHeld => ?_)
        refine hand_take 0 (some 79) (.pointer (some ⟨gs, 0, none⟩)) rfl rfl (by kernel_rfl) (by kernel_rfl) (by kernel_rfl) (fun _ _ _ h => h) (Or.inl ⟨by kernel_rfl, fun x hSx => by go_simp⟩) hHeld ?_
        try simp only [Act.put, List.setIfInBounds_toArray, List.set_cons_zero, List.set_cons_succ]
        refine hand_take 1 (some 80) (.pointer (some ⟨gs, 0, none⟩)) rfl rfl (by kernel_rfl) (by kernel_rfl) (by kernel_rfl) (fun _ _ _ h => h) (Or.inl ⟨by kernel_rfl, fun x hSx => by go_simp⟩) hHeld ?_
        try simp only [Act.put, List.setIfInBounds_toArray, List.set_cons_zero, List.set_cons_succ]
        refine hand_take 2 (some 81) (.pointer (some ⟨gs, 0, none⟩)) rfl rfl (by kernel_rfl) (by kernel_rfl) (by kernel_rfl) (fun _ _ _ h => h) (Or.inl ⟨by kernel_rfl, fun x hSx => by go_simp⟩) hHeld ?_
        try simp only [Act.put, List.setIfInBounds_toArray, List.set_cons_zero, List.set_cons_succ]
        refine hand_take 3 (some 82) (.slice (some ⟨gp, 0, none⟩) s.n c) rfl rfl (by kernel_rfl) (by kernel_rfl) (by kernel_rfl) (fun _ _ _ h => h) (Or.inl ⟨by kernel_rfl, fun x hSx => by have h := hSx.cell 0 _ HV.out.sb.sl; go_simp⟩) hHeld ?_
        try simp only [Act.put, List.setIfInBounds_toArray, List.set_cons_zero, List.set_cons_succ]
        refine hand_take 4 (some 83) (.int .i64 (i : Int)) rfl rfl (by kernel_rfl) (by kernel_rfl) (by kernel_rfl) (fun _ _ _ h => h) (Or.inl ⟨by kernel_rfl, fun x hSx => by go_simp⟩) hHeld ?_
        try simp only [Act.put, List.setIfInBounds_toArray, List.set_cons_zero, List.set_cons_succ]
        refine hand_take 5 (some 84) (.pointer (some ⟨gs, 0, none⟩)) rfl rfl (by kernel_rfl) (by kernel_rfl) (by kernel_rfl) (fun _ _ _ h => h) (Or.inl ⟨by kernel_rfl, fun x hSx => by go_simp⟩) hHeld ?_
        try simp only [Act.put, List.setIfInBounds_toArray, List.set_cons_zero, List.set_cons_succ]
        refine hand_take 6 (some 85) (.pointer (some ⟨gs, 0, none⟩)) rfl rfl (by kernel_rfl) (by kernel_rfl) (by kernel_rfl) (fun _ _ _ h => h) (Or.inl ⟨by kernel_rfl, fun x hSx => by go_simp⟩) hHeld ?_
        try simp only [Act.put, List.setIfInBounds_toArray, List.set_cons_zero, List.set_cons_succ]
        refine hand_take 7 (some 86) (.pointer (some ⟨gs, 0, none⟩)) rfl rfl (by kernel_rfl) (by kernel_rfl) (by kernel_rfl) (fun _ _ _ h => h) (Or.inl ⟨by kernel_rfl, fun x hSx => by go_simp⟩) hHeld ?_
        try simp only [Act.put, List.setIfInBounds_toArray, List.set_cons_zero, List.set_cons_succ]
        refine hand_take 8 (some 87) (.slice (some ⟨gp, 0, none⟩) s.n c) rfl rfl (by kernel_rfl) (by kernel_rfl) (by kernel_rfl) (fun _ _ _ h => h) (Or.inl ⟨by kernel_rfl, fun x hSx => by have h := hSx.cell 0 _ HV.out.sb.sl; go_simp⟩) hHeld ?_
        try simp only [Act.put, List.setIfInBounds_toArray, List.set_cons_zero, List.set_cons_succ]
        refine hand_take 9 (some 88) (.int .i64 (i : Int)) rfl rfl (by kernel_rfl) (by kernel_rfl) (by kernel_rfl) (fun _ _ _ h => h) (Or.inl ⟨by kernel_rfl, fun x hSx => by go_simp⟩) hHeld ?_
        try simp only [Act.put, List.setIfInBounds_toArray, List.set_cons_zero, List.set_cons_succ]
        refine hand_take 10 (some 89) (.pointer (some ⟨gp, i, none⟩)) rfl rfl (by kernel_rfl) (by kernel_rfl) (by kernel_rfl) (fun _ _ _ h => h) (Or.inl ⟨by kernel_rfl, fun x hSx => by go_simp⟩) hHeld ?_
        try simp only [Act.put, List.setIfInBounds_toArray, List.set_cons_zero, List.set_cons_succ]
        refine hand_take 12 (some 91) (.string ⟨(imageB i p).toArray⟩) rfl rfl (by kernel_rfl) (by kernel_rfl) (by kernel_rfl) (fun _ _ _ h => h) (Or.inl ⟨by kernel_rfl, fun x hSx => by go_simp⟩) hHeld ?_
        try simp only [Act.put, List.setIfInBounds_toArray, List.set_cons_zero, List.set_cons_succ]
        refine hand_take 13 (some 92) (.int .i64 (mk : Int)) rfl rfl (by kernel_rfl) (by kernel_rfl) (by kernel_rfl) (fun _ _ _ h => h) (Or.inl ⟨by kernel_rfl, fun x hSx => by go_simp⟩) hHeld ?_
        try simp only [Act.put, List.setIfInBounds_toArray, List.set_cons_zero, List.set_cons_succ]
        refine hand_take 14 (some 93) (.int .i64 ((mk / 4 : Nat) : Int)) rfl rfl (by kernel_rfl) (by kernel_rfl) (by kernel_rfl) (fun _ _ _ h => h) (Or.inl ⟨by kernel_rfl, fun x hSx => by go_simp; rw [IntKind.wrap_i64]; omega⟩) hHeld ?_
        try simp only [Act.put, List.setIfInBounds_toArray, List.set_cons_zero, List.set_cons_succ]
        refine hand_one 11 (by kernel_rfl) ?_
        refine hand_run (some 90) rfl rfl rfl (.string ⟨(s.pl i).toArray⟩) y.drew ?hz ?_
        (case hz => have h := HD.out.1.cpl i hi; go_simp)
        refine ⟨HD.out.1.st, ?_⟩
        try simp only [Act.put, List.setIfInBounds_toArray, List.set_cons_zero, List.set_cons_succ]
        refine hand_one 15 (by kernel_rfl) ?_
        refine hand_call (some 94) rfl rfl rfl 60 #[.string ⟨(s.pl i).toArray⟩, .string ⟨(imageB i p).toArray⟩, .int .i64 ((mk / 4 : Nat) : Int)] ?he ((HL.out y.drew).mono ?_)
        (case he => go_simp)
        rintro e w7 ⟨rfl, hb7⟩
        have hS7 := HD.out.1.later hb7
        have hB7 := HD.out.2.trans (hb7.mono HD.out.2.size)
        refine ⟨_, rfl, ?_⟩
        refine ⟨hS7.st, ?_⟩
        try simp only [Act.put, List.setIfInBounds_toArray, List.set_cons_zero, List.set_cons_succ]
        have hHeld := hS7.st
        refine hand_take 16 (some 95) (.pointer (some ⟨gp, i, none⟩)) rfl rfl (by kernel_rfl) (by kernel_rfl) (by kernel_rfl) (fun _ _ _ h => h) (Or.inl ⟨by kernel_rfl, fun x hSx => by go_simp⟩) hHeld ?_
        try simp only [Act.put, List.setIfInBounds_toArray, List.set_cons_zero, List.set_cons_succ]
        refine hand_one 17 (by kernel_rfl) ?_
        generalize hL : layB (s.pl i) (imageB i p) (mk / 4) = L at *
        refine hand_skip rfl rfl rfl (w7.setCell ⟨gp, i, none⟩ (.string ⟨L.toArray⟩)) ?hs ?_
        (case hs => have h := hS7.cpl i hi; have h2 := hS7.pr.free i; go_simp)
        refine ⟨hS7.st.other _ _ hS7.ne, ?_⟩
        try simp only [Act.put, List.setIfInBounds_toArray, List.set_cons_zero, List.set_cons_succ]
        refine wpAnyH_done (by kernel_rfl) ?_ _
        refine NoPanic.normal ?_
        have lL : L.length = 256 := HID.out
        have hV8 : DV (w7.setCell ⟨gp, i, none⟩ (.string ⟨L.toArray⟩)) gs gp c { s with pl := put1 s.pl i L } cs (ps.setIfInBounds i (.string ⟨L.toArray⟩)) := by
          refine ⟨hS7.st.other _ _ hS7.ne, ⟨HV.out.sb.size, HV.out.sb.sl, HV.out.sb.ar⟩, hS7.pr.set i _, fun m hm => ?_, HV.out.n, fun m hm => ?_⟩
          · show _ = some (Value.string ⟨(put1 s.pl i L m).toArray⟩)
            by_cases e : m = i
            · subst e
              rw [put1_same, Array.getElem?_setIfInBounds_self_of_lt (Array.getElem?_eq_some_iff.1 (HV.out.pb m hi)).1]
            · rw [put1_other _ _ _ _ e, Array.getElem?_setIfInBounds_ne (fun h => e h.symm)]
              exact HV.out.pb m hm
          · show (put1 s.pl i L m).length = 256
            by_cases e : m = i
            · subst e
              rw [put1_same]
              exact lL
            · rw [put1_other _ _ _ _ e]
              exact HV.out.le m hm
        have hT8 : Tn (fun k => k = gs ∨ k = gp) w (w7.setCell ⟨gp, i, none⟩ (.string ⟨L.toArray⟩)) := (Tn.of_below hB7).set gp i _ (.inr rfl)
        have H8 := hide (And.intro hV8 hT8)
        have HLL := hide hL
        clear hV8 hT8 hS7 hB7 hHeld hb7 lL hL HD HL HID H
        generalize w7.setCell ⟨gp, i, none⟩ (.string ⟨L.toArray⟩) = w8 at *
        by_cases h15 : mk = 15
        · subst h15
          go_wp2_with (refine wpList_store_part rfl _ _ _ rfl gs (1 + nd * 3) _ cs _ rfl rfl H8.out.1.st infoNd ?_ ?_ ?_)
          (case refine_1 =>
            rw [HV.out.sb.size]
            show 1 + nd * 3 + 3 ≤ 25
            omega)
          (case refine_2 => decide +kernel)
          intro w2 hR hO
          have hV2 := H8.out.1.sb.put nd hn ([]) (0) false
          have hV3 : DV w2 gs gp c _ _ _ := ⟨hR, hV2, hO.row H8.out.1.pr (fun e => HV.out.ne e.symm), H8.out.1.pb, H8.out.1.n, H8.out.1.le⟩
          have hT2 : Tn (fun k => k = gs ∨ k = gp) w w2 := H8.out.2.trans (G := fun k => k = gs) ⟨hO.os, hO.tape, hO.output, Nat.le_of_eq hO.size, fun k hk hn => hO.block k hn⟩ (fun k hk => .inl (.inl hk))
          have H2 := hide (And.intro hV3 hT2)
          clear hV2 hV3 hT2 hR hO H8 HV
          go_wp2
          go_ret
          rw [HF.out.1, HF.out.2]
          have hh := H2.out.1
          rw [← HLL.out] at hh
          exact ⟨rfl, ⟨_, _, hh⟩, H2.out.2⟩
        · have h15b : ((mk : Int) == 15) = false := by
            simp only [beq_eq_false_iff_ne, ne_eq]
            omega
          have h15c : ¬ (mk : Int) = 15 := by omega
          have HDD := hide (show s.dW nd i p mk = { { s with pl := put1 s.pl i L } with ar := put1 s.ar nd (imageB i p), id := put1 s.id nd (i : Int), out := put1 s.out nd true } from by
            unfold Sc.dW
            rw [HLL.out]
            simp only [if_neg h15]
            simp [h15])
          have HF15 := hide HF.out
          rw [if_neg h15, HDD.out] at HF15
          clear HDD h15 HLL HF
          go_wp2_with (refine wpList_store_part rfl _ _ _ rfl gs (1 + nd * 3) _ cs _ rfl rfl H8.out.1.st infoNd ?_ ?_ ?_)
          (case refine_1 =>
            rw [HV.out.sb.size]
            show 1 + nd * 3 + 3 ≤ 25
            omega)
          (case refine_2 => simp [Value.oneCell'])
          intro w2 hR hO
          have hV2 := H8.out.1.sb.put nd hn (imageB i p) ((i : Int)) true
          have hV3 : DV w2 gs gp c _ _ _ := ⟨hR, hV2, hO.row H8.out.1.pr (fun e => HV.out.ne e.symm), H8.out.1.pb, H8.out.1.n, H8.out.1.le⟩
          have hT2 : Tn (fun k => k = gs ∨ k = gp) w w2 := H8.out.2.trans (G := fun k => k = gs) ⟨hO.os, hO.tape, hO.output, Nat.le_of_eq hO.size, fun k hk hn => hO.block k hn⟩ (fun k hk => .inl (.inl hk))
          have H2 := hide (And.intro hV3 hT2)
          clear hV2 hV3 hT2 hR hO H8 HV
          go_wp2
          go_ret
          rw [HF15.out.1, HF15.out.2]
          exact ⟨rfl, ⟨_, _, H2.out.1⟩, H2.out.2⟩
end
end Go.Proofs.Ytfeghhgniahfkaa

/-
  Rows of one's own: behind calls, stores elsewhere, appends; their shape. Of no program.
-/
namespace Go.Proofs.Ytfeghhgniahfkaa
open Go.RowKit
set_option linter.unusedVariables false

theorem ow_later {x y : World} {B n : Nat} {e : TypeId} {sz : Nat} {v : Value} {xs : List Value} (h : x.ownsRow B e sz v n xs) (hb : Below x.heap.size x y) : y.ownsRow B e sz v n xs := by
  obtain ⟨h1, h2⟩ := h
  refine ⟨h1, h2.imp id ?_⟩
  rintro ⟨g, cap, cur, a, b, c, d⟩
  exact ⟨g, cap, cur, a, b, RowAt.later (show RowAt x g e cur from c) hb, d⟩
theorem ow_below {w0 x y : World} {B C n : Nat} {e : TypeId} {sz : Nat} {v : Value} {xs : List Value} (h : x.ownsRow C e sz v n xs) (hC : B ≤ C) (hb : Below B w0 x) (hB : B ≤ x.heap.size) (hg : x.grownBy y v.ownBlock) : Below B w0 y := by
  have key : ∀ k, some k = v.ownBlock → B ≤ k := by
    intro k hk
    rcases h.2 with ⟨rfl, _⟩ | ⟨g, cap, cur, rfl, hB, _⟩
    · cases hk
    · injection hk with hk
      rw [hk]
      exact Nat.le_trans hC hB
  refine ⟨hg.os.trans hb.1, hg.tape.trans hb.2, hg.output.trans hb.3, Nat.le_trans hb.4 hg.size, fun k hk => ?_⟩
  exact (hg.block k (by omega) (fun e => by have := key k e; omega)).trans (hb.5 k hk)
theorem ow_turn {F : Nat → Prop} {x y : World} {B n : Nat} {e : TypeId} {sz : Nat} {v : Value} {xs : List Value} (h : x.ownsRow B e sz v n xs) (q : Tn F x y) (hF : ∀ k, F k → k < B) : y.ownsRow B e sz v n xs := by
  obtain ⟨h1, h2⟩ := h
  refine ⟨h1, h2.imp id ?_⟩
  rintro ⟨g, cap, cur, a, b, c, d⟩
  exact ⟨g, cap, cur, a, b, q.row (show RowAt x g e cur from c) (fun hf => by have := hF g hf; omega), d⟩
theorem ow_shape {w : World} {B n : Nat} {e : TypeId} {sz : Nat} {v : Value} {xs : List Value} (h : w.ownsRow B e sz v n xs) : ∃ a c, v = .slice a n c ∧ n ≤ c ∧ (0 < n → ∃ b, a = some ⟨b, 0, none⟩ ∧ B ≤ b) := by
  rcases h.2 with ⟨rfl, h0⟩ | ⟨g, cap, cur, rfl, hB, _, h1, _⟩
  · exact ⟨none, 0, by rw [h0], by omega, fun h => absurd h (by omega)⟩
  · exact ⟨_, _, rfl, h1, fun _ => ⟨g, rfl, hB⟩⟩
end Go.Proofs.Ytfeghhgniahfkaa

/-
  The document's store: New. (gen10/rnew.py)
-/
namespace Go.Proofs.Ytfeghhgniahfkaa
open Go.RowKit
set_option linter.unusedVariables false

def stD (v : Value) : Array Value := #[v, .string ⟨#[]⟩, .bool false, .int .i64 0, .string ⟨#[]⟩, .bool false, .int .i64 0, .string ⟨#[]⟩, .bool false, .int .i64 0, .string ⟨#[]⟩, .bool false, .int .i64 0, .string ⟨#[]⟩, .bool false, .int .i64 0, .string ⟨#[]⟩, .bool false, .int .i64 0, .string ⟨#[]⟩, .bool false, .int .i64 0, .string ⟨#[]⟩, .bool false, .int .i64 0]
def imgs (j : Nat) : List Value := (List.range j).map fun i => .string ⟨(imageB i Pg.zero).toArray⟩
theorem imgs_more (j : Nat) : imgs (j + 1) = imgs j ++ [.string ⟨(imageB j Pg.zero).toArray⟩] := by
  unfold imgs
  rw [List.range_succ, List.map_append]
  rfl
theorem imgs_get (j i : Nat) (h : i < j) : (imgs j)[i]? = some (.string ⟨(imageB i Pg.zero).toArray⟩) := by
  simp [imgs, h]
def Sc.newD (k : Nat) : Sc := ⟨k, fun i => imageB i Pg.zero, fun _ => [], fun _ => 0, fun _ => false⟩
theorem new_pr (k : Nat) : Pr (Sc.new k) (Sc.newD k) := ⟨rfl, fun _ _ => rfl, fun _ _ => rfl, fun _ _ h => (nomatch h), fun _ _ h => (nomatch h)⟩
theorem stD_db (gp c k : Nat) : DB (stD (.slice (some ⟨gp, 0, none⟩) k c)) gp c (Sc.newD k) := by
  refine ⟨rfl, rfl, fun m hm => ?_⟩
  have hc : m = 0 ∨ m = 1 ∨ m = 2 ∨ m = 3 ∨ m = 4 ∨ m = 5 ∨ m = 6 ∨ m = 7 := by omega
  intro j hj
  have hj3 : j < 3 := hj
  have hd : j = 0 ∨ j = 1 ∨ j = 2 := by omega
  rcases hc with rfl | rfl | rfl | rfl | rfl | rfl | rfl | rfl <;> rcases hd with rfl | rfl | rfl <;> rfl
theorem own_dv {x : World} {B g k : Nat} {v : Value} (h : x.ownsRow B 9 1 v k (imgs k)) (hk : 1 ≤ k) (hk32 : k ≤ 32) (hr : RowAt x g 83 (stD v)) : ∃ gp c cs ps, B ≤ gp ∧ DV x g gp c (Sc.newD k) cs ps := by
  rcases h.2 with ⟨_, h0⟩ | ⟨gp, cap, cur, rfl, hB, hrow, h1, h2, h3, h4⟩
  · omega
  · refine ⟨gp, cap, _, cur, hB, hr, stD_db gp cap k, hrow, fun i hi => ?_, hk32, fun i hi => imageB_length i _ zero_right⟩
    have hi' : i < k := hi
    have := imgs_get k i hi'
    rw [← h4, List.getElem?_take, if_pos (by omega), Array.getElem?_toList] at this
    exact this
theorem infoStr : (Try.prog.info? 9).map (fun i => (i.zero, i.size, i.bytes)) = some (some (.string ⟨#[]⟩), 1, 16) := by kernel_rfl
theorem exec_append {P : Program} {o : Oper} {a : Act} {w w' : World} {v' : Value} (d x : Operand) (t u : TypeId) (hop : o.op = Op.call { callee := Callee.builtin Builtin.append, args := #[d, x], argTypes := #[t, u] }) (vd vx : Value) (hs : a.eval d = vd) (hx : a.eval x = vx) (hrun : (Builtin.append_ #[t, u] o.type #[vd, vx]).run P w = .ok v' w') : (execOp a.eval o).run P w = .ok (.value v') w' := by
  simp [execOp, hop, resolve, invoke, builtin, hs, hx, hrun, Result.andThen]
/-- One more text behind a row of one's own. -/
theorem run_app_str (ty : TypeId) (w : World) (B k : Nat) (v : Value) (xs : List Value) (hown : w.ownsRow B 9 1 v k xs) (b : Nat) (u : ByteArray) (hB : RowAt w b 9 #[.string u]) (hz : k ≤ 1000) (hbase : B ≤ w.heap.size) :
    ∃ v' w', (Builtin.append_ #[78, 78] ty #[v, .slice (some ⟨b, 0, none⟩) 1 1]).run Try.prog w = .ok v' w' ∧ w'.ownsRow B 9 1 v' (k + 1) (xs ++ [.string u]) ∧ w.grownBy w' v.ownBlock := by
  obtain ⟨i, hi0, hi1⟩ := Option.map_eq_some_iff.1 infoStr
  simp only [Prod.mk.injEq] at hi1
  obtain ⟨v', w', r1, r2, r3, _⟩ := run_append_own (P := Try.prog) w B 78 ty 9 i (.string ⟨#[]⟩) 1 16 Try.underlying78 hi0 hi1.1 hi1.2.1 hi1.2.2 rfl (by omega) v k xs hown ⟨b, 0, none⟩ 1 1 [.string u] rfl (fun j u' hu => by
    rw [Addr.add_lit, Nat.zero_add]
    exact hB.cell j u' (by simpa using hu)) (fun u' hu => by
    rw [List.mem_singleton] at hu
    rw [hu]
    rfl) (by unfold maxLen; omega) (by omega) hbase
  exact ⟨v', w', r1, r2, r3⟩
/-- What New keeps while it goes on. -/
structure NI (w x : World) (j : Nat) (v : Value) : Prop where
  row : RowAt x w.heap.size 83 (stD v)
  own : x.ownsRow (w.heap.size + 1) 9 1 v j (imgs j)
  bel : Below w.heap.size w x
  big : w.heap.size + 1 ≤ x.heap.size
theorem NI.later {w x y : World} {j : Nat} {v : Value} (h : NI w x j v) (hb : Below x.heap.size x y) : NI w y j v := ⟨h.row.later hb, ow_later h.own hb, h.bel.trans (hb.mono h.bel.size), Nat.le_trans h.big hb.size⟩
theorem NI.grown {w x y : World} {j : Nat} {v v' : Value} {n : Nat} {xs : List Value} (h : NI w x j v) (ho : y.ownsRow (w.heap.size + 1) 9 1 v' n xs) (hg : x.grownBy y v.ownBlock) : RowAt y w.heap.size 83 (stD v) ∧ Below w.heap.size w y ∧ w.heap.size + 1 ≤ y.heap.size :=
  ⟨(hg.block _ h.big (fun e => by have := (h.own.lt _ e.symm).1; omega)).trans h.row, ow_below h.own (Nat.le_succ _) h.bel h.bel.size hg, Nat.le_trans h.big hg.size⟩
theorem NI.done {w x : World} {j : Nat} {v v' : Value} (h1 : RowAt x w.heap.size 83 (stD v)) (h2 : x.ownsRow (w.heap.size + 1) 9 1 v' j (imgs j)) (h3 : Below w.heap.size w x) (h4 : w.heap.size + 1 ≤ x.heap.size) : NI w (x.setCell ⟨w.heap.size, 0, none⟩ v') j v' := by
  refine ⟨?_, ow_turn (F := Is w.heap.size) h2 ((Tn.refl _ _).set _ _ _ rfl) (fun k hk => by have hk : k = w.heap.size := hk; omega), h3.setCell (Nat.le_refl _) v', by rw [World.size_setCell]; exact h4⟩
  have := h1.set 0 v'
  exact this
set_option maxRecDepth 4000 in
set_option maxHeartbeats 3200000 in
theorem rnew10_go (f : Int) (k : Nat) (w : World) (hk : k ≤ 32) (hk1 : 1 ≤ k) (q : Int) (hq : (if 32 < f then 32 else f) = q) (hp : (if 1 < q then q else 1) = (k : Int)) :
    Calls Try.prog 10 #[.int .i64 f] w fun e w' => ∃ gs, e = .returned (.pointer (some ⟨gs, 0, none⟩)) ∧ (∃ gp c cs ps, w.heap.size ≤ gp ∧ DV w' gs gp c (Sc.newD k) cs ps) ∧ w.heap.size ≤ gs ∧ Below w.heap.size w w' := by
  have hb0 : Below w.heap.size w (w.alloc (.cells (stD (.slice none 0 0)) 83)) := (Below.refl _ _).alloc (Nat.le_refl _) _
  have H0 : Hid (NI w (w.alloc (.cells (stD (.slice none 0 0)) 83)) 0 (.slice none 0 0)) := hide ⟨RowAt.new w _ _, World.ownsRow_nil _ _ _ _, hb0, Nat.le_of_eq (World.size_alloc _ _).symm⟩
  unfold stD at H0
  clear hb0
  go_enter Try.func10, Try.ntmps10
  go_wp2
  refine gen_wp (fun x => Hid (NI w x 0 (.slice none 0 0))) H0 ?_
  clear H0
  intro x0 H0
  go_loopw [4] (fun u wr => ∃ (j : Nat) (v : Value), j ≤ k ∧ u = .int .i64 j ∧ Hid (NI w wr j v)) (fun u _ => k - (intOf u).toNat)
  case atStart => exact ⟨0, _, Nat.zero_le _, rfl, H0⟩
  case round =>
    obtain ⟨j, v, hj, rfl, HR⟩ := hrel
    clear H0
    by_cases hlt : j < k
    · have i1 : (j : Int) < k := by omega
      have HR0 : Hid (NI w wr.drew j v) := hide ⟨HR.out.row, HR.out.own, ⟨HR.out.bel.1, HR.out.bel.2, HR.out.bel.3, HR.out.bel.4, HR.out.bel.5⟩, HR.out.big⟩
      obtain ⟨a0, c0, rfl, -, -⟩ := ow_shape HR.out.own
      obtain ⟨v, hv⟩ : ∃ v, Value.slice a0 j c0 = v := ⟨_, rfl⟩
      have HV := hide hv
      go_wp2_with fail
      refine wp_region_noPanic ?_
      refine wp_region_held_drew (S := fun _ => True) (by kernel_rfl) trivial (fun hHeld => ?_)
      rw [hv] at HR HR0
      clear hv
      refine hand_take 0 (some 14) (.pointer (some ⟨w.heap.size, 0, none⟩)) rfl rfl (by kernel_rfl) (by kernel_rfl) (by kernel_rfl) (fun _ _ _ h => h) (Or.inl ⟨by kernel_rfl, fun x hSx => by go_simp⟩) trivial ?_
      try simp only [Act.put, List.setIfInBounds_toArray, List.set_cons_zero, List.set_cons_succ]
      refine hand_take 1 (some 15) (.pointer (some ⟨w.heap.size, 0, none⟩)) rfl rfl (by kernel_rfl) (by kernel_rfl) (by kernel_rfl) (fun _ _ _ h => h) (Or.inl ⟨by kernel_rfl, fun x hSx => by go_simp⟩) trivial ?_
      try simp only [Act.put, List.setIfInBounds_toArray, List.set_cons_zero, List.set_cons_succ]
      refine hand_take 2 (some 16) (.pointer (some ⟨w.heap.size, 0, none⟩)) rfl rfl (by kernel_rfl) (by kernel_rfl) (by kernel_rfl) (fun _ _ _ h => h) (Or.inl ⟨by kernel_rfl, fun x hSx => by go_simp⟩) trivial ?_
      try simp only [Act.put, List.setIfInBounds_toArray, List.set_cons_zero, List.set_cons_succ]
      refine hand_take 3 (some 17) (.pointer (some ⟨w.heap.size, 0, none⟩)) rfl rfl (by kernel_rfl) (by kernel_rfl) (by kernel_rfl) (fun _ _ _ h => h) (Or.inl ⟨by kernel_rfl, fun x hSx => by go_simp⟩) trivial ?_
      try simp only [Act.put, List.setIfInBounds_toArray, List.set_cons_zero, List.set_cons_succ]
      refine hand_take 5 (some 19) (.int .i64 (j : Int)) rfl rfl (by kernel_rfl) (by kernel_rfl) (by kernel_rfl) (fun _ _ _ h => h) (Or.inl ⟨by kernel_rfl, fun x hSx => by go_simp⟩) trivial ?_
      try simp only [Act.put, List.setIfInBounds_toArray, List.set_cons_zero, List.set_cons_succ]
      refine hand_take 6 (some 20) (.agg (pgA Pg.zero)) rfl rfl (by kernel_rfl) (by kernel_rfl) (by kernel_rfl) (fun _ _ _ h => h) (Or.inl ⟨by kernel_rfl, fun x hSx => by go_simp; rfl⟩) trivial ?_
      try simp only [Act.put, List.setIfInBounds_toArray, List.set_cons_zero, List.set_cons_succ]
      refine hand_two 4 7 (by kernel_rfl) ?_ ?_
      · refine hand_run (some 18) rfl rfl rfl v wr.drew ?hz ?_
        (case hz => have h : World.cell? _ ⟨w.heap.size, 0, none⟩ = some v := HR0.out.row.cell 0 _ rfl; go_simp)
        refine ⟨trivial, ?_⟩
        try simp only [Act.put, List.setIfInBounds_toArray, List.set_cons_zero, List.set_cons_succ]
        refine hand_one 7 (by kernel_rfl) ?_
        refine hand_call (some 21) rfl rfl rfl 27 #[.int .i64 (j : Int), .agg (pgA Pg.zero)] ?he ((rimage_any j Pg.zero wr.drew (by omega) zero_right).mono ?_)
        (case he => go_simp)
        rintro e w5 ⟨rfl, hb5⟩
        have H5 := hide (HR0.out.later hb5)
        have HB5 := hide hb5
        clear hb5
        refine ⟨_, rfl, trivial, ?_⟩
        try simp only [Act.put, List.setIfInBounds_toArray, List.set_cons_zero, List.set_cons_succ]
        refine hand_one 8 (by kernel_rfl) ?_
        refine hand_run (some 22) rfl rfl rfl (.slice (some ⟨w5.heap.size, 0, none⟩) 1 1) (w5.alloc (.cells #[.string ⟨(imageB j Pg.zero).toArray⟩] 9)) ?hz ?_
        (case hz => go_simp)
        refine ⟨trivial, ?_⟩
        try simp only [Act.put, List.setIfInBounds_toArray, List.set_cons_zero, List.set_cons_succ]
        have hbA : Below w5.heap.size w5 (w5.alloc (.cells #[.string ⟨(imageB j Pg.zero).toArray⟩] 9)) := (Below.refl _ _).alloc (Nat.le_refl _) _
        have H6 := hide (H5.out.later hbA)
        have hN6 := RowAt.new w5 9 #[.string ⟨(imageB j Pg.zero).toArray⟩]
        obtain ⟨v', w7, hrun, ho7, hg7⟩ := run_app_str 78 _ (w.heap.size + 1) j v (imgs j) H6.out.own w5.heap.size _ hN6 (by omega) H6.out.big
        have H7 := hide (H6.out.grown ho7 hg7)
        rw [← imgs_more] at ho7
        obtain ⟨a7, c7, rfl, -, -⟩ := ow_shape ho7
        have HO7 := hide ho7
        clear hbA hN6 ho7 hg7
        refine hand_one 9 (by kernel_rfl) ?_
        refine hand_run (some 23) rfl rfl rfl (.slice a7 (j + 1) c7) w7 (exec_append _ _ _ _ rfl _ _ rfl rfl hrun) ?_
        refine ⟨trivial, ?_⟩
        try simp only [Act.put, List.setIfInBounds_toArray, List.set_cons_zero, List.set_cons_succ]
        refine hand_take 10 (some 24) (.pointer (some ⟨w.heap.size, 0, none⟩)) rfl rfl (by kernel_rfl) (by kernel_rfl) (by kernel_rfl) (fun _ _ _ h => h) (Or.inl ⟨by kernel_rfl, fun x hSx => by go_simp⟩) trivial ?_
        try simp only [Act.put, List.setIfInBounds_toArray, List.set_cons_zero, List.set_cons_succ]
        refine hand_take 11 (some 25) (.pointer (some ⟨w.heap.size, 0, none⟩)) rfl rfl (by kernel_rfl) (by kernel_rfl) (by kernel_rfl) (fun _ _ _ h => h) (Or.inl ⟨by kernel_rfl, fun x hSx => by go_simp⟩) trivial ?_
        try simp only [Act.put, List.setIfInBounds_toArray, List.set_cons_zero, List.set_cons_succ]
        refine hand_one 12 (by kernel_rfl) ?_
        refine hand_skip rfl rfl rfl (w7.setCell ⟨w.heap.size, 0, none⟩ (.slice a7 (j + 1) c7)) ?hs ?_
        (case hs => have h : World.cell? _ ⟨w.heap.size, 0, none⟩ = some v := H7.out.1.cell 0 _ rfl; have h2 := H7.out.1.free 0; go_simp)
        refine ⟨trivial, ?_⟩
        try simp only [Act.put, List.setIfInBounds_toArray, List.set_cons_zero, List.set_cons_succ]
        refine wpAnyH_done (by kernel_rfl) ?_ _
        refine NoPanic.normal ?_
        have H8 : Hid (NI w (w7.setCell ⟨w.heap.size, 0, none⟩ (.slice a7 (j + 1) c7)) (j + 1) (.slice a7 (j + 1) c7)) := hide (NI.done H7.out.1 HO7.out H7.out.2.1 H7.out.2.2)
        generalize w7.setCell ⟨w.heap.size, 0, none⟩ (.slice a7 (j + 1) c7) = w8 at *
        clear HO7 H7 H6 H5 HR0 HR HB5 hrun
        go_wp2
        go_roundw
        case rel => exact ⟨j + 1, _, by omega, by go_num, H8⟩
        case measure => simp [intOf]; omega
      · refine hand_call (some 21) rfl rfl rfl 27 #[.int .i64 (j : Int), .agg (pgA Pg.zero)] ?he ((rimage_any j Pg.zero wr.drew (by omega) zero_right).mono ?_)
        (case he => go_simp)
        rintro e w5 ⟨rfl, hb5⟩
        have H5 := hide (HR0.out.later hb5)
        have HB5 := hide hb5
        clear hb5
        refine ⟨_, rfl, trivial, ?_⟩
        try simp only [Act.put, List.setIfInBounds_toArray, List.set_cons_zero, List.set_cons_succ]
        refine hand_two 4 8 (by kernel_rfl) ?_ ?_
        · refine hand_run (some 18) rfl rfl rfl v w5 ?hz ?_
          (case hz => have h : World.cell? _ ⟨w.heap.size, 0, none⟩ = some v := H5.out.row.cell 0 _ rfl; go_simp)
          refine ⟨trivial, ?_⟩
          try simp only [Act.put, List.setIfInBounds_toArray, List.set_cons_zero, List.set_cons_succ]
          refine hand_one 8 (by kernel_rfl) ?_
          refine hand_run (some 22) rfl rfl rfl (.slice (some ⟨w5.heap.size, 0, none⟩) 1 1) (w5.alloc (.cells #[.string ⟨(imageB j Pg.zero).toArray⟩] 9)) ?hz ?_
          (case hz => go_simp)
          refine ⟨trivial, ?_⟩
          try simp only [Act.put, List.setIfInBounds_toArray, List.set_cons_zero, List.set_cons_succ]
          have hbA : Below w5.heap.size w5 (w5.alloc (.cells #[.string ⟨(imageB j Pg.zero).toArray⟩] 9)) := (Below.refl _ _).alloc (Nat.le_refl _) _
          have H6 := hide (H5.out.later hbA)
          have hN6 := RowAt.new w5 9 #[.string ⟨(imageB j Pg.zero).toArray⟩]
          obtain ⟨v', w7, hrun, ho7, hg7⟩ := run_app_str 78 _ (w.heap.size + 1) j v (imgs j) H6.out.own w5.heap.size _ hN6 (by omega) H6.out.big
          have H7 := hide (H6.out.grown ho7 hg7)
          rw [← imgs_more] at ho7
          obtain ⟨a7, c7, rfl, -, -⟩ := ow_shape ho7
          have HO7 := hide ho7
          clear hbA hN6 ho7 hg7
          refine hand_one 9 (by kernel_rfl) ?_
          refine hand_run (some 23) rfl rfl rfl (.slice a7 (j + 1) c7) w7 (exec_append _ _ _ _ rfl _ _ rfl rfl hrun) ?_
          refine ⟨trivial, ?_⟩
          try simp only [Act.put, List.setIfInBounds_toArray, List.set_cons_zero, List.set_cons_succ]
          refine hand_take 10 (some 24) (.pointer (some ⟨w.heap.size, 0, none⟩)) rfl rfl (by kernel_rfl) (by kernel_rfl) (by kernel_rfl) (fun _ _ _ h => h) (Or.inl ⟨by kernel_rfl, fun x hSx => by go_simp⟩) trivial ?_
          try simp only [Act.put, List.setIfInBounds_toArray, List.set_cons_zero, List.set_cons_succ]
          refine hand_take 11 (some 25) (.pointer (some ⟨w.heap.size, 0, none⟩)) rfl rfl (by kernel_rfl) (by kernel_rfl) (by kernel_rfl) (fun _ _ _ h => h) (Or.inl ⟨by kernel_rfl, fun x hSx => by go_simp⟩) trivial ?_
          try simp only [Act.put, List.setIfInBounds_toArray, List.set_cons_zero, List.set_cons_succ]
          refine hand_one 12 (by kernel_rfl) ?_
          refine hand_skip rfl rfl rfl (w7.setCell ⟨w.heap.size, 0, none⟩ (.slice a7 (j + 1) c7)) ?hs ?_
          (case hs => have h : World.cell? _ ⟨w.heap.size, 0, none⟩ = some v := H7.out.1.cell 0 _ rfl; have h2 := H7.out.1.free 0; go_simp)
          refine ⟨trivial, ?_⟩
          try simp only [Act.put, List.setIfInBounds_toArray, List.set_cons_zero, List.set_cons_succ]
          refine wpAnyH_done (by kernel_rfl) ?_ _
          refine NoPanic.normal ?_
          have H8 : Hid (NI w (w7.setCell ⟨w.heap.size, 0, none⟩ (.slice a7 (j + 1) c7)) (j + 1) (.slice a7 (j + 1) c7)) := hide (NI.done H7.out.1 HO7.out H7.out.2.1 H7.out.2.2)
          generalize w7.setCell ⟨w.heap.size, 0, none⟩ (.slice a7 (j + 1) c7) = w8 at *
          clear HO7 H7 H6 H5 HR0 HR HB5 hrun
          go_wp2
          go_roundw
          case rel => exact ⟨j + 1, _, by omega, by go_num, H8⟩
          case measure => simp [intOf]; omega
        · refine hand_run (some 22) rfl rfl rfl (.slice (some ⟨w5.heap.size, 0, none⟩) 1 1) (w5.alloc (.cells #[.string ⟨(imageB j Pg.zero).toArray⟩] 9)) ?hz ?_
          (case hz => go_simp)
          refine ⟨trivial, ?_⟩
          try simp only [Act.put, List.setIfInBounds_toArray, List.set_cons_zero, List.set_cons_succ]
          refine hand_one 4 (by kernel_rfl) ?_
          refine hand_run (some 18) rfl rfl rfl v (w5.alloc (.cells #[.string ⟨(imageB j Pg.zero).toArray⟩] 9)) ?hz ?_
          (case hz => have h : World.cell? _ ⟨w.heap.size, 0, none⟩ = some v := (H5.out.later ((Below.refl _ _).alloc (Nat.le_refl _) (.cells #[.string ⟨(imageB j Pg.zero).toArray⟩] 9))).row.cell 0 _ rfl; go_simp)
          refine ⟨trivial, ?_⟩
          try simp only [Act.put, List.setIfInBounds_toArray, List.set_cons_zero, List.set_cons_succ]
          have hbA : Below w5.heap.size w5 (w5.alloc (.cells #[.string ⟨(imageB j Pg.zero).toArray⟩] 9)) := (Below.refl _ _).alloc (Nat.le_refl _) _
          have H6 := hide (H5.out.later hbA)
          have hN6 := RowAt.new w5 9 #[.string ⟨(imageB j Pg.zero).toArray⟩]
          obtain ⟨v', w7, hrun, ho7, hg7⟩ := run_app_str 78 _ (w.heap.size + 1) j v (imgs j) H6.out.own w5.heap.size _ hN6 (by omega) H6.out.big
          have H7 := hide (H6.out.grown ho7 hg7)
          rw [← imgs_more] at ho7
          obtain ⟨a7, c7, rfl, -, -⟩ := ow_shape ho7
          have HO7 := hide ho7
          clear hbA hN6 ho7 hg7
          refine hand_one 9 (by kernel_rfl) ?_
          refine hand_run (some 23) rfl rfl rfl (.slice a7 (j + 1) c7) w7 (exec_append _ _ _ _ rfl _ _ rfl rfl hrun) ?_
          refine ⟨trivial, ?_⟩
          try simp only [Act.put, List.setIfInBounds_toArray, List.set_cons_zero, List.set_cons_succ]
          refine hand_take 10 (some 24) (.pointer (some ⟨w.heap.size, 0, none⟩)) rfl rfl (by kernel_rfl) (by kernel_rfl) (by kernel_rfl) (fun _ _ _ h => h) (Or.inl ⟨by kernel_rfl, fun x hSx => by go_simp⟩) trivial ?_
          try simp only [Act.put, List.setIfInBounds_toArray, List.set_cons_zero, List.set_cons_succ]
          refine hand_take 11 (some 25) (.pointer (some ⟨w.heap.size, 0, none⟩)) rfl rfl (by kernel_rfl) (by kernel_rfl) (by kernel_rfl) (fun _ _ _ h => h) (Or.inl ⟨by kernel_rfl, fun x hSx => by go_simp⟩) trivial ?_
          try simp only [Act.put, List.setIfInBounds_toArray, List.set_cons_zero, List.set_cons_succ]
          refine hand_one 12 (by kernel_rfl) ?_
          refine hand_skip rfl rfl rfl (w7.setCell ⟨w.heap.size, 0, none⟩ (.slice a7 (j + 1) c7)) ?hs ?_
          (case hs => have h : World.cell? _ ⟨w.heap.size, 0, none⟩ = some v := H7.out.1.cell 0 _ rfl; have h2 := H7.out.1.free 0; go_simp)
          refine ⟨trivial, ?_⟩
          try simp only [Act.put, List.setIfInBounds_toArray, List.set_cons_zero, List.set_cons_succ]
          refine wpAnyH_done (by kernel_rfl) ?_ _
          refine NoPanic.normal ?_
          have H8 : Hid (NI w (w7.setCell ⟨w.heap.size, 0, none⟩ (.slice a7 (j + 1) c7)) (j + 1) (.slice a7 (j + 1) c7)) := hide (NI.done H7.out.1 HO7.out H7.out.2.1 H7.out.2.2)
          generalize w7.setCell ⟨w.heap.size, 0, none⟩ (.slice a7 (j + 1) c7) = w8 at *
          clear HO7 H7 H6 H5 HR0 HR HB5 hrun
          go_wp2
          go_roundw
          case rel => exact ⟨j + 1, _, by omega, by go_num, H8⟩
          case measure => simp [intOf]; omega
    · have i1 : ¬ (j : Int) < k := by omega
      obtain rfl : j = k := by omega
      go_wp2
      go_ret
      obtain ⟨gp, c, cs, ps, h1, h2⟩ := own_dv HR.out.own hk1 hk HR.out.row
      exact ⟨_, rfl, ⟨gp, by omega, c, cs, ps, h2⟩, Nat.le_refl _, HR.out.bel⟩
theorem rnew10 (f : Int) (w : World) : Calls Try.prog 10 #[.int .i64 f] w fun e w' => ∃ gs, e = .returned (.pointer (some ⟨gs, 0, none⟩)) ∧ (∃ gp c cs ps, w.heap.size ≤ gp ∧ DV w' gs gp c (Sc.newD (npg f)) cs ps) ∧ w.heap.size ≤ gs ∧ Below w.heap.size w w' := by
  have hn := npg_le f
  refine rnew10_go f (npg f) w hn.2 hn.1 (min f 32) ?_ ?_
  · by_cases h : 32 < f
    · rw [if_pos h]; omega
    · rw [if_neg h]; omega
  · unfold npg
    by_cases h : 1 < min f 32
    · rw [if_pos h]; omega
    · rw [if_neg h]; omega
end Go.Proofs.Ytfeghhgniahfkaa

/-
  The code's store and the document's, in memory side by side: the document's calls.
-/
namespace Go.Proofs.Ytfeghhgniahfkaa
open Go.RowKit
set_option linter.unusedVariables false

def FD (gs gp k : Nat) : Prop := k = gs ∨ k = gp
section
variable {w x y : World} {gs gp c : Nat} {s d : Sc} {cs ps : Array Value} {old : Nat → Pg} {tr : Nat → Option (Pg × Bool)}
theorem rwrite10 (h : DV w gs gp c d cs ps) (hp : Pr s d) (hs : s.ok old tr) (node id : Int) (p : Pg) (mask : Int) : Calls Try.prog 28 #[.pointer (some ⟨gs, 0, none⟩), .int .i64 node, .int .i64 id, .agg (pgA p), .int .i64 mask] w fun e w' => e = .returned (.int .i64 (s.wE node id p mask)) ∧ (∃ d' cs' ps', DV w' gs gp c d' cs' ps' ∧ Pr (s.wS node id p mask) d') ∧ Tn (FD gs gp) w w' := by
  rw [← hp.wE]
  have hno : ¬ d.may node id p mask → d.wE node id p mask = 1 ∧ s.wS node id p mask = s := fun g => by
    have h1 : d.wE node id p mask = 1 := by unfold Sc.wE; rw [if_pos g]
    refine ⟨h1, Sc.wS_no ?_⟩
    rw [← hp.wE, h1]
    omega
  by_cases h1 : 0 ≤ node ∧ node < 8
  · by_cases h2 : 0 ≤ id ∧ id < (d.n : Int)
    · by_cases h3 : p.right
      · by_cases h4 : maskOk mask
        · obtain ⟨nd, rfl⟩ := Int.eq_ofNat_of_zero_le h1.1
          obtain ⟨i, rfl⟩ := Int.eq_ofNat_of_zero_le h2.1
          have hm0 : 0 ≤ mask := by omega
          obtain ⟨mk, rfl⟩ := Int.eq_ofNat_of_zero_le hm0
          have hmay : d.may nd i p mk := ⟨by omega, by omega, by omega, by omega, h4, h3⟩
          have hE : d.wE nd i p mk = if d.out nd = true ∨ d.busy (i : Int) = true ∨ p.l ≤ (stampB (d.pl i)).1 then 13 else if (mk : Int) = 15 then 0 else 9 := by
            unfold Sc.wE
            rw [if_neg (show ¬ ¬ d.may nd i p mk from fun g => g hmay)]
            rfl
          refine (rwrite10_look h nd i mk p (by omega) (by omega) h3 h4 (d.wE nd i p mk) (if d.out nd = true ∨ d.busy (i : Int) = true ∨ p.l ≤ (stampB (d.pl i)).1 then d else d.dW nd i p mk) (hide ⟨fun g => ?_, fun g => ?_⟩)).mono ?_
          · rw [hE, if_pos g, if_pos g]
            exact ⟨rfl, rfl⟩
          · rw [hE, if_neg g, if_neg g]
            refine ⟨?_, rfl⟩
            by_cases e : mk = 15
            · rw [if_pos e, if_pos (by omega)]
            · rw [if_neg e, if_neg (by omega)]
          · rintro e w' ⟨he, ⟨cs', ps', hd⟩, ht⟩
            refine ⟨he, ⟨_, cs', ps', hd, ?_⟩, ht⟩
            by_cases g : d.out nd = true ∨ d.busy (i : Int) = true ∨ p.l ≤ (stampB (d.pl i)).1
            · rw [if_pos g, Sc.wS_no (by rw [← hp.wE, hE, if_pos g]; omega)]
              exact hp
            · rw [if_neg g]
              have hgo : s.wE nd i p mk = 0 ∨ s.wE nd i p mk = 9 := by
                rw [← hp.wE, hE, if_neg g]
                by_cases e : (mk : Int) = 15
                · rw [if_pos e]; exact .inl rfl
                · rw [if_neg e]; exact .inr rfl
              exact hp.write hs nd i p mk hgo
        · have g := hno (fun c => h4 c.2.2.2.2.1)
          rw [g.1, g.2]
          exact (rwrite10_d h node id p mask h1 h2 h3 h4).mono fun e w' ⟨he, hb⟩ => ⟨he, ⟨d, cs, ps, h.later hb, hp⟩, Tn.of_below hb⟩
      · have g := hno (fun c => h3 c.2.2.2.2.2)
        rw [g.1, g.2]
        exact (rwrite10_c h node id p mask h1 h2 h3).mono fun e w' ⟨he, hb⟩ => ⟨he, ⟨d, cs, ps, h.later hb, hp⟩, Tn.of_below hb⟩
    · have g := hno (fun c => h2 ⟨c.2.2.1, c.2.2.2.1⟩)
      rw [g.1, g.2]
      exact (rwrite10_b h node id p mask h1 h2).mono fun e w' ⟨he, hb⟩ => ⟨he, ⟨d, cs, ps, h.later hb, hp⟩, Tn.of_below hb⟩
  · have g := hno (fun c => h1 ⟨c.1, c.2.1⟩)
    rw [g.1, g.2]
    exact (rwrite10_a h node id p mask h1).mono fun e w' ⟨he, hb⟩ => ⟨he, ⟨d, cs, ps, h.later hb, hp⟩, Tn.of_below hb⟩
theorem rmend10 (h : DV w gs gp c d cs ps) (hp : Pr s d) (hs : s.ok old tr) (hpos : 0 < s.n) (node mask : Int) : Calls Try.prog 29 #[.pointer (some ⟨gs, 0, none⟩), .int .i64 node, .int .i64 mask] w fun e w' => e = .returned (.int .i64 (s.mE node mask)) ∧ (∃ d' cs' ps', DV w' gs gp c d' cs' ps' ∧ Pr (s.mS node mask) d') ∧ Tn (FD gs gp) w w' := by
  by_cases hbad : 0 ≤ node ∧ node < 8 ∧ 0 ≤ mask ∧ mask ≤ 3
  · obtain ⟨nd, rfl⟩ := Int.eq_ofNat_of_zero_le hbad.1
    obtain ⟨mk, rfl⟩ := Int.eq_ofNat_of_zero_le hbad.2.2.1
    have hn : nd < 8 := by omega
    have hm : mk ≤ 3 := by omega
    have hE : s.mE nd mk = if s.out nd = true ∧ tornB (s.pl (s.id nd).toNat) = true ∧ (mk : Int) ≠ 3 then 9 else 0 := by
      unfold Sc.mE
      rw [if_neg (show ¬ ¬ (0 < s.n ∧ 0 ≤ (nd : Int) ∧ (nd : Int) < 8 ∧ 0 ≤ (mk : Int) ∧ (mk : Int) ≤ 3) from fun g => g ⟨hpos, hbad⟩)]
      rfl
    have hE1 : s.mE nd mk ≠ 1 := by
      rw [hE]
      split <;> omega
    cases ho : s.out nd with
    | false =>
      have eE : s.mE nd mk = 0 := by rw [hE, if_neg (fun g => by rw [ho] at g; cases g.1)]
      have eS : s.mS nd mk = s := by unfold Sc.mS; rw [if_pos (.inr (by rw [Int.toNat_natCast]; exact ho))]
      rw [eE, eS]
      refine (rmend10_idle h nd mk hn hm (by rw [hp.out nd hn]; exact ho)).mono ?_
      rintro e w' ⟨he, ⟨cs', hd⟩, ht⟩
      exact ⟨he, ⟨_, cs', ps, hd, hp.idle nd ho⟩, ht.weak fun k hk => .inl hk⟩
    | true =>
      have hid := hs.wf.id nd hn ho
      obtain ⟨k, hk⟩ := Int.eq_ofNat_of_zero_le hid.1
      have hkn : k < s.n := by omega
      have hdk : d.id nd = (k : Int) := by rw [hp.id nd hn ho]; exact hk
      have hdn : k < d.n := by rw [hp.n]; exact hkn
      have hpl := hp.pl k hkn
      have eS : s.mS nd mk = if tornB (s.pl k) = true then (if (mk : Int) = 3 then { s.mPl nd mk with out := put1 s.out nd false } else s.mPl nd mk) else { s with out := put1 s.out nd false } := by
        unfold Sc.mS
        rw [if_neg (fun g => by
          rcases g with g | g
          · exact hE1 g
          · rw [Int.toNat_natCast, ho] at g; cases g)]
        simp only [Int.toNat_natCast, hk]
      rw [hk, Int.toNat_natCast] at hE
      cases ht : tornB (s.pl k) with
      | false =>
        rw [hE, eS, if_neg (fun g => by rw [ht] at g; cases g.2.1), if_neg (by rw [ht]; decide)]
        refine (rmend10_whole h nd mk k hn hm (by rw [hp.out nd hn]; exact ho) hdk hdn (by rw [hpl]; exact ht)).mono ?_
        rintro e w' ⟨he, ⟨cs', hd⟩, ht⟩
        exact ⟨he, ⟨_, cs', ps, hd, hp.leave nd⟩, ht.weak fun k hk => .inl hk⟩
      | true =>
        have ht' : tornB (s.pl (s.id nd).toNat) = true := by rw [hk, Int.toNat_natCast]; exact ht
        have har : d.ar nd = s.ar nd := hp.ar nd hn ho ht'
        rw [hE, eS, if_pos ht]
        refine (rmend10_torn h nd mk k hn hm (by rw [hp.out nd hn]; exact ho) hdk hdn (by rw [hpl]; exact ht) (by rw [har]; exact hs.wf.ar nd hn)).mono ?_
        rintro e w' ⟨he, ⟨cs', ps', hd⟩, htn⟩
        have hpt := hp.torn hs nd mk hn ho ht'
        by_cases h3 : mk = 3
        · subst h3
          rw [if_pos rfl] at he hd
          rw [if_neg (fun g => g.2.2 rfl), if_pos (show ((3 : Nat) : Int) = 3 from rfl)]
          exact ⟨he, ⟨_, cs', ps', hd, hpt.leave nd⟩, htn⟩
        · rw [if_neg h3] at he hd
          rw [if_pos ⟨ho, ht, by omega⟩, if_neg (by omega)]
          exact ⟨he, ⟨_, cs', ps', hd, hpt⟩, htn⟩
  · have eE : s.mE node mask = 1 := by unfold Sc.mE; rw [if_pos (fun g => hbad g.2)]
    have eS : s.mS node mask = s := by unfold Sc.mS; rw [if_pos (.inl eE)]
    rw [eE, eS]
    exact (rmend10_arg _ node mask w hbad).mono fun e w' ⟨he, hw⟩ => ⟨he, ⟨d, cs, ps, hw ▸ h, hp⟩, hw ▸ Tn.refl _ _⟩
end

/-- Both. -/
structure D10 (w0 x : World) (gs hs : Nat) (s d : Sc) : Prop where
  k : ∃ old tr, K10 w0 x gs s old tr
  r : ∃ gp c cs ps, w0.heap.size ≤ gp ∧ DV x hs gp c d cs ps
  lo : w0.heap.size ≤ hs
  pr : Pr s d
  pos : 0 < s.n
section
variable {w0 x y : World} {gs hs : Nat} {s d s' : Sc}
theorem D10.later (h : D10 w0 x gs hs s d) (q : Below x.heap.size x y) : D10 w0 y gs hs s d := by
  obtain ⟨old, tr, hk⟩ := h.k
  obtain ⟨gp, c, cs, ps, h1, h2⟩ := h.r
  exact ⟨⟨old, tr, hk.later q⟩, ⟨gp, c, cs, ps, h1, h2.later q⟩, h.lo, h.pr, h.pos⟩
/-- What the code's calls leave of the document's store. -/
theorem DV.side {gp c : Nat} {cs ps : Array Value} (h : DV x hs gp c d cs ps) (q : Side10 x y) : DV y hs gp c d cs ps := ⟨q.row h.st (by decide) (by decide), h.sb, q.row h.pr (by decide) (by decide), h.pb, h.n, h.le⟩
/-- What the document's calls leave of the code's store. -/
theorem K10.doc {old : Nat → Pg} {tr : Nat → Option (Pg × Bool)} {gp c : Nat} {cs ps : Array Value} (h : K10 w0 x gs s old tr) (h2 : DV x hs gp c d cs ps) (h3 : w0.heap.size ≤ hs ∧ w0.heap.size ≤ gp) (q : Tn (FD hs gp) x y) : K10 w0 y gs s old tr := by
  obtain ⟨g2, g3, cs', ps', g4⟩ := h.st
  refine ⟨h.low, ⟨g2, g3, cs', ps', g4.keep (q.block gs g4.st.lt (fun e => ?_)) (q.block g2 g4.pr.lt (fun e => ?_))⟩, h.ok, h.bel.trans (q.below (fun k hk => by rcases hk with rfl | rfl; exact h3.1; exact h3.2) h.bel.size)⟩
  · rcases e with rfl | rfl
    · exact absurd (row_kind g4.st h2.st) (by decide)
    · exact absurd (row_kind g4.st h2.pr) (by decide)
  · rcases e with rfl | rfl
    · exact absurd (row_kind g4.pr h2.st) (by decide)
    · exact absurd (row_kind g4.pr h2.pr) (by decide)
end
end Go.Proofs.Ytfeghhgniahfkaa

/-
  The contract of quaysidelaw10.alike.
-/
namespace Go.Proofs.Ytfeghhgniahfkaa
open Go.RowKit
set_option linter.unusedVariables false

section
variable {w0 x : World} {gs hs : Nat} {s d : Sc}
theorem K10.pagesN {old : Nat → Pg} {tr : Nat → Option (Pg × Bool)} (h : K10 w0 x gs s old tr) (k : Nat) : Calls Try.prog 13 #[.pointer (some ⟨gs, 0, none⟩)] (x.drewN k) fun e w' => e = .returned (.int .i64 (s.n : Int)) ∧ w' = x.drewN k :=
  ((h.later (below_dn (Below.refl _ _) k)).pages).mono fun e w' ⟨he, hw⟩ => ⟨he, hw.symm⟩
theorem K10.outN {old : Nat → Pg} {tr : Nat → Option (Pg × Bool)} (h : K10 w0 x gs s old tr) (n : Int) (k : Nat) : Calls Try.prog 16 #[.pointer (some ⟨gs, 0, none⟩), .int .i64 n] (x.drewN k) fun e w' => e = .returned (.bool (s.outB n)) ∧ w' = x.drewN k :=
  ((h.later (below_dn (Below.refl _ _) k)).out n).mono fun e w' ⟨he, hw⟩ => ⟨he, hw.symm⟩
set_option maxRecDepth 4000 in
set_option maxHeartbeats 1600000 in
theorem alike10 (h : D10 w0 x gs hs s d) : Calls Try.prog 11 #[.pointer (some ⟨gs, 0, none⟩), .pointer (some ⟨hs, 0, none⟩)] x fun e y => e = .returned (.bool true) ∧ D10 w0 y gs hs s d ∧ Below x.heap.size x y := by
  have HD := hide h
  obtain ⟨old, tr, hk⟩ := h.k
  obtain ⟨gp, c, cs, ps, hgp, hv⟩ := h.r
  have c0 := hv.c0
  have hnn : d.n = s.n := h.pr.n
  have hn32 := hv.n
  rw [hnn] at c0 hn32
  have HNN := hide hnn
  have HK := hide hk
  have HV := hide hv
  clear h hk hv hnn
  go_enter Try.func11, Try.ntmps11
  go_wp2_with fail
  go_quiet (first | (go_at_call 13; exact Calls.quiet_of_same (HK.out.pagesN _)))
  go_wp2
  have HD1 : Hid (D10 w0 (x.drewN nq) gs hs s d ∧ Below x.heap.size x (x.drewN nq)) := hide ⟨HD.out.later (below_dn (Below.refl _ _) nq), below_dn (Below.refl _ _) nq⟩
  have HK1 := hide (HK.out.later (below_dn (Below.refl _ _) nq))
  have HV1 := hide (HV.out.later (below_dn (Below.refl _ _) nq))
  have HPR := hide HD.out.pr
  refine gen_wp (fun y => Hid (D10 w0 y gs hs s d ∧ Below x.heap.size x y) ∧ Hid (K10 w0 y gs s old tr) ∧ Hid (DV y hs gp c d cs ps)) ⟨HD1, HK1, HV1⟩ ?_
  clear HD1 HK1 HV1 HD HK HV c0
  rintro x1 ⟨HD, HK, HV⟩
  go_loopw [22] (fun v wr => ∃ j : Nat, j ≤ s.n ∧ v = .int .i64 j ∧ Hid (D10 w0 wr gs hs s d ∧ Below x.heap.size x wr) ∧ Hid (K10 w0 wr gs s old tr) ∧ Hid (DV wr hs gp c d cs ps)) (fun v _ => s.n - (intOf v).toNat)
  case atStart => exact ⟨0, Nat.zero_le _, rfl, HD, HK, HV⟩
  case round =>
    obtain ⟨j, hj, rfl, HD2, HK2, HV2⟩ := hrel
    clear HD HK HV
    by_cases hlt : j < s.n
    · have i1 : (j : Int) < s.n := by omega
      go_wp2_with fail
      refine (HK2.out.image j hlt).mono ?_
      rintro e w2 ⟨v, rfl, ho, hb⟩
      obtain ⟨a2, c2, rfl, hc2, hB⟩ := shape_isB ho
      have HD3 := hide (And.intro (HD2.out.1.later hb) (HD2.out.2.trans (hb.mono HD2.out.2.size)))
      have HK3 := hide (HK2.out.later hb)
      have HV3 := hide (HV2.out.later hb)
      have c0 := HV3.out.c0
      have cp := HV3.out.cpl j (by rw [HNN.out]; exact hlt)
      rw [HNN.out] at c0
      rw [HPR.out.pl j hlt] at cp
      obtain ⟨L, hL⟩ : ∃ L, s.pl j = L := ⟨_, rfl⟩
      rw [hL] at hB cp
      have ht : ∀ n, Sem.run Try.prog (Go.convert 61 9 (.slice a2 256 c2)) (w2.drewN n) = .ok (.string ⟨L.toArray⟩) (w2.drewN n) := fun n => run_toString (P := Try.prog) (w2.drewN n) 61 9 5 Try.underlying61 Try.underlying5 Try.underlying9 a2 256 c2 L hB
      clear ho hB hb HD2 HK2 HV2 hL
      go_wp2_with fail
      go_quiet (fail)
      go_wp2
      go_roundw
      case rel => exact ⟨j + 1, by omega, by go_num, hide ⟨HD3.out.1.later (below_dn (Below.refl _ _) nq), below_dn HD3.out.2 nq⟩, hide (HK3.out.later (below_dn (Below.refl _ _) nq)), hide (HV3.out.later (below_dn (Below.refl _ _) nq))⟩
      case measure => simp [intOf]; omega
    · have i1 : ¬ (j : Int) < s.n := by omega
      go_wp2
      clear hlt i1 hj
      go_loopw [46] (fun v wr => ∃ m : Nat, m ≤ 8 ∧ v = .int .i64 m ∧ Hid (D10 w0 wr gs hs s d ∧ Below x.heap.size x wr) ∧ Hid (K10 w0 wr gs s old tr) ∧ Hid (DV wr hs gp c d cs ps)) (fun v _ => 8 - (intOf v).toNat)
      case atStart => exact ⟨0, Nat.zero_le _, rfl, HD2, HK2, HV2⟩
      case round =>
        obtain ⟨m, hm, rfl, HD3, HK3, HV3⟩ := hrel
        clear HD2 HK2 HV2
        by_cases hlt : m < 8
        · have i1 : (m : Int) < 8 := by omega
          have a1 := HV3.out.cout m hlt
          rw [HPR.out.out m hlt] at a1
          have hO := fun k => HK3.out.outN (m : Int) k
          have eO : s.outB (m : Int) = s.out m := by
            unfold Sc.outB
            rw [decide_eq_true (by omega), Int.toNat_natCast, Bool.true_and]
          rw [eO] at hO
          have HO := hide hO
          generalize s.out m = z at *
          clear hO eO
          go_wp2_with fail
          go_quiet (first | (go_at_call 16; exact Calls.quiet_of_same (HO.out _)))
          go_wp2
          go_roundw
          case rel => exact ⟨m + 1, by omega, by go_num, hide ⟨HD3.out.1.later (below_dn (Below.refl _ _) nq), below_dn HD3.out.2 nq⟩, hide (HK3.out.later (below_dn (Below.refl _ _) nq)), hide (HV3.out.later (below_dn (Below.refl _ _) nq))⟩
          case measure => simp [intOf]; omega
        · have i1 : ¬ (m : Int) < 8 := by omega
          go_wp2
          go_ret
          exact ⟨rfl, HD3.out.1, HD3.out.2⟩
end
end Go.Proofs.Ytfeghhgniahfkaa

/-
  A slice that came in, by its cells: what a walk is told of it. Of no program.
-/
namespace Go.Proofs.Ytfeghhgniahfkaa
open Go.RowKit
set_option linter.unusedVariables false

/-- A slice value of so many elements, each of 'sz' cells: element i's cell k holds 'f i k'. -/
def IsRow (w : World) (a : Option Addr) (len sz : Nat) (f : Nat → Nat → Value) : Prop :=
  0 < len → ∃ b off, a = some ⟨b, off, none⟩ ∧ b < w.heap.size ∧ ∀ i k, i < len → k < sz → w.cell? ⟨b, off + (i * sz + k), none⟩ = some (f i k)

theorem IsRow.below {w w' : World} {a : Option Addr} {len sz B : Nat} {f : Nat → Nat → Value} (h : IsRow w a len sz f) (hB : w.heap.size ≤ B) (hb : Below B w w') : IsRow w' a len sz f := by
  intro hp
  obtain ⟨b, off, ha, hlt, hc⟩ := h hp
  exact ⟨b, off, ha, Nat.lt_of_lt_of_le hlt hb.size, fun i k hi hk => (hb.cell (p := ⟨b, off + (i * sz + k), none⟩) (Nat.lt_of_lt_of_le hlt hB)).trans (hc i k hi hk)⟩
end Go.Proofs.Ytfeghhgniahfkaa

/-
  How an argument that is a slice of plain things, or a struct by value, is opened: of no program.
-/
namespace Go.Proofs.Ytfeghhgniahfkaa
open Go.ChangeShapes Go.WideShapes Go.ChangeAt Go.RowKit Go.Deep Go.Joins
set_option linter.unusedVariables false

section
variable {H : Type} {enc : TypeId × Value → H} {P : Program} {W : World}

theorem trod_places {t : TypeId} {v : Value} {d : DataW H} {p : List MemPlace} (h : DataW.Trod enc P W 0 (fun _ => true) true t v d p) : ∀ x ∈ p, x.block < W.heap.size := by
  obtain ⟨m, hm⟩ := h
  exact DataW.trod_lt m _ _ _ hm

theorem sized_each {ts : List TypeId} {ds : List (DataW H)} {j : Nat} {t : TypeId} {d : DataW H} (h : (DataW.weightsEach P ts ds).all (· ≤ reachBytes) = true) (ht : ts[j]? = some t) (hd : ds[j]? = some d) : ∀ n ∈ d.weights P t, n ≤ reachBytes := by
  intro n hn
  have := List.all_eq_true.1 h _ (DataW.weights_mem_each ht hd n hn)
  simpa using this

/-- A slice's outer form as data. -/
def SlForm (d : DataW H) (len cap : Nat) : Prop := (d = .nil ∧ len = 0 ∧ cap = 0) ∨ ∃ es sp, d = .slice es sp ∧ es.length = len ∧ es.length + sp.length = cap

theorem SlForm.sized {d : DataW H} {len cap : Nat} {t e : TypeId} (h : SlForm d len cap) (ht : P.underlying t = some (.slice e)) (hb : 1 ≤ P.bytesOf e) (hs : ∀ n ∈ d.weights P t, n ≤ reachBytes) : len ≤ 140737488351232 := by
  rcases h with ⟨_, rfl, _⟩ | ⟨es, sp, rfl, h1, h2⟩
  · omega
  · have h3 := hs ((es.length + sp.length) * P.bytesOf e) (by simp [DataW.weights, ht])
    have h4 : (es.length + sp.length) * 1 ≤ (es.length + sp.length) * P.bytesOf e := Nat.mul_le_mul_left _ hb
    have h5 : reachBytes = 140737488351232 := rfl
    omega

/-- A slice opened: each element's cells by a way to read an element. -/
theorem open_rows {α : Type} [Inhabited α] {t e : TypeId} {sz : Nat} {v : Value} {d : DataW H} {p : List MemPlace} {r : Reach} {b0 : Nat} (F : α → Nat → Value) (G : α → Prop)
    (hel : ∀ n cs y, DataW.trod enc P W 0 (fun _ => true) true n e cs = some y → ∃ x, G x ∧ ∀ k, k < sz → cs[k]? = some (F x k))
    (ht : P.underlying t = some (.slice e)) (hsz : P.cellsOf e = sz) (hpos : 0 < sz) (hv : Value.okWide P W r b0 t v) (h : DataW.Trod enc P W 0 (fun _ => true) true t v d p) :
    ∃ (a : Option Addr) (len cap : Nat) (f : Nat → α), v = .slice a len cap ∧ SlForm d len cap ∧ len ≤ cap ∧ (a = none → cap = 0) ∧ (∀ i, i < cap → G (f i)) ∧ IsRow W a len sz (fun i k => F (f i) k) := by
  obtain ⟨a, len, cap, rfl⟩ := okWide_slice ht hv
  obtain ⟨fuel, hf⟩ := h
  rcases open_slice ht hf with ⟨hcs, hx⟩ | ⟨x, l, c, m, n, D, Pl, hcs, _, hl, hm, hmm, hx, hall⟩
  · simp [Value.cells] at hcs
    obtain ⟨rfl, rfl, rfl⟩ := hcs
    simp only [Prod.mk.injEq] at hx
    exact ⟨none, 0, 0, fun _ => default, rfl, .inl ⟨hx.1, rfl, rfl⟩, Nat.le_refl _, fun _ => rfl, fun i hi => absurd hi (by omega), fun h => absurd h (by omega)⟩
  · simp [Value.cells] at hcs
    obtain ⟨rfl, rfl, rfl⟩ := hcs
    simp only [if_true] at hmm
    subst hmm
    simp only [Prod.mk.injEq] at hx
    obtain ⟨f, hf2⟩ := choose_lt (α := α) (p := fun i y => G y ∧ ∀ k, k < sz → W.cell? (x.add (i * sz + k)) = some (F y k)) (fun i hi => by
      obtain ⟨cs', h1, h2⟩ := hall i hi
      obtain ⟨y, hG, hF⟩ := hel _ _ _ h2
      rw [hsz] at h1
      obtain ⟨_, _, h3⟩ := World.cells?_some h1
      refine ⟨y, hG, fun k hk => ?_⟩
      have h4 := h3 k hk
      rw [hF k hk] at h4
      rw [← h4, Addr.add_add])
    refine ⟨some x, len, m, f, rfl, .inr ⟨_, _, hx.1, by simp, by simp; omega⟩, hl, (fun h => nomatch h), fun i hi => (hf2 i hi).1, fun hp => ?_⟩
    have hc0 := (hf2 0 (by omega)).2 0 hpos
    obtain ⟨b, off, spot⟩ := x
    have hspot : spot = none := by simpa [Addr.add] using World.cell?_spot hc0
    subst hspot
    refine ⟨b, off, rfl, ?_, fun i k hi hk => ?_⟩
    · have := World.block_lt_of_cell? W _ hc0
      simpa [Addr.add] using this
    · have := (hf2 i (by omega)).2 k hk
      rw [Addr.add_lit] at this
      exact this

/-- .. with a property of all places, also of those behind its end. -/
theorem open_rows_all {α : Type} [Inhabited α] {t e : TypeId} {sz : Nat} {v : Value} {d : DataW H} {p : List MemPlace} {r : Reach} {b0 : Nat} (F : α → Nat → Value) (G : α → Prop) (hd : G default)
    (hel : ∀ n cs y, DataW.trod enc P W 0 (fun _ => true) true n e cs = some y → ∃ x, G x ∧ ∀ k, k < sz → cs[k]? = some (F x k))
    (ht : P.underlying t = some (.slice e)) (hsz : P.cellsOf e = sz) (hpos : 0 < sz) (hv : Value.okWide P W r b0 t v) (h : DataW.Trod enc P W 0 (fun _ => true) true t v d p) :
    ∃ (a : Option Addr) (len cap : Nat) (f : Nat → α), v = .slice a len cap ∧ SlForm d len cap ∧ len ≤ cap ∧ (a = none → cap = 0) ∧ (∀ i, G (f i)) ∧ IsRow W a len sz (fun i k => F (f i) k) := by
  obtain ⟨a, len, cap, f, h1, h2, h3, h4, h5, h6⟩ := open_rows F G hel ht hsz hpos hv h
  refine ⟨a, len, cap, fun i => if i < cap then f i else default, h1, h2, h3, h4, fun i => ?_, fun hp => ?_⟩
  · by_cases hi : i < cap
    · simp only [if_pos hi]
      exact h5 i hi
    · simp only [if_neg hi]
      exact hd
  · obtain ⟨b, off, ha, hb, hc⟩ := h6 hp
    refine ⟨b, off, ha, hb, fun i k hi hk => ?_⟩
    have hi2 : i < cap := by omega
    rw [hc i k hi hk]
    simp only [if_pos hi2]

theorem elem_bool {e : TypeId} (he : P.underlying e = some .bool) (n : Nat) (cs : List Value) (y : DataW H × List MemPlace) (h : DataW.trod enc P W 0 (fun _ => true) true n e cs = some y) : ∃ x : Bool, True ∧ ∀ k, k < 1 → cs[k]? = some (Value.bool x) := by
  obtain ⟨b, rfl, _⟩ := DataW.trod_bool he h
  refine ⟨b, trivial, fun k hk => ?_⟩
  obtain rfl : k = 0 := by omega
  rfl

theorem elem_int {e : TypeId} {q : IntKind} (he : P.underlying e = some (.int q)) (n : Nat) (cs : List Value) (y : DataW H × List MemPlace) (h : DataW.trod enc P W 0 (fun _ => true) true n e cs = some y) : ∃ x : Int, (Lit.int q x).wf = true ∧ ∀ k, k < 1 → cs[k]? = some (Value.int q x) := by
  obtain ⟨b, rfl, _, hw⟩ := DataW.trod_int he h
  refine ⟨b, hw, fun k hk => ?_⟩
  obtain rfl : k = 0 := by omega
  rfl
end
end Go.Proofs.Ytfeghhgniahfkaa

/-
  A page that comes in by value, opened.
-/
namespace Go.Proofs.Ytfeghhgniahfkaa
open Go.ChangeShapes Go.WideShapes Go.ChangeAt Go.RowKit Go.Deep Go.Joins
set_option linter.unusedVariables false

section
variable {H : Type} {enc : TypeId × Value → H} {W : World}

set_option maxRecDepth 40000 in
theorem cell_open (n : Nat) (c0 c1 : Value) (y : Option (DataW H × List MemPlace)) (hy : y.isSome = true) (h : DataW.trod enc Try.prog W 0 (fun _ => true) true n 32 [c0, c1] = y) : ∃ (u : Bool) (s : ByteArray), c0 = .bool u ∧ c1 = .string s ∧ s.size ≤ maxLen := by
  obtain ⟨y, rfl⟩ := Option.isSome_iff_exists.1 hy
  obtain ⟨y0, y1, m, _, _, h0, h1⟩ := trod_struct2 Try.underlying32 h
  have e0 : Try.prog.cellsOf 4 = 1 := by kernel_rfl
  have e1 : Try.prog.cellsOf 9 = 1 := by kernel_rfl
  simp only [e0, e1, List.drop_zero, List.drop_succ_cons, List.take_succ_cons, List.take_zero] at h0 h1
  obtain ⟨b, hb, _⟩ := DataW.trod_bool Try.underlying4 h0
  obtain ⟨s, hs, _, hz⟩ := DataW.trod_string Try.underlying9 h1
  simp only [List.cons.injEq, and_true] at hb hs
  exact ⟨b, s, hb, hs, hz⟩

set_option maxRecDepth 40000 in
/-- The page of given cells. -/
def mkPg (l : Nat) (u0 u1 u2 u3 u4 u5 u6 u7 : Bool) (s0 s1 s2 s3 s4 s5 s6 s7 : ByteArray) : Pg :=
  ⟨l, fun i => match i with | 0 => u0 | 1 => u1 | 2 => u2 | 3 => u3 | 4 => u4 | 5 => u5 | 6 => u6 | _ => u7, fun i => match i with | 0 => s0 | 1 => s1 | 2 => s2 | 3 => s3 | 4 => s4 | 5 => s5 | 6 => s6 | _ => s7⟩

set_option maxRecDepth 40000 in
theorem op_page {v : Value} {d : DataW H} {p : List MemPlace} {r : Reach} {b0 : Nat} (hv : Value.okWide Try.prog W r b0 35 v) (h : DataW.Trod enc Try.prog W 0 (fun _ => true) true 35 v d p) :
    ∃ q : Pg, v = .agg (pgA q) ∧ q.fits := by
  obtain ⟨cs, rfl, hsz⟩ := okWide_struct Try.underlying35 hv
  have hC : Try.prog.cellsOf 35 = 17 := by kernel_rfl
  rw [hC] at hsz
  obtain ⟨fuel, hf⟩ := h
  obtain ⟨l⟩ := cs
  have hl : l.length = 17 := hsz
  match l, hl with
  | [c0, c1, c2, c3, c4, c5, c6, c7, c8, c9, c10, c11, c12, c13, c14, c15, c16], _ =>
    have ec : (Value.agg ⟨[c0, c1, c2, c3, c4, c5, c6, c7, c8, c9, c10, c11, c12, c13, c14, c15, c16]⟩).cells.toList = [c0, c1, c2, c3, c4, c5, c6, c7, c8, c9, c10, c11, c12, c13, c14, c15, c16] := rfl
    obtain ⟨y0, y1, m, _, _, h0, h1⟩ := trod_struct2 Try.underlying35 hf
    have e0 : Try.prog.cellsOf 30 = 1 := by kernel_rfl
    have e1 : Try.prog.cellsOf 33 = 16 := by kernel_rfl
    have e2 : Try.prog.cellsOf 32 = 2 := by kernel_rfl
    simp only [ec, e0, e1, List.drop_zero, List.drop_succ_cons, List.take_succ_cons, List.take_zero] at h0 h1
    obtain ⟨j, hj, _, hw⟩ := DataW.trod_int Try.underlying30 h0
    obtain ⟨xs, m2, _, _, _, hx, hall⟩ := DataW.trod_array Try.underlying33 h1
    simp only [e2] at hall
    have ho : ∀ i, i < 8 → (xs[i]?).isSome = true := fun i hi => by rw [List.getElem?_eq_getElem (by omega)]; rfl
    have a0 := hall 0 (by omega)
    have a1 := hall 1 (by omega)
    have a2 := hall 2 (by omega)
    have a3 := hall 3 (by omega)
    have a4 := hall 4 (by omega)
    have a5 := hall 5 (by omega)
    have a6 := hall 6 (by omega)
    have a7 := hall 7 (by omega)
    simp only [List.drop_zero, List.drop_succ_cons, List.take_succ_cons, List.take_zero, Nat.zero_mul, Nat.one_mul, Nat.reduceMul] at a0 a1 a2 a3 a4 a5 a6 a7
    obtain ⟨u0, s0, rfl, rfl, z0⟩ := cell_open _ _ _ _ (ho 0 (by omega)) a0
    obtain ⟨u1, s1, rfl, rfl, z1⟩ := cell_open _ _ _ _ (ho 1 (by omega)) a1
    obtain ⟨u2, s2, rfl, rfl, z2⟩ := cell_open _ _ _ _ (ho 2 (by omega)) a2
    obtain ⟨u3, s3, rfl, rfl, z3⟩ := cell_open _ _ _ _ (ho 3 (by omega)) a3
    obtain ⟨u4, s4, rfl, rfl, z4⟩ := cell_open _ _ _ _ (ho 4 (by omega)) a4
    obtain ⟨u5, s5, rfl, rfl, z5⟩ := cell_open _ _ _ _ (ho 5 (by omega)) a5
    obtain ⟨u6, s6, rfl, rfl, z6⟩ := cell_open _ _ _ _ (ho 6 (by omega)) a6
    obtain ⟨u7, s7, rfl, rfl, z7⟩ := cell_open _ _ _ _ (ho 7 (by omega)) a7
    simp only [List.cons.injEq, and_true] at hj
    subst hj
    have hb := bounds_u64 hw
    have hn : ((j.toNat : Nat) : Int) = j := Int.toNat_of_nonneg hb.1
    refine ⟨mkPg j.toNat u0 u1 u2 u3 u4 u5 u6 u7 s0 s1 s2 s3 s4 s5 s6 s7, ?_, ?_, fun i hi => ?_⟩
    · unfold pgA mkPg
      simp only [hn]
    · show j.toNat < _
      omega
    · rcases lt8 hi with rfl | rfl | rfl | rfl | rfl | rfl | rfl | rfl <;> assumption
end
end Go.Proofs.Ytfeghhgniahfkaa

/-
  A list of structs that lies in memory. Of no program.
-/
namespace Go.Proofs.Ytfeghhgniahfkaa
open Go.RowKit
set_option linter.unusedVariables false

/-- A list of structs that lies there. -/
def RowsIn {α : Type} (f : α → Array Value) (z : α) (n : Nat) (w : World) (v : Value) (xs : List α) : Prop :=
  ∃ a cap, v = .slice a xs.length cap ∧ (0 < xs.length → ∃ b off, a = some ⟨b, off, none⟩ ∧ b < w.heap.size ∧ ∀ i, i < xs.length → w.rangeAt b (off + i * n) (f (xs.getD i z)).toList)
theorem rangeAt_below {w w' : World} {b o B : Nat} {cs : List Value} (h : w.rangeAt b o cs) (hb : Below B w w') (hB : b < B) : w'.rangeAt b o cs := fun j v hv => by
  rw [hb.cell (p := ⟨b, o + j, none⟩) hB]
  exact h j v hv
theorem RowsIn.below {α : Type} {f : α → Array Value} {z : α} {n : Nat} {w w' : World} {v : Value} {xs : List α} (h : RowsIn f z n w v xs) (hb : Below w.heap.size w w') : RowsIn f z n w' v xs := by
  obtain ⟨a, cap, h1, h2⟩ := h
  refine ⟨a, cap, h1, fun hp => ?_⟩
  obtain ⟨b, off, h3, h4, h5⟩ := h2 hp
  exact ⟨b, off, h3, Nat.lt_of_lt_of_le h4 hb.size, fun i hi => rangeAt_below (h5 i hi) hb h4⟩
end Go.Proofs.Ytfeghhgniahfkaa

/-
  A list of structs that comes in as an argument, opened. Of no program.
-/
namespace Go.Proofs.Ytfeghhgniahfkaa
open Go.ChangeShapes Go.WideShapes Go.ChangeAt Go.RowKit Go.Deep Go.Joins
set_option linter.unusedVariables false

theorem u64_nat {i : Int} (h : (Lit.int .u64 i).wf = true) : ∃ n : Nat, i = (n : Int) := by
  have := (bounds_u64 h).1
  exact ⟨i.toNat, by omega⟩

section
variable {H : Type} {enc : TypeId × Value → H} {W : World}

theorem trod_st3 {P : Program} {t : TypeId} {f0 f1 f2 : Field} {fuel : Nat} {cs : List Value} {x : DataW H × List MemPlace} (ht : P.underlying t = some (.struct #[f0, f1, f2])) (h : DataW.trod enc P W 0 (fun _ => true) true fuel t cs = some x) :
    ∃ y0 y1 y2 n, cs.length = P.cellsOf t ∧ DataW.trod enc P W 0 (fun _ => true) true n f0.type ((cs.drop f0.offset).take (P.cellsOf f0.type)) = some y0 ∧ DataW.trod enc P W 0 (fun _ => true) true n f1.type ((cs.drop f1.offset).take (P.cellsOf f1.type)) = some y1 ∧ DataW.trod enc P W 0 (fun _ => true) true n f2.type ((cs.drop f2.offset).take (P.cellsOf f2.type)) = some y2 := by
  obtain ⟨xs, n, _, rfl, hl, hlen, hf⟩ := DataW.trod_struct ht h
  match xs, hlen with
  | [y0, y1, y2], _ => exact ⟨y0, y1, y2, n, hl, by simpa using hf 0 f0 rfl, by simpa using hf 1 f1 rfl, by simpa using hf 2 f2 rfl⟩

theorem trod_st2 {P : Program} {t : TypeId} {f0 f1 : Field} {fuel : Nat} {cs : List Value} {x : DataW H × List MemPlace} (ht : P.underlying t = some (.struct #[f0, f1])) (h : DataW.trod enc P W 0 (fun _ => true) true fuel t cs = some x) :
    ∃ y0 y1 n, cs.length = P.cellsOf t ∧ DataW.trod enc P W 0 (fun _ => true) true n f0.type ((cs.drop f0.offset).take (P.cellsOf f0.type)) = some y0 ∧ DataW.trod enc P W 0 (fun _ => true) true n f1.type ((cs.drop f1.offset).take (P.cellsOf f1.type)) = some y1 := by
  obtain ⟨xs, n, _, rfl, hl, hlen, hf⟩ := DataW.trod_struct ht h
  match xs, hlen with
  | [y0, y1], _ => exact ⟨y0, y1, n, hl, by simpa using hf 0 f0 rfl, by simpa using hf 1 f1 rfl⟩

theorem trod_st5 {P : Program} {t : TypeId} {f0 f1 f2 f3 f4 : Field} {fuel : Nat} {cs : List Value} {x : DataW H × List MemPlace} (ht : P.underlying t = some (.struct #[f0, f1, f2, f3, f4])) (h : DataW.trod enc P W 0 (fun _ => true) true fuel t cs = some x) :
    ∃ y0 y1 y2 y3 y4 n, cs.length = P.cellsOf t ∧ DataW.trod enc P W 0 (fun _ => true) true n f0.type ((cs.drop f0.offset).take (P.cellsOf f0.type)) = some y0 ∧ DataW.trod enc P W 0 (fun _ => true) true n f1.type ((cs.drop f1.offset).take (P.cellsOf f1.type)) = some y1 ∧ DataW.trod enc P W 0 (fun _ => true) true n f2.type ((cs.drop f2.offset).take (P.cellsOf f2.type)) = some y2 ∧ DataW.trod enc P W 0 (fun _ => true) true n f3.type ((cs.drop f3.offset).take (P.cellsOf f3.type)) = some y3 ∧ DataW.trod enc P W 0 (fun _ => true) true n f4.type ((cs.drop f4.offset).take (P.cellsOf f4.type)) = some y4 := by
  obtain ⟨xs, n, _, rfl, hl, hlen, hf⟩ := DataW.trod_struct ht h
  match xs, hlen with
  | [y0, y1, y2, y3, y4], _ => exact ⟨y0, y1, y2, y3, y4, n, hl, by simpa using hf 0 f0 rfl, by simpa using hf 1 f1 rfl, by simpa using hf 2 f2 rfl, by simpa using hf 3 f3 rfl, by simpa using hf 4 f4 rfl⟩

theorem trod_st10 {P : Program} {t : TypeId} {f0 f1 f2 f3 f4 f5 f6 f7 f8 f9 : Field} {fuel : Nat} {cs : List Value} {x : DataW H × List MemPlace} (ht : P.underlying t = some (.struct #[f0, f1, f2, f3, f4, f5, f6, f7, f8, f9])) (h : DataW.trod enc P W 0 (fun _ => true) true fuel t cs = some x) :
    ∃ y0 y1 y2 y3 y4 y5 y6 y7 y8 y9 n, cs.length = P.cellsOf t ∧ DataW.trod enc P W 0 (fun _ => true) true n f0.type ((cs.drop f0.offset).take (P.cellsOf f0.type)) = some y0 ∧ DataW.trod enc P W 0 (fun _ => true) true n f1.type ((cs.drop f1.offset).take (P.cellsOf f1.type)) = some y1 ∧ DataW.trod enc P W 0 (fun _ => true) true n f2.type ((cs.drop f2.offset).take (P.cellsOf f2.type)) = some y2 ∧ DataW.trod enc P W 0 (fun _ => true) true n f3.type ((cs.drop f3.offset).take (P.cellsOf f3.type)) = some y3 ∧ DataW.trod enc P W 0 (fun _ => true) true n f4.type ((cs.drop f4.offset).take (P.cellsOf f4.type)) = some y4 ∧ DataW.trod enc P W 0 (fun _ => true) true n f5.type ((cs.drop f5.offset).take (P.cellsOf f5.type)) = some y5 ∧ DataW.trod enc P W 0 (fun _ => true) true n f6.type ((cs.drop f6.offset).take (P.cellsOf f6.type)) = some y6 ∧ DataW.trod enc P W 0 (fun _ => true) true n f7.type ((cs.drop f7.offset).take (P.cellsOf f7.type)) = some y7 ∧ DataW.trod enc P W 0 (fun _ => true) true n f8.type ((cs.drop f8.offset).take (P.cellsOf f8.type)) = some y8 ∧ DataW.trod enc P W 0 (fun _ => true) true n f9.type ((cs.drop f9.offset).take (P.cellsOf f9.type)) = some y9 := by
  obtain ⟨xs, n, _, rfl, hl, hlen, hf⟩ := DataW.trod_struct ht h
  match xs, hlen with
  | [y0, y1, y2, y3, y4, y5, y6, y7, y8, y9], _ => exact ⟨y0, y1, y2, y3, y4, y5, y6, y7, y8, y9, n, hl, by simpa using hf 0 f0 rfl, by simpa using hf 1 f1 rfl, by simpa using hf 2 f2 rfl, by simpa using hf 3 f3 rfl, by simpa using hf 4 f4 rfl, by simpa using hf 5 f5 rfl, by simpa using hf 6 f6 rfl, by simpa using hf 7 f7 rfl, by simpa using hf 8 f8 rfl, by simpa using hf 9 f9 rfl⟩

theorem op_rows {α : Type} (f : α → Array Value) (z : α) (G : α → Prop) {P : Program} {t e : TypeId} {sz fuel : Nat} {c : Value} {x : DataW H × List MemPlace} (hel : ∀ n cs y, DataW.trod enc P W 0 (fun _ => true) true n e cs = some y → ∃ x, cs = (f x).toList ∧ G x)
    (ht : P.underlying t = some (.slice e)) (hsz : P.cellsOf e = sz) (hfz : ∀ x, (f x).size = sz) (hpos : 0 < sz) (h : DataW.trod enc P W 0 (fun _ => true) true fuel t [c] = some x) : ∃ xs, RowsIn f z sz W c xs ∧ xs.length ≤ maxLen ∧ ∀ x ∈ xs, G x := by
  rcases open_slice ht h with ⟨hcs, _⟩ | ⟨a, len, cap, m, n, D, Pl, hcs, _, hl, hm, hmm, _, hall⟩
  · simp only [List.cons.injEq, and_true] at hcs
    exact ⟨[], ⟨none, 0, hcs, fun h => absurd h (by simp)⟩, Nat.zero_le _, fun x hx => nomatch hx⟩
  · simp only [List.cons.injEq, and_true] at hcs
    subst hcs
    simp only [if_true] at hmm
    subst hmm
    have : Nonempty α := ⟨z⟩
    obtain ⟨g, hg⟩ := @choose_lt α ⟨z⟩ m (fun i y => G y ∧ ∀ k, k < sz → W.cell? (a.add (i * sz + k)) = (f y).toList[k]?) (fun i hi => by
      obtain ⟨cs', h1, h2⟩ := hall i hi
      obtain ⟨y, rfl, hG⟩ := hel _ _ _ h2
      rw [hsz] at h1
      obtain ⟨_, _, h3⟩ := World.cells?_some h1
      refine ⟨y, hG, fun k hk => ?_⟩
      rw [← h3 k hk, Addr.add_add])
    have hL : ((List.range len).map g).length = len := by simp
    refine ⟨(List.range len).map g, ⟨some a, m, by rw [hL], fun hp => ?_⟩, by rw [hL]; omega, fun x hx => by
      obtain ⟨i, hi, rfl⟩ := List.mem_map.1 hx
      exact (hg i (by have := List.mem_range.1 hi; omega)).1⟩
    rw [hL] at hp
    have hf0 : ∀ y k, k < sz → ∃ v, (f y).toList[k]? = some v := fun y k hk => ⟨_, List.getElem?_eq_getElem (by rw [Array.length_toList, hfz]; exact hk)⟩
    have hc0 := (hg 0 (by omega)).2 0 hpos
    obtain ⟨v0, hv0⟩ := hf0 (g 0) 0 hpos
    rw [hv0] at hc0
    obtain ⟨b, off, spot⟩ := a
    have hspot : spot = none := by simpa [Addr.add] using World.cell?_spot hc0
    subst hspot
    refine ⟨b, off, rfl, ?_, fun i hi j v hv => ?_⟩
    · have := World.block_lt_of_cell? W _ hc0
      simpa [Addr.add] using this
    · rw [hL] at hi
      have hget : ((List.range len).map g).getD i z = g i := by
        rw [List.getD_eq_getElem?_getD, List.getElem?_map, List.getElem?_range hi]
        rfl
      rw [hget] at hv
      have hj : j < sz := by
        have := (List.getElem?_eq_some_iff.1 hv).1
        rw [Array.length_toList, hfz] at this
        exact this
      have := (hg i (by omega)).2 j hj
      rw [Addr.add_lit, hv] at this
      rw [← this, Nat.add_assoc]

/-- A slice's length is within its capacity. -/
theorem op_cap {P : Program} {t e : TypeId} {c : Value} {fuel : Nat} {x : DataW H × List MemPlace} (ht : P.underlying t = some (.slice e)) (h : DataW.trod enc P W 0 (fun _ => true) true fuel t [c] = some x) {a : Option Addr} {len cap : Nat} (hc : c = .slice a len cap) : len ≤ cap ∧ (a = none → cap = 0) := by
  rcases open_slice ht h with ⟨hcs, _⟩ | ⟨a', len', cap', m, n, D, Pl, hcs, _, hl, hm, hmm, _, hall⟩
  · simp only [List.cons.injEq, and_true] at hcs
    rw [hc] at hcs
    injection hcs with h1 h2 h3
    subst h1 h2 h3
    exact ⟨Nat.le_refl _, fun _ => rfl⟩
  · simp only [List.cons.injEq, and_true] at hcs
    rw [hc] at hcs
    injection hcs with h1 h2 h3
    subst h1 h2 h3
    simp only [if_true] at hmm
    exact ⟨by omega, fun h => (nomatch h)⟩
end
end Go.Proofs.Ytfeghhgniahfkaa

/-
  The calls of a script of a store, in lists that come in, opened.
-/
namespace Go.Proofs.Ytfeghhgniahfkaa
open Go.ChangeShapes Go.WideShapes Go.ChangeAt Go.RowKit Go.Deep Go.Joins
set_option linter.unusedVariables false

set_option maxRecDepth 40000 in
/-- A call of a script. -/
structure Oc where
  k : Int
  n : Int
  i : Int
  m : Int
  p : Pg
set_option maxRecDepth 40000 in
def ocA (c : Oc) : Array Value := #[.int .i64 c.k, .int .i64 c.n, .int .i64 c.i, .int .i64 c.m, .int .u64 c.p.l, .bool (c.p.u 0), .string (c.p.s 0), .bool (c.p.u 1), .string (c.p.s 1), .bool (c.p.u 2), .string (c.p.s 2), .bool (c.p.u 3), .string (c.p.s 3), .bool (c.p.u 4), .string (c.p.s 4), .bool (c.p.u 5), .string (c.p.s 5), .bool (c.p.u 6), .string (c.p.s 6), .bool (c.p.u 7), .string (c.p.s 7)]
set_option maxRecDepth 40000 in
def Oc.zero : Oc := ⟨0, 0, 0, 0, Pg.zero⟩
set_option maxRecDepth 40000 in
def Oc.fits (c : Oc) : Prop := (Lit.int .i64 c.k).wf = true ∧ (Lit.int .i64 c.n).wf = true ∧ (Lit.int .i64 c.i).wf = true ∧ (Lit.int .i64 c.m).wf = true ∧ c.p.fits
section
variable {H : Type} {enc : TypeId × Value → H} {W : World}

set_option maxRecDepth 40000 in
theorem elem_page (n : Nat) (l : List Value) (y : DataW H × List MemPlace) (hl : l.length = 17) (hf : DataW.trod enc Try.prog W 0 (fun _ => true) true n 35 l = some y) : ∃ q : Pg, l = (pgA q).toList ∧ q.fits := by
  match l, hl with
  | [c0, c1, c2, c3, c4, c5, c6, c7, c8, c9, c10, c11, c12, c13, c14, c15, c16], _ =>
    obtain ⟨y0, y1, m, _, _, h0, h1⟩ := trod_struct2 Try.underlying35 hf
    have e0 : Try.prog.cellsOf 30 = 1 := by kernel_rfl
    have e1 : Try.prog.cellsOf 33 = 16 := by kernel_rfl
    have e2 : Try.prog.cellsOf 32 = 2 := by kernel_rfl
    simp only [e0, e1, List.drop_zero, List.drop_succ_cons, List.take_succ_cons, List.take_zero] at h0 h1
    obtain ⟨j, hj, _, hw⟩ := DataW.trod_int Try.underlying30 h0
    obtain ⟨xs, m2, _, _, _, hx, hall⟩ := DataW.trod_array Try.underlying33 h1
    simp only [e2] at hall
    have ho : ∀ i, i < 8 → (xs[i]?).isSome = true := fun i hi => by rw [List.getElem?_eq_getElem (by omega)]; rfl
    have a0 := hall 0 (by omega)
    have a1 := hall 1 (by omega)
    have a2 := hall 2 (by omega)
    have a3 := hall 3 (by omega)
    have a4 := hall 4 (by omega)
    have a5 := hall 5 (by omega)
    have a6 := hall 6 (by omega)
    have a7 := hall 7 (by omega)
    simp only [List.drop_zero, List.drop_succ_cons, List.take_succ_cons, List.take_zero, Nat.zero_mul, Nat.one_mul, Nat.reduceMul] at a0 a1 a2 a3 a4 a5 a6 a7
    obtain ⟨u0, s0, rfl, rfl, z0⟩ := cell_open _ _ _ _ (ho 0 (by omega)) a0
    obtain ⟨u1, s1, rfl, rfl, z1⟩ := cell_open _ _ _ _ (ho 1 (by omega)) a1
    obtain ⟨u2, s2, rfl, rfl, z2⟩ := cell_open _ _ _ _ (ho 2 (by omega)) a2
    obtain ⟨u3, s3, rfl, rfl, z3⟩ := cell_open _ _ _ _ (ho 3 (by omega)) a3
    obtain ⟨u4, s4, rfl, rfl, z4⟩ := cell_open _ _ _ _ (ho 4 (by omega)) a4
    obtain ⟨u5, s5, rfl, rfl, z5⟩ := cell_open _ _ _ _ (ho 5 (by omega)) a5
    obtain ⟨u6, s6, rfl, rfl, z6⟩ := cell_open _ _ _ _ (ho 6 (by omega)) a6
    obtain ⟨u7, s7, rfl, rfl, z7⟩ := cell_open _ _ _ _ (ho 7 (by omega)) a7
    simp only [List.cons.injEq, and_true] at hj
    subst hj
    have hb := bounds_u64 hw
    have hn : ((j.toNat : Nat) : Int) = j := Int.toNat_of_nonneg hb.1
    refine ⟨mkPg j.toNat u0 u1 u2 u3 u4 u5 u6 u7 s0 s1 s2 s3 s4 s5 s6 s7, ?_, ?_, fun i hi => ?_⟩
    · unfold pgA mkPg
      simp only [hn]
    · show j.toNat < _
      omega
    · rcases lt8 hi with rfl | rfl | rfl | rfl | rfl | rfl | rfl | rfl <;> assumption
set_option maxRecDepth 40000 in
theorem elem_oc (n : Nat) (cs : List Value) (y : DataW H × List MemPlace) (h : DataW.trod enc Try.prog W 0 (fun _ => true) true n 37 cs = some y) : ∃ c : Oc, cs = (ocA c).toList ∧ c.fits := by
  obtain ⟨y0, y1, y2, y3, y4, m, hl, h0, h1, h2, h3, h4⟩ := trod_st5 Try.underlying37 h
  have hC : Try.prog.cellsOf 37 = 21 := by kernel_rfl
  rw [hC] at hl
  match cs, hl with
  | [b0, b1, b2, b3, c0, c1, c2, c3, c4, c5, c6, c7, c8, c9, c10, c11, c12, c13, c14, c15, c16], _ =>
    have e0 : Try.prog.cellsOf 3 = 1 := by kernel_rfl
    have e2 : Try.prog.cellsOf 35 = 17 := by kernel_rfl
    simp only [e0, e2, List.drop_zero, List.drop_succ_cons, List.take_succ_cons, List.take_zero] at h0 h1 h2 h3 h4
    obtain ⟨i0, g0, _, w0⟩ := DataW.trod_int Try.underlying3 h0
    obtain ⟨i1, g1, _, w1⟩ := DataW.trod_int Try.underlying3 h1
    obtain ⟨i2, g2, _, w2⟩ := DataW.trod_int Try.underlying3 h2
    obtain ⟨i3, g3, _, w3⟩ := DataW.trod_int Try.underlying3 h3
    obtain ⟨q, g4, w4⟩ := elem_page _ _ _ rfl h4
    simp only [pgA, List.cons.injEq, and_true] at g0 g1 g2 g3 g4
    obtain ⟨a0, a1, a2, a3, a4, a5, a6, a7, a8, a9, a10, a11, a12, a13, a14, a15, a16⟩ := g4
    subst g0 g1 g2 g3 a0 a1 a2 a3 a4 a5 a6 a7 a8 a9 a10 a11 a12 a13 a14 a15 a16
    exact ⟨⟨i0, i1, i2, i3, q⟩, rfl, w0, w1, w2, w3, w4⟩
set_option maxRecDepth 40000 in
/-- A script. -/
theorem op_ocs {v : Value} {d : DataW H} {p : List MemPlace} {r : Reach} {b0 : Nat} (hv : Value.okWide Try.prog W r b0 22 v) (h : DataW.Trod enc Try.prog W 0 (fun _ => true) true 22 v d p) :
    ∃ cs : List Oc, RowsIn ocA Oc.zero 21 W v cs ∧ cs.length ≤ maxLen ∧ (∀ c ∈ cs, c.fits) ∧ ∀ a len cap, v = .slice a len cap → len ≤ cap := by
  obtain ⟨fuel, hf⟩ := h
  obtain ⟨a, len, cap, rfl⟩ := okWide_slice Try.underlying22 hv
  have hf2 : DataW.trod enc Try.prog W 0 (fun _ => true) true fuel 22 [.slice a len cap] = some (d, p) := hf
  obtain ⟨cs, h1, h2, h3⟩ := op_rows (sz := 21) ocA Oc.zero (fun c => c.fits) elem_oc Try.underlying22 (by kernel_rfl) (fun _ => rfl) (by decide) hf2
  exact ⟨cs, h1, h2, h3, fun a' l' c' e => (op_cap Try.underlying22 hf2 e).1⟩
set_option maxRecDepth 40000 in
/-- One call by value. -/
theorem op_oc {v : Value} {d : DataW H} {p : List MemPlace} {r : Reach} {b0 : Nat} (hv : Value.okWide Try.prog W r b0 37 v) (h : DataW.Trod enc Try.prog W 0 (fun _ => true) true 37 v d p) :
    ∃ c : Oc, v = .agg (ocA c) ∧ c.fits := by
  obtain ⟨cs, rfl, hsz⟩ := okWide_struct Try.underlying37 hv
  obtain ⟨fuel, hf⟩ := h
  obtain ⟨l⟩ := cs
  obtain ⟨c, hc, hft⟩ := elem_oc _ _ _ hf
  have hc2 : l = (ocA c).toList := hc
  subst hc2
  exact ⟨c, rfl, hft⟩
set_option maxRecDepth 40000 in
def i64A (x : Int) : Array Value := #[.int .i64 x]
set_option maxRecDepth 40000 in
theorem elem_i64 (n : Nat) (cs : List Value) (y : DataW H × List MemPlace) (h : DataW.trod enc Try.prog W 0 (fun _ => true) true n 3 cs = some y) : ∃ c : Int, cs = (i64A c).toList ∧ (Lit.int .i64 c).wf = true := by
  obtain ⟨i0, g0, _, w0⟩ := DataW.trod_int Try.underlying3 h
  exact ⟨i0, g0, w0⟩
set_option maxRecDepth 40000 in
/-- A list of numbers. -/
theorem op_ints {v : Value} {d : DataW H} {p : List MemPlace} {r : Reach} {b0 : Nat} (hv : Value.okWide Try.prog W r b0 48 v) (h : DataW.Trod enc Try.prog W 0 (fun _ => true) true 48 v d p) :
    ∃ cs : List Int, RowsIn i64A 0 1 W v cs ∧ cs.length ≤ maxLen ∧ (∀ c ∈ cs, (Lit.int .i64 c).wf = true) ∧ ∀ a len cap, v = .slice a len cap → len ≤ cap := by
  obtain ⟨fuel, hf⟩ := h
  obtain ⟨a, len, cap, rfl⟩ := okWide_slice Try.underlying48 hv
  have hf2 : DataW.trod enc Try.prog W 0 (fun _ => true) true fuel 48 [.slice a len cap] = some (d, p) := hf
  obtain ⟨cs, h1, h2, h3⟩ := op_rows (sz := 1) i64A 0 (fun c => (Lit.int .i64 c).wf = true) elem_i64 Try.underlying48 (by kernel_rfl) (fun _ => rfl) (by decide) hf2
  exact ⟨cs, h1, h2, h3, fun a' l' c' e => (op_cap Try.underlying48 hf2 e).1⟩
end
end Go.Proofs.Ytfeghhgniahfkaa

/-
  A script of calls of a store, that came in: how a call is loaded.
-/
namespace Go.Proofs.Ytfeghhgniahfkaa
open Go.RowKit
set_option linter.unusedVariables false

theorem infoOc : (Try.prog.info? 37).map (·.size) = some 21 := by kernel_rfl
theorem infoPg10 : (Try.prog.info? 35).map (·.size) = some 17 := by kernel_rfl
def ocZ : Array Value := ocA Oc.zero
theorem ocA_all (c : Oc) : (ocA c).all (·.oneCell') = true := by simp [ocA, Value.oneCell']
theorem ocA_page (c : Oc) : (ocA c).extract 4 (4 + 17) = pgA c.p := by
  apply Array.ext'
  simp [ocA, pgA]
theorem load_oc (y : World) (b k : Nat) (c : Oc) (h : y.rangeAt b k (ocA c).toList) : (Instr.loadAt 37 (.pointer (some ⟨b, k, none⟩))).run Try.prog y = .ok (.agg (ocA c)) y := by
  have h1 := run_loadAt_mid (P := Try.prog) y b k 37 (ocA c).toList _ h Try.underlying37 rfl (by rw [infoOc]; rfl)
  rwa [Array.toArray_toList] at h1
/-- A value that is loaded, by what the load answers. -/
theorem wpList_load_run {P : Program} {ops : Array Oper} {rest : List Oper} {o : Oper} {a : Act} {w : World} {Q : Exit → Act → World → Prop} (hw : Region.wanted o (yielded ops a.tmps) = true) (t : TypeId) (x : Operand) (ho : o.op = .load t x) (u v : Value) (hu : a.eval x = u) (hv : (Instr.loadAt t u).run P w = .ok v w) (h : wpList P ops Q rest (a.put o.dst v) w) : wpList P ops Q (o :: rest) a w :=
  wpList_val hw v (by unfold execOp; simp only [ho, hu, Sem.run_bind, hv, Result.andThen_ok, Sem.run_pure]) h
structure Scr10 (w0 : World) (v : Value) (cs : List Oc) : Prop where
  rows : RowsIn ocA Oc.zero 21 w0 v cs
  fits : ∀ c ∈ cs, c.fits
  cap : ∀ a len cap, v = .slice a len cap → len ≤ cap
theorem Scr10.at {w0 x : World} {a : Option Addr} {len cap : Nat} {cs : List Oc} (h : Scr10 w0 (.slice a len cap) cs) (p : Below w0.heap.size w0 x) {j : Nat} (hj : j < cs.length) : ∃ b off, a = some ⟨b, off, none⟩ ∧ (Instr.loadAt 37 (.pointer (some ⟨b, off + j * 21, none⟩))).run Try.prog x = .ok (.agg (ocA (cs.getD j Oc.zero))) x ∧ (cs.getD j Oc.zero).fits := by
  obtain ⟨a', cap', e, h2⟩ := h.rows
  injection e with e1 e2 e3
  subst e1
  obtain ⟨b, off, h3, h4, h5⟩ := h2 (by omega)
  have hm : cs.getD j Oc.zero ∈ cs := by
    rw [List.getD_eq_getElem?_getD, List.getElem?_eq_getElem hj]
    exact List.getElem_mem hj
  exact ⟨b, off, h3, load_oc x b _ _ (rangeAt_below (h5 j hj) p h4), h.fits _ hm⟩
theorem Scr10.len {w0 : World} {a : Option Addr} {len cap : Nat} {cs : List Oc} (h : Scr10 w0 (.slice a len cap) cs) : len = cs.length := by
  obtain ⟨a', cap', e, h2⟩ := h.rows
  injection e
end Go.Proofs.Ytfeghhgniahfkaa

/-
  Pages that are kept in memory while a statement goes on.
-/
namespace Go.Proofs.Ytfeghhgniahfkaa
open Go.RowKit
set_option linter.unusedVariables false

theorem kept_later {w x y : World} {g : Nat} {p : Pg} (h : PgAt x g p ∧ Below g w x ∧ g < x.heap.size) (hb : Below x.heap.size x y) : PgAt y g p ∧ Below g w y ∧ g < y.heap.size :=
  ⟨h.1.below hb h.2.2, h.2.1.trans (hb.mono (Nat.le_of_lt h.2.2)), Nat.lt_of_lt_of_le h.2.2 hb.size⟩

/-- Two pages that came in, and lie side by side. -/
def Pair (w : World) (g k : Nat) (p q : Pg) (x : World) : Prop := PgAt x g p ∧ PgAt x k q ∧ Below g w x ∧ g < k ∧ k < x.heap.size
theorem Pair.later {w x y : World} {g k : Nat} {p q : Pg} (h : Pair w g k p q x) (hb : Below x.heap.size x y) : Pair w g k p q y :=
  ⟨h.1.below hb (Nat.lt_trans h.2.2.2.1 h.2.2.2.2), h.2.1.below hb h.2.2.2.2, h.2.2.1.trans (hb.mono (Nat.le_of_lt (Nat.lt_trans h.2.2.2.1 h.2.2.2.2))), h.2.2.2.1, Nat.lt_of_lt_of_le h.2.2.2.2 hb.size⟩
theorem Pair.drew {w x : World} {g k : Nat} {p q : Pg} (h : Pair w g k p q x) : Pair w g k p q x.drew := ⟨h.1, h.2.1, below_dn h.2.2.1 1, h.2.2.2⟩
theorem Pair.new (w : World) (p q : Pg) : Pair w w.heap.size (w.heap.size + 1) p q ((w.alloc (.cells (pgA p) 35)).alloc (.cells (pgA q) 35)) := by
  have hz : w.heap.size < (w.alloc (.cells (pgA p) 35)).heap.size := by simp
  have e : (w.alloc (.cells (pgA p) 35)).heap.size = w.heap.size + 1 := by simp
  refine ⟨PgAt.alloc (show PgAt (w.alloc (.cells (pgA p) 35)) w.heap.size p from heap_alloc_new w _) hz _, ?_, ?_, by omega, by simp⟩
  · have h := heap_alloc_new (w.alloc (.cells (pgA p) 35)) (.cells (pgA q) 35)
    rw [e] at h
    exact h
  · exact ((Below.refl _ _).alloc (Nat.le_refl _) _).alloc (by simp) _

theorem PgAt.lt {w : World} {b : Nat} {p : Pg} (h : PgAt w b p) : b < w.heap.size := (Array.getElem?_eq_some_iff.1 h).1

/-- A page that a call keeps in memory of its own. -/
def Kept (B : Nat) (w : World) (g : Nat) (p : Pg) (x : World) : Prop := PgAt x g p ∧ Below B w x ∧ B ≤ g
theorem Kept.later {B g : Nat} {w x y : World} {p : Pg} (h : Kept B w g p x) (hb : Below x.heap.size x y) : Kept B w g p y :=
  ⟨h.1.below hb h.1.lt, h.2.1.trans (hb.mono (Nat.le_trans h.2.2 (Nat.le_of_lt h.1.lt))), h.2.2⟩
theorem Kept.drew {B g : Nat} {w x : World} {p : Pg} (h : Kept B w g p x) : Kept B w g p x.drew := ⟨h.1, below_dn h.2.1 1, h.2.2⟩

end Go.Proofs.Ytfeghhgniahfkaa
