/-
  Texts that lean on one another, one behind the other: each opens with its own remark.
-/
import Derived.WalkKit
import Derived.OpenShut
import Derived.ShutString
import Derived.SizedLaws
import Derived.ChangeOld
import Derived.Deep.Slices
import Derived.Lib.SmallJoins
import Derived.Test.YtmoagpedkgjkoaaRows
import Derived.Deep.MidRow
import Derived.Laws.OwnMore
import Derived.ArgAppend
import Derived.DeepKeys
import Derived.Laws.StructEq
import Derived.Test.YtmoagpedkgjkoaaK01
import Derived.Test.YtmoagpedkgjkoaaK00

/-
  What a page's image is decoded as, of no program.
-/
namespace Go.Proofs.Ytmoagpedkgjkoaa
open Go.RowKit
set_option linter.unusedVariables false

theorem torn_image (id : Nat) (p : Pg) (hp : p.right) : tornB (imageB id p) = false := by
  obtain ⟨h1, h2, _⟩ := image_parts id p hp
  unfold tornB
  rw [h1, h2]
  simp

theorem sum_image (id : Nat) (p : Pg) (hp : p.right) : leN ((taleOf (imageB id p)).drop 236) = crc ((taleOf (imageB id p)).take 236) := by
  rw [(image_parts id p hp).2.2]
  have hl := taleB_length id p hp
  have hb := bodyB_length id p hp
  have h1 : (taleB id p).take 236 = bodyB id p := by
    unfold taleB
    rw [List.take_left' hb]
  have h2 := (seal_eq_iff (taleB id p) (by omega)).1
  rw [hl] at h2
  refine h2 ?_
  show (taleB id p).take 236 ++ leB (crc ((taleB id p).take 236)) = taleB id p
  rw [h1]
  rfl

theorem dec_image (id : Int) (p : Pg) (h0 : 0 ≤ id ∧ id ≤ 31) (hp : p.right) : decE id (imageB id.toNat p) = 0 ∧ pgA (decP id (imageB id.toNat p)) = pgA p := by
  have hs := scan_image id.toNat p hp
  have h1 : decE id (imageB id.toNat p) = 0 := by
    rw [dec_last id _ h0 (imageB_length _ _ hp) (torn_image _ _ hp) (sum_image _ _ hp), if_pos ⟨hs.symm.right hp, hs.image _⟩]
  refine ⟨h1, ?_⟩
  unfold decP
  rw [if_pos h1]
  exact same_pgA hs

theorem dec_other (id jd : Int) (p : Pg) (h0 : 0 ≤ id ∧ id ≤ 31) (hp : p.right) : decE jd (imageB id.toNat p) = 0 ↔ jd = id := by
  constructor
  · intro h
    by_cases hj : 0 ≤ jd ∧ jd ≤ 31
    · rw [dec_last jd _ hj (imageB_length _ _ hp) (torn_image _ _ hp) (sum_image _ _ hp)] at h
      by_cases hr : (scanP (imageB id.toNat p)).right ∧ imageB jd.toNat (scanP (imageB id.toNat p)) = imageB id.toNat p
      · have := (image_inj hr.1 hp (by omega) (by omega) hr.2).1
        omega
      · rw [if_neg hr] at h
        cases h
    · unfold decE at h
      rw [if_pos hj] at h
      cases h
  · rintro rfl
    exact (dec_image jd p h0 hp).1

theorem dec_short (id : Int) (bs : List UInt8) (h0 : 0 ≤ id ∧ id ≤ 31) (h : bs.length < 256) : decE id bs = 4 := by
  unfold decE
  rw [if_neg (by simpa using h0), if_pos h]
theorem dec_long (id : Int) (bs : List UInt8) (h0 : 0 ≤ id ∧ id ≤ 31) (h : 256 < bs.length) : decE id bs = 2 := by
  unfold decE
  rw [if_neg (by simpa using h0), if_neg (by omega), if_pos h]
theorem dec_torn (id : Int) (bs : List UInt8) (h0 : 0 ≤ id ∧ id ≤ 31) (ht : tornB bs = true) : decE id bs = 14 := by
  have h : bs.length = 256 := by
    unfold tornB at ht
    exact (of_decide_eq_true ht).1
  unfold decE
  rw [if_neg (by simpa using h0), if_neg (by omega), if_neg (by omega), if_pos ht]
theorem enc_yes (id : Int) (p : Pg) (h : 0 ≤ id ∧ id ≤ 31 ∧ p.right) : encB id p = (imageB id.toNat p, 0) := by unfold encB; rw [if_pos h]
theorem enc_no (id : Int) (p : Pg) (h : ¬ (0 ≤ id ∧ id ≤ 31 ∧ p.right)) : encB id p = ([], 1) := by unfold encB; rw [if_neg h]
end Go.Proofs.Ytmoagpedkgjkoaa

/-
  A store of the code's that a walk keeps, call by call: all that was there when the walk began stays.
-/
namespace Go.Proofs.Ytmoagpedkgjkoaa
open Go.RowKit
set_option linter.unusedVariables false

/-- Blocks of other kinds than the store's are as they were. -/
structure Side10 (w w' : World) : Prop where
  size : w.heap.size ≤ w'.heap.size
  block : ∀ (k : Nat) (cs : Array Value) (t : TypeId) (fr : Nat × Nat), t ≠ 75 → t ≠ 70 → w.heap[k]? = some (Obj.cells cs t fr) → w'.heap[k]? = some (Obj.cells cs t fr)
theorem Side10.refl (w : World) : Side10 w w := ⟨Nat.le_refl _, fun _ _ _ _ _ _ h => h⟩
theorem Side10.trans {w x y : World} (p : Side10 w x) (q : Side10 x y) : Side10 w y := ⟨Nat.le_trans p.size q.size, fun k cs t fr h1 h2 h => q.block k cs t fr h1 h2 (p.block k cs t fr h1 h2 h)⟩
theorem Side10.of_below {w x : World} (p : Below w.heap.size w x) : Side10 w x := ⟨p.size, fun k cs t fr _ _ h => (p.block k (Array.getElem?_eq_some_iff.1 h).1).trans h⟩
theorem Side10.row {w x : World} {k : Nat} {t : TypeId} {cs : Array Value} (p : Side10 w x) (h : RowAt w k t cs) (h1 : t ≠ 75) (h2 : t ≠ 70) : RowAt x k t cs := p.block k cs t (0, 0) h1 h2 h
theorem Side10.page {w x : World} {k : Nat} {p : Pg} (q : Side10 w x) (h : PgAt w k p) : PgAt x k p := q.block k _ 35 (0, 0) (by decide) (by decide) h
theorem SAt.side {w x : World} {gs gp : Nat} {s : Sc} (h : SAt w gs gp s) (p : Tn (FS gs gp) w x) : Side10 w x := by
  obtain ⟨cs, ps, h⟩ := h
  refine ⟨p.size, fun k c t fr h1 h2 hk => (p.block k (Array.getElem?_eq_some_iff.1 hk).1 (fun e => ?_)).trans hk⟩
  rcases e with rfl | rfl
  · have h3 := h.st
    unfold RowAt at h3
    rw [h3] at hk
    injection hk with hk
    injection hk with _ h4
    exact h1 h4.symm
  · have h3 := h.pr
    unfold RowAt at h3
    rw [h3] at hk
    injection hk with hk
    injection hk with _ h4
    exact h2 h4.symm

structure K10 (w0 w : World) (gs : Nat) (s : Sc) (old : Nat → Pg) (tr : Nat → Option (Pg × Bool)) : Prop where
  low : w0.heap.size ≤ gs
  st : ∃ gp, w0.heap.size ≤ gp ∧ SAt w gs gp s
  ok : s.ok old tr
  bel : Below w0.heap.size w0 w
section
variable {w0 w x : World} {gs : Nat} {s : Sc} {old : Nat → Pg} {tr : Nat → Option (Pg × Bool)}
theorem K10.later (h : K10 w0 w gs s old tr) (p : Below w.heap.size w x) : K10 w0 x gs s old tr := by
  obtain ⟨gp, h1, h2⟩ := h.st
  exact ⟨h.low, ⟨gp, h1, h2.later p⟩, h.ok, h.bel.trans (p.mono h.bel.size)⟩
theorem K10.alloc (h : K10 w0 w gs s old tr) (o : Obj) : K10 w0 (w.alloc o) gs s old tr := h.later ((Below.refl _ _).alloc (Nat.le_refl _) _)
theorem K10.drew (h : K10 w0 w gs s old tr) : K10 w0 w.drew gs s old tr := h.later dq
/-- A cell of another block turned. -/
theorem K10.set (h : K10 w0 w gs s old tr) {k : Nat} {t : TypeId} {cs : Array Value} (hr : RowAt w k t cs) (h1 : t ≠ 75) (h2 : t ≠ 70) (hk : w0.heap.size ≤ k) (j : Nat) (v : Value) : K10 w0 (w.setCell ⟨k, j, none⟩ v) gs s old tr := by
  obtain ⟨gp, h3, cs', ps, h4⟩ := h.st
  refine ⟨h.low, ⟨gp, h3, cs', ps, h4.keep ?_ ?_⟩, h.ok, h.bel.setCell hk v⟩
  · exact heap_setCell_other w ⟨k, j, none⟩ gs v (fun e => by
      have e' : gs = k := e
      subst e'
      exact h1 (row_kind hr h4.st))
  · exact heap_setCell_other w ⟨k, j, none⟩ gp v (fun e => by
      have e' : gp = k := e
      subst e'
      exact h2 (row_kind hr h4.pr))
/-- Another block turned. -/
theorem K10.only (h : K10 w0 w gs s old tr) {k : Nat} {t : TypeId} {cs : Array Value} (hr : RowAt w k t cs) (h1 : t ≠ 75) (h2 : t ≠ 70) (hk : w0.heap.size ≤ k) (p : Only k w x) : K10 w0 x gs s old tr := by
  obtain ⟨gp, h3, cs', ps, h4⟩ := h.st
  refine ⟨h.low, ⟨gp, h3, cs', ps, h4.keep ?_ ?_⟩, h.ok, p.below h.bel hk⟩
  · exact p.block gs (fun e => by
      subst e
      exact h1 (row_kind hr h4.st))
  · exact p.block gp (fun e => by
      subst e
      exact h2 (row_kind hr h4.pr))
theorem K10.pages (h : K10 w0 w gs s old tr) : Calls Try.prog 13 #[.pointer (some ⟨gs, 0, none⟩)] w fun e w' => e = .returned (.int .i64 (s.n : Int)) ∧ w = w' := by
  obtain ⟨gp, _, h2⟩ := h.st
  exact pages10 h2
theorem K10.out (h : K10 w0 w gs s old tr) (n : Int) : Calls Try.prog 16 #[.pointer (some ⟨gs, 0, none⟩), .int .i64 n] w fun e w' => e = .returned (.bool (s.outB n)) ∧ w = w' := by
  obtain ⟨gp, _, h2⟩ := h.st
  exact out10 n h2
theorem K10.image (h : K10 w0 w gs s old tr) (i : Nat) (hi : i < s.n) : Calls Try.prog 23 #[.pointer (some ⟨gs, 0, none⟩), .int .i64 (i : Int)] w fun e w' => ∃ v, e = .returned (.tuple #[v, .int .i64 0]) ∧ w'.ownsRow w.heap.size 5 1 v 256 (toV (s.pl i)) ∧ Below w.heap.size w w' := by
  obtain ⟨gp, _, h2⟩ := h.st
  exact image10 i hi h2
theorem K10.read (h : K10 w0 w gs s old tr) (i : Nat) (hi : i < s.n) (ht : tr i = none) : Calls Try.prog 17 #[.pointer (some ⟨gs, 0, none⟩), .int .i64 (i : Int)] w fun e w' => e = .returned (.tuple #[.agg (pgA (old i)), .int .i64 0]) ∧ Below w.heap.size w w' := by
  obtain ⟨gp, _, h2⟩ := h.st
  have h3 := dec_image (i : Int) (old i) (by have := h.ok.wf.n; omega) (h.ok.rt i hi)
  rw [Int.toNat_natCast, ← h.ok.lie i hi ht] at h3
  have h4 := read10 i hi h2
  rw [h3.1, h3.2] at h4
  exact h4
theorem K10.torn (h : K10 w0 w gs s old tr) (i : Nat) (hi : i < s.n) (ht : tr i ≠ none) : Calls Try.prog 17 #[.pointer (some ⟨gs, 0, none⟩), .int .i64 (i : Int)] w fun e w' => e = .returned (.tuple #[.agg (pgA Pg.zero), .int .i64 14]) ∧ Below w.heap.size w w' := by
  obtain ⟨gp, _, h2⟩ := h.st
  have h3 : tornB (s.pl i) = true := by
    rw [h.ok.torn i hi]
    cases e : tr i with
    | none => exact absurd e ht
    | some _ => rfl
  have h5 := dec_torn (i : Int) (s.pl i) (by have := h.ok.wf.n; omega) h3
  have h4 := read10 i hi h2
  rw [h5, decP_no _ _ (by rw [h5]; omega)] at h4
  exact h4
/-- What is beneath, behind a Write. -/
def wO (s : Sc) (old : Nat → Pg) (node id : Int) (p : Pg) (mask : Int) : Nat → Pg := if s.wE node id p mask = 0 ∨ s.wE node id p mask = 9 then wOld old id.toNat p mask else old
def wT (s : Sc) (tr : Nat → Option (Pg × Bool)) (node id : Int) (p : Pg) (mask : Int) : Nat → Option (Pg × Bool) := if s.wE node id p mask = 0 ∨ s.wE node id p mask = 9 then wTr tr id.toNat p mask else tr
theorem K10.write (h : K10 w0 w gs s old tr) (node id : Int) (p : Pg) (mask : Int) :
    Calls Try.prog 15 #[.pointer (some ⟨gs, 0, none⟩), .int .i64 node, .int .i64 id, .agg (pgA p), .int .i64 mask] w fun e w' => e = .returned (.int .i64 (s.wE node id p mask)) ∧ K10 w0 w' gs (s.wS node id p mask) (wO s old node id p mask) (wT s tr node id p mask) ∧ Side10 w w' := by
  obtain ⟨gp, h1, h2⟩ := h.st
  refine (write10 node id p mask h2).mono ?_
  rintro e w' ⟨rfl, h3, h4⟩
  refine ⟨rfl, ⟨h.low, ⟨gp, h1, h3⟩, ?_, h.bel.trans (h4.below (fun k hk => by rcases hk with rfl | rfl; exact h.low; exact h1) h.bel.size)⟩, h2.side h4⟩
  unfold wO wT
  by_cases g : s.wE node id p mask = 0 ∨ s.wE node id p mask = 9
  · rw [if_pos g, if_pos g]
    exact (h.ok.write node id p mask g).1
  · rw [if_neg g, if_neg g, Sc.wS_no g]
    exact h.ok
theorem K10.mend (h : K10 w0 w gs s old tr) (node mask : Int) :
    Calls Try.prog 14 #[.pointer (some ⟨gs, 0, none⟩), .int .i64 node, .int .i64 mask] w fun e w' => e = .returned (.int .i64 (s.mE node mask)) ∧ (∃ old' tr', K10 w0 w' gs (s.mS node mask) old' tr' ∧ Came old old' tr tr') ∧ Side10 w w' := by
  obtain ⟨gp, h1, h2⟩ := h.st
  obtain ⟨old', tr', h5, h6⟩ := h.ok.mend node mask
  refine (mend10 node mask h2).mono ?_
  rintro e w' ⟨rfl, h3, h4⟩
  exact ⟨rfl, ⟨old', tr', ⟨h.low, ⟨gp, h1, h3⟩, h5, h.bel.trans (h4.below (fun k hk => by rcases hk with rfl | rfl; exact h.low; exact h1) h.bel.size)⟩, h6⟩, h2.side h4⟩
end
theorem knew10 (p : Int) (w0 w : World) (h : Below w0.heap.size w0 w) :
    Calls Try.prog 9 #[.int .i64 p] w fun e w' => ∃ gs, e = .returned (.pointer (some ⟨gs, 0, none⟩)) ∧ K10 w0 w' gs (Sc.new (npg p)) (fun _ => Pg.zero) (fun _ => none) ∧ Below w.heap.size w w' :=
  (new10 p w).mono fun e w' he => ⟨_, he.1, ⟨by have := h.size; omega, ⟨_, h.size, he.2.1⟩, Sc.new_ok _ (npg_le p).2, h.trans (he.2.2.mono h.size)⟩, he.2.2⟩

/-- A Write of a right page onto a store that nobody is writing on. -/
theorem wE_new (s : Sc) (old : Nat → Pg) (tr : Nat → Option (Pg × Bool)) (h : s.ok old tr) (nd i : Nat) (p : Pg) (mask : Int) (hn : nd < 8) (hi : i < s.n) (hm : maskOk mask) (hp : p.right) (ho : ∀ m, m < 8 → s.out m = true → m ≠ nd ∧ s.id m ≠ (i : Int)) (ht : tr i = none) (hl : (old i).l < p.l) : s.wE nd i p mask = if mask = 15 then 0 else 9 := by
  unfold Sc.wE
  rw [if_neg (fun g => g ⟨by omega, by omega, by omega, by omega, hm, hp⟩), if_neg]
  rintro (g | g | g)
  · exact (ho nd hn (by simpa using g)).1 rfl
  · obtain ⟨m, h1, h2, h3⟩ := (s.busy_iff (i : Int)).1 g
    exact (ho m h1 h2).2 h3
  · rw [Int.toNat_natCast, h.lie i hi ht, stamp_image i _ (h.rt i hi)] at g
    have g' : p.l ≤ (old i).l := g
    omega
end Go.Proofs.Ytmoagpedkgjkoaa

/-
  The contract of the statements' awake (store).
-/
namespace Go.Proofs.Ytmoagpedkgjkoaa
open Go.RowKit
set_option linter.unusedVariables false

def pg5 : Pg := ⟨5, Pg.zero.u, Pg.zero.s⟩
theorem pg5_right : pg5.right := ⟨by unfold pg5 maxP; simp only; omega, fun i _ => ⟨Nat.zero_le _, fun _ => rfl⟩⟩
theorem new_free (k : Nat) : ∀ m, m < 8 → (Sc.new k).out m = true → m ≠ 0 ∧ (Sc.new k).id m ≠ ((1 : Nat) : Int) := fun m _ h => absurd h (by show ¬ false = true; decide)
theorem wE_pg5 : (Sc.new 2).wE ((0 : Nat) : Int) ((1 : Nat) : Int) pg5 15 = 0 := by
  rw [wE_new (Sc.new 2) (fun _ => Pg.zero) (fun _ => none) (Sc.new_ok 2 (by omega)) 0 1 pg5 15 (by omega) (by show 1 < 2; omega) (by omega) pg5_right (new_free 2) rfl (by show 0 < 5; omega), if_pos rfl]

set_option maxRecDepth 4000 in
set_option maxHeartbeats 800000 in
theorem awake10 (w : World) : Calls Try.prog 8 #[] w fun e w' => e = .returned (.bool true) ∧ Below w.heap.size w w' := by
  go_enter Try.func8, Try.ntmps8
  go_wp2_with fail
  refine (knew10 2 w w (Below.refl _ _)).mono ?_
  rintro e w1 ⟨gs, rfl, h1, -⟩
  have H1 := hide (show K10 w w1 gs (Sc.new 2) (fun _ => Pg.zero) (fun _ => none) from h1)
  have HW := hide (H1.out.write ((0 : Nat) : Int) ((1 : Nat) : Int) pg5 15)
  clear h1
  go_wp2_with fail
  refine HW.out.mono ?_
  rintro e w2 ⟨rfl, h2, -⟩
  have eO : wO (Sc.new 2) (fun _ => Pg.zero) ((0 : Nat) : Int) ((1 : Nat) : Int) pg5 15 1 = pg5 := by
    unfold wO
    rw [if_pos (.inl wE_pg5)]
    unfold wOld
    rw [if_pos rfl]
    exact put1_same _ _ _
  have eT : wT (Sc.new 2) (fun _ => none) ((0 : Nat) : Int) ((1 : Nat) : Int) pg5 15 1 = none := by
    unfold wT
    rw [if_pos (.inl wE_pg5)]
    rfl
  have eN : ((Sc.new 2).wS ((0 : Nat) : Int) ((1 : Nat) : Int) pg5 15).n = 2 := Sc.wS_n _ _ _ _ _
  have hr := h2.read 1 (by rw [eN]; omega) eT
  rw [eO] at hr
  have hpg := fun x (hb : Below w2.heap.size w2 x) => (h2.later hb).pages
  rw [eN] at hpg
  have HRd := hide hr
  have HPg := hide hpg
  have HB := hide h2.bel
  rw [wE_pg5]
  clear hr hpg h2 eO eT eN HW H1
  go_wp2_with fail
  refine HRd.out.mono ?_
  rintro e w3 ⟨rfl, hb3⟩
  have H3 := hide hb3
  clear hb3
  go_wp2_with (refine wpList_store_page rfl _ _ rfl w3.heap.size Pg.zero pg5 rfl rfl (heap_alloc_new w3 _) ?_)
  intro w4 hP4 hk
  have hb4 := hk _ _ (H3.out.alloc H3.out.size _) H3.out.size
  have c0 := hP4.lsn
  have HB4 := hide hb4
  clear hP4 hk hb4 H3
  have c0 : w4.cell? ⟨w3.heap.size, 0, none⟩ = some (.int .u64 5) := c0
  go_wp2_with fail
  refine (HPg.out _ HB4.out).mono ?_
  rintro e w5 ⟨rfl, rfl⟩
  go_wp2
  go_ret
  exact ⟨rfl, HB.out.trans (HB4.out.mono HB.out.size)⟩
end Go.Proofs.Ytmoagpedkgjkoaa

/-
  A slice that came in, by its cells: what a walk is told of it. Of no program.
-/
namespace Go.Proofs.Ytmoagpedkgjkoaa
open Go.RowKit
set_option linter.unusedVariables false

/-- A slice value of so many elements, each of 'sz' cells: element i's cell k holds 'f i k'. -/
def IsRow (w : World) (a : Option Addr) (len sz : Nat) (f : Nat → Nat → Value) : Prop :=
  0 < len → ∃ b off, a = some ⟨b, off, none⟩ ∧ b < w.heap.size ∧ ∀ i k, i < len → k < sz → w.cell? ⟨b, off + (i * sz + k), none⟩ = some (f i k)

theorem IsRow.below {w w' : World} {a : Option Addr} {len sz B : Nat} {f : Nat → Nat → Value} (h : IsRow w a len sz f) (hB : w.heap.size ≤ B) (hb : Below B w w') : IsRow w' a len sz f := by
  intro hp
  obtain ⟨b, off, ha, hlt, hc⟩ := h hp
  exact ⟨b, off, ha, Nat.lt_of_lt_of_le hlt hb.size, fun i k hi hk => (hb.cell (p := ⟨b, off + (i * sz + k), none⟩) (Nat.lt_of_lt_of_le hlt hB)).trans (hc i k hi hk)⟩
end Go.Proofs.Ytmoagpedkgjkoaa

/-
  How an argument that is a slice of plain things, or a struct by value, is opened: of no program.
-/
namespace Go.Proofs.Ytmoagpedkgjkoaa
open Go.ChangeShapes Go.WideShapes Go.ChangeAt Go.RowKit Go.Deep Go.Joins
set_option linter.unusedVariables false

section
variable {H : Type} {enc : TypeId × Value → H} {P : Program} {W : World}

theorem trod_places {t : TypeId} {v : Value} {d : DataW H} {p : List MemPlace} (h : DataW.Trod enc P W 0 (fun _ => true) true t v d p) : ∀ x ∈ p, x.block < W.heap.size := by
  obtain ⟨m, hm⟩ := h
  exact DataW.trod_lt m _ _ _ hm

theorem sized_each {ts : List TypeId} {ds : List (DataW H)} {j : Nat} {t : TypeId} {d : DataW H} (h : (DataW.weightsEach P ts ds).all (· ≤ reachBytes) = true) (ht : ts[j]? = some t) (hd : ds[j]? = some d) : ∀ n ∈ d.weights P t, n ≤ reachBytes := by
  intro n hn
  have := List.all_eq_true.1 h _ (DataW.weights_mem_each ht hd n hn)
  simpa using this

/-- A slice's outer form as data. -/
def SlForm (d : DataW H) (len cap : Nat) : Prop := (d = .nil ∧ len = 0 ∧ cap = 0) ∨ ∃ es sp, d = .slice es sp ∧ es.length = len ∧ es.length + sp.length = cap

theorem SlForm.sized {d : DataW H} {len cap : Nat} {t e : TypeId} (h : SlForm d len cap) (ht : P.underlying t = some (.slice e)) (hb : 1 ≤ P.bytesOf e) (hs : ∀ n ∈ d.weights P t, n ≤ reachBytes) : len ≤ 140737488351232 := by
  rcases h with ⟨_, rfl, _⟩ | ⟨es, sp, rfl, h1, h2⟩
  · omega
  · have h3 := hs ((es.length + sp.length) * P.bytesOf e) (by simp [DataW.weights, ht])
    have h4 : (es.length + sp.length) * 1 ≤ (es.length + sp.length) * P.bytesOf e := Nat.mul_le_mul_left _ hb
    have h5 : reachBytes = 140737488351232 := rfl
    omega

/-- A slice opened: each element's cells by a way to read an element. -/
theorem open_rows {α : Type} [Inhabited α] {t e : TypeId} {sz : Nat} {v : Value} {d : DataW H} {p : List MemPlace} {r : Reach} {b0 : Nat} (F : α → Nat → Value) (G : α → Prop)
    (hel : ∀ n cs y, DataW.trod enc P W 0 (fun _ => true) true n e cs = some y → ∃ x, G x ∧ ∀ k, k < sz → cs[k]? = some (F x k))
    (ht : P.underlying t = some (.slice e)) (hsz : P.cellsOf e = sz) (hpos : 0 < sz) (hv : Value.okWide P W r b0 t v) (h : DataW.Trod enc P W 0 (fun _ => true) true t v d p) :
    ∃ (a : Option Addr) (len cap : Nat) (f : Nat → α), v = .slice a len cap ∧ SlForm d len cap ∧ len ≤ cap ∧ (a = none → cap = 0) ∧ (∀ i, i < cap → G (f i)) ∧ IsRow W a len sz (fun i k => F (f i) k) := by
  obtain ⟨a, len, cap, rfl⟩ := okWide_slice ht hv
  obtain ⟨fuel, hf⟩ := h
  rcases open_slice ht hf with ⟨hcs, hx⟩ | ⟨x, l, c, m, n, D, Pl, hcs, _, hl, hm, hmm, hx, hall⟩
  · simp [Value.cells] at hcs
    obtain ⟨rfl, rfl, rfl⟩ := hcs
    simp only [Prod.mk.injEq] at hx
    exact ⟨none, 0, 0, fun _ => default, rfl, .inl ⟨hx.1, rfl, rfl⟩, Nat.le_refl _, fun _ => rfl, fun i hi => absurd hi (by omega), fun h => absurd h (by omega)⟩
  · simp [Value.cells] at hcs
    obtain ⟨rfl, rfl, rfl⟩ := hcs
    simp only [if_true] at hmm
    subst hmm
    simp only [Prod.mk.injEq] at hx
    obtain ⟨f, hf2⟩ := choose_lt (α := α) (p := fun i y => G y ∧ ∀ k, k < sz → W.cell? (x.add (i * sz + k)) = some (F y k)) (fun i hi => by
      obtain ⟨cs', h1, h2⟩ := hall i hi
      obtain ⟨y, hG, hF⟩ := hel _ _ _ h2
      rw [hsz] at h1
      obtain ⟨_, _, h3⟩ := World.cells?_some h1
      refine ⟨y, hG, fun k hk => ?_⟩
      have h4 := h3 k hk
      rw [hF k hk] at h4
      rw [← h4, Addr.add_add])
    refine ⟨some x, len, m, f, rfl, .inr ⟨_, _, hx.1, by simp, by simp; omega⟩, hl, (fun h => nomatch h), fun i hi => (hf2 i hi).1, fun hp => ?_⟩
    have hc0 := (hf2 0 (by omega)).2 0 hpos
    obtain ⟨b, off, spot⟩ := x
    have hspot : spot = none := by simpa [Addr.add] using World.cell?_spot hc0
    subst hspot
    refine ⟨b, off, rfl, ?_, fun i k hi hk => ?_⟩
    · have := World.block_lt_of_cell? W _ hc0
      simpa [Addr.add] using this
    · have := (hf2 i (by omega)).2 k hk
      rw [Addr.add_lit] at this
      exact this

/-- .. with a property of all places, also of those behind its end. -/
theorem open_rows_all {α : Type} [Inhabited α] {t e : TypeId} {sz : Nat} {v : Value} {d : DataW H} {p : List MemPlace} {r : Reach} {b0 : Nat} (F : α → Nat → Value) (G : α → Prop) (hd : G default)
    (hel : ∀ n cs y, DataW.trod enc P W 0 (fun _ => true) true n e cs = some y → ∃ x, G x ∧ ∀ k, k < sz → cs[k]? = some (F x k))
    (ht : P.underlying t = some (.slice e)) (hsz : P.cellsOf e = sz) (hpos : 0 < sz) (hv : Value.okWide P W r b0 t v) (h : DataW.Trod enc P W 0 (fun _ => true) true t v d p) :
    ∃ (a : Option Addr) (len cap : Nat) (f : Nat → α), v = .slice a len cap ∧ SlForm d len cap ∧ len ≤ cap ∧ (a = none → cap = 0) ∧ (∀ i, G (f i)) ∧ IsRow W a len sz (fun i k => F (f i) k) := by
  obtain ⟨a, len, cap, f, h1, h2, h3, h4, h5, h6⟩ := open_rows F G hel ht hsz hpos hv h
  refine ⟨a, len, cap, fun i => if i < cap then f i else default, h1, h2, h3, h4, fun i => ?_, fun hp => ?_⟩
  · by_cases hi : i < cap
    · simp only [if_pos hi]
      exact h5 i hi
    · simp only [if_neg hi]
      exact hd
  · obtain ⟨b, off, ha, hb, hc⟩ := h6 hp
    refine ⟨b, off, ha, hb, fun i k hi hk => ?_⟩
    have hi2 : i < cap := by omega
    rw [hc i k hi hk]
    simp only [if_pos hi2]

theorem elem_bool {e : TypeId} (he : P.underlying e = some .bool) (n : Nat) (cs : List Value) (y : DataW H × List MemPlace) (h : DataW.trod enc P W 0 (fun _ => true) true n e cs = some y) : ∃ x : Bool, True ∧ ∀ k, k < 1 → cs[k]? = some (Value.bool x) := by
  obtain ⟨b, rfl, _⟩ := DataW.trod_bool he h
  refine ⟨b, trivial, fun k hk => ?_⟩
  obtain rfl : k = 0 := by omega
  rfl

theorem elem_int {e : TypeId} {q : IntKind} (he : P.underlying e = some (.int q)) (n : Nat) (cs : List Value) (y : DataW H × List MemPlace) (h : DataW.trod enc P W 0 (fun _ => true) true n e cs = some y) : ∃ x : Int, (Lit.int q x).wf = true ∧ ∀ k, k < 1 → cs[k]? = some (Value.int q x) := by
  obtain ⟨b, rfl, _, hw⟩ := DataW.trod_int he h
  refine ⟨b, hw, fun k hk => ?_⟩
  obtain rfl : k = 0 := by omega
  rfl
end
end Go.Proofs.Ytmoagpedkgjkoaa

/-
  A page that comes in by value, opened.
-/
namespace Go.Proofs.Ytmoagpedkgjkoaa
open Go.ChangeShapes Go.WideShapes Go.ChangeAt Go.RowKit Go.Deep Go.Joins
set_option linter.unusedVariables false

section
variable {H : Type} {enc : TypeId × Value → H} {W : World}

set_option maxRecDepth 40000 in
theorem cell_open (n : Nat) (c0 c1 : Value) (y : Option (DataW H × List MemPlace)) (hy : y.isSome = true) (h : DataW.trod enc Try.prog W 0 (fun _ => true) true n 32 [c0, c1] = y) : ∃ (u : Bool) (s : ByteArray), c0 = .bool u ∧ c1 = .string s ∧ s.size ≤ maxLen := by
  obtain ⟨y, rfl⟩ := Option.isSome_iff_exists.1 hy
  obtain ⟨y0, y1, m, _, _, h0, h1⟩ := trod_struct2 Try.underlying32 h
  have e0 : Try.prog.cellsOf 4 = 1 := by kernel_rfl
  have e1 : Try.prog.cellsOf 9 = 1 := by kernel_rfl
  simp only [e0, e1, List.drop_zero, List.drop_succ_cons, List.take_succ_cons, List.take_zero] at h0 h1
  obtain ⟨b, hb, _⟩ := DataW.trod_bool Try.underlying4 h0
  obtain ⟨s, hs, _, hz⟩ := DataW.trod_string Try.underlying9 h1
  simp only [List.cons.injEq, and_true] at hb hs
  exact ⟨b, s, hb, hs, hz⟩

set_option maxRecDepth 40000 in
/-- The page of given cells. -/
def mkPg (l : Nat) (u0 u1 u2 u3 u4 u5 u6 u7 : Bool) (s0 s1 s2 s3 s4 s5 s6 s7 : ByteArray) : Pg :=
  ⟨l, fun i => match i with | 0 => u0 | 1 => u1 | 2 => u2 | 3 => u3 | 4 => u4 | 5 => u5 | 6 => u6 | _ => u7, fun i => match i with | 0 => s0 | 1 => s1 | 2 => s2 | 3 => s3 | 4 => s4 | 5 => s5 | 6 => s6 | _ => s7⟩

set_option maxRecDepth 40000 in
theorem op_page {v : Value} {d : DataW H} {p : List MemPlace} {r : Reach} {b0 : Nat} (hv : Value.okWide Try.prog W r b0 35 v) (h : DataW.Trod enc Try.prog W 0 (fun _ => true) true 35 v d p) :
    ∃ q : Pg, v = .agg (pgA q) ∧ q.fits := by
  obtain ⟨cs, rfl, hsz⟩ := okWide_struct Try.underlying35 hv
  have hC : Try.prog.cellsOf 35 = 17 := by kernel_rfl
  rw [hC] at hsz
  obtain ⟨fuel, hf⟩ := h
  obtain ⟨l⟩ := cs
  have hl : l.length = 17 := hsz
  match l, hl with
  | [c0, c1, c2, c3, c4, c5, c6, c7, c8, c9, c10, c11, c12, c13, c14, c15, c16], _ =>
    have ec : (Value.agg ⟨[c0, c1, c2, c3, c4, c5, c6, c7, c8, c9, c10, c11, c12, c13, c14, c15, c16]⟩).cells.toList = [c0, c1, c2, c3, c4, c5, c6, c7, c8, c9, c10, c11, c12, c13, c14, c15, c16] := rfl
    obtain ⟨y0, y1, m, _, _, h0, h1⟩ := trod_struct2 Try.underlying35 hf
    have e0 : Try.prog.cellsOf 30 = 1 := by kernel_rfl
    have e1 : Try.prog.cellsOf 33 = 16 := by kernel_rfl
    have e2 : Try.prog.cellsOf 32 = 2 := by kernel_rfl
    simp only [ec, e0, e1, List.drop_zero, List.drop_succ_cons, List.take_succ_cons, List.take_zero] at h0 h1
    obtain ⟨j, hj, _, hw⟩ := DataW.trod_int Try.underlying30 h0
    obtain ⟨xs, m2, _, _, _, hx, hall⟩ := DataW.trod_array Try.underlying33 h1
    simp only [e2] at hall
    have ho : ∀ i, i < 8 → (xs[i]?).isSome = true := fun i hi => by rw [List.getElem?_eq_getElem (by omega)]; rfl
    have a0 := hall 0 (by omega)
    have a1 := hall 1 (by omega)
    have a2 := hall 2 (by omega)
    have a3 := hall 3 (by omega)
    have a4 := hall 4 (by omega)
    have a5 := hall 5 (by omega)
    have a6 := hall 6 (by omega)
    have a7 := hall 7 (by omega)
    simp only [List.drop_zero, List.drop_succ_cons, List.take_succ_cons, List.take_zero, Nat.zero_mul, Nat.one_mul, Nat.reduceMul] at a0 a1 a2 a3 a4 a5 a6 a7
    obtain ⟨u0, s0, rfl, rfl, z0⟩ := cell_open _ _ _ _ (ho 0 (by omega)) a0
    obtain ⟨u1, s1, rfl, rfl, z1⟩ := cell_open _ _ _ _ (ho 1 (by omega)) a1
    obtain ⟨u2, s2, rfl, rfl, z2⟩ := cell_open _ _ _ _ (ho 2 (by omega)) a2
    obtain ⟨u3, s3, rfl, rfl, z3⟩ := cell_open _ _ _ _ (ho 3 (by omega)) a3
    obtain ⟨u4, s4, rfl, rfl, z4⟩ := cell_open _ _ _ _ (ho 4 (by omega)) a4
    obtain ⟨u5, s5, rfl, rfl, z5⟩ := cell_open _ _ _ _ (ho 5 (by omega)) a5
    obtain ⟨u6, s6, rfl, rfl, z6⟩ := cell_open _ _ _ _ (ho 6 (by omega)) a6
    obtain ⟨u7, s7, rfl, rfl, z7⟩ := cell_open _ _ _ _ (ho 7 (by omega)) a7
    simp only [List.cons.injEq, and_true] at hj
    subst hj
    have hb := bounds_u64 hw
    have hn : ((j.toNat : Nat) : Int) = j := Int.toNat_of_nonneg hb.1
    refine ⟨mkPg j.toNat u0 u1 u2 u3 u4 u5 u6 u7 s0 s1 s2 s3 s4 s5 s6 s7, ?_, ?_, fun i hi => ?_⟩
    · unfold pgA mkPg
      simp only [hn]
    · show j.toNat < _
      omega
    · rcases lt8 hi with rfl | rfl | rfl | rfl | rfl | rfl | rfl | rfl <;> assumption
end
end Go.Proofs.Ytmoagpedkgjkoaa

/-
  A list of structs that lies in memory. Of no program.
-/
namespace Go.Proofs.Ytmoagpedkgjkoaa
open Go.RowKit
set_option linter.unusedVariables false

/-- A list of structs that lies there. -/
def RowsIn {α : Type} (f : α → Array Value) (z : α) (n : Nat) (w : World) (v : Value) (xs : List α) : Prop :=
  ∃ a cap, v = .slice a xs.length cap ∧ (0 < xs.length → ∃ b off, a = some ⟨b, off, none⟩ ∧ b < w.heap.size ∧ ∀ i, i < xs.length → w.rangeAt b (off + i * n) (f (xs.getD i z)).toList)
theorem rangeAt_below {w w' : World} {b o B : Nat} {cs : List Value} (h : w.rangeAt b o cs) (hb : Below B w w') (hB : b < B) : w'.rangeAt b o cs := fun j v hv => by
  rw [hb.cell (p := ⟨b, o + j, none⟩) hB]
  exact h j v hv
theorem RowsIn.below {α : Type} {f : α → Array Value} {z : α} {n : Nat} {w w' : World} {v : Value} {xs : List α} (h : RowsIn f z n w v xs) (hb : Below w.heap.size w w') : RowsIn f z n w' v xs := by
  obtain ⟨a, cap, h1, h2⟩ := h
  refine ⟨a, cap, h1, fun hp => ?_⟩
  obtain ⟨b, off, h3, h4, h5⟩ := h2 hp
  exact ⟨b, off, h3, Nat.lt_of_lt_of_le h4 hb.size, fun i hi => rangeAt_below (h5 i hi) hb h4⟩
end Go.Proofs.Ytmoagpedkgjkoaa

/-
  A list of structs that comes in as an argument, opened. Of no program.
-/
namespace Go.Proofs.Ytmoagpedkgjkoaa
open Go.ChangeShapes Go.WideShapes Go.ChangeAt Go.RowKit Go.Deep Go.Joins
set_option linter.unusedVariables false

theorem u64_nat {i : Int} (h : (Lit.int .u64 i).wf = true) : ∃ n : Nat, i = (n : Int) := by
  have := (bounds_u64 h).1
  exact ⟨i.toNat, by omega⟩

section
variable {H : Type} {enc : TypeId × Value → H} {W : World}

theorem trod_st3 {P : Program} {t : TypeId} {f0 f1 f2 : Field} {fuel : Nat} {cs : List Value} {x : DataW H × List MemPlace} (ht : P.underlying t = some (.struct #[f0, f1, f2])) (h : DataW.trod enc P W 0 (fun _ => true) true fuel t cs = some x) :
    ∃ y0 y1 y2 n, cs.length = P.cellsOf t ∧ DataW.trod enc P W 0 (fun _ => true) true n f0.type ((cs.drop f0.offset).take (P.cellsOf f0.type)) = some y0 ∧ DataW.trod enc P W 0 (fun _ => true) true n f1.type ((cs.drop f1.offset).take (P.cellsOf f1.type)) = some y1 ∧ DataW.trod enc P W 0 (fun _ => true) true n f2.type ((cs.drop f2.offset).take (P.cellsOf f2.type)) = some y2 := by
  obtain ⟨xs, n, _, rfl, hl, hlen, hf⟩ := DataW.trod_struct ht h
  match xs, hlen with
  | [y0, y1, y2], _ => exact ⟨y0, y1, y2, n, hl, by simpa using hf 0 f0 rfl, by simpa using hf 1 f1 rfl, by simpa using hf 2 f2 rfl⟩

theorem trod_st2 {P : Program} {t : TypeId} {f0 f1 : Field} {fuel : Nat} {cs : List Value} {x : DataW H × List MemPlace} (ht : P.underlying t = some (.struct #[f0, f1])) (h : DataW.trod enc P W 0 (fun _ => true) true fuel t cs = some x) :
    ∃ y0 y1 n, cs.length = P.cellsOf t ∧ DataW.trod enc P W 0 (fun _ => true) true n f0.type ((cs.drop f0.offset).take (P.cellsOf f0.type)) = some y0 ∧ DataW.trod enc P W 0 (fun _ => true) true n f1.type ((cs.drop f1.offset).take (P.cellsOf f1.type)) = some y1 := by
  obtain ⟨xs, n, _, rfl, hl, hlen, hf⟩ := DataW.trod_struct ht h
  match xs, hlen with
  | [y0, y1], _ => exact ⟨y0, y1, n, hl, by simpa using hf 0 f0 rfl, by simpa using hf 1 f1 rfl⟩

theorem trod_st5 {P : Program} {t : TypeId} {f0 f1 f2 f3 f4 : Field} {fuel : Nat} {cs : List Value} {x : DataW H × List MemPlace} (ht : P.underlying t = some (.struct #[f0, f1, f2, f3, f4])) (h : DataW.trod enc P W 0 (fun _ => true) true fuel t cs = some x) :
    ∃ y0 y1 y2 y3 y4 n, cs.length = P.cellsOf t ∧ DataW.trod enc P W 0 (fun _ => true) true n f0.type ((cs.drop f0.offset).take (P.cellsOf f0.type)) = some y0 ∧ DataW.trod enc P W 0 (fun _ => true) true n f1.type ((cs.drop f1.offset).take (P.cellsOf f1.type)) = some y1 ∧ DataW.trod enc P W 0 (fun _ => true) true n f2.type ((cs.drop f2.offset).take (P.cellsOf f2.type)) = some y2 ∧ DataW.trod enc P W 0 (fun _ => true) true n f3.type ((cs.drop f3.offset).take (P.cellsOf f3.type)) = some y3 ∧ DataW.trod enc P W 0 (fun _ => true) true n f4.type ((cs.drop f4.offset).take (P.cellsOf f4.type)) = some y4 := by
  obtain ⟨xs, n, _, rfl, hl, hlen, hf⟩ := DataW.trod_struct ht h
  match xs, hlen with
  | [y0, y1, y2, y3, y4], _ => exact ⟨y0, y1, y2, y3, y4, n, hl, by simpa using hf 0 f0 rfl, by simpa using hf 1 f1 rfl, by simpa using hf 2 f2 rfl, by simpa using hf 3 f3 rfl, by simpa using hf 4 f4 rfl⟩

theorem trod_st10 {P : Program} {t : TypeId} {f0 f1 f2 f3 f4 f5 f6 f7 f8 f9 : Field} {fuel : Nat} {cs : List Value} {x : DataW H × List MemPlace} (ht : P.underlying t = some (.struct #[f0, f1, f2, f3, f4, f5, f6, f7, f8, f9])) (h : DataW.trod enc P W 0 (fun _ => true) true fuel t cs = some x) :
    ∃ y0 y1 y2 y3 y4 y5 y6 y7 y8 y9 n, cs.length = P.cellsOf t ∧ DataW.trod enc P W 0 (fun _ => true) true n f0.type ((cs.drop f0.offset).take (P.cellsOf f0.type)) = some y0 ∧ DataW.trod enc P W 0 (fun _ => true) true n f1.type ((cs.drop f1.offset).take (P.cellsOf f1.type)) = some y1 ∧ DataW.trod enc P W 0 (fun _ => true) true n f2.type ((cs.drop f2.offset).take (P.cellsOf f2.type)) = some y2 ∧ DataW.trod enc P W 0 (fun _ => true) true n f3.type ((cs.drop f3.offset).take (P.cellsOf f3.type)) = some y3 ∧ DataW.trod enc P W 0 (fun _ => true) true n f4.type ((cs.drop f4.offset).take (P.cellsOf f4.type)) = some y4 ∧ DataW.trod enc P W 0 (fun _ => true) true n f5.type ((cs.drop f5.offset).take (P.cellsOf f5.type)) = some y5 ∧ DataW.trod enc P W 0 (fun _ => true) true n f6.type ((cs.drop f6.offset).take (P.cellsOf f6.type)) = some y6 ∧ DataW.trod enc P W 0 (fun _ => true) true n f7.type ((cs.drop f7.offset).take (P.cellsOf f7.type)) = some y7 ∧ DataW.trod enc P W 0 (fun _ => true) true n f8.type ((cs.drop f8.offset).take (P.cellsOf f8.type)) = some y8 ∧ DataW.trod enc P W 0 (fun _ => true) true n f9.type ((cs.drop f9.offset).take (P.cellsOf f9.type)) = some y9 := by
  obtain ⟨xs, n, _, rfl, hl, hlen, hf⟩ := DataW.trod_struct ht h
  match xs, hlen with
  | [y0, y1, y2, y3, y4, y5, y6, y7, y8, y9], _ => exact ⟨y0, y1, y2, y3, y4, y5, y6, y7, y8, y9, n, hl, by simpa using hf 0 f0 rfl, by simpa using hf 1 f1 rfl, by simpa using hf 2 f2 rfl, by simpa using hf 3 f3 rfl, by simpa using hf 4 f4 rfl, by simpa using hf 5 f5 rfl, by simpa using hf 6 f6 rfl, by simpa using hf 7 f7 rfl, by simpa using hf 8 f8 rfl, by simpa using hf 9 f9 rfl⟩

theorem op_rows {α : Type} (f : α → Array Value) (z : α) (G : α → Prop) {P : Program} {t e : TypeId} {sz fuel : Nat} {c : Value} {x : DataW H × List MemPlace} (hel : ∀ n cs y, DataW.trod enc P W 0 (fun _ => true) true n e cs = some y → ∃ x, cs = (f x).toList ∧ G x)
    (ht : P.underlying t = some (.slice e)) (hsz : P.cellsOf e = sz) (hfz : ∀ x, (f x).size = sz) (hpos : 0 < sz) (h : DataW.trod enc P W 0 (fun _ => true) true fuel t [c] = some x) : ∃ xs, RowsIn f z sz W c xs ∧ xs.length ≤ maxLen ∧ ∀ x ∈ xs, G x := by
  rcases open_slice ht h with ⟨hcs, _⟩ | ⟨a, len, cap, m, n, D, Pl, hcs, _, hl, hm, hmm, _, hall⟩
  · simp only [List.cons.injEq, and_true] at hcs
    exact ⟨[], ⟨none, 0, hcs, fun h => absurd h (by simp)⟩, Nat.zero_le _, fun x hx => nomatch hx⟩
  · simp only [List.cons.injEq, and_true] at hcs
    subst hcs
    simp only [if_true] at hmm
    subst hmm
    have : Nonempty α := ⟨z⟩
    obtain ⟨g, hg⟩ := @choose_lt α ⟨z⟩ m (fun i y => G y ∧ ∀ k, k < sz → W.cell? (a.add (i * sz + k)) = (f y).toList[k]?) (fun i hi => by
      obtain ⟨cs', h1, h2⟩ := hall i hi
      obtain ⟨y, rfl, hG⟩ := hel _ _ _ h2
      rw [hsz] at h1
      obtain ⟨_, _, h3⟩ := World.cells?_some h1
      refine ⟨y, hG, fun k hk => ?_⟩
      rw [← h3 k hk, Addr.add_add])
    have hL : ((List.range len).map g).length = len := by simp
    refine ⟨(List.range len).map g, ⟨some a, m, by rw [hL], fun hp => ?_⟩, by rw [hL]; omega, fun x hx => by
      obtain ⟨i, hi, rfl⟩ := List.mem_map.1 hx
      exact (hg i (by have := List.mem_range.1 hi; omega)).1⟩
    rw [hL] at hp
    have hf0 : ∀ y k, k < sz → ∃ v, (f y).toList[k]? = some v := fun y k hk => ⟨_, List.getElem?_eq_getElem (by rw [Array.length_toList, hfz]; exact hk)⟩
    have hc0 := (hg 0 (by omega)).2 0 hpos
    obtain ⟨v0, hv0⟩ := hf0 (g 0) 0 hpos
    rw [hv0] at hc0
    obtain ⟨b, off, spot⟩ := a
    have hspot : spot = none := by simpa [Addr.add] using World.cell?_spot hc0
    subst hspot
    refine ⟨b, off, rfl, ?_, fun i hi j v hv => ?_⟩
    · have := World.block_lt_of_cell? W _ hc0
      simpa [Addr.add] using this
    · rw [hL] at hi
      have hget : ((List.range len).map g).getD i z = g i := by
        rw [List.getD_eq_getElem?_getD, List.getElem?_map, List.getElem?_range hi]
        rfl
      rw [hget] at hv
      have hj : j < sz := by
        have := (List.getElem?_eq_some_iff.1 hv).1
        rw [Array.length_toList, hfz] at this
        exact this
      have := (hg i (by omega)).2 j hj
      rw [Addr.add_lit, hv] at this
      rw [← this, Nat.add_assoc]

/-- A slice's length is within its capacity. -/
theorem op_cap {P : Program} {t e : TypeId} {c : Value} {fuel : Nat} {x : DataW H × List MemPlace} (ht : P.underlying t = some (.slice e)) (h : DataW.trod enc P W 0 (fun _ => true) true fuel t [c] = some x) {a : Option Addr} {len cap : Nat} (hc : c = .slice a len cap) : len ≤ cap ∧ (a = none → cap = 0) := by
  rcases open_slice ht h with ⟨hcs, _⟩ | ⟨a', len', cap', m, n, D, Pl, hcs, _, hl, hm, hmm, _, hall⟩
  · simp only [List.cons.injEq, and_true] at hcs
    rw [hc] at hcs
    injection hcs with h1 h2 h3
    subst h1 h2 h3
    exact ⟨Nat.le_refl _, fun _ => rfl⟩
  · simp only [List.cons.injEq, and_true] at hcs
    rw [hc] at hcs
    injection hcs with h1 h2 h3
    subst h1 h2 h3
    simp only [if_true] at hmm
    exact ⟨by omega, fun h => (nomatch h)⟩
end
end Go.Proofs.Ytmoagpedkgjkoaa

/-
  The calls of a script of a store, in lists that come in, opened.
-/
namespace Go.Proofs.Ytmoagpedkgjkoaa
open Go.ChangeShapes Go.WideShapes Go.ChangeAt Go.RowKit Go.Deep Go.Joins
set_option linter.unusedVariables false

set_option maxRecDepth 40000 in
/-- A call of a script. -/
structure Oc where
  k : Int
  n : Int
  i : Int
  m : Int
  p : Pg
set_option maxRecDepth 40000 in
def ocA (c : Oc) : Array Value := #[.int .i64 c.k, .int .i64 c.n, .int .i64 c.i, .int .i64 c.m, .int .u64 c.p.l, .bool (c.p.u 0), .string (c.p.s 0), .bool (c.p.u 1), .string (c.p.s 1), .bool (c.p.u 2), .string (c.p.s 2), .bool (c.p.u 3), .string (c.p.s 3), .bool (c.p.u 4), .string (c.p.s 4), .bool (c.p.u 5), .string (c.p.s 5), .bool (c.p.u 6), .string (c.p.s 6), .bool (c.p.u 7), .string (c.p.s 7)]
set_option maxRecDepth 40000 in
def Oc.zero : Oc := ⟨0, 0, 0, 0, Pg.zero⟩
set_option maxRecDepth 40000 in
def Oc.fits (c : Oc) : Prop := (Lit.int .i64 c.k).wf = true ∧ (Lit.int .i64 c.n).wf = true ∧ (Lit.int .i64 c.i).wf = true ∧ (Lit.int .i64 c.m).wf = true ∧ c.p.fits
section
variable {H : Type} {enc : TypeId × Value → H} {W : World}

set_option maxRecDepth 40000 in
theorem elem_page (n : Nat) (l : List Value) (y : DataW H × List MemPlace) (hl : l.length = 17) (hf : DataW.trod enc Try.prog W 0 (fun _ => true) true n 35 l = some y) : ∃ q : Pg, l = (pgA q).toList ∧ q.fits := by
  match l, hl with
  | [c0, c1, c2, c3, c4, c5, c6, c7, c8, c9, c10, c11, c12, c13, c14, c15, c16], _ =>
    obtain ⟨y0, y1, m, _, _, h0, h1⟩ := trod_struct2 Try.underlying35 hf
    have e0 : Try.prog.cellsOf 30 = 1 := by kernel_rfl
    have e1 : Try.prog.cellsOf 33 = 16 := by kernel_rfl
    have e2 : Try.prog.cellsOf 32 = 2 := by kernel_rfl
    simp only [e0, e1, List.drop_zero, List.drop_succ_cons, List.take_succ_cons, List.take_zero] at h0 h1
    obtain ⟨j, hj, _, hw⟩ := DataW.trod_int Try.underlying30 h0
    obtain ⟨xs, m2, _, _, _, hx, hall⟩ := DataW.trod_array Try.underlying33 h1
    simp only [e2] at hall
    have ho : ∀ i, i < 8 → (xs[i]?).isSome = true := fun i hi => by rw [List.getElem?_eq_getElem (by omega)]; rfl
    have a0 := hall 0 (by omega)
    have a1 := hall 1 (by omega)
    have a2 := hall 2 (by omega)
    have a3 := hall 3 (by omega)
    have a4 := hall 4 (by omega)
    have a5 := hall 5 (by omega)
    have a6 := hall 6 (by omega)
    have a7 := hall 7 (by omega)
    simp only [List.drop_zero, List.drop_succ_cons, List.take_succ_cons, List.take_zero, Nat.zero_mul, Nat.one_mul, Nat.reduceMul] at a0 a1 a2 a3 a4 a5 a6 a7
    obtain ⟨u0, s0, rfl, rfl, z0⟩ := cell_open _ _ _ _ (ho 0 (by omega)) a0
    obtain ⟨u1, s1, rfl, rfl, z1⟩ := cell_open _ _ _ _ (ho 1 (by omega)) a1
    obtain ⟨u2, s2, rfl, rfl, z2⟩ := cell_open _ _ _ _ (ho 2 (by omega)) a2
    obtain ⟨u3, s3, rfl, rfl, z3⟩ := cell_open _ _ _ _ (ho 3 (by omega)) a3
    obtain ⟨u4, s4, rfl, rfl, z4⟩ := cell_open _ _ _ _ (ho 4 (by omega)) a4
    obtain ⟨u5, s5, rfl, rfl, z5⟩ := cell_open _ _ _ _ (ho 5 (by omega)) a5
    obtain ⟨u6, s6, rfl, rfl, z6⟩ := cell_open _ _ _ _ (ho 6 (by omega)) a6
    obtain ⟨u7, s7, rfl, rfl, z7⟩ := cell_open _ _ _ _ (ho 7 (by omega)) a7
    simp only [List.cons.injEq, and_true] at hj
    subst hj
    have hb := bounds_u64 hw
    have hn : ((j.toNat : Nat) : Int) = j := Int.toNat_of_nonneg hb.1
    refine ⟨mkPg j.toNat u0 u1 u2 u3 u4 u5 u6 u7 s0 s1 s2 s3 s4 s5 s6 s7, ?_, ?_, fun i hi => ?_⟩
    · unfold pgA mkPg
      simp only [hn]
    · show j.toNat < _
      omega
    · rcases lt8 hi with rfl | rfl | rfl | rfl | rfl | rfl | rfl | rfl <;> assumption
set_option maxRecDepth 40000 in
theorem elem_oc (n : Nat) (cs : List Value) (y : DataW H × List MemPlace) (h : DataW.trod enc Try.prog W 0 (fun _ => true) true n 37 cs = some y) : ∃ c : Oc, cs = (ocA c).toList ∧ c.fits := by
  obtain ⟨y0, y1, y2, y3, y4, m, hl, h0, h1, h2, h3, h4⟩ := trod_st5 Try.underlying37 h
  have hC : Try.prog.cellsOf 37 = 21 := by kernel_rfl
  rw [hC] at hl
  match cs, hl with
  | [b0, b1, b2, b3, c0, c1, c2, c3, c4, c5, c6, c7, c8, c9, c10, c11, c12, c13, c14, c15, c16], _ =>
    have e0 : Try.prog.cellsOf 3 = 1 := by kernel_rfl
    have e2 : Try.prog.cellsOf 35 = 17 := by kernel_rfl
    simp only [e0, e2, List.drop_zero, List.drop_succ_cons, List.take_succ_cons, List.take_zero] at h0 h1 h2 h3 h4
    obtain ⟨i0, g0, _, w0⟩ := DataW.trod_int Try.underlying3 h0
    obtain ⟨i1, g1, _, w1⟩ := DataW.trod_int Try.underlying3 h1
    obtain ⟨i2, g2, _, w2⟩ := DataW.trod_int Try.underlying3 h2
    obtain ⟨i3, g3, _, w3⟩ := DataW.trod_int Try.underlying3 h3
    obtain ⟨q, g4, w4⟩ := elem_page _ _ _ rfl h4
    simp only [pgA, List.cons.injEq, and_true] at g0 g1 g2 g3 g4
    obtain ⟨a0, a1, a2, a3, a4, a5, a6, a7, a8, a9, a10, a11, a12, a13, a14, a15, a16⟩ := g4
    subst g0 g1 g2 g3 a0 a1 a2 a3 a4 a5 a6 a7 a8 a9 a10 a11 a12 a13 a14 a15 a16
    exact ⟨⟨i0, i1, i2, i3, q⟩, rfl, w0, w1, w2, w3, w4⟩
set_option maxRecDepth 40000 in
/-- A script. -/
theorem op_ocs {v : Value} {d : DataW H} {p : List MemPlace} {r : Reach} {b0 : Nat} (hv : Value.okWide Try.prog W r b0 22 v) (h : DataW.Trod enc Try.prog W 0 (fun _ => true) true 22 v d p) :
    ∃ cs : List Oc, RowsIn ocA Oc.zero 21 W v cs ∧ cs.length ≤ maxLen ∧ (∀ c ∈ cs, c.fits) ∧ ∀ a len cap, v = .slice a len cap → len ≤ cap := by
  obtain ⟨fuel, hf⟩ := h
  obtain ⟨a, len, cap, rfl⟩ := okWide_slice Try.underlying22 hv
  have hf2 : DataW.trod enc Try.prog W 0 (fun _ => true) true fuel 22 [.slice a len cap] = some (d, p) := hf
  obtain ⟨cs, h1, h2, h3⟩ := op_rows (sz := 21) ocA Oc.zero (fun c => c.fits) elem_oc Try.underlying22 (by kernel_rfl) (fun _ => rfl) (by decide) hf2
  exact ⟨cs, h1, h2, h3, fun a' l' c' e => (op_cap Try.underlying22 hf2 e).1⟩
set_option maxRecDepth 40000 in
/-- One call by value. -/
theorem op_oc {v : Value} {d : DataW H} {p : List MemPlace} {r : Reach} {b0 : Nat} (hv : Value.okWide Try.prog W r b0 37 v) (h : DataW.Trod enc Try.prog W 0 (fun _ => true) true 37 v d p) :
    ∃ c : Oc, v = .agg (ocA c) ∧ c.fits := by
  obtain ⟨cs, rfl, hsz⟩ := okWide_struct Try.underlying37 hv
  obtain ⟨fuel, hf⟩ := h
  obtain ⟨l⟩ := cs
  obtain ⟨c, hc, hft⟩ := elem_oc _ _ _ hf
  have hc2 : l = (ocA c).toList := hc
  subst hc2
  exact ⟨c, rfl, hft⟩
set_option maxRecDepth 40000 in
def i64A (x : Int) : Array Value := #[.int .i64 x]
set_option maxRecDepth 40000 in
theorem elem_i64 (n : Nat) (cs : List Value) (y : DataW H × List MemPlace) (h : DataW.trod enc Try.prog W 0 (fun _ => true) true n 3 cs = some y) : ∃ c : Int, cs = (i64A c).toList ∧ (Lit.int .i64 c).wf = true := by
  obtain ⟨i0, g0, _, w0⟩ := DataW.trod_int Try.underlying3 h
  exact ⟨i0, g0, w0⟩
set_option maxRecDepth 40000 in
/-- A list of numbers. -/
theorem op_ints {v : Value} {d : DataW H} {p : List MemPlace} {r : Reach} {b0 : Nat} (hv : Value.okWide Try.prog W r b0 48 v) (h : DataW.Trod enc Try.prog W 0 (fun _ => true) true 48 v d p) :
    ∃ cs : List Int, RowsIn i64A 0 1 W v cs ∧ cs.length ≤ maxLen ∧ (∀ c ∈ cs, (Lit.int .i64 c).wf = true) ∧ ∀ a len cap, v = .slice a len cap → len ≤ cap := by
  obtain ⟨fuel, hf⟩ := h
  obtain ⟨a, len, cap, rfl⟩ := okWide_slice Try.underlying48 hv
  have hf2 : DataW.trod enc Try.prog W 0 (fun _ => true) true fuel 48 [.slice a len cap] = some (d, p) := hf
  obtain ⟨cs, h1, h2, h3⟩ := op_rows (sz := 1) i64A 0 (fun c => (Lit.int .i64 c).wf = true) elem_i64 Try.underlying48 (by kernel_rfl) (fun _ => rfl) (by decide) hf2
  exact ⟨cs, h1, h2, h3, fun a' l' c' e => (op_cap Try.underlying48 hf2 e).1⟩
end
end Go.Proofs.Ytmoagpedkgjkoaa

/-
  A region in the order of its text, walked by hand, operation by operation: for guarded operations that load structs. Of no program.
-/
namespace Go.Proofs.Ytmoagpedkgjkoaa
open Go.RowKit
set_option linter.unusedVariables false

/-- A place at which a walk stands still. -/
def Stop10 (p : Prop) : Prop := p
theorem unstop10 {p : Prop} (h : p) : Stop10 p := h
theorem stop10 {p : Prop} (h : Stop10 p) : p := h
section
variable {P : Program} {ops : Array Oper} {rest : List Oper} {o : Oper} {a : Act} {w : World} {Q : Exit → Act → World → Prop}
/-- .. at the operation that writes this slot. -/
theorem stop_at (d : Tmp) (hd : o.dst = some d) (h : Stop10 (wpList P ops Q (o :: rest) a w)) : wpList P ops Q (o :: rest) a w := h
theorem lst_val (d : Option Tmp) (v : Value) (hd : o.dst = d) (hw : Region.wanted o (yielded ops a.tmps) = true) (hv : (execOp a.eval o).run P w = .ok (.value v) w) (h : wpList P ops Q rest (a.put d v) w) : wpList P ops Q (o :: rest) a w := by
  subst hd
  exact wpList_val hw v hv h
theorem lst_skip (d : Option Tmp) (hd : o.dst = d) (hw : Region.wanted o (yielded ops a.tmps) = false) (h : wpList P ops Q rest (a.put d undef) w) : wpList P ops Q (o :: rest) a w := by
  subst hd
  refine wpList_step fun K hK => ?_
  rw [if_neg (by rw [hw]; simp)]
  exact hK _ _ h
theorem lst_call (d : Option Tmp) (hd : o.dst = d) (hw : Region.wanted o (yielded ops a.tmps) = true) (f : FuncId) (args : Array Value) (he : (execOp a.eval o).run P w = .ok (.enter f args) w)
    (hc : Calls P f args w fun e w' => ∃ v, e = .returned v ∧ wpList P ops Q rest (a.put d v) w') : wpList P ops Q (o :: rest) a w := by
  subst hd
  refine wpList_step fun K hK => ?_
  rw [if_pos hw]
  unfold Oper.wp
  rw [he, Oper.upon_enter]
  refine hc.mono ?_
  rintro e w' ⟨v, rfl, h⟩
  exact hK _ _ h
theorem lst_load (d : Option Tmp) (v : Value) (hd : o.dst = d) (hw : Region.wanted o (yielded ops a.tmps) = true) (t : TypeId) (x : Operand) (ho : o.op = .load t x) (u : Value) (hu : a.eval x = u) (hv : (Instr.loadAt t u).run P w = .ok v w) (h : wpList P ops Q rest (a.put d v) w) : wpList P ops Q (o :: rest) a w :=
  lst_val d v hd hw (by unfold execOp; simp only [ho, hu, Sem.run_bind, hv, Result.andThen_ok, Sem.run_pure]) h
theorem lst_bin (d : Option Tmp) (v : Value) (hd : o.dst = d) (hw : Region.wanted o (yielded ops a.tmps) = true) (op : BinOp) (t r : TypeId) (x y : Operand) (ho : o.op = .binOp op t x y r) (u z : Value) (hu : a.eval x = u) (hz : a.eval y = z) (hg : (eqGuard op t x y u z).run P w = .ok () w) (hv : (binOp op t u z).run P w = .ok v w) (h : wpList P ops Q rest (a.put d v) w) : wpList P ops Q (o :: rest) a w := by
  subst hd
  exact wpList_binop hw op t r x y ho u z v hu hz hg hv h
/-- An operation that turns the world, by what it answers. -/
theorem lst_run (d : Option Tmp) (hd : o.dst = d) (hw : Region.wanted o (yielded ops a.tmps) = true) (v : Value) (w' : World) (he : (execOp a.eval o).run P w = .ok (.value v) w') (h : wpList P ops Q rest (a.put d v) w') : wpList P ops Q (o :: rest) a w := by
  subst hd
  refine wpList_step fun K hK => ?_
  rw [if_pos hw]
  unfold Oper.wp
  rw [he]
  exact hK _ _ h
theorem lst_nil (h : Q .normal a w) : wpList P ops Q [] a w := h
end
end Go.Proofs.Ytmoagpedkgjkoaa

/-
  A script of calls of a store, that came in: how a call is loaded.
-/
namespace Go.Proofs.Ytmoagpedkgjkoaa
open Go.RowKit
set_option linter.unusedVariables false

theorem infoOc : (Try.prog.info? 37).map (·.size) = some 21 := by kernel_rfl
theorem infoPg10 : (Try.prog.info? 35).map (·.size) = some 17 := by kernel_rfl
def ocZ : Array Value := ocA Oc.zero
theorem ocA_all (c : Oc) : (ocA c).all (·.oneCell') = true := by simp [ocA, Value.oneCell']
theorem ocA_page (c : Oc) : (ocA c).extract 4 (4 + 17) = pgA c.p := by
  apply Array.ext'
  simp [ocA, pgA]
theorem load_oc (y : World) (b k : Nat) (c : Oc) (h : y.rangeAt b k (ocA c).toList) : (Instr.loadAt 37 (.pointer (some ⟨b, k, none⟩))).run Try.prog y = .ok (.agg (ocA c)) y := by
  have h1 := run_loadAt_mid (P := Try.prog) y b k 37 (ocA c).toList _ h Try.underlying37 rfl (by rw [infoOc]; rfl)
  rwa [Array.toArray_toList] at h1
/-- A value that is loaded, by what the load answers. -/
theorem wpList_load_run {P : Program} {ops : Array Oper} {rest : List Oper} {o : Oper} {a : Act} {w : World} {Q : Exit → Act → World → Prop} (hw : Region.wanted o (yielded ops a.tmps) = true) (t : TypeId) (x : Operand) (ho : o.op = .load t x) (u v : Value) (hu : a.eval x = u) (hv : (Instr.loadAt t u).run P w = .ok v w) (h : wpList P ops Q rest (a.put o.dst v) w) : wpList P ops Q (o :: rest) a w :=
  wpList_val hw v (by unfold execOp; simp only [ho, hu, Sem.run_bind, hv, Result.andThen_ok, Sem.run_pure]) h
structure Scr10 (w0 : World) (v : Value) (cs : List Oc) : Prop where
  rows : RowsIn ocA Oc.zero 21 w0 v cs
  fits : ∀ c ∈ cs, c.fits
  cap : ∀ a len cap, v = .slice a len cap → len ≤ cap
theorem Scr10.at {w0 x : World} {a : Option Addr} {len cap : Nat} {cs : List Oc} (h : Scr10 w0 (.slice a len cap) cs) (p : Below w0.heap.size w0 x) {j : Nat} (hj : j < cs.length) : ∃ b off, a = some ⟨b, off, none⟩ ∧ (Instr.loadAt 37 (.pointer (some ⟨b, off + j * 21, none⟩))).run Try.prog x = .ok (.agg (ocA (cs.getD j Oc.zero))) x ∧ (cs.getD j Oc.zero).fits := by
  obtain ⟨a', cap', e, h2⟩ := h.rows
  injection e with e1 e2 e3
  subst e1
  obtain ⟨b, off, h3, h4, h5⟩ := h2 (by omega)
  have hm : cs.getD j Oc.zero ∈ cs := by
    rw [List.getD_eq_getElem?_getD, List.getElem?_eq_getElem hj]
    exact List.getElem_mem hj
  exact ⟨b, off, h3, load_oc x b _ _ (rangeAt_below (h5 j hj) p h4), h.fits _ hm⟩
theorem Scr10.len {w0 : World} {a : Option Addr} {len cap : Nat} {cs : List Oc} (h : Scr10 w0 (.slice a len cap) cs) : len = cs.length := by
  obtain ⟨a', cap', e, h2⟩ := h.rows
  injection e
end Go.Proofs.Ytmoagpedkgjkoaa

/-
  Lists of pages, one for each page of the store: what StoreWhole keeps.
-/
namespace Go.Proofs.Ytmoagpedkgjkoaa
open Go.RowKit
set_option linter.unusedVariables false

def flatP (l : List Pg) : List Value := l.flatMap fun p => (pgA p).toList
theorem flatP_length (l : List Pg) : (flatP l).length = l.length * 17 := by
  unfold flatP
  induction l with
  | nil => rfl
  | cons p l ih => rw [List.flatMap_cons, List.length_append, ih, List.length_cons, Nat.succ_mul, Nat.add_comm]; rfl
theorem flatP_at : ∀ (l : List Pg) (k : Nat) (hk : k < l.length) (j : Nat), j < 17 → (flatP l)[k * 17 + j]? = (pgA l[k]).toList[j]?
  | p :: l, 0, hk, j, hj => by
    show ((pgA p).toList ++ flatP l)[0 * 17 + j]? = _
    rw [Nat.zero_mul, Nat.zero_add, List.getElem?_append_left (by show j < 17; exact hj)]
    rfl
  | p :: l, k + 1, hk, j, hj => by
    show ((pgA p).toList ++ flatP l)[(k + 1) * 17 + j]? = _
    rw [List.getElem?_append_right (by show 17 ≤ (k + 1) * 17 + j; omega), show (k + 1) * 17 + j - (pgA p).toList.length = k * 17 + j from by show (k + 1) * 17 + j - 17 = _; omega]
    exact flatP_at l k (by simpa using hk) j hj
theorem build1 (p : Pg) (w : World) : (Instr.buildSlice 41 1 #[(0, .agg (pgA p))]).run Try.prog w = .ok (.slice (some ⟨w.heap.size, 0, none⟩) 1 1) (w.alloc (.cells (pgA p) 35)) := by kernel_rfl

/-- The lists: a row of slices, each of a row of its own. -/
structure MB (B : Nat) (x : World) (gm n c : Nat) (cs : Array Value) (m : Nat → List Pg) (gi : Nat → Nat) : Prop where
  row : RowAt x gm 41 cs
  size : cs.size = n
  low : B ≤ gm
  le : c ≤ n
  at_ : ∀ i, i < c → ∃ a len cap, cs[i]? = some (.slice a len cap) ∧ x.ownsRow B 35 17 (.slice a len cap) (m i).length (flatP (m i)) ∧ a = some ⟨gi i, 0, none⟩ ∧ 0 < (m i).length
  inj : ∀ i j, i < c → j < c → gi i = gi j → i = j
theorem own_keep {x y : World} {B n sz : Nat} {e : TypeId} {v : Value} {xs : List Value} (h : x.ownsRow B e sz v n xs) (hk : ∀ g cur, v.ownBlock = some g → RowAt x g e cur → RowAt y g e cur) : y.ownsRow B e sz v n xs := by
  obtain ⟨h1, h2⟩ := h
  refine ⟨h1, h2.imp id ?_⟩
  rintro ⟨g, cap, cur, a, b, c, d⟩
  exact ⟨g, cap, cur, a, b, hk g cur (by rw [a]; rfl) c, d⟩
section
variable {B : Nat} {x y : World} {gm n c : Nat} {cs : Array Value} {m : Nat → List Pg} {gi : Nat → Nat}
theorem MB.keep (h : MB B x gm n c cs m gi) (h1 : ∀ k t c, t = 41 ∨ t = 35 → RowAt x k t c → RowAt y k t c) : MB B y gm n c cs m gi := by
  refine ⟨h1 _ _ _ (.inl rfl) h.row, h.size, h.low, h.le, fun i hi => ?_, h.inj⟩
  obtain ⟨a, len, cap, q1, q2, q3⟩ := h.at_ i hi
  exact ⟨a, len, cap, q1, own_keep q2 (fun g cur _ hr => h1 _ _ _ (.inr rfl) hr), q3⟩
theorem MB.later (h : MB B x gm n c cs m gi) (hb : Below x.heap.size x y) : MB B y gm n c cs m gi := h.keep fun k t c _ hr => hr.later hb
theorem MB.side (h : MB B x gm n c cs m gi) (hs : Side10 x y) : MB B y gm n c cs m gi := h.keep fun k t c ht hr => by
  rcases ht with rfl | rfl
  · exact hs.row hr (by decide) (by decide)
  · exact hs.row hr (by decide) (by decide)
/-- A list that is new. -/
theorem MB.put (h : MB B x gm n c cs m gi) (i : Nat) (hi : i < n) (p : Pg) (hB : B ≤ x.heap.size) (c' : Nat) (hc : c' ≤ n ∧ ∀ j, j < c' → j < c ∨ j = i) :
    MB B ((x.alloc (.cells (pgA p) 35)).setCell ⟨gm, i, none⟩ (.slice (some ⟨x.heap.size, 0, none⟩) 1 1)) gm n c' (cs.setIfInBounds i (.slice (some ⟨x.heap.size, 0, none⟩) 1 1)) (put1 m i [p]) (put1 gi i x.heap.size) := by
  have hb : Below x.heap.size x (x.alloc (.cells (pgA p) 35)) := (Below.refl _ _).alloc (Nat.le_refl _) _
  have hl := h.later hb
  have hne : x.heap.size ≠ gm := fun e => by have := h.row.lt; omega
  refine ⟨hl.row.set i _, by rw [Array.size_setIfInBounds]; exact h.size, h.low, hc.1, fun j hj => ?_, fun j k hj hk e => ?_⟩
  · by_cases e : j = i
    · subst e
      rw [put1_same, put1_same]
      refine ⟨_, _, _, Array.getElem?_setIfInBounds_self_of_lt (by rw [h.size]; exact hi), ⟨by rw [flatP_length], .inr ⟨x.heap.size, 1, pgA p, rfl, hB, ?_, Nat.le_refl _, by unfold maxLen; omega, rfl, rfl⟩⟩, rfl, by simp⟩
      exact RowAt.other (RowAt.new x _ _) _ _ hne
    · rw [put1_other _ _ _ _ e, put1_other _ _ _ _ e]
      obtain ⟨a, len, cap, q1, q2, q3⟩ := hl.at_ j ((hc.2 j hj).resolve_right e)
      refine ⟨a, len, cap, by rw [Array.getElem?_setIfInBounds_ne (fun g => e g.symm)]; exact q1, own_keep q2 (fun g cur _ hr => RowAt.other hr _ _ (fun e2 => ?_)), q3⟩
      have e2' : g = gm := e2
      rw [e2'] at hr
      exact absurd (row_kind hr hl.row) (by decide)
  · by_cases e1 : j = i
    · by_cases e2 : k = i
      · rw [e1, e2]
      · rw [e1, put1_same, put1_other _ _ _ _ e2] at e
        obtain ⟨a, len, cap, q1, q2, q3, q4⟩ := h.at_ k ((hc.2 k hk).resolve_right e2)
        have := q2.lt (gi k) (by rw [q3]; rfl)
        omega
    · rw [put1_other _ _ _ _ e1] at e
      by_cases e2 : k = i
      · rw [e2, put1_same] at e
        obtain ⟨a, len, cap, q1, q2, q3, q4⟩ := h.at_ j ((hc.2 j hj).resolve_right e1)
        have := q2.lt (gi j) (by rw [q3]; rfl)
        omega
      · rw [put1_other _ _ _ _ e2] at e
        exact h.inj j k ((hc.2 j hj).resolve_right e1) ((hc.2 k hk).resolve_right e2) e
theorem infoP3 : (Try.prog.info? 35).map (fun i => (i.zero, i.size, i.bytes)) = some (some (.agg (pgA Pg.zero)), 17, 200) := by kernel_rfl
/-- One page put behind others: in their row, or in a new one. -/
theorem run_app_page (ty : TypeId) (w : World) (B g k cap : Nat) (xs : List Value) (hown : w.ownsRow B 35 17 (.slice (some ⟨g, 0, none⟩) k cap) k xs) (b : Nat) (p : Pg) (hB : RowAt w b 35 (pgA p)) (hz : k ≤ 1000) (hbase : B ≤ w.heap.size) :
    ∃ g' cap' w', (Builtin.append_ #[41, 41] ty #[.slice (some ⟨g, 0, none⟩) k cap, .slice (some ⟨b, 0, none⟩) 1 1]).run Try.prog w = .ok (.slice (some ⟨g', 0, none⟩) (k + 1) cap') w' ∧ w'.ownsRow B 35 17 (.slice (some ⟨g', 0, none⟩) (k + 1) cap') (k + 1) (xs ++ (pgA p).toList) ∧ w.grownBy w' (some g) ∧ (g' = g ∨ w.heap.size ≤ g') := by
  obtain ⟨i, hi0, hi1⟩ := Option.map_eq_some_iff.1 infoP3
  simp only [Prod.mk.injEq] at hi1
  have hlen : (pgA p).toList.length = 1 * 17 := rfl
  have hcells : ∀ j u, (pgA p).toList[j]? = some u → w.cell? ((⟨b, 0, none⟩ : Addr).add j) = some u := fun j u hu => by
    rw [Addr.add_lit, Nat.zero_add]
    exact hB.cell j u (by simpa using hu)
  have hone : ∀ u ∈ (pgA p).toList, u.oneCell' = true := fun u hu => by
    have h := pgA_one p
    rw [Array.all_eq_true'] at h
    exact h u (by simpa using hu)
  by_cases hr : k + 1 ≤ cap
  · obtain ⟨w', r1, r2, r3⟩ := run_append_fits (P := Try.prog) w B 41 ty 35 i 17 Try.underlying41 hi0 hi1.2.1 g k cap xs hown ⟨b, 0, none⟩ 1 1 (pgA p).toList hlen hcells hone hr
    exact ⟨g, cap, w', r1, r2, r3, .inl rfl⟩
  · obtain ⟨v', w', r1, r2, r3⟩ := run_append_arg_grows (P := Try.prog) w 41 ty 35 i (.agg (pgA Pg.zero)) 17 200 Try.underlying41 hi0 hi1.1 hi1.2.1 hi1.2.2 rfl (by omega) ⟨g, 0, none⟩ k cap xs hown.1 (hown.cells (g := g) rfl) ⟨b, 0, none⟩ 1 1 (pgA p).toList hlen hcells (by omega) (by unfold maxLen; omega) (by omega)
    obtain ⟨g', cap', rfl, hg'⟩ := own_slice r2 (by omega)
    refine ⟨g', cap', w', r1, ⟨r2.1, r2.2.imp id ?_⟩, ⟨r3.os, r3.tape, r3.output, r3.size, fun q hq _ => r3.block q hq (by simp)⟩, .inr hg'⟩
    rintro ⟨g2, c2, cur, a1, a2, a3⟩
    exact ⟨g2, c2, cur, a1, Nat.le_trans hbase a2, a3⟩
theorem flatP_snoc (l : List Pg) (p : Pg) : flatP (l ++ [p]) = flatP l ++ (pgA p).toList := by simp [flatP]
/-- A list that has grown. -/
theorem MB.app (h : MB B x gm n c cs m gi) (i : Nat) (hi : i < c) (p : Pg) (g' cap' : Nat) (ho : y.ownsRow B 35 17 (.slice (some ⟨g', 0, none⟩) ((m i).length + 1) cap') ((m i).length + 1) (flatP (m i) ++ (pgA p).toList)) (hg : x.grownBy y (some (gi i))) (hn : g' = gi i ∨ x.heap.size ≤ g') :
    MB B (y.setCell ⟨gm, i, none⟩ (.slice (some ⟨g', 0, none⟩) ((m i).length + 1) cap')) gm n c (cs.setIfInBounds i (.slice (some ⟨g', 0, none⟩) ((m i).length + 1) cap')) (put1 m i (m i ++ [p])) (put1 gi i g') := by
  have hne : ∀ j, j < c → gi j ≠ gm := fun j hj e => by
    obtain ⟨a, len, cap, q1, q2, q3, q4⟩ := h.at_ j hj
    rcases q2.2 with ⟨q5, _⟩ | ⟨g2, c2, cur, q5, q6, q7, _⟩
    · rw [q3] at q5
      cases q5
    · rw [q3] at q5
      injection q5 with q5
      injection q5 with q5
      injection q5 with q5
      rw [← q5, e] at q7
      exact absurd (row_kind (show RowAt x gm 35 cur from q7) h.row) (by decide)
  have hrow : RowAt y gm 41 cs := (hg.block gm h.row.lt (fun e => hne i hi (by injection e with e; exact e.symm))).trans h.row
  refine ⟨hrow.set i _, by rw [Array.size_setIfInBounds]; exact h.size, h.low, h.le, fun j hj => ?_, fun j k hj hk e => ?_⟩
  · by_cases e : j = i
    · subst e
      rw [put1_same, put1_same, flatP_snoc, List.length_append]
      refine ⟨_, _, _, Array.getElem?_setIfInBounds_self_of_lt (by rw [h.size]; exact Nat.lt_of_lt_of_le hj h.le), own_keep ho (fun g cur _ hr => RowAt.other hr _ _ (fun e2 => ?_)), rfl, by simp⟩
      have e2' : g = gm := e2
      rw [e2'] at hr
      exact absurd (row_kind hr hrow) (by decide)
    · rw [put1_other _ _ _ _ e, put1_other _ _ _ _ e]
      obtain ⟨a, len, cap, q1, q2, q3, q4⟩ := h.at_ j hj
      refine ⟨a, len, cap, by rw [Array.getElem?_setIfInBounds_ne (fun g => e g.symm)]; exact q1, own_keep q2 (fun g cur hgb hr => ?_), q3, q4⟩
      have eg : g = gi j := by
        rw [q3] at hgb
        injection hgb with hgb
        exact hgb.symm
      have h5 : RowAt y g 35 cur := (hg.block g hr.lt (fun e2 => by
        injection e2 with e2
        rw [eg] at e2
        exact e (h.inj j i hj hi e2))).trans hr
      exact RowAt.other h5 _ _ (fun e2 => by
        have e2' : g = gm := e2
        rw [e2'] at h5
        exact absurd (row_kind h5 hrow) (by decide))
  · have hlt : ∀ q, q < c → gi q < x.heap.size := fun q hq => by
      obtain ⟨a, len, cap, q1, q2, q3, q4⟩ := h.at_ q hq
      exact (q2.lt (gi q) (by rw [q3]; rfl)).2
    by_cases e1 : j = i
    · by_cases e2 : k = i
      · rw [e1, e2]
      · rw [e1, put1_same, put1_other _ _ _ _ e2] at e
        rcases hn with hn | hn
        · rw [hn] at e
          exact absurd (h.inj i k hi hk e).symm e2
        · have := hlt k hk
          omega
    · rw [put1_other _ _ _ _ e1] at e
      by_cases e2 : k = i
      · rw [e2, put1_same] at e
        rcases hn with hn | hn
        · rw [hn] at e
          exact absurd (h.inj j i hj hi e) e1
        · have := hlt j hj
          omega
      · rw [put1_other _ _ _ _ e2] at e
        exact h.inj j k hj hk e
end
end Go.Proofs.Ytmoagpedkgjkoaa

/-
  Plain facts on stores: who is out behind a call; the document's Mask.
-/
namespace Go.Proofs.Ytmoagpedkgjkoaa
open Go.RowKit
set_option linter.unusedVariables false

theorem Sc.mS_other (s : Sc) (node mask : Int) (m : Nat) (h : m ≠ node.toNat) : (s.mS node mask).out m = s.out m := by
  unfold Sc.mS
  split
  · rfl
  · split
    · split
      · exact put1_other _ _ _ _ h
      · rfl
    · exact put1_other _ _ _ _ h
theorem Sc.wS_out15 (s : Sc) (node id : Int) (p : Pg) : (s.wS node id p 15).out = s.out := by
  unfold Sc.wS
  split
  · rfl
  · rfl
theorem Sc.ok.done {s : Sc} {old : Nat → Pg} {tr : Nat → Option (Pg × Bool)} (h : s.ok old tr) (ho : ∀ m, m < 8 → s.out m = false) (i : Nat) (hi : i < s.n) : tr i = none := by
  cases ht : tr i with
  | none => rfl
  | some x =>
    obtain ⟨I, b⟩ := x
    obtain ⟨_, _, _, m, h1, h2, _⟩ := h.tor i I b hi ht
    rw [ho m h1] at h2
    cases h2
theorem Sc.wE_out (s : Sc) (nd i : Nat) (p : Pg) (hn : nd < 8) (hi : i < s.n) (hp : p.right) (h : s.out nd = true ∨ s.busy (i : Int) = true) : s.wE nd i p 15 = 13 := by
  unfold Sc.wE
  rw [if_neg (fun g => g ⟨by omega, by omega, by omega, by omega, by omega, hp⟩), Int.toNat_natCast, if_pos]
  rcases h with h | h
  · exact .inl h
  · exact .inr (.inl h)
set_option maxRecDepth 4000 in
set_option maxHeartbeats 400000 in
theorem rmask10_at (m : Int) (w : World) (r : Bool) (Hr : Hid (r = true ↔ maskOk m)) : Calls Try.prog 19 #[.int .i64 m] w fun e w' => e = .returned (.bool r) ∧ w = w' := by
  go_enter Try.func19, Try.ntmps19
  go_wp2
  all_goals
    go_ret
    refine ⟨?_, rfl⟩
    have hr := Hr.out
    show Ending.returned (.bool _) = Ending.returned (.bool _)
    congr 2
    rw [Bool.eq_iff_iff, hr]
    simp
    omega
theorem rmask10 (m : Int) (w : World) : Calls Try.prog 19 #[.int .i64 m] w fun e w' => e = .returned (.bool (decide (maskOk m))) ∧ w = w' := rmask10_at m w _ decide_eq_true_iff
end Go.Proofs.Ytmoagpedkgjkoaa

/-
  Two pages held against each other by == or !=.
-/
namespace Go.Proofs.Ytmoagpedkgjkoaa
open Go.RowKit
set_option linter.unusedVariables false


/-- A page's cells as plain data. -/
def litsP (p : Pg) : List Lit := [.int .u64 p.l, .bool (p.u 0), .string (p.s 0).data.toList, .bool (p.u 1), .string (p.s 1).data.toList, .bool (p.u 2), .string (p.s 2).data.toList, .bool (p.u 3), .string (p.s 3).data.toList, .bool (p.u 4), .string (p.s 4).data.toList, .bool (p.u 5), .string (p.s 5).data.toList, .bool (p.u 6), .string (p.s 6).data.toList, .bool (p.u 7), .string (p.s 7).data.toList]

theorem litsP_iff (p q : Pg) : litsP p = litsP q ↔ p.same q := by
  unfold litsP
  simp only [List.cons.injEq, and_true, Lit.int.injEq, Lit.bool.injEq, Lit.string.injEq, data_inj, true_and]
  constructor
  · rintro ⟨h, a0, b0, a1, b1, a2, b2, a3, b3, a4, b4, a5, b5, a6, b6, a7, b7⟩
    refine ⟨by omega, fun i hi => ?_⟩
    rcases lt8 hi with rfl | rfl | rfl | rfl | rfl | rfl | rfl | rfl
    · exact ⟨a0, b0⟩
    · exact ⟨a1, b1⟩
    · exact ⟨a2, b2⟩
    · exact ⟨a3, b3⟩
    · exact ⟨a4, b4⟩
    · exact ⟨a5, b5⟩
    · exact ⟨a6, b6⟩
    · exact ⟨a7, b7⟩
  · rintro ⟨h, g⟩
    exact ⟨by omega, (g 0 (by omega)).1, (g 0 (by omega)).2, (g 1 (by omega)).1, (g 1 (by omega)).2, (g 2 (by omega)).1, (g 2 (by omega)).2, (g 3 (by omega)).1, (g 3 (by omega)).2, (g 4 (by omega)).1, (g 4 (by omega)).2, (g 5 (by omega)).1, (g 5 (by omega)).2, (g 6 (by omega)).1, (g 6 (by omega)).2, (g 7 (by omega)).1, (g 7 (by omega)).2⟩

theorem cell_lits (u : Bool) (s : ByteArray) (hs : s.size ≤ maxLen) : Try.prog.keyLits 2 32 [.bool u, .string s] = some [.bool u, .string s.data.toList] := by
  have e0 : Try.prog.cellsOf 4 = 1 := by kernel_rfl
  have e1 : Try.prog.cellsOf 9 = 1 := by kernel_rfl
  have e2 : Try.prog.cellsOf 32 = 2 := by kernel_rfl
  simp [Program.keyLits, Try.underlying32, Try.underlying4, Try.underlying9, e0, e1, e2, hs]

theorem lits_page (p : Pg) (h : p.fits) : Try.prog.keyLits 4 35 (pgA p).toList = some (litsP p) := by
  have e0 : Try.prog.cellsOf 30 = 1 := by kernel_rfl
  have e1 : Try.prog.cellsOf 33 = 16 := by kernel_rfl
  have e2 : Try.prog.cellsOf 32 = 2 := by kernel_rfl
  have e3 : Try.prog.cellsOf 35 = 17 := by kernel_rfl
  have hw : (Lit.int .u64 (p.l : Int)).wf = true := by
    have h1 := h.1
    have m1 : IntKind.u64.min = 0 := rfl
    have m2 : IntKind.u64.max = 18446744073709551615 := by decide
    simp only [Lit.wf, m1, m2, Bool.and_eq_true, decide_eq_true_eq]
    omega
  have r8 : List.range 8 = [0, 1, 2, 3, 4, 5, 6, 7] := rfl
  have c0 := cell_lits (p.u 0) (p.s 0) (h.2 0 (by omega))
  have c1 := cell_lits (p.u 1) (p.s 1) (h.2 1 (by omega))
  have c2 := cell_lits (p.u 2) (p.s 2) (h.2 2 (by omega))
  have c3 := cell_lits (p.u 3) (p.s 3) (h.2 3 (by omega))
  have c4 := cell_lits (p.u 4) (p.s 4) (h.2 4 (by omega))
  have c5 := cell_lits (p.u 5) (p.s 5) (h.2 5 (by omega))
  have c6 := cell_lits (p.u 6) (p.s 6) (h.2 6 (by omega))
  have c7 := cell_lits (p.u 7) (p.s 7) (h.2 7 (by omega))
  have hu : Try.prog.keyLits 3 30 [.int .u64 (p.l : Int)] = some [.int .u64 (p.l : Int)] := by
    simp [Program.keyLits, Try.underlying30, hw]
  have ha : Try.prog.keyLits 3 33 [.bool (p.u 0), .string (p.s 0), .bool (p.u 1), .string (p.s 1), .bool (p.u 2), .string (p.s 2), .bool (p.u 3), .string (p.s 3), .bool (p.u 4), .string (p.s 4), .bool (p.u 5), .string (p.s 5), .bool (p.u 6), .string (p.s 6), .bool (p.u 7), .string (p.s 7)] = some (litsP p).tail := by
    unfold Program.keyLits
    simp [Try.underlying33, e1, e2, r8, c0, c1, c2, c3, c4, c5, c6, c7, litsP]
  unfold Program.keyLits
  simp [Try.underlying35, e0, e1, e3, pgA, hu, ha]
  simp [litsP]

theorem run_page_eql (p q : Pg) (hp : p.fits) (hq : q.fits) (w : World) : (binOp .eql 35 (.agg (pgA p)) (.agg (pgA q))).run Try.prog w = .ok (.bool (decide (p.same q))) w := by
  obtain ⟨r, hr, hiff⟩ := run_equalIn_deep (P := Try.prog) 9996 4 35 (by kernel_rfl) w 4 4 (.agg (pgA p)) (.agg (pgA q)) (litsP p) (litsP q) (by kernel_rfl) (by kernel_rfl) (lits_page p hp) (lits_page q hq)
  have e : r = decide (p.same q) := by
    rw [Bool.eq_iff_iff, hiff, litsP_iff, decide_eq_true_iff]
  rw [e] at hr
  have hr2 : (Op.equal 35 (.agg (pgA p)) (.agg (pgA q))).run Try.prog w = .ok (decide (p.same q)) w := hr
  simp [binOp, hr2]
theorem run_page_neq (p q : Pg) (hp : p.fits) (hq : q.fits) (w : World) : (binOp .neq 35 (.agg (pgA p)) (.agg (pgA q))).run Try.prog w = .ok (.bool (!decide (p.same q))) w := by
  obtain ⟨r, hr, hiff⟩ := run_equalIn_deep (P := Try.prog) 9996 4 35 (by kernel_rfl) w 4 4 (.agg (pgA p)) (.agg (pgA q)) (litsP p) (litsP q) (by kernel_rfl) (by kernel_rfl) (lits_page p hp) (lits_page q hq)
  have e : r = decide (p.same q) := by
    rw [Bool.eq_iff_iff, hiff, litsP_iff, decide_eq_true_iff]
  rw [e] at hr
  have hr2 : (Op.equal 35 (.agg (pgA p)) (.agg (pgA q))).run Try.prog w = .ok (decide (p.same q)) w := hr
  simp [binOp, hr2]
theorem page_guard (op : BinOp) (x y : Operand) (p q : Pg) (w : World) : (eqGuard op 35 x y (.agg (pgA p)) (.agg (pgA q))).run Try.prog w = .ok () w := run_eqGuard_agg (P := Try.prog) w op 35 x y (pgA p) (pgA q) (by kernel_rfl)
end Go.Proofs.Ytmoagpedkgjkoaa

/-
  Pages that are kept in memory while a statement goes on.
-/
namespace Go.Proofs.Ytmoagpedkgjkoaa
open Go.RowKit
set_option linter.unusedVariables false

theorem kept_later {w x y : World} {g : Nat} {p : Pg} (h : PgAt x g p ∧ Below g w x ∧ g < x.heap.size) (hb : Below x.heap.size x y) : PgAt y g p ∧ Below g w y ∧ g < y.heap.size :=
  ⟨h.1.below hb h.2.2, h.2.1.trans (hb.mono (Nat.le_of_lt h.2.2)), Nat.lt_of_lt_of_le h.2.2 hb.size⟩

/-- Two pages that came in, and lie side by side. -/
def Pair (w : World) (g k : Nat) (p q : Pg) (x : World) : Prop := PgAt x g p ∧ PgAt x k q ∧ Below g w x ∧ g < k ∧ k < x.heap.size
theorem Pair.later {w x y : World} {g k : Nat} {p q : Pg} (h : Pair w g k p q x) (hb : Below x.heap.size x y) : Pair w g k p q y :=
  ⟨h.1.below hb (Nat.lt_trans h.2.2.2.1 h.2.2.2.2), h.2.1.below hb h.2.2.2.2, h.2.2.1.trans (hb.mono (Nat.le_of_lt (Nat.lt_trans h.2.2.2.1 h.2.2.2.2))), h.2.2.2.1, Nat.lt_of_lt_of_le h.2.2.2.2 hb.size⟩
theorem Pair.drew {w x : World} {g k : Nat} {p q : Pg} (h : Pair w g k p q x) : Pair w g k p q x.drew := ⟨h.1, h.2.1, below_dn h.2.2.1 1, h.2.2.2⟩
theorem Pair.new (w : World) (p q : Pg) : Pair w w.heap.size (w.heap.size + 1) p q ((w.alloc (.cells (pgA p) 35)).alloc (.cells (pgA q) 35)) := by
  have hz : w.heap.size < (w.alloc (.cells (pgA p) 35)).heap.size := by simp
  have e : (w.alloc (.cells (pgA p) 35)).heap.size = w.heap.size + 1 := by simp
  refine ⟨PgAt.alloc (show PgAt (w.alloc (.cells (pgA p) 35)) w.heap.size p from heap_alloc_new w _) hz _, ?_, ?_, by omega, by simp⟩
  · have h := heap_alloc_new (w.alloc (.cells (pgA p) 35)) (.cells (pgA q) 35)
    rw [e] at h
    exact h
  · exact ((Below.refl _ _).alloc (Nat.le_refl _) _).alloc (by simp) _

theorem PgAt.lt {w : World} {b : Nat} {p : Pg} (h : PgAt w b p) : b < w.heap.size := (Array.getElem?_eq_some_iff.1 h).1

/-- A page that a call keeps in memory of its own. -/
def Kept (B : Nat) (w : World) (g : Nat) (p : Pg) (x : World) : Prop := PgAt x g p ∧ Below B w x ∧ B ≤ g
theorem Kept.later {B g : Nat} {w x y : World} {p : Pg} (h : Kept B w g p x) (hb : Below x.heap.size x y) : Kept B w g p y :=
  ⟨h.1.below hb h.1.lt, h.2.1.trans (hb.mono (Nat.le_trans h.2.2 (Nat.le_of_lt h.1.lt))), h.2.2⟩
theorem Kept.drew {B g : Nat} {w x : World} {p : Pg} (h : Kept B w g p x) : Kept B w g p x.drew := ⟨h.1, below_dn h.2.1 1, h.2.2⟩

end Go.Proofs.Ytmoagpedkgjkoaa
