/-
  A pool of texts that is kept by a walk. (gen11/kept.py)
-/
import Derived.Test.YthigibgokbmehaaPoolLists
import Derived.Test.YthigibgokbmehaaPoolNew
import Derived.Test.YthigibgokbmehaaPoolVictim
namespace Go.Proofs.Ythigibgokbmehaa
open Go.RowKit
set_option linter.unusedVariables false

/-- A pool that is new memory since w0; all that it holds is of its kind; no page has more than b fixes. -/
structure K11 (w0 x : World) (g gr : Nat) (p : Po) (b : Nat) : Prop where
  ps : PS x g gr p
  ok : p.ok b
  z : p.z = .string ⟨#[]⟩
  txt : ∀ i, i < p.n → ∃ s : ByteArray, (p.fr i).x = .string s
  bel : Below w0.heap.size w0 x
  lo : w0.heap.size ≤ g ∧ w0.heap.size ≤ gr
section
variable {w0 x y : World} {g gr b : Nat} {p : Po}
theorem K11.next {q : Po} {c : Nat} (h : K11 w0 x g gr p b) (hp : PS y g gr q) (ht : Tn (FP g gr) x y) (ho : q.ok c) (hz : q.z = p.z) (hx : ∀ i, i < q.n → ∃ s : ByteArray, (q.fr i).x = .string s) : K11 w0 y g gr q c :=
  ⟨hp, ho, hz.trans h.z, hx, h.bel.trans (ht.below (fun k hk => by
    rcases hk with rfl | rfl
    · exact h.lo.1
    · exact h.lo.2) h.bel.size), h.lo⟩
theorem K11.later (h : K11 w0 x g gr p b) (q : Below x.heap.size x y) : K11 w0 y g gr p b := ⟨h.ps.later q, h.ok, h.z, h.txt, h.bel.trans (q.mono h.bel.size), h.lo⟩
theorem K11.turn {F : Nat → Prop} (h : K11 w0 x g gr p b) (q : Tn F x y) (h1 : ¬ F g) (h2 : ¬ F gr) (h3 : ∀ k, F k → w0.heap.size ≤ k) : K11 w0 y g gr p b := ⟨h.ps.turn q h1 h2, h.ok, h.z, h.txt, h.bel.trans (q.below h3 h.bel.size), h.lo⟩
theorem K11.getX (h : K11 w0 x g gr p b) (id : Int) : ∃ s : ByteArray, p.getX id = .string s := by
  unfold Po.getX
  cases e : p.at id with
  | none => exact ⟨_, h.z⟩
  | some i => exact h.txt i (Po.at_lt e)
theorem K11.turned (h : K11 w0 x g gr p b) (i : Nat) (f : Fr) (hf : ∃ s : ByteArray, f.x = .string s) : ∀ k, k < (p.set i f).n → ∃ s : ByteArray, ((p.set i f).fr k).x = .string s := fun k hk => by
  by_cases e : k = i
  · rw [e, Po.set_same]; exact hf
  · rw [Po.set_ne _ _ _ _ e]; exact h.txt k hk
theorem K11.mono {c : Nat} (h : K11 w0 x g gr p b) (hc : b ≤ c) : K11 w0 x g gr p c := ⟨h.ps, h.ok.mono hc, h.z, h.txt, h.bel, h.lo⟩
theorem knew11 (k : Int) (hb : Below w0.heap.size w0 x) : Calls Try.prog 10 #[.int .i64 k] x fun e y => ∃ g gr, e = .returned (.pointer (some ⟨g, 0, none⟩)) ∧ K11 w0 y g gr (Po.new (.string ⟨#[]⟩) k) 0 ∧ x.heap.size ≤ g ∧ x.heap.size ≤ gr ∧ Below x.heap.size x y := by
  refine (new11 k x).mono ?_
  rintro e y ⟨g, gr, rfl, h1, h2, h3, h4⟩
  exact ⟨g, gr, rfl, ⟨h1, Po.new_ok _ _, rfl, fun i _ => ⟨_, rfl⟩, hb.trans (h4.mono hb.size), Nat.le_trans hb.size h2, Nat.le_trans hb.size h3⟩, h2, h3, h4⟩
theorem kget11 (id : Int) (h : K11 w0 x g gr p b) : Calls Try.prog 17 #[.pointer (some ⟨g, 0, none⟩), .int .i64 id] x fun e y => ∃ s : ByteArray, e = .returned (.tuple #[.string s, .bool (p.has id)]) ∧ p.getX id = .string s ∧ K11 w0 y g gr (p.get id) b ∧ Tn (FP g gr) x y := by
  refine (get11 id h.z h.ok.n16 h.ps).mono ?_
  rintro e y ⟨rfl, h1, h2⟩
  obtain ⟨s, hs⟩ := h.getX id
  refine ⟨s, by rw [hs], hs, h.next h1 h2 (h.ok.get id) ?_ ?_, h2⟩
  · unfold Po.get; cases p.at id <;> rfl
  · unfold Po.get
    cases e : p.at id with
    | none => exact h.txt
    | some i => exact h.turned i _ (h.txt i (Po.at_lt e))
theorem kput11 (id : Int) (s : ByteArray) (h : K11 w0 x g gr p b) : Calls Try.prog 30 #[.pointer (some ⟨g, 0, none⟩), .int .i64 id, .string s] x fun e y => e = .returned (.int .i64 (p.putE id)) ∧ K11 w0 y g gr (p.put id (.string s)) b ∧ Tn (FP g gr) x y := by
  refine (put11 id s h.ok.n16 h.ps).mono ?_
  rintro e y ⟨rfl, h1, h2⟩
  refine ⟨rfl, h.next h1 h2 (h.ok.put id _) ?_ ?_, h2⟩
  · unfold Po.put
    by_cases g1 : id < 0 ∨ 32 ≤ id
    · rw [if_pos g1]
    · rw [if_neg g1]
      by_cases g2 : p.has id = true
      · rw [if_pos g2]
      · rw [if_neg g2]
        cases p.gap <;> rfl
  · unfold Po.put
    by_cases g1 : id < 0 ∨ 32 ≤ id
    · rw [if_pos g1]; exact h.txt
    · rw [if_neg g1]
      by_cases g2 : p.has id = true
      · rw [if_pos g2]; exact h.txt
      · rw [if_neg g2]
        cases e : p.gap with
        | none => exact h.txt
        | some i => exact h.turned i _ ⟨s, rfl⟩
theorem kset11 (id : Int) (s : ByteArray) (r : Int) (h : K11 w0 x g gr p b) : Calls Try.prog 32 #[.pointer (some ⟨g, 0, none⟩), .int .i64 id, .string s, .int .u64 r] x fun e y => e = .returned (.int .i64 (p.noE id)) ∧ K11 w0 y g gr (p.setP id (.string s) r) b ∧ Tn (FP g gr) x y := by
  refine (set11 id s r h.ok.n16 h.ps).mono ?_
  rintro e y ⟨rfl, h1, h2⟩
  refine ⟨rfl, h.next h1 h2 (h.ok.setP id _ r) ?_ ?_, h2⟩
  · unfold Po.setP; cases p.at id <;> rfl
  · unfold Po.setP
    cases e : p.at id with
    | none => exact h.txt
    | some i => exact h.turned i _ ⟨s, rfl⟩
theorem kclean11 (id : Int) (h : K11 w0 x g gr p b) : Calls Try.prog 31 #[.pointer (some ⟨g, 0, none⟩), .int .i64 id] x fun e y => e = .returned (.int .i64 (p.noE id)) ∧ K11 w0 y g gr (p.clean id) (b) ∧ Tn (FP g gr) x y := by
  refine (clean11 id h.ok.n16 h.ps).mono ?_
  rintro e y ⟨rfl, h1, h2⟩
  refine ⟨rfl, h.next h1 h2 (h.ok.clean id) ?_ ?_, h2⟩
  · unfold Po.clean
    cases e : p.at id with
    | none => rfl
    | some i => rfl
  · unfold Po.clean
    cases e : p.at id with
    | none => exact h.txt
    | some i =>
      exact h.turned i _ (h.txt i (Po.at_lt e))
theorem kfix11 (id : Int) (hb : b ≤ 100000) (h : K11 w0 x g gr p b) : Calls Try.prog 34 #[.pointer (some ⟨g, 0, none⟩), .int .i64 id] x fun e y => e = .returned (.int .i64 (p.noE id)) ∧ K11 w0 y g gr (p.fix id) (b + 1) ∧ Tn (FP g gr) x y := by
  refine (fix11 id (fun i hi => Nat.le_trans (h.ok.few i hi) hb) h.ok.n16 h.ps).mono ?_
  rintro e y ⟨rfl, h1, h2⟩
  refine ⟨rfl, h.next h1 h2 (h.ok.fix id) ?_ ?_, h2⟩
  · unfold Po.fix
    cases e : p.at id with
    | none => rfl
    | some i => rfl
  · unfold Po.fix
    cases e : p.at id with
    | none => exact h.txt
    | some i =>
      exact h.turned i _ (h.txt i (Po.at_lt e))
theorem kunfix11 (id : Int) (hb : b ≤ 100000) (h : K11 w0 x g gr p b) : Calls Try.prog 27 #[.pointer (some ⟨g, 0, none⟩), .int .i64 id] x fun e y => e = .returned (.int .i64 (p.unfixE id)) ∧ K11 w0 y g gr (p.unfix id) (b) ∧ Tn (FP g gr) x y := by
  refine (unfix11 id (fun i hi => Nat.le_trans (h.ok.few i hi) hb) h.ok.n16 h.ps).mono ?_
  rintro e y ⟨rfl, h1, h2⟩
  refine ⟨rfl, h.next h1 h2 (h.ok.unfix id) ?_ ?_, h2⟩
  · unfold Po.unfix
    cases e : p.at id with
    | none => rfl
    | some i => by_cases g : (p.fr i).f = 0 <;> simp only [g, if_true, if_false] <;> rfl
  · unfold Po.unfix
    cases e : p.at id with
    | none => exact h.txt
    | some i =>
      by_cases g : (p.fr i).f = 0
      · simp only [g, if_true]
        exact h.txt
      · simp only [g, if_false]
        exact h.turned i _ (h.txt i (Po.at_lt e))
theorem kdrop11 (id : Int) (h : K11 w0 x g gr p b) : Calls Try.prog 28 #[.pointer (some ⟨g, 0, none⟩), .int .i64 id] x fun e y => e = .returned (.int .i64 (p.dropE id)) ∧ K11 w0 y g gr (p.drop id) (b) ∧ Tn (FP g gr) x y := by
  refine (drop11 id h.z h.ok.n16 h.ps).mono ?_
  rintro e y ⟨rfl, h1, h2⟩
  refine ⟨rfl, h.next h1 h2 (h.ok.drop id) ?_ ?_, h2⟩
  · unfold Po.drop
    cases e : p.at id with
    | none => rfl
    | some i => by_cases g : (p.fr i).f = 0 <;> simp only [g, if_true, if_false] <;> rfl
  · unfold Po.drop
    cases e : p.at id with
    | none => exact h.txt
    | some i =>
      by_cases g : (p.fr i).f = 0
      · simp only [g, if_true]
        exact h.turned i _ ⟨_, h.z⟩
      · simp only [g, if_false]
        exact h.txt
theorem kvic11 (h : K11 w0 x g gr p b) : Calls Try.prog 26 #[.pointer (some ⟨g, 0, none⟩)] x fun e y => e = .returned (.tuple #[.int .i64 p.vicI, .int .i64 p.vicE]) ∧ K11 w0 y g gr p.vic.1 b ∧ Tn (FP g gr) x y := by
  refine (victim11 h.ok.n16 h.ok.hn h.ps).mono ?_
  rintro e y ⟨rfl, h1, h2⟩
  refine ⟨rfl, h.next h1 h2 h.ok.vic p.vic_wanes.z (fun i hi => ?_), h2⟩
  rw [(p.vic_wanes.u i).2.2.1]
  exact h.txt i (by rw [← p.vic_wanes.n]; exact hi)
theorem krec11 (id : Int) (h : K11 w0 x g gr p b) : Calls Try.prog 33 #[.pointer (some ⟨g, 0, none⟩), .int .i64 id] x fun e y => e = .returned (.tuple #[.int .u64 (p.recN id), .bool (decide (p.recN id ≠ 0))]) ∧ K11 w0 y g gr p b ∧ Below x.heap.size x y := by
  refine (rec11 id h.ok.n16 h.ps).mono ?_
  rintro e y ⟨rfl, h1⟩
  exact ⟨rfl, h.later h1, h1⟩
theorem kpages11 (h : K11 w0 x g gr p b) : Calls Try.prog 20 #[.pointer (some ⟨g, 0, none⟩)] x fun e y => ∃ v, e = .returned v ∧ y.ownsRow x.heap.size 3 1 v (p.idsTo 32).length (intsV (p.idsTo 32)) ∧ K11 w0 y g gr p b ∧ Below x.heap.size x y := by
  refine (pages11 h.ok.n16 h.ps).mono ?_
  rintro e y ⟨v, rfl, h1, h2⟩
  exact ⟨v, rfl, h1, h.later h2, h2⟩
theorem kdirty11 (h : K11 w0 x g gr p b) : Calls Try.prog 23 #[.pointer (some ⟨g, 0, none⟩)] x fun e y => ∃ v, e = .returned v ∧ y.ownsRow x.heap.size 62 2 v (p.dirTo 32).length (dirV (p.dirTo 32)) ∧ K11 w0 y g gr p b ∧ Below x.heap.size x y := by
  refine (dirty11 h.ok.n16 h.ps).mono ?_
  rintro e y ⟨v, rfl, h1, h2⟩
  exact ⟨v, rfl, h1, h.later h2, h2⟩
end
end Go.Proofs.Ythigibgokbmehaa
