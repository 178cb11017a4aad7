/-
  A map from owners to locks, in memory: what it tells of each owner.
-/
import Derived.Test.YtmlbghloddiflaaLkFree
import Derived.Maps.OwnSet
namespace Go.Proofs.Ytmlbghloddiflaa
open Go.RowKit Go.Maps
set_option linter.unusedVariables false

/-- How a lock in a map is read. -/
def hdR (v : Value) : Option (DataW Hd × List MemPlace) := match v with
  | .agg cs => match cs.toList with
    | [.int .i64 a, .int .i64 b, .int .i64 c] => some (.held ⟨a, b, c⟩, [])
    | _ => none
  | _ => none
theorem hdR_mk (h : Hd) : hdR (.agg (hdA h)) = some (.held h, []) := rfl
theorem hdR_inv {v : Value} {h : Hd} {ps : List MemPlace} (e : hdR v = some (.held h, ps)) : v = .agg (hdA h) := by
  unfold hdR at e
  split at e
  · rename_i cs
    split at e
    · rename_i a b c hl
      simp only [Option.some.injEq, Prod.mk.injEq, DataW.held.injEq] at e
      obtain ⟨rfl, _⟩ := e
      have : cs = (cs.toList).toArray := by simp
      rw [this, hl]
      rfl
    · cases e
  · cases e
theorem law13 : Keyed Try.prog 3 := int_keyed Try.underlying3
theorem zeroH13 (w : World) : (zeroValue 46).run Try.prog w = .ok (.agg (hdA hdZ)) w := by kernel_rfl
/-- How many a map's block has. -/
def mapSize (y : World) (b : Nat) : Nat := match y.heap[b]? with
  | some (.map es _) => es.size
  | _ => 0
def wfI (k : Int) : Prop := (Lit.int .i64 k).wf = true
/-- The map in block b: what it tells of each number, how many it has at most. -/
def MapAt (y : World) (b n : Nat) (M : Int → Option Hd) : Prop := ∃ D : DataW Hd, y.ownsMap Try.prog 3 hdR b n D ∧ ∀ k, wfI k → Maps.has D (.int .i64 k) = (M k).isSome ∧ ∀ h, M k = some h → D.atKey (.int .i64 k) (.held hdZ) = .held h
theorem own_size {y : World} {b n : Nat} {D : DataW Hd} (h : y.ownsMap Try.prog 3 hdR b n D) : mapSize y b = Maps.size D := by
  obtain ⟨es, clock, hb, F, _, rfl⟩ := h
  unfold mapSize
  rw [hb]
  simp [Maps.size, length_sorted]
theorem MapAt.le {y : World} {b n : Nat} {M : Int → Option Hd} (h : MapAt y b n M) : mapSize y b ≤ n := by
  obtain ⟨D, h1, _⟩ := h
  rw [own_size h1]
  exact h1.size_le
theorem MapAt.made (w : World) : MapAt (w.alloc (.map #[] 0)) w.heap.size 0 (fun _ => none) := ⟨_, World.ownsMap_made w _ _ _, fun k _ => ⟨rfl, fun h e => nomatch e⟩⟩
theorem MapAt.keep {y z : World} {b n : Nat} {M : Int → Option Hd} (h : MapAt y b n M) (hb : z.heap[b]? = y.heap[b]?) : MapAt z b n M := by
  obtain ⟨D, ⟨es, clock, h1, h2⟩, h3⟩ := h
  exact ⟨D, ⟨es, clock, hb.trans h1, h2⟩, h3⟩
theorem MapAt.lt {y : World} {b n : Nat} {M : Int → Option Hd} (h : MapAt y b n M) : b < y.heap.size := by
  obtain ⟨D, h1, _⟩ := h
  exact h1.lt
theorem MapAt.later {y z : World} {b n : Nat} {M : Int → Option Hd} (h : MapAt y b n M) (q : Below y.heap.size y z) : MapAt z b n M := h.keep (q.block b h.lt)
theorem MapAt.not_row {y : World} {b n : Nat} {M : Int → Option Hd} (h : MapAt y b n M) {k : Nat} {t : TypeId} {cs : Array Value} (hr : RowAt y k t cs) : k ≠ b := fun e => by
  obtain ⟨D, ⟨es, clock, h1, _⟩, _⟩ := h
  have h2 : y.heap[k]? = some (.cells cs t (0, 0)) := hr
  rw [e, h1] at h2
  cases h2
theorem MapAt.look {y : World} {b n : Nat} {M : Int → Option Hd} (h : MapAt y b n M) {k : Int} (hk : wfI k) : (Instr.lookup 98 (.map (some b)) (.int .i64 k) true).run Try.prog y = .ok (.tuple #[.agg (hdA ((M k).getD hdZ)), .bool (M k).isSome]) y := by
  obtain ⟨D, h1, h2⟩ := h
  obtain ⟨v, ps, hrun, hv⟩ := h1.look_ok law13 Try.underlying98 (zeroH13 y) (hdR_mk hdZ) (keyOf_int_mk Try.underlying3 hk)
  rw [hrun, (h2 k hk).1]
  have e : v = .agg (hdA ((M k).getD hdZ)) := by
    cases hm : M k with
    | none =>
      have h3 := (h2 k hk).1
      rw [hm] at h3
      rw [atKey_of_not_has h3] at hv
      exact hdR_inv hv
    | some q =>
      rw [(h2 k hk).2 q hm] at hv
      exact hdR_inv hv
  rw [e]
def putM (M : Int → Option Hd) (k : Int) (q : Hd) : Int → Option Hd := fun a => if a = k then some q else M a
theorem wf_ne {a b : Int} (h : a ≠ b) : Lit.int .i64 a ≠ .int .i64 b := fun e => by
  injection e with _ e
  exact h e
theorem key_lit (k : Int) : WideAt.IsKeyLit (.int .i64 k) := by simp [WideAt.IsKeyLit]
theorem MapAt.put {y : World} {b n : Nat} {M : Int → Option Hd} (h : MapAt y b n M) {k : Int} (hk : wfI k) (q : Hd) (hn : n < maxLen) : ∃ y', (Instr.mapUpdate 98 (.map (some b)) (.int .i64 k) (.agg (hdA q))).run Try.prog y = .ok () y' ∧ MapAt y' b (n + 1) (putM M k q) ∧ Tn (Is b) y y' := by
  obtain ⟨D, h1, h2⟩ := h
  obtain ⟨y', hrun, r1, r2⟩ := h1.update law13 Try.underlying98 hn (keyOf_int_mk Try.underlying3 hk) (hdR_mk q)
  refine ⟨y', hrun, ⟨_, r1, fun a ha => ?_⟩, Tn.of_grown r2 (fun j hj => (Option.some.inj hj).symm)⟩
  unfold putM
  by_cases e : a = k
  · subst e
    rw [if_pos rfl]
    exact ⟨has_put_same h1.isMap (key_lit a) _, fun h' e' => by
      have e2 := Option.some.inj e'
      rw [← e2]
      exact atKey_put_same h1.isMap (key_lit a) _ _⟩
  · rw [if_neg e, has_put_other (wf_ne e)]
    exact ⟨(h2 a ha).1, fun h' e' => by rw [atKey_put_other (wf_ne e)]; exact (h2 a ha).2 h' e'⟩
theorem MapAt.drop {y : World} {b n : Nat} {M : Int → Option Hd} (h : MapAt y b n M) {k : Int} (hk : wfI k) {q : Hd} (hq : M k = some q) (ty : TypeId) : ∃ y', (Builtin.delete_ #[98, 3] ty #[.map (some b), .int .i64 k]).run Try.prog y = .ok (.tuple #[]) y' ∧ MapAt y' b n (dropM M k) ∧ mapSize y' b + 1 = mapSize y b ∧ Tn (Is b) y y' := by
  obtain ⟨D, h1, h2⟩ := h
  obtain ⟨y', hrun, r1, r2⟩ := h1.drop law13 Try.underlying98 (keyOf_int_mk Try.underlying3 hk) ty
  refine ⟨y', hrun, ⟨_, r1, fun a ha => ?_⟩, ?_, Tn.of_grown r2.grown (fun j hj => (Option.some.inj hj).symm)⟩
  · unfold dropM
    by_cases e : a = k
    · subst e
      rw [if_pos rfl]
      exact ⟨has_del_same, fun h' e' => nomatch e'⟩
    · rw [if_neg e, has_del_other (wf_ne e)]
      exact ⟨(h2 a ha).1, fun h' e' => by rw [atKey_del_other (wf_ne e)]; exact (h2 a ha).2 h' e'⟩
  · rw [own_size r1, own_size h1]
    have h3 := (h2 k hk).1
    rw [hq] at h3
    have h4 := size_del (k := .int .i64 k) (h1.tidy law13)
    rw [h3] at h4
    simpa using h4
end Go.Proofs.Ytmlbghloddiflaa
