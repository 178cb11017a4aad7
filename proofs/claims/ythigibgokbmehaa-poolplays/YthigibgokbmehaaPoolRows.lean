/-
  The pages of a pool, and the dirty ones, as lists; rows of one's own that grow. Of one program's types.
-/
import Derived.Test.YthigibgokbmehaaPoolMem
import Derived.Test.YthigibgokbmehaaPackMath
import Derived.Test.YthigibgokbmehaaProg
namespace Go.Proofs.Ythigibgokbmehaa
open Go.RowKit
set_option linter.unusedVariables false

def Po.idsTo (p : Po) : Nat → List Int
  | 0 => []
  | k + 1 => p.idsTo k ++ if p.has (k : Int) = true then [(k : Int)] else []
def Po.dirTo (p : Po) : Nat → List (Int × Int)
  | 0 => []
  | k + 1 => p.dirTo k ++ if p.recN (k : Int) = 0 then [] else [((k : Int), p.recN (k : Int))]
theorem Po.idsTo_no (p : Po) (k : Nat) (h : p.has (k : Int) = false) : p.idsTo (k + 1) = p.idsTo k := by
  rw [Po.idsTo, h, if_neg (by decide), List.append_nil]
theorem Po.idsTo_yes (p : Po) (k : Nat) (h : p.has (k : Int) = true) : p.idsTo (k + 1) = p.idsTo k ++ [(k : Int)] := by
  rw [Po.idsTo, if_pos h]
theorem Po.dirTo_no (p : Po) (k : Nat) (h : p.recN (k : Int) = 0) : p.dirTo (k + 1) = p.dirTo k := by
  rw [Po.dirTo, if_pos h, List.append_nil]
theorem Po.dirTo_yes (p : Po) (k : Nat) (h : ¬ p.recN (k : Int) = 0) : p.dirTo (k + 1) = p.dirTo k ++ [((k : Int), p.recN (k : Int))] := by
  rw [Po.dirTo, if_neg h]
theorem Po.idsTo_len (p : Po) : ∀ k, (p.idsTo k).length ≤ k
  | 0 => Nat.le_refl _
  | k + 1 => by
    unfold Po.idsTo
    have := p.idsTo_len k
    by_cases h : p.has (k : Int) = true
    · rw [if_pos h, List.length_append]; simp; omega
    · rw [if_neg h, List.append_nil]; omega
theorem Po.dirTo_len (p : Po) : ∀ k, (p.dirTo k).length ≤ k
  | 0 => Nat.le_refl _
  | k + 1 => by
    unfold Po.dirTo
    have := p.dirTo_len k
    by_cases h : p.recN (k : Int) = 0
    · rw [if_pos h, List.append_nil]; omega
    · rw [if_neg h, List.length_append]; simp; omega
def intsV (l : List Int) : List Value := l.map (.int .i64 ·)
def dirV (l : List (Int × Int)) : List Value := (l.map fun x => [Value.int .i64 x.1, Value.int .u64 x.2]).flatten
theorem intsV_snoc (l : List Int) (x : Int) : intsV (l ++ [x]) = intsV l ++ [.int .i64 x] := by simp [intsV]
theorem dirV_snoc (l : List (Int × Int)) (x : Int × Int) : dirV (l ++ [x]) = dirV l ++ [.int .i64 x.1, .int .u64 x.2] := by simp [dirV]
theorem dirV_len : ∀ l : List (Int × Int), (dirV l).length = l.length * 2
  | [] => rfl
  | x :: l => by
    have := dirV_len l
    unfold dirV at this ⊢
    rw [List.map_cons, List.flatten_cons, List.length_append, this, List.length_cons]
    simp
    omega
theorem infoI11 : (Try.prog.info? 3).map (fun i => (i.zero, i.size, i.bytes)) = some (some (.int .i64 0), 1, 8) := by kernel_rfl
theorem infoD11 : (Try.prog.info? 62).map (fun i => (i.zero, i.size, i.bytes)) = some (some (.agg #[.int .i64 0, .int .u64 0]), 2, 16) := by kernel_rfl
theorem own11_later {x y : World} {B n : Nat} {e : TypeId} {sz : Nat} {v : Value} {xs : List Value} (h : x.ownsRow B e sz v n xs) (hb : Below x.heap.size x y) : y.ownsRow B e sz v n xs := by
  obtain ⟨h1, h2⟩ := h
  refine ⟨h1, h2.imp id ?_⟩
  rintro ⟨g, cap, cur, a, b, c, d⟩
  exact ⟨g, cap, cur, a, b, RowAt.later (show RowAt x g e cur from c) hb, d⟩
theorem own11_below {w0 x y : World} {B n : Nat} {e : TypeId} {sz : Nat} {v : Value} {xs : List Value} (h : x.ownsRow B e sz v n xs) (hb : Below B w0 x) (hB : B ≤ x.heap.size) (hg : x.grownBy y v.ownBlock) : Below B w0 y := by
  have key : ∀ k, some k = v.ownBlock → B ≤ k := by
    intro k hk
    rcases h.2 with ⟨rfl, _⟩ | ⟨g, cap, cur, rfl, hB, _⟩
    · cases hk
    · injection hk with hk
      rw [hk]
      exact hB
  refine ⟨hg.os.trans hb.1, hg.tape.trans hb.2, hg.output.trans hb.3, Nat.le_trans hb.4 hg.size, fun k hk => ?_⟩
  exact (hg.block k (by omega) (fun e => by have := key k e; omega)).trans (hb.5 k hk)
theorem intsV_get (l : List Int) (j : Nat) (h : j < l.length) : (intsV l)[j]? = some (.int .i64 (l.getD j 0)) := by
  simp [intsV, List.getD, List.getElem?_eq_getElem h]
theorem own11_turn {F : Nat → Prop} {x y : World} {B n : Nat} {e : TypeId} {sz : Nat} {v : Value} {xs : List Value} (h : x.ownsRow B e sz v n xs) (q : Tn F x y) (hF : ∀ k, F k → k < B) : y.ownsRow B e sz v n xs := by
  obtain ⟨h1, h2⟩ := h
  refine ⟨h1, h2.imp id ?_⟩
  rintro ⟨g, cap, cur, a, b, c, d⟩
  exact ⟨g, cap, cur, a, b, q.row (show RowAt x g e cur from c) (fun hf => by have := hF g hf; omega), d⟩
/-- append(s, x) of one element, s the call's own. -/
theorem wpList_append_st (w : World) {ops : Array Oper} {rest : List Oper} {o : Oper} {a : Act} {Q : Exit → Act → World → Prop} (tS tE : TypeId) (size bytes : Nat) (z : Value) (hu : Try.prog.underlying tS = some (.slice tE)) (hI : (Try.prog.info? tE).map (fun i => (i.zero, i.size, i.bytes)) = some (some z, size, bytes)) (hzs : z.cells.size = size) (hpos : 0 < size) (hby : bytes ≤ 1000)
    (hg : o.guard = none) (s x : Operand) (hop : o.op = Op.call { callee := Callee.builtin Builtin.append, args := #[s, x], argTypes := #[tS, tS] })
    (base : Nat) (v : Value) (n : Nat) (xs : List Value) (hs : a.eval s = v) (hown : w.ownsRow base tE size v n xs)
    (b : Nat) (cs : Array Value) (hx : a.eval x = .slice (some ⟨b, 0, none⟩) 1 1) (hB : RowAt w b tE cs) (hcs : cs.size = size) (hone : cs.all (·.oneCell') = true) (hz : n ≤ 1000) (hbase : base ≤ w.heap.size)
    (hK : ∀ v' w', w'.ownsRow base tE size v' (n + 1) (xs ++ cs.toList) → w.grownBy w' v.ownBlock → wpList Try.prog ops Q rest (a.put o.dst v') w') :
    wpList Try.prog ops Q (o :: rest) a w := by
  obtain ⟨i, hi0, hi1⟩ := Option.map_eq_some_iff.1 hI
  simp only [Prod.mk.injEq] at hi1
  refine wpList_append_own w hg s x tS hop base tE i z size bytes hu hi0 hi1.1 hi1.2.1 hi1.2.2 hzs hpos v n xs hs hown ⟨b, 0, none⟩ 1 1 cs.toList hx (by rw [Array.length_toList, hcs, Nat.one_mul]) ?_ ?_ (by unfold maxLen; omega) ?_ hbase (fun v' w' h1 h2 _ => hK v' w' h1 h2)
  · intro j u hu
    rw [Array.getElem?_toList] at hu
    rw [Addr.add_lit, Nat.zero_add]
    exact hB.cell j u hu
  · intro u hu
    rw [Array.all_eq_true'] at hone
    exact hone u (by simpa using hu)
  · have := Nat.mul_le_mul (show n + 1 ≤ 1001 by omega) hby
    omega
end Go.Proofs.Ythigibgokbmehaa
