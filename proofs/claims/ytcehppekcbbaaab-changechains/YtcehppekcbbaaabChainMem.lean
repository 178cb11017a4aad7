/-
  Changes in a row that the call owns, and a page beside it.
-/
import Derived.Test.YtcehppekcbbaaabChainMath
import Derived.Test.YtcehppekcbbaaabRowsKept
import Derived.Test.YtcehppekcbbaaabRowLoad
import Derived.Laws.AppendOwn
import Derived.Laws.OwnMore
namespace Go.Proofs.Ytcehppekcbbaaab
open Go.RowKit
set_option linter.unusedVariables false

theorem infoPg : (Try.prog.info? 29).map (·.size) = some 17 := by kernel_rfl
theorem infoCs3 : (Try.prog.info? 34).map (fun i => (i.zero, i.size, i.bytes)) = some (some (.agg (chA Ch.zero)), 5, 56) := by kernel_rfl

/-- append(s, c), s the call's own. -/
theorem wpList_append_ch (w : World) {ops : Array Oper} {rest : List Oper} {o : Oper} {a : Act} {Q : Exit → Act → World → Prop} (hg : o.guard = none) (s x : Operand) (hop : o.op = Op.call { callee := Callee.builtin Builtin.append, args := #[s, x], argTypes := #[30, 30] })
    (base : Nat) (v : Value) (n : Nat) (xs : List Value) (hs : a.eval s = v) (hown : w.ownsRow base 34 5 v n xs)
    (b : Nat) (c : Ch) (hx : a.eval x = .slice (some ⟨b, 0, none⟩) 1 1) (hB : RowAt w b 34 (chA c)) (hz : n ≤ 1000) (hbase : base ≤ w.heap.size)
    (hK : ∀ v' w', w'.ownsRow base 34 5 v' (n + 1) (xs ++ (chA c).toList) → w.grownBy w' v.ownBlock → wpList Try.prog ops Q rest (a.put o.dst v') w') :
    wpList Try.prog ops Q (o :: rest) a w := by
  obtain ⟨i, hi0, hi1⟩ := Option.map_eq_some_iff.1 infoCs3
  simp only [Prod.mk.injEq] at hi1
  refine wpList_append_own w hg s x 30 hop base 34 i (.agg (chA Ch.zero)) 5 56 Try.underlying30 hi0 hi1.1 hi1.2.1 hi1.2.2 rfl (by omega) v n xs hs hown ⟨b, 0, none⟩ 1 1 (chA c).toList hx rfl ?_ ?_ (by unfold maxLen; omega) (by omega) hbase (fun v' w' h1 h2 _ => hK v' w' h1 h2)
  · intro j u hu
    rw [Array.getElem?_toList] at hu
    rw [Addr.add_lit, Nat.zero_add]
    exact hB.cell j u hu
  · intro u hu
    have h := chA_one c
    rw [Array.all_eq_true'] at h
    exact h u (by simpa using hu)

/-- The page, the changes so far, and structs beside them. -/
def CK (w : World) (g : Nat) (rs : List Ch) (p : Pg) (v : Value) (x : World) (l : List (Nat × TypeId × Array Value)) : Prop :=
  PgAt x g p ∧ x.ownsRow (g + 1) 34 5 v rs.length (flatC rs.reverse) ∧ Below w.heap.size w x ∧ w.heap.size ≤ g ∧ Has x l
theorem own_later {x y : World} {B n : Nat} {e : TypeId} {sz : Nat} {v : Value} {xs : List Value} (h : x.ownsRow B e sz v n xs) (hb : Below x.heap.size x y) : y.ownsRow B e sz v n xs := by
  obtain ⟨h1, h2⟩ := h
  refine ⟨h1, h2.imp id ?_⟩
  rintro ⟨g, cap, cur, a, b, c, d⟩
  exact ⟨g, cap, cur, a, b, RowAt.later (show RowAt x g e cur from c) hb, d⟩
theorem CK.later {w : World} {g : Nat} {rs : List Ch} {p : Pg} {v : Value} {x y : World} {l : List (Nat × TypeId × Array Value)} (h : CK w g rs p v x l) (hb : Below x.heap.size x y) : CK w g rs p v y l :=
  ⟨h.1.below hb h.1.lt, own_later h.2.1 hb, h.2.2.1.trans (hb.mono h.2.2.1.size), h.2.2.2.1, h.2.2.2.2.later hb⟩
theorem CK.drew {w : World} {g : Nat} {rs : List Ch} {p : Pg} {v : Value} {x : World} {l : List (Nat × TypeId × Array Value)} (h : CK w g rs p v x l) : CK w g rs p v x.drew l :=
  ⟨h.1, h.2.1, below_dn h.2.2.1 1, h.2.2.2.1, h.2.2.2.2.drew⟩
theorem CK.more {w : World} {g : Nat} {rs : List Ch} {p : Pg} {v : Value} {x y : World} {l : List (Nat × TypeId × Array Value)} (h : CK w g rs p v x l) (hb : Below x.heap.size x y) {b : Nat} {t : TypeId} {cs : Array Value} (hr : RowAt y b t cs) : CK w g rs p v y ((b, t, cs) :: l) := by
  have h2 := h.later hb
  exact ⟨h2.1, h2.2.1, h2.2.2.1, h2.2.2.2.1, hr, h2.2.2.2.2⟩
theorem CK.laid {w : World} {g : Nat} {rs : List Ch} {p : Pg} {v : Value} {x y : World} {l : List (Nat × TypeId × Array Value)} (h : CK w g rs p v x l) {o : Obj} {t : TypeId} {cs : Array Value} (hr : RowAt y x.heap.size t cs) (hk : ∀ B w0, Below B w0 (x.alloc o) → B ≤ x.heap.size → Below B w0 y) : CK w g rs p v y ((x.heap.size, t, cs) :: l) :=
  h.more (hk _ _ ((Below.refl x.heap.size x).alloc (Nat.le_refl _) _) (Nat.le_refl _)) hr
theorem CK.drop {w : World} {g : Nat} {rs : List Ch} {p : Pg} {v : Value} {x : World} {l : List (Nat × TypeId × Array Value)} (h : CK w g rs p v x l) : CK w g rs p v x [] := ⟨h.1, h.2.1, h.2.2.1, h.2.2.2.1, trivial⟩
/-- Another page stored over the page. -/
theorem CK.put {w : World} {g : Nat} {rs : List Ch} {p q : Pg} {v : Value} {x y : World} {l : List (Nat × TypeId × Array Value)} (h : CK w g rs p v x l) (hr : RowAt y g 29 (pgA q)) (hk : ∀ B w0, Below B w0 x → B ≤ g → Below B w0 y) (ho : ∀ k t c, k ≠ g → RowAt x k t c → RowAt y k t c) : CK w g rs q v y [] := by
  refine ⟨hr, ⟨h.2.1.1, h.2.1.2.imp id ?_⟩, hk _ _ h.2.2.1 h.2.2.2.1, h.2.2.2.1, trivial⟩
  rintro ⟨g', cap, cur, a, b, c, d⟩
  exact ⟨g', cap, cur, a, b, ho _ _ _ (by omega) (show RowAt x g' _ cur from c), d⟩
/-- A change laid cell by cell into a block beside. -/
theorem CK.set5 {w : World} {g : Nat} {rs : List Ch} {p : Pg} {v : Value} {x : World} {b : Nat} (h : CK w g rs p v x [(b, 34, chA Ch.zero)]) (hb : g < b) (hn : ∀ k, v.ownBlock = some k → k < b) (c : Ch) :
    CK w g rs p v (((((x.setCell ⟨b, 0, none⟩ (.int .i64 c.k)).setCell ⟨b, 1, none⟩ (.int .i64 c.pg)).setCell ⟨b, 2, none⟩ (.int .i64 c.sl)).setCell ⟨b, 3, none⟩ (.string c.o)).setCell ⟨b, 4, none⟩ (.string c.n)) [(b, 34, chA c)] := by
  have hg : g ≠ b := by omega
  have hk : w.heap.size ≤ b := by have := h.2.2.2.1; omega
  refine ⟨((((h.1.other _ _ hg).other _ _ hg).other _ _ hg).other _ _ hg).other _ _ hg, ⟨h.2.1.1, h.2.1.2.imp id ?_⟩, ((((h.2.2.1.setCell hk _).setCell hk _).setCell hk _).setCell hk _).setCell hk _, h.2.2.2.1, ?_, trivial⟩
  · rintro ⟨g', cap, cur, a, b', c', d⟩
    have hg' : g' ≠ b := by
      have := hn g' (by rw [a]; rfl)
      omega
    exact ⟨g', cap, cur, a, b', RowAt.other (RowAt.other (RowAt.other (RowAt.other (RowAt.other (show RowAt x g' _ cur from c') _ _ hg') _ _ hg') _ _ hg') _ _ hg') _ _ hg', d⟩
  · exact ((((h.2.2.2.2.1.set 0 (.int .i64 c.k)).set 1 (.int .i64 c.pg)).set 2 (.int .i64 c.sl)).set 3 (.string c.o)).set 4 (.string c.n)
/-- One more change. -/
theorem CK.push {w : World} {g : Nat} {rs : List Ch} {p : Pg} {v v' : Value} {x y : World} {l : List (Nat × TypeId × Array Value)} (h : CK w g rs p v x l) (c : Ch) (ho : y.ownsRow (g + 1) 34 5 v' (rs.length + 1) (flatC rs.reverse ++ (chA c).toList)) (hg : x.grownBy y v.ownBlock) : CK w g (c :: rs) p v' y [] := by
  have hn : ∀ k, k ≤ g → some k ≠ v.ownBlock := fun k hk e => by
    have := (h.2.1.lt k e.symm).1
    omega
  refine ⟨?_, ?_, ⟨hg.os.trans h.2.2.1.os, hg.tape.trans h.2.2.1.tape, hg.output.trans h.2.2.1.output, Nat.le_trans h.2.2.1.size hg.size, fun k hk => ?_⟩, h.2.2.2.1, trivial⟩
  · exact (hg.block g h.1.lt (hn g (Nat.le_refl _))).trans h.1
  · rw [List.reverse_cons, flatC_snoc]
    exact ho
  · exact (hg.block k (Nat.lt_of_lt_of_le hk h.2.2.1.size) (hn k (by have := h.2.2.2.1; omega))).trans (h.2.2.1.block k hk)
/-- The change at a place of the row. -/
theorem CK.at {w : World} {g : Nat} {dn r : List Ch} {c : Ch} {p : Pg} {v : Value} {x : World} {l : List (Nat × TypeId × Array Value)} (h : CK w g (dn ++ c :: r) p v x l) :
    ∃ b cap, v = .slice (some ⟨b, 0, none⟩) (dn ++ c :: r).length cap ∧ (dn ++ c :: r).length ≤ cap ∧ x.rangeAt b (r.length * 5) (chA c).toList := by
  have ho := h.2.1
  obtain ⟨h1, h2 | ⟨b, cap, cur, h3, h4, h5, h6, h7, h8, h9⟩⟩ := h.2.1
  · exact absurd h2.2 (by simp)
  · refine ⟨b, cap, h3, h6, fun j u hu => ?_⟩
    rw [h3] at ho
    have hj : j < 5 := (List.getElem?_eq_some_iff.1 hu).1
    have hlen : (dn ++ c :: r).length = dn.length + (r.length + 1) := by simp
    rw [ho.cellAt (r.length * 5 + j) (by rw [hlen]; omega)]
    have e : (dn ++ c :: r).reverse = r.reverse ++ c :: dn.reverse := by simp
    rw [e]
    have h10 := flatC_at r.reverse dn.reverse c j hj
    rw [List.length_reverse] at h10
    rw [h10, ← Array.getElem?_toList]
    exact hu
theorem load_at_row {x : World} {b o : Nat} {c : Ch} (h : x.rangeAt b o (chA c).toList) : (Instr.loadAt 34 (.pointer (some ⟨b, o, none⟩))).run Try.prog x = .ok (.agg (chA c)) x := by
  have h1 := run_loadAt_mid (P := Try.prog) x b o 34 _ _ h Try.underlying34 rfl infoCh
  rwa [Array.toArray_toList] at h1
theorem wpList_load_ch {ops : Array Oper} {rest : List Oper} {o : Oper} {a : Act} {w : World} {Q : Exit → Act → World → Prop} (hw : Region.wanted o (yielded ops a.tmps) = true) (x : Operand) (ho : o.op = .load 34 x)
    (b k : Nat) (c : Ch) (hx : a.eval x = .pointer (some ⟨b, k, none⟩)) (hg : w.rangeAt b k (chA c).toList) (h : wpList Try.prog ops Q rest (a.put o.dst (.agg (chA c))) w) : wpList Try.prog ops Q (o :: rest) a w :=
  wpList_step fun K hK => by
    simp only [hw, if_true]
    unfold Oper.wp execOp
    simp only [ho, hx, Sem.run_bind, load_at_row hg, Result.andThen_ok, Sem.run_pure]
    exact hK _ _ h
end Go.Proofs.Ytcehppekcbbaaab
