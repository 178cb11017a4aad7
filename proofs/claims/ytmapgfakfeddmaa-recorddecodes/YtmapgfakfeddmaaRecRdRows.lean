/-
  The reader of package record: rows that are read.
-/
import Derived.Test.YtmapgfakfeddmaaRecRdCh
import Derived.Laws.AppendOwn
import Derived.Laws.OwnMore
namespace Go.Proofs.Ytmapgfakfeddmaa
open Go.RowKit
set_option linter.unusedVariables false

/-! ### Read again and again -/
def itS {α : Type} (p : St → α × St) : Nat → St → St
  | 0, s => s
  | n + 1, s => itS p n (p s).2
def itL {α : Type} (p : St → α × St) : Nat → St → List α
  | 0, _ => []
  | n + 1, s => (p s).1 :: itL p n (p s).2
theorem itS_more {α : Type} (p : St → α × St) : ∀ n s, itS p (n + 1) s = (p (itS p n s)).2
  | 0, _ => rfl
  | n + 1, s => itS_more p n (p s).2
theorem itL_more {α : Type} (p : St → α × St) : ∀ n s, itL p (n + 1) s = itL p n s ++ [(p (itS p n s)).1]
  | 0, _ => rfl
  | n + 1, s => by
    show (p s).1 :: itL p (n + 1) (p s).2 = _
    rw [itL_more p n (p s).2]
    rfl
theorem itL_length {α : Type} (p : St → α × St) : ∀ n s, (itL p n s).length = n
  | 0, _ => rfl
  | n + 1, s => by
    show (itL p n (p s).2).length + 1 = n + 1
    rw [itL_length p n]
theorem itS_stick {α : Type} {p : St → α × St} (hp : Good p) : ∀ n s, s.e ≠ 0 → itS p n s = s
  | 0, _, _ => rfl
  | n + 1, s, h => by
    show itS p n (p s).2 = s
    rw [hp.stick s h]
    exact itS_stick hp n s h
theorem some_it {α : Type} {p : St → α × St} (hp : Good p) : ∀ n s, (pSome p n s).2 = itS p n s ∧ ((pSome p n s).2.e = 0 → (pSome p n s).1 = itL p n s)
  | 0, _ => ⟨rfl, fun _ => rfl⟩
  | n + 1, s => by
    by_cases h : s.e ≠ 0
    · have e : pSome p (n + 1) s = ([], s) := by rw [pSome, if_pos h]
      rw [e, itS_stick hp (n + 1) s h]
      exact ⟨rfl, fun h2 => absurd h2 h⟩
    · have e : pSome p (n + 1) s = ((p s).1 :: (pSome p n (p s).2).1, (pSome p n (p s).2).2) := by rw [pSome, if_neg h]
      have ih := some_it hp n (p s).2
      rw [e]
      refine ⟨ih.1, fun h2 => ?_⟩
      show (p s).1 :: (pSome p n (p s).2).1 = (p s).1 :: itL p n (p s).2
      rw [ih.2 h2]

/-! ### A row of structs beside the reader -/
structure TK (w x : World) (g : Nat) (a : Option Addr) (len cap : Nat) (bs : List UInt8) (s : St) (r : Rec) (va vb : Value) (T : TypeId) (sz : Nat) (v : Value) (n : Nat) (xs : List Value) (l : List (Nat × TypeId × Array Value)) : Prop where
  rk : RK w x g a len cap bs s r va vb l
  own : x.ownsRow w.heap.size T sz v n xs
  off : ∀ e ∈ l, v.ownBlock ≠ some e.1
  glt : g < w.heap.size
theorem TK.rb {w x : World} {g : Nat} {a : Option Addr} {len cap : Nat} {bs : List UInt8} {s : St} {r : Rec} {va vb : Value} {T : TypeId} {sz : Nat} {v : Value} {n : Nat} {xs : List Value} {l : List (Nat × TypeId × Array Value)} (h : TK w x g a len cap bs s r va vb T sz v n xs l) : RbAt x g a len cap bs s r va vb := h.rk.rb
theorem TK.has {w x : World} {g : Nat} {a : Option Addr} {len cap : Nat} {bs : List UInt8} {s : St} {r : Rec} {va vb : Value} {T : TypeId} {sz : Nat} {v : Value} {n : Nat} {xs : List Value} {l : List (Nat × TypeId × Array Value)} (h : TK w x g a len cap bs s r va vb T sz v n xs l) : Has x l := h.rk.has
theorem own_ne {w x : World} {T : TypeId} {sz : Nat} {v : Value} {n : Nat} {xs : List Value} (h : x.ownsRow w.heap.size T sz v n xs) {k : Nat} (hk : k < w.heap.size) : some k ≠ v.ownBlock := fun e => by
  have := (h.lt k e.symm).1
  omega
theorem TK.step {w x y : World} {g : Nat} {a : Option Addr} {len cap : Nat} {bs : List UInt8} {s s' : St} {r : Rec} {va vb : Value} {T : TypeId} {sz : Nat} {v : Value} {n : Nat} {xs : List Value} {l : List (Nat × TypeId × Array Value)} (h : TK w x g a len cap bs s r va vb T sz v n xs l) (hb : RbAt y g a len cap bs s' r va vb) (hg : x.grownBy y (some g)) (ho : Off g l) : TK w y g a len cap bs s' r va vb T sz v n xs l :=
  ⟨h.rk.step hb hg ho, h.own.kept hg (.inr (fun e => own_ne h.own h.glt e.symm)), h.off, h.glt⟩
theorem TK.put {w x : World} {g : Nat} {a : Option Addr} {len cap : Nat} {bs : List UInt8} {s : St} {r : Rec} {va vb : Value} {T : TypeId} {sz : Nat} {v : Value} {n : Nat} {xs : List Value} {b : Nat} {t : TypeId} {cs : Array Value} {l : List (Nat × TypeId × Array Value)} (h : TK w x g a len cap bs s r va vb T sz v n xs ((b, t, cs) :: l)) (hb : g < b) (hw : w.heap.size ≤ b) (hl : ∀ e ∈ l, e.1 ≠ b) (j : Nat) (u : Value) :
    TK w (x.setCell ⟨b, j, none⟩ u) g a len cap bs s r va vb T sz v n xs ((b, t, cs.setIfInBounds j u) :: l) :=
  ⟨h.rk.put hb hw hl j u, h.own.kept (grown_set u (grown_refl x (some b))) (.inr (h.off _ (List.mem_cons_self ..))), fun e he => by
    rcases List.mem_cons.1 he with rfl | he
    · exact h.off (b, t, cs) (List.mem_cons_self ..)
    · exact h.off e (List.mem_cons_of_mem _ he), h.glt⟩
/-- One more struct. -/
theorem TK.push {w x y z : World} {g : Nat} {a : Option Addr} {len cap : Nat} {bs : List UInt8} {s : St} {r : Rec} {va vb : Value} {T : TypeId} {sz : Nat} {v v' : Value} {n n' : Nat} {xs xs' : List Value} {l : List (Nat × TypeId × Array Value)} (h : TK w x g a len cap bs s r va vb T sz v n xs l) (hb : Below x.heap.size x y) (ho : z.ownsRow w.heap.size T sz v' n' xs') (hg : y.grownBy z v.ownBlock) : TK w z g a len cap bs s r va vb T sz v' n' xs' [] := by
  have h2 := h.rk.later hb
  obtain ⟨k, q1, q2, q3⟩ := h2.rb.row
  have hsz : ∀ k, k < w.heap.size → z.heap[k]? = y.heap[k]? := fun k hk => hg.block k (Nat.lt_of_lt_of_le hk h2.gr.size) (own_ne h.own hk)
  refine ⟨⟨⟨⟨k, (hsz g h.glt).trans q1, q2, q3⟩, ⟨h2.rb.bytes.1, fun hp => ?_⟩, h2.rb.room, h2.rb.apart⟩, ?_, trivial⟩, ho, fun e he => (nomatch he), h.glt⟩
  · obtain ⟨b, off, ha, hlt, hc⟩ := h2.rb.bytes.2 hp
    have hbg : b < w.heap.size := Nat.lt_trans (h2.rb.apart hp _ ha) h.glt
    exact ⟨b, off, ha, Nat.lt_of_lt_of_le hlt hg.size, fun j hj => (World.cell?_of_block (a := ⟨b, off + j, none⟩) (hsz b hbg)).trans (hc j hj)⟩
  · exact ⟨hg.os.trans h2.gr.os, hg.tape.trans h2.gr.tape, hg.output.trans h2.gr.output, Nat.le_trans h2.gr.size hg.size, fun k hk hne => (hsz k hk).trans (h2.gr.block k hk hne)⟩
/-- A new struct beside it. -/
theorem TK.more {w x y : World} {g : Nat} {a : Option Addr} {len cap : Nat} {bs : List UInt8} {s : St} {r : Rec} {va vb : Value} {T : TypeId} {sz : Nat} {v : Value} {n : Nat} {xs : List Value} (h : TK w x g a len cap bs s r va vb T sz v n xs []) (hb : Below x.heap.size x y) {t : TypeId} {cs : Array Value} (hr : RowAt y x.heap.size t cs) : TK w y g a len cap bs s r va vb T sz v n xs [(x.heap.size, t, cs)] := by
  refine ⟨⟨h.rk.rb.later hb, grown_trans h.rk.gr (of_below hb), hr, trivial⟩, h.own.kept (of_below (o := none) hb) (by cases hv : v.ownBlock <;> simp), fun e he => ?_, h.glt⟩
  simp only [List.mem_cons, List.not_mem_nil, or_false] at he
  subst he
  intro e
  have := (h.own.lt _ e).2
  exact absurd this (Nat.lt_irrefl _)

/-- append(s, x), s the call's own. -/
theorem wpList_append_row (w : World) {P : Program} {ops : Array Oper} {rest : List Oper} {o : Oper} {a : Act} {Q : Exit → Act → World → Prop} (hg : o.guard = none) (s x : Operand) (t e : TypeId) (hop : o.op = Op.call { callee := Callee.builtin Builtin.append, args := #[s, x], argTypes := #[t, t] })
    (z : Array Value) (sz by' : Nat) (ht : P.underlying t = some (.slice e)) (hi : (P.info? e).map (fun i => (i.zero, i.size, i.bytes)) = some (some (.agg z), sz, by')) (hzs : z.size = sz) (hsz : 0 < sz)
    (base : Nat) (v : Value) (n : Nat) (xs : List Value) (hs : a.eval s = v) (hown : w.ownsRow base e sz v n xs)
    (b : Nat) (c : Array Value) (hc : c.size = sz) (h1 : c.all (·.oneCell') = true) (hx : a.eval x = .slice (some ⟨b, 0, none⟩) 1 1) (hB : RowAt w b e c) (hn : n ≤ 1000) (hby : by' ≤ 1000) (hbase : base ≤ w.heap.size)
    (hK : ∀ v' w', w'.ownsRow base e sz v' (n + 1) (xs ++ c.toList) → w.grownBy w' v.ownBlock → wpList P ops Q rest (a.put o.dst v') w') :
    wpList P ops Q (o :: rest) a w := by
  obtain ⟨i, hi0, hi1⟩ := Option.map_eq_some_iff.1 hi
  simp only [Prod.mk.injEq] at hi1
  refine wpList_append_own w hg s x t hop base e i (.agg z) sz by' ht hi0 hi1.1 hi1.2.1 hi1.2.2 hzs hsz v n xs hs hown ⟨b, 0, none⟩ 1 1 c.toList hx (by rw [Array.length_toList, hc, Nat.one_mul]) ?_ ?_ (by unfold maxLen; omega) ?_ hbase (fun v' w' h1 h2 _ => hK v' w' h1 h2)
  · intro j u hu
    rw [Array.getElem?_toList] at hu
    rw [Addr.add_lit, Nat.zero_add]
    exact hB.cell j u hu
  · intro u hu
    rw [Array.all_eq_true'] at h1
    exact h1 u (by simpa using hu)
  · have : (n + 1) * by' ≤ 1001 * 1000 := Nat.mul_le_mul (by omega) hby
    omega
theorem row_new2 (w : World) (t : TypeId) (cs : Array Value) {g : Nat} (hg : w.heap.size = g) : RowAt (w.alloc (.cells cs t)) g t cs := by
  subst hg
  exact RowAt.new w t cs
theorem infoTx3 : (Try.prog.info? 65).map (fun i => (i.zero, i.size, i.bytes)) = some (some (.agg #[.int .i64 0, .int .i64 0, .int .u64 0, .int .u64 0, .int .u64 0]), 5, 40) := by kernel_rfl
theorem infoDi3 : (Try.prog.info? 67).map (fun i => (i.zero, i.size, i.bytes)) = some (some (.agg #[.int .i64 0, .int .u64 0]), 2, 16) := by kernel_rfl
def flatT (ts : List Tx) : List Value := ts.flatMap fun x => (txA x).toList
def flatD (ts : List Di) : List Value := ts.flatMap fun x => (diA x).toList
end Go.Proofs.Ytmapgfakfeddmaa
