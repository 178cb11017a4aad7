/-
  The document's Decode: rows that are read, and kept beside the record.
-/
import Derived.Test.YtmapgfakfeddmaaRecRefDecX
namespace Go.Proofs.Ytmapgfakfeddmaa
open Go.RowKit
set_option linter.unusedVariables false

theorem exit_state {α : Type} {p : St → α × St} (hp : Good p) {n j : Nat} {s : St} (hj : j ≤ n) (h : j = n ∨ (itS p j s).e ≠ 0) : (pSome p n s).2 = itS p j s ∧ ((itS p j s).e = 0 → (pSome p n s).1 = itL p j s) := by
  have h1 := some_it hp n s
  rcases h with rfl | h
  · exact ⟨h1.1, fun h => h1.2 (by rw [h1.1]; exact h)⟩
  · refine ⟨?_, fun h2 => absurd h2 h⟩
    rw [h1.1, show n = j + (n - j) by omega, itS_add]
    exact itS_stick hp _ _ h
/-- A struct beside it, in a new block. -/
theorem DK.more {w y z : World} {gr g gx : Nat} {b : ByteArray} {s : St} {r : Rec} {va vb : Value} (h : DK w y gr g gx b s r va vb []) (hb : Below y.heap.size y z) {t : TypeId} {cs : Array Value} (hr : RowAt z y.heap.size t cs) : DK w z gr g gx b s r va vb [(y.heap.size, t, cs)] := by
  have h2 := h.later hb
  exact ⟨h2.rd, h2.xr, h2.zr, h2.bel, h2.got, hr, trivial⟩
/-- .. a cell of which is written. -/
theorem DK.put {w y : World} {gr g gx k : Nat} {b : ByteArray} {s : St} {r : Rec} {va vb : Value} {t : TypeId} {cs : Array Value} (h : DK w y gr g gx b s r va vb [(k, t, cs)]) (h1 : k ≠ g) (h2 : gx ≠ k) (h3 : gr ≠ k) (h4 : w.heap.size ≤ k) (h5 : va.ownBlock ≠ some k ∧ vb.ownBlock ≠ some k) (j : Nat) (u : Value) : DK w (y.setCell ⟨k, j, none⟩ u) gr g gx b s r va vb [(k, t, cs.setIfInBounds j u)] := by
  have hg := grown_set (g := k) (j := j) u (grown_refl y (some k))
  exact ⟨rd_other h.rd h1 j u, h.xr.other _ _ h2, h.zr.other _ _ h3, h.bel.set1 h4 j u, ⟨h.got.1.kept hg (.inr h5.1), h.got.2.kept hg (.inr h5.2)⟩, h.has.1.set j u, trivial⟩
theorem load_v25 {b j : Nat} (x : World) (v : Value) (a : Option Addr) (n c : Nat) (hv : v = .slice a n c) (h : x.cell? ⟨b, j, none⟩ = some v) : (Instr.loadAt 25 (.pointer (some ⟨b, j, none⟩))).run Try.prog x = .ok v x := by
  subst hv
  go_simp
theorem load_v26 {b j : Nat} (x : World) (v : Value) (a : Option Addr) (n c : Nat) (hv : v = .slice a n c) (h : x.cell? ⟨b, j, none⟩ = some v) : (Instr.loadAt 26 (.pointer (some ⟨b, j, none⟩))).run Try.prog x = .ok v x := by
  subst hv
  go_simp
/-- What lies at other blocks than the row's is kept when the row grows. -/
theorem row_own {y z : World} {base n sz k : Nat} {e t : TypeId} {v : Value} {xs : List Value} {cs : Array Value} (h : y.ownsRow base e sz v n xs) (hg : y.grownBy z v.ownBlock) (hr : RowAt y k t cs) (ht : t ≠ e) : RowAt z k t cs := (hg.block k hr.lt (fun e => own_type h hr ht e.symm)).trans hr
theorem below_own {w y z : World} {n sz : Nat} {e : TypeId} {v : Value} {xs : List Value} (h : y.ownsRow w.heap.size e sz v n xs) (hb : Below w.heap.size w y) (hg : y.grownBy z v.ownBlock) : Below w.heap.size w z :=
  ⟨hg.os.trans hb.os, hg.tape.trans hb.tape, hg.output.trans hb.output, Nat.le_trans hb.size hg.size, fun k hk => (hg.block k (Nat.lt_of_lt_of_le hk hb.size) (own_ne h hk)).trans (hb.block k hk)⟩
/-- One more row of the first list. -/
theorem DK.pushT {w y z : World} {gr g gx : Nat} {b : ByteArray} {s : St} {r r' : Rec} {va vb v' : Value} {l : List (Nat × TypeId × Array Value)} (h : DK w y gr g gx b s r va vb l) (L : Lie w gr g gx) (hg : y.grownBy z va.ownBlock) (ho : z.ownsRow w.heap.size 65 5 v' r'.ts.length (flatT r'.ts)) (hd : r'.ds = r.ds) (hs : (rcA r va vb).setIfInBounds 12 v' = rcA r' v' vb) : RowAt z gx 28 (rcA r va vb) ∧ DK w (z.setCell ⟨gx, 12, none⟩ v') gr g gx b s r' v' vb [] := by
  obtain ⟨k, q1, q2, q3⟩ := h.rd
  have x1 := row_own h.got.1 hg h.xr (by decide)
  have q4 := row_own h.got.1 hg q1 (by decide)
  have z1 := row_own h.got.1 hg h.zr (by decide)
  have gg := grown_set (g := gx) (j := 12) v' (grown_refl z (some gx))
  have hne : vb.ownBlock = none ∨ vb.ownBlock ≠ va.ownBlock := by
    by_cases hv : vb.ownBlock = none
    · exact .inl hv
    · refine .inr (fun e => ?_)
      obtain ⟨c, hc⟩ := Option.ne_none_iff_exists'.1 hv
      rcases h.got.2.2 with ⟨h1, _⟩ | ⟨g', cap, cur, h1, h2, h3, -⟩
      · rw [h1] at hc
        cases hc
      · have hb : vb.ownBlock = some g' := by rw [h1]; rfl
        exact own_type h.got.1 (show RowAt y g' 67 cur from h3) (by decide) (by rw [← e, hb])
  refine ⟨x1, ⟨k, q4.other _ _ (fun e => L.e e.symm), q2, q3⟩, ?_, z1.other _ _ L.f, (below_own h.got.1 h.bel hg).set1 L.c 12 v', ⟨ho.kept gg (.inr (own_type ho x1 (by decide))), ?_⟩, trivial⟩
  · rw [← hs]
    exact x1.set 12 v'
  · rw [hd]
    have h6 := h.got.2.kept hg hne
    exact h6.kept gg (.inr (own_type h6 x1 (by decide)))
/-- .. and of the second one. -/
theorem DK.pushD {w y z : World} {gr g gx : Nat} {b : ByteArray} {s : St} {r r' : Rec} {va vb v' : Value} {l : List (Nat × TypeId × Array Value)} (h : DK w y gr g gx b s r va vb l) (L : Lie w gr g gx) (hg : y.grownBy z vb.ownBlock) (ho : z.ownsRow w.heap.size 67 2 v' r'.ds.length (flatD r'.ds)) (hd : r'.ts = r.ts) (hs : (rcA r va vb).setIfInBounds 13 v' = rcA r' va v') : RowAt z gx 28 (rcA r va vb) ∧ DK w (z.setCell ⟨gx, 13, none⟩ v') gr g gx b s r' va v' [] := by
  obtain ⟨k, q1, q2, q3⟩ := h.rd
  have x1 := row_own h.got.2 hg h.xr (by decide)
  have q4 := row_own h.got.2 hg q1 (by decide)
  have z1 := row_own h.got.2 hg h.zr (by decide)
  have gg := grown_set (g := gx) (j := 13) v' (grown_refl z (some gx))
  have hne : va.ownBlock = none ∨ va.ownBlock ≠ vb.ownBlock := by
    by_cases hv : va.ownBlock = none
    · exact .inl hv
    · refine .inr (fun e => ?_)
      obtain ⟨c, hc⟩ := Option.ne_none_iff_exists'.1 hv
      rcases h.got.1.2 with ⟨h1, _⟩ | ⟨g', cap, cur, h1, h2, h3, -⟩
      · rw [h1] at hc
        cases hc
      · have hb : va.ownBlock = some g' := by rw [h1]; rfl
        exact own_type h.got.2 (show RowAt y g' 65 cur from h3) (by decide) (by rw [← e, hb])
  refine ⟨x1, ⟨k, q4.other _ _ (fun e => L.e e.symm), q2, q3⟩, ?_, z1.other _ _ L.f, (below_own h.got.2 h.bel hg).set1 L.c 13 v', ⟨?_, ho.kept gg (.inr (own_type ho x1 (by decide)))⟩, trivial⟩
  · rw [← hs]
    exact x1.set 13 v'
  · rw [hd]
    have h6 := h.got.1.kept hg hne
    exact h6.kept gg (.inr (own_type h6 x1 (by decide)))
theorem flatT_more (xs : List Tx) (x : Tx) : flatT (xs ++ [x]) = flatT xs ++ (txA x).toList := by
  unfold flatT
  rw [List.flatMap_append]
  simp
theorem flatD_more (xs : List Di) (x : Di) : flatD (xs ++ [x]) = flatD xs ++ (diA x).toList := by
  unfold flatD
  rw [List.flatMap_append]
  simp
end Go.Proofs.Ytmapgfakfeddmaa
