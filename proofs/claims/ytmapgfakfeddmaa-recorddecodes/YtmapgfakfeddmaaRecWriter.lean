/-
  The writer of package record: a block that holds a row of bytes; number and text.
-/
import Derived.Test.YtmapgfakfeddmaaRecRefOwn
import Derived.Test.YtmapgfakfeddmaaAppendO
import Derived.Test.YtmapgfakfeddmaaPackPutText
namespace Go.Proofs.Ytmapgfakfeddmaa
open Go.RowKit
set_option linter.unusedVariables false

/-- A writer in memory, and the bytes that it holds. -/
def Wr (w : World) (g : Nat) (bs : List UInt8) : Prop := ∃ v, RowAt w g 47 #[v] ∧ w.ownsRow (g + 1) 5 1 v bs.length (toV bs)
/-- What a writer's step leaves: all ahead of it, and every struct beside it. -/
structure Mv (g : Nat) (w w' : World) : Prop where
  below : Below g w w'
  rows : ∀ k t cs, k ≠ g → t ≠ 5 → RowAt w k t cs → RowAt w' k t cs
theorem Mv.refl (g : Nat) (w : World) : Mv g w w := ⟨Below.refl _ _, fun _ _ _ _ _ h => h⟩
theorem Mv.trans {g : Nat} {w x y : World} (h : Mv g w x) (k : Mv g x y) : Mv g w y := ⟨h.below.trans k.below, fun a t cs h1 h2 h3 => k.rows a t cs h1 h2 (h.rows a t cs h1 h2 h3)⟩
theorem Mv.later {g : Nat} {w x : World} (hg : g ≤ w.heap.size) (h : Below w.heap.size w x) : Mv g w x := ⟨h.mono hg, fun k t cs _ _ hr => hr.later h⟩
theorem Wr.lt {w : World} {g : Nat} {bs : List UInt8} (h : Wr w g bs) : g < w.heap.size := by
  obtain ⟨v, hr, _⟩ := h
  exact hr.lt
theorem Wr.later {w x : World} {g : Nat} {bs : List UInt8} (h : Wr w g bs) (hb : Below w.heap.size w x) : Wr x g bs := by
  obtain ⟨v, hr, ho⟩ := h
  exact ⟨v, hr.later hb, ownsRow_below ho hb⟩
/-- The writer, and structs beside it. -/
def WK (g : Nat) (w x : World) (bs : List UInt8) (l : List (Nat × TypeId × Array Value)) : Prop := Wr x g bs ∧ Mv g w x ∧ Has x l
def Aside (g : Nat) (l : List (Nat × TypeId × Array Value)) : Prop := ∀ e ∈ l, e.1 ≠ g ∧ e.2.1 ≠ 5
theorem Has.moved {g : Nat} {x y : World} (h : Mv g x y) : ∀ {l : List (Nat × TypeId × Array Value)}, Aside g l → Has x l → Has y l
  | [], _, _ => trivial
  | e :: l, ha, hh => ⟨h.rows _ _ _ (ha e (by simp)).1 (ha e (by simp)).2 hh.1, Has.moved h (fun e he => ha e (by simp [he])) hh.2⟩
theorem WK.step {g : Nat} {w x y : World} {bs cs : List UInt8} {l : List (Nat × TypeId × Array Value)} (h : WK g w x bs l) (hw : Wr y g cs) (hm : Mv g x y) (ha : Aside g l) : WK g w y cs l := ⟨hw, h.2.1.trans hm, h.2.2.moved hm ha⟩

theorem wr_put {w1 w2 : World} {g n k : Nat} {v v' : Value} {bs cs : List UInt8} (hr : RowAt w1 g 47 #[v]) (hown : w1.ownsRow (g + 1) 5 1 v n (toV bs)) (hn : n = bs.length) (hk : k = cs.length)
    (ho : w2.ownsRow (g + 1) 5 1 v' (n + k) (toV (bs ++ cs))) (hg : w1.grownBy w2 v.ownBlock) :
    RowAt w2 g 47 #[v] ∧ Wr (w2.setCell ⟨g, 0, none⟩ v') g (bs ++ cs) ∧ Mv g w1 (w2.setCell ⟨g, 0, none⟩ v') := by
  have hne : ∀ j, j ≤ g → some j ≠ v.ownBlock := fun j hj e => by
    have := (hown.lt j e.symm).1
    omega
  have hr2 : RowAt w2 g 47 #[v] := (hg.block g hr.lt (hne g (Nat.le_refl _))).trans hr
  have hb : Below g w1 w2 := ⟨hg.os, hg.tape, hg.output, hg.size, fun j hj => hg.block j (by have := hr.lt; omega) (hne j (by omega))⟩
  refine ⟨hr2, ⟨v', hr2.set 0 v', ?_⟩, ⟨hb.setCell (Nat.le_refl _) _, fun j t cs' hj ht hrow => ?_⟩⟩
  · have := ownsRow_setCell_below ho (a := ⟨g, 0, none⟩) (by show g < g + 1; omega) v'
    rwa [show n + k = (bs ++ cs).length by rw [List.length_append]; omega] at this
  · refine RowAt.other ((hg.block j hrow.lt ?_).trans hrow) _ _ hj
    intro e
    obtain ⟨-, h2⟩ := hown
    rcases h2 with ⟨h2, _⟩ | ⟨g', cap, cur, h2, -, h4, -⟩
    · subst h2
      cases e
    · subst h2
      simp only [Value.ownBlock, Option.some.injEq] at e
      subst e
      have h5 := hrow.symm.trans h4
      simp only [Option.some.injEq, Obj.cells.injEq] at h5
      exact ht h5.2.1

theorem own_shape {w : World} {base n : Nat} {e : TypeId} {v : Value} {xs : List Value} (h : w.ownsRow base e 1 v n xs) : ∃ a c, v = .slice a n c := by
  rcases h.2 with ⟨h1, h2⟩ | ⟨g', cap, cur, h2, _⟩
  · exact ⟨none, 0, by rw [h1, h2]⟩
  · exact ⟨_, _, h2⟩
theorem textB_len (s : ByteArray) : (textB s.data.toList).length = 1 + s.size := by
  unfold textB
  rw [List.length_cons, data_length]
  omega
theorem isB_nil (w : World) : IsB w none 0 [] := ⟨rfl, fun h => absurd h (by omega)⟩

/-- A load, by its value. -/
theorem wpList_load_val {P : Program} {ops : Array Oper} {rest : List Oper} {o : Oper} {a : Act} {w : World} {Q : Exit → Act → World → Prop} (hw : Region.wanted o (yielded ops a.tmps) = true) (t : TypeId) (x : Operand) (ho : o.op = .load t x) (u v : Value) (hu : a.eval x = u) (hv : (Instr.loadAt t u).run P w = .ok v w)
    (h : wpList P ops Q rest (a.put o.dst v) w) : wpList P ops Q (o :: rest) a w :=
  wpList_val hw v (by unfold execOp; simp only [ho, hu, Sem.run_bind, hv, Result.andThen_ok, Sem.run_pure]) h
theorem load_b8 {b j : Nat} (x : World) (v : Value) (a : Option Addr) (n c : Nat) (hv : v = .slice a n c) (h : x.cell? ⟨b, j, none⟩ = some v) : (Instr.loadAt 30 (.pointer (some ⟨b, j, none⟩))).run Try.prog x = .ok v x := by
  subst hv
  go_simp

set_option maxRecDepth 4000 in
set_option maxHeartbeats 1600000 in
theorem wnum_any (g k n : Nat) (bs : List UInt8) (w : World) (h : Wr w g bs) (hk : 1 ≤ k ∧ k ≤ 8) (hn : n < 256 ^ k) (hl : bs.length ≤ 1000000) :
    Calls Try.prog 19 #[.pointer (some ⟨g, 0, none⟩), .int .i64 (k : Int), .int .u64 (n : Int)] w fun e w' => e = .returned (.tuple #[]) ∧ Wr w' g (bs ++ beB k n) ∧ Mv g w w' := by
  obtain ⟨v, hr, ho⟩ := h
  obtain ⟨a, c, hv⟩ := own_shape ho
  have HP := hide (put_ok none 0 0 k n [] w (isB_nil w) (by omega) hk.1 hk.2 hn)
  simp only [Nat.zero_add, List.nil_append] at HP
  have HV := hide hv
  have HR := hide hr
  have HO := hide ho
  have HLT := hide hr.lt
  have HKK := hide hk
  have HL := hide hl
  clear hr ho hk hl hv
  go_enter Try.func19, Try.ntmps19
  go_wp2_with fail
  refine HP.out.mono ?_
  rintro e w1 ⟨rfl, hrow, hb⟩
  have HR1 := hide (HR.out.later hb)
  have HO1 := hide (ownsRow_below HO.out hb)
  have HM1 := hide (Mv.later (Nat.le_of_lt HR.out.lt) hb)
  have HB1 := hide (hrow.isB (beB_length k n))
  have HS := hide hb.size
  clear hb hrow HP HR HO
  obtain ⟨m, hm⟩ : ∃ m, m = bs.length := ⟨_, rfl⟩
  rw [← hm] at HO1 HL HV
  have HM := hide hm
  clear hm
  generalize w.heap.size = b at *
  go_wp2_with (first | (refine wpList_load_val rfl 30 (.tmp 17) rfl _ v rfl (load_b8 w1 v a m c HV.out (HR1.out.cell 0 v rfl)) ?_) | (at_builtin; refine wpList_append_ob _ rfl (.tmp 18) (.tmp 19) 30 rfl 5 Try.underlying30 info8 (g + 1) v m bs rfl HO1.out (some ⟨b, 0, none⟩) (k) (k) (beB k n) rfl HB1.out (fun h => nomatch h) (by have := HL.out; have := HKK.out.2; omega) (by have := HR1.out.lt; omega) ?_))
  intro v' w2 ho2 hg2
  obtain ⟨hr2, hw2, hm2⟩ := wr_put HR1.out HO1.out HM.out (beB_length k n).symm ho2 hg2
  obtain ⟨a2, c2, rfl⟩ := own_shape ho2
  have HW := hide hw2
  have HMV := hide (HM1.out.trans hm2)
  have f0 := hr2.free 0
  have d2 := hr2.cell 0 _ rfl
  clear ho2 hg2 hr2 hw2 hm2 HR1 HO1 HM1 HB1
  go_wp2
  go_end0
  exact ⟨rfl, HW.out, HMV.out⟩

set_option maxRecDepth 4000 in
set_option maxHeartbeats 1600000 in
theorem wtext_any (g : Nat) (s : ByteArray) (bs : List UInt8) (w : World) (h : Wr w g bs) (hk : s.size ≤ 255) (hl : bs.length ≤ 1000000) :
    Calls Try.prog 36 #[.pointer (some ⟨g, 0, none⟩), .string s] w fun e w' => e = .returned (.tuple #[]) ∧ Wr w' g (bs ++ textB s.data.toList) ∧ Mv g w w' := by
  obtain ⟨v, hr, ho⟩ := h
  obtain ⟨a, c, hv⟩ := own_shape ho
  have HP := hide (puttext_ok none 0 0 [] s w (isB_nil w) (by omega) hk)
  simp only [Nat.zero_add, List.nil_append] at HP
  have HV := hide hv
  have HR := hide hr
  have HO := hide ho
  have HLT := hide hr.lt
  have HKK := hide hk
  have HL := hide hl
  clear hr ho hk hl hv
  go_enter Try.func36, Try.ntmps36
  go_wp2_with fail
  refine HP.out.mono ?_
  rintro e w1 ⟨rfl, hrow, hb⟩
  have HR1 := hide (HR.out.later hb)
  have HO1 := hide (ownsRow_below HO.out hb)
  have HM1 := hide (Mv.later (Nat.le_of_lt HR.out.lt) hb)
  have HB1 := hide (hrow.isB (textB_len s))
  have HS := hide hb.size
  clear hb hrow HP HR HO
  obtain ⟨m, hm⟩ : ∃ m, m = bs.length := ⟨_, rfl⟩
  rw [← hm] at HO1 HL HV
  have HM := hide hm
  clear hm
  generalize w.heap.size = b at *
  go_wp2_with (first | (refine wpList_load_val rfl 30 (.tmp 14) rfl _ v rfl (load_b8 w1 v a m c HV.out (HR1.out.cell 0 v rfl)) ?_) | (at_builtin; refine wpList_append_ob _ rfl (.tmp 15) (.tmp 16) 30 rfl 5 Try.underlying30 info8 (g + 1) v m bs rfl HO1.out (some ⟨b, 0, none⟩) (1 + s.size) (1 + s.size) (textB s.data.toList) rfl HB1.out (fun h => nomatch h) (by have := HL.out; have := HKK.out; omega) (by have := HR1.out.lt; omega) ?_))
  intro v' w2 ho2 hg2
  obtain ⟨hr2, hw2, hm2⟩ := wr_put HR1.out HO1.out HM.out (textB_len s).symm ho2 hg2
  obtain ⟨a2, c2, rfl⟩ := own_shape ho2
  have HW := hide hw2
  have HMV := hide (HM1.out.trans hm2)
  have f0 := hr2.free 0
  have d2 := hr2.cell 0 _ rfl
  clear ho2 hg2 hr2 hw2 hm2 HR1 HO1 HM1 HB1
  go_wp2
  go_end0
  exact ⟨rfl, HW.out, HMV.out⟩

end Go.Proofs.Ytmapgfakfeddmaa
