/-
  Texts that lean on one another, one behind the other: each opens with its own remark.
-/
import Derived.Lib.ConvBytes
import Derived.Lib.AppendStr
import Derived.ArgAppend
import Derived.Test.YtdjhcbiejpjkmaaProg
import Derived.WalkSpells
import Derived.Laws.OwnMore
import Derived.Laws.ResultCell
import Derived.Laws.Tables
import Derived.Deep.Draws
import Derived.Deep.MidRow
import Derived.Laws.AppendOwn
import Derived.WalkKit
import Derived.Laws.Cover3
import Derived.Test.YtdjhcbiejpjkmaaRows
import Derived.Maps.AppendAt
import Derived.Test.YtdjhcbiejpjkmaaK00
import Derived.Test.YtdjhcbiejpjkmaaK02
import Derived.Test.YtdjhcbiejpjkmaaK03

namespace Go.Proofs.Ytdjhcbiejpjkmaa
open Go.RowKit
set_option linter.unusedVariables false
set_option maxRecDepth 8000
set_option maxHeartbeats 25600000
set_option linter.unusedVariables false
set_option linter.unusedVariables false
set_option linter.unusedVariables false
end Go.Proofs.Ytdjhcbiejpjkmaa
set_option maxRecDepth 8000
set_option maxHeartbeats 25600000

namespace Go.Proofs.Ytdjhcbiejpjkmaa
open Go.RowKit
set_option linter.unusedVariables false
theorem two_new (w : World) (A B : Array Value) (t t2 : TypeId) : Qb ((w.alloc (.cells A t)).alloc (.cells B t2)) w.heap.size t A /\ Qb ((w.alloc (.cells A t)).alloc (.cells B t2)) (w.heap.size + 1) t2 B /\ Below w.heap.size w ((w.alloc (.cells A t)).alloc (.cells B t2)) := by
  have e1 : (w.alloc (.cells A t)).heap.size = w.heap.size + 1 := by simp
  have b1 := (Below.refl w.heap.size w).alloc (Nat.le_refl _) (.cells A t); have b2 := (Below.refl _ (w.alloc (.cells A t))).alloc (Nat.le_refl _) (.cells B t2); refine ⟨(Qb.new w _ _).later b2, ?_, b1.trans (b2.mono (by omega))⟩; have h := Qb.new (w.alloc (.cells A t)) t2 B; rw [e1] at h; exact h
theorem Quca {w : World} {base low n sz : Nat} {e : TypeId} {v : Value} {xs : List Value} (h : w.ownsRow base e sz v n xs) (hl : low <= base) : w.ownsRow low e sz v n xs := by
  refine ⟨h.1, ?_⟩
  rcases h.2 with h2 | ⟨g, c, cur, h2, h3, h4⟩
  · exact .inl h2
  · exact .inr ⟨g, c, cur, h2, Nat.le_trans hl h3, h4⟩
structure LogIn (w : World) (v : Value) (ms : List (Rec × Value × Value)) : Prop where
  rs : RsIn w v ms
  few : ms.length <= 1000
  cap : ∀ a len c, v = .slice a len c -> len <= c
theorem LogIn.below {w x : World} {v : Value} {ms : List (Rec × Value × Value)} (h : LogIn w v ms) (hb : Below w.heap.size w x) : LogIn x v ms := ⟨h.rs.below hb, h.few, h.cap⟩
theorem LogIn.slice {w : World} {v : Value} {ms : List (Rec × Value × Value)} (h : LogIn w v ms) : ∃ a c, v = .slice a ms.length c /\ ms.length <= c := by
  obtain ⟨⟨⟨a, c, rfl, -⟩, -⟩, _, h3⟩ := h; exact ⟨a, c, rfl, h3 _ _ _ rfl⟩
theorem Qxl {w : World} {r : Rec} {va vb : Value} (h : Qcd w r va vb) : (∃ a c, va = .slice a r.ts.length c) /\ ∃ a c, vb = .slice a r.ds.length c := by
  obtain ⟨⟨a1, c1, e1, _⟩, ⟨a2, c2, e2, _⟩⟩ := h; exact ⟨⟨a1, c1, e1⟩, a2, c2, e2⟩
theorem all15 {w : World} {m : Rec × Value × Value} (h : Qcd w m.1 m.2.1 m.2.2) : (rcF m).all (·.oneCell') = true := by
  obtain ⟨⟨a1, c1, h1⟩, a2, c2, h2⟩ := Qxl h; obtain ⟨r, va, vb⟩ := m; simp only at h1 h2; subst h1 h2; simp [rcF, rcA, Value.oneCell']
theorem LogIn.mid {w : World} {a : Option Addr} {len c : Nat} {ms : List (Rec × Value × Value)} (h : LogIn w (.slice a len c) ms) {i : Nat} (hi : i < ms.length) : ∃ b off, a = some ⟨b, off, none⟩ /\ (ms.getD i rcZ).1.fits /\ (ms.getD i rcZ).1 = (msR ms).getD i Rec.zero /\ ∀ x, Below w.heap.size w x -> x.rangeAt b (off + i * 14) (rcF (ms.getD i rcZ)).toList /\ Qcd x (ms.getD i rcZ).1 (ms.getD i rcZ).2.1 (ms.getD i rcZ).2.2 := by
  obtain ⟨b, off, h1, h2, h3, h4, h5⟩ := h.rs.at hi; exact ⟨b, off, h1, h4, (msR_get ms i).symm, fun x hx => ⟨Qjc h3 hx h2, h5.below hx⟩⟩
theorem Qeb (ms : List (Rec × Value × Value)) : (msR ms).length = ms.length := by simp [msR]
theorem Qhn {α : Type} (xs : List α) (i : Nat) (z : α) (h : i < xs.length) : xs.take (i + 1) = xs.take i ++ [xs.getD i z] := by
  rw [List.take_add_one, List.getElem?_eq_getElem h, List.getD_eq_getElem?_getD, List.getElem?_eq_getElem h]; rfl
theorem Qvd {ms : List (Rec × Value × Value)} {i : Nat} (h : i < ms.length) : (msR ms).take (i + 1) = (msR ms).take i ++ [(ms.getD i rcZ).1] := by
  rw [Qhn _ i Rec.zero (by rw [Qeb]; exact h), msR_get]
theorem Qvi : ∀ (l m : List Rec) (a : Nat), Qmb a (l ++ m) ↔ Qmb a l /\ Qmb (Qwb a l) m
  | [], m, a => ⟨fun h => ⟨trivial, h⟩, fun h => h.2⟩
  | q :: l, m, a => by
    have ih := Qvi l m q.l
    constructor
    · rintro ⟨h1, h2, h3⟩; exact ⟨⟨h1, h2, (ih.1 h3).1⟩, (ih.1 h3).2⟩
    · rintro ⟨⟨h1, h2, h3⟩, h4⟩; exact ⟨h1, h2, ih.2 ⟨h3, h4⟩⟩
theorem Qkj (l : List Rec) (i : Nat) (h : Qmb 0 l) : Qmb 0 (l.take i) := by
  rw [<- List.take_append_drop i l] at h; exact ((Qvi _ _ _).1 h).1
theorem Qdb {x y : World} {B n : Nat} {e : TypeId} {sz : Nat} {v : Value} {xs : List Value} (h : x.ownsRow B e sz v n xs) (hb : Below x.heap.size x y) : y.ownsRow B e sz v n xs := by
  obtain ⟨h1, h2⟩ := h; refine ⟨h1, h2.imp id ?_⟩; rintro ⟨g, cap, cur, a, b, c, d⟩; exact ⟨g, cap, cur, a, b, Qb.later (show Qb x g e cur from c) hb, d⟩
theorem Qlm {w0 x y : World} {B C n : Nat} {e : TypeId} {sz : Nat} {v : Value} {xs : List Value} (h : x.ownsRow C e sz v n xs) (hC : B <= C) (hb : Below B w0 x) (hB : B <= x.heap.size) (hg : x.grownBy y v.ownBlock) : Below B w0 y := by
  have key : ∀ k, some k = v.ownBlock -> B <= k := by
    intro k hk
    rcases h.2 with ⟨rfl, _⟩ | ⟨g, cap, cur, rfl, hB, _⟩
    · cases hk
    · injection hk with hk; rw [hk]; exact Nat.le_trans hC hB
  refine ⟨hg.os.trans hb.1, hg.tape.trans hb.2, hg.output.trans hb.3, Nat.le_trans hb.4 hg.size, fun k hk => ?_⟩; exact (hg.block k (by omega) (fun e => by have := key k e; omega)).trans (hb.5 k hk)
theorem Qlf {w : World} {B n : Nat} {e : TypeId} {sz : Nat} {v : Value} {xs : List Value} (h : w.ownsRow B e sz v n xs) : ∃ a c, v = .slice a n c /\ n <= c /\ (0 < n -> ∃ b, a = some ⟨b, 0, none⟩ /\ B <= b) := by
  rcases h.2 with ⟨rfl, h0⟩ | ⟨g, cap, cur, rfl, hB, _, h1, _⟩
  · exact ⟨none, 0, by rw [h0], by omega, fun h => absurd h (by omega)⟩
  · exact ⟨_, _, rfl, h1, fun _ => ⟨g, rfl, hB⟩⟩
def bareM (r : Rec) : Rec × Value × Value := (r, .slice none 0 0, .slice none 0 0)
def Rec.bare (r : Rec) : Prop := r.ts = [] /\ r.ds = [] /\ r.fits
def Qfd (l : List Rec) : List (Rec × Value × Value) := l.map bareM
theorem bareM_in {r : Rec} (h : r.bare) (w : World) : Qcd w r (.slice none 0 0) (.slice none 0 0) :=
  ⟨⟨none, 0, by rw [h.1]; rfl, fun h0 => absurd h0 (by rw [h.1]; simp)⟩, ⟨none, 0, by rw [h.2.1]; rfl, fun h0 => absurd h0 (by rw [h.2.1]; simp)⟩⟩
section
section
variable {α : Type}
structure Weak (lt : α -> α -> Bool) : Prop where
  irr : ∀ a, lt a a = false
  tr : ∀ a b c, lt a b = true -> lt b c = true -> lt a c = true
  neg : ∀ a b c, lt a b = false -> lt b c = false -> lt a c = false
theorem Weak.asym {lt : α -> α -> Bool} (h : Weak lt) {a b : α} (h1 : lt a b = true) : lt b a = false := by
  cases e : lt b a
  · rfl
  · have := h.tr a b a h1 e; rw [h.irr] at this; exact absurd this (by simp)
structure Least (lt : α -> α -> Bool) (H : Nat -> α) (n k : Nat) : Prop where
  here : k < n ∨ k = 0
  low : ∀ i, i < n -> lt (H i) (H k) = false
  first : ∀ i, i < k -> lt (H k) (H i) = true
theorem Least.zero (lt : α -> α -> Bool) (H : Nat -> α) : Least lt H 0 0 := ⟨.inr rfl, fun i hi => absurd hi (by omega), fun i hi => absurd hi (by omega)⟩
theorem Least.yes {lt : α -> α -> Bool} (w : Weak lt) {H : Nat -> α} {n k : Nat} (h : Least lt H n k) (e : lt (H n) (H k) = true) : Least lt H (n + 1) n := by
  refine ⟨.inl (by omega), fun i hi => ?_, fun i hi => ?_⟩
  · rcases Nat.lt_or_ge i n with q | q
    · cases e2 : lt (H i) (H n)
      · rfl
      · have h2 := w.tr _ _ _ e2 e; rw [h.low i q] at h2; exact absurd h2 (by simp)
    · obtain rfl : i = n := by omega
      exact w.irr _
  · cases e2 : lt (H n) (H i)
    · have h2 := w.neg _ _ _ e2 (h.low i hi); rw [e] at h2; exact absurd h2 (by simp)
    · rfl
theorem Least.no {lt : α -> α -> Bool} {H : Nat -> α} {n k : Nat} (h : Least lt H n k) (e : lt (H n) (H k) = false) : Least lt H (n + 1) k := by
  refine ⟨?_, fun i hi => ?_, h.first⟩
  · rcases h.here with q | q
    · exact .inl (by omega)
    · exact .inl (by omega)
  · rcases Nat.lt_or_ge i n with q | q
    · exact h.low i q
    · obtain rfl : i = n := by omega
      exact e
theorem Qnea {lt : α -> α -> Bool} (w : Weak lt) : ∀ l m : List α, l.Pairwise (fun a b => lt a b = true) -> m.Pairwise (fun a b => lt a b = true) -> l.Perm m -> l = m
  | [], m, _, _, h => h.nil_eq
  | a :: l, [], _, _, h => absurd h.length_eq (by simp)
  | a :: l, b :: m, h1, h2, h => by
    rw [List.pairwise_cons] at h1 h2
    have e : a = b := by
      rcases List.mem_cons.1 (h.mem_iff.1 (List.mem_cons_self ..) : a ∈ b :: m) with q | q
      · exact q
      · rcases List.mem_cons.1 (h.mem_iff.2 (List.mem_cons_self ..) : b ∈ a :: l) with q2 | q2
        · exact q2.symm
        · have a1 := h1.1 b q2; have a2 := h2.1 a q; rw [w.asym a1] at a2; exact absurd a2 (by simp)
    subst e; rw [Qnea w l m h1.2 h2.2 (h.cons_inv)]
end
abbrev Sd := Int × Rec
def ltS (x y : Sd) : Bool := decide (x.2.l < y.2.l) || (decide (x.2.l = y.2.l) && decide (x.1 < y.1))
theorem Qtca (x y : Sd) : ltS x y = true ↔ x.2.l < y.2.l ∨ x.2.l = y.2.l /\ x.1 < y.1 := by
  unfold ltS; rw [Bool.or_eq_true, Bool.and_eq_true, decide_eq_true_eq, decide_eq_true_eq, decide_eq_true_eq]
theorem ltS_no (x y : Sd) : ltS x y = false ↔ ¬ (x.2.l < y.2.l ∨ x.2.l = y.2.l /\ x.1 < y.1) := by
  rw [<- Qtca]; simp
theorem Qfca : Weak ltS where
  irr := fun a => by
    rw [ltS_no]; omega
  tr := fun a b c h1 h2 => by
    rw [Qtca] at h1 h2 |-; omega
  neg := fun a b c h1 h2 => by
    rw [ltS_no] at h1 h2 |-; omega
abbrev Qvba (l : List Sd) : Prop := l.Pairwise (fun a b => ltS a b = true)
def Sd.zero : Sd := (0, Rec.zero)
def tag (n : Int) (l : List Rec) : List Sd := l.map (fun r => (n, r))
def Qnba : Nat -> List (List Rec) -> List Sd
  | _, [] => []
  | k, l :: ls => tag (k : Int) l ++ Qnba (k + 1) ls
def Qmea (ls : List (List Rec)) : List Sd := Qnba 0 ls
theorem Qvea (n : Int) (l : List Rec) : (tag n l).length = l.length := by unfold tag; rw [List.length_map]
theorem Qdea {n : Int} {l : List Rec} {x : Sd} (h : x ∈ tag n l) : x.1 = n /\ x.2 ∈ l := by
  unfold tag at h; obtain ⟨r, h1, rfl⟩ := List.mem_map.1 h; exact ⟨rfl, h1⟩
theorem Qada {n : Int} : ∀ {l : List Rec} {a : Nat}, Qmb a l -> Qvba (tag n l)
  | [], _, _ => List.Pairwise.nil
  | r :: l, a, h => by
    refine List.Pairwise.cons (fun y hy => ?_) (Qada (l := l) (a := r.l) h.2.2); obtain ⟨h1, h2⟩ := Qdea hy; rw [Qtca]; exact .inl (Qle l r.l h.2.2 _ h2).1
theorem Qsca : ∀ {ls : List (List Rec)} {k : Nat} {x : Sd}, x ∈ Qnba k ls -> ∃ n : Nat, k <= n /\ n < k + ls.length /\ x.1 = (n : Int) /\ x.2 ∈ ls.getD (n - k) []
  | [], _, _, h => nomatch h
  | l :: ls, k, x, h => by
    rcases List.mem_append.1 h with h | h
    · obtain ⟨h1, h2⟩ := Qdea h; refine ⟨k, Nat.le_refl _, by rw [List.length_cons]; omega, h1, ?_⟩; rw [Nat.sub_self]; exact h2
    · obtain ⟨n, h1, h2, h3, h4⟩ := Qsca h; refine ⟨n, by omega, by rw [List.length_cons]; omega, h3, ?_⟩; rw [show n - k = (n - (k + 1)) + 1 by omega]; exact h4
theorem Qdca : ∀ (ls ms : List (List Rec)) (k : Nat), Qnba k (ls ++ ms) = Qnba k ls ++ Qnba (k + ls.length) ms
  | [], ms, k => by simp [Qnba]
  | l :: ls, ms, k => by
    show tag k l ++ Qnba (k + 1) (ls ++ ms) = _; rw [Qdca ls ms (k + 1), List.length_cons, show k + (ls.length + 1) = k + 1 + ls.length by omega]; show _ = (tag k l ++ Qnba (k + 1) ls) ++ _; rw [List.append_assoc]
def Qpba (l : List Sd) (x : Sd) : Nat -> Nat
  | 0 => 0
  | k + 1 => if ltS x (l.getD k Sd.zero) = true then Qpba l x k else k + 1
def Qcfa (l : List Sd) (x : Sd) : List Sd := l.take (Qpba l x l.length) ++ x :: l.drop (Qpba l x l.length)
def Quba (l : List Sd) : List Sd := l.foldl Qcfa []
def Qqca (ls : List (List Rec)) : List Sd := Quba (Qmea ls)
theorem Qjca (l : List Sd) (x : Sd) : Quba (l ++ [x]) = Qcfa (Quba l) x := by
  unfold Quba; rw [List.foldl_append]; rfl
theorem Qbda (l : List Sd) (x : Sd) : ∀ k, Qpba l x k <= k
  | 0 => Nat.le_refl _
  | k + 1 => by
    have := Qbda l x k; unfold Qpba; split <;> omega
theorem Qzca (l : List Sd) (x : Sd) : ∀ k j, Qpba l x k <= j -> j < k -> ltS x (l.getD j Sd.zero) = true
  | 0, j, _, h => absurd h (by omega)
  | k + 1, j, h1, h2 => by
    unfold Qpba at h1
    split at h1
    · rename_i e
      rcases Nat.lt_or_ge j k with q | q
      · exact Qzca l x k j h1 q
      · obtain rfl : j = k := by omega
        exact e
    · omega
theorem Qtda (l : List Sd) (x : Sd) : ∀ k, 0 < Qpba l x k -> ltS x (l.getD (Qpba l x k - 1) Sd.zero) = false
  | 0, h => absurd h (by show ¬ 0 < 0; omega)
  | k + 1, h => by
    unfold Qpba at h |-
    split
    · rename_i e; rw [if_pos e] at h; exact Qtda l x k h
    · rename_i e; rw [Nat.add_sub_cancel]; simpa using e
theorem insS_len (l : List Sd) (x : Sd) : (Qcfa l x).length = l.length + 1 := by
  have := Qbda l x l.length; unfold Qcfa; rw [List.length_append, List.length_cons, List.length_take, List.length_drop]; omega
theorem insS_perm (l : List Sd) (x : Sd) : (Qcfa l x).Perm (x :: l) := by
  unfold Qcfa; refine List.perm_middle.trans ?_; rw [List.take_append_drop]
theorem Qwca {α : Type} {l : List α} {x : α} (d : α) (h : x ∈ l) : ∃ j, j < l.length /\ l.getD j d = x := by
  obtain ⟨j, hj, rfl⟩ := List.mem_iff_getElem.1 h; exact ⟨j, hj, by simp [List.getD, hj]⟩
theorem order_at {l : List Sd} (h : Qvba l) {i j : Nat} (h1 : i < j) (h2 : j < l.length) : ltS (l.getD i Sd.zero) (l.getD j Sd.zero) = true := by
  have := List.pairwise_iff_getElem.1 h i j (by omega) h2 h1; rw [show l.getD i Sd.zero = l[i] by simp [List.getD, show i < l.length by omega], show l.getD j Sd.zero = l[j] by simp [List.getD, h2]]; exact this
theorem Qjfa {l : List Sd} (h : Qvba l) (x : Sd) (hx : ∀ y ∈ l, ltS x y = true ∨ ltS y x = true) : Qvba (Qcfa l x) := by
  have hp := Qbda l x l.length; unfold Qcfa; rw [Qvba, List.pairwise_append, List.pairwise_cons]
  have hi : ∀ y ∈ l.drop (Qpba l x l.length), ltS x y = true := fun y hy => by
    obtain ⟨j, hj, rfl⟩ := Qwca Sd.zero hy; rw [List.length_drop] at hj; rw [List.getD_eq_getElem?_getD, List.getElem?_drop, <- List.getD_eq_getElem?_getD]; exact Qzca l x l.length _ (by omega) (by omega)
  have hl : ∀ y ∈ l.take (Qpba l x l.length), ltS y x = true := fun y hy => by
    obtain ⟨j, hj, rfl⟩ := Qwca Sd.zero hy; rw [List.length_take] at hj; rw [List.getD_eq_getElem?_getD, List.getElem?_take, if_pos (by omega), <- List.getD_eq_getElem?_getD]; have e := Qtda l x l.length (by omega); have hm : l.getD (Qpba l x l.length - 1) Sd.zero ∈ l := Qua _ _ _ (by omega)
    have h2 : ltS (l.getD (Qpba l x l.length - 1) Sd.zero) x = true := by
      rcases hx _ hm with q | q
      · rw [e] at q; exact absurd q (by simp)
      · exact q
    rcases Nat.lt_or_ge j (Qpba l x l.length - 1) with q | q
    · exact Qfca.tr _ _ _ (order_at h q (by omega)) h2
    · obtain rfl : j = Qpba l x l.length - 1 := by omega
      exact h2
  refine ⟨h.sublist (List.take_sublist _ _), ⟨hi, h.sublist (List.drop_sublist _ _)⟩, fun a ha b hb => ?_⟩
  rcases List.mem_cons.1 hb with rfl | hb
  · exact hl a ha
  · exact Qfca.tr _ _ _ (hl a ha) (hi b hb)
theorem Qgda (l : List Sd) : (Quba l).Perm l := by
  induction l using Qab with
  | h0 => exact List.Perm.nil
  | h1 l x ih =>
    rw [Qjca]; refine (insS_perm _ x).trans ?_; refine (List.Perm.cons x ih).trans ?_; exact (List.perm_append_singleton x l).symm
def Apart (l : List Sd) : Prop := l.Pairwise (fun a b => ltS a b = true ∨ ltS b a = true)
theorem Qpea (l : List Sd) (h : Apart l) : Qvba (Quba l) := by
  induction l using Qab with
  | h0 => exact List.Pairwise.nil
  | h1 l x ih =>
    have h2 := List.pairwise_append.1 h; rw [Qjca]; refine Qjfa (ih h2.1) x fun y hy => ?_
    exact (h2.2.2 y ((Qgda l).mem_iff.1 hy) x (by simp)).symm
theorem Qxca : ∀ (ls : List (List Rec)) (k : Nat), (∀ l ∈ ls, Qmb 0 l) -> Apart (Qnba k ls)
  | [], _, _ => List.Pairwise.nil
  | l :: ls, k, h => by
    show List.Pairwise _ (tag k l ++ Qnba (k + 1) ls); rw [List.pairwise_append]; refine ⟨(Qada (h l (by simp))).imp (fun q => .inl q), Qxca ls (k + 1) (fun m hm => h m (List.mem_cons_of_mem _ hm)), fun a ha b hb => ?_⟩; obtain ⟨n, h1, _, h3, _⟩ := Qsca hb; have h4 := (Qdea ha).1; rw [Qtca, Qtca]; omega
theorem Qjea {ls : List (List Rec)} (h : ∀ l ∈ ls, Qmb 0 l) : Qvba (Qqca ls) := Qpea _ (Qxca ls 0 h)
theorem Qfda (ls : List (List Rec)) : (Qqca ls).Perm (Qmea ls) := Qgda _
theorem Qifa {ls : List (List Rec)} (h : ∀ l ∈ ls, Qmb 0 l) {l : List Sd} (h1 : Qvba l) (h2 : l.Perm (Qmea ls)) : l = Qqca ls :=
  Qnea Qfca _ _ h1 (Qjea h) (h2.trans (Qfda ls).symm)
end
abbrev Sm := Int × (Rec × Value × Value)
def smF (s : Sm) : Array Value := #[.int .i64 s.1, .int .i64 s.2.1.k, .int .u64 (s.2.1.l : Int), .int .i64 s.2.1.t, .int .u64 (s.2.1.p : Int), .int .i64 s.2.1.c.k, .int .i64 s.2.1.c.pg, .int .i64 s.2.1.c.sl, .string s.2.1.c.o, .string s.2.1.c.n, .int .u64 (s.2.1.n : Int), .int .i64 s.2.1.s, .int .u64 (s.2.1.b : Int), s.2.2.1, s.2.2.2]
def smZ : Sm := (0, rcZ)
def flS (ss : List Sm) : List Value := ss.flatMap fun s => (smF s).toList
def smS (ss : List Sm) : List Sd := ss.map fun s => (s.1, s.2.1)
theorem Qyba (ss : List Sm) : (smS ss).length = ss.length := by unfold smS; rw [List.length_map]
theorem smS_snoc (ss : List Sm) (s : Sm) : smS (ss ++ [s]) = smS ss ++ [(s.1, s.2.1)] := by unfold smS; rw [List.map_append]; rfl
theorem Qzda (a b : List Sm) : smS (a ++ b) = smS a ++ smS b := List.map_append
theorem Qnda (ss : List Sm) (i : Nat) : (smS ss).getD i Sd.zero = ((ss.getD i smZ).1, (ss.getD i smZ).2.1) := by
  unfold smS; rw [List.getD_eq_getElem?_getD, List.getD_eq_getElem?_getD, List.getElem?_map]; cases ss[i]? <;> rfl
theorem flS_snoc (ss : List Sm) (s : Sm) : flS (ss ++ [s]) = flS ss ++ (smF s).toList := by
  unfold flS; rw [List.flatMap_append]; simp
theorem Qpca : (Try.prog.info? 47).map (·.size) = some 15 := by kernel_rfl
def zeroS : Array Value := #[.int .i64 0, .int .i64 0, .int .u64 0, .int .i64 0, .int .u64 0, .int .i64 0, .int .i64 0, .int .i64 0, .string ⟨#[]⟩, .string ⟨#[]⟩, .int .u64 0, .int .i64 0, .int .u64 0, .slice none 0 0, .slice none 0 0]
theorem Qeea : (Try.prog.info? 47).map (fun i => (i.zero, i.size, i.bytes)) = some (some (.agg zeroS), 15, 168) := by kernel_rfl
def Qgea (w : World) (s : Sm) : Prop := s.2.1.fits /\ Qcd w s.2.1 s.2.2.1 s.2.2.2
theorem Qgea.below {w x : World} {s : Sm} (h : Qgea w s) (hb : Below w.heap.size w x) : Qgea x s := ⟨h.1, h.2.below hb⟩
def Qfea (w : World) (v : Value) (ss : List Sm) : Prop := Qte smF smZ 15 w v ss /\ ∀ s ∈ ss, Qgea w s
theorem Qfea.below {w x : World} {v : Value} {ss : List Sm} (h : Qfea w v ss) (hb : Below w.heap.size w x) : Qfea x v ss := ⟨h.1.below hb, fun s hs => (h.2 s hs).below hb⟩
theorem Qfea.mid {w : World} {v : Value} {ss : List Sm} (h : Qfea w v ss) {i : Nat} (hi : i < ss.length) : ∃ b off c, v = .slice (some ⟨b, off, none⟩) ss.length c /\ b < w.heap.size /\ Qgea w (ss.getD i smZ) /\ ∀ x, Below w.heap.size w x -> x.rangeAt b (off + i * 15) (smF (ss.getD i smZ)).toList := by
  obtain ⟨⟨a, c, rfl, h2⟩, h3⟩ := h; obtain ⟨b, off, rfl, hb, hr⟩ := h2 (by omega); exact ⟨b, off, c, rfl, hb, h3 _ (Qua ss i smZ hi), fun x hx => Qjc (hr i hi) hx hb⟩
theorem Qmca (y : World) (b k : Nat) (s : Sm) (h : y.rangeAt b k (smF s).toList) : (Instr.loadAt 47 (.pointer (some ⟨b, k, none⟩))).run Try.prog y = .ok (.agg (smF s)) y := by
  have h1 := run_loadAt_mid (P := Try.prog) y b k 47 (smF s).toList _ h Try.underlying47 rfl (by rw [Qpca]; rfl); rwa [Array.toArray_toList] at h1
theorem Qfea.tail {w : World} {b off n c : Nat} {ss : List Sm} (h : Qfea w (.slice (some ⟨b, off, none⟩) n c) ss) (c' : Nat) : Qfea w (.slice (some ⟨b, off + 15, none⟩) (n - 1) c') ss.tail := by
  obtain ⟨⟨a, c2, e, h2⟩, h3⟩ := h; injection e with e1 e2 e3; subst e1; subst e2; refine ⟨⟨_, c', by rw [List.length_tail], fun hp => ?_⟩, fun s hs => h3 s (List.mem_of_mem_tail hs)⟩; rw [List.length_tail] at hp; obtain ⟨b', off', e, hb, hr⟩ := h2 (by omega); injection e with e; injection e with e4 e5 e6; subst e4; subst e5; refine ⟨b, off + 15, rfl, hb, fun i hi => ?_⟩; rw [List.length_tail] at hi; have h9 := hr (i + 1) (by omega); rw [show off + (i + 1) * 15 = off + 15 + i * 15 by omega] at h9
  have e : ss.tail.getD i smZ = ss.getD (i + 1) smZ := by
    cases ss with
    | nil => rfl
    | cons s ss => rfl
  rw [e]; exact h9
abbrev OwS (w : World) (B : Nat) (v : Value) (ss : List Sm) : Prop := w.ownsRow B 47 15 v ss.length (flS ss)
theorem Quea (w : World) (B : Nat) : OwS w B (.slice none 0 0) [] := World.ownsRow_nil _ _ _ _
theorem Qyca {w' : World} {B : Nat} {v' : Value} {ss : List Sm} {s : Sm} {cs : Array Value} (hc : cs = smF s) (h : w'.ownsRow B 47 15 v' (ss.length + 1) (flS ss ++ cs.toList)) : OwS w' B v' (ss ++ [s]) := by
  subst hc; show w'.ownsRow _ _ _ _ (ss ++ [s]).length (flS (ss ++ [s])); rw [flS_snoc, List.length_append, List.length_singleton]; exact h
theorem Qzea {w' : World} {B : Nat} {v : Value} {ss : List Sm} (h : OwS w' B v ss) (hf : ∀ s ∈ ss, Qgea w' s) : Qfea w' v ss :=
  ⟨Qxf smF smZ 15 (fun _ => rfl) h, hf⟩
theorem OwS.slice {w : World} {B : Nat} {v : Value} {ss : List Sm} (h : OwS w B v ss) : ∃ a c, v = .slice a ss.length c /\ ss.length <= c := by
  obtain ⟨a, c, h1, h2, _⟩ := Qlf h; exact ⟨a, c, h1, h2⟩
theorem Qrba (w : World) {ops : Array Oper} {rest : List Oper} {o : Oper} {a : Act} {Q : Exit -> Act -> World -> Prop} (tS tE : TypeId) (size bytes : Nat) (z : Value) (hu : Try.prog.underlying tS = some (.slice tE)) (hI : (Try.prog.info? tE).map (fun i => (i.zero, i.size, i.bytes)) = some (some z, size, bytes)) (hzs : z.cells.size = size) (hpos : 0 < size) (hby : bytes <= 1000)
    (hg : o.guard = none) (s x : Operand) (hop : o.op = Op.call { callee := Callee.builtin Builtin.append, args := #[s, x], argTypes := #[tS, tS] })
    (base : Nat) (v : Value) (n : Nat) (xs : List Value) (hs : a.eval s = v) (hown : w.ownsRow base tE size v n xs)
    (b : Nat) (cs : Array Value) (hx : a.eval x = .slice (some ⟨b, 0, none⟩) 1 1) (hB : Qb w b tE cs) (hcs : cs.size = size) (hone : cs.all (·.oneCell') = true) (hz : n <= 100000) (hbase : base <= w.heap.size)
    (hK : ∀ v' w', w'.ownsRow base tE size v' (n + 1) (xs ++ cs.toList) -> w.grownBy w' v.ownBlock -> wpList Try.prog ops Q rest (a.put o.dst v') w') :
    wpList Try.prog ops Q (o :: rest) a w := by
  obtain ⟨i, hi0, hi1⟩ := Option.map_eq_some_iff.1 hI; simp only [Prod.mk.injEq] at hi1
  refine wpList_append_own w hg s x tS hop base tE i z size bytes hu hi0 hi1.1 hi1.2.1 hi1.2.2 hzs hpos v n xs hs hown ⟨b, 0, none⟩ 1 1 cs.toList hx (by rw [Array.length_toList, hcs, Nat.one_mul]) ?_ ?_ (by unfold maxLen; omega) ?_ hbase (fun v' w' h1 h2 _ => hK v' w' h1 h2)
  · intro j u hu; rw [Array.getElem?_toList] at hu; rw [Addr.add_lit, Nat.zero_add]; exact hB.cell j u hu
  · intro u hu; rw [Array.all_eq_true'] at hone; exact hone u (by simpa using hu)
  · have := Nat.mul_le_mul (show n + 1 <= 100001 by omega) hby
    omega
theorem Qzba {x y : World} {row : Option Nat} {k : Nat} {t : TypeId} {cs : Array Value} (hg : x.grownBy y row) (hr : Qb x k t cs) (hn : some k ≠ row) : Qb y k t cs := (hg.block k hr.lt hn).trans hr
theorem Qdda {x y : World} {B C n sz : Nat} {e : TypeId} {v : Value} {xs : List Value} {r : Rec} {va vb : Value} (ho : x.ownsRow C e sz v n xs) (hg : x.grownBy y v.ownBlock) (h1 : e ≠ 109) (h2 : e ≠ 111) (h : Qek B x r va vb) : Qek B y r va vb := by
  have key : ∀ k t cs, t ≠ e -> Qb x k t cs -> Qb y k t cs := fun k t cs ht hr => Qzba hg hr (fun e2 => by
    rcases ho.2 with ⟨rfl, _⟩ | ⟨g, cap, cur, rfl, _, h3, _⟩
    · cases e2
    · injection e2 with e2; subst e2
      exact ht (Qbb hr h3))
  exact ⟨Qij h.1 (fun k cs hr => key k _ cs (fun q => h1 q.symm) hr), Qij h.2 (fun k cs hr => key k _ cs (fun q => h2 q.symm) hr)⟩
def bef (a : Nat) (i : Int) (b : Nat) (j : Int) : Bool := decide (a < b) || (decide (a = b) && decide (i < j))
theorem Qkda (a b : Nat) (i j : Int) : bef a i b j = true ↔ (a < b ∨ a = b /\ i < j) := by simp [bef]
theorem Qefa (a b : Nat) (i j : Int) : bef a i b j = false ↔ ¬ (a < b ∨ a = b /\ i < j) := by
  rw [<- Qkda]; simp
set_option linter.unusedVariables false
theorem Qhfa (a b : Nat) (i j : Int) (w : World) :
    Calls Try.prog 48 #[.int .u64 a, .int .i64 i, .int .u64 b, .int .i64 j] w fun e w' => e = .returned (.bool (bef a i b j)) /\ w = w' := by
  by_cases h1 : a < b
  · have hb : bef a i b j = true := (Qkda a b i j).2 (.inl h1); have h2 : (a : Int) < (b : Int) := by omega
    rw [hb]; clear hb; go_enter Try.func48, Try.ntmps48; go_wp2; go_ret; exact ⟨rfl, rfl⟩
  · have h2 : ¬ (a : Int) < (b : Int) := by omega
    by_cases he : a = b
    · subst he
      by_cases hij : i < j
      · have hb : bef a i a j = true := (Qkda a a i j).2 (.inr ⟨rfl, hij⟩); rw [hb]; clear hb; go_enter Try.func48, Try.ntmps48; go_wp2; go_ret; exact ⟨rfl, rfl⟩
      · have hb : bef a i a j = false := (Qefa a a i j).2 (by omega); rw [hb]; clear hb; go_enter Try.func48, Try.ntmps48; go_wp2; go_ret; exact ⟨rfl, rfl⟩
    · have hb : bef a i b j = false := (Qefa a b i j).2 (by omega); have h3 : ((a : Int) == (b : Int)) = false := by simp; omega
      rw [hb]; clear hb; go_enter Try.func48, Try.ntmps48; go_wp2; go_ret; exact ⟨rfl, rfl⟩
theorem bef_ltS (x y : Sd) : bef x.2.l x.1 y.2.l y.1 = ltS x y := by
  cases e : ltS x y
  · rw [Qefa]; rw [ltS_no] at e; omega
  · rw [Qkda]; exact (Qtca x y).1 e
def ltM (s t : Sm) : Bool := ltS (s.1, s.2.1) (t.1, t.2.1)
theorem Qgfa : Weak ltM := ⟨fun a => Qfca.irr _, fun a b c => Qfca.tr _ _ _, fun a b c => Qfca.neg _ _ _⟩
theorem Qdfa (s t : Sm) (w : World) : Calls Try.prog 26 #[.agg (smF s), .agg (smF t)] w fun e w' => e = .returned (.bool (ltM s t)) /\ Below w.heap.size w w' := by
  obtain ⟨n1, n2, n3⟩ := Qzd w (smF s) (smF t) 47 47; obtain ⟨y, hy⟩ : ∃ y, y = (w.alloc (.cells (smF s) 47)).alloc (.cells (smF t) 47) := ⟨_, rfl⟩; rw [<- hy] at n1 n2 n3; obtain ⟨b1, hb1⟩ : ∃ b1, b1 = w.heap.size := ⟨_, rfl⟩; obtain ⟨b2, hb2⟩ : ∃ b2, b2 = w.heap.size + 1 := ⟨_, rfl⟩; rw [<- hb1] at n1; rw [<- hb2] at n2; have H0 := Qc n3; have c1 := n1.cell 2 (.int .u64 (s.2.1.l : Int)) rfl; have c2 := n1.cell 0 (.int .i64 s.1) rfl; have c3 := n2.cell 2 (.int .u64 (t.2.1.l : Int)) rfl; have c4 := n2.cell 0 (.int .i64 t.1) rfl; have HY := Qc hy; have HB := Qc (And.intro hb1 hb2); have hbe := Qhfa s.2.1.l t.2.1.l s.1 t.1 y; rw [show bef s.2.1.l s.1 t.2.1.l t.1 = ltM s t from bef_ltS (s.1, s.2.1) (t.1, t.2.1)] at hbe; have HBE := Qc hbe; generalize ltM s t = q at *; clear n1 n2 n3 hy hb1 hb2 hbe; go_enter Try.func26, Try.ntmps26; go_wp2_with (with_reducible refine Qw 7 rfl ?_); rw [<- HY.out, <- HB.out.2, <- HB.out.1]; refine Qf ?_; go_wp2_with fail; refine HBE.out.mono ?_; rintro e w1 ⟨rfl, rfl⟩; go_wp2; go_ret; exact ⟨rfl, H0.out⟩
theorem Qkea (a : Option Addr) (n c : Nat) (w : World) : Calls Try.prog 45 #[.slice a n c] w fun e w' => e = .returned (.bool (decide (n = 0))) /\ w = w' := by
  by_cases h : n = 0
  · subst h; go_enter Try.func45, Try.ntmps45; go_wp2; go_ret; exact ⟨rfl, rfl⟩
  · have h1 : ((n : Int) == 0) = false := by simpa using h
    rw [decide_eq_false h]; go_enter Try.func45, Try.ntmps45; go_wp2; go_ret; exact ⟨rfl, rfl⟩
def Qbca (l : List Sx) : List Sx := l.filter fun x => decide (x.n ≠ 0)
theorem Qaea {l : List Sx} {j : Nat} (hj : j < l.length) : Qbca (l.take (j + 1)) = Qbca (l.take j) ++ (if (l.getD j Sx.nil).n ≠ 0 then [l.getD j Sx.nil] else []) := by
  unfold Qbca; rw [List.take_succ_eq_append_getElem hj, List.filter_append, List.getD_eq_getElem?_getD, List.getElem?_eq_getElem hj]; show _ ++ List.filter _ [l[j]] = _ ++ (if (l[j]).n ≠ 0 then [l[j]] else [])
  by_cases h : (l[j]).n ≠ 0
  · rw [if_pos h]; simp [h]
  · rw [if_neg h]; simp at h; simp [h]
theorem Qlea {l : List Sx} (h : ∀ k, k < l.length -> (l.getD k Sx.nil).n ≠ 0) : Qbca l = l := by
  unfold Qbca; rw [List.filter_eq_self]; intro x hx; obtain ⟨j, hj, rfl⟩ := List.mem_iff_getElem.1 hx; have := h j hj; rw [List.getD_eq_getElem?_getD, List.getElem?_eq_getElem hj] at this; exact decide_eq_true this
theorem Qsea {l : List Sx} {i : Nat} (hi : i < l.length) (h0 : (l.getD i Sx.nil).n = 0) (h : ∀ k, k < i -> (l.getD k Sx.nil).n ≠ 0) : l.take i = Qbca (l.take (i + 1)) := by
  rw [Qaea hi, if_neg (fun q => q h0), List.append_nil]; refine (Qlea fun k hk => ?_).symm; rw [List.length_take] at hk; rw [List.getD_eq_getElem?_getD, List.getElem?_take, if_pos (by omega), <- List.getD_eq_getElem?_getD]; exact h k (by omega)
theorem set_take {L : List Sx} {i : Nat} (y : Sx) (hi : i < L.length) : (L.set i y).take (i + 1) = L.take i ++ [y] := by
  rw [List.take_succ_eq_append_getElem (by rw [List.length_set]; exact hi), List.getElem_set_self, List.take_set_of_le (Nat.le_refl _)]
theorem set_drop {L : List Sx} {i j : Nat} (y : Sx) (h : i < j) : (L.set i y).drop j = L.drop j := by
  rw [List.drop_set, if_pos h]
theorem RV.clear {w : World} {s : Sl} {l : List Sx} (h : RV w s l) {b i : Nat} (hb : s.b = some b) (hi : i <= l.length) : RV (w.setCells b i (Builtin.zeroCells Qwba (l.length - i)).toList) s (l.take i) /\ Tn (ofS s) w (w.setCells b i (Builtin.zeroCells Qwba (l.length - i)).toList) := by
  refine ⟨?_, Qfa _ _ _ b _ hb⟩
  rcases h with ⟨h1, _⟩ | ⟨b', cs, h1, h2, h3, h4, h6, h7⟩
  · rw [h1] at hb; cases hb
  · rw [h1] at hb; injection hb with hb; subst hb; obtain ⟨ds, d1, d2⟩ := Qy (Builtin.zeroCells Qwba (l.length - i)).toList i w b' _ cs h2; refine .inr ⟨b', ds, h1, d1, by rw [d2]; exact h3, by rw [List.length_take]; omega, h6, fun q u hu => ?_⟩
    have hq : q < i := by
      have := (List.getElem?_eq_some_iff.1 hu).1; rw [Qpda, List.length_take] at this; omega
    rw [World.cell?_setCells_out b' _ _ _ _ (fun _ _ => .inl (by show q < i; exact hq))]; rw [<- Qafa, List.getElem?_take, if_pos hq] at hu; exact h7 q u hu
theorem idx17 (s : Sl) (l : List Sx) (w : World) (hb : RV w s l) (hl : l.length <= 1000000) :
    Calls Try.prog 64 #[slV s l.length, .func (.func 45) #[] #[]] w fun e w' => (e = .returned (.int .i64 (-1)) /\ (∀ k, k < l.length -> (l.getD k Sx.nil).n ≠ 0) ∨ ∃ i : Nat, i < l.length /\ e = .returned (.int .i64 (i : Int)) /\ (l.getD i Sx.nil).n = 0 /\ ∀ k, k < i -> (l.getD k Sx.nil).n ≠ 0) /\ w' = w := by
  have hcap := hb.cap; have H := Qc hb; obtain ⟨ln, hln⟩ : ∃ ln, ln = l.length := ⟨_, rfl⟩; rw [<- hln] at hcap hl |-; have HLN := Qc hln; clear hln hb; unfold slV; obtain ⟨ad, had⟩ : ∃ ad, ad = adr s.b := ⟨_, rfl⟩; have HAD := Qc had; rw [<- had]; clear had; generalize hcp : s.c = cap at *; have HCP := Qc hcp; clear hcp; go_enter Try.func64, Try.ntmps64; go_wp2; go_loopw [8] (fun v wr => ∃ j : Nat, j <= ln /\ v = .int .i64 j /\ Hid (∀ k, k < j -> (l.getD k Sx.nil).n ≠ 0) /\ wr = w) (fun v _ => ln - (intOf v).toNat)
  case atStart => exact ⟨0, Nat.zero_le _, rfl, fun k hk => absurd hk (Nat.not_lt_zero _), rfl⟩
  case round =>
    obtain ⟨j, hj, rfl, HNo, rfl⟩ := hrel
    by_cases hlt : j < ln
    · have i1 : (j : Int) < ln := by omega
      have hjl : j < l.length := by rw [<- HLN.out]; exact hlt
      obtain ⟨b, hb0, hbl, -⟩ := H.out.block (by omega); have c0 := H.out.cell hb0 hjl; have hmeq := HAD.out; rw [hb0] at hmeq; have hmeq2 : ad = some ⟨b, 0, none⟩ := hmeq; subst hmeq2; have HO1 := Qc (Qkea (l.getD j Sx.nil).a (l.getD j Sx.nil).n (l.getD j Sx.nil).c wr); unfold slx at c0; have HXJ := Qc (show ∀ q : Bool, q = decide ((l.getD j Sx.nil).n = 0) -> ((l.getD j Sx.nil).n = 0 ↔ q = true) from fun q hq => by rw [hq, decide_eq_true_eq]); obtain ⟨q, hq⟩ : ∃ q, q = decide ((l.getD j Sx.nil).n = 0) := ⟨_, rfl⟩; have HXQ := Qc (HXJ.out q hq); rw [<- hq] at HO1; generalize (l.getD j Sx.nil).a = xa at *; generalize (l.getD j Sx.nil).c = xc at *; obtain ⟨xn, hxn⟩ : ∃ xn, xn = (l.getD j Sx.nil).n := ⟨_, rfl⟩; have HXN := Qc hxn; rw [<- hxn] at c0 HO1; clear hmeq hb0 hq HXJ hxn
      cases q with
      | true =>
        go_wp2_with fail; refine HO1.out.mono ?_; rintro e w1 ⟨rfl, rfl⟩; clear HO1 c0 hbl; go_wp2; go_ret; exact ⟨.inr ⟨j, hlt, rfl, HXQ.out.2 (by simp), HNo.out⟩, by first | rfl | trivial⟩
      | false =>
        go_wp2_with fail; refine HO1.out.mono ?_; rintro e w1 ⟨rfl, rfl⟩; clear HO1 c0 hbl; go_wp2; go_roundw
        case rel =>
          refine ⟨j + 1, by omega, by go_num, fun k hk => ?_, by first | rfl | trivial⟩
          by_cases e : k = j
          · subst e; exact fun h => absurd (HXQ.out.1 h) (by simp)
          · exact HNo.out k (by omega)
        case measure => simp [intOf]; omega
    · have i1 : ¬ (j : Int) < ln := by omega
      go_wp2; go_ret; exact ⟨.inl ⟨rfl, fun k hk => HNo.out k (by omega)⟩, by first | rfl | trivial⟩
theorem delf17 (s : Sl) (l : List Sx) (w : World) (hb : RV w s l) (hl : l.length <= 1000000) :
    Calls Try.prog 43 #[slV s l.length, .func (.func 45) #[] #[]] w fun e w' => e = .returned (slV s (Qbca l).length) /\ RV w' s (Qbca l) /\ Tn (ofS s) w w' := by
  have hcap := hb.cap; have H := Qc hb; have HI := Qc (idx17 s l w hb hl); obtain ⟨ln, hln⟩ : ∃ ln, ln = l.length := ⟨_, rfl⟩; rw [<- hln] at hcap hl HI |-; have HLN := Qc hln; clear hln hb; unfold slV at HI |-; obtain ⟨ad, had⟩ : ∃ ad, ad = adr s.b := ⟨_, rfl⟩; have HAD := Qc had; rw [<- had] at HI |-; clear had; obtain ⟨cap, hcp⟩ : ∃ cap, cap = s.c := ⟨_, rfl⟩; have HCP := Qc hcp; rw [<- hcp] at HI hcap |-; clear hcp; go_enter Try.func43, Try.ntmps43; go_wp2_with fail; refine HI.out.mono ?_
  rintro e w1 ⟨⟨rfl, hall⟩ | ⟨i, hi, rfl, h0, hne⟩, rfl⟩
  · have HK := Qc (Qlea (by rw [<- HLN.out]; exact hall)); clear hall HI; go_wp2; go_ret; rw [HK.out]; exact ⟨(by rw [<- HLN.out]; exact rfl), H.out, Tn.refl _ _⟩
  · have hil : i < l.length := by rw [<- HLN.out]; exact hi
    obtain ⟨b, hb0, hbl, -⟩ := H.out.block (by omega); have hmeq := HAD.out; rw [hb0] at hmeq; have hmeq2 : ad = some ⟨b, 0, none⟩ := hmeq; subst hmeq2; have HB0 := Qc hb0; have H0 : Hid (RV w1 s l /\ l.length = ln /\ l.take i = Qbca (l.take (i + 1)) /\ Tn (ofS s) w1 w1) := ⟨H.out, HLN.out.symm, Qsea hil h0 hne, Tn.refl _ _⟩; clear hmeq h0 hne hil hbl hb0 HI HAD; have e1 : ((i : Int) == -1) = false := by rw [beq_eq_false_iff_ne]; omega
    have i9 : i < 1000000 := by omega
    go_wp2; go_loopw [5, 6] (fun vi vj wr => ∃ (i j : Nat) (L : List Sx), i < j /\ j <= ln /\ vi = .int .i64 (i : Int) /\ vj = .int .i64 (j : Int) /\ Hid (RV wr s L /\ L.length = ln /\ L.take i = Qbca (l.take j) /\ L.drop j = l.drop j /\ Tn (ofS s) w1 wr)) (fun _ vj _ => ln - (intOf vj).toNat)
    case atStart => exact ⟨i, i + 1, l, by omega, by omega, rfl, by go_num, H0.out.1, H0.out.2.1, H0.out.2.2.1, rfl, H0.out.2.2.2⟩
    case round =>
      obtain ⟨i2, j, L, hij, hj, rfl, rfl, HJ⟩ := hrel; clear H0 e1
      by_cases hlt : j < ln
      · have i1 : (j : Int) < ln := by omega
        have hjL : j < L.length := by rw [HJ.out.2.1]; exact hlt
        have hjl : j < l.length := by rw [<- HLN.out]; exact hlt
        have c0 := HJ.out.1.cell HB0.out hjL
        have heq : L.getD j Sx.nil = l.getD j Sx.nil := by
          have h1 := congrArg (fun x => x.head?.getD Sx.nil) HJ.out.2.2.2.1; simp only [List.head?_drop] at h1; rw [List.getD_eq_getElem?_getD, List.getD_eq_getElem?_getD]; exact h1
        rw [heq] at c0; have HKS := Qc (Qaea hjl)
        have HD1 : Hid (L.drop (j + 1) = l.drop (j + 1)) := by
          have h1 := congrArg List.tail HJ.out.2.2.2.1; rw [List.tail_drop, List.tail_drop] at h1; exact h1
        obtain ⟨y, hy⟩ : ∃ y, y = l.getD j Sx.nil := ⟨_, rfl⟩; rw [<- hy] at c0 HKS; clear heq hy hjL hjl; obtain ⟨xa, xn, xc⟩ := y; have c1 : wr.cell? ⟨b, j, none⟩ = some (.slice xa xn xc) := c0; have HO1 := Qc (Qkea xa xn xc wr); clear c0
        by_cases hx : xn = 0
        · have HK : Hid (Qbca (l.take (j + 1)) = Qbca (l.take j)) := by
            show _ = _; rw [HKS.out, if_neg (by show ¬ xn ≠ 0; simp [hx]), List.append_nil]
          rw [decide_eq_true hx] at HO1; clear HKS hx; go_wp2_with fail; refine HO1.out.mono ?_; rintro e w2 ⟨rfl, rfl⟩; clear HO1 c1; go_wp2; go_roundw
          case rel => exact ⟨i2, j + 1, L, by omega, by omega, rfl, by go_num, HJ.out.1, HJ.out.2.1, by rw [HK.out]; exact HJ.out.2.2.1, HD1.out, HJ.out.2.2.2.2⟩
          case measure => simp [intOf] <;> omega
        · have HK : Hid (Qbca (l.take (j + 1)) = Qbca (l.take j) ++ [⟨xa, xn, xc⟩]) := by
            show _ = _; rw [HKS.out, if_pos (by show xn ≠ 0; exact hx)]
          rw [decide_eq_false hx] at HO1; have hiL : i2 < L.length := by rw [HJ.out.2.1]; omega
          have c2 := HJ.out.1.cell HB0.out hiL; obtain ⟨-, -, cs, hrow, -⟩ := id (HJ.out.1.block (by omega)); have HST := Qc (HJ.out.1.set HB0.out hiL ⟨xa, xn, xc⟩); have HTK := Qc (set_take (L := L) ⟨xa, xn, xc⟩ hiL); have HDR := Qc (set_drop (L := L) (i := i2) (j := j + 1) ⟨xa, xn, xc⟩ (by omega)); obtain ⟨b2, hb2, -, cs2, hrow2, -⟩ := HJ.out.1.block (by omega)
          obtain rfl : b = b2 := by
            have := HB0.out; rw [hb2] at this; injection this with this; exact this.symm
          have c3 := hrow2.free i2; have i3 : (i2 : Int) < (ln : Int) := by omega
          have i8 : i2 < 1000000 := by omega
          clear HKS hx hrow hiL hb2 hrow2; go_wp2_with fail; refine HO1.out.mono ?_; rintro e w2 ⟨rfl, rfl⟩; clear HO1 c1; go_wp2; go_roundw
          case rel => exact ⟨i2 + 1, j + 1, L.set i2 ⟨xa, xn, xc⟩, by omega, by omega, by go_num, by go_num, HST.out.1, by rw [List.length_set]; exact HJ.out.2.1, by rw [HTK.out, HK.out, HJ.out.2.2.1], by rw [HDR.out]; exact HD1.out, HJ.out.2.2.2.2.then HST.out.2⟩
          case measure => simp [intOf] <;> omega
      · have i1 : ¬ (j : Int) < ln := by omega
        obtain rfl : j = ln := by omega
        have hK : L.take i2 = Qbca l := by
          have h1 := HJ.out.2.2.1; have e : l.take j = l := List.take_of_length_le (by have := HLN.out; omega); rwa [e] at h1
        have hkl : (Qbca l).length = i2 := by
          rw [<- hK, List.length_take, HJ.out.2.1]; omega
        have HC := HJ.out.1.clear HB0.out (i := i2) (by rw [HJ.out.2.1]; omega); rw [HJ.out.2.1, hK] at HC; have HCL := Qc HC; obtain ⟨b2, hb2, -, cs2, hrow2, hcs2⟩ := HJ.out.1.block (by rw [HJ.out.2.1]; omega); rw [HJ.out.2.1] at hcs2
        obtain rfl : b = b2 := by
          have := HB0.out; rw [hb2] at this; injection this with this; exact this.symm
        have hclr := fun ty => Qsda wr ty b i2 (j - i2) (cap - i2) (by omega) (fun q hq => Qga hrow2 (by omega)) (fun q => hrow2.free q)
        have HTN := Qc HJ.out.2.2.2.2; have i3 : (i2 : Int) <= (j : Int) := by omega
        have i4 : (i2 : Int) <= (cap : Int) := by omega
        have i8 : i2 < 1000000 := by omega
        have HKL := Qc hkl; obtain ⟨W2, hW2⟩ : ∃ W2, W2 = wr.setCells b i2 (Builtin.zeroCells Qwba (j - i2)).toList := ⟨_, rfl⟩; rw [<- hW2] at hclr HCL; clear hK hkl HC hrow2 hcs2 hb2 HJ hW2; go_wp2; go_ret; rw [HKL.out]; exact ⟨rfl, HCL.out.1, HTN.out.then HCL.out.2⟩
theorem Qmda {α : Type} (f : α -> Array Value) (zz : α) (sz : Nat) (hf : ∀ x, (f x).size = sz) (hsz : 0 < sz) {P : Program} (w : World) (base : Nat) (t ty e : TypeId) (z : Value) (by' : Nat) (ht : P.underlying t = some (.slice e))
    (hi : (P.info? e).map (fun i => (i.zero, i.size, i.bytes)) = some (some z, sz, by')) (hzs : z.cells.size = sz) (v : Value) (n : Nat) (xs : List Value) (hown : w.ownsRow base e sz v n xs)
    (vx : Value) (ms : List α) (hr : Qte f zz sz w vx ms) (hnil : ∀ a len cap, vx = .slice a len cap -> a = none -> cap = 0) (h1 : ∀ m ∈ ms, ∀ u ∈ (f m).toList, u.oneCell' = true) (hl : n + ms.length <= maxLen) (hb : (n + ms.length) * by' <= 140737488355328) (hbase : base <= w.heap.size) :
    ∃ v' w', (Builtin.append_ #[t, t] ty #[v, vx]).run P w = .ok v' w' /\ w'.ownsRow base e sz v' (n + ms.length) (xs ++ ms.flatMap fun m => (f m).toList) /\ w.grownBy w' v.ownBlock := by
  obtain ⟨i, hi0, hi1⟩ := Option.map_eq_some_iff.1 hi; simp only [Prod.mk.injEq] at hi1; obtain ⟨a, cap, rfl, hc⟩ := hr
  have hlen : (ms.flatMap fun m => (f m).toList).length = ms.length * sz := by
    clear hc h1 hl hb hnil
    induction ms with
    | nil => simp
    | cons m ms ih => rw [List.flatMap_cons, List.length_append, ih, Array.length_toList, hf, List.length_cons, Nat.add_mul, Nat.one_mul, Nat.add_comm]
  cases a with
  | none =>
    obtain rfl := hnil _ _ _ rfl rfl
    have hm : ms = [] := by
      rcases ms with _ | ⟨m, ms⟩
      · rfl
      · obtain ⟨b, off, h, _⟩ := hc (by simp); cases h
    subst hm; exact ⟨v, w, run_append_owned_none (P := P) w base t ty e i sz ht hi0 v n xs hown, by simpa using hown, ⟨rfl, rfl, rfl, Nat.le_refl _, fun _ _ _ => rfl⟩⟩
  | some ad =>
    obtain ⟨v', w', q1, q2, q3, _⟩ := run_append_own (P := P) w base t ty e i z sz by' ht hi0 hi1.1 hi1.2.1 hi1.2.2 hzs hsz v n xs hown ad ms.length cap (ms.flatMap fun m => (f m).toList) hlen (fun j u hu => by
      have hj : j < ms.length * sz := by
        have := (List.getElem?_eq_some_iff.1 hu).1; rwa [hlen] at this
      have hp : 0 < ms.length := by
        rcases Nat.eq_zero_or_pos ms.length with h | h
        · rw [h] at hj; omega
        · exact h
      obtain ⟨b, off, h2, _, h3⟩ := hc hp; cases h2; have hq : j / sz < ms.length := Nat.div_lt_of_lt_mul (by rw [Nat.mul_comm]; exact hj); have hr2 : j % sz < sz := Nat.mod_lt _ hsz; have hjj : j / sz * sz + j % sz = j := by rw [Nat.mul_comm]; exact Nat.div_add_mod j sz
      have h4 := Qgm f sz hf zz ms (j / sz) (j % sz) hq hr2; rw [hjj, hu] at h4; have h5 := h3 (j / sz) hq (j % sz) u h4.symm; rw [Addr.add_lit]; rw [Nat.add_assoc, hjj] at h5
      exact h5) (fun u hu => by
      obtain ⟨m, hm, hu2⟩ := List.mem_flatMap.1 hu
      exact h1 m hm u hu2) hl hb hbase
    exact ⟨v', w', q1, q2, q3⟩
def VsIn (w : World) (v : Value) (l : List Sx) : Prop := Qte (fun x => #[slx x]) Sx.nil 1 w v l
theorem VsIn.below {w x : World} {v : Value} {l : List Sx} (h : VsIn w v l) (hb : Below w.heap.size w x) : VsIn x v l := Qte.below h hb
theorem Qffa (l : List Sx) : (l.flatMap fun x => (#[slx x] : Array Value).toList) = flV l := by
  unfold flV
  induction l with
  | nil => rfl
  | cons x l ih => rw [List.flatMap_cons, ih]; rfl
theorem Qxea (a : Option Addr) (n c : Nat) (w : World) : (binOp .eql 84 (.slice a n c) (.slice none 0 0)).run Try.prog w = .ok (.bool a.isNone) w := by
  have q := run_equal_slice_nil (P := Try.prog) w 84 25 a n c Try.underlying84; simp [binOp, q]
theorem clone17V {w : World} {v : Value} {l : List Sx} (h : VsIn w v l) (hl : l.length * 24 <= 140737488355328) : Calls Try.prog 44 #[v] w fun e w' => ∃ v', e = .returned v' /\ w'.ownsRow w.heap.size 25 1 v' l.length (flV l) /\ Below w.heap.size w w' := by
  have h0 := h; obtain ⟨a, c, rfl, hc⟩ := h0
  cases a with
  | none =>
    have hm : l = [] := by
      rcases l with _ | ⟨m, ms⟩
      · rfl
      · obtain ⟨b, off, h, _⟩ := hc (by simp); cases h
    subst hm; have q0 := fun n w => Qxea none n c w
    simp only [Option.isNone_none] at q0; clear h hc hl; rw [show ([] : List Sx).length = 0 from rfl]; have q1 := fun w => q0 0 w
    clear q0; go_enter Try.func44, Try.ntmps44; go_wp2; go_ret; exact ⟨_, rfl, World.ownsRow_nil _ _ _ _, Below.refl _ _⟩
  | some ad =>
    have b5 : Below w.heap.size w (w.alloc (.cells #[] 25)) := (Below.refl w.heap.size w).alloc (Nat.le_refl _) _; have ho : (w.alloc (.cells #[] 25)).ownsRow w.heap.size 25 1 (.slice (some ⟨w.heap.size, 0, none⟩) 0 0) 0 [] := ⟨rfl, .inr ⟨w.heap.size, 0, #[], rfl, Nat.le_refl _, Qb.new w _ _, Nat.le_refl _, Nat.zero_le _, rfl, rfl⟩⟩
    obtain ⟨v1, y1, r1, o1, g1⟩ := Qmda (fun x => #[slx x]) Sx.nil 1 (fun _ => rfl) (by decide) (P := Try.prog) (w.alloc (.cells #[] 25)) w.heap.size 84 84 25 _ 24 Try.underlying84 infoXV rfl (.slice (some ⟨w.heap.size, 0, none⟩) 0 0) 0 [] ho (.slice (some ad) l.length c) l (h.below b5) (fun a len c h ha => by injection h with h1; rw [ha] at h1; cases h1) (fun m _ u hu => by
      simp only [List.mem_cons, List.not_mem_nil, or_false] at hu; rw [hu]
      rfl) (by unfold maxLen; omega) (by omega) b5.size
    rw [Nat.zero_add, List.nil_append, Qffa] at o1; have HE := Qc (show y1.ownsRow w.heap.size 25 1 v1 l.length (flV l) /\ Below w.heap.size w y1 from ⟨o1, b5.trans ((Tn.of_grown (F := fun k => k = w.heap.size) g1 (fun k hk => by injection hk with hk; exact hk.symm)).below (fun k hk => by rw [hk]; exact Nat.le_refl _) b5.size)⟩); generalize l.length = n at *; have q0 := fun w => Qxea (some ad) n c w
    simp only [Option.isNone_some] at q0; clear h hc hl o1 g1 ho b5; go_enter Try.func44, Try.ntmps44; go_wp2_with (with_reducible refine Qw 7 rfl ?_); refine Qf ?_; refine Lib.wpList_append_run _ rfl _ _ _ _ rfl _ _ rfl rfl _ _ r1 ?_; go_wp2; go_ret; exact ⟨_, rfl, HE.out⟩
abbrev Qhca := List (Sx × List Sm)
def Qcca : Sx × List Sm := (Sx.nil, [])
def Qjba (P : Qhca) : List Sx := P.map (·.1)
def Qmba (P : Qhca) (i : Nat) : Sm := (P.getD i Qcca).2.getD 0 smZ
def PlOk (w : World) (P : Qhca) : Prop := ∀ p ∈ P, Qfea w (slx p.1) p.2 /\ 0 < p.2.length /\ p.1.n <= p.1.c
theorem PlOk.below {w x : World} {P : Qhca} (h : PlOk w P) (hb : Below w.heap.size w x) : PlOk x P := fun p hp => ⟨(h p hp).1.below hb, (h p hp).2⟩
theorem Qiba (P : Qhca) : (Qjba P).length = P.length := by unfold Qjba; rw [List.length_map]
theorem Qbea (P : Qhca) (i : Nat) : (Qjba P).getD i Sx.nil = (P.getD i Qcca).1 := by
  unfold Qjba; rw [List.getD_eq_getElem?_getD, List.getD_eq_getElem?_getD, List.getElem?_map]; cases P[i]? <;> rfl
theorem Qcea {w : World} {s : Sl} {P : Qhca} (hr : RV w s (Qjba P)) (hp : PlOk w P) {b i : Nat} (hb : s.b = some b) (hi : i < P.length) :
    ∃ bi oi li ci, slx (P.getD i Qcca).1 = .slice (some ⟨bi, oi, none⟩) li ci /\ li = (P.getD i Qcca).2.length /\ 0 < li /\ Hid ((∀ x, Below w.heap.size w x -> x.cell? ⟨b, i, none⟩ = some (.slice (some ⟨bi, oi, none⟩) li ci)) /\ ∀ x, Below w.heap.size w x -> x.rangeAt bi oi (smF (Qmba P i)).toList) := by
  have hm := hp _ (Qua P i Qcca hi); obtain ⟨bi, oi, ci, hv, _, _, hx⟩ := hm.1.mid hm.2.1
  refine ⟨bi, oi, _, ci, hv, rfl, hm.2.1, fun x hb' => ?_, fun x hb' => ?_⟩
  · have h1 := (hr.later hb').cell hb (i := i) (by rw [Qiba]; exact hi); rw [Qbea, hv] at h1; exact h1
  · have h1 := hx x hb'; rw [Nat.zero_mul, Nat.add_zero] at h1; exact h1
theorem next17 (s : Sl) (P : Qhca) (w : World) (hr : RV w s (Qjba P)) (hp : PlOk w P) (h0 : 0 < P.length) (hl : P.length <= 100000) :
    Calls Try.prog 46 #[slV s P.length, .func (.func 26) #[] #[]] w fun e w' => ∃ k : Nat, e = .returned (.int .i64 (k : Int)) /\ Least ltM (Qmba P) P.length k /\ Below w.heap.size w w' := by
  obtain ⟨b, hb0, -⟩ := hr.block (by rw [Qiba]; exact h0); have HAT := Qc (fun i hi => Qcea hr hp hb0 (i := i) hi); obtain ⟨n, hn⟩ : ∃ n, n = P.length := ⟨_, rfl⟩; rw [<- hn] at h0 hl HAT |-; have hsv : slV s n = .slice (some ⟨b, 0, none⟩) n s.c := by unfold slV; rw [hb0]; rfl
  rw [hsv]; generalize s.c = cap at *; clear hr hp hsv hn hb0; go_enter Try.func46, Try.ntmps46; go_wp2; go_loopw [5, 10] (fun vk vj wr => ∃ k j : Nat, vk = .int .i64 (k : Int) /\ vj = .int .i64 (j : Int) /\ j <= n /\ k < n /\ Hid (Least ltM (Qmba P) j k) /\ Hid (Below w.heap.size w wr)) (fun _ vj _ => n - (intOf vj).toNat)
  case atStart => exact ⟨0, 0, rfl, rfl, Nat.zero_le _, h0, Least.zero _ _, Below.refl _ _⟩
  case round =>
    obtain ⟨k, j, rfl, rfl, hj, hk, HL, HB⟩ := hrel; have k9 : k < 100000 := by omega
    by_cases hlt : j < n
    · have i1 : (j : Int) < (n : Int) := by omega
      have i2 : (k : Int) < (n : Int) := by omega
      obtain ⟨bA, oA, lA, cA, -, -, hlA, HA⟩ := HAT.out j hlt; obtain ⟨bB, oB, lB, cB, -, -, hlB, HB'⟩ := HAT.out k hk; have hYes := Qc (fun e => HL.out.yes Qgfa e); have hNo := Qc (fun e => HL.out.no e); obtain ⟨hA, hhA⟩ : ∃ h, h = Qmba P j := ⟨_, rfl⟩; obtain ⟨hB, hhB⟩ : ∃ h, h = Qmba P k := ⟨_, rfl⟩; rw [<- hhA, <- hhB] at hYes hNo; rw [<- hhA] at HA; rw [<- hhB] at HB'; have HBE := Qc (fun y => Qdfa hA hB y); obtain ⟨q, hq⟩ : ∃ q, q = ltM hA hB := ⟨_, rfl⟩; have hYes2 := Qc (fun e : q = true => hYes.out (hq ▸ e)); have hNo2 := Qc (fun e : q = false => hNo.out (hq ▸ e)); rw [<- hq] at HBE; have lA1 : ¬ lA <= 0 := by omega
      have lB1 : ¬ lB <= 0 := by omega
      clear hYes hNo hhA hhB hq HL; go_wp2_with fail; refine Qqa (fun y => Below w.heap.size w y) (by kernel_rfl) (by kernel_rfl) (Qt HB.out 1) ?_; refine Qg (by kernel_rfl) (fun K hK => ?_); go_simp; refine hK _ ?_; clear hK K; refine Qg (by kernel_rfl) (fun K hK => ?_); go_simp; refine hK _ ?_; clear hK K; refine Qg (by kernel_rfl) (fun K hK => ?_); go_simp; refine hK _ ?_; clear hK K; refine Qg (by kernel_rfl) (fun K hK => ?_); go_simp; refine hK _ ?_; clear hK K; refine Qub (by kernel_rfl) (.slice (some ⟨bA, oA, none⟩) lA cA) (fun x hx => by have q := HA.out.1 x hx; go_simp) ?_; simp only [Act.put, List.setIfInBounds_toArray, List.set]; refine Qg (by kernel_rfl) (fun K hK => ?_); go_simp; refine hK _ ?_; clear hK K; refine Qn (by kernel_rfl) 47 (.tmp 18) rfl _ (.agg (smF hA)) rfl (fun y hy => Qmca y bA oA hA (HA.out.2 y hy)) ?_; simp only [Act.put, List.setIfInBounds_toArray, List.set]; refine Qg (by kernel_rfl) (fun K hK => ?_); go_simp; refine hK _ ?_; clear hK K; refine Qg (by kernel_rfl) (fun K hK => ?_); go_simp; refine hK _ ?_; clear hK K; refine Qg (by kernel_rfl) (fun K hK => ?_); go_simp; refine hK _ ?_; clear hK K; refine Qub (by kernel_rfl) (.slice (some ⟨bB, oB, none⟩) lB cB) (fun x hx => by have q := HB'.out.1 x hx; go_simp) ?_; simp only [Act.put, List.setIfInBounds_toArray, List.set]; refine Qg (by kernel_rfl) (fun K hK => ?_); go_simp; refine hK _ ?_; clear hK K; refine Qn (by kernel_rfl) 47 (.tmp 24) rfl _ (.agg (smF hB)) rfl (fun y hy => Qmca y bB oB hB (HB'.out.2 y hy)) ?_; simp only [Act.put, List.setIfInBounds_toArray, List.set]; refine Qyc (by kernel_rfl) 26 #[.agg (smF hA), .agg (smF hB)] (.bool q) ?_ (fun y hC => (HBE.out y).mono fun e x z => ⟨z.1, hC.trans (z.2.mono hC.size)⟩) ?_; (intro x; go_simp); simp only [Act.put, List.setIfInBounds_toArray, List.set]; refine wpQuiet_nil ?_; intro w5 hb5; have H5 := Qc hb5; clear hb5 HB HA HB' HBE
      cases q with
      | true =>
        have HN := Qc (hYes2.out rfl); clear hYes2 hNo2; go_wp2; go_roundw
        case rel => exact ⟨j, j + 1, rfl, by go_num, by omega, hlt, HN, H5⟩
        case measure => simp [intOf] <;> omega
      | false =>
        have HN := Qc (hNo2.out rfl); clear hYes2 hNo2; go_wp2; go_roundw
        case rel => exact ⟨k, j + 1, rfl, by go_num, by omega, hk, HN, H5⟩
        case measure => simp [intOf] <;> omega
    · have i1 : ¬ (j : Int) < (n : Int) := by omega
      obtain rfl : j = n := by omega
      have hk9 : (k : Int) <= (j : Int) := by omega
      go_wp2; go_loopw [30] (fun vi wr => ∃ i : Nat, vi = .int .i64 (i : Int) /\ i <= k /\ Hid (Below w.heap.size w wr)) (fun vi _ => k - (intOf vi).toNat)
      case atStart => exact ⟨0, rfl, Nat.zero_le _, HB⟩
      case round =>
        obtain ⟨i, rfl, hi, HBR⟩ := hrel; clear HB
        by_cases hlt2 : i < k
        · have i3 : (i : Int) < (k : Int) := by omega
          have i4 : (i : Int) < (j : Int) := by omega
          have i5 : (k : Int) < (j : Int) := by omega
          have hfst := HL.out.first i hlt2; obtain ⟨bA, oA, lA, cA, -, -, hlA, HA⟩ := HAT.out k hk; obtain ⟨bB, oB, lB, cB, -, -, hlB, HB'⟩ := HAT.out i (by omega); obtain ⟨hA, hhA⟩ : ∃ h, h = Qmba P k := ⟨_, rfl⟩; obtain ⟨hB, hhB⟩ : ∃ h, h = Qmba P i := ⟨_, rfl⟩; rw [<- hhA, <- hhB] at hfst; rw [<- hhA] at HA; rw [<- hhB] at HB'; have HBE := Qc (fun y => Qdfa hA hB y); rw [hfst] at HBE; have lA1 : ¬ lA <= 0 := by omega
          have lB1 : ¬ lB <= 0 := by omega
          clear hhA hhB hfst; go_wp2_with fail; refine Qqa (fun y => Below w.heap.size w y) (by kernel_rfl) (by kernel_rfl) (Qt HBR.out 1) ?_; refine Qg (by kernel_rfl) (fun K hK => ?_); go_simp; refine hK _ ?_; clear hK K; refine Qg (by kernel_rfl) (fun K hK => ?_); go_simp; refine hK _ ?_; clear hK K; refine Qg (by kernel_rfl) (fun K hK => ?_); go_simp; refine hK _ ?_; clear hK K; refine Qg (by kernel_rfl) (fun K hK => ?_); go_simp; refine hK _ ?_; clear hK K; refine Qub (by kernel_rfl) (.slice (some ⟨bA, oA, none⟩) lA cA) (fun x hx => by have q := HA.out.1 x hx; go_simp) ?_; simp only [Act.put, List.setIfInBounds_toArray, List.set]; refine Qg (by kernel_rfl) (fun K hK => ?_); go_simp; refine hK _ ?_; clear hK K; refine Qn (by kernel_rfl) 47 (.tmp 38) rfl _ (.agg (smF hA)) rfl (fun y hy => Qmca y bA oA hA (HA.out.2 y hy)) ?_; simp only [Act.put, List.setIfInBounds_toArray, List.set]; refine Qg (by kernel_rfl) (fun K hK => ?_); go_simp; refine hK _ ?_; clear hK K; refine Qg (by kernel_rfl) (fun K hK => ?_); go_simp; refine hK _ ?_; clear hK K; refine Qg (by kernel_rfl) (fun K hK => ?_); go_simp; refine hK _ ?_; clear hK K; refine Qub (by kernel_rfl) (.slice (some ⟨bB, oB, none⟩) lB cB) (fun x hx => by have q := HB'.out.1 x hx; go_simp) ?_; simp only [Act.put, List.setIfInBounds_toArray, List.set]; refine Qg (by kernel_rfl) (fun K hK => ?_); go_simp; refine hK _ ?_; clear hK K; refine Qn (by kernel_rfl) 47 (.tmp 44) rfl _ (.agg (smF hB)) rfl (fun y hy => Qmca y bB oB hB (HB'.out.2 y hy)) ?_; simp only [Act.put, List.setIfInBounds_toArray, List.set]; refine Qyc (by kernel_rfl) 26 #[.agg (smF hA), .agg (smF hB)] (.bool true) ?_ (fun y hC => (HBE.out y).mono fun e x z => ⟨z.1, hC.trans (z.2.mono hC.size)⟩) ?_; (intro x; go_simp); simp only [Act.put, List.setIfInBounds_toArray, List.set]; refine Qg (by kernel_rfl) (fun K hK => ?_); go_simp; refine hK _ ?_; clear hK K; refine Qg (by kernel_rfl) (fun K hK => ?_); go_simp; refine hK _ ?_; clear hK K; go_big_quiet_skip; go_big_quiet_skip; go_big_quiet_skip; go_big_quiet_skip; refine Qg (by kernel_rfl) (fun K hK => ?_); go_simp; refine hK _ ?_; clear hK K; refine wpQuiet_nil ?_; intro w5 hb5; have H5 := Qc hb5; clear hb5 HBR HA HB' HBE; go_wp2; go_roundw
          case rel => exact ⟨i + 1, by go_num, by omega, H5⟩
          case measure => simp [intOf] <;> omega
        · have i3 : ¬ (i : Int) < (k : Int) := by omega
          go_wp2; go_ret; exact ⟨k, rfl, HL.out, HBR.out⟩
def Qkba (P : Qhca) : List Sm := P.flatMap (·.2)
abbrev Qtfa (l : List Sm) : Prop := l.Pairwise (fun a b => ltM a b = true)
abbrev Qeda (l : List Sm) : Prop := l.Pairwise (fun a b => ltM a b = true ∨ ltM b a = true)
structure Mg (all out : List Sm) (P : Qhca) : Prop where
  perm : (out ++ Qkba P).Perm all
  ord : Qtfa out
  low : ∀ a ∈ out, ∀ b ∈ Qkba P, ltM a b = true
  lists : ∀ p ∈ P, Qtfa p.2
  apart : Qeda (Qkba P)
theorem Qsba (A B : Qhca) : Qkba (A ++ B) = Qkba A ++ Qkba B := List.flatMap_append
theorem Qqba (p : Sx × List Sm) (B : Qhca) : Qkba (p :: B) = p.2 ++ Qkba B := List.flatMap_cons ..
theorem Qpfa {A : Qhca} (h : A = []) : Qkba A = [] := by rw [h]; rfl
theorem Mg.start {P : Qhca} (h1 : ∀ p ∈ P, Qtfa p.2) (h2 : Qeda (Qkba P)) : Mg (Qkba P) [] P :=
  ⟨by rw [List.nil_append], List.Pairwise.nil, fun a ha => (nomatch ha), h1, h2⟩
theorem split17 {P : Qhca} {k : Nat} (hk : k < P.length) : P = P.take k ++ P.getD k Qcca :: P.drop (k + 1) := by
  conv => lhs; rw [<- List.take_append_drop k P]
  rw [List.drop_eq_getElem_cons hk, List.getD_eq_getElem?_getD, List.getElem?_eq_getElem hk]; rfl
theorem set17 {P : Qhca} {k : Nat} (hk : k < P.length) (q : Sx × List Sm) : P.set k q = P.take k ++ q :: P.drop (k + 1) := by
  rw [List.set_eq_take_append_cons_drop, if_pos hk]
theorem Qaca {P : Qhca} {k : Nat} (h : 0 < (P.getD k Qcca).2.length) : (P.getD k Qcca).2 = Qmba P k :: (P.getD k Qcca).2.tail := by
  unfold Qmba
  cases e : (P.getD k Qcca).2 with
  | nil =>
    rw [e] at h; exact absurd h (by simp)
  | cons a l => rfl
theorem Mg.step {all out : List Sm} {P : Qhca} {k : Nat} (m : Mg all out P) (hk : k < P.length) (hne : ∀ p ∈ P, 0 < p.2.length) (hL : Least ltM (Qmba P) P.length k) (Q : Qhca)
    (hQ : Q = P.take k ++ P.drop (k + 1) /\ (P.getD k Qcca).2.tail = [] ∨ ∃ y, Q = P.take k ++ (y, (P.getD k Qcca).2.tail) :: P.drop (k + 1)) :
    Mg all (out ++ [Qmba P k]) Q := by
  obtain ⟨x, hx⟩ : ∃ x, x = Qmba P k := ⟨_, rfl⟩; obtain ⟨t, ht⟩ : ∃ t, t = (P.getD k Qcca).2.tail := ⟨_, rfl⟩; have hcons : (P.getD k Qcca).2 = x :: t := by rw [hx, ht]; exact Qaca (hne _ (Qua P k Qcca hk))
  have hsp := split17 hk
  have hfl : Qkba P = Qkba (P.take k) ++ (x :: t) ++ Qkba (P.drop (k + 1)) := by
    conv => lhs; rw [hsp]
    rw [Qsba, Qqba, hcons, List.append_assoc]
  have hfq : Qkba Q = Qkba (P.take k) ++ t ++ Qkba (P.drop (k + 1)) := by
    rcases hQ with ⟨e, e2⟩ | ⟨y, e⟩
    · rw [<- ht] at e2; rw [e, Qsba, e2, List.append_nil]
    · rw [e, Qsba, Qqba, <- ht, List.append_assoc]
  have hper : (Qkba P).Perm (x :: Qkba Q) := by
    rw [hfl, hfq, List.append_assoc, List.append_assoc]; exact List.perm_middle
  have hap := m.apart; have hpo := m.lists _ (Qua P k Qcca hk); rw [hcons] at hpo; have hpo2 := List.pairwise_cons.1 hpo; rw [hfl, Qeda, List.pairwise_append, List.pairwise_append] at hap; obtain ⟨⟨a1, a2, a3⟩, a4, a5⟩ := hap
  have oth : ∀ i, i < P.length -> i ≠ k -> (ltM (Qmba P i) x = true ∨ ltM x (Qmba P i) = true) -> ∀ b ∈ (P.getD i Qcca).2, ltM x b = true := fun i hi hik hc b hb => by
    have hm := Qua P i Qcca hi; have h1 := Qaca (hne _ hm); have h2 := m.lists _ hm
    have h3 : ltM x (Qmba P i) = true := by
      rcases hc with q | q
      · have := hL.low i hi; rw [<- hx, q] at this; exact absurd this (by simp)
      · exact q
    rw [h1] at hb h2
    rcases List.mem_cons.1 hb with rfl | hb
    · exact h3
    · exact Qgfa.tr _ _ _ h3 ((List.pairwise_cons.1 h2).1 b hb)
  have hlow : ∀ b ∈ Qkba Q, ltM x b = true := fun b hb => by
    rw [hfq] at hb
    rcases List.mem_append.1 hb with hb | hb
    · rcases List.mem_append.1 hb with hb | hb
      · obtain ⟨p, hp, hb2⟩ := List.mem_flatMap.1 hb; obtain ⟨i, hi, rfl⟩ := Qwca Qcca hp; rw [List.length_take] at hi; have e : (P.take k).getD i Qcca = P.getD i Qcca := by rw [List.getD_eq_getElem?_getD, List.getElem?_take, if_pos (by omega), <- List.getD_eq_getElem?_getD]
        rw [e] at hb2 hp; have h1 := Qaca (hne _ (Qua P i Qcca (by omega))); refine oth i (by omega) (by omega) ?_ b hb2; exact a3 (Qmba P i) (List.mem_flatMap.2 ⟨_, hp, by rw [h1]; simp⟩) x (by simp)
      · exact hpo2.1 b hb
    · obtain ⟨p, hp, hb2⟩ := List.mem_flatMap.1 hb; obtain ⟨i, hi, rfl⟩ := Qwca Qcca hp; rw [List.length_drop] at hi; have e : (P.drop (k + 1)).getD i Qcca = P.getD (k + 1 + i) Qcca := by rw [List.getD_eq_getElem?_getD, List.getElem?_drop, <- List.getD_eq_getElem?_getD]
      rw [e] at hb2 hp; have h1 := Qaca (hne _ (Qua P (k + 1 + i) Qcca (by omega))); refine oth (k + 1 + i) (by omega) (by omega) ?_ b hb2; exact (a5 x (by simp) (Qmba P (k + 1 + i)) (List.mem_flatMap.2 ⟨_, hp, by rw [h1]; simp⟩)).symm
  have hin : ∀ b ∈ Qkba Q, b ∈ Qkba P := fun b hb => hper.mem_iff.2 (List.mem_cons_of_mem _ hb)
  rw [<- hx]
  refine ⟨?_, ?_, fun a ha b hb => ?_, fun p hp => ?_, ?_⟩
  · rw [List.append_assoc]; refine List.Perm.trans ?_ m.perm; exact List.Perm.append_left out hper.symm
  · rw [Qtfa, List.pairwise_append]; refine ⟨m.ord, List.pairwise_singleton _ _, fun a ha b hb => ?_⟩; rw [List.mem_singleton.1 hb]; exact m.low a ha x (hper.mem_iff.2 (List.mem_cons_self ..))
  · rcases List.mem_append.1 ha with ha | ha
    · exact m.low a ha b (hin b hb)
    · rw [List.mem_singleton.1 ha]; exact hlow b hb
  · have hA : ∀ p ∈ P.take k, Qtfa p.2 := fun p hp => m.lists p (List.mem_of_mem_take hp)
    have hC : ∀ p ∈ P.drop (k + 1), Qtfa p.2 := fun p hp => m.lists p (List.mem_of_mem_drop hp)
    rcases hQ with ⟨e, _⟩ | ⟨y, e⟩
    · rw [e] at hp
      rcases List.mem_append.1 hp with hp | hp
      · exact hA p hp
      · exact hC p hp
    · rw [e] at hp
      rcases List.mem_append.1 hp with hp | hp
      · exact hA p hp
      · rcases List.mem_cons.1 hp with rfl | hp
        · show Qtfa (P.getD k Qcca).2.tail; rw [<- ht]; exact hpo2.2
        · exact hC p hp
  · rw [hfq, Qeda, List.pairwise_append, List.pairwise_append]; refine ⟨⟨a1, (List.pairwise_cons.1 a2).2, fun a ha b hb => a3 a ha b (List.mem_cons_of_mem _ hb)⟩, a4, fun a ha b hb => a5 a ?_ b hb⟩
    rcases List.mem_append.1 ha with ha | ha
    · exact List.mem_append.2 (.inl ha)
    · exact List.mem_append.2 (.inr (List.mem_cons_of_mem _ ha))
theorem Mg.less {all out : List Sm} {P : Qhca} (m : Mg all out P) (hP : 0 < P.length) (hne : ∀ p ∈ P, 0 < p.2.length) : out.length < all.length := by
  have h1 := m.perm.length_eq; have h2 := hne _ (Qua P 0 Qcca hP)
  have h3 : (P.getD 0 Qcca).2.length <= (Qkba P).length := by
    rw [split17 hP, Qsba, Qqba, List.length_append, List.length_append]; simp only [List.take_zero, List.nil_append]; show _ <= _; simp [Qcca, List.getD]; omega
  rw [List.length_append] at h1; omega
theorem Mg.done {all out : List Sm} (m : Mg all out []) : out.Perm all /\ Qtfa out := by
  have h := m.perm; rw [Qpfa rfl, List.append_nil] at h; exact ⟨h, m.ord⟩
theorem Qtw (a : Option Addr) (n c : Nat) (w : World) : (binOp .eql 42 (.slice a n c) (.slice none 0 0)).run Try.prog w = .ok (.bool a.isNone) w := by
  have q := run_equal_slice_nil (P := Try.prog) w 42 109 a n c Try.underlying42; simp [binOp, q]
theorem clone15T {w : World} {v : Value} {l : List Tx} (h : TxIn w v l) (hl : l.length * 40 <= 140737488355328) : Calls Try.prog 49 #[v] w fun e w' => ∃ v', e = .returned v' /\ w'.ownsRow w.heap.size 109 5 v' l.length (Qrfa l) /\ Below w.heap.size w w' := by
  have h0 := h; obtain ⟨a, c, rfl, hc⟩ := h0
  cases a with
  | none =>
    have hm : l = [] := by
      rcases l with _ | ⟨m, ms⟩
      · rfl
      · obtain ⟨b, off, h, _⟩ := hc (by simp); cases h
    subst hm; have q0 := fun n w => Qtw none n c w
    simp only [Option.isNone_none] at q0; clear h hc hl; rw [show ([] : List Tx).length = 0 from rfl]; have q1 := fun w => q0 0 w
    clear q0; go_enter Try.func49, Try.ntmps49; go_wp2; go_ret; exact ⟨_, rfl, World.ownsRow_nil _ _ _ _, Below.refl _ _⟩
  | some ad =>
    have b5 : Below w.heap.size w (w.alloc (.cells #[] 109)) := (Below.refl w.heap.size w).alloc (Nat.le_refl _) _; have ho : (w.alloc (.cells #[] 109)).ownsRow w.heap.size 109 5 (.slice (some ⟨w.heap.size, 0, none⟩) 0 0) 0 [] := ⟨rfl, .inr ⟨w.heap.size, 0, #[], rfl, Nat.le_refl _, Qb.new w _ _, Nat.le_refl _, Nat.zero_le _, rfl, rfl⟩⟩; obtain ⟨v1, y1, r1, o1, g1⟩ := Qpf txA Tx.zero 5 (fun _ => rfl) (by decide) (P := Try.prog) (w.alloc (.cells #[] 109)) w.heap.size 42 42 109 _ 40 Try.underlying42 infoTx3 rfl (.slice (some ⟨w.heap.size, 0, none⟩) 0 0) 0 [] ho (.slice (some ad) l.length c) l (h.below b5) (fun a len c h ha => by injection h with h1; rw [ha] at h1; cases h1) (fun m _ u hu => by have := Qkq m; rw [Array.all_eq_true'] at this; exact this u (by simpa using hu)) (by unfold maxLen; omega) (by omega) b5.size; rw [Nat.zero_add, List.nil_append] at o1; have HE := Qc (show y1.ownsRow w.heap.size 109 5 v1 l.length (Qrfa l) /\ Below w.heap.size w y1 from ⟨o1, b5.trans ((Tn.of_grown (F := fun k => k = w.heap.size) g1 (fun k hk => by injection hk with hk; exact hk.symm)).below (fun k hk => by rw [hk]; exact Nat.le_refl _) b5.size)⟩); generalize l.length = n at *; have q0 := fun w => Qtw (some ad) n c w
    simp only [Option.isNone_some] at q0; clear h hc hl o1 g1 ho b5; go_enter Try.func49, Try.ntmps49; go_wp2_with (with_reducible refine Qw 7 rfl ?_); refine Qf ?_; refine Lib.wpList_append_run _ rfl _ _ _ _ rfl _ _ rfl rfl _ _ r1 ?_; go_wp2; go_ret; exact ⟨_, rfl, HE.out⟩
theorem Qcy (a : Option Addr) (n c : Nat) (w : World) : (binOp .eql 43 (.slice a n c) (.slice none 0 0)).run Try.prog w = .ok (.bool a.isNone) w := by
  have q := run_equal_slice_nil (P := Try.prog) w 43 111 a n c Try.underlying43; simp [binOp, q]
theorem clone15D {w : World} {v : Value} {l : List Di} (h : DiIn w v l) (hl : l.length * 16 <= 140737488355328) : Calls Try.prog 50 #[v] w fun e w' => ∃ v', e = .returned v' /\ w'.ownsRow w.heap.size 111 2 v' l.length (flatD l) /\ Below w.heap.size w w' := by
  have h0 := h; obtain ⟨a, c, rfl, hc⟩ := h0
  cases a with
  | none =>
    have hm : l = [] := by
      rcases l with _ | ⟨m, ms⟩
      · rfl
      · obtain ⟨b, off, h, _⟩ := hc (by simp); cases h
    subst hm; have q0 := fun n w => Qcy none n c w
    simp only [Option.isNone_none] at q0; clear h hc hl; rw [show ([] : List Di).length = 0 from rfl]; have q1 := fun w => q0 0 w
    clear q0; go_enter Try.func50, Try.ntmps50; go_wp2; go_ret; exact ⟨_, rfl, World.ownsRow_nil _ _ _ _, Below.refl _ _⟩
  | some ad =>
    have b5 : Below w.heap.size w (w.alloc (.cells #[] 111)) := (Below.refl w.heap.size w).alloc (Nat.le_refl _) _; have ho : (w.alloc (.cells #[] 111)).ownsRow w.heap.size 111 2 (.slice (some ⟨w.heap.size, 0, none⟩) 0 0) 0 [] := ⟨rfl, .inr ⟨w.heap.size, 0, #[], rfl, Nat.le_refl _, Qb.new w _ _, Nat.le_refl _, Nat.zero_le _, rfl, rfl⟩⟩; obtain ⟨v1, y1, r1, o1, g1⟩ := Qpf diA Di.zero 2 (fun _ => rfl) (by decide) (P := Try.prog) (w.alloc (.cells #[] 111)) w.heap.size 43 43 111 _ 16 Try.underlying43 infoDi3 rfl (.slice (some ⟨w.heap.size, 0, none⟩) 0 0) 0 [] ho (.slice (some ad) l.length c) l (h.below b5) (fun a len c h ha => by injection h with h1; rw [ha] at h1; cases h1) (fun m _ u hu => by have := Qbv m; rw [Array.all_eq_true'] at this; exact this u (by simpa using hu)) (by unfold maxLen; omega) (by omega) b5.size; rw [Nat.zero_add, List.nil_append] at o1; have HE := Qc (show y1.ownsRow w.heap.size 111 2 v1 l.length (flatD l) /\ Below w.heap.size w y1 from ⟨o1, b5.trans ((Tn.of_grown (F := fun k => k = w.heap.size) g1 (fun k hk => by injection hk with hk; exact hk.symm)).below (fun k hk => by rw [hk]; exact Nat.le_refl _) b5.size)⟩); generalize l.length = n at *; have q0 := fun w => Qcy (some ad) n c w
    simp only [Option.isNone_some] at q0; clear h hc hl o1 g1 ho b5; go_enter Try.func50, Try.ntmps50; go_wp2_with (with_reducible refine Qw 7 rfl ?_); refine Qf ?_; refine Lib.wpList_append_run _ rfl _ _ _ _ rfl _ _ rfl rfl _ _ r1 ?_; go_wp2; go_ret; exact ⟨_, rfl, HE.out⟩
section
open Go.ChangeShapes Go.WideShapes Go.ChangeAt Go.RowKit Go.Deep Go.Joins
set_option linter.unusedVariables false
end
section
open Go.ChangeShapes Go.WideShapes Go.ChangeAt Go.RowKit Go.Deep Go.Joins
set_option linter.unusedVariables false
end
section
open Go.ChangeShapes Go.WideShapes Go.ChangeAt Go.RowKit Go.Deep Go.Joins
section
variable {H : Type} {enc : TypeId × Value -> H} {W : World}
def Rec.small (r : Rec) : Prop := r.ts.length * 40 <= reachBytes /\ r.ds.length * 16 <= reachBytes
end
end
theorem own17_any (r : Rec) (va vb : Value) (w : World) (hin : Qcd w r va vb) (hs : r.small) :
    Calls Try.prog 31 #[.agg (rcA r va vb)] w fun e w' => ∃ ua ub, e = .returned (.agg (rcA r ua ub)) /\ Qek w.heap.size w' r ua ub /\ Below w.heap.size w w' := by
  have hsT : r.ts.length * 40 <= 140737488355328 := Nat.le_trans hs.1 (by unfold reachBytes; omega); have hsD : r.ds.length * 16 <= 140737488355328 := Nat.le_trans hs.2 (by unfold reachBytes; omega); obtain ⟨n1, n2, n3⟩ := two_new w (rcA r va vb) #[.int .i64 0, .int .u64 0, .int .i64 0, .int .u64 0, .int .i64 0, .int .i64 0, .int .i64 0, .string ⟨#[]⟩, .string ⟨#[]⟩, .int .u64 0, .int .i64 0, .int .u64 0, .slice none 0 0, .slice none 0 0] 45 45; have hin0 := hin.below n3
  have hsl : (∃ a1 c1, va = .slice a1 r.ts.length c1) /\ ∃ a2 c2, vb = .slice a2 r.ds.length c2 := by
    obtain ⟨⟨a1, c1, e1, _⟩, ⟨a2, c2, e2, _⟩⟩ := hin; exact ⟨⟨a1, c1, e1⟩, a2, c2, e2⟩
  obtain ⟨⟨a1, c1, rfl⟩, a2, c2, rfl⟩ := hsl; obtain ⟨y, hy⟩ : ∃ y, y = ((w.alloc (.cells (rcA r (.slice a1 r.ts.length c1) (.slice a2 r.ds.length c2)) 45)).alloc (.cells #[.int .i64 0, .int .u64 0, .int .i64 0, .int .u64 0, .int .i64 0, .int .i64 0, .int .i64 0, .string ⟨#[]⟩, .string ⟨#[]⟩, .int .u64 0, .int .i64 0, .int .u64 0, .slice none 0 0, .slice none 0 0] 45)) := ⟨_, rfl⟩; rw [<- hy] at n1 n2 n3 hin0; obtain ⟨b1, hb1⟩ : ∃ b1, b1 = w.heap.size := ⟨_, rfl⟩; obtain ⟨b2, hb2⟩ : ∃ b2, b2 = w.heap.size + 1 := ⟨_, rfl⟩; rw [<- hb1] at n1; rw [<- hb2] at n2; have hne : b1 ≠ b2 := by omega
  have H0 : Hid (Qb y b1 45 (rcA r (.slice a1 r.ts.length c1) (.slice a2 r.ds.length c2)) /\ Qb y b2 45 Qya /\ Below w.heap.size w y /\ b1 ≠ b2 /\ w.heap.size <= b1) := ⟨n1, n2, n3, hne, by omega⟩; have HIN := Qc hin; have HT := Qc (clone15T hin0.1 hsT); have HB := Qc (And.intro hb1 hb2); have HSD := Qc hsD; have HY := Qc hy; clear hs hsT hsD n1 n2 n3 hin0 hin hne hb1 hb2 hy; obtain ⟨lt, hlt⟩ : ∃ k, k = r.ts.length := ⟨_, rfl⟩; obtain ⟨ld, hld⟩ : ∃ k, k = r.ds.length := ⟨_, rfl⟩; rw [<- hlt] at H0 HIN HT HY |-; rw [<- hld] at H0 HIN HY HSD |-; have HLL := Qc (And.intro hlt hld); clear hlt hld; go_enter Try.func31, Try.ntmps31; go_wp2_with (with_reducible refine Qw 4 rfl ?_); rw [<- HY.out, <- HB.out.2, <- HB.out.1]; have k12 := H0.out.1.cell 12 (.slice a1 lt c1) rfl; refine Qf ?_; go_wp2_with fail; refine HT.out.mono ?_; rintro e w1 ⟨v1, rfl, ho1, hb1⟩; have H1 : Hid (Qb w1 b1 45 (rcA r (.slice a1 lt c1) (.slice a2 ld c2)) /\ Qb w1 b2 45 Qya /\ Below w.heap.size w w1 /\ b1 ≠ b2 /\ w.heap.size <= b1 /\ w1.ownsRow w.heap.size 109 5 v1 lt (Qrfa r.ts)) := ⟨H0.out.1.later hb1, H0.out.2.1.later hb1, H0.out.2.2.1.trans (hb1.mono H0.out.2.2.1.size), H0.out.2.2.2.1, H0.out.2.2.2.2, Quca ho1 H0.out.2.2.1.size⟩; obtain ⟨u1, n1, rfl, -⟩ := Qlf ho1; clear ho1 hb1 H0 HT k12; have d12 := H1.out.1.cell 12 (.slice a1 lt c1) rfl; have f12 := H1.out.1.free 12; go_wp2_with (with_reducible refine Qw 8 rfl ?_); obtain ⟨x1, hx1⟩ : ∃ x, x = w1.setCell ⟨b1, 12, none⟩ (.slice u1 lt n1) := ⟨_, rfl⟩
  have H2 : Hid (Qb x1 b1 45 (rcA r (.slice u1 lt n1) (.slice a2 ld c2)) /\ Qb x1 b2 45 Qya /\ Below w.heap.size w x1 /\ b1 ≠ b2 /\ w.heap.size <= b1 /\ x1.ownsRow w.heap.size 109 5 (.slice u1 lt n1) lt (Qrfa r.ts)) := by
    rw [hx1]; refine ⟨H1.out.1.set 12 _, H1.out.2.1.other _ _ (fun e => H1.out.2.2.2.1 e.symm), H1.out.2.2.1.setCell H1.out.2.2.2.2.1 _, H1.out.2.2.2.1, H1.out.2.2.2.2.1, Qij H1.out.2.2.2.2.2 (fun k cs hk => hk.other _ _ (fun e => ?_))⟩; have e' : k = b1 := e; rw [e'] at hk; exact absurd (Qbb hk H1.out.1) (by decide)
  rw [<- hx1]; clear hx1 H1 d12 f12
  have HDD : Hid (Calls Try.prog 50 #[.slice a2 ld c2] x1 fun e w' => ∃ v', e = .returned v' /\ w'.ownsRow x1.heap.size 111 2 v' ld (flatD r.ds) /\ Below x1.heap.size x1 w') := by
    have h1 := clone15D (HIN.out.below H2.out.2.2.1).2 (by rw [<- HLL.out.2]; exact HSD.out); rw [<- HLL.out.2] at h1; exact h1
  have k13 := H2.out.1.cell 13 (.slice a2 ld c2) rfl; refine Qf ?_; go_wp2_with fail; refine HDD.out.mono ?_; rintro e w2 ⟨v2, rfl, ho2, hb2⟩; have H3 : Hid (Qb w2 b1 45 (rcA r (.slice u1 lt n1) (.slice a2 ld c2)) /\ Qb w2 b2 45 Qya /\ Below w.heap.size w w2 /\ b1 ≠ b2 /\ w.heap.size <= b1 /\ w2.ownsRow w.heap.size 109 5 (.slice u1 lt n1) lt (Qrfa r.ts) /\ w2.ownsRow w.heap.size 111 2 v2 ld (flatD r.ds) /\ w.heap.size <= b2) := ⟨H2.out.1.later hb2, H2.out.2.1.later hb2, H2.out.2.2.1.trans (hb2.mono H2.out.2.2.1.size), H2.out.2.2.2.1, H2.out.2.2.2.2.1, Qhk H2.out.2.2.2.2.2 hb2, Quca ho2 H2.out.2.2.1.size, by have := HB.out.2; omega⟩; obtain ⟨u2, n2, rfl, -⟩ := Qlf ho2; clear ho2 hb2 H2 HDD k13; have d13 := H3.out.1.cell 13 (.slice a2 ld c2) rfl; have f13 := H3.out.1.free 13; go_wp2_with (with_reducible refine Qw 11 rfl ?_); obtain ⟨x2, hx2⟩ : ∃ x, x = w2.setCell ⟨b1, 13, none⟩ (.slice u2 ld n2) := ⟨_, rfl⟩
  have H4 : Hid (Qb x2 b1 45 (rcA r (.slice u1 lt n1) (.slice u2 ld n2)) /\ Qb x2 b2 45 Qya /\ Below w.heap.size w x2 /\ w.heap.size <= b2 /\ Qek w.heap.size x2 r (.slice u1 lt n1) (.slice u2 ld n2)) := by
    rw [hx2]
    have keep : ∀ {e : TypeId} (hne : e ≠ 45) (k : Nat) (cs : Array Value), Qb w2 k e cs -> Qb (w2.setCell ⟨b1, 13, none⟩ (.slice u2 ld n2)) k e cs := fun hne k cs hk => hk.other _ _ (fun e => by
      have e' : k = b1 := e; rw [e'] at hk
      exact absurd (Qbb hk H3.out.1) hne)
    refine ⟨H3.out.1.set 13 _, H3.out.2.1.other _ _ (fun e => H3.out.2.2.2.1 e.symm), H3.out.2.2.1.setCell H3.out.2.2.2.2.1 _, H3.out.2.2.2.2.2.2.2, ?_, ?_⟩
    · rw [<- HLL.out.1]; exact Qij H3.out.2.2.2.2.2.1 (keep (by decide))
    · rw [<- HLL.out.2]; exact Qij H3.out.2.2.2.2.2.2.1 (keep (by decide))
  rw [<- hx2]; clear hx2 H3 d13 f13; refine Qf ?_; go_wp2_with (first | (refine Qd rfl 45 (.tmp 1) rfl b1 rfl (rcA r (.slice u1 lt n1) (.slice u2 ld n2)) H4.out.1 _ Try.underlying45 rfl Qia ?_) | (refine Qe rfl 45 (.tmp 2) (.tmp 11) rfl b2 Qya (rcA r (.slice u1 lt n1) (.slice u2 ld n2)) rfl rfl H4.out.2.1 Qia rfl (by simp [rcA, Value.oneCell']) ?_; intro w3 hr3 hk3 hrow3; refine Qz ?_)); have hbl := hk3 _ _ H4.out.2.2.1 H4.out.2.2.2.1
  have hgot : Qek w.heap.size w3 r (.slice u1 lt n1) (.slice u2 ld n2) :=
    ⟨Qij H4.out.2.2.2.2.1 (fun k cs hk => hrow3 k _ cs (fun e => by rw [e] at hk; exact absurd (Qbb hk H4.out.2.1) (by decide)) hk),
      Qij H4.out.2.2.2.2.2 (fun k cs hk => hrow3 k _ cs (fun e => by rw [e] at hk; exact absurd (Qbb hk H4.out.2.1) (by decide)) hk)⟩
  have H5 := Qc (And.intro hr3 (And.intro hbl hgot)); clear hr3 hk3 hrow3 hbl hgot H4; refine Qf ?_; go_wp2; exact bodyPost_ret (Qlc rfl _ _ b2 (rcA r (.slice u1 lt n1) (.slice u2 ld n2)) _ rfl H5.out.1 Try.underlying45 rfl Qia) rfl ⟨_, _, rfl, H5.out.2.2, H5.out.2.1⟩
def Qica (B : Nat) (w : World) (s : Sm) : Prop := s.2.1.fits /\ Qek B w s.2.1 s.2.2.1 s.2.2.2
theorem Qica.ok {B : Nat} {w : World} {s : Sm} (h : Qica B w s) : Qgea w s := ⟨h.1, h.2.rc⟩
theorem Qica.later {B : Nat} {w x : World} {s : Sm} (h : Qica B w s) (hb : Below w.heap.size w x) : Qica B x s := ⟨h.1, h.2.below hb⟩
theorem got_low {B C : Nat} {w : World} {r : Rec} {va vb : Value} (h : Qek C w r va vb) (hB : B <= C) : Qek B w r va vb := ⟨Quca h.1 hB, Quca h.2 hB⟩
theorem Qofa {B : Nat} {w : World} {r : Rec} {va vb : Value} (h : Qek B w r va vb) : (∃ a c, va = .slice a r.ts.length c) /\ ∃ a c, vb = .slice a r.ds.length c := by
  obtain ⟨a, c, h1, _⟩ := Qlf h.1; obtain ⟨a2, c2, h2, _⟩ := Qlf h.2; exact ⟨⟨a, c, h1⟩, a2, c2, h2⟩
def StAns (w : World) (n : Int) (rs : List Rec) (e : Ending) (w' : World) : Prop := ∃ v' ss, e = .returned v' /\ OwS w' w.heap.size v' ss /\ smS ss = tag n rs /\ (∀ s ∈ ss, Qica w.heap.size w' s) /\ Below w.heap.size w w'
theorem Qyea {n : Int} {l : List Rec} {j : Nat} (hj : j < l.length) : tag n (l.take (j + 1)) = tag n (l.take j) ++ [(n, l.getD j Rec.zero)] := by
  unfold tag; rw [List.take_succ_eq_append_getElem hj, List.map_append, List.getD_eq_getElem?_getD, List.getElem?_eq_getElem hj]; rfl
theorem stamped17 (w : World) (v : Value) (ms : List (Rec × Value × Value)) (n : Int) (hl : LogIn w v ms) (hs : ∀ m ∈ ms, m.1.small) :
    Calls Try.prog 24 #[v, .int .i64 n] w (StAns w n (msR ms)) := by
  have HL := Qc hl; have hfew := hl.few; obtain ⟨au, cu, rfl, _⟩ := hl.slice; have HSM := Qc hs; obtain ⟨ln, hln⟩ : ∃ k, k = ms.length := ⟨_, rfl⟩; rw [<- hln] at HL hfew |-; have HLN := Qc hln; obtain ⟨B, hB⟩ : ∃ B, B = w.heap.size := ⟨_, rfl⟩; have HB := Qc hB; have H0 : Hid (OwS w B (.slice none 0 0) [] /\ smS [] = tag n ((msR ms).take 0) /\ (∀ s ∈ ([] : List Sm), Qica B w s) /\ Below w.heap.size w w) := ⟨Quea _ _, rfl, fun s hs => (nomatch hs), Below.refl _ _⟩; clear hl hln hB hs; go_enter Try.func24, Try.ntmps24; go_wp2; go_loopw [5, 10] (fun vo i wr => ∃ (j : Nat) (ss : List Sm), j <= ln /\ i = .int .i64 (j : Int) /\ Hid (OwS wr B vo ss /\ smS ss = tag n ((msR ms).take j) /\ (∀ s ∈ ss, Qica B wr s) /\ Below w.heap.size w wr)) (fun _ i _ => ln - (intOf i).toNat)
  case atStart => exact ⟨0, [], Nat.zero_le _, rfl, H0⟩
  case round =>
    obtain ⟨j, ss, hj, rfl, HJ⟩ := hrel; clear H0
    have hO : ss.length = min j ln := by
      have h1 := congrArg List.length HJ.out.2.1; rw [Qyba, Qvea, List.length_take, Qeb, <- HLN.out] at h1; exact h1
    have hO9 : ss.length <= 100000 := by omega
    clear hO; obtain ⟨ao, co, hvo, _⟩ := HJ.out.1.slice; subst hvo
    by_cases hlt : j < ln
    · have i5 : (j : Int) < (ln : Int) := by omega
      have hjm : j < ms.length := by rw [<- HLN.out]; exact hlt
      have hjr : j < (msR ms).length := by rw [Qeb]; exact hjm
      obtain ⟨b, off, rfl, hft, hre, hx⟩ := HL.out.mid hjm; have hsm := HSM.out _ (Qua ms j rcZ hjm); have HTG := Qc (Qyea (n := n) hjr); rw [<- hre] at HTG; obtain ⟨⟨r, va, vb⟩, hm⟩ : ∃ m, m = ms.getD j rcZ := ⟨_, rfl⟩; rw [<- hm] at hft hx HTG hsm; obtain ⟨hr0, hin⟩ := hx wr HJ.out.2.2.2; obtain ⟨⟨x1, y1, hs1⟩, x2, y2, hs2⟩ := Qxl hin; have hs1' : va = .slice x1 r.ts.length y1 := hs1; have hs2' : vb = .slice x2 r.ds.length y2 := hs2; subst hs1' hs2'; have HLD0 := Qc (Qug wr b (off + j * 14) (r, .slice x1 r.ts.length y1, .slice x2 r.ds.length y2) hr0); have HOW := Qc (fun x (hxb : Below wr.heap.size wr x) => own17_any r (.slice x1 r.ts.length y1) (.slice x2 r.ds.length y2) x (hin.below hxb) hsm); have HFT := Qc (show r.fits from hft); have HTS := Qc HTG.out; obtain ⟨l1, hl1⟩ : ∃ l, l = r.ts.length := ⟨_, rfl⟩; obtain ⟨l2, hl2⟩ : ∃ l, l = r.ds.length := ⟨_, rfl⟩; have HLL := Qc (And.intro hl1 hl2); rw [<- hl1, <- hl2] at HLD0 HOW; have HLD : Hid ((Instr.loadAt 45 (.pointer (some ⟨b, off + j * 14, none⟩))).run Try.prog wr = .ok (.agg #[.int .i64 r.k, .int .u64 (r.l : Int), .int .i64 r.t, .int .u64 (r.p : Int), .int .i64 r.c.k, .int .i64 r.c.pg, .int .i64 r.c.sl, .string r.c.o, .string r.c.n, .int .u64 (r.n : Int), .int .i64 r.s, .int .u64 (r.b : Int), .slice x1 l1 y1, .slice x2 l2 y2]) wr) := HLD0.out; clear hjm hjr hft hre hx hr0 hin hs1 hs2 hm hl1 hl2 HLD0 hsm HTG; go_wp2_with (first | (refine Qo rfl 45 (.tmp 12) rfl _ (.agg #[.int .i64 r.k, .int .u64 (r.l : Int), .int .i64 r.t, .int .u64 (r.p : Int), .int .i64 r.c.k, .int .i64 r.c.pg, .int .i64 r.c.sl, .string r.c.o, .string r.c.n, .int .u64 (r.n : Int), .int .i64 r.s, .int .u64 (r.b : Int), .slice x1 l1 y1, .slice x2 l2 y2]) rfl HLD.out ?_) | (refine Qm rfl 45 (.tmp 7) (.tmp 13) rfl wr.heap.size 0 45 Qya #[.int .i64 r.k, .int .u64 (r.l : Int), .int .i64 r.t, .int .u64 (r.p : Int), .int .i64 r.c.k, .int .i64 r.c.pg, .int .i64 r.c.sl, .string r.c.o, .string r.c.n, .int .u64 (r.n : Int), .int .i64 r.s, .int .u64 (r.b : Int), .slice x1 l1 y1, .slice x2 l2 y2] rfl rfl (Qb.new wr _ _) Qia (Nat.le_refl 14) (by simp [Value.oneCell']) ?_; intro w5 hr5 ho5; refine Qz ?_)); rw [Qu Qya #[.int .i64 r.k, .int .u64 (r.l : Int), .int .i64 r.t, .int .u64 (r.p : Int), .int .i64 r.c.k, .int .i64 r.c.pg, .int .i64 r.c.sl, .string r.c.o, .string r.c.n, .int .u64 (r.n : Int), .int .i64 r.s, .int .u64 (r.b : Int), .slice x1 l1 y1, .slice x2 l2 y2] rfl] at hr5
      have hal : Below wr.heap.size wr (wr.alloc (.cells Qya 45)) := (Below.refl _ _).alloc (Nat.le_refl _) _; have hb5 := ho5.below hal (Nat.le_refl _); have H5 : Hid (Qb w5 wr.heap.size 45 #[.int .i64 r.k, .int .u64 (r.l : Int), .int .i64 r.t, .int .u64 (r.p : Int), .int .i64 r.c.k, .int .i64 r.c.pg, .int .i64 r.c.sl, .string r.c.o, .string r.c.n, .int .u64 (r.n : Int), .int .i64 r.s, .int .u64 (r.b : Int), .slice x1 l1 y1, .slice x2 l2 y2] /\ OwS w5 B (.slice ao ss.length co) ss /\ (∀ s ∈ ss, Qica B w5 s) /\ Below wr.heap.size wr w5) := ⟨hr5, Qdb HJ.out.1 hb5, fun s hs => (HJ.out.2.2.1 s hs).later hb5, hb5⟩; have HB5 := Qc hb5; obtain ⟨g, hg⟩ : ∃ g, g = wr.heap.size := ⟨_, rfl⟩; rw [<- hg] at H5 |-; have HG := Qc hg; clear hr5 ho5 hal hb5 hg HLD; refine Qf ?_; go_wp2_with (refine Qd rfl 45 (.tmp 7) rfl g rfl #[.int .i64 r.k, .int .u64 (r.l : Int), .int .i64 r.t, .int .u64 (r.p : Int), .int .i64 r.c.k, .int .i64 r.c.pg, .int .i64 r.c.sl, .string r.c.o, .string r.c.n, .int .u64 (r.n : Int), .int .i64 r.s, .int .u64 (r.b : Int), .slice x1 l1 y1, .slice x2 l2 y2] H5.out.1 _ Try.underlying45 rfl Qia ?_); refine (HOW.out w5 HB5.out).mono ?_; rintro e w6 ⟨ua, ub, rfl, hgot, hb6⟩; obtain ⟨⟨u1, z1, hu1⟩, u2, z2, hu2⟩ := Qofa hgot; rw [<- HLL.out.1] at hu1; rw [<- HLL.out.2] at hu2; subst hu1 hu2; have b56 : Below w.heap.size w w6 := HJ.out.2.2.2.trans ((HB5.out.trans (hb6.mono HB5.out.size)).mono HJ.out.2.2.2.size)
      have hBw : B <= w5.heap.size := by
        rw [HB.out]; have h1 := HJ.out.2.2.2.size; have h2 := HB5.out.size; omega
      have H6 : Hid (OwS w6 B (.slice ao ss.length co) ss /\ (∀ s ∈ ss, Qica B w6 s) /\ Qek B w6 r (.slice u1 l1 z1) (.slice u2 l2 z2) /\ Below w.heap.size w w6) := ⟨Qdb H5.out.2.1 hb6, fun s hs => (H5.out.2.2.1 s hs).later hb6, got_low hgot hBw, b56⟩; have hB6 : B <= w6.heap.size := by have := hb6.size; omega
      clear hgot hb6 b56 hBw H5 HOW; unfold rcA; go_wp2_with (refine Qrba _ 25 47 15 168 (.agg zeroS) Try.underlying25 Qeea rfl (by decide) (by decide) rfl (.tmp 14) (.tmp 19) rfl B (.slice ao ss.length co) ss.length (flS ss) rfl (Qdb H6.out.1 ((Below.refl w6.heap.size w6).alloc (Nat.le_refl _) _)) w6.heap.size #[.int .i64 n, .int .i64 r.k, .int .u64 (r.l : Int), .int .i64 r.t, .int .u64 (r.p : Int), .int .i64 r.c.k, .int .i64 r.c.pg, .int .i64 r.c.sl, .string r.c.o, .string r.c.n, .int .u64 (r.n : Int), .int .i64 r.s, .int .u64 (r.b : Int), .slice u1 l1 z1, .slice u2 l2 z2] rfl (Qb.new w6 47 #[.int .i64 n, .int .i64 r.k, .int .u64 (r.l : Int), .int .i64 r.t, .int .u64 (r.p : Int), .int .i64 r.c.k, .int .i64 r.c.pg, .int .i64 r.c.sl, .string r.c.o, .string r.c.n, .int .u64 (r.n : Int), .int .i64 r.s, .int .u64 (r.b : Int), .slice u1 l1 z1, .slice u2 l2 z2]) rfl (by simp [Value.oneCell']) hO9 (Nat.le_trans hB6 (by simp)) ?_; intro v' w7 ho7 hg7; refine Qz ?_)
      have H7 : Hid (OwS w7 B v' (ss ++ [(n, r, .slice u1 l1 z1, .slice u2 l2 z2)]) /\ smS (ss ++ [(n, r, .slice u1 l1 z1, .slice u2 l2 z2)]) = tag n ((msR ms).take (j + 1)) /\ (∀ s ∈ ss ++ [(n, r, .slice u1 l1 z1, .slice u2 l2 z2)], Qica B w7 s) /\ Below w.heap.size w w7) := by
        have hal := (Below.refl w6.heap.size w6).alloc (Nat.le_refl w6.heap.size) (.cells #[.int .i64 n, .int .i64 r.k, .int .u64 (r.l : Int), .int .i64 r.t, .int .u64 (r.p : Int), .int .i64 r.c.k, .int .i64 r.c.pg, .int .i64 r.c.sl, .string r.c.o, .string r.c.n, .int .u64 (r.n : Int), .int .i64 r.s, .int .u64 (r.b : Int), .slice u1 l1 z1, .slice u2 l2 z2] 47); have hown := Qdb H6.out.1 hal
        refine ⟨Qyca rfl ho7, ?_, fun s hs => ?_, Qlm hown (by rw [HB.out]; exact Nat.le_refl _) (H6.out.2.2.2.trans (hal.mono H6.out.2.2.2.size)) (Nat.le_trans H6.out.2.2.2.size (by simp)) hg7⟩
        · rw [smS_snoc, HJ.out.2.1]; exact HTS.out.symm
        · rcases List.mem_append.1 hs with hs | hs
          · have h1 := (H6.out.2.1 s hs).later hal; exact ⟨h1.1, Qdda hown hg7 (by decide) (by decide) h1.2⟩
          · rw [List.mem_singleton.1 hs]; exact ⟨HFT.out, Qdda hown hg7 (by decide) (by decide) (H6.out.2.2.1.below hal)⟩
      clear ho7 hg7 H6 HJ HTS HFT HLL HG hO9; refine Qf ?_; go_wp2; go_roundw
      case rel => exact ⟨j + 1, _, by omega, by go_num, H7⟩
      case measure => simp [intOf] <;> omega
    · have i5 : ¬ (j : Int) < (ln : Int) := by omega
      have HE : Hid (OwS wr B (.slice ao ss.length co) ss /\ smS ss = tag n (msR ms) /\ (∀ s ∈ ss, Qica B wr s) /\ Below w.heap.size w wr) := by
        have h := HJ.out; rw [List.take_of_length_le (by rw [Qeb, <- HLN.out]; omega)] at h; exact h
      clear HJ; go_wp2; go_ret; refine ⟨_, ss, rfl, ?_⟩; rw [<- HB.out]; have h := HE.out; rw [HB.out] at h |-; exact h
theorem RV.grown {w w' : World} {s : Sl} {l : List Sx} {C n sz : Nat} {e : TypeId} {v : Value} {xs : List Value} (h : RV w s l) (ho : w.ownsRow C e sz v n xs) (he : e ≠ 25) (hg : w.grownBy w' v.ownBlock) : RV w' s l := by
  rcases h with h | ⟨b, cs, h1, h2, h3⟩
  · exact .inl h
  · refine RV.keep (.inr ⟨b, cs, h1, h2, h3⟩) fun b2 hb2 => hg.block b2 ?_ ?_
    · rw [h1] at hb2; injection hb2 with hb2; rw [<- hb2]; exact h2.lt
    · intro e2
      rcases ho.2 with ⟨rfl, _⟩ | ⟨g, cap, cur, rfl, _, h4, _⟩
      · cases e2
      · injection e2 with e2; rw [h1] at hb2; injection hb2 with hb2; rw [hb2, e2] at h2; exact he (Qbb h4 h2)
theorem Qxba {w w' : World} {B : Nat} {v : Value} {ss : List Sm} {s : Sl} {l : List Sx} (h : OwS w B v ss) (hr : RV w s l) (ht : Tn (ofS s) w w') : OwS w' B v ss :=
  Qij h (fun k cs hk => ht.row hk (fun e => by
    rcases hr with ⟨h1, _⟩ | ⟨b, ds, h1, h2, _⟩
    · rw [show s.b = some k from e] at h1; cases h1
    · rw [show s.b = some k from e] at h1; injection h1 with h1; rw [<- h1] at h2
      exact absurd (Qbb hk h2) (by decide)))
def Qrca (P : Qhca) : Qhca := P.filter fun p => decide (0 < p.2.length)
theorem Qlca : ∀ P : Qhca, Qkba (Qrca P) = Qkba P
  | [] => rfl
  | p :: P => by
    have ih := Qlca P; unfold Qrca at ih |-; rw [List.filter_cons]
    by_cases h : 0 < p.2.length
    · rw [if_pos (by simpa using h), Qqba, Qqba, ih]
    · have e : p.2 = [] := List.eq_nil_of_length_eq_zero (by omega); rw [if_neg (by simpa using h), Qqba, ih, e, List.nil_append]
theorem Qnca : ∀ P : Qhca, (∀ p ∈ P, p.1.n = p.2.length) -> Qbca (Qjba P) = Qjba (Qrca P)
  | [], _ => rfl
  | p :: P, h => by
    have ih := Qnca P (fun q hq => h q (List.mem_cons_of_mem _ hq)); have hp := h p (by simp); unfold Qbca Qjba Qrca at ih |-; rw [List.map_cons, List.filter_cons, List.filter_cons]
    by_cases e : 0 < p.2.length
    · rw [if_pos (by simp; omega), if_pos (by simpa using e), List.map_cons, ih]
    · rw [if_neg (by simp; omega), if_neg (by simpa using e), ih]
theorem sm_len {w : World} {x : Sx} {ss : List Sm} (h : Qfea w (slx x) ss) : x.n = ss.length := by
  obtain ⟨⟨a, c, e, _⟩, _⟩ := h; injection e
theorem fn_in17 (d : Nat) (fn : Fn) (w : World) : (Op.equalIn (d + 1) 88 (.func fn #[] #[]) .nilFunc).run Try.prog w = .ok false w := by
  simp [Op.equalIn, run_underlying (P := Try.prog) Try.underlying88]
theorem fn_eq17 (fn : Fn) (w : World) : (Op.equal 88 (.func fn #[] #[]) .nilFunc).run Try.prog w = .ok false w := fn_in17 9999 fn w
theorem fn_nil17 (fn : Fn) (w : World) : (binOp .eql 88 (.func fn #[] #[]) .nilFunc).run Try.prog w = .ok (.bool false) w := by
  have q := fn_eq17 fn w; simp [binOp, q]
theorem Qkfa (fn : Fn) (t : TypeId) (x y : Operand) (w : World) : (eqGuard .eql t x y (.func fn #[] #[]) .nilFunc).run Try.prog w = .ok () w := rfl
def slLen : Value -> Nat
  | .slice _ n _ => n
  | _ => 0
def SoAns (w : World) (all : List Sm) (e : Ending) (w' : World) : Prop := ∃ v' out, e = .returned v' /\ OwS w' w.heap.size v' out /\ out.Perm all /\ Qtfa out /\ Below w.heap.size w w'
theorem Qnfa (P : Qhca) (k : Nat) (y : Sx) (t : List Sm) : Qjba (P.set k (y, t)) = (Qjba P).set k y := by
  unfold Qjba; rw [List.map_set]
theorem Qyda (P : Qhca) (k : Nat) : Qjba (P.take k ++ P.drop (k + 1)) = (Qjba P).take k ++ (Qjba P).drop (k + 1) := by
  unfold Qjba; rw [List.map_append, List.map_take, List.map_drop]
theorem set_cut {α : Type} (l : List α) (k : Nat) (y : α) : (l.set k y).take k ++ (l.set k y).drop (k + 1) = l.take k ++ l.drop (k + 1) := by
  rw [List.take_set_of_le (Nat.le_refl _), List.drop_set, if_pos (Nat.lt_succ_self k)]
theorem sorted17 (w : World) (v : Value) (P0 : Qhca) (hv : VsIn w v (Qjba P0)) (hP : ∀ p ∈ P0, Qfea w (slx p.1) p.2 /\ p.1.n <= p.1.c) (ho : ∀ p ∈ P0, Qtfa p.2) (ha : Qeda (Qkba P0)) (hl : P0.length <= 1000) (hN : (Qkba P0).length <= 90000) :
    Calls Try.prog 25 #[v, .func (.func 26) #[] #[]] w (SoAns w (Qkba P0)) := by
  have HCL := Qc (clone17V hv (by rw [Qiba]; omega)); rw [Qiba] at HCL; have hkeep := Qnca P0 (fun p hp => sm_len (hP p hp).1)
  have hPk : PlOk w (Qrca P0) := fun p hp => by
    have h := List.mem_filter.1 hp; exact ⟨(hP p h.1).1, by simpa using h.2, (hP p h.1).2⟩
  have hmg : Mg (Qkba P0) [] (Qrca P0) := by
    have h := Mg.start (P := Qrca P0) (fun p hp => ho p (List.mem_filter.1 hp).1) (by rw [Qlca]; exact ha); rwa [Qlca] at h
  have hP1 : (Qrca P0).length <= 1000 := Nat.le_trans (List.length_filter_le _ _) hl; obtain ⟨au, cu, rfl, _⟩ := id hv; obtain ⟨P1, hP1e⟩ : ∃ P1, P1 = Qrca P0 := ⟨_, rfl⟩; rw [<- hP1e] at hkeep hPk hmg hP1; obtain ⟨all, hall⟩ : ∃ all, all = Qkba P0 := ⟨_, rfl⟩; rw [<- hall] at hmg hN |-; have HDE := Qc (fun s x (h : RV x s (Qjba P0)) => delf17 s (Qjba P0) x h (by rw [Qiba]; omega)); rw [hkeep] at HDE; rw [Qiba] at HCL HDE |-; obtain ⟨n0, hn0⟩ : ∃ n, n = P0.length := ⟨_, rfl⟩; rw [<- hn0] at HCL HDE hl |-; obtain ⟨B, hB⟩ : ∃ B, B = w.heap.size := ⟨_, rfl⟩; have HBB := Qc hB; have HOF := Qc (fun (v' : Value) (x : World) (h : x.ownsRow w.heap.size 25 1 v' n0 (flV (Qjba P0))) => RV.of (by rw [Qiba, hn0]) h); have HMG := Qc hmg; have HPK := Qc hPk; clear hv hP ho ha hkeep hP1e hall hn0 hmg hPk hB; go_enter Try.func25, Try.ntmps25; go_wp2_with (refine Qvt rfl .eql 88 88 (.tmp 8) (.const .nilFunc) rfl (.func (.func 26) #[] #[]) .nilFunc (.bool false) rfl rfl (Qkfa _ _ _ _ _) (fn_nil17 _ _) ?_); refine HCL.out.mono ?_; rintro e w1 ⟨v1, rfl, ho1, hb1⟩; obtain ⟨s, rfl, hrv, hnew⟩ := HOF.out _ _ ho1; have HB1 := Qc hb1; have HNW := Qc hnew; have HD := Qc (HDE.out s w1 hrv); clear ho1 hb1 hrv hnew HCL HOF HDE; rw [Qiba] at HD; obtain ⟨ad, had⟩ : ∃ ad, ad = adr s.b := ⟨_, rfl⟩; have HAD := Qc had; obtain ⟨cap, hcp⟩ : ∃ cap, cap = s.c := ⟨_, rfl⟩; have HCP := Qc hcp; unfold slV at HD |-; rw [<- had, <- hcp] at HD; rw [<- had, <- hcp]; clear had hcp; go_wp2_with fail; refine HD.out.mono ?_; rintro e w2 ⟨rfl, hr2, ht2⟩; have hs2 : ∀ k, ofS s k -> w.heap.size <= k := fun k hk => HNW.out k hk
  have hb2 := HB1.out.trans (ht2.below (fun k hk => Nat.le_trans (hs2 k hk) (Nat.le_refl _)) HB1.out.size); have H2 : Hid (RV w2 s (Qjba P1) /\ Below w.heap.size w w2) := ⟨hr2, hb2⟩; obtain ⟨n1, hn1⟩ : ∃ n, n = P1.length := ⟨_, rfl⟩; rw [<- hn1] at hP1 |-; have HN1 := Qc hn1; clear hr2 ht2 hs2 hb2 HD HB1 hn1; go_wp2; go_loopw [5, 6] (fun va vr wr => ∃ (P : Qhca) (out : List Sm) (ao : Option Addr) (co m : Nat), va = .slice ao out.length co /\ vr = .slice ad m cap /\ Hid (m = P.length) /\ m <= 1000 /\ Hid (RV wr s (Qjba P) /\ PlOk w P /\ OwS wr B va out /\ Mg all out P /\ Below w.heap.size w wr)) (fun va _ _ => all.length - slLen va)
  case atStart => exact ⟨P1, [], none, 0, n1, rfl, rfl, HN1, hP1, H2.out.1, HPK.out, Quea _ _, HMG.out, H2.out.2⟩
  case round =>
    obtain ⟨P, out, ao, co, m, rfl, rfl, HM, hm9, HI⟩ := hrel; clear H2 HMG HPK
    by_cases hm0 : 0 < m
    · have i1 : (m : Int) > 0 := by omega
      have hP0 : 0 < P.length := by rw [<- HM.out]; exact hm0
      obtain ⟨b, hb0, hbl, cs, hrow, hcs⟩ := HI.out.1.block (by rw [Qiba]; exact hP0); have hmeq := HAD.out; rw [hb0] at hmeq; have hmeq2 : ad = some ⟨b, 0, none⟩ := hmeq; subst hmeq2; have HB0 := Qc hb0; have hnx := next17 s P wr HI.out.1 (HI.out.2.1.below HI.out.2.2.2.2) hP0 (by rw [<- HM.out]; omega); rw [<- HM.out] at hnx
      have hsv : slV s m = .slice (some ⟨b, 0, none⟩) m cap := by
        unfold slV; rw [hb0, <- HCP.out]; rfl
      rw [hsv] at hnx; have HNX := Qc hnx; have hlo := HI.out.2.2.2.1.less hP0 (fun p hp => (HI.out.2.1 p hp).2.1); clear hmeq hsv hnx hrow hcs hbl hb0; go_wp2_with fail; refine HNX.out.mono ?_; rintro e w4 ⟨k, rfl, hleast, hb4⟩
      have hkm : k < m := by
        rcases hleast.here with q | q
        · exact q
        · omega
      have hkP : k < P.length := by rw [<- HM.out]; exact hkm
      have hbb4 := HI.out.2.2.2.2.trans (hb4.mono HI.out.2.2.2.2.size); have H4 : Hid (RV w4 s (Qjba P) /\ PlOk w P /\ OwS w4 B (.slice ao out.length co) out /\ Mg all out P /\ Below w.heap.size w w4) := ⟨HI.out.1.later hb4, HI.out.2.1, Qdb HI.out.2.2.1 hb4, HI.out.2.2.2.1, hbb4⟩; have HLE := Qc hleast; obtain ⟨bk, ok, lk, ck, hvk, hlk, hlk0, HA⟩ := Qcea H4.out.1 (H4.out.2.1.below hbb4) HB0.out hkP; have hmem := H4.out.2.1 _ (Qua P k Qcca hkP)
      have hck : lk <= ck := by
        have h1 := hmem.2.2; obtain ⟨⟨ya, yn, yc⟩, hy⟩ : ∃ y, y = (P.getD k Qcca).1 := ⟨_, rfl⟩; rw [<- hy] at hvk h1; injection hvk with q1 q2 q3; rw [q2, q3] at h1; exact h1
      have hin := hmem.1.below hbb4; rw [hvk] at hin
      have hxo : Qgea w4 (Qmba P k) := by
        obtain ⟨_, _, _, _, _, h3, _⟩ := hin.mid (i := 0) hmem.2.1; exact h3
      have HX : Hid (∀ c', Qfea w (.slice (some ⟨bk, ok + 15, none⟩) (lk - 1) c') (P.getD k Qcca).2.tail) := fun c' => by
        have h1 := hmem.1; rw [hvk] at h1; exact h1.tail c'
      have hx1 := HA.out.2 w4 (Below.refl _ _); obtain ⟨⟨xn, xr, xa, xb⟩, hxx⟩ : ∃ x, x = Qmba P k := ⟨_, rfl⟩; rw [<- hxx] at hx1 hxo; have HXX := Qc hxx; obtain ⟨⟨x1, y1, hs1⟩, x2, y2, hs2⟩ := Qxl hxo.2; have hs1' : xa = .slice x1 xr.ts.length y1 := hs1; have hs2' : xb = .slice x2 xr.ds.length y2 := hs2; subst hs1' hs2'; have HLD0 := Qc (Qmca w4 bk ok _ hx1); have HSE := Qc (show smF (xn, xr, .slice x1 xr.ts.length y1, .slice x2 xr.ds.length y2) = smF (xn, xr, .slice x1 xr.ts.length y1, .slice x2 xr.ds.length y2) from rfl); generalize hl1 : xr.ts.length = l1 at *; generalize hl2 : xr.ds.length = l2 at *; have HLD : Hid ((Instr.loadAt 47 (.pointer (some ⟨bk, ok, none⟩))).run Try.prog w4 = .ok (.agg #[.int .i64 xn, .int .i64 xr.k, .int .u64 (xr.l : Int), .int .i64 xr.t, .int .u64 (xr.p : Int), .int .i64 xr.c.k, .int .i64 xr.c.pg, .int .i64 xr.c.sl, .string xr.c.o, .string xr.c.n, .int .u64 (xr.n : Int), .int .i64 xr.s, .int .u64 (xr.b : Int), .slice x1 l1 y1, .slice x2 l2 y2]) w4) := HLD0.out; have c4 := HA.out.1 w4 (Below.refl _ _); have hO9 : out.length <= 100000 := by omega
      have hB4 : B <= w4.heap.size := by rw [HBB.out]; exact hbb4.size
      have i2 : (k : Int) < (m : Int) := by omega
      have i3 : ¬ lk <= 0 := by omega
      have i4 : (0 : Int) < (lk : Int) := by omega
      have k9 : k < 1000 := by omega
      have HLK := Qc (And.intro hlk hlk0); have HLO := Qc hlo; have HKP := Qc hkP; clear hleast hmem hin hxo hx1 hxx hs1 hs2 hl1 hl2 HLD0 hvk hlk hlo hkP HNX HI hb4; go_wp2_with (first | (refine Qo rfl 47 (.tmp 24) rfl _ (.agg #[.int .i64 xn, .int .i64 xr.k, .int .u64 (xr.l : Int), .int .i64 xr.t, .int .u64 (xr.p : Int), .int .i64 xr.c.k, .int .i64 xr.c.pg, .int .i64 xr.c.sl, .string xr.c.o, .string xr.c.n, .int .u64 (xr.n : Int), .int .i64 xr.s, .int .u64 (xr.b : Int), .slice x1 l1 y1, .slice x2 l2 y2]) rfl HLD.out ?_) | (refine Qrba _ 25 47 15 168 (.agg zeroS) Try.underlying25 Qeea rfl (by decide) (by decide) rfl (.tmp 19) (.tmp 26) rfl B (.slice ao out.length co) out.length (flS out) rfl (Qdb H4.out.2.2.1 ((Below.refl w4.heap.size w4).alloc (Nat.le_refl _) _)) w4.heap.size #[.int .i64 xn, .int .i64 xr.k, .int .u64 (xr.l : Int), .int .i64 xr.t, .int .u64 (xr.p : Int), .int .i64 xr.c.k, .int .i64 xr.c.pg, .int .i64 xr.c.sl, .string xr.c.o, .string xr.c.n, .int .u64 (xr.n : Int), .int .i64 xr.s, .int .u64 (xr.b : Int), .slice x1 l1 y1, .slice x2 l2 y2] rfl (Qb.new w4 47 #[.int .i64 xn, .int .i64 xr.k, .int .u64 (xr.l : Int), .int .i64 xr.t, .int .u64 (xr.p : Int), .int .i64 xr.c.k, .int .i64 xr.c.pg, .int .i64 xr.c.sl, .string xr.c.o, .string xr.c.n, .int .u64 (xr.n : Int), .int .i64 xr.s, .int .u64 (xr.b : Int), .slice x1 l1 y1, .slice x2 l2 y2]) rfl (by simp [Value.oneCell']) hO9 (Nat.le_trans hB4 (by simp)) ?_; intro v' w7 ho7 hg7; refine Qz ?_)); have hal := (Below.refl w4.heap.size w4).alloc (Nat.le_refl w4.heap.size) (.cells #[.int .i64 xn, .int .i64 xr.k, .int .u64 (xr.l : Int), .int .i64 xr.t, .int .u64 (xr.p : Int), .int .i64 xr.c.k, .int .i64 xr.c.pg, .int .i64 xr.c.sl, .string xr.c.o, .string xr.c.n, .int .u64 (xr.n : Int), .int .i64 xr.s, .int .u64 (xr.b : Int), .slice x1 l1 y1, .slice x2 l2 y2] 47); have hown := Qdb H4.out.2.2.1 hal; have hb7 : Below w.heap.size w w7 := Qlm hown (by rw [HBB.out]; exact Nat.le_refl _) (hbb4.trans (hal.mono hbb4.size)) (Nat.le_trans hbb4.size (by simp)) hg7; have hr7 : RV w7 s (Qjba P) := (H4.out.1.later hal).grown hown (by decide) hg7
      have ho7' : OwS w7 B v' (out ++ [Qmba P k]) := by
        rw [<- HXX.out]; exact Qyca rfl ho7
      obtain ⟨ao7, co7, hv7, _⟩ := ho7'.slice; subst hv7; have hln : (out ++ [Qmba P k]).length = out.length + 1 := by simp
      rw [hln] at ho7' |-; obtain ⟨b7, hb7e, -, cs7, hrow7, hcs7⟩ := hr7.block (by rw [Qiba]; exact hP0)
      obtain rfl : b = b7 := by
        have := HB0.out; rw [hb7e] at this; injection this with this; exact this.symm
      have c7 := hr7.cell HB0.out (i := k) (by rw [Qiba]; exact HKP.out); rw [Qbea] at c7
      have c7' : w7.cell? ⟨b, k, none⟩ = some (.slice (some ⟨bk, ok, none⟩) lk ck) := by
        rw [c7]; obtain ⟨_, _, _, _, hvk, hlk, _, HA2⟩ := Qcea H4.out.1 (H4.out.2.1.below hbb4) HB0.out HKP.out; have h1 := HA2.out.1 w4 (Below.refl _ _); rw [c4] at h1; rw [hvk]; exact h1.symm
      have f7 := hrow7.free k; have H7 : Hid (RV w7 s (Qjba P) /\ PlOk w P /\ OwS w7 B (.slice ao7 (out.length + 1) co7) (out ++ [Qmba P k]) /\ Below w.heap.size w w7) := ⟨hr7, H4.out.2.1, ho7', hb7⟩; have HMG := Qc (fun Q hQ => H4.out.2.2.2.1.step HKP.out (fun p hp => (H4.out.2.1 p hp).2.1) (by rw [<- HM.out]; exact HLE.out) Q hQ); clear ho7 hg7 hal hown hb7 hr7 ho7' hln hb7e hrow7 hcs7 c7 c4 hbb4 HLD HA H4 HLE HXX HSE hB4 hO9; refine Qf ?_
      by_cases h2 : 2 <= lk
      · have e1 : (1 : Int) <= (lk : Int) := by omega
        have e2 : (lk : Int) <= (ck : Int) := by omega
        have e3 : ¬ ck = 1 := by omega
        have e4 : (1 : Int) <= (ck : Int) := by omega
        have HST := Qc (H7.out.1.set HB0.out (i := k) (by rw [Qiba]; exact HKP.out) ⟨some ⟨bk, ok + 15, none⟩, lk - 1, ck - 1⟩); have HU := Qc (fun x => Qkea (some ⟨bk, ok + 15, none⟩) (lk - 1) (ck - 1) x); rw [decide_eq_false (show ¬ lk - 1 = 0 by omega)] at HU
        have HRN : Hid (∃ P' : Qhca, P'.length = P.length /\ Qjba P' = (Qjba P).set k ⟨some ⟨bk, ok + 15, none⟩, lk - 1, ck - 1⟩ /\ PlOk w P' /\ Mg all (out ++ [Qmba P k]) P') := by
          refine ⟨P.set k (⟨some ⟨bk, ok + 15, none⟩, lk - 1, ck - 1⟩, (P.getD k Qcca).2.tail), by rw [List.length_set], Qnfa _ _ _ _, fun p hp => ?_, HMG.out _ (.inr ⟨_, set17 HKP.out _⟩)⟩
          rcases List.mem_or_eq_of_mem_set hp with hp | rfl
          · exact H7.out.2.1 p hp
          · have h9 : (P.getD k Qcca).2.tail.length = lk - 1 := by rw [List.length_tail, <- HLK.out.1]
            exact ⟨HX.out _, by show 0 < (P.getD k Qcca).2.tail.length; omega, by show lk - 1 <= ck - 1; omega⟩
        clear HMG HX; go_wp2_with fail; refine (HU.out _).mono ?_; rintro e w9 ⟨rfl, rfl⟩; have hnil : (some (⟨bk, ok + 15, none⟩ : Addr)).isSome = true := rfl
        have H9 : Hid (RV (w7.setCell ⟨b, k, none⟩ (.slice (some ⟨bk, ok + 15, none⟩) (lk - 1) (ck - 1))) s ((Qjba P).set k ⟨some ⟨bk, ok + 15, none⟩, lk - 1, ck - 1⟩) /\ OwS (w7.setCell ⟨b, k, none⟩ (.slice (some ⟨bk, ok + 15, none⟩) (lk - 1) (ck - 1))) B (.slice ao7 (out.length + 1) co7) (out ++ [Qmba P k]) /\ Below w.heap.size w (w7.setCell ⟨b, k, none⟩ (.slice (some ⟨bk, ok + 15, none⟩) (lk - 1) (ck - 1)))) :=
          ⟨HST.out.1, Qxba H7.out.2.2.1 H7.out.1 HST.out.2, H7.out.2.2.2.trans (HST.out.2.below (fun q hq => Nat.le_trans (HNW.out q hq) (Nat.le_refl _)) H7.out.2.2.2.size)⟩
        clear H7 HST HU c7' f7; go_wp2; go_roundw
        case rel =>
          obtain ⟨P', q1, q2, q3, q4⟩ := HRN.out; refine ⟨P', out ++ [Qmba P k], ao7, co7, m, by rw [List.length_append]; rfl, rfl, by show m = P'.length; rw [q1]; exact HM.out, hm9, by rw [q2]; exact H9.out.1, q3, H9.out.2.1, q4, H9.out.2.2⟩
        case measure =>
          have := HLO.out; simp [slLen] <;> omega
      · obtain rfl : lk = 1 := by omega
        have e2 : (1 : Int) <= (ck : Int) := by omega
        have htl : (P.getD k Qcca).2.tail = [] := List.eq_nil_of_length_eq_zero (by rw [List.length_tail, <- HLK.out.1]); have HMQ := Qc (HMG.out _ (.inl ⟨rfl, htl⟩))
        have hPQ : (P.take k ++ P.drop (k + 1)).length = m - 1 := by
          have := HM.out; have := HKP.out; rw [List.length_append, List.length_take, List.length_drop]; omega
        have HPQ := Qc hPQ
        have HOKQ : Hid (PlOk w (P.take k ++ P.drop (k + 1))) := fun p hp => by
          rcases List.mem_append.1 hp with hp | hp
          · exact H7.out.2.1 p (List.mem_of_mem_take hp)
          · exact H7.out.2.1 p (List.mem_of_mem_drop hp)
        clear HMG HX htl hPQ
        by_cases hc1 : ck = 1
        · subst hc1; have HST := Qc (H7.out.1.set HB0.out (i := k) (by rw [Qiba]; exact HKP.out) ⟨some ⟨bk, ok, none⟩, 0, 0⟩); have HU := Qc (fun x => Qkea (some ⟨bk, ok, none⟩) 0 0 x); rw [decide_eq_true rfl] at HU; have hdl := fun x (h : RV x s ((Qjba P).set k ⟨some ⟨bk, ok, none⟩, 0, 0⟩)) => delV x s _ h k (k + 1) (Nat.le_succ k) (by rw [List.length_set, Qiba]; exact HKP.out) (by rw [List.length_set, Qiba, <- HM.out]; omega)
          rw [set_cut, <- Qyda, List.length_set, Qiba, Qiba, HPQ.out, <- HM.out] at hdl
          have hsv : ∀ q, slV s q = .slice (some ⟨b, 0, none⟩) q cap := fun q => by
            unfold slV; rw [HB0.out, <- HCP.out]; rfl
          simp only [hsv] at hdl; have HDL := Qc hdl; have k10 : ((k + 1 : Nat) : Int) = (k : Int) + 1 := by omega
          rw [k10] at HDL; clear hdl hsv k10; go_wp2_with fail; refine (HU.out _).mono ?_; rintro e w9 ⟨rfl, rfl⟩
          have H9 : Hid (RV (w7.setCell ⟨b, k, none⟩ (.slice (some ⟨bk, ok, none⟩) 0 0)) s ((Qjba P).set k ⟨some ⟨bk, ok, none⟩, 0, 0⟩) /\ OwS (w7.setCell ⟨b, k, none⟩ (.slice (some ⟨bk, ok, none⟩) 0 0)) B (.slice ao7 (out.length + 1) co7) (out ++ [Qmba P k]) /\ Below w.heap.size w (w7.setCell ⟨b, k, none⟩ (.slice (some ⟨bk, ok, none⟩) 0 0))) :=
            ⟨HST.out.1, Qxba H7.out.2.2.1 H7.out.1 HST.out.2, H7.out.2.2.2.trans (HST.out.2.below (fun q hq => Nat.le_trans (HNW.out q hq) (Nat.le_refl _)) H7.out.2.2.2.size)⟩
          have HDQ := Qc (HDL.out _ H9.out.1); obtain ⟨w10, hw10⟩ : ∃ x, x = w7.setCell ⟨b, k, none⟩ (.slice (some ⟨bk, ok, none⟩) 0 0) := ⟨_, rfl⟩; rw [<- hw10] at H9 HDQ |-; clear H7 HST HU c7' f7 HDL hw10; go_wp2_with fail; refine HDQ.out.mono ?_; rintro e w11 ⟨rfl, hr11, ht11⟩
          have H11 : Hid (RV w11 s (Qjba (P.take k ++ P.drop (k + 1))) /\ OwS w11 B (.slice ao7 (out.length + 1) co7) (out ++ [Qmba P k]) /\ Below w.heap.size w w11) :=
            ⟨hr11, Qxba H9.out.2.1 H9.out.1 ht11, H9.out.2.2.trans (ht11.below (fun q hq => Nat.le_trans (HNW.out q hq) (Nat.le_refl _)) H9.out.2.2.size)⟩
          clear H9 HDQ hr11 ht11; go_wp2; go_roundw
          case rel => exact ⟨P.take k ++ P.drop (k + 1), out ++ [Qmba P k], ao7, co7, m - 1, by rw [List.length_append]; rfl, rfl, by show m - 1 = _; rw [HPQ.out], by omega, H11.out.1, HOKQ.out, H11.out.2.1, HMQ.out, H11.out.2.2⟩
          case measure =>
            have := HLO.out; simp [slLen] <;> omega
        · have HST := Qc (H7.out.1.set HB0.out (i := k) (by rw [Qiba]; exact HKP.out) ⟨some ⟨bk, ok + 15, none⟩, 0, ck - 1⟩); have HU := Qc (fun x => Qkea (some ⟨bk, ok + 15, none⟩) 0 (ck - 1) x); rw [decide_eq_true rfl] at HU; have hdl := fun x (h : RV x s ((Qjba P).set k ⟨some ⟨bk, ok + 15, none⟩, 0, ck - 1⟩)) => delV x s _ h k (k + 1) (Nat.le_succ k) (by rw [List.length_set, Qiba]; exact HKP.out) (by rw [List.length_set, Qiba, <- HM.out]; omega)
          rw [set_cut, <- Qyda, List.length_set, Qiba, Qiba, HPQ.out, <- HM.out] at hdl
          have hsv : ∀ q, slV s q = .slice (some ⟨b, 0, none⟩) q cap := fun q => by
            unfold slV; rw [HB0.out, <- HCP.out]; rfl
          simp only [hsv] at hdl; have HDL := Qc hdl; have k10 : ((k + 1 : Nat) : Int) = (k : Int) + 1 := by omega
          rw [k10] at HDL; clear hdl hsv k10; go_wp2_with fail; refine (HU.out _).mono ?_; rintro e w9 ⟨rfl, rfl⟩
          have H9 : Hid (RV (w7.setCell ⟨b, k, none⟩ (.slice (some ⟨bk, ok + 15, none⟩) 0 (ck - 1))) s ((Qjba P).set k ⟨some ⟨bk, ok + 15, none⟩, 0, ck - 1⟩) /\ OwS (w7.setCell ⟨b, k, none⟩ (.slice (some ⟨bk, ok + 15, none⟩) 0 (ck - 1))) B (.slice ao7 (out.length + 1) co7) (out ++ [Qmba P k]) /\ Below w.heap.size w (w7.setCell ⟨b, k, none⟩ (.slice (some ⟨bk, ok + 15, none⟩) 0 (ck - 1)))) :=
            ⟨HST.out.1, Qxba H7.out.2.2.1 H7.out.1 HST.out.2, H7.out.2.2.2.trans (HST.out.2.below (fun q hq => Nat.le_trans (HNW.out q hq) (Nat.le_refl _)) H7.out.2.2.2.size)⟩
          have HDQ := Qc (HDL.out _ H9.out.1); obtain ⟨w10, hw10⟩ : ∃ x, x = w7.setCell ⟨b, k, none⟩ (.slice (some ⟨bk, ok + 15, none⟩) 0 (ck - 1)) := ⟨_, rfl⟩; rw [<- hw10] at H9 HDQ |-; clear H7 HST HU c7' f7 HDL hw10; go_wp2_with fail; refine HDQ.out.mono ?_; rintro e w11 ⟨rfl, hr11, ht11⟩
          have H11 : Hid (RV w11 s (Qjba (P.take k ++ P.drop (k + 1))) /\ OwS w11 B (.slice ao7 (out.length + 1) co7) (out ++ [Qmba P k]) /\ Below w.heap.size w w11) :=
            ⟨hr11, Qxba H9.out.2.1 H9.out.1 ht11, H9.out.2.2.trans (ht11.below (fun q hq => Nat.le_trans (HNW.out q hq) (Nat.le_refl _)) H9.out.2.2.size)⟩
          clear H9 HDQ hr11 ht11; go_wp2; go_roundw
          case rel => exact ⟨P.take k ++ P.drop (k + 1), out ++ [Qmba P k], ao7, co7, m - 1, by rw [List.length_append]; rfl, rfl, by show m - 1 = _; rw [HPQ.out], by omega, H11.out.1, HOKQ.out, H11.out.2.1, HMQ.out, H11.out.2.2⟩
          case measure =>
            have := HLO.out; simp [slLen] <;> omega
    · have hm0' : m = 0 := by omega
      subst hm0'; have hPn : P = [] := List.eq_nil_of_length_eq_zero HM.out.symm; subst hPn; have HE := Qc (And.intro HI.out.2.2.2.1.done HI.out); clear HI; go_wp2; go_ret; exact ⟨_, out, rfl, by rw [<- HBB.out]; exact HE.out.2.2.2.1, HE.out.1.1, HE.out.1.2, HE.out.2.2.2.2.2⟩
theorem rbefore17 (a b : Nat) (i j : Int) (w : World) :
    Calls Try.prog 35 #[.int .u64 a, .int .i64 i, .int .u64 b, .int .i64 j] w fun e w' => e = .returned (.bool (bef a i b j)) /\ w = w' := by
  by_cases h1 : a < b
  · have e : bef a i b j = true := (Qkda _ _ _ _).2 (Or.inl h1); have h2 : (a : Int) < (b : Int) := by omega
    rw [e]; clear e; go_enter Try.func35, Try.ntmps35; go_wp2; go_ret; exact ⟨rfl, rfl⟩
  · by_cases h2 : a = b
    · subst h2; have e : bef a i a j = decide (i < j) := by simp [bef]
      rw [e]; clear e; go_enter Try.func35, Try.ntmps35; go_wp2; go_ret; exact ⟨by simp, rfl⟩
    · have e : bef a i b j = false := (Qefa _ _ _ _).2 (by omega); have h3 : decide ((a : Int) < (b : Int)) = false := by simp; omega
      have h4 : ((a : Int) == (b : Int)) = false := by simp; omega
      rw [e]; clear e; go_enter Try.func35, Try.ntmps35; go_wp2; go_ret; exact ⟨by simp, rfl⟩
theorem Qkca : ∀ ss : List Sm, (flS ss).length = ss.length * 15
  | [] => rfl
  | s :: ss => by
    have := Qkca ss; unfold flS at this |-; rw [List.flatMap_cons, List.length_append, this, List.length_cons, Array.length_toList]; show 15 + _ = _; omega
theorem Qvca (a b : List Sm) : flS (a ++ b) = flS a ++ flS b := List.flatMap_append
theorem flS_take (ss : List Sm) (i : Nat) : (flS ss).take (i * 15) = flS (ss.take i) := by
  by_cases hi : i <= ss.length
  · conv => lhs; rw [<- List.take_append_drop i ss, Qvca]
    rw [List.take_append_of_le_length (by rw [Qkca, List.length_take]; omega), List.take_of_length_le (by rw [Qkca, List.length_take]; omega)]
  · rw [List.take_of_length_le (by rw [Qkca]; omega), List.take_of_length_le (by omega)]
theorem flS_drop (ss : List Sm) (i : Nat) : (flS ss).drop (i * 15) = flS (ss.drop i) := by
  by_cases hi : i <= ss.length
  · conv => lhs; rw [<- List.take_append_drop i ss, Qvca]
    have e : (flS (ss.take i)).length = i * 15 := by rw [Qkca, List.length_take]; omega
    rw [<- e, List.drop_left]
  · rw [List.drop_of_length_le (by rw [Qkca]; omega), List.drop_of_length_le (by omega)]; rfl
theorem flS_set {ss : List Sm} {i : Nat} (hi : i < ss.length) (y : Sm) : flS (ss.set i y) = flS (ss.take i) ++ ((smF y).toList ++ flS (ss.drop (i + 1))) := by
  rw [List.set_eq_take_append_cons_drop, if_pos hi, Qvca]; rfl
theorem OwS.put {w : World} {B : Nat} {v : Value} {ss : List Sm} (h : OwS w B v ss) (hp : 0 < ss.length) : ∃ g c cs, v = .slice (some ⟨g, 0, none⟩) ss.length c /\ B <= g /\ Qb w g 47 cs /\ ss.length * 15 <= cs.size /\ (∀ i, i < ss.length -> w.rangeAt g (i * 15) (smF (ss.getD i smZ)).toList) /\
    ∀ i y w2, i < ss.length -> Qb w2 g 47 (Qid cs (i * 15) (smF y).toList) -> OwS w2 B v (ss.set i y) := by
  have hin := Qxf smF smZ 15 (fun _ => rfl) h
  rcases h.2 with ⟨_, h0⟩ | ⟨g, cap, cur, rfl, h1, h2, h3, h4, h5, h6⟩
  · exact absurd h0 (by omega)
  · have hsz : ss.length * 15 <= cur.size := by rw [h5]; exact Nat.mul_le_mul_right 15 h3
    refine ⟨g, cap, cur, rfl, h1, h2, hsz, fun i hi => ?_, fun i y w2 hi hr => ?_⟩
    · obtain ⟨a', c', e, h7⟩ := hin; injection e with e1 e2 e3; obtain ⟨b, off, e4, _, h8⟩ := h7 hp; rw [<- e1] at e4; injection e4 with e4; injection e4 with e5 e6 e7; have h9 := h8 i hi; rw [<- e5, <- e6, Nat.zero_add] at h9; exact h9
    · have hyl : (smF y).toList.length = 15 := rfl
      refine ⟨by rw [List.length_set]; exact (Qkca _).trans (by rw [List.length_set]), .inr ⟨g, cap, _, by rw [List.length_set], h1, hr, by rw [List.length_set]; exact h3, h4, ?_, ?_⟩⟩
      · rw [Qap _ _ _ (by rw [hyl]; omega)]; exact h5
      · have h6' : cur.toList.take (ss.length * 15) = flS ss := h6; show (Qid cur (i * 15) (smF y).toList).toList.take ((ss.set i y).length * 15) = flS (ss.set i y); rw [List.length_set, flS_set hi]; unfold Qid; have hl : (cur.toList.take (i * 15)).length = i * 15 := by rw [List.length_take, Array.length_toList]; omega
        have hA : cur.toList.take (i * 15) = flS (ss.take i) := by
          rw [<- flS_take, <- h6', List.take_take, Nat.min_eq_left (by omega)]
        have hD : (cur.toList.drop (i * 15 + 15)).take (ss.length * 15 - (i * 15 + 15)) = flS (ss.drop (i + 1)) := by
          rw [<- flS_drop, <- h6', List.drop_take, show (i + 1) * 15 = i * 15 + 15 by omega]
        rw [hyl, show ((cur.toList.take (i * 15) ++ (smF y).toList ++ cur.toList.drop (i * 15 + 15)).toArray).toList = cur.toList.take (i * 15) ++ ((smF y).toList ++ cur.toList.drop (i * 15 + 15)) by simp, hA]; have hl2 : (flS (ss.take i)).length = i * 15 := by rw [<- hA]; exact hl
        have cut : ∀ (A D : List Value) (m : Nat), A.length <= m -> (A ++ D).take m = A ++ D.take (m - A.length) := fun A D m h => by
          rw [List.take_append, List.take_of_length_le h]
        rw [cut _ _ _ (by rw [hl2]; omega), hl2, cut _ _ _ (by rw [hyl]; omega), hyl, show ss.length * 15 - i * 15 - 15 = ss.length * 15 - (i * 15 + 15) by omega, hD]
def Qqea (ss : List Sm) (x : Sm) : List Sm := ss.take (Qpba (smS ss) (x.1, x.2.1) ss.length) ++ x :: ss.drop (Qpba (smS ss) (x.1, x.2.1) ss.length)
theorem insM_S (ss : List Sm) (x : Sm) : smS (Qqea ss x) = Qcfa (smS ss) (x.1, x.2.1) := by
  unfold Qqea Qcfa; rw [Qzda, Qyba]; unfold smS; rw [List.map_take, List.map_cons, List.map_drop]
theorem insM_mem {ss : List Sm} {x s : Sm} (h : s ∈ Qqea ss x) : s = x ∨ s ∈ ss := by
  rcases List.mem_append.1 h with h | h
  · exact .inr (List.mem_of_mem_take h)
  · rcases List.mem_cons.1 h with h | h
    · exact .inl h
    · exact .inr (List.mem_of_mem_drop h)
theorem insM_len (ss : List Sm) (x : Sm) : (Qqea ss x).length = ss.length + 1 := by
  rw [<- Qyba, insM_S, insS_len, Qyba]
theorem Qcda {l : List Sd} {x : Sd} {k : Nat} : ∀ n, k <= n -> (∀ j, k <= j -> j < n -> ltS x (l.getD j Sd.zero) = true) -> (k = 0 ∨ ltS x (l.getD (k - 1) Sd.zero) = false) -> Qpba l x n = k
  | 0, hk, _, _ => by
    obtain rfl : k = 0 := by omega
    rfl
  | n + 1, hk, h1, h2 => by
    unfold Qpba
    rcases Nat.lt_or_ge n k with q | q
    · obtain rfl : k = n + 1 := by omega
      rcases h2 with h2 | h2
      · omega
      · rw [Nat.add_sub_cancel] at h2; rw [if_neg (by rw [h2]; simp)]
    · rw [if_pos (h1 n q (by omega))]; exact Qcda n q (fun j a b => h1 j a (by omega)) h2
def Qoba (ss : List Sm) (x : Sm) (i : Nat) : List Sm := (ss ++ [x]).take (i + 1) ++ ss.drop i
theorem Qeca {ss : List Sm} {x : Sm} {i : Nat} (hi : i <= ss.length) : (Qoba ss x i).length = ss.length + 1 := by
  unfold Qoba; rw [List.length_append, List.length_take, List.length_drop, List.length_append, List.length_singleton]; omega
theorem Quda (ss : List Sm) (x : Sm) : Qoba ss x ss.length = ss ++ [x] := by
  unfold Qoba; rw [List.drop_length, List.append_nil, List.take_of_length_le (by rw [List.length_append, List.length_singleton]; omega)]
theorem Qrda {ss : List Sm} {x : Sm} {i : Nat} (hi : i < ss.length) : (Qoba ss x (i + 1)).getD i smZ = ss.getD i smZ := by
  unfold Qoba; rw [List.getD_eq_getElem?_getD, List.getElem?_append_left (by rw [List.length_take, List.length_append, List.length_singleton]; omega), List.getElem?_take, if_pos (by omega), List.getElem?_append_left hi, <- List.getD_eq_getElem?_getD]
theorem Qida {ss : List Sm} {x : Sm} {i : Nat} (hi : i < ss.length) : (Qoba ss x (i + 1)).set (i + 1) (ss.getD i smZ) = Qoba ss x i := by
  unfold Qoba
  have h1 : ((ss ++ [x]).take (i + 1 + 1)).length = i + 1 + 1 := by
    rw [List.length_take, List.length_append, List.length_singleton]; omega
  rw [List.set_append_left _ _ (by omega), List.set_eq_take_append_cons_drop, if_pos (by omega), List.take_take, Nat.min_eq_left (by omega), List.drop_of_length_le (by omega), List.append_assoc, List.getD_eq_getElem?_getD, List.getElem?_eq_getElem hi]; congr 1; show [ss[i]] ++ ss.drop (i + 1) = ss.drop i; rw [List.drop_eq_getElem_cons hi]; rfl
theorem Qvda {ss : List Sm} {x : Sm} {k : Nat} (hk : k <= ss.length) : (Qoba ss x k).set k x = ss.take k ++ x :: ss.drop k := by
  unfold Qoba
  have h1 : ((ss ++ [x]).take (k + 1)).length = k + 1 := by
    rw [List.length_take, List.length_append, List.length_singleton]; omega
  rw [List.set_append_left _ _ (by omega), List.set_eq_take_append_cons_drop, if_pos (by omega), List.take_take, Nat.min_eq_left (by omega), List.drop_of_length_le (by omega), List.append_assoc, List.take_append_of_le_length hk]; rfl
theorem Qoca (w : World) (tS tE ty : TypeId) (size bytes : Nat) (z : Value) (hu : Try.prog.underlying tS = some (.slice tE)) (hI : (Try.prog.info? tE).map (fun i => (i.zero, i.size, i.bytes)) = some (some z, size, bytes)) (hzs : z.cells.size = size) (hpos : 0 < size) (hby : bytes <= 1000)
    (base : Nat) (v : Value) (n : Nat) (xs : List Value) (hown : w.ownsRow base tE size v n xs)
    (b : Nat) (cs : Array Value) (hB : Qb w b tE cs) (hcs : cs.size = size) (hone : cs.all (·.oneCell') = true) (hz : n <= 100000) (hbase : base <= w.heap.size) :
    ∃ v' w', (Builtin.append_ #[tS, tS] ty #[v, .slice (some ⟨b, 0, none⟩) 1 1]).run Try.prog w = .ok v' w' /\ w'.ownsRow base tE size v' (n + 1) (xs ++ cs.toList) /\ w.grownBy w' v.ownBlock /\ (v'.ownBlock = v.ownBlock ∨ v'.ownBlock = some w.heap.size) := by
  obtain ⟨i, hi0, hi1⟩ := Option.map_eq_some_iff.1 hI; simp only [Prod.mk.injEq] at hi1
  obtain ⟨v', w', r1, r2, r3, _, r5⟩ := run_append_own_at (P := Try.prog) (w := w) base tS ty tE i z size bytes hu hi0 hi1.1 hi1.2.1 hi1.2.2 hzs hpos v n xs hown ⟨b, 0, none⟩ 1 1 cs.toList (by rw [Array.length_toList, hcs, Nat.one_mul]) (fun j u hu => by
    rw [Array.getElem?_toList] at hu; rw [Addr.add_lit, Nat.zero_add]
    exact hB.cell j u hu) (fun u hu => by
    rw [Array.all_eq_true'] at hone; exact hone u (by simpa using hu)) (by unfold maxLen; omega) (by
    have := Nat.mul_le_mul (show n + 1 <= 100001 by omega) hby
    omega) hbase
  exact ⟨v', w', r1, r2, r3, r5⟩
def InAns (w : World) (B : Nat) (ss : List Sm) (x : Sm) (e : Ending) (w' : World) : Prop := ∃ v', e = .returned v' /\ OwS w' B v' (Qqea ss x) /\ Below B w w'
def SmSl (s : Sm) : Prop := (∃ a l c, s.2.2.1 = .slice a l c) /\ ∃ a l c, s.2.2.2 = .slice a l c
theorem SmSl.one {s : Sm} (h : SmSl s) : (smF s).all (·.oneCell') = true := by
  obtain ⟨n, r, a, b⟩ := s; obtain ⟨⟨a1, l1, c1, h1⟩, a2, l2, c2, h2⟩ := h; have h1' : a = .slice a1 l1 c1 := h1; have h2' : b = .slice a2 l2 c2 := h2; subst h1' h2'; simp [smF, Value.oneCell']
theorem ins17 (w : World) (B : Nat) (v : Value) (ss : List Sm) (x : Sm) (ho : OwS w B v ss) (hx : SmSl x) (hss : ∀ s ∈ ss, SmSl s) (hl : ss.length <= 90000) (hB : B <= w.heap.size) :
    Calls Try.prog 28 #[v, .agg (smF x)] w (InAns w B ss x) := by
  obtain ⟨xn, xr, xa, xb⟩ := x; obtain ⟨⟨x1, l1, y1, h1⟩, x2, l2, y2, h2⟩ := hx; have h1' : xa = .slice x1 l1 y1 := h1; have h2' : xb = .slice x2 l2 y2 := h2; subst h1' h2'; clear h1 h2; obtain ⟨x, hxe⟩ : ∃ x : Sm, x = (xn, xr, .slice x1 l1 y1, .slice x2 l2 y2) := ⟨_, rfl⟩; have HXE : Hid (x = (xn, xr, .slice x1 l1 y1, .slice x2 l2 y2)) := hxe; have HSF : Hid (smF x = #[.int .i64 xn, .int .i64 xr.k, .int .u64 (xr.l : Int), .int .i64 xr.t, .int .u64 (xr.p : Int), .int .i64 xr.c.k, .int .i64 xr.c.pg, .int .i64 xr.c.sl, .string xr.c.o, .string xr.c.n, .int .u64 (xr.n : Int), .int .i64 xr.s, .int .u64 (xr.b : Int), .slice x1 l1 y1, .slice x2 l2 y2]) := by show _ = _; rw [hxe]; rfl
  rw [<- hxe]; obtain ⟨a0, c0, rfl, hc0⟩ := ho.slice; obtain ⟨w1, hw1⟩ : ∃ y, y = w.alloc (.cells (smF x) 47) := ⟨_, rfl⟩; have hb1 : Below w.heap.size w w1 := by rw [hw1]; exact (Below.refl _ _).alloc (Nat.le_refl _) _
  have hr1 : Qb w1 w.heap.size 47 (smF x) := by rw [hw1]; exact Qb.new w _ _
  obtain ⟨gx, hgx⟩ : ∃ g, g = w.heap.size := ⟨_, rfl⟩; rw [<- hgx] at hr1; have hBx : B <= gx := by rw [hgx]; exact hB
  have H1 : Hid (OwS w1 B (.slice a0 ss.length c0) ss /\ Qb w1 gx 47 (smF x) /\ Below B w w1) := ⟨Qdb ho hb1, hr1, hb1.mono hB⟩; have HW1 := Qc hw1; have HGX := Qc hgx; have HSS := Qc hss
  have HLT : Hid (∀ k, (Value.slice a0 ss.length c0).ownBlock = some k -> k < gx) := fun k hk => by
    rcases ho.2 with ⟨e2, _⟩ | ⟨g, cap, cur, e2, _, h4, _⟩
    · rw [e2] at hk; cases hk
    · rw [e2] at hk; injection hk with hk; subst hk; rw [hgx]; exact (show Qb w g 47 cur from h4).lt
  have HCE : Hid (∀ k, 0 < k /\ k <= ss.length -> ∀ y, Below w1.heap.size w1 y -> ∃ g, a0 = some ⟨g, 0, none⟩ /\ y.cell? ⟨g, (k - 1) * 15 + 2, none⟩ = some (.int .u64 (((smS ss).getD (k - 1) Sd.zero).2.l : Int)) /\ y.cell? ⟨g, (k - 1) * 15, none⟩ = some (.int .i64 ((smS ss).getD (k - 1) Sd.zero).1)) := fun k hk y hy => by
    obtain ⟨g, c, cs, e1, _, hrow, _, hcel, _⟩ := H1.out.1.put (by omega); have h1 := Qjc (hcel (k - 1) (by omega)) hy hrow.lt; injection e1 with e1 e2 e3; rw [Qnda]; exact ⟨g, e1, h1 2 _ rfl, h1 0 _ rfl⟩
  obtain ⟨n, hn⟩ : ∃ n, n = ss.length := ⟨_, rfl⟩; have HN := Qc hn; rw [<- hn] at H1 hl hc0 HCE HLT |-; clear ho hss hb1 hr1 hw1 hgx hn hxe; go_enter Try.func28, Try.ntmps28; go_wp2; rw [<- HW1.out, <- HGX.out]; clear HW1; go_loopw [5] (fun vk wr => ∃ k : Nat, k <= n /\ vk = .int .i64 (k : Int) /\ Hid (∀ j, k <= j -> j < n -> ltS (x.1, x.2.1) ((smS ss).getD j Sd.zero) = true) /\ Hid (Below w1.heap.size w1 wr)) (fun vk _ => (intOf vk).toNat)
  case atStart => exact ⟨n, Nat.le_refl _, rfl, fun j a b => absurd a (by omega), Below.refl _ _⟩
  case round =>
    obtain ⟨k, hk, rfl, HHI, HBR⟩ := hrel
    by_cases hk0 : 0 < k
    · obtain ⟨g, hag, c2, c3⟩ := HCE.out k ⟨hk0, hk⟩ w1 (Below.refl _ _); subst hag
      have HC2 : Hid (∀ y, Below w1.heap.size w1 y -> y.cell? ⟨g, (k - 1) * 15 + 2, none⟩ = some (.int .u64 ((smS ss).getD (k - 1) Sd.zero).2.l) /\ y.cell? ⟨g, (k - 1) * 15, none⟩ = some (.int .i64 ((smS ss).getD (k - 1) Sd.zero).1)) := fun y hy => by
        obtain ⟨g', e, q⟩ := HCE.out k ⟨hk0, hk⟩ y hy; injection e with e; injection e with e4; rw [e4]; exact q
      clear c2 c3; obtain ⟨k2, hk2⟩ : ∃ k2, k = k2 + 1 := ⟨k - 1, by omega⟩; have HK2 := Qc hk2; rw [show k - 1 = k2 by omega] at HC2; obtain ⟨z, hz⟩ : ∃ z, z = (smS ss).getD k2 Sd.zero := ⟨_, rfl⟩; have HZ := Qc hz; rw [<- hz] at HC2; have HXC := Qc (fun y (hy : Below w1.heap.size w1 y) => (And.intro ((H1.out.2.1.later hy).cell 2 (.int .u64 (x.2.1.l : Int)) rfl) ((H1.out.2.1.later hy).cell 0 (.int .i64 x.1) rfl))); have hbe := fun y => rbefore17 x.2.1.l z.2.l x.1 z.1 y
      have hbs : bef x.2.1.l x.1 z.2.l z.1 = ltS (x.1, x.2.1) z := bef_ltS (x.1, x.2.1) z; rw [hbs] at hbe; have HBE := Qc hbe; obtain ⟨q, hq⟩ : ∃ q, q = ltS (x.1, x.2.1) z := ⟨_, rfl⟩; have HQ := Qc hq; rw [<- hq] at HBE; obtain ⟨xl, hxl⟩ : ∃ a, a = x.2.1.l := ⟨_, rfl⟩; rw [<- hxl] at HXC HBE; clear hxl; obtain ⟨xnn, hxnn⟩ : ∃ a, a = x.1 := ⟨_, rfl⟩; rw [<- hxnn] at HXC HBE; clear hxnn; obtain ⟨zl, hzl⟩ : ∃ a, a = z.2.l := ⟨_, rfl⟩; rw [<- hzl] at HC2 HBE; clear hzl; obtain ⟨zn, hzn⟩ : ∃ a, a = z.1 := ⟨_, rfl⟩; rw [<- hzn] at HC2 HBE; clear hzn; have hw1 : IntKind.i64.wrap ((k : Int) - 1) = (k2 : Int) := by rw [IntKind.wrap_i64]; omega
      have hw2 : wrap64 ((k : Int) - 1) = (k2 : Int) := by unfold wrap64; omega
      have i1 : (k2 : Int) < (n : Int) := by omega
      have i2 : (0 : Int) < (k : Int) := by omega
      have i3 : ¬ k <= 0 := by omega
      have i4 : (0 : Int) <= (k2 : Int) := by omega
      clear hk2 hz hbe hbs hq; go_wp2_with fail; refine Qqa (fun y => Below w1.heap.size w1 y) (by kernel_rfl) (by kernel_rfl) (Qt HBR.out 1) ?_; refine Qg (by kernel_rfl) (fun K hK => ?_); go_simp; refine hK _ ?_; clear hK K; refine Qg (by kernel_rfl) (fun K hK => ?_); go_simp; refine hK _ ?_; clear hK K; refine Qg (by kernel_rfl) (fun K hK => ?_); go_simp; refine hK _ ?_; clear hK K; refine Qg (by kernel_rfl) (fun K hK => ?_); go_simp; refine hK _ ?_; clear hK K; refine Qg (by kernel_rfl) (fun K hK => ?_); go_simp; refine hK _ ?_; clear hK K; refine Qub (by kernel_rfl) (.int .u64 (xl : Int)) (fun x hx => by have q := (HXC.out x hx).1; go_simp) ?_; simp only [Act.put, List.setIfInBounds_toArray, List.set]; refine Qg (by kernel_rfl) (fun K hK => ?_); go_simp; refine hK _ ?_; clear hK K; refine Qub (by kernel_rfl) (.int .i64 xnn) (fun x hx => by have q := (HXC.out x hx).2; go_simp) ?_; simp only [Act.put, List.setIfInBounds_toArray, List.set]; refine Qg (by kernel_rfl) (fun K hK => ?_); go_simp; refine hK _ ?_; clear hK K; refine Qg (by kernel_rfl) (fun K hK => ?_); go_simp; refine hK _ ?_; clear hK K; refine Qg (by kernel_rfl) (fun K hK => ?_); go_simp; refine hK _ ?_; clear hK K; (try simp only [hw1, hw2]); refine Qg (by kernel_rfl) (fun K hK => ?_); go_simp; refine hK _ ?_; clear hK K; refine Qg (by kernel_rfl) (fun K hK => ?_); go_simp; refine hK _ ?_; clear hK K; refine Qg (by kernel_rfl) (fun K hK => ?_); go_simp; refine hK _ ?_; clear hK K; refine Qub (by kernel_rfl) (.int .u64 (zl : Int)) (fun x hx => by have q := (HC2.out x hx).1; go_simp) ?_; simp only [Act.put, List.setIfInBounds_toArray, List.set]; refine Qg (by kernel_rfl) (fun K hK => ?_); go_simp; refine hK _ ?_; clear hK K; refine Qg (by kernel_rfl) (fun K hK => ?_); go_simp; refine hK _ ?_; clear hK K; refine Qg (by kernel_rfl) (fun K hK => ?_); go_simp; refine hK _ ?_; clear hK K; (try simp only [hw1, hw2]); refine Qg (by kernel_rfl) (fun K hK => ?_); go_simp; refine hK _ ?_; clear hK K; refine Qg (by kernel_rfl) (fun K hK => ?_); go_simp; refine hK _ ?_; clear hK K; refine Qub (by kernel_rfl) (.int .i64 zn) (fun x hx => by have q := (HC2.out x hx).2; go_simp) ?_; simp only [Act.put, List.setIfInBounds_toArray, List.set]; refine Qyc (by kernel_rfl) 35 #[.int .u64 (xl : Int), .int .i64 xnn, .int .u64 (zl : Int), .int .i64 zn] (.bool q) ?_ (fun y hC => (HBE.out y).mono fun e x h => ⟨h.1, by rw [<- h.2]; exact hC⟩) ?_; (intro x; go_simp); simp only [Act.put, List.setIfInBounds_toArray, List.set]
      refine Qg (by kernel_rfl) (fun K hK => ?_); go_simp; refine hK _ ?_; clear hK K; refine wpQuiet_nil ?_; intro w5 hb5; have H5 := Qc hb5; clear hb5 HBR HXC HC2 HBE
      cases q with
      | true =>
        have HHN : Hid (∀ j, k2 <= j -> j < n -> ltS (x.1, x.2.1) ((smS ss).getD j Sd.zero) = true) := fun j a b => by
          by_cases e : j = k2
          · rw [e, <- HZ.out]; exact HQ.out.symm
          · exact HHI.out j (by have := HK2.out; omega) b
        clear HHI HQ HZ; go_wp2; go_roundw
        case rel => exact ⟨k2, by omega, rfl, HHN, H5⟩
        case measure => (try simp only [hw1, hw2]); simp [intOf]; have := HK2.out; omega
      | false =>
        have HPL : Hid (Qpba (smS ss) (x.1, x.2.1) n = k) := Qcda n hk HHI.out (.inr (by rw [show k - 1 = k2 by have := HK2.out; omega, <- HZ.out]; exact HQ.out.symm)); clear HHI HQ HZ HK2 hw1 hw2 i1 i4; have HB5 : Hid (OwS w5 B (.slice (some ⟨g, 0, none⟩) n c0) ss /\ Qb w5 gx 47 #[.int .i64 xn, .int .i64 xr.k, .int .u64 (xr.l : Int), .int .i64 xr.t, .int .u64 (xr.p : Int), .int .i64 xr.c.k, .int .i64 xr.c.pg, .int .i64 xr.c.sl, .string xr.c.o, .string xr.c.n, .int .u64 (xr.n : Int), .int .i64 xr.s, .int .u64 (xr.b : Int), .slice x1 l1 y1, .slice x2 l2 y2] /\ Below B w w5) := ⟨Qdb H1.out.1 H5.out, by rw [<- HSF.out]; exact H1.out.2.1.later H5.out, H1.out.2.2.trans (H5.out.mono (Nat.le_trans hB H1.out.2.2.size))⟩; have hB5 : B <= w5.heap.size := Nat.le_trans hB HB5.out.2.2.size; have hx5 : gx < w5.heap.size := HB5.out.2.1.lt; have n9 : n <= 100000 := by omega
        have HOWN : Hid (w5.ownsRow B 47 15 (.slice (some ⟨g, 0, none⟩) n c0) n (flS ss)) := by
          have h := HB5.out.1; unfold OwS at h; rw [<- HN.out] at h; exact h
        have hal := (Below.refl w5.heap.size w5).alloc (Nat.le_refl w5.heap.size) (.cells #[.int .i64 xn, .int .i64 xr.k, .int .u64 (xr.l : Int), .int .i64 xr.t, .int .u64 (xr.p : Int), .int .i64 xr.c.k, .int .i64 xr.c.pg, .int .i64 xr.c.sl, .string xr.c.o, .string xr.c.n, .int .u64 (xr.n : Int), .int .i64 xr.s, .int .u64 (xr.b : Int), .slice x1 l1 y1, .slice x2 l2 y2] 47); have hown := Qdb HOWN.out hal; obtain ⟨v', w7, r1, ho7, hg7, hat⟩ := Qoca (w5.alloc (.cells #[.int .i64 xn, .int .i64 xr.k, .int .u64 (xr.l : Int), .int .i64 xr.t, .int .u64 (xr.p : Int), .int .i64 xr.c.k, .int .i64 xr.c.pg, .int .i64 xr.c.sl, .string xr.c.o, .string xr.c.n, .int .u64 (xr.n : Int), .int .i64 xr.s, .int .u64 (xr.b : Int), .slice x1 l1 y1, .slice x2 l2 y2] 47)) 25 47 25 15 168 (.agg zeroS) Try.underlying25 Qeea rfl (by decide) (by decide) B (.slice (some ⟨g, 0, none⟩) n c0) n (flS ss) hown w5.heap.size #[.int .i64 xn, .int .i64 xr.k, .int .u64 (xr.l : Int), .int .i64 xr.t, .int .u64 (xr.p : Int), .int .i64 xr.c.k, .int .i64 xr.c.pg, .int .i64 xr.c.sl, .string xr.c.o, .string xr.c.n, .int .u64 (xr.n : Int), .int .i64 xr.s, .int .u64 (xr.b : Int), .slice x1 l1 y1, .slice x2 l2 y2] (Qb.new w5 47 #[.int .i64 xn, .int .i64 xr.k, .int .u64 (xr.l : Int), .int .i64 xr.t, .int .u64 (xr.p : Int), .int .i64 xr.c.k, .int .i64 xr.c.pg, .int .i64 xr.c.sl, .string xr.c.o, .string xr.c.n, .int .u64 (xr.n : Int), .int .i64 xr.s, .int .u64 (xr.b : Int), .slice x1 l1 y1, .slice x2 l2 y2]) rfl (by simp [Value.oneCell']) n9 (Nat.le_trans hB5 (by simp)); have HR1 := Qc r1; have hb7 : Below B w w7 := Qlm hown (Nat.le_refl _) (HB5.out.2.2.trans (hal.mono hB5)) (Nat.le_trans hB5 (by simp)) hg7
        have ho7' : OwS w7 B v' (Qoba ss x n) := by
          rw [HN.out, Quda]; rw [HN.out] at ho7; exact Qyca (by rw [HSF.out]) ho7
        have hgx7 : Qb w7 gx 47 #[.int .i64 xn, .int .i64 xr.k, .int .u64 (xr.l : Int), .int .i64 xr.t, .int .u64 (xr.p : Int), .int .i64 xr.c.k, .int .i64 xr.c.pg, .int .i64 xr.c.sl, .string xr.c.o, .string xr.c.n, .int .u64 (xr.n : Int), .int .i64 xr.s, .int .u64 (xr.b : Int), .slice x1 l1 y1, .slice x2 l2 y2] := Qzba hg7 (HB5.out.2.1.later hal) fun e => Nat.lt_irrefl gx (HLT.out gx e.symm)
        have H7 : Hid (OwS w7 B v' (Qoba ss x n) /\ Qb w7 gx 47 #[.int .i64 xn, .int .i64 xr.k, .int .u64 (xr.l : Int), .int .i64 xr.t, .int .u64 (xr.p : Int), .int .i64 xr.c.k, .int .i64 xr.c.pg, .int .i64 xr.c.sl, .string xr.c.o, .string xr.c.n, .int .u64 (xr.n : Int), .int .i64 xr.s, .int .u64 (xr.b : Int), .slice x1 l1 y1, .slice x2 l2 y2] /\ Below B w w7) := ⟨ho7', hgx7, hb7⟩; have hnn : (Qoba ss x n).length = n + 1 := by rw [HN.out]; exact Qeca (Nat.le_refl _)
        obtain ⟨g7, c7, cs7, hv7, hBg, -⟩ := H7.out.1.put (by rw [hnn]; omega); rw [hnn] at hv7; subst hv7
        have hne : gx ≠ g7 := fun e => by
          rcases hat with q | q
          · have h := HLT.out g7 q.symm; omega
          · have h : g7 = (w5.alloc (.cells #[.int .i64 xn, .int .i64 xr.k, .int .u64 (xr.l : Int), .int .i64 xr.t, .int .u64 (xr.p : Int), .int .i64 xr.c.k, .int .i64 xr.c.pg, .int .i64 xr.c.sl, .string xr.c.o, .string xr.c.n, .int .u64 (xr.n : Int), .int .i64 xr.s, .int .u64 (xr.b : Int), .slice x1 l1 y1, .slice x2 l2 y2] 47)).heap.size := by injection q
            have h2 : (w5.alloc (.cells #[.int .i64 xn, .int .i64 xr.k, .int .u64 (xr.l : Int), .int .i64 xr.t, .int .u64 (xr.p : Int), .int .i64 xr.c.k, .int .i64 xr.c.pg, .int .i64 xr.c.sl, .string xr.c.o, .string xr.c.n, .int .u64 (xr.n : Int), .int .i64 xr.s, .int .u64 (xr.b : Int), .slice x1 l1 y1, .slice x2 l2 y2] 47)).heap.size = w5.heap.size + 1 := by simp
            omega
        have HNE := Qc hne; clear r1 ho7 hg7 hal hown hb7 ho7' hgx7 HOWN H5 HCE hat hnn hne; go_wp2_with (first | (refine Qd rfl 47 (.tmp 3) rfl gx rfl #[.int .i64 xn, .int .i64 xr.k, .int .u64 (xr.l : Int), .int .i64 xr.t, .int .u64 (xr.p : Int), .int .i64 xr.c.k, .int .i64 xr.c.pg, .int .i64 xr.c.sl, .string xr.c.o, .string xr.c.n, .int .u64 (xr.n : Int), .int .i64 xr.s, .int .u64 (xr.b : Int), .slice x1 l1 y1, .slice x2 l2 y2] HB5.out.2.1 _ Try.underlying47 rfl Qpca ?_) | (with_reducible refine Qw 37 rfl ?_)); refine Qf ?_; refine Lib.wpList_append_run _ rfl _ _ _ _ rfl _ _ rfl rfl _ _ HR1.out ?_; clear HR1 HB5; have hwn : IntKind.i64.wrap (((n + 1 : Nat) : Int) - 1) = (n : Int) := by rw [IntKind.wrap_i64]; omega
        have hwm : wrap64 (((n + 1 : Nat) : Int) - 1) = (n : Int) := by unfold wrap64; omega
        have hwi : IntKind.i64.wrap ((n : Int) + 1 - 1) = (n : Int) := by rw [IntKind.wrap_i64]; omega
        have hwj : wrap64 ((n : Int) + 1 - 1) = (n : Int) := by unfold wrap64; omega
        go_wp2; (try simp only [hwn, hwm, hwi, hwj]); clear hwn hwm hwi hwj; go_loopw [6] (fun vi wr => ∃ i : Nat, k <= i /\ i <= n /\ vi = .int .i64 (i : Int) /\ Hid (OwS wr B (.slice (some ⟨g7, 0, none⟩) (n + 1) c7) (Qoba ss x i) /\ Qb wr gx 47 #[.int .i64 xn, .int .i64 xr.k, .int .u64 (xr.l : Int), .int .i64 xr.t, .int .u64 (xr.p : Int), .int .i64 xr.c.k, .int .i64 xr.c.pg, .int .i64 xr.c.sl, .string xr.c.o, .string xr.c.n, .int .u64 (xr.n : Int), .int .i64 xr.s, .int .u64 (xr.b : Int), .slice x1 l1 y1, .slice x2 l2 y2] /\ Below B w wr)) (fun vi _ => (intOf vi).toNat)
        case atStart => exact ⟨n, by omega, Nat.le_refl _, (by first | rfl | (simp; done)), H7.out⟩
        case round =>
          obtain ⟨i, hki, hin, rfl, HI⟩ := hrel; have hil : (Qoba ss x i).length = n + 1 := by rw [HN.out]; exact Qeca (by rw [<- HN.out]; exact hin)
          obtain ⟨g8, c8, cs8, hv8, -, hrow8, hsz8, hcel8, hput8⟩ := HI.out.1.put (by rw [hil]; omega); injection hv8 with e1 e2 e3; injection e1 with e1; injection e1 with e4 e5 e6; subst e4; rw [hil] at hsz8 hcel8 hput8; clear H7 e2 e3 e5 e6
          by_cases hlt : k < i
          · obtain ⟨i2, hi2⟩ : ∃ i2, i = i2 + 1 := ⟨i - 1, by omega⟩; have hi2n : i2 < ss.length := by rw [<- HN.out]; omega
            obtain ⟨y, hy⟩ : ∃ y, y = ss.getD i2 smZ := ⟨_, rfl⟩
            have hc : wr.rangeAt g7 (i2 * 15) (smF y).toList := by
              have h := hcel8 i2 (by omega); rw [hi2, Qrda hi2n] at h; rw [hy]; exact h
            have hys := HSS.out _ (Qua ss i2 smZ hi2n); rw [<- hy] at hys; have HLD := Qc (Qmca wr g7 (i2 * 15) y hc)
            have HPT : Hid (∀ w2, Qb w2 g7 47 (Qid cs8 (i * 15) (smF y).toList) -> OwS w2 B (.slice (some ⟨g7, 0, none⟩) (n + 1) c7) (Qoba ss x i2)) := fun w2 hr => by
              have h := hput8 i y w2 (by omega) hr; rw [hi2, hy, Qida hi2n] at h; exact h
            have hone := hys.one; have hf8 : i * 15 + (smF y).size <= cs8.size := by show i * 15 + 15 <= _; omega
            have HRW := Qc hrow8; have hw1 : IntKind.i64.wrap ((i : Int) - 1) = (i2 : Int) := by rw [IntKind.wrap_i64]; omega
            have hw2 : wrap64 ((i : Int) - 1) = (i2 : Int) := by unfold wrap64; omega
            have i1 : (i : Int) > (k : Int) := by omega
            have i2a : (i2 : Int) < ((n + 1 : Nat) : Int) := by omega
            have i2b : (i : Int) < ((n + 1 : Nat) : Int) := by omega
            have HI2 := Qc hi2; have hszy : (smF y).size = 15 := rfl; generalize smF y = cy at HLD HPT hone hf8 hszy; rw [hszy] at hf8; have hfi : (Try.prog.info? 47).map (·.size) = some cy.size := by rw [hszy]; exact Qpca
            have hf9 : i * 15 + cy.size <= cs8.size := by rw [hszy]; exact hf8
            clear hrow8 hsz8 hcel8 hput8 hc hys hy hil hi2n hi2 hszy; go_wp2_with (first | (refine Qo rfl 47 (.tmp 51) rfl _ (.agg cy) rfl HLD.out ?_) | (refine Qm rfl 47 (.tmp 53) (.tmp 52) rfl g7 (i * 15) 47 cs8 cy rfl rfl HRW.out hfi hf9 hone ?_; intro w9 hr9 ho9; refine Qz ?_)); have H9 : Hid (OwS w9 B (.slice (some ⟨g7, 0, none⟩) (n + 1) c7) (Qoba ss x i2) /\ Qb w9 gx 47 #[.int .i64 xn, .int .i64 xr.k, .int .u64 (xr.l : Int), .int .i64 xr.t, .int .u64 (xr.p : Int), .int .i64 xr.c.k, .int .i64 xr.c.pg, .int .i64 xr.c.sl, .string xr.c.o, .string xr.c.n, .int .u64 (xr.n : Int), .int .i64 xr.s, .int .u64 (xr.b : Int), .slice x1 l1 y1, .slice x2 l2 y2] /\ Below B w w9) := ⟨HPT.out w9 hr9, ho9.row HI.out.2.1 HNE.out, ho9.below HI.out.2.2 hBg⟩; clear hr9 ho9 HI HPT HLD HRW; refine Qf ?_; go_wp2; go_roundw
            case rel => exact ⟨i2, by have := HI2.out; omega, by have := HI2.out; omega, rfl, H9⟩
            case measure => (try simp only [hw1, hw2]); simp [intOf]; have := HI2.out; omega
          · have hik : i = k := by omega
            have HPT : Hid (∀ w2, Qb w2 g7 47 (Qid cs8 (k * 15) (smF x).toList) -> OwS w2 B (.slice (some ⟨g7, 0, none⟩) (n + 1) c7) (Qqea ss x)) := fun w2 hr => by
              have h := hput8 k x w2 (by omega) hr; rw [hik, Qvda (by rw [<- HN.out]; omega)] at h; unfold Qqea; rw [<- HN.out, HPL.out]; exact h
            rw [HSF.out] at HPT; have hf8 : k * 15 + (#[.int .i64 xn, .int .i64 xr.k, .int .u64 (xr.l : Int), .int .i64 xr.t, .int .u64 (xr.p : Int), .int .i64 xr.c.k, .int .i64 xr.c.pg, .int .i64 xr.c.sl, .string xr.c.o, .string xr.c.n, .int .u64 (xr.n : Int), .int .i64 xr.s, .int .u64 (xr.b : Int), .slice x1 l1 y1, .slice x2 l2 y2] : Array Value).size <= cs8.size := by show k * 15 + 15 <= _; omega
            have HRW := Qc hrow8; have i1 : ¬ (i : Int) > (k : Int) := by omega
            have i2b : (k : Int) < ((n + 1 : Nat) : Int) := by omega
            clear hrow8 hsz8 hcel8 hput8 hil hik; go_wp2_with (first | (refine Qd rfl 47 (.tmp 3) rfl gx rfl #[.int .i64 xn, .int .i64 xr.k, .int .u64 (xr.l : Int), .int .i64 xr.t, .int .u64 (xr.p : Int), .int .i64 xr.c.k, .int .i64 xr.c.pg, .int .i64 xr.c.sl, .string xr.c.o, .string xr.c.n, .int .u64 (xr.n : Int), .int .i64 xr.s, .int .u64 (xr.b : Int), .slice x1 l1 y1, .slice x2 l2 y2] HI.out.2.1 _ Try.underlying47 rfl Qpca ?_) | (refine Qm rfl 47 (.tmp 57) (.tmp 56) rfl g7 (k * 15) 47 cs8 #[.int .i64 xn, .int .i64 xr.k, .int .u64 (xr.l : Int), .int .i64 xr.t, .int .u64 (xr.p : Int), .int .i64 xr.c.k, .int .i64 xr.c.pg, .int .i64 xr.c.sl, .string xr.c.o, .string xr.c.n, .int .u64 (xr.n : Int), .int .i64 xr.s, .int .u64 (xr.b : Int), .slice x1 l1 y1, .slice x2 l2 y2] rfl rfl HRW.out Qpca hf8 (by simp [Value.oneCell']) ?_; intro w9 hr9 ho9; refine Qz ?_)); have H9 : Hid (OwS w9 B (.slice (some ⟨g7, 0, none⟩) (n + 1) c7) (Qqea ss x) /\ Below B w w9) := ⟨HPT.out w9 hr9, ho9.below HI.out.2.2 hBg⟩; clear hr9 ho9 HI HPT HRW; refine Qf ?_; go_wp2; go_ret; exact ⟨_, rfl, H9.out.1, H9.out.2⟩
    · obtain rfl : k = 0 := by omega
      have HPL : Hid (Qpba (smS ss) (x.1, x.2.1) n = 0) := Qcda n hk HHI.out (.inl rfl); clear HHI; go_wp2_with fail; refine Qqa (fun y => Below w1.heap.size w1 y) (by kernel_rfl) (by kernel_rfl) (Qt HBR.out 1) ?_; refine Qg (by kernel_rfl) (fun K hK => ?_); go_simp; refine hK _ ?_; clear hK K; refine Qg (by kernel_rfl) (fun K hK => ?_); go_simp; refine hK _ ?_; clear hK K; refine Qg (by kernel_rfl) (fun K hK => ?_); go_simp; refine hK _ ?_; clear hK K; go_big_quiet_skip; go_big_quiet_skip; go_big_quiet_skip; go_big_quiet_skip; go_big_quiet_skip; go_big_quiet_skip; go_big_quiet_skip; go_big_quiet_skip; go_big_quiet_skip; go_big_quiet_skip; go_big_quiet_skip; go_big_quiet_skip; go_big_quiet_skip; go_big_quiet_skip; go_big_quiet_skip; go_big_quiet_skip; go_big_quiet_skip; go_big_quiet_skip; go_big_quiet_skip; refine Qg (by kernel_rfl) (fun K hK => ?_); go_simp; refine hK _ ?_; clear hK K; refine wpQuiet_nil ?_; intro w5 hb5; have H5 := Qc hb5; clear hb5 HBR hk0; have HB5 : Hid (OwS w5 B (.slice a0 n c0) ss /\ Qb w5 gx 47 #[.int .i64 xn, .int .i64 xr.k, .int .u64 (xr.l : Int), .int .i64 xr.t, .int .u64 (xr.p : Int), .int .i64 xr.c.k, .int .i64 xr.c.pg, .int .i64 xr.c.sl, .string xr.c.o, .string xr.c.n, .int .u64 (xr.n : Int), .int .i64 xr.s, .int .u64 (xr.b : Int), .slice x1 l1 y1, .slice x2 l2 y2] /\ Below B w w5) := ⟨Qdb H1.out.1 H5.out, by rw [<- HSF.out]; exact H1.out.2.1.later H5.out, H1.out.2.2.trans (H5.out.mono (Nat.le_trans hB H1.out.2.2.size))⟩; have hB5 : B <= w5.heap.size := Nat.le_trans hB HB5.out.2.2.size; have hx5 : gx < w5.heap.size := HB5.out.2.1.lt; have n9 : n <= 100000 := by omega
      have HOWN : Hid (w5.ownsRow B 47 15 (.slice a0 n c0) n (flS ss)) := by
        have h := HB5.out.1; unfold OwS at h; rw [<- HN.out] at h; exact h
      have hal := (Below.refl w5.heap.size w5).alloc (Nat.le_refl w5.heap.size) (.cells #[.int .i64 xn, .int .i64 xr.k, .int .u64 (xr.l : Int), .int .i64 xr.t, .int .u64 (xr.p : Int), .int .i64 xr.c.k, .int .i64 xr.c.pg, .int .i64 xr.c.sl, .string xr.c.o, .string xr.c.n, .int .u64 (xr.n : Int), .int .i64 xr.s, .int .u64 (xr.b : Int), .slice x1 l1 y1, .slice x2 l2 y2] 47); have hown := Qdb HOWN.out hal; obtain ⟨v', w7, r1, ho7, hg7, hat⟩ := Qoca (w5.alloc (.cells #[.int .i64 xn, .int .i64 xr.k, .int .u64 (xr.l : Int), .int .i64 xr.t, .int .u64 (xr.p : Int), .int .i64 xr.c.k, .int .i64 xr.c.pg, .int .i64 xr.c.sl, .string xr.c.o, .string xr.c.n, .int .u64 (xr.n : Int), .int .i64 xr.s, .int .u64 (xr.b : Int), .slice x1 l1 y1, .slice x2 l2 y2] 47)) 25 47 25 15 168 (.agg zeroS) Try.underlying25 Qeea rfl (by decide) (by decide) B (.slice a0 n c0) n (flS ss) hown w5.heap.size #[.int .i64 xn, .int .i64 xr.k, .int .u64 (xr.l : Int), .int .i64 xr.t, .int .u64 (xr.p : Int), .int .i64 xr.c.k, .int .i64 xr.c.pg, .int .i64 xr.c.sl, .string xr.c.o, .string xr.c.n, .int .u64 (xr.n : Int), .int .i64 xr.s, .int .u64 (xr.b : Int), .slice x1 l1 y1, .slice x2 l2 y2] (Qb.new w5 47 #[.int .i64 xn, .int .i64 xr.k, .int .u64 (xr.l : Int), .int .i64 xr.t, .int .u64 (xr.p : Int), .int .i64 xr.c.k, .int .i64 xr.c.pg, .int .i64 xr.c.sl, .string xr.c.o, .string xr.c.n, .int .u64 (xr.n : Int), .int .i64 xr.s, .int .u64 (xr.b : Int), .slice x1 l1 y1, .slice x2 l2 y2]) rfl (by simp [Value.oneCell']) n9 (Nat.le_trans hB5 (by simp)); have HR1 := Qc r1; have hb7 : Below B w w7 := Qlm hown (Nat.le_refl _) (HB5.out.2.2.trans (hal.mono hB5)) (Nat.le_trans hB5 (by simp)) hg7
      have ho7' : OwS w7 B v' (Qoba ss x n) := by
        rw [HN.out, Quda]; rw [HN.out] at ho7; exact Qyca (by rw [HSF.out]) ho7
      have hgx7 : Qb w7 gx 47 #[.int .i64 xn, .int .i64 xr.k, .int .u64 (xr.l : Int), .int .i64 xr.t, .int .u64 (xr.p : Int), .int .i64 xr.c.k, .int .i64 xr.c.pg, .int .i64 xr.c.sl, .string xr.c.o, .string xr.c.n, .int .u64 (xr.n : Int), .int .i64 xr.s, .int .u64 (xr.b : Int), .slice x1 l1 y1, .slice x2 l2 y2] := Qzba hg7 (HB5.out.2.1.later hal) fun e => Nat.lt_irrefl gx (HLT.out gx e.symm)
      have H7 : Hid (OwS w7 B v' (Qoba ss x n) /\ Qb w7 gx 47 #[.int .i64 xn, .int .i64 xr.k, .int .u64 (xr.l : Int), .int .i64 xr.t, .int .u64 (xr.p : Int), .int .i64 xr.c.k, .int .i64 xr.c.pg, .int .i64 xr.c.sl, .string xr.c.o, .string xr.c.n, .int .u64 (xr.n : Int), .int .i64 xr.s, .int .u64 (xr.b : Int), .slice x1 l1 y1, .slice x2 l2 y2] /\ Below B w w7) := ⟨ho7', hgx7, hb7⟩; have hnn : (Qoba ss x n).length = n + 1 := by rw [HN.out]; exact Qeca (Nat.le_refl _)
      obtain ⟨g7, c7, cs7, hv7, hBg, -⟩ := H7.out.1.put (by rw [hnn]; omega); rw [hnn] at hv7; subst hv7
      have hne : gx ≠ g7 := fun e => by
        rcases hat with q | q
        · have h := HLT.out g7 q.symm; omega
        · have h : g7 = (w5.alloc (.cells #[.int .i64 xn, .int .i64 xr.k, .int .u64 (xr.l : Int), .int .i64 xr.t, .int .u64 (xr.p : Int), .int .i64 xr.c.k, .int .i64 xr.c.pg, .int .i64 xr.c.sl, .string xr.c.o, .string xr.c.n, .int .u64 (xr.n : Int), .int .i64 xr.s, .int .u64 (xr.b : Int), .slice x1 l1 y1, .slice x2 l2 y2] 47)).heap.size := by injection q
          have h2 : (w5.alloc (.cells #[.int .i64 xn, .int .i64 xr.k, .int .u64 (xr.l : Int), .int .i64 xr.t, .int .u64 (xr.p : Int), .int .i64 xr.c.k, .int .i64 xr.c.pg, .int .i64 xr.c.sl, .string xr.c.o, .string xr.c.n, .int .u64 (xr.n : Int), .int .i64 xr.s, .int .u64 (xr.b : Int), .slice x1 l1 y1, .slice x2 l2 y2] 47)).heap.size = w5.heap.size + 1 := by simp
          omega
      have HNE := Qc hne; clear r1 ho7 hg7 hal hown hb7 ho7' hgx7 HOWN H5 HCE hat hnn hne; go_wp2_with (first | (refine Qd rfl 47 (.tmp 3) rfl gx rfl #[.int .i64 xn, .int .i64 xr.k, .int .u64 (xr.l : Int), .int .i64 xr.t, .int .u64 (xr.p : Int), .int .i64 xr.c.k, .int .i64 xr.c.pg, .int .i64 xr.c.sl, .string xr.c.o, .string xr.c.n, .int .u64 (xr.n : Int), .int .i64 xr.s, .int .u64 (xr.b : Int), .slice x1 l1 y1, .slice x2 l2 y2] HB5.out.2.1 _ Try.underlying47 rfl Qpca ?_) | (with_reducible refine Qw 37 rfl ?_)); refine Qf ?_; refine Lib.wpList_append_run _ rfl _ _ _ _ rfl _ _ rfl rfl _ _ HR1.out ?_; clear HR1 HB5; have hwn : IntKind.i64.wrap (((n + 1 : Nat) : Int) - 1) = (n : Int) := by rw [IntKind.wrap_i64]; omega
      have hwm : wrap64 (((n + 1 : Nat) : Int) - 1) = (n : Int) := by unfold wrap64; omega
      have hwi : IntKind.i64.wrap ((n : Int) + 1 - 1) = (n : Int) := by rw [IntKind.wrap_i64]; omega
      have hwj : wrap64 ((n : Int) + 1 - 1) = (n : Int) := by unfold wrap64; omega
      go_wp2; (try simp only [hwn, hwm, hwi, hwj]); clear hwn hwm hwi hwj; go_loopw [6] (fun vi wr => ∃ i : Nat, 0 <= i /\ i <= n /\ vi = .int .i64 (i : Int) /\ Hid (OwS wr B (.slice (some ⟨g7, 0, none⟩) (n + 1) c7) (Qoba ss x i) /\ Qb wr gx 47 #[.int .i64 xn, .int .i64 xr.k, .int .u64 (xr.l : Int), .int .i64 xr.t, .int .u64 (xr.p : Int), .int .i64 xr.c.k, .int .i64 xr.c.pg, .int .i64 xr.c.sl, .string xr.c.o, .string xr.c.n, .int .u64 (xr.n : Int), .int .i64 xr.s, .int .u64 (xr.b : Int), .slice x1 l1 y1, .slice x2 l2 y2] /\ Below B w wr)) (fun vi _ => (intOf vi).toNat)
      case atStart => exact ⟨n, by omega, Nat.le_refl _, (by first | rfl | (simp; done)), H7.out⟩
      case round =>
        obtain ⟨i, hki, hin, rfl, HI⟩ := hrel; have hil : (Qoba ss x i).length = n + 1 := by rw [HN.out]; exact Qeca (by rw [<- HN.out]; exact hin)
        obtain ⟨g8, c8, cs8, hv8, -, hrow8, hsz8, hcel8, hput8⟩ := HI.out.1.put (by rw [hil]; omega); injection hv8 with e1 e2 e3; injection e1 with e1; injection e1 with e4 e5 e6; subst e4; rw [hil] at hsz8 hcel8 hput8; clear H7 e2 e3 e5 e6
        by_cases hlt : 0 < i
        · obtain ⟨i2, hi2⟩ : ∃ i2, i = i2 + 1 := ⟨i - 1, by omega⟩; have hi2n : i2 < ss.length := by rw [<- HN.out]; omega
          obtain ⟨y, hy⟩ : ∃ y, y = ss.getD i2 smZ := ⟨_, rfl⟩
          have hc : wr.rangeAt g7 (i2 * 15) (smF y).toList := by
            have h := hcel8 i2 (by omega); rw [hi2, Qrda hi2n] at h; rw [hy]; exact h
          have hys := HSS.out _ (Qua ss i2 smZ hi2n); rw [<- hy] at hys; have HLD := Qc (Qmca wr g7 (i2 * 15) y hc)
          have HPT : Hid (∀ w2, Qb w2 g7 47 (Qid cs8 (i * 15) (smF y).toList) -> OwS w2 B (.slice (some ⟨g7, 0, none⟩) (n + 1) c7) (Qoba ss x i2)) := fun w2 hr => by
            have h := hput8 i y w2 (by omega) hr; rw [hi2, hy, Qida hi2n] at h; exact h
          have hone := hys.one; have hf8 : i * 15 + (smF y).size <= cs8.size := by show i * 15 + 15 <= _; omega
          have HRW := Qc hrow8; have hw1 : IntKind.i64.wrap ((i : Int) - 1) = (i2 : Int) := by rw [IntKind.wrap_i64]; omega
          have hw2 : wrap64 ((i : Int) - 1) = (i2 : Int) := by unfold wrap64; omega
          have i1 : (i : Int) > (0 : Int) := by omega
          have i2a : (i2 : Int) < ((n + 1 : Nat) : Int) := by omega
          have i2b : (i : Int) < ((n + 1 : Nat) : Int) := by omega
          have HI2 := Qc hi2; have hszy : (smF y).size = 15 := rfl; generalize smF y = cy at HLD HPT hone hf8 hszy; rw [hszy] at hf8; have hfi : (Try.prog.info? 47).map (·.size) = some cy.size := by rw [hszy]; exact Qpca
          have hf9 : i * 15 + cy.size <= cs8.size := by rw [hszy]; exact hf8
          clear hrow8 hsz8 hcel8 hput8 hc hys hy hil hi2n hi2 hszy; go_wp2_with (first | (refine Qo rfl 47 (.tmp 51) rfl _ (.agg cy) rfl HLD.out ?_) | (refine Qm rfl 47 (.tmp 53) (.tmp 52) rfl g7 (i * 15) 47 cs8 cy rfl rfl HRW.out hfi hf9 hone ?_; intro w9 hr9 ho9; refine Qz ?_)); have H9 : Hid (OwS w9 B (.slice (some ⟨g7, 0, none⟩) (n + 1) c7) (Qoba ss x i2) /\ Qb w9 gx 47 #[.int .i64 xn, .int .i64 xr.k, .int .u64 (xr.l : Int), .int .i64 xr.t, .int .u64 (xr.p : Int), .int .i64 xr.c.k, .int .i64 xr.c.pg, .int .i64 xr.c.sl, .string xr.c.o, .string xr.c.n, .int .u64 (xr.n : Int), .int .i64 xr.s, .int .u64 (xr.b : Int), .slice x1 l1 y1, .slice x2 l2 y2] /\ Below B w w9) := ⟨HPT.out w9 hr9, ho9.row HI.out.2.1 HNE.out, ho9.below HI.out.2.2 hBg⟩; clear hr9 ho9 HI HPT HLD HRW; refine Qf ?_; go_wp2; go_roundw
          case rel => exact ⟨i2, by have := HI2.out; omega, by have := HI2.out; omega, rfl, H9⟩
          case measure => (try simp only [hw1, hw2]); simp [intOf]; have := HI2.out; omega
        · have hik : i = 0 := by omega
          have HPT : Hid (∀ w2, Qb w2 g7 47 (Qid cs8 (0 * 15) (smF x).toList) -> OwS w2 B (.slice (some ⟨g7, 0, none⟩) (n + 1) c7) (Qqea ss x)) := fun w2 hr => by
            have h := hput8 0 x w2 (by omega) hr; rw [hik, Qvda (by rw [<- HN.out]; omega)] at h; unfold Qqea; rw [<- HN.out, HPL.out]; exact h
          rw [HSF.out] at HPT; have hf8 : 0 * 15 + (#[.int .i64 xn, .int .i64 xr.k, .int .u64 (xr.l : Int), .int .i64 xr.t, .int .u64 (xr.p : Int), .int .i64 xr.c.k, .int .i64 xr.c.pg, .int .i64 xr.c.sl, .string xr.c.o, .string xr.c.n, .int .u64 (xr.n : Int), .int .i64 xr.s, .int .u64 (xr.b : Int), .slice x1 l1 y1, .slice x2 l2 y2] : Array Value).size <= cs8.size := by show 0 * 15 + 15 <= _; omega
          have HRW := Qc hrow8; have i1 : ¬ (i : Int) > (0 : Int) := by omega
          have i2b : (0 : Int) < ((n + 1 : Nat) : Int) := by omega
          clear hrow8 hsz8 hcel8 hput8 hil hik; go_wp2_with (first | (refine Qd rfl 47 (.tmp 3) rfl gx rfl #[.int .i64 xn, .int .i64 xr.k, .int .u64 (xr.l : Int), .int .i64 xr.t, .int .u64 (xr.p : Int), .int .i64 xr.c.k, .int .i64 xr.c.pg, .int .i64 xr.c.sl, .string xr.c.o, .string xr.c.n, .int .u64 (xr.n : Int), .int .i64 xr.s, .int .u64 (xr.b : Int), .slice x1 l1 y1, .slice x2 l2 y2] HI.out.2.1 _ Try.underlying47 rfl Qpca ?_) | (refine Qm rfl 47 (.tmp 57) (.tmp 56) rfl g7 (0 * 15) 47 cs8 #[.int .i64 xn, .int .i64 xr.k, .int .u64 (xr.l : Int), .int .i64 xr.t, .int .u64 (xr.p : Int), .int .i64 xr.c.k, .int .i64 xr.c.pg, .int .i64 xr.c.sl, .string xr.c.o, .string xr.c.n, .int .u64 (xr.n : Int), .int .i64 xr.s, .int .u64 (xr.b : Int), .slice x1 l1 y1, .slice x2 l2 y2] rfl rfl HRW.out Qpca hf8 (by simp [Value.oneCell']) ?_; intro w9 hr9 ho9; refine Qz ?_)); have H9 : Hid (OwS w9 B (.slice (some ⟨g7, 0, none⟩) (n + 1) c7) (Qqea ss x) /\ Below B w w9) := ⟨HPT.out w9 hr9, ho9.below HI.out.2.2 hBg⟩; clear hr9 ho9 HI HPT HRW; refine Qf ?_; go_wp2; go_ret; exact ⟨_, rfl, H9.out.1, H9.out.2⟩
theorem good15 (v : Value) (ms : List (Rec × Value × Value)) (w : World) (h : LogIn w v ms) :
    Calls Try.prog 23 #[v] w fun e w' => e = .returned (.bool (Qjg 0 (msR ms))) /\ Below w.heap.size w w' := by
  obtain ⟨q, hq⟩ : ∃ q, q = Qjg 0 (msR ms) := ⟨_, rfl⟩; have HQ : Hid (q = true ↔ Qmb 0 (msR ms)) := by rw [hq]; exact Qra _ _
  rw [<- hq]; clear hq; have HA := Qc h; obtain ⟨aa, ca, rfl, hlc⟩ := h.slice; have hl := h.few; clear h; obtain ⟨ln, hln⟩ : ∃ ln, ln = ms.length := ⟨_, rfl⟩; rw [<- hln] at HA hl hlc |-; have HN := Qc hln; clear hln; have ft : (4 : Int) = 4 := rfl; go_enter Try.func23, Try.ntmps23; go_wp2; go_loopw [3, 8] (fun v i wr => ∃ (j ll : Nat), j <= ln /\ i = .int .i64 (j : Int) /\ v = .int .u64 (ll : Int) /\ ll < 18446744073709551616 /\ Hid (ll = Qwb 0 ((msR ms).take j)) /\ Hid (Qmb 0 ((msR ms).take j)) /\ Hid (Below w.heap.size w wr)) (fun _ i _ => ln - (intOf i).toNat)
  case atStart => exact ⟨0, 0, Nat.zero_le _, rfl, rfl, by decide, by rw [List.take_zero]; rfl, by rw [List.take_zero]; trivial, Below.refl _ _⟩
  case round =>
    obtain ⟨j, ll, hj, rfl, rfl, hll, HLL, HRI, HBR⟩ := hrel
    by_cases hlt : j < ln
    · have hjm : j < ms.length := by rw [<- HN.out]; exact hlt
      have HS := Qc (Qvd hjm); obtain ⟨b, off, rfl, hf, _, hx⟩ := HA.out.mid hjm; obtain ⟨m, hm⟩ : ∃ m, m = ms.getD j rcZ := ⟨_, rfl⟩; rw [<- hm] at hf hx HS; clear hm; have ij : (j : Int) < (ln : Int) := by omega
      obtain ⟨hr0, hin⟩ := hx wr HBR.out; have HLD := Qc (Qug wr b (off + j * 14) m hr0); have hb1 : Below wr.heap.size wr (wr.alloc (.cells Qya 45)) := (Below.refl _ _).alloc (Nat.le_refl _) _; have HZ := Qc (And.intro (Qb.new wr 45 Qya) hb1); have hall := all15 hin; have HFX := Qc (And.intro hf hx); clear hr0 hf hx hb1 hin; go_wp2_with (first | (refine Qo rfl 45 (.tmp 10) rfl _ _ rfl HLD.out ?_) | (refine Qe rfl 45 (.tmp 5) (.tmp 11) rfl wr.heap.size Qya (rcF m) rfl rfl HZ.out.1 Qia rfl hall ?_; intro w2 hr2 hk2 hrow2; refine Qz ?_)); have hb2 := hk2 _ _ HZ.out.2 (Nat.le_refl _); have hbw := HBR.out.trans (hb2.mono HBR.out.size); have c1 := hr2.cell 1 (.int .u64 (m.1.l : Int)) rfl; have H2 := Qc (And.intro hr2 hbw); clear hr2 hk2 hrow2 hb2 HLD HZ; refine Qf ?_
      by_cases hle : m.1.l <= ll
      · have ile : (m.1.l : Int) <= (ll : Int) := by omega
        go_wp2; go_ret; refine ⟨?_, H2.out.2⟩; congr 2
        cases hq : q
        · rfl
        · exfalso; have h1 := Qkj _ (j + 1) (HQ.out.1 hq); rw [HS.out, Qld, <- HLL.out] at h1; omega
      · have ile : ¬ (m.1.l : Int) <= (ll : Int) := by omega
        have HR := Qc (Qmq m.1 m.2.1 m.2.2 w2 HFX.out.1 ((HFX.out.2 w2 hbw).2)); clear hbw
        by_cases hr : m.1.right
        · rw [Qdi hr] at HR; have hrl : m.1.l < 18446744073709551616 := by have := hr.lm; unfold Qve at this; omega
          go_wp2_with (refine Qd rfl 45 (.tmp 5) rfl wr.heap.size rfl (rcF m) H2.out.1 _ Try.underlying45 rfl Qia ?_); refine HR.out.mono ?_; rintro e w3 ⟨rfl, hb3⟩; have k1 := (H2.out.1.later hb3).cell 1 (.int .u64 (m.1.l : Int)) rfl; have HB3 := Qc (H2.out.2.trans (hb3.mono H2.out.2.size)); clear c1 hb3 HR; go_wp2; go_roundw
          case rel =>
            refine ⟨j + 1, m.1.l, by omega, by go_num, rfl, hrl, ?_, ?_, HB3⟩
            · rw [HS.out, Qzj]; exact rfl
            · rw [HS.out, Qld, <- HLL.out]; exact ⟨HRI.out, hr, by omega⟩
          case measure => simp [intOf]; omega
        · rw [Qck hr] at HR; go_wp2_with (refine Qd rfl 45 (.tmp 5) rfl wr.heap.size rfl (rcF m) H2.out.1 _ Try.underlying45 rfl Qia ?_); refine HR.out.mono ?_; rintro e w3 ⟨rfl, hb3⟩; have HB3 := Qc (H2.out.2.trans (hb3.mono H2.out.2.size)); clear c1 hb3 HR; go_wp2; go_ret; refine ⟨?_, HB3.out⟩; congr 2
          cases hq : q
          · rfl
          · exfalso; have h1 := Qkj _ (j + 1) (HQ.out.1 hq); rw [HS.out, Qld] at h1; exact hr h1.2.1
    · obtain rfl : j = ln := by omega
      go_wp2; go_ret; refine ⟨?_, HBR.out⟩; have h1 := HRI.out; rw [HN.out, <- Qeb, List.take_length] at h1; rw [HQ.out.2 h1]; rfl
abbrev Lu := Value × List (Rec × Value × Value)
def luZ : Lu := (.slice none 0 0, [])
def LuOk (w : World) (u : Lu) : Prop := LogIn w u.1 u.2 /\ ∀ m ∈ u.2, m.1.small
def LgIn (w : World) (v : Value) (us : List Lu) : Prop := Qte (fun u => #[u.1]) luZ 1 w v us /\ ∀ u ∈ us, LuOk w u
theorem LuOk.below {w x : World} {u : Lu} (h : LuOk w u) (hb : Below w.heap.size w x) : LuOk x u := ⟨h.1.below hb, h.2⟩
theorem LgIn.below {w x : World} {v : Value} {us : List Lu} (h : LgIn w v us) (hb : Below w.heap.size w x) : LgIn x v us := ⟨h.1.below hb, fun u hu => (h.2 u hu).below hb⟩
theorem LgIn.slice {w : World} {v : Value} {us : List Lu} (h : LgIn w v us) : ∃ a c, v = .slice a us.length c := by
  obtain ⟨⟨a, c, e, _⟩, _⟩ := h; exact ⟨a, c, e⟩
theorem LgIn.at {w : World} {a : Option Addr} {n c : Nat} {us : List Lu} (h : LgIn w (.slice a n c) us) {i : Nat} (hi : i < us.length) : ∃ b off, a = some ⟨b, off, none⟩ /\ LuOk w (us.getD i luZ) /\ ∀ x, Below w.heap.size w x -> x.cell? ⟨b, off + i, none⟩ = some (us.getD i luZ).1 := by
  obtain ⟨⟨a', c', e, h2⟩, h3⟩ := h; injection e with e1 e2 e3; subst e1; obtain ⟨b, off, e4, hb, hr⟩ := h2 (by omega); refine ⟨b, off, e4, h3 _ (Qua us i luZ hi), fun x hx => ?_⟩; have h5 := Qjc (hr i hi) hx hb 0 _ rfl; rw [Nat.mul_one, Nat.add_zero] at h5; exact h5
def Qlba (us : List Lu) : List (List Rec) := us.map fun u => msR u.2
theorem Qlda (us : List Lu) : (Qlba us).length = us.length := by unfold Qlba; rw [List.length_map]
theorem Qoda (us : List Lu) (i : Nat) : (Qlba us).getD i [] = msR (us.getD i luZ).2 := by
  unfold Qlba; rw [List.getD_eq_getElem?_getD, List.getD_eq_getElem?_getD, List.getElem?_map]; cases us[i]? <;> rfl
theorem Qoea {ls : List (List Rec)} {j : Nat} (hj : j < ls.length) : Qmea (ls.take (j + 1)) = Qmea (ls.take j) ++ tag (j : Int) (ls.getD j []) := by
  unfold Qmea; rw [List.take_succ_eq_append_getElem hj, Qdca, List.length_take, Nat.zero_add, List.getD_eq_getElem?_getD, List.getElem?_eq_getElem hj, show min j ls.length = j by omega]; show _ ++ (tag (j : Int) ls[j] ++ []) = _; rw [List.append_nil]; rfl
theorem smS_ord {l : List Sm} : Qvba (smS l) ↔ Qtfa l := by
  unfold smS; rw [Qvba, List.pairwise_map]; exact Iff.rfl
theorem smS_apart {l : List Sm} : Apart (smS l) ↔ Qeda l := by
  unfold smS; rw [Apart, List.pairwise_map]; exact Iff.rfl
structure MadeP (w : World) (B : Nat) (p : Sx × List Sm) : Prop where
  own : OwS w B (slx p.1) p.2
  got : ∀ s ∈ p.2, Qica B w s
  ord : Qtfa p.2
theorem MadeP.later {w x : World} {B : Nat} {p : Sx × List Sm} (h : MadeP w B p) (hb : Below w.heap.size w x) : MadeP x B p := ⟨Qdb h.own hb, fun s hs => (h.got s hs).later hb, h.ord⟩
theorem MadeP.grown {w x : World} {B C n sz : Nat} {p : Sx × List Sm} {e : TypeId} {v : Value} {xs : List Value} (h : MadeP w B p) (ho : w.ownsRow C e sz v n xs) (hg : w.grownBy x v.ownBlock) (h1 : e ≠ 109) (h2 : e ≠ 111) (h3 : e ≠ 47) : MadeP x B p := by
  refine ⟨Qij h.own (fun k cs hr => Qzba hg hr (fun e2 => ?_)), fun s hs => ⟨(h.got s hs).1, Qdda ho hg h1 h2 (h.got s hs).2⟩, h.ord⟩
  rcases ho.2 with ⟨rfl, _⟩ | ⟨g, cap, cur, rfl, _, h4, _⟩
  · cases e2
  · injection e2 with e2; subst e2; exact h3 (Qbb h4 hr)
abbrev OwV (w : World) (B : Nat) (v : Value) (l : List Sx) : Prop := w.ownsRow B 25 1 v l.length (flV l)
theorem owV_push {w' : World} {B : Nat} {v' : Value} {l : List Sx} {x : Sx} (h : w'.ownsRow B 25 1 v' (l.length + 1) (flV l ++ [slx x])) : OwV w' B v' (l ++ [x]) := by
  show w'.ownsRow _ _ _ _ (l ++ [x]).length (flV (l ++ [x])); rw [Qwda, List.length_append, List.length_singleton]; exact h
theorem owV_in {w : World} {B : Nat} {v : Value} {l : List Sx} (h : OwV w B v l) : VsIn w v l := Qxf (fun x => #[slx x]) Sx.nil 1 (fun _ => rfl) (by rw [Qffa]; exact h)
def AllAns (w : World) (rss : List (List Rec)) (e : Ending) (w' : World) : Prop :=
  (8 < rss.length /\ e = .returned (.tuple #[.slice none 0 0, .int .i64 1]) ∨
    rss.length <= 8 /\ (¬ ∀ l ∈ rss, Qmb 0 l) /\ e = .returned (.tuple #[.slice none 0 0, .int .i64 2]) ∨
    rss.length <= 8 /\ (∀ l ∈ rss, Qmb 0 l) /\ ∃ v' out, e = .returned (.tuple #[v', .int .i64 0]) /\ OwS w' w.heap.size v' out /\ smS out = Qqca rss /\ ∀ s ∈ out, Qica w.heap.size w' s) /\ Below w.heap.size w w'
theorem all_done {w0 w w' : World} {B : Nat} {P : Qhca} {rss : List (List Rec)} (hr : ∀ l ∈ rss, Qmb 0 l) (hm : ∀ p ∈ P, MadeP w B p) (ht : smS (Qkba P) = Qmea rss) {e : Ending} (h : SoAns w (Qkba P) e w') (hB : B <= w.heap.size) (hb : Below B w0 w) (h0 : B = w0.heap.size) :
    ∃ v' out, e = .returned v' /\ OwS w' w0.heap.size v' out /\ smS out = Qqca rss /\ (∀ s ∈ out, Qica w0.heap.size w' s) /\ Below w0.heap.size w0 w' := by
  obtain ⟨v', out, rfl, h1, h2, h3, h4⟩ := h; subst h0
  refine ⟨v', out, rfl, Quca h1 hB, Qifa hr (smS_ord.2 h3) ?_, fun s hs => ?_, hb.trans (h4.mono hB)⟩
  · rw [<- ht]; exact h2.map _
  · obtain ⟨p, hp, hs2⟩ := List.mem_flatMap.1 (h2.mem_iff.1 hs); exact ((hm p hp).got s hs2).later h4
theorem all17 (w : World) (v : Value) (us : List Lu) (hl : LgIn w v us) : Calls Try.prog 11 #[v] w (AllAns w (Qlba us)) := by
  obtain ⟨au, cu, rfl⟩ := hl.slice; have HL := Qc hl; obtain ⟨n, hn⟩ : ∃ n, n = us.length := ⟨_, rfl⟩; rw [<- hn] at HL |-; have HN := Qc hn; have HRL : Hid ((Qlba us).length = n) := by show _ = _; rw [Qlda, hn]
  obtain ⟨B, hB⟩ : ∃ B, B = w.heap.size := ⟨_, rfl⟩; have HB := Qc hB; have H0 : Hid (OwV w B (.slice none 0 0) (Qjba []) /\ (∀ p ∈ ([] : Qhca), MadeP w B p) /\ smS (Qkba []) = Qmea ((Qlba us).take 0) /\ (∀ l ∈ (Qlba us).take 0, Qmb 0 l) /\ Below w.heap.size w w) := ⟨World.ownsRow_nil _ _ _ _, fun p hp => (nomatch hp), rfl, fun l hl => (nomatch hl), Below.refl _ _⟩
  by_cases h8 : 8 < n
  · have i1 : (n : Int) > 8 := by omega
    clear hl hn hB H0 HB HL HN; go_enter Try.func11, Try.ntmps11; go_wp2; go_ret2; exact ⟨.inl ⟨by rw [HRL.out]; exact h8, rfl⟩, Below.refl _ _⟩
  · have i1 : ¬ (n : Int) > 8 := by omega
    clear hl hn hB; go_enter Try.func11, Try.ntmps11; go_wp2; go_loopw [4, 12] (fun va vi wr => ∃ (j : Nat) (P : Qhca), j <= n /\ vi = .int .i64 (j : Int) /\ Hid (P.length = j) /\ Hid (OwV wr B va (Qjba P) /\ (∀ p ∈ P, MadeP wr B p) /\ smS (Qkba P) = Qmea ((Qlba us).take j) /\ (∀ l ∈ (Qlba us).take j, Qmb 0 l) /\ Below w.heap.size w wr)) (fun _ vi _ => n - (intOf vi).toNat)
    case atStart => exact ⟨0, [], Nat.zero_le _, rfl, rfl, H0⟩
    case round =>
      obtain ⟨j, P, hj, rfl, HP, HI⟩ := hrel; clear H0; obtain ⟨ap, cp, hva, hcap, _⟩ := Qlf HI.out.1; rw [Qiba, HP.out] at hva hcap; subst hva; have j9 : j <= 8 := by omega
      by_cases hlt : j < n
      · have i2 : (j : Int) < (n : Int) := by omega
        have hju : j < us.length := by rw [<- HN.out]; exact hlt
        have hjr : j < (Qlba us).length := by rw [HRL.out]; exact hlt
        obtain ⟨b, off, rfl, hok, hcl⟩ := HL.out.at hju; have c0 := hcl wr HI.out.2.2.2.2; have HTS := Qc (Qoea hjr)
        have HTK : Hid ((Qlba us).take (j + 1) = (Qlba us).take j ++ [(Qlba us).getD j []]) := by
          show _ = _; rw [List.take_succ_eq_append_getElem hjr, List.getD_eq_getElem?_getD, List.getElem?_eq_getElem hjr]; rfl
        have HMJ := Qc (Qua (Qlba us) j [] hjr); rw [Qoda] at HTS HTK HMJ; obtain ⟨⟨u, ms⟩, huu⟩ : ∃ u, u = us.getD j luZ := ⟨_, rfl⟩; rw [<- huu] at hok c0 HTS HTK HMJ; have hok1 : LogIn w u ms := hok.1; have hok2 : ∀ m ∈ ms, m.1.small := hok.2; obtain ⟨a2, c2, rfl, _⟩ := hok1.slice; have c1 : wr.cell? ⟨b, off + j, none⟩ = some (.slice a2 ms.length c2) := c0; have HGO := Qc (fun x (h : Below w.heap.size w x) => good15 _ ms x (hok1.below h)); have HST := Qc (fun x (h : Below w.heap.size w x) => stamped17 x _ ms (j : Int) (hok1.below h) hok2); obtain ⟨lm, hlm⟩ : ∃ l, l = ms.length := ⟨_, rfl⟩; rw [<- hlm] at c1 HGO HST; have HQ := Qc (Qra (msR ms) 0); obtain ⟨q, hq⟩ : ∃ q, q = Qjg 0 (msR ms) := ⟨_, rfl⟩; rw [<- hq] at HGO HQ; clear hju hjr hcl huu hok c0 hok1 hok2 hlm hq; go_wp2_with fail; refine (HGO.out wr HI.out.2.2.2.2).mono ?_; rintro e w1 ⟨rfl, hb1⟩; have hbb1 := HI.out.2.2.2.2.trans (hb1.mono HI.out.2.2.2.2.size); have H1 : Hid (OwV w1 B (.slice ap j cp) (Qjba P) /\ (∀ p ∈ P, MadeP w1 B p) /\ Below w.heap.size w w1) := ⟨Qdb HI.out.1 hb1, fun p hp => (HI.out.2.1 p hp).later hb1, hbb1⟩; clear hb1 hbb1 c1 HGO
        cases q with
        | false =>
          have HNO : Hid (¬ ∀ l ∈ Qlba us, Qmb 0 l) := fun hall => absurd (HQ.out.2 (hall _ HMJ.out)) (by simp)
          go_wp2; go_ret2; exact ⟨.inr (.inl ⟨by rw [HRL.out]; omega, HNO.out, rfl⟩), H1.out.2.2⟩
        | true =>
          have HRI := Qc (HQ.out.1 (by simp)); clear HQ HMJ; go_wp2_with fail; refine (HST.out w1 H1.out.2.2).mono ?_; rintro e w2 ⟨v2, ss, rfl, hown, hss, hgot, hb2⟩; obtain ⟨a3, c3, rfl, hc3⟩ := hown.slice; have hB1 : B <= w1.heap.size := by rw [HB.out]; exact H1.out.2.2.size
          have H2 : Hid (OwV w2 B (.slice ap j cp) (Qjba P) /\ (∀ p ∈ P, MadeP w2 B p) /\ MadeP w2 B (⟨a3, ss.length, c3⟩, ss) /\ Below w.heap.size w w2) :=
            ⟨Qdb H1.out.1 hb2, fun p hp => (H1.out.2.1 p hp).later hb2, ⟨Quca hown hB1, fun s hs => ⟨(hgot s hs).1, got_low (hgot s hs).2 hB1⟩, by rw [<- smS_ord, hss]; exact Qada HRI.out⟩, H1.out.2.2.trans (hb2.mono H1.out.2.2.size)⟩
          have hO9 : (Qjba P).length <= 100000 := by rw [Qiba, HP.out]; omega
          have hB2 : B <= w2.heap.size := by rw [HB.out]; exact H2.out.2.2.2.size
          have HSS := Qc hss; have HJL : Hid ((Qjba P).length = j) := by show _ = _; rw [Qiba, HP.out]
          have HOV : Hid (w2.ownsRow B 25 1 (.slice ap j cp) j (flV (Qjba P))) := by
            have h := H2.out.1; unfold OwV at h; rw [HJL.out] at h; exact h
          obtain ⟨l3, hl3⟩ : ∃ l, l = ss.length := ⟨_, rfl⟩; rw [<- hl3] at H2 |-; have j10 : j <= 100000 := by omega
          clear hown hss hgot hb2 hB1 H1 HST hc3 hl3 hO9; go_wp2_with (refine Qrba _ 84 25 1 24 (.slice none 0 0) Try.underlying84 infoXV rfl (by decide) (by decide) rfl (.tmp 20) (.tmp 24) rfl B (.slice ap j cp) j (flV (Qjba P)) rfl (Qdb HOV.out ((Below.refl w2.heap.size w2).alloc (Nat.le_refl _) _)) w2.heap.size #[.slice a3 l3 c3] rfl (Qb.new w2 25 #[.slice a3 l3 c3]) rfl (by simp [Value.oneCell']) j10 (Nat.le_trans hB2 (by simp)) ?_; intro v' w7 ho7 hg7; refine Qz ?_)
          have H7 : Hid (OwV w7 B v' (Qjba (P ++ [(⟨a3, l3, c3⟩, ss)])) /\ (∀ p ∈ P ++ [(⟨a3, l3, c3⟩, ss)], MadeP w7 B p) /\ smS (Qkba (P ++ [(⟨a3, l3, c3⟩, ss)])) = Qmea ((Qlba us).take (j + 1)) /\ (∀ l ∈ (Qlba us).take (j + 1), Qmb 0 l) /\ Below w.heap.size w w7) := by
            have hal := (Below.refl w2.heap.size w2).alloc (Nat.le_refl w2.heap.size) (.cells #[.slice a3 l3 c3] 25); have hown := Qdb HOV.out hal
            refine ⟨?_, fun p hp => ?_, ?_, fun l hl => ?_, Qlm hown (by rw [HB.out]; exact Nat.le_refl _) (H2.out.2.2.2.trans (hal.mono H2.out.2.2.2.size)) (Nat.le_trans H2.out.2.2.2.size (by simp)) hg7⟩
            · have e : Qjba (P ++ [(⟨a3, l3, c3⟩, ss)]) = Qjba P ++ [⟨a3, l3, c3⟩] := by unfold Qjba; rw [List.map_append]; rfl
              rw [e]; refine owV_push ?_; rw [HJL.out]; exact ho7
            · rcases List.mem_append.1 hp with hp | hp
              · exact ((H2.out.2.1 p hp).later hal).grown hown hg7 (by decide) (by decide) (by decide)
              · rw [List.mem_singleton.1 hp]; exact (H2.out.2.2.1.later hal).grown hown hg7 (by decide) (by decide) (by decide)
            · rw [Qsba, Qzda, HI.out.2.2.1, HTS.out, Qqba]; show _ ++ smS (ss ++ []) = _; rw [List.append_nil, HSS.out]
            · rw [HTK.out] at hl
              rcases List.mem_append.1 hl with hl | hl
              · exact HI.out.2.2.2.1 l hl
              · rw [List.mem_singleton.1 hl]; exact HRI.out
          have HPL : Hid ((P ++ [((⟨a3, l3, c3⟩ : Sx), ss)]).length = j + 1) := by show _ = _; rw [List.length_append, HP.out]; rfl
          clear ho7 hg7 H2 HI HTS HTK HRI HSS HOV HJL hB2; refine Qf ?_; go_wp2; go_roundw
          case rel => exact ⟨j + 1, P ++ [(⟨a3, l3, c3⟩, ss)], by omega, by go_num, HPL, H7⟩
          case measure => simp [intOf] <;> omega
      · have i2 : ¬ (j : Int) < (n : Int) := by omega
        obtain rfl : j = n := by omega
        have htk : (Qlba us).take j = Qlba us := List.take_of_length_le (by rw [HRL.out]; exact Nat.le_refl _); have hI := HI.out; rw [htk] at hI; have HE := Qc hI
        have hfl : (Qkba P).length <= 90000 := by
          have h1 := congrArg List.length hI.2.2.1; rw [Qyba] at h1
          have h2 : ∀ (l : List Lu), (∀ u ∈ l, LuOk w u) -> ∀ k, (Qnba k (Qlba l)).length <= l.length * 1000 := by
            intro l
            induction l with
            | nil => intro _ k; exact Nat.zero_le _
            | cons u l ih =>
              intro hu k; have h3 := ih (fun x hx => hu x (List.mem_cons_of_mem _ hx)) (k + 1); have h4 := (hu u (by simp)).1.few; show (tag (k : Int) (msR u.2) ++ Qnba (k + 1) (Qlba l)).length <= _; rw [List.length_append, Qvea, Qeb, List.length_cons]; omega
          have h5 := h2 us HL.out.2 0; rw [h1]; show (Qnba 0 (Qlba us)).length <= _; rw [<- HN.out] at h5; omega
        have hBr : B <= wr.heap.size := by rw [HB.out]; exact hI.2.2.2.2.size
        have hmk : ∀ p ∈ P, Qfea wr (slx p.1) p.2 /\ p.1.n <= p.1.c := fun p hp => by
          have h1 := hI.2.1 p hp; obtain ⟨a', c', e, hc⟩ := h1.own.slice; have h2 : Qfea wr (slx p.1) p.2 := Qzea h1.own (fun s hs => (h1.got s hs).ok); refine ⟨h2, ?_⟩; have e2 : p.1.n = p.2.length := sm_len h2
          have e3 : p.1.c = c' := by
            unfold slx at e; injection e
          omega
        have hap : Qeda (Qkba P) := by
          rw [<- smS_apart, hI.2.2.1]; exact Qxca _ 0 hI.2.2.2.1
        have hso := sorted17 wr (.slice ap j cp) P (owV_in hI.1) hmk (fun p hp => (hI.2.1 p hp).ord) hap (by rw [HP.out]; omega) hfl; have HSO := Qc hso; have HDN := Qc (fun e w' (h : SoAns wr (Qkba P) e w') => all_done (w0 := w) (w := wr) (B := B) hI.2.2.2.1 hI.2.1 hI.2.2.1 h hBr (by rw [HB.out]; exact hI.2.2.2.2) HB.out); clear htk hI HI hfl hso hBr hcap hmk hap; go_wp2_with fail; refine HSO.out.mono ?_; intro e w9 hans; obtain ⟨v', out, rfl, h1, h2, h3, h4⟩ := HDN.out e w9 hans; have HF := Qc (And.intro h1 (And.intro h2 (And.intro h3 h4))); clear hans h1 h2 h3 h4 HSO HDN; go_wp2; go_ret2; exact ⟨.inr (.inr ⟨by rw [HRL.out]; omega, HE.out.2.2.2.1, v', out, rfl, HF.out.1, HF.out.2.1, HF.out.2.2.1⟩), HF.out.2.2.2⟩
theorem rright6_1 (r : Rec) (va vb : Value) (w : World) (q : Bool) (Hq : Hid (q = true ↔ r.right)) (hk : r.k = 1) (hf : r.c.fits) (hin : Qcd w r va vb) :
    Calls Try.prog 32 #[.agg (rcA r va vb)] w fun e w' => e = .returned (.bool q) /\ Below w.heap.size w w' := by
  have HIN := Qc hin; obtain ⟨⟨e1, cap1, rfl, -⟩, ⟨e2, cap2, rfl, -⟩⟩ := hin; have HFI := Qc hf; clear hf; have HK0 := Qc (Qx.one w 45 (rcA r (.slice e1 r.ts.length cap1) (.slice e2 r.ds.length cap2)))
  have HF : Hid (¬ r.right -> q = false) := fun h => by
    cases q
    · rfl
    · exact absurd (Hq.out.1 rfl) h
  have HT : Hid (r.right -> q = true) := fun h => Hq.out.2 h
  have HOW := Qc (fun w => Qcn r.k w true (Qc (decide_eq_true (by omega)))); rw [hk] at HOW; by_cases l1 : (r.l : Int) < 1
  case pos =>
    obtain rfl := HF.out (fun h => by have := h.l1; omega); clear HF HT Hq HFI HIN; obtain ⟨c0, c1, -⟩ := Qda HK0.out.1.1; rw [hk] at c0; have hb0 := HK0.out.2; clear HK0 HOW; go_enter Try.func32, Try.ntmps32; go_wp2; go_ret; exact ⟨rfl, hb0⟩
  by_cases l2 : (4611686018427387904 : Int) < (r.l : Int)
  case pos =>
    obtain rfl := HF.out (fun h => by have := h.lm; unfold Qve at this; omega); clear HF HT Hq HFI HIN; obtain ⟨c0, c1, -⟩ := Qda HK0.out.1.1; rw [hk] at c0; have hb0 := HK0.out.2; clear HK0 HOW; go_enter Try.func32, Try.ntmps32; go_wp2; go_ret; exact ⟨rfl, hb0⟩
  obtain ⟨c0, c1, -⟩ := Qda HK0.out.1.1; rw [hk] at c0; go_enter Try.func32, Try.ntmps32; go_wp2_with fail; refine Qwa (fun x => Hid (Qx w x [(w.heap.size, 45, rcA r (.slice e1 r.ts.length cap1) (.slice e2 r.ds.length cap2))])) HK0 ?_; clear HK0 c0 c1; intro w0 HK0; obtain ⟨c0, c1, c2, c3, c9, c10, c11, c12, c13⟩ := Qda HK0.out.1.1; rw [hk] at c0; have hb0 := HK0.out.2; refine (HOW.out _).mono ?_; rintro e w1 ⟨rfl, rfl⟩; by_cases t1 : r.t < 1
  case pos =>
    obtain rfl := HF.out (fun h => by have := h.own (by omega); omega); clear HF HT Hq HFI HIN; clear HK0 HOW c9 c10 c11 c12 c13; go_wp2; go_ret; exact ⟨rfl, hb0⟩
  by_cases t2 : 1048575 < r.t
  case pos =>
    obtain rfl := HF.out (fun h => by have := h.own (by omega); omega); clear HF HT Hq HFI HIN; clear HK0 HOW c9 c10 c11 c12 c13; go_wp2; go_ret; exact ⟨rfl, hb0⟩
  by_cases p1 : (r.l : Int) <= (r.p : Int)
  case pos =>
    obtain rfl := HF.out (fun h => by have := h.own (by omega); omega); clear HF HT Hq HFI HIN; clear HK0 HOW c9 c10 c11 c12 c13; go_wp2; go_ret; exact ⟨rfl, hb0⟩
  go_wp2_with fail; refine (HOW.out _).mono ?_; rintro e w1 ⟨rfl, rfl⟩; clear HOW; obtain ⟨d4, d5, d6, d7, d8⟩ := Qbg HK0.out.1.1; go_wp2_with fail; clear d4 d5 d6 d7 d8; by_cases cc : r.c.right
  case neg =>
    obtain rfl := HF.out (fun h => cc (h.ch (by omega))); clear HF HT Hq HFI HIN; refine (Qhi r.c _ false (Qc (decide_eq_false cc))).mono ?_; rintro e w2 ⟨rfl, hb2⟩; have d2 := hb0.trans (hb2.mono hb0.size); clear hb2 HK0 c0 c1 c2 c3 c9 c10 c11 c12 c13 cc; go_wp2; go_ret; exact ⟨rfl, d2⟩
  refine (Qhi r.c _ true (Qc (decide_eq_true cc))).mono ?_; rintro e w2 ⟨rfl, hb2⟩; have HK2 := Qc (HK0.out.later hb2); clear HK0 hb2 hb0 c0 c1 c2 c3 c9 c10 c11 c12 c13; obtain ⟨c0, c1, c2, c3, c9, c10, c11, c12, c13⟩ := Qda HK2.out.1.1; rw [hk] at c0; have hb0 := HK2.out.2; have HCC := Qc cc; clear cc HK2; by_cases n1 : ¬ (r.n : Int) = 0
  case pos =>
    obtain rfl := HF.out (fun h => by have := h.nonext (by omega); omega); have n1e : ((r.n : Int) == 0) = false := by rw [beq_eq_false_iff_ne]; exact n1
    have n1f : ((r.n : Int) != 0) = true := by rw [bne, n1e]; rfl
    clear HF HT Hq HFI HIN; clear HCC; go_wp2; go_ret; exact ⟨rfl, hb0⟩
  have n1e : (r.n : Int) = 0 := Decidable.of_not_not n1; by_cases s1 : ¬ r.s = 0
  case pos =>
    obtain rfl := HF.out (fun h => s1 (h.nosave (by omega))); have s1e : (r.s == 0) = false := by rw [beq_eq_false_iff_ne]; exact s1
    have s1f : (r.s != 0) = true := by rw [bne, s1e]; rfl
    clear HF HT Hq HFI HIN; clear HCC; go_wp2; go_ret; exact ⟨rfl, hb0⟩
  have s1e : r.s = 0 := Decidable.of_not_not s1; by_cases b1 : ¬ (r.b : Int) = 0
  case pos =>
    obtain rfl := HF.out (fun h => by have := h.nocheck (by omega); omega); have b1e : ((r.b : Int) == 0) = false := by rw [beq_eq_false_iff_ne]; exact b1
    have b1f : ((r.b : Int) != 0) = true := by rw [bne, b1e]; rfl
    clear HF HT Hq HFI HIN; clear HCC; go_wp2; go_ret; exact ⟨rfl, hb0⟩
  have b1e : (r.b : Int) = 0 := Decidable.of_not_not b1; by_cases z1 : ¬ (r.ts.length : Int) = 0
  case pos =>
    obtain rfl := HF.out (fun h => by have := (h.nocheck (by omega)).2.1; rw [this] at z1; exact z1 rfl); have z1e : ((r.ts.length : Int) == 0) = false := by rw [beq_eq_false_iff_ne]; exact z1
    have z1f : ((r.ts.length : Int) != 0) = true := by rw [bne, z1e]; rfl
    clear HF HT Hq HFI HIN; clear HCC; go_wp2; go_ret; exact ⟨rfl, hb0⟩
  have z1e : (r.ts.length : Int) = 0 := Decidable.of_not_not z1; by_cases z2 : ¬ (r.ds.length : Int) = 0
  case pos =>
    obtain rfl := HF.out (fun h => by have := (h.nocheck (by omega)).2.2; rw [this] at z2; exact z2 rfl); have z2e : ((r.ds.length : Int) == 0) = false := by rw [beq_eq_false_iff_ne]; exact z2
    have z2f : ((r.ds.length : Int) != 0) = true := by rw [bne, z2e]; rfl
    clear HF HT Hq HFI HIN; clear HCC; go_wp2; go_ret; exact ⟨rfl, hb0⟩
  have z2e : (r.ds.length : Int) = 0 := Decidable.of_not_not z2; obtain rfl := HT.out ⟨by omega, by omega, by omega, by unfold Qve; omega, fun _ => ⟨by omega, by omega, by omega⟩, fun h => absurd h (by omega), fun _ => HCC.out, fun h => absurd h (by omega), fun h => absurd h (by omega), fun _ => by omega, fun h => absurd h (by omega), fun _ => by omega, fun h => absurd h (by omega), fun _ => ⟨by omega, List.eq_nil_of_length_eq_zero (by omega), List.eq_nil_of_length_eq_zero (by omega)⟩⟩; clear HF HT Hq HFI HIN HCC; go_wp2; go_ret; exact ⟨rfl, hb0⟩
theorem rright6_2 (r : Rec) (va vb : Value) (w : World) (q : Bool) (Hq : Hid (q = true ↔ r.right)) (hk : r.k = 2) (hf : r.c.fits) (hin : Qcd w r va vb) :
    Calls Try.prog 32 #[.agg (rcA r va vb)] w fun e w' => e = .returned (.bool q) /\ Below w.heap.size w w' := by
  have HIN := Qc hin; obtain ⟨⟨e1, cap1, rfl, -⟩, ⟨e2, cap2, rfl, -⟩⟩ := hin; have HFI := Qc hf; clear hf; have HK0 := Qc (Qx.one w 45 (rcA r (.slice e1 r.ts.length cap1) (.slice e2 r.ds.length cap2)))
  have HF : Hid (¬ r.right -> q = false) := fun h => by
    cases q
    · rfl
    · exact absurd (Hq.out.1 rfl) h
  have HT : Hid (r.right -> q = true) := fun h => Hq.out.2 h
  have HOW := Qc (fun w => Qcn r.k w true (Qc (decide_eq_true (by omega)))); rw [hk] at HOW; by_cases l1 : (r.l : Int) < 1
  case pos =>
    obtain rfl := HF.out (fun h => by have := h.l1; omega); clear HF HT Hq HFI HIN; obtain ⟨c0, c1, -⟩ := Qda HK0.out.1.1; rw [hk] at c0; have hb0 := HK0.out.2; clear HK0 HOW; go_enter Try.func32, Try.ntmps32; go_wp2; go_ret; exact ⟨rfl, hb0⟩
  by_cases l2 : (4611686018427387904 : Int) < (r.l : Int)
  case pos =>
    obtain rfl := HF.out (fun h => by have := h.lm; unfold Qve at this; omega); clear HF HT Hq HFI HIN; obtain ⟨c0, c1, -⟩ := Qda HK0.out.1.1; rw [hk] at c0; have hb0 := HK0.out.2; clear HK0 HOW; go_enter Try.func32, Try.ntmps32; go_wp2; go_ret; exact ⟨rfl, hb0⟩
  obtain ⟨c0, c1, -⟩ := Qda HK0.out.1.1; rw [hk] at c0; go_enter Try.func32, Try.ntmps32; go_wp2_with fail; refine Qwa (fun x => Hid (Qx w x [(w.heap.size, 45, rcA r (.slice e1 r.ts.length cap1) (.slice e2 r.ds.length cap2))])) HK0 ?_; clear HK0 c0 c1; intro w0 HK0; obtain ⟨c0, c1, c2, c3, c9, c10, c11, c12, c13⟩ := Qda HK0.out.1.1; rw [hk] at c0; have hb0 := HK0.out.2; refine (HOW.out _).mono ?_; rintro e w1 ⟨rfl, rfl⟩; by_cases t1 : r.t < 1
  case pos =>
    obtain rfl := HF.out (fun h => by have := h.own (by omega); omega); clear HF HT Hq HFI HIN; clear HK0 HOW c9 c10 c11 c12 c13; go_wp2; go_ret; exact ⟨rfl, hb0⟩
  by_cases t2 : 1048575 < r.t
  case pos =>
    obtain rfl := HF.out (fun h => by have := h.own (by omega); omega); clear HF HT Hq HFI HIN; clear HK0 HOW c9 c10 c11 c12 c13; go_wp2; go_ret; exact ⟨rfl, hb0⟩
  by_cases p1 : (r.l : Int) <= (r.p : Int)
  case pos =>
    obtain rfl := HF.out (fun h => by have := h.own (by omega); omega); clear HF HT Hq HFI HIN; clear HK0 HOW c9 c10 c11 c12 c13; go_wp2; go_ret; exact ⟨rfl, hb0⟩
  go_wp2_with fail; refine (HOW.out _).mono ?_; rintro e w1 ⟨rfl, rfl⟩; clear HOW; obtain ⟨d4, d5, d6, d7, d8⟩ := Qbg HK0.out.1.1; go_wp2_with fail; clear d4 d5 d6 d7 d8; by_cases cc : r.c.right
  case neg =>
    obtain rfl := HF.out (fun h => cc (h.ch (by omega))); clear HF HT Hq HFI HIN; refine (Qhi r.c _ false (Qc (decide_eq_false cc))).mono ?_; rintro e w2 ⟨rfl, hb2⟩; have d2 := hb0.trans (hb2.mono hb0.size); clear hb2 HK0 c0 c1 c2 c3 c9 c10 c11 c12 c13 cc; go_wp2; go_ret; exact ⟨rfl, d2⟩
  refine (Qhi r.c _ true (Qc (decide_eq_true cc))).mono ?_; rintro e w2 ⟨rfl, hb2⟩; have HK2 := Qc (HK0.out.later hb2); clear HK0 hb2 hb0 c0 c1 c2 c3 c9 c10 c11 c12 c13; obtain ⟨c0, c1, c2, c3, c9, c10, c11, c12, c13⟩ := Qda HK2.out.1.1; rw [hk] at c0; have hb0 := HK2.out.2; have HCC := Qc cc; clear cc HK2; by_cases n1 : (r.l : Int) <= (r.n : Int)
  case pos =>
    obtain rfl := HF.out (fun h => by have := h.next (by omega); omega); clear HF HT Hq HFI HIN; clear HCC; go_wp2; go_ret; exact ⟨rfl, hb0⟩
  by_cases s1 : ¬ r.s = 0
  case pos =>
    obtain rfl := HF.out (fun h => s1 (h.nosave (by omega))); have s1e : (r.s == 0) = false := by rw [beq_eq_false_iff_ne]; exact s1
    have s1f : (r.s != 0) = true := by rw [bne, s1e]; rfl
    clear HF HT Hq HFI HIN; clear HCC; go_wp2; go_ret; exact ⟨rfl, hb0⟩
  have s1e : r.s = 0 := Decidable.of_not_not s1; by_cases b1 : ¬ (r.b : Int) = 0
  case pos =>
    obtain rfl := HF.out (fun h => by have := h.nocheck (by omega); omega); have b1e : ((r.b : Int) == 0) = false := by rw [beq_eq_false_iff_ne]; exact b1
    have b1f : ((r.b : Int) != 0) = true := by rw [bne, b1e]; rfl
    clear HF HT Hq HFI HIN; clear HCC; go_wp2; go_ret; exact ⟨rfl, hb0⟩
  have b1e : (r.b : Int) = 0 := Decidable.of_not_not b1; by_cases z1 : ¬ (r.ts.length : Int) = 0
  case pos =>
    obtain rfl := HF.out (fun h => by have := (h.nocheck (by omega)).2.1; rw [this] at z1; exact z1 rfl); have z1e : ((r.ts.length : Int) == 0) = false := by rw [beq_eq_false_iff_ne]; exact z1
    have z1f : ((r.ts.length : Int) != 0) = true := by rw [bne, z1e]; rfl
    clear HF HT Hq HFI HIN; clear HCC; go_wp2; go_ret; exact ⟨rfl, hb0⟩
  have z1e : (r.ts.length : Int) = 0 := Decidable.of_not_not z1; by_cases z2 : ¬ (r.ds.length : Int) = 0
  case pos =>
    obtain rfl := HF.out (fun h => by have := (h.nocheck (by omega)).2.2; rw [this] at z2; exact z2 rfl); have z2e : ((r.ds.length : Int) == 0) = false := by rw [beq_eq_false_iff_ne]; exact z2
    have z2f : ((r.ds.length : Int) != 0) = true := by rw [bne, z2e]; rfl
    clear HF HT Hq HFI HIN; clear HCC; go_wp2; go_ret; exact ⟨rfl, hb0⟩
  have z2e : (r.ds.length : Int) = 0 := Decidable.of_not_not z2; obtain rfl := HT.out ⟨by omega, by omega, by omega, by unfold Qve; omega, fun _ => ⟨by omega, by omega, by omega⟩, fun h => absurd h (by omega), fun _ => HCC.out, fun h => absurd h (by omega), fun _ => by omega, fun h => absurd hk h, fun h => absurd h (by omega), fun _ => by omega, fun h => absurd h (by omega), fun _ => ⟨by omega, List.eq_nil_of_length_eq_zero (by omega), List.eq_nil_of_length_eq_zero (by omega)⟩⟩; clear HF HT Hq HFI HIN HCC; go_wp2; go_ret; exact ⟨rfl, hb0⟩
end Go.Proofs.Ytdjhcbiejpjkmaa
