/-
  Texts that lean on one another, one behind the other: each opens with its own remark.
-/
import Derived.Test.YthlllmkmpneedaaK00
import Derived.Test.YthlllmkmpneedaaK10
import Derived.Test.YthlllmkmpneedaaK08
import Derived.Test.YthlllmkmpneedaaK09
import Derived.Test.YthlllmkmpneedaaK03
import Derived.Test.YthlllmkmpneedaaK02
import Derived.Test.YthlllmkmpneedaaK07
import Derived.Test.YthlllmkmpneedaaK06

namespace Go.Proofs.Ythlllmkmpneedaa
open Go.RowKit
set_option linter.unusedVariables false
set_option maxRecDepth 8000
set_option maxHeartbeats 25600000
set_option linter.unusedVariables false
set_option linter.unusedVariables false
set_option linter.unusedVariables false
set_option linter.unusedVariables false
set_option linter.unusedVariables false
def tabT (rs : List Rec) : Ta := if Qjg 0 rs = true then ofA rs else ([], [])
def tabE (rs : List Rec) : Int := if Qjg 0 rs = true then 0 else 2
theorem nilT (w : World) : Qqd w (.slice none 0 0) [] := ⟨none, 0, rfl, fun h => absurd h (by show ¬ 0 < 0; omega)⟩
theorem nilD (w : World) : Qcf w (.slice none 0 0) [] := ⟨none, 0, rfl, fun h => absurd h (by show ¬ 0 < 0; omega)⟩
def TabAns (w : World) (t : Ta) (E : Int) (e : Ending) (w' : World) : Prop := ∃ vT vD, e = .returned (.tuple #[.agg (taA vT vD), .int .i64 E]) /\ Qqd w' vT t.1 /\ Qcf w' vD t.2 /\ Below w.heap.size w w'
theorem OfAns.tab {w w' : World} {rs : List Rec} {e : Ending} (h : OfAns w rs e w') : TabAns w (tabT rs) (tabE rs) e w' := by
  rcases h with ⟨h1, s1, s2, h2, h3⟩ | ⟨h1, h2, h3⟩
  · have e1 : tabT rs = ofA rs := if_pos ((Qra _ _).2 h1); have e2 : tabE rs = 0 := if_pos ((Qra _ _).2 h1); rw [e1, e2]; exact ⟨_, _, h2, h3.t.rows, h3.d.rows, h3.bel⟩
  · have e1 : tabT rs = ([], []) := if_neg (fun h => h1 ((Qra _ _).1 h)); have e2 : tabE rs = 2 := if_neg (fun h => h1 ((Qra _ _).1 h)); rw [e1, e2]; exact ⟨_, _, h2, nilT _, nilD _, h3⟩
def awC16 : Ch := ⟨1, 2, 0, ⟨#[]⟩, ⟨#[97]⟩⟩
def Qot : Rec := ⟨1, 3, 1, 0, awC16, 0, 0, 0, [], []⟩
theorem Qow : awC16.right := ⟨by decide, .inl ⟨rfl, rfl⟩⟩
theorem Qbw : Qot.right := by
  refine ⟨by decide, by decide, by decide, by decide, fun _ => by decide, fun h => absurd h (by decide), fun _ => Qow, fun h => absurd h (by decide), fun h => absurd h (by decide), fun _ => rfl, fun h => absurd h (by decide), fun _ => rfl, fun h => absurd h (by decide), fun _ => ⟨rfl, rfl, rfl⟩⟩
theorem Qez : Qmb 0 [Qot] := ⟨Qbw, by decide, trivial⟩
theorem awL16_of : ofA [Qot] = ([⟨1, 1, 3, 3, 3⟩], [⟨2, 3⟩]) := by
  have h : ckL [Qot] [Qot].length = none := by
    show ckL [Qot] 1 = none; rw [ckL, if_neg (by decide)]; rfl
  unfold ofA ofT; rw [h]; rfl
def Qdv : Array Value := #[.int .i64 1, .int .u64 3, .int .i64 1, .int .u64 0, .int .i64 1, .int .i64 2, .int .i64 0, .string ⟨#[]⟩, .string ⟨#[97]⟩, .int .u64 0, .int .i64 0, .int .u64 0, .slice none 0 0, .slice none 0 0]
theorem awL16_log (x : World) (g : Nat) (h : Qb x g 46 Qdv) : LogIn x (.slice (some ⟨g, 0, none⟩) 1 1) (Qfd [Qot]) := by
  have b1 : Qot.bare := ⟨rfl, rfl, ⟨⟨by decide, by decide, by decide, by show (0 : Nat) <= maxLen; omega, by show (1 : Nat) <= maxLen; unfold maxLen; omega⟩, Nat.zero_le _, Nat.zero_le _, fun x hx => (nomatch hx), fun x hx => (nomatch hx)⟩⟩
  refine ⟨⟨⟨some ⟨g, 0, none⟩, 1, rfl, fun _ => ⟨g, 0, rfl, h.lt, fun i hi => ?_⟩⟩, fun m hm => ?_⟩, by decide, fun a l c e => ?_⟩
  · have hi2 : i < 1 := hi; obtain rfl : i = 0 := by omega
    intro j u hu; have hj : j < 14 := (List.getElem?_eq_some_iff.1 hu).1; refine (h.cell (0 + 0 * 14 + j) u ?_); rw [<- hu]; rcases (show j = 0 ∨ j = 1 ∨ j = 2 ∨ j = 3 ∨ j = 4 ∨ j = 5 ∨ j = 6 ∨ j = 7 ∨ j = 8 ∨ j = 9 ∨ j = 10 ∨ j = 11 ∨ j = 12 ∨ j = 13 by omega) with rfl | rfl | rfl | rfl | rfl | rfl | rfl | rfl | rfl | rfl | rfl | rfl | rfl | rfl <;> rfl
  · simp only [Qfd, List.map_cons, List.map_nil, List.mem_cons, List.not_mem_nil, or_false] at hm; rcases hm with rfl; exact ⟨b1.2.2, Qwy b1 x⟩
  · injection e with e1 e2 e3; omega
theorem awake16 (w : World) : Calls Try.prog 9 #[] w fun e w' => e = .returned (.bool true) /\ Below w.heap.size w w' := by
  have hb0 : Below w.heap.size w (w.alloc (.cells (chA Ch.zero) 44)) := (Below.refl _ _).alloc (Nat.le_refl _) _; have HZ := Qc (And.intro (Qb.new w 44 (chA Ch.zero)) hb0); have HOF := Qc (fun x g (h : Qb x g 46 Qdv) => of16 x _ _ (awL16_log x g h)); rw [Qii] at HOF; clear hb0; go_enter Try.func9, Try.ntmps9; go_wp2_with (refine Qe rfl 44 (.tmp 1) (.tmp 4) rfl w.heap.size (chA Ch.zero) (chA awC16) rfl rfl HZ.out.1 Qja rfl (Qyb _) ?_; intro w2 hr2 hk2 hrow2; refine Qz ?_); have hb2 := hk2 _ _ HZ.out.2 (Nat.le_refl _); have H2 := Qc (And.intro hr2 hb2); clear hr2 hk2 hrow2 hb2 HZ; refine Qf ?_; go_wp2_with (refine Qd rfl 44 (.tmp 1) rfl w.heap.size rfl #[.int .i64 1, .int .i64 2, .int .i64 0, .string ⟨#[]⟩, .string ⟨#[97]⟩] H2.out.1 _ Try.underlying44 rfl Qja ?_); have hb3 : Below w2.heap.size w2 (w2.alloc (.cells Qdv 46)) := (Below.refl _ _).alloc (Nat.le_refl _) _; obtain ⟨g, hg⟩ : ∃ g, g = w2.heap.size := ⟨_, rfl⟩
  have H3 : Hid (Qb (w2.alloc (.cells Qdv 46)) g 46 Qdv /\ Below w.heap.size w (w2.alloc (.cells Qdv 46))) := by
    rw [hg]; exact ⟨Qb.new w2 _ _, H2.out.2.trans (hb3.mono H2.out.2.size)⟩
  rw [<- hg]; clear hb3 hg H2; refine Qwa (fun x => Qb x g 46 Qdv /\ Below w.heap.size w x) H3.out ?_; intro y HY; have HYY := Qc HY; clear HY H3; refine (HOF.out y g HYY.out.1).mono ?_; rintro e w4 hcase
  obtain ⟨s1, s2, rfl, hta⟩ : ∃ s1 s2, e = .returned (.tuple #[.agg (taA (slV s1 1) (slV s2 1)), .int .i64 0]) /\ TaAt y w4 s1 s2 [⟨1, 1, 3, 3, 3⟩] [⟨2, 3⟩] := by
    rcases hcase with ⟨_, s1, s2, h1, h2⟩ | ⟨h1, _⟩
    · rw [awL16_of] at h1 h2; exact ⟨s1, s2, h1, h2⟩
    · exact absurd Qez h1
  obtain ⟨x1, hx1, _, hx3⟩ := hta.t.at (i := 0) rfl; obtain ⟨x2, hx2, _, hx4⟩ := hta.d.at (i := 0) rfl; have e1 : slV s1 1 = .slice (some ⟨x1, 0, none⟩) 1 s1.c := by unfold slV adr; rw [hx1]; rfl
  have e2 : slV s2 1 = .slice (some ⟨x2, 0, none⟩) 1 s2.c := by unfold slV adr; rw [hx2]; rfl
  rw [e1, e2]; have k4 : w4.cell? ⟨x1, 4, none⟩ = some (.int .u64 3) := hx3 4 _ (by omega) rfl; have k0 : w4.cell? ⟨x2, 0, none⟩ = some (.int .i64 2) := hx4 0 _ (by omega) rfl; have H4 : Hid (Below w.heap.size w w4) := HYY.out.2.trans (hta.bel.mono HYY.out.2.size); have HX : Hid (x1 < w4.heap.size /\ x2 < w4.heap.size) := ⟨hta.t.lt hx1, hta.d.lt hx2⟩; clear hcase hta hx1 hx2 hx3 hx4 e1 e2 HYY HOF; unfold taA; go_wp2_with (refine Qm rfl 28 (.tmp 2) (.tmp 10) rfl w4.heap.size 0 28 #[.slice none 0 0, .slice none 0 0] #[.slice (some ⟨x1, 0, none⟩) 1 s1.c, .slice (some ⟨x2, 0, none⟩) 1 s2.c] rfl rfl (Qb.new w4 _ _) Qae (Nat.le_refl 2) (by simp [Value.oneCell']) ?_; intro w5 hr5 ho5; refine Qz ?_); rw [Qu #[.slice none 0 0, .slice none 0 0] #[.slice (some ⟨x1, 0, none⟩) 1 s1.c, .slice (some ⟨x2, 0, none⟩) 1 s2.c] rfl] at hr5; have hal : Below w4.heap.size w4 (w4.alloc (.cells #[.slice none 0 0, .slice none 0 0] 28)) := (Below.refl _ _).alloc (Nat.le_refl _) _; have hb5 := ho5.below hal (Nat.le_refl _); have m4 : w5.cell? ⟨x1, 4, none⟩ = some (.int .u64 3) := (hb5.cell (p := ⟨x1, 4, none⟩) HX.out.1).trans k4; have m0 : w5.cell? ⟨x2, 0, none⟩ = some (.int .i64 2) := (hb5.cell (p := ⟨x2, 0, none⟩) HX.out.2).trans k0; have q0 := hr5.cell 0 (.slice (some ⟨x1, 0, none⟩) 1 s1.c) rfl; have q1 := hr5.cell 1 (.slice (some ⟨x2, 0, none⟩) 1 s2.c) rfl; have H5 : Hid (Below w.heap.size w w5) := H4.out.trans (hb5.mono H4.out.size); obtain ⟨g5, hg5⟩ : ∃ g, g = w4.heap.size := ⟨_, rfl⟩; rw [<- hg5] at q0 q1 |-; clear hr5 ho5 hal hb5 k4 k0 hg5 H4 HX; refine Qf ?_; go_wp2; go_ret; exact ⟨rfl, H5.out⟩
def canT (x : Tx) : Prop := (1 : Int) <= x.t /\ x.t <= 1048575 /\ 1 <= x.s /\ x.s <= 3 /\ (1 : Int) <= (x.f : Int) /\ (x.f : Int) <= (x.l : Int) /\ (x.l : Int) <= 4611686018427387904 /\ (x.n : Int) <= (x.l : Int)
def canD (x : Di) : Prop := (0 : Int) <= x.p /\ x.p < 32 /\ (1 : Int) <= (x.r : Int) /\ (x.r : Int) <= 4611686018427387904
instance (x : Tx) : Decidable (canT x) := inferInstanceAs (Decidable ((1 : Int) <= x.t /\ x.t <= 1048575 /\ 1 <= x.s /\ x.s <= 3 /\ (1 : Int) <= (x.f : Int) /\ (x.f : Int) <= (x.l : Int) /\ (x.l : Int) <= 4611686018427387904 /\ (x.n : Int) <= (x.l : Int)))
instance (x : Di) : Decidable (canD x) := inferInstanceAs (Decidable ((0 : Int) <= x.p /\ x.p < 32 /\ (1 : Int) <= (x.r : Int) /\ (x.r : Int) <= 4611686018427387904))
set_option linter.unusedVariables false
set_option linter.unusedVariables false
set_option linter.unusedVariables false
theorem Qxt {rs : List Rec} (h : ∀ r ∈ rs, r.k <= 6) : ∀ n, n <= rs.length -> ckL rs n = none
  | 0, _ => rfl
  | n + 1, hn => by
    have h1 := h _ (Qua rs n Rec.zero (by omega)); rw [ckL, if_neg (by omega)]; exact Qxt h n (by omega)
theorem ofA_plain {rs : List Rec} (h : ∀ r ∈ rs, r.k <= 6) : ofA rs = Qna ([], []) rs := by
  rw [ofN_of]; unfold ofN; rw [Qxt h _ (Nat.le_refl _)]; rfl
section
def Qxk (o : Option Tx) (r : Rec) (t : Int) : Option Tx :=
  if r.t = t then (if r.k = 5 then none else some (Qhh (o.getD (Qqb r)) r)) else o
def Qjn (l : List Rec) (t : Int) : Option Tx := l.foldl (fun o r => Qxk o r t) none
theorem Qei (l : List Rec) (r : Rec) (t : Int) : Qjn (l ++ [r]) t = Qxk (Qjn l t) r t := by
  unfold Qjn; rw [List.foldl_append]; rfl
def Qva (l : List Rec) (t : Int) : Nat := l.foldl (fun n r => if r.t = t /\ n = 0 then r.l else n) 0
theorem Qah (l : List Rec) (r : Rec) (t : Int) : Qva (l ++ [r]) t = if r.t = t /\ Qva l t = 0 then r.l else Qva l t := by
  unfold Qva; rw [List.foldl_append]; rfl
def Qze (l : List Rec) (t : Int) : Bool := l.any (fun r => decide (r.t = t) && (decide (r.k = 3) || decide (r.k = 5)))
theorem Qnz (l : List Rec) (r : Rec) (t : Int) : Qze (l ++ [r]) t = (Qze l t || (decide (r.t = t) && (decide (r.k = 3) || decide (r.k = 5)))) := by
  unfold Qze; rw [List.any_append]; simp
theorem Qks (l : List Rec) (t : Int) : Qze l t = true ↔ ∃ r ∈ l, r.t = t /\ (r.k = 3 ∨ r.k = 5) := by
  unfold Qze; rw [List.any_eq_true]; refine ⟨fun ⟨r, h1, h2⟩ => ⟨r, h1, by simpa using h2⟩, fun ⟨r, h1, h2⟩ => ⟨r, h1, by simpa using h2⟩⟩
theorem Qzm {l : List Rec} (h : ∀ r ∈ l, r.l ≠ 0) (t : Int) : Qva l t = 0 ↔ ∀ r ∈ l, r.t ≠ t := by
  induction l using Qab with
  | h0 => exact ⟨fun _ r hr => (nomatch hr), fun _ => rfl⟩
  | h1 l s ih =>
    have ih := ih fun r hr => h r (List.mem_append_left _ hr)
    have hs := h s (by simp); rw [Qah]
    by_cases e : s.t = t /\ Qva l t = 0
    · rw [if_pos e]; exact ⟨fun h1 => absurd h1 hs, fun h1 => absurd e.1 (h1 s (by simp))⟩
    · rw [if_neg e, ih]; refine ⟨fun h1 r hr => ?_, fun h1 r hr => h1 r (List.mem_append_left _ hr)⟩
      rcases List.mem_append.1 hr with hr | hr
      · exact h1 r hr
      · rw [List.mem_singleton.1 hr]; exact fun h2 => e ⟨h2, ih.2 h1⟩
def inT (l : List Tx) (t : Int) : Option Tx := l.find? (fun x => decide (x.t = t))
theorem inT_nil (t : Int) : inT [] t = none := rfl
theorem Qzg {x : Tx} {l : List Tx} {t : Int} (h : x.t = t) : inT (x :: l) t = some x := by
  unfold inT; rw [List.find?_cons, show decide (x.t = t) = true from decide_eq_true h]
theorem Qsi {x : Tx} {l : List Tx} {t : Int} (h : x.t ≠ t) : inT (x :: l) t = inT l t := by
  unfold inT; rw [List.find?_cons, show decide (x.t = t) = false from decide_eq_false h]
theorem Qyw {l : List Tx} {t : Int} (h : ∀ x ∈ l, x.t ≠ t) : inT l t = none := by
  unfold inT; rw [List.find?_eq_none]; intro x hx; simpa using h x hx
theorem inT_is {l : List Tx} {t : Int} {x : Tx} (h : inT l t = some x) : x ∈ l /\ x.t = t := by
  unfold inT at h; have := List.find?_some h; exact ⟨List.mem_of_find?_eq_some h, by simpa using this⟩
theorem inT_mem : ∀ (l : List Tx), Qmi l -> ∀ x ∈ l, inT l x.t = some x
  | [], _, _, h => nomatch h
  | y :: l, hs, x, hx => by
    rcases List.mem_cons.1 hx with rfl | hx
    · exact Qzg rfl
    · have := Qkd hs x hx; rw [Qsi (by omega)]; exact inT_mem l (Qvc hs) x hx
theorem Qfx (r : Rec) (t : Int) : ∀ l : List Tx, Qmi l -> inT (Qzb l r) t = if r.t = t then some (Qhh ((inT l t).getD (Qqb r)) r) else inT l t
  | [], _ => by
    rw [Qzb]
    by_cases h : r.t = t
    · rw [if_pos h, Qzg (by rw [Qmp]; exact h), inT_nil]; rfl
    · rw [if_neg h, Qsi (by rw [Qmp]; exact h)]
  | x :: l, hs => by
    have hh := Qkd hs; have ih := Qfx r t l (Qvc hs); rw [Qzb]
    by_cases h1 : x.t < r.t
    · rw [if_pos h1]
      by_cases h2 : x.t = t
      · rw [Qzg h2, Qzg h2, if_neg (by omega)]
      · rw [Qsi h2, Qsi h2, ih]
    · rw [if_neg h1]
      by_cases h2 : x.t = r.t
      · rw [if_pos h2]
        by_cases h3 : r.t = t
        · rw [if_pos h3, Qzg (by rw [Qmp]; omega), Qzg (by omega)]; rfl
        · rw [if_neg h3, Qsi (by rw [Qmp]; omega), Qsi (by omega)]
      · rw [if_neg h2]
        by_cases h3 : r.t = t
        · have h4 : inT (x :: l) t = none := Qyw fun y hy => by
            rcases List.mem_cons.1 hy with rfl | hy
            · omega
            · have := hh y hy; omega
          rw [if_pos h3, Qzg (by rw [Qmp]; exact h3), h4]; rfl
        · rw [if_neg h3, Qsi (by rw [Qmp]; exact h3)]
theorem Qzn (n t : Int) : ∀ l : List Tx, Qmi l -> inT (Qoa l n) t = if n = t then none else inT l t
  | [], _ => by
    rw [Qoa, inT_nil]; split <;> rfl
  | x :: l, hs => by
    have hh := Qkd hs; have ih := Qzn n t l (Qvc hs); rw [Qoa]
    by_cases h1 : x.t = n
    · rw [if_pos h1]
      by_cases h2 : n = t
      · rw [if_pos h2]; exact Qyw fun y hy => by have := hh y hy; omega
      · rw [if_neg h2, Qsi (by omega)]
    · rw [if_neg h1]
      by_cases h2 : x.t = t
      · rw [Qzg h2, Qzg h2, if_neg (by omega)]
      · rw [Qsi h2, Qsi h2, ih]
theorem take_srt {t : Ta} (h : Qmi t.1) (r : Rec) : Qmi (Ql t r).1 := by
  unfold Ql
  by_cases e : r.k = 7 ∨ r.k = 8
  · rw [if_pos e]; exact h
  · rw [if_neg e]; show Qmi (if r.k = 5 then _ else _)
    split
    · exact Qoh _ _ h
    · exact Qum _ _ h
theorem Qao (l : List Rec) : Qmi (Qna ([], []) l).1 := by
  induction l using Qab with
  | h0 => exact fun p q _ hq => (nomatch hq)
  | h1 l r ih =>
    rw [Qpd]; exact take_srt ih r
theorem inT_takes (l : List Rec) (h : ∀ r ∈ l, r.k <= 6) (t : Int) : inT (Qna ([], []) l).1 t = Qjn l t := by
  induction l using Qab with
  | h0 => rfl
  | h1 l r ih =>
    have ih := ih fun q hq => h q (List.mem_append_left _ hq)
    have hr := h r (by simp); rw [Qpd, Qei, <- ih]; unfold Ql Qxk; rw [if_neg (by omega)]; show inT (if r.k = 5 then _ else _) t = _
    by_cases h5 : r.k = 5
    · rw [if_pos h5, Qzn _ _ _ (Qao l)]
      by_cases e : r.t = t
      · rw [if_pos e, if_pos e, if_pos h5]
      · rw [if_neg e, if_neg e]
    · rw [if_neg h5, Qfx _ _ _ (Qao l)]
      by_cases e : r.t = t
      · rw [if_pos e, if_pos e, if_neg h5]
      · rw [if_neg e, if_neg e]
structure RowsOk (h : Hs) : Prop where
  row : ∀ i, i < 9 -> (h.tx i).nr ≠ 0 -> (h.tx i).last ≠ 0 -> Qjn (h.lg (i / 3)) (h.tx i).nr = some ⟨(h.tx i).nr, (h.tx i).st, Qva (h.lg (i / 3)) (h.tx i).nr, (h.tx i).last, (h.tx i).next⟩
  new : ∀ i, i < 9 -> (h.tx i).nr ≠ 0 -> (h.tx i).last = 0 -> (h.tx i).st = 1 /\ Qjn (h.lg (i / 3)) (h.tx i).nr = none
  none : ∀ n, n < 3 -> ∀ t, 1 <= t -> (∀ i, i < 9 -> i / 3 = n -> (h.tx i).nr ≠ t) -> Qjn (h.lg n) t = none
structure Adds (h h' : Hs) (i : Nat) (e : Rec) (t' : Tu) : Prop where
  i9 : i < 9
  nr : (h.tx i).nr ≠ 0
  lg : h'.lg = upd h.lg (i / 3) (h.lg (i / 3) ++ [e])
  tx : h'.tx = upd h.tx i t'
  et : e.t = (h.tx i).nr
  el : e.l ≠ 0
  up : e.k = 5 /\ t' = Tu.zero ∨ e.k ≠ 5 /\ t' = ⟨(h.tx i).nr, if e.k = 4 then 2 else if e.k = 3 then 3 else (h.tx i).st, e.l, if e.k = 1 then e.l else if e.k = 2 then e.n else (h.tx i).next⟩
section
variable {h h' : Hs} {i N : Nat} {e : Rec} {t' : Tu}
theorem RowsOk.same (R : RowsOk h) (lg : h'.lg = h.lg) (tx : h'.tx = h.tx) : RowsOk h' :=
  ⟨by rw [lg, tx]; exact R.row, by rw [lg, tx]; exact R.new, by rw [lg, tx]; exact R.none⟩
theorem Qsq (l : List Rec) (a : Nat) (h : Qmb a l) : ∀ r ∈ l, r.l ≠ 0 := fun r hr => by
  have := (Qle l a h r hr).1; omega
theorem Hs.ok.first_zero (ok : h.ok N) (hi : i < 9) (h0 : (h.tx i).nr ≠ 0) : Qva (h.lg (i / 3)) (h.tx i).nr = 0 ↔ (h.tx i).last = 0 := by
  have o := ok.txn i hi; have hr := ok.rise (i / 3) (by omega); have h1 := (o.nr h0).1; rw [Qzm (Qsq _ 0 hr), o.last h0]
  constructor
  · intro h2; exact Qzo _ _ fun r hr q => h2 r hr q.2
  · intro h2 r hr' ht
    have h3 : ∀ l : List Rec, (∀ r ∈ l, r.l ≠ 0) -> ∀ r ∈ l, r.t = (h.tx i).nr -> Qeg l (h.tx i).nr ≠ 0 := by
      intro l
      induction l using Qab with
      | h0 => intro _ r hr; exact nomatch hr
      | h1 l s ih =>
        intro hl r hr ht; rw [Qoc]
        by_cases q : 1 <= (h.tx i).nr /\ s.t = (h.tx i).nr
        · rw [if_pos q]; exact hl s (by simp)
        · rw [if_neg q]
          rcases List.mem_append.1 hr with hr | hr
          · exact ih (fun x hx => hl x (List.mem_append_left _ hx)) r hr ht
          · rw [List.mem_singleton.1 hr] at ht; exact absurd ⟨h1, ht⟩ q
    exact h3 _ (Qsq _ 0 hr) r hr' ht h2
theorem RowsOk.adds (R : RowsOk h) (ok : h.ok N) (s : Adds h h' i e t') : RowsOk h' := by
  have hi := s.i9; have lg_i : h'.lg (i / 3) = h.lg (i / 3) ++ [e] := by rw [s.lg, Qj]
  have lg_o : ∀ n, n ≠ i / 3 -> h'.lg n = h.lg n := fun n hn => by rw [s.lg, Qq _ _ _ _ hn]
  have tx_i : h'.tx i = t' := by rw [s.tx, Qj]
  have tx_o : ∀ j, j ≠ i -> h'.tx j = h.tx j := fun j hj => by rw [s.tx, Qq _ _ _ _ hj]
  have st := s.et
  have oth : ∀ j, j < 9 -> j ≠ i -> (h.tx j).nr ≠ 0 -> Qjn (h'.lg (j / 3)) (h.tx j).nr = Qjn (h.lg (j / 3)) (h.tx j).nr /\ Qva (h'.lg (j / 3)) (h.tx j).nr = Qva (h.lg (j / 3)) (h.tx j).nr := fun j hj hne h0 => by
    by_cases hn : j / 3 = i / 3
    · have hap := ok.apart j i hj hi hn hne h0; rw [hn, lg_i, Qei, Qah]; unfold Qxk; rw [if_neg (by omega), if_neg (by omega)]; exact ⟨rfl, rfl⟩
    · rw [lg_o _ hn]; exact ⟨rfl, rfl⟩
  refine ⟨fun j hj h0 hl => ?_, fun j hj h0 hl => ?_, fun n hn t ht hall => ?_⟩
  · by_cases hne : j = i
    · subst hne; rw [tx_i] at h0 hl |-
      rcases s.up with ⟨_, u⟩ | ⟨k5, u⟩
      · rw [u] at h0; exact absurd rfl h0
      · have nr' : t'.nr = (h.tx j).nr := by rw [u]
        have n0 := s.nr; rw [nr', lg_i, Qei, Qah, u]; unfold Qxk; rw [if_pos st, if_neg k5]
        by_cases l0 : (h.tx j).last = 0
        · obtain ⟨s1, r0⟩ := R.new j hj n0 l0; have f0 := (ok.first_zero hj n0).2 l0
          have x0 : (h.tx j).next = 0 := by
            rw [(ok.txn j hj).next n0, l0]; exact Qgg (ok.rise (j / 3) (by omega))
          have hf : (if e.t = (h.tx j).nr /\ Qva (h.lg (j / 3)) (h.tx j).nr = 0 then e.l else Qva (h.lg (j / 3)) (h.tx j).nr) = e.l := if_pos ⟨st, f0⟩; rw [hf, r0, s1, x0, <- st]; rfl
        · have f0 : Qva (h.lg (j / 3)) (h.tx j).nr ≠ 0 := fun q => l0 ((ok.first_zero hj n0).1 q)
          have hf : (if e.t = (h.tx j).nr /\ Qva (h.lg (j / 3)) (h.tx j).nr = 0 then e.l else Qva (h.lg (j / 3)) (h.tx j).nr) = Qva (h.lg (j / 3)) (h.tx j).nr := if_neg (fun q => f0 q.2); rw [hf, R.row j hj n0 l0]; rfl
    · rw [tx_o j hne] at h0 hl |-; rw [(oth j hj hne h0).1, (oth j hj hne h0).2]; exact R.row j hj h0 hl
  · by_cases hne : j = i
    · subst hne; rw [tx_i] at h0 hl
      rcases s.up with ⟨_, u⟩ | ⟨k5, u⟩
      · rw [u] at h0; exact absurd rfl h0
      · rw [u] at hl; exact absurd hl s.el
    · rw [tx_o j hne] at h0 hl |-; rw [(oth j hj hne h0).1]; exact R.new j hj h0 hl
  · by_cases hni : n = i / 3
    · subst hni; rw [lg_i, Qei]; unfold Qxk
      by_cases htn : t = (h.tx i).nr
      · rcases s.up with ⟨k5, u⟩ | ⟨k5, u⟩
        · rw [if_pos (by rw [st, htn]), if_pos k5]
        · have := hall i hi rfl; rw [tx_i, u] at this; exact absurd htn.symm this
      · rw [if_neg (by omega)]; refine R.none _ hn t ht fun j hj hjn => ?_
        by_cases hne : j = i
        · rw [hne]; omega
        · have := hall j hj hjn; rwa [tx_o j hne] at this
    · rw [lg_o n hni]; refine R.none n hn t ht fun j hj hjn => ?_
      have := hall j hj hjn; rwa [tx_o j (fun q => hni (by rw [<- hjn, q]))] at this
theorem RowsOk.begins (R : RowsOk h) (ok : h.ok N) (hi : i < 9) : RowsOk (h.begun (i / 3) i) := by
  unfold Hs.begun
  by_cases e0 : (h.tx i).nr = 0
  · rw [if_pos e0]; have hz := (ok.txn i hi).zero e0
    have tx_i : ((h.setCt (i / 3) (h.ct (i / 3) + 1)).setTx i ⟨h.ct (i / 3) + 1, 1, (h.tx i).last, (h.tx i).next⟩).tx i = ⟨h.ct (i / 3) + 1, 1, 0, 0⟩ := by
      show upd h.tx i _ i = _; rw [Qj, hz]; rfl
    have tx_o : ∀ j, j ≠ i -> ((h.setCt (i / 3) (h.ct (i / 3) + 1)).setTx i ⟨h.ct (i / 3) + 1, 1, (h.tx i).last, (h.tx i).next⟩).tx j = h.tx j := fun j hj => Qq _ _ _ _ hj
    have small : ∀ j, j < 9 -> j / 3 = i / 3 -> (h.tx j).nr ≠ h.ct (i / 3) + 1 := fun j hj q => by
      have hc := (ok.ct (i / 3) (by omega)).1
      by_cases j0 : (h.tx j).nr = 0
      · omega
      · have := ((ok.txn j hj).nr j0).2.1; rw [q] at this; omega
    refine ⟨fun j hj h0 hl => ?_, fun j hj h0 hl => ?_, fun n hn t ht hall => ?_⟩
    · by_cases hne : j = i
      · subst hne; rw [tx_i] at hl; exact absurd rfl hl
      · rw [tx_o j hne] at h0 hl |-; exact R.row j hj h0 hl
    · by_cases hne : j = i
      · subst hne; rw [tx_i]; refine ⟨rfl, ?_⟩; have hc := (ok.ct (j / 3) (by omega)).1; exact R.none (j / 3) (by omega) _ (by show 1 <= h.ct (j / 3) + 1; omega) fun a ha q => small a ha q
      · rw [tx_o j hne] at h0 hl |-; exact R.new j hj h0 hl
    · refine R.none n hn t ht fun j hj hjn => ?_
      by_cases hne : j = i
      · rw [hne, e0]; omega
      · have := hall j hj hjn; rwa [tx_o j hne] at this
  · rw [if_neg e0]; exact R
theorem Qau {r : Rec} (hi : i < 9) (h0 : (h.tx i).nr ≠ 0) (hk : r.k = 1 ∨ r.k = 2) {m : Nat} (hm : m = if r.k = 1 then h.lsn (i / 3) (h.pg r.page).l else r.n) :
    Adds h ((h.turn (i / 3) i r).nextIs i m) i (h.entry (i / 3) i r (h.pg r.page).l) ⟨(h.tx i).nr, (h.tx i).st, h.lsn (i / 3) (h.pg r.page).l, m⟩ := by
  have k1 : (h.entry (i / 3) i r (h.pg r.page).l).k = r.k := rfl
  refine ⟨hi, h0, rfl, ?_, rfl, by show h.lsn _ _ ≠ 0; unfold Hs.lsn; omega, .inr ⟨by rw [k1]; omega, ?_⟩⟩
  · show upd (upd h.tx i ((h.tx i).setLast (h.lsn (i / 3) (h.pg r.page).l))) i ((upd h.tx i ((h.tx i).setLast (h.lsn (i / 3) (h.pg r.page).l)) i).setNext m) = _; rw [Qqf, Qj]; rfl
  · rw [k1, if_neg (by omega), if_neg (by omega), hm]
    by_cases q : r.k = 1
    · rw [if_pos q, if_pos q]; rfl
    · rw [if_neg q, if_neg q, if_pos (by omega)]; rfl
theorem Qmj {k ss : Int} (hi : i < 9) (h0 : (h.tx i).nr ≠ 0) (lg : h'.lg = upd h.lg (i / 3) (h.lg (i / 3) ++ [h.entry (i / 3) i (Qaa k Ch.zero ss) 0])) (tx : h'.tx = upd h.tx i t')
    (up : k = 5 /\ t' = Tu.zero ∨ k ≠ 5 /\ k ≠ 1 /\ k ≠ 2 /\ t' = ⟨(h.tx i).nr, if k = 4 then 2 else if k = 3 then 3 else (h.tx i).st, h.lsn (i / 3) 0, (h.tx i).next⟩) : Adds h h' i (h.entry (i / 3) i (Qaa k Ch.zero ss) 0) t' := by
  refine ⟨hi, h0, lg, tx, rfl, by show h.lsn _ _ ≠ 0; unfold Hs.lsn; omega, ?_⟩
  rcases up with u | ⟨u5, u1, u2, u⟩
  · exact .inl u
  · refine .inr ⟨u5, ?_⟩; rw [u]; have k1 : (h.entry (i / 3) i (Qaa k Ch.zero ss) 0).k = k := rfl; rw [k1, if_neg u1, if_neg u2]; rfl
theorem Adds.from {g : Hs} (s : Adds h h' i e t') (lg : h.lg = g.lg) (tx : h.tx = g.tx) : Adds g h' i e t' :=
  ⟨s.i9, by rw [<- tx]; exact s.nr, by rw [<- lg]; exact s.lg, by rw [<- tx]; exact s.tx, by rw [<- tx]; exact s.et, s.el, by rw [<- tx]; exact s.up⟩
theorem RowsOk.changed (R : RowsOk h) (ok : h.ok N) (hi : i < 9) (o : Ac) : RowsOk (h.change (i / 3) i o) := by
  obtain ⟨ok1, h0⟩ := ok.begins hi; have R1 := R.begins ok hi; unfold Hs.change; obtain ⟨g, hg⟩ : ∃ g, g = h.begun (i / 3) i := ⟨_, rfl⟩; rw [<- hg] at ok1 h0 R1 |-; obtain ⟨p, hp⟩ : ∃ p, p = pick15 o.pg 4 := ⟨_, rfl⟩; obtain ⟨s, hs⟩ : ∃ s, s = pick15 o.sl 8 := ⟨_, rfl⟩; rw [<- hp, <- hs]; unfold Hs.change1
  split
  · exact R1
  split
  · exact R1
  obtain ⟨f, hf⟩ : ∃ f, f = g.lockedUp (i / 3) i p s := ⟨_, rfl⟩
  have lg : f.lg = g.lg := by
    rw [hf]; unfold Hs.lockedUp Hs.locked; split <;> rfl
  have tx : f.tx = g.tx := by
    rw [hf]; unfold Hs.lockedUp Hs.locked; split <;> rfl
  unfold Hs.made Hs.turned; rw [<- hf]
  have e1 : ((f.turn (i / 3) i (Qaa 1 (g.ofC p s o) 0)).tx i).last = f.lsn (i / 3) (f.pg (Qaa 1 (g.ofC p s o) 0).page).l := by
    show (upd f.tx i ((f.tx i).setLast (f.lsn (i / 3) (f.pg (Qaa 1 (g.ofC p s o) 0).page).l)) i).last = _; rw [Qj]; rfl
  have A := Qau (h := f) (i := i) (r := Qaa 1 (g.ofC p s o) 0) (m := ((f.turn (i / 3) i (Qaa 1 (g.ofC p s o) 0)).tx i).last) hi (by rw [tx]; exact h0) (.inl rfl) (by rw [e1]; rfl); exact R1.adds ok1 (A.from lg tx)
theorem RowsOk.does2 (R : RowsOk h) (ok : h.ok N) (hi : i < 9) (kd : Nat) (o : Ac) (hl : (h.tx i).last ≠ 0) : RowsOk (h.does2 (i / 3) i kd o) := by
  have h0 : (h.tx i).nr ≠ 0 := fun q => hl (by rw [(ok.txn i hi).zero q]; rfl)
  unfold Hs.does2
  by_cases e6 : kd = 6 /\ (h.tx i).st = 1
  · rw [if_pos e6]; refine R.adds ok (Qmj (t' := ⟨(h.tx i).nr, 3, h.lsn (i / 3) 0, (h.tx i).next⟩) (k := 3) (ss := 0) hi h0 rfl ?_ (.inr ⟨by decide, by decide, by decide, rfl⟩)); show upd (upd h.tx i ((h.tx i).setLast (h.lsn (i / 3) 0))) i ((upd h.tx i ((h.tx i).setLast (h.lsn (i / 3) 0)) i).setSt 3) = _; rw [Qqf, Qj]; rfl
  rw [if_neg e6]
  by_cases e7 : kd = 7 /\ ((h.tx i).st = 3 ∨ (h.tx i).st = 2 /\ (h.tx i).next = 0)
  · rw [if_pos e7]; refine R.adds ok (Qmj (t' := Tu.zero) (k := 5) (ss := 0) hi h0 rfl ?_ (.inl ⟨rfl, rfl⟩)); show upd (upd h.tx i ((h.tx i).setLast (h.lsn (i / 3) 0))) i Tu.zero = _; rw [Qqf]
  rw [if_neg e7]
  by_cases e8 : kd = 8 /\ (h.tx i).st = 1
  · rw [if_pos e8]; refine R.adds ok (Qmj (t' := ⟨(h.tx i).nr, 2, h.lsn (i / 3) 0, (h.tx i).next⟩) (k := 4) (ss := 0) hi h0 rfl ?_ (.inr ⟨by decide, by decide, by decide, rfl⟩)); show upd (upd h.tx i ((h.tx i).setLast (h.lsn (i / 3) 0))) i ((upd h.tx i ((h.tx i).setLast (h.lsn (i / 3) 0)) i).setSt 2) = _; rw [Qqf, Qj]; rfl
  rw [if_neg e8]
  by_cases e9 : kd = 9 ∨ kd = 10
  · rw [if_pos e9]; unfold Hs.back
    split
    · exact R
    · exact R.adds ok (Qau hi h0 (.inr rfl) rfl)
  rw [if_neg e9]
  by_cases e11 : kd = 11 /\ (h.tx i).st = 1
  · rw [if_pos e11]; exact R.adds ok (Qmj (t' := ⟨(h.tx i).nr, (h.tx i).st, h.lsn (i / 3) 0, (h.tx i).next⟩) (k := 6) (ss := 1 + (pick15 o.sl 8 : Nat)) hi h0 rfl rfl (.inr ⟨by decide, by decide, by decide, rfl⟩))
  rw [if_neg e11]; exact R
theorem RowsOk.does (R : RowsOk h) (ok : h.ok N) (o : Ac) : RowsOk (h.does o) := by
  have hn := Qdc o.n 3 (by decide); have hk := Qdc o.t 3 (by decide); unfold Hs.does; obtain ⟨i, hi⟩ : ∃ i, i = pick15 o.n 3 * 3 + pick15 o.t 3 := ⟨_, rfl⟩; have hi9 : i < 9 := by omega
  have h3 : pick15 o.n 3 = i / 3 := by omega
  rw [<- hi, h3]
  split
  · exact R.changed ok hi9 o
  split
  · exact R.same rfl rfl
  split
  · exact R
  rename_i e0; exact R.does2 ok hi9 _ o e0
theorem Hs.zero_rows : RowsOk Hs.zero :=
  ⟨fun i _ q => absurd rfl q, fun i _ q => absurd rfl q, fun _ _ _ _ _ => rfl⟩
theorem Hs.play_rows : ∀ l : List Ac, l.length <= 20000 -> RowsOk (Hs.play l) := by
  intro l
  induction l using Qab with
  | h0 => exact fun _ => Hs.zero_rows
  | h1 l o ih =>
    intro hl; rw [List.length_append, List.length_singleton] at hl; rw [Hs.play_snoc]; exact (ih (by omega)).does (Hs.play_ok l (by omega)) o
end
end
end Go.Proofs.Ythlllmkmpneedaa
