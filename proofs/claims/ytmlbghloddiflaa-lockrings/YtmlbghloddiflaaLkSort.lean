/-
  A row of numbers of one's own, sorted and made of single ones.
-/
import Derived.Test.YtmlbghloddiflaaLkRows
import Derived.Shelf.Sort.Plain
import Derived.Ground.Names2Prog
import Derived.Shelf.Slices.CompactI
import Derived.Shelf.Slices.Cells
import Derived.Shelf.Slices.In.SortNone
import Derived.Test.YtmlbghloddiflaaProg
namespace Go.Proofs.Ytmlbghloddiflaa
open Go.Shelf Go.RowKit
def lays189_ren : Go.Shelf.Ren := ⟨fun | 189 => 43 | 125 => 71 | 257 => 70 | 128 => 91 | 129 => 92 | 294 => 82 | 295 => 83 | 296 => 84 | 297 => 85 | 298 => 86 | 299 => 87 | 216 => 88 | 300 => 89 | 301 => 90 | 328 => 97 | 329 => 98 | 330 => 99 | 331 => 100 | 332 => 101 | 215 => 96 | 343 => 103 | n => n, fun | 28 => 50 | 3 => 3 | 46 => 95 | 0 => 0 | 51 => 111 | 53 => 113 | 4 => 4 | 183 => 105 | 182 => 104 | 131 => 89 | 5 => 5 | 9 => 9 | 218 => 118 | 222 => 122 | 228 => 124 | 229 => 125 | n => n, fun | n => n⟩
theorem lays189 : Go.Proofs.Lays.n189 Try.prog lays189_ren := {
  mixed := by kernel_rfl
  f125 := Try.func71.trans (congrArg some (by kernel_rfl))
  f128 := Try.func91.trans (congrArg some (by kernel_rfl))
  f129 := Try.func92.trans (congrArg some (by kernel_rfl))
  f189 := Try.func43.trans (congrArg some (by kernel_rfl))
  f215 := Try.func96.trans (congrArg some (by kernel_rfl))
  f216 := Try.func88.trans (congrArg some (by kernel_rfl))
  f257 := Try.func70.trans (congrArg some (by kernel_rfl))
  f294 := Try.func82.trans (congrArg some (by kernel_rfl))
  f295 := Try.func83.trans (congrArg some (by kernel_rfl))
  f296 := Try.func84.trans (congrArg some (by kernel_rfl))
  f297 := Try.func85.trans (congrArg some (by kernel_rfl))
  f298 := Try.func86.trans (congrArg some (by kernel_rfl))
  f299 := Try.func87.trans (congrArg some (by kernel_rfl))
  f300 := Try.func89.trans (congrArg some (by kernel_rfl))
  f301 := Try.func90.trans (congrArg some (by kernel_rfl))
  f328 := Try.func97.trans (congrArg some (by kernel_rfl))
  f329 := Try.func98.trans (congrArg some (by kernel_rfl))
  f330 := Try.func99.trans (congrArg some (by kernel_rfl))
  f331 := Try.func100.trans (congrArg some (by kernel_rfl))
  f332 := Try.func101.trans (congrArg some (by kernel_rfl))
  f343 := Try.func103.trans (congrArg some (by kernel_rfl))
  t0 := Try.underlying0
  a0 := Try.isAgg0
  z0 := Try.sizeOf0
  v0 := Try.zeroValue0
  t3 := Try.underlying3
  a3 := Try.isAgg3
  z3 := Try.sizeOf3
  v3 := Try.zeroValue3
  t4 := Try.underlying4
  a4 := Try.isAgg4
  z4 := Try.sizeOf4
  v4 := Try.zeroValue4
  t5 := Try.underlying5
  a5 := Try.isAgg5
  z5 := Try.sizeOf5
  v5 := Try.zeroValue5
  t9 := Try.underlying9
  a9 := Try.isAgg9
  z9 := Try.sizeOf9
  v9 := Try.zeroValue9
  t28 := Try.underlying50
  a28 := Try.isAgg50
  z28 := Try.sizeOf50
  v28 := Try.zeroValue50
  t46 := Try.underlying95
  a46 := Try.isAgg95
  z46 := Try.sizeOf95
  v46 := Try.zeroValue95
  t51 := Try.underlying111
  a51 := Try.isAgg111
  z51 := Try.sizeOf111
  v51 := Try.zeroValue111
  t53 := Try.underlying113
  a53 := Try.isAgg113
  z53 := Try.sizeOf113
  v53 := Try.zeroValue113
  t131 := Try.underlying89
  a131 := Try.isAgg89
  z131 := Try.sizeOf89
  v131 := Try.zeroValue89
  t182 := Try.underlying104
  a182 := Try.isAgg104
  z182 := Try.sizeOf104
  v182 := Try.zeroValue104
  t183 := Try.underlying105
  a183 := Try.isAgg105
  z183 := Try.sizeOf105
  v183 := Try.zeroValue105
  t218 := Try.underlying118
  a218 := Try.isAgg118
  z218 := Try.sizeOf118
  v218 := Try.zeroValue118
  t222 := Try.underlying122
  a222 := Try.isAgg122
  z222 := Try.sizeOf122
  v222 := Try.zeroValue122
  t228 := Try.underlying124
  a228 := Try.isAgg124
  z228 := Try.sizeOf124
  v228 := Try.zeroValue124
  t229 := Try.underlying125
  a229 := Try.isAgg125
  z229 := Try.sizeOf125
  v229 := Try.zeroValue125 }
open Go.Sort Go.RowKit in
theorem sort_int13 (blk off cap : Nat) (zs : List Int) (w : World) (hH : Holds (Value.int .i64) w blk off zs.toArray) (hblk : blk < w.heap.size) (hsz : zs.length < 4611686018427387904) :
    Calls Try.prog 43 #[.slice (some ⟨blk, off, none⟩) zs.length cap] w fun e w' =>
      e = .returned (.tuple #[]) ∧ ∃ n os, w' = grow (putRow (Value.int .i64) (Sort.ahead w n) blk off (zs.mergeSort fun x y => decide (x ≤ y)).toArray) os := Any.slices_Sort_int lays189 blk off cap zs w hH hblk hsz
def laysNm220_ren : Go.Shelf.Ren := ⟨fun | 20 => 44 | n => n, fun | 22 => 50 | 3 => 3 | 4 => 4 | 0 => 0 | n => n, fun | n => n⟩
theorem laysNm220 : Go.Proofs.Lays2.n20 Try.prog laysNm220_ren := {
  mixed := by kernel_rfl
  f20 := Try.func44.trans (congrArg some (by kernel_rfl))
  t0 := Try.underlying0
  a0 := Try.isAgg0
  z0 := Try.sizeOf0
  v0 := Try.zeroValue0
  t3 := Try.underlying3
  a3 := Try.isAgg3
  z3 := Try.sizeOf3
  v3 := Try.zeroValue3
  t4 := Try.underlying4
  a4 := Try.isAgg4
  z4 := Try.sizeOf4
  v4 := Try.zeroValue4
  t22 := Try.underlying50
  a22 := Try.isAgg50
  z22 := Try.sizeOf50
  v22 := Try.zeroValue50
  i3 := by kernel_rfl }

open Go.RowKit Go.Lib Go.Sort in
theorem compact_int_none13 (a : Option Addr) (cap : Nat) (w : World) :
    Calls Try.prog 44 #[.slice a 0 cap] w fun e w' => e = .returned (.slice a 0 cap) ∧ w' = w := Any.slices_Compact_int_empty laysNm220 a cap w
open Go.RowKit Go.Lib Go.Sort in
theorem compact_int13 (b off n c : Nat) (zs : List Int) (w : World) (hz : n ≤ zs.length) (hbig : n ≤ 9223372036854775807) (hcap : n ≤ c) (hc : ∀ j, j < zs.length → w.cell? ⟨b, off + j, none⟩ = some (.int .i64 (zs.getD j 0))) (hf : ∀ j, j < n → w.frozen? ⟨b, off + j, none⟩ = false) :
    Calls Try.prog 44 #[.slice (some ⟨b, off, none⟩) n c] w fun e w' => e = .returned (.slice (some ⟨b, off, none⟩) (Lib.compact (zs.take n)).length c) ∧ ∃ q, w' = (w.drewN q).setCells b off ((Lib.compact (zs.take n) ++ List.replicate (n - (Lib.compact (zs.take n)).length) 0).map (Value.int .i64)) := Any.slices_Compact_int_cells laysNm220 b off n c zs w hz hbig hcap hc hf
open Go.RowKit Go.Sort in
theorem sort_int_none13 (p : Option Addr) (cap : Nat) (w : World) :
    Calls Try.prog 43 #[.slice p 0 cap] w fun e w' => e = .returned (.tuple #[]) ∧ w' = w := Any.slices_Sort_int_none lays189 p cap w
end Go.Proofs.Ytmlbghloddiflaa
namespace Go.Proofs.Ytmlbghloddiflaa
open Go.RowKit
set_option linter.unusedVariables false

/-- A row laid anew. -/
theorem OwnI.laid {B b c : Nat} {w : World} {l : List Int} (h : OwnI B w (.slice (some ⟨b, 0, none⟩) l.length c) l) (q : Nat) (vs : List Int) (hv : vs.length = l.length) (n : Nat) (hn : n ≤ l.length) :
    OwnI B ((w.drewN q).setCells b 0 (vs.map (Value.int .i64))) (.slice (some ⟨b, 0, none⟩) n c) (vs.take n) ∧ Tn (Is b) w ((w.drewN q).setCells b 0 (vs.map (Value.int .i64))) := by
  have hT : Tn (Is b) w ((w.drewN q).setCells b 0 (vs.map (Value.int .i64))) := (show Tn (Is b) w (w.drewN q) from ⟨rfl, rfl, rfl, Nat.le_refl _, fun _ _ _ => rfl⟩).then (setCells_tn _ _ _ b (Is b) (show Is b b from rfl))
  refine ⟨?_, hT⟩
  rcases h.2 with ⟨e, _⟩ | ⟨g', cap, cur, e, hb, hr, hcap, hm, hs, ht⟩
  · cases e
  · injection e with e1 e2 e3
    injection e1 with e1
    injection e1 with e1
    subst e1 e3
    have hr' : RowAt (w.drewN q) b 3 cur := hr
    obtain ⟨ds, d1, d2⟩ := setCells_row (vs.map (Value.int .i64)) 0 (w.drewN q) b _ cur hr'
    have hlen : (vs.take n).length = n := by rw [List.length_take]; omega
    refine ⟨by rw [intsV_len, hlen, Nat.mul_one], .inr ⟨b, c, ds, by rw [hlen], hb, d1, by omega, hm, by rw [d2]; exact hs, ?_⟩⟩
    rw [hlen, Nat.mul_one]
    apply List.ext_getElem?
    intro j
    by_cases hj : j < n
    · have hin := World.cell?_setCells_in b (vs.map (Value.int .i64)) 0 (w.drewN q) (fun k hk => some_of_row hr' (by rw [List.length_map] at hk; omega)) j (by rw [List.length_map]; omega)
      rw [Nat.zero_add, cell_of_row _ b j _ _ (0, 0) d1] at hin
      rw [List.getElem?_take, if_pos hj, Array.getElem?_toList, hin]
      simp [intsV, hj, List.getElem?_eq_getElem (show j < vs.length by omega)]
    · rw [List.getElem?_eq_none (by rw [List.length_take]; omega), List.getElem?_eq_none (by rw [intsV_len, hlen]; omega)]
theorem below_grow (w : World) (os : Array Obj) : Below w.heap.size w (Go.Sort.grow w os) := ⟨rfl, rfl, rfl, by simp [Go.Sort.grow], fun i hi => Go.Sort.heap_grow_old w os hi⟩
theorem OwnI.cap {B b n c : Nat} {w : World} {l : List Int} (h : OwnI B w (.slice (some ⟨b, 0, none⟩) n c) l) : n = l.length ∧ l.length ≤ c ∧ c ≤ maxLen ∧ b < w.heap.size := by
  rcases h.2 with ⟨e, _⟩ | ⟨g', cap, cur, e, hb, hr, hcap, hm, hs, ht⟩
  · cases e
  · injection e with e1 e2 e3
    injection e1 with e1
    injection e1 with e1
    subst e1 e3
    exact ⟨e2, hcap, hm, (show RowAt w b 3 cur from hr).lt⟩
theorem OwnI.free {B b n c : Nat} {w : World} {l : List Int} (h : OwnI B w (.slice (some ⟨b, 0, none⟩) n c) l) (j : Nat) : w.frozen? ⟨b, j, none⟩ = false := by
  obtain ⟨_, cs, h1⟩ := h.block (k := b) rfl
  exact h1.free j
theorem sorted13 {B : Nat} {w : World} {v : Value} {l : List Int} (h : OwnI B w v l) (hl : l.length ≤ 1000000) :
    Calls Try.prog 43 #[v] w fun e w' => e = .returned (.tuple #[]) ∧ OwnI B w' v (l.mergeSort fun x y => decide (x ≤ y)) ∧ Tn (fun k => v.ownBlock = some k) w w' := by
  obtain ⟨a, c, rfl⟩ := h.shape
  cases a with
  | none =>
    have h0 : l = [] := by
      cases l with
      | nil => rfl
      | cons x l =>
        obtain ⟨b, e, _⟩ := h.at (j := 0) (by simp)
        cases e
    subst h0
    refine (sort_int_none13 none c w).mono ?_
    rintro e w' ⟨rfl, rfl⟩
    exact ⟨rfl, by simpa using h, Tn.refl _ _⟩
  | some a =>
    have h' := h
    obtain ⟨b, rfl⟩ : ∃ b, a = ⟨b, 0, none⟩ := by
      rcases h.2 with ⟨e, _⟩ | ⟨g', cap, cur, e, _⟩
      · cases e
      · injection e with e1
        injection e1 with e1
        exact ⟨g', e1⟩
    have hc := h.cap
    have hH : Go.Sort.Holds (Value.int .i64) w b 0 l.toArray := by
      have := Go.Lib.holds_of_ints (w := w) (b := b) (off := 0) (n := l.length) (zs := l) (Nat.le_refl _) (fun j hj => by
        obtain ⟨b', e, hb'⟩ := h.at hj
        injection e with e
        injection e with e
        subst e
        rw [Nat.zero_add]
        exact hb') (fun j _ => h.free _)
      rwa [List.take_length] at this
    refine (sort_int13 b 0 c l w hH hc.2.2.2 (by omega)).mono ?_
    rintro e w' ⟨rfl, n, os, rfl⟩
    have hml : (l.mergeSort fun x y => decide (x ≤ y)).length = l.length := List.length_mergeSort _
    rw [Go.Lib.putRow_eq_setCells _ w b 0 l.toArray _ n hH (by rw [hml]; rfl)]
    have hq := h.laid n (l.mergeSort fun x y => decide (x ≤ y)) hml l.length (Nat.le_refl _)
    rw [← hml, List.take_length, hml] at hq
    exact ⟨rfl, hq.1.later (below_grow _ os), (hq.2.weak (fun k hk => by rw [hk]; rfl)).later (below_grow _ os)⟩
theorem compacted13 {B : Nat} {w : World} {v : Value} {l : List Int} (h : OwnI B w v l) (hl : l.length ≤ 1000000) :
    Calls Try.prog 44 #[v] w fun e w' => ∃ v', e = .returned v' ∧ OwnI B w' v' (Go.Lib.compact l) ∧ Tn (fun k => v.ownBlock = some k) w w' := by
  obtain ⟨a, c, rfl⟩ := h.shape
  cases a with
  | none =>
    have h0 : l = [] := by
      cases l with
      | nil => rfl
      | cons x l =>
        obtain ⟨b, e, _⟩ := h.at (j := 0) (by simp)
        cases e
    subst h0
    refine (compact_int_none13 none c w).mono ?_
    rintro e w' ⟨rfl, rfl⟩
    exact ⟨_, rfl, h, Tn.refl _ _⟩
  | some a =>
    obtain ⟨b, rfl⟩ : ∃ b, a = ⟨b, 0, none⟩ := by
      rcases h.2 with ⟨e, _⟩ | ⟨g', cap, cur, e, _⟩
      · cases e
      · injection e with e1
        injection e1 with e1
        exact ⟨g', e1⟩
    have hc := h.cap
    have hcl := Go.Lib.compact_length_le l
    refine (compact_int13 b 0 l.length c l w (Nat.le_refl _) (by omega) hc.2.1 (fun j hj => by
        obtain ⟨b', e, hb'⟩ := h.at hj
        injection e with e
        injection e with e
        subst e
        rw [Nat.zero_add]
        exact hb') (fun j _ => h.free _)).mono ?_
    rintro e w' ⟨rfl, q, rfl⟩
    rw [List.take_length]
    have hq := h.laid q (Go.Lib.compact l ++ List.replicate (l.length - (Go.Lib.compact l).length) 0) (by rw [List.length_append, List.length_replicate]; omega) (Go.Lib.compact l).length hcl
    rw [List.take_left' rfl] at hq
    exact ⟨_, rfl, hq.1, hq.2.weak (fun k hk => by rw [hk]; rfl)⟩
/-- What is sorted and made of single ones rises. -/
theorem compact_upto {d : Array Int} (hs : ∀ i j, i ≤ j → j < d.size → d[i]! ≤ d[j]!) : ∀ m, m ≤ d.size → (Go.Lib.compactUpTo d m).Pairwise (· < ·) ∧ ∀ a, a ∈ Go.Lib.compactUpTo d m ↔ ∃ j, j < m ∧ d[j]! = a := by
  intro m
  induction m with
  | zero => exact fun _ => ⟨List.Pairwise.nil, fun a => ⟨fun h => absurd h (by simp [Go.Lib.compactUpTo]), fun ⟨j, h, _⟩ => absurd h (Nat.not_lt_zero _)⟩⟩
  | succ m ih =>
    intro hm
    obtain ⟨h1, h2⟩ := ih (by omega)
    rw [Go.Lib.compactUpTo_succ]
    by_cases hk : Go.Lib.keeps d m = true
    · rw [if_pos hk]
      refine ⟨List.pairwise_append.2 ⟨h1, List.pairwise_singleton _ _, fun a ha b hb => ?_⟩, fun a => ?_⟩
      · obtain ⟨j, hj, rfl⟩ := (h2 a).1 ha
        rw [List.mem_singleton.1 hb]
        unfold Go.Lib.keeps at hk
        rcases of_decide_eq_true hk with h | h
        · omega
        · have q1 := hs j (m - 1) (by omega) (by omega)
          have q2 := hs (m - 1) m (by omega) (by omega)
          omega
      · rw [List.mem_append, List.mem_singleton, h2]
        constructor
        · rintro (⟨j, hj, e⟩ | e)
          · exact ⟨j, by omega, e⟩
          · exact ⟨m, by omega, e.symm⟩
        · rintro ⟨j, hj, e⟩
          by_cases hjm : j = m
          · subst hjm
            exact .inr e.symm
          · exact .inl ⟨j, by omega, e⟩
    · rw [if_neg hk, List.append_nil]
      refine ⟨h1, fun a => ?_⟩
      rw [h2]
      constructor
      · rintro ⟨j, hj, e⟩
        exact ⟨j, by omega, e⟩
      · rintro ⟨j, hj, e⟩
        by_cases hjm : j = m
        · subst hjm
          unfold Go.Lib.keeps at hk
          rw [decide_eq_true_iff, not_or, Decidable.not_not] at hk
          exact ⟨j - 1, by omega, by rw [← hk.2]; exact e⟩
        · exact ⟨j, by omega, e⟩
theorem compact_rises {l : List Int} (hs : l.Pairwise (· ≤ ·)) : Rises (Go.Lib.compact l) ∧ ∀ a, a ∈ Go.Lib.compact l ↔ a ∈ l := by
  have hg : ∀ i, i < l.length → l.toArray[i]! = l.getD i 0 := fun i hi => by simp [List.getD, hi]
  have h := compact_upto (d := l.toArray) (fun i j hij hj => by
    have hj' : j < l.length := by simpa using hj
    rw [hg i (by omega), hg j hj']
    by_cases e : i = j
    · subst e
      exact Int.le_refl _
    · have := List.pairwise_iff_getElem.1 hs i j (by omega) hj' (by omega)
      simpa [List.getD, List.getElem?_eq_getElem hj', List.getElem?_eq_getElem (show i < l.length by omega)] using this) l.length (by simp)
  refine ⟨h.1, fun a => ?_⟩
  show a ∈ Go.Lib.compactUpTo l.toArray l.length ↔ _
  rw [h.2]
  constructor
  · rintro ⟨j, hj, e⟩
    rw [hg j hj, List.getD_eq_getElem?_getD, List.getElem?_eq_getElem hj] at e
    rw [← e]
    exact List.getElem_mem hj
  · intro ha
    obtain ⟨j, hj, e⟩ := List.mem_iff_getElem.1 ha
    exact ⟨j, hj, by rw [hg j hj, List.getD_eq_getElem?_getD, List.getElem?_eq_getElem hj]; exact e⟩
theorem sort_rises (l : List Int) : Rises (Go.Lib.compact (l.mergeSort fun x y => decide (x ≤ y))) ∧ ∀ a, a ∈ Go.Lib.compact (l.mergeSort fun x y => decide (x ≤ y)) ↔ a ∈ l := by
  have h := compact_rises (l := l.mergeSort fun x y => decide (x ≤ y)) ((List.pairwise_mergeSort (le := fun x y => decide (x ≤ y)) (fun a b c h1 h2 => by simp only [decide_eq_true_eq] at *; omega) (fun a b => by simp; omega) l).imp (fun h => by simpa using h))
  exact ⟨h.1, fun a => (h.2 a).trans List.mem_mergeSort⟩
end Go.Proofs.Ytmlbghloddiflaa
