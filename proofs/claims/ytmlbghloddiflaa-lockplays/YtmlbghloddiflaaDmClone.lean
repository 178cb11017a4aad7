/-
  The contracts of slices.Clone at locks, and of the code's Queue.
-/
import Derived.Test.YtmlbghloddiflaaLkRows
import Derived.Shelf.Sort.Plain
import Derived.Ground.Names2Prog
import Derived.Shelf.Slices.CompactI
import Derived.Shelf.Slices.Cells
import Derived.Shelf.Slices.In.SortNone
import Derived.Test.YtmlbghloddiflaaProg
import Derived.Maps.AppendAt
import Derived.Test.YtmlbghloddiflaaDmGive
import Derived.Test.YtmlbghloddiflaaQuietIn
import Derived.Laws.Cover3
section
namespace Go.Proofs.Ytmlbghloddiflaa
open Go.Shelf Go.RowKit
def lays189_ren : Go.Shelf.Ren := ⟨fun | 189 => 43 | 125 => 71 | 257 => 70 | 128 => 91 | 129 => 92 | 294 => 82 | 295 => 83 | 296 => 84 | 297 => 85 | 298 => 86 | 299 => 87 | 216 => 88 | 300 => 89 | 301 => 90 | 328 => 97 | 329 => 98 | 330 => 99 | 331 => 100 | 332 => 101 | 215 => 96 | 343 => 103 | n => n, fun | 28 => 50 | 3 => 3 | 46 => 95 | 0 => 0 | 51 => 111 | 53 => 113 | 4 => 4 | 183 => 105 | 182 => 104 | 131 => 89 | 5 => 5 | 9 => 9 | 218 => 118 | 222 => 122 | 228 => 124 | 229 => 125 | n => n, fun | n => n⟩
theorem lays189 : Go.Proofs.Lays.n189 Try.prog lays189_ren := {
  mixed := by kernel_rfl
  f125 := Try.func71.trans (congrArg some (by kernel_rfl))
  f128 := Try.func91.trans (congrArg some (by kernel_rfl))
  f129 := Try.func92.trans (congrArg some (by kernel_rfl))
  f189 := Try.func43.trans (congrArg some (by kernel_rfl))
  f215 := Try.func96.trans (congrArg some (by kernel_rfl))
  f216 := Try.func88.trans (congrArg some (by kernel_rfl))
  f257 := Try.func70.trans (congrArg some (by kernel_rfl))
  f294 := Try.func82.trans (congrArg some (by kernel_rfl))
  f295 := Try.func83.trans (congrArg some (by kernel_rfl))
  f296 := Try.func84.trans (congrArg some (by kernel_rfl))
  f297 := Try.func85.trans (congrArg some (by kernel_rfl))
  f298 := Try.func86.trans (congrArg some (by kernel_rfl))
  f299 := Try.func87.trans (congrArg some (by kernel_rfl))
  f300 := Try.func89.trans (congrArg some (by kernel_rfl))
  f301 := Try.func90.trans (congrArg some (by kernel_rfl))
  f328 := Try.func97.trans (congrArg some (by kernel_rfl))
  f329 := Try.func98.trans (congrArg some (by kernel_rfl))
  f330 := Try.func99.trans (congrArg some (by kernel_rfl))
  f331 := Try.func100.trans (congrArg some (by kernel_rfl))
  f332 := Try.func101.trans (congrArg some (by kernel_rfl))
  f343 := Try.func103.trans (congrArg some (by kernel_rfl))
  t0 := Try.underlying0
  a0 := Try.isAgg0
  z0 := Try.sizeOf0
  v0 := Try.zeroValue0
  t3 := Try.underlying3
  a3 := Try.isAgg3
  z3 := Try.sizeOf3
  v3 := Try.zeroValue3
  t4 := Try.underlying4
  a4 := Try.isAgg4
  z4 := Try.sizeOf4
  v4 := Try.zeroValue4
  t5 := Try.underlying5
  a5 := Try.isAgg5
  z5 := Try.sizeOf5
  v5 := Try.zeroValue5
  t9 := Try.underlying9
  a9 := Try.isAgg9
  z9 := Try.sizeOf9
  v9 := Try.zeroValue9
  t28 := Try.underlying50
  a28 := Try.isAgg50
  z28 := Try.sizeOf50
  v28 := Try.zeroValue50
  t46 := Try.underlying95
  a46 := Try.isAgg95
  z46 := Try.sizeOf95
  v46 := Try.zeroValue95
  t51 := Try.underlying111
  a51 := Try.isAgg111
  z51 := Try.sizeOf111
  v51 := Try.zeroValue111
  t53 := Try.underlying113
  a53 := Try.isAgg113
  z53 := Try.sizeOf113
  v53 := Try.zeroValue113
  t131 := Try.underlying89
  a131 := Try.isAgg89
  z131 := Try.sizeOf89
  v131 := Try.zeroValue89
  t182 := Try.underlying104
  a182 := Try.isAgg104
  z182 := Try.sizeOf104
  v182 := Try.zeroValue104
  t183 := Try.underlying105
  a183 := Try.isAgg105
  z183 := Try.sizeOf105
  v183 := Try.zeroValue105
  t218 := Try.underlying118
  a218 := Try.isAgg118
  z218 := Try.sizeOf118
  v218 := Try.zeroValue118
  t222 := Try.underlying122
  a222 := Try.isAgg122
  z222 := Try.sizeOf122
  v222 := Try.zeroValue122
  t228 := Try.underlying124
  a228 := Try.isAgg124
  z228 := Try.sizeOf124
  v228 := Try.zeroValue124
  t229 := Try.underlying125
  a229 := Try.isAgg125
  z229 := Try.sizeOf125
  v229 := Try.zeroValue125 }
open Go.Sort Go.RowKit in
theorem sort_int13 (blk off cap : Nat) (zs : List Int) (w : World) (hH : Holds (Value.int .i64) w blk off zs.toArray) (hblk : blk < w.heap.size) (hsz : zs.length < 4611686018427387904) :
    Calls Try.prog 43 #[.slice (some ⟨blk, off, none⟩) zs.length cap] w fun e w' =>
      e = .returned (.tuple #[]) ∧ ∃ n os, w' = grow (putRow (Value.int .i64) (Sort.ahead w n) blk off (zs.mergeSort fun x y => decide (x ≤ y)).toArray) os := Any.slices_Sort_int lays189 blk off cap zs w hH hblk hsz
def laysNm220_ren : Go.Shelf.Ren := ⟨fun | 20 => 44 | n => n, fun | 22 => 50 | 3 => 3 | 4 => 4 | 0 => 0 | n => n, fun | n => n⟩
theorem laysNm220 : Go.Proofs.Lays2.n20 Try.prog laysNm220_ren := {
  mixed := by kernel_rfl
  f20 := Try.func44.trans (congrArg some (by kernel_rfl))
  t0 := Try.underlying0
  a0 := Try.isAgg0
  z0 := Try.sizeOf0
  v0 := Try.zeroValue0
  t3 := Try.underlying3
  a3 := Try.isAgg3
  z3 := Try.sizeOf3
  v3 := Try.zeroValue3
  t4 := Try.underlying4
  a4 := Try.isAgg4
  z4 := Try.sizeOf4
  v4 := Try.zeroValue4
  t22 := Try.underlying50
  a22 := Try.isAgg50
  z22 := Try.sizeOf50
  v22 := Try.zeroValue50
  i3 := by kernel_rfl }

open Go.RowKit Go.Lib Go.Sort in
theorem compact_int_none13 (a : Option Addr) (cap : Nat) (w : World) :
    Calls Try.prog 44 #[.slice a 0 cap] w fun e w' => e = .returned (.slice a 0 cap) ∧ w' = w := Any.slices_Compact_int_empty laysNm220 a cap w
open Go.RowKit Go.Lib Go.Sort in
theorem compact_int13 (b off n c : Nat) (zs : List Int) (w : World) (hz : n ≤ zs.length) (hbig : n ≤ 9223372036854775807) (hcap : n ≤ c) (hc : ∀ j, j < zs.length → w.cell? ⟨b, off + j, none⟩ = some (.int .i64 (zs.getD j 0))) (hf : ∀ j, j < n → w.frozen? ⟨b, off + j, none⟩ = false) :
    Calls Try.prog 44 #[.slice (some ⟨b, off, none⟩) n c] w fun e w' => e = .returned (.slice (some ⟨b, off, none⟩) (Lib.compact (zs.take n)).length c) ∧ ∃ q, w' = (w.drewN q).setCells b off ((Lib.compact (zs.take n) ++ List.replicate (n - (Lib.compact (zs.take n)).length) 0).map (Value.int .i64)) := Any.slices_Compact_int_cells laysNm220 b off n c zs w hz hbig hcap hc hf
open Go.RowKit Go.Sort in
theorem sort_int_none13 (p : Option Addr) (cap : Nat) (w : World) :
    Calls Try.prog 43 #[.slice p 0 cap] w fun e w' => e = .returned (.tuple #[]) ∧ w' = w := Any.slices_Sort_int_none lays189 p cap w
end Go.Proofs.Ytmlbghloddiflaa
namespace Go.Proofs.Ytmlbghloddiflaa
open Go.RowKit
set_option linter.unusedVariables false

/-- A row laid anew. -/
theorem OwnI.laid {B b c : Nat} {w : World} {l : List Int} (h : OwnI B w (.slice (some ⟨b, 0, none⟩) l.length c) l) (q : Nat) (vs : List Int) (hv : vs.length = l.length) (n : Nat) (hn : n ≤ l.length) :
    OwnI B ((w.drewN q).setCells b 0 (vs.map (Value.int .i64))) (.slice (some ⟨b, 0, none⟩) n c) (vs.take n) ∧ Tn (Is b) w ((w.drewN q).setCells b 0 (vs.map (Value.int .i64))) := by
  have hT : Tn (Is b) w ((w.drewN q).setCells b 0 (vs.map (Value.int .i64))) := (show Tn (Is b) w (w.drewN q) from ⟨rfl, rfl, rfl, Nat.le_refl _, fun _ _ _ => rfl⟩).then (setCells_tn _ _ _ b (Is b) (show Is b b from rfl))
  refine ⟨?_, hT⟩
  rcases h.2 with ⟨e, _⟩ | ⟨g', cap, cur, e, hb, hr, hcap, hm, hs, ht⟩
  · cases e
  · injection e with e1 e2 e3
    injection e1 with e1
    injection e1 with e1
    subst e1 e3
    have hr' : RowAt (w.drewN q) b 3 cur := hr
    obtain ⟨ds, d1, d2⟩ := setCells_row (vs.map (Value.int .i64)) 0 (w.drewN q) b _ cur hr'
    have hlen : (vs.take n).length = n := by rw [List.length_take]; omega
    refine ⟨by rw [intsV_len, hlen, Nat.mul_one], .inr ⟨b, c, ds, by rw [hlen], hb, d1, by omega, hm, by rw [d2]; exact hs, ?_⟩⟩
    rw [hlen, Nat.mul_one]
    apply List.ext_getElem?
    intro j
    by_cases hj : j < n
    · have hin := World.cell?_setCells_in b (vs.map (Value.int .i64)) 0 (w.drewN q) (fun k hk => some_of_row hr' (by rw [List.length_map] at hk; omega)) j (by rw [List.length_map]; omega)
      rw [Nat.zero_add, cell_of_row _ b j _ _ (0, 0) d1] at hin
      rw [List.getElem?_take, if_pos hj, Array.getElem?_toList, hin]
      simp [intsV, hj, List.getElem?_eq_getElem (show j < vs.length by omega)]
    · rw [List.getElem?_eq_none (by rw [List.length_take]; omega), List.getElem?_eq_none (by rw [intsV_len, hlen]; omega)]
theorem below_grow (w : World) (os : Array Obj) : Below w.heap.size w (Go.Sort.grow w os) := ⟨rfl, rfl, rfl, by simp [Go.Sort.grow], fun i hi => Go.Sort.heap_grow_old w os hi⟩
theorem OwnI.cap {B b n c : Nat} {w : World} {l : List Int} (h : OwnI B w (.slice (some ⟨b, 0, none⟩) n c) l) : n = l.length ∧ l.length ≤ c ∧ c ≤ maxLen ∧ b < w.heap.size := by
  rcases h.2 with ⟨e, _⟩ | ⟨g', cap, cur, e, hb, hr, hcap, hm, hs, ht⟩
  · cases e
  · injection e with e1 e2 e3
    injection e1 with e1
    injection e1 with e1
    subst e1 e3
    exact ⟨e2, hcap, hm, (show RowAt w b 3 cur from hr).lt⟩
theorem OwnI.free {B b n c : Nat} {w : World} {l : List Int} (h : OwnI B w (.slice (some ⟨b, 0, none⟩) n c) l) (j : Nat) : w.frozen? ⟨b, j, none⟩ = false := by
  obtain ⟨_, cs, h1⟩ := h.block (k := b) rfl
  exact h1.free j
theorem sorted13 {B : Nat} {w : World} {v : Value} {l : List Int} (h : OwnI B w v l) (hl : l.length ≤ 1000000) :
    Calls Try.prog 43 #[v] w fun e w' => e = .returned (.tuple #[]) ∧ OwnI B w' v (l.mergeSort fun x y => decide (x ≤ y)) ∧ Tn (fun k => v.ownBlock = some k) w w' := by
  obtain ⟨a, c, rfl⟩ := h.shape
  cases a with
  | none =>
    have h0 : l = [] := by
      cases l with
      | nil => rfl
      | cons x l =>
        obtain ⟨b, e, _⟩ := h.at (j := 0) (by simp)
        cases e
    subst h0
    refine (sort_int_none13 none c w).mono ?_
    rintro e w' ⟨rfl, rfl⟩
    exact ⟨rfl, by simpa using h, Tn.refl _ _⟩
  | some a =>
    have h' := h
    obtain ⟨b, rfl⟩ : ∃ b, a = ⟨b, 0, none⟩ := by
      rcases h.2 with ⟨e, _⟩ | ⟨g', cap, cur, e, _⟩
      · cases e
      · injection e with e1
        injection e1 with e1
        exact ⟨g', e1⟩
    have hc := h.cap
    have hH : Go.Sort.Holds (Value.int .i64) w b 0 l.toArray := by
      have := Go.Lib.holds_of_ints (w := w) (b := b) (off := 0) (n := l.length) (zs := l) (Nat.le_refl _) (fun j hj => by
        obtain ⟨b', e, hb'⟩ := h.at hj
        injection e with e
        injection e with e
        subst e
        rw [Nat.zero_add]
        exact hb') (fun j _ => h.free _)
      rwa [List.take_length] at this
    refine (sort_int13 b 0 c l w hH hc.2.2.2 (by omega)).mono ?_
    rintro e w' ⟨rfl, n, os, rfl⟩
    have hml : (l.mergeSort fun x y => decide (x ≤ y)).length = l.length := List.length_mergeSort _
    rw [Go.Lib.putRow_eq_setCells _ w b 0 l.toArray _ n hH (by rw [hml]; rfl)]
    have hq := h.laid n (l.mergeSort fun x y => decide (x ≤ y)) hml l.length (Nat.le_refl _)
    rw [← hml, List.take_length, hml] at hq
    exact ⟨rfl, hq.1.later (below_grow _ os), (hq.2.weak (fun k hk => by rw [hk]; rfl)).later (below_grow _ os)⟩
theorem compacted13 {B : Nat} {w : World} {v : Value} {l : List Int} (h : OwnI B w v l) (hl : l.length ≤ 1000000) :
    Calls Try.prog 44 #[v] w fun e w' => ∃ v', e = .returned v' ∧ OwnI B w' v' (Go.Lib.compact l) ∧ Tn (fun k => v.ownBlock = some k) w w' := by
  obtain ⟨a, c, rfl⟩ := h.shape
  cases a with
  | none =>
    have h0 : l = [] := by
      cases l with
      | nil => rfl
      | cons x l =>
        obtain ⟨b, e, _⟩ := h.at (j := 0) (by simp)
        cases e
    subst h0
    refine (compact_int_none13 none c w).mono ?_
    rintro e w' ⟨rfl, rfl⟩
    exact ⟨_, rfl, h, Tn.refl _ _⟩
  | some a =>
    obtain ⟨b, rfl⟩ : ∃ b, a = ⟨b, 0, none⟩ := by
      rcases h.2 with ⟨e, _⟩ | ⟨g', cap, cur, e, _⟩
      · cases e
      · injection e with e1
        injection e1 with e1
        exact ⟨g', e1⟩
    have hc := h.cap
    have hcl := Go.Lib.compact_length_le l
    refine (compact_int13 b 0 l.length c l w (Nat.le_refl _) (by omega) hc.2.1 (fun j hj => by
        obtain ⟨b', e, hb'⟩ := h.at hj
        injection e with e
        injection e with e
        subst e
        rw [Nat.zero_add]
        exact hb') (fun j _ => h.free _)).mono ?_
    rintro e w' ⟨rfl, q, rfl⟩
    rw [List.take_length]
    have hq := h.laid q (Go.Lib.compact l ++ List.replicate (l.length - (Go.Lib.compact l).length) 0) (by rw [List.length_append, List.length_replicate]; omega) (Go.Lib.compact l).length hcl
    rw [List.take_left' rfl] at hq
    exact ⟨_, rfl, hq.1, hq.2.weak (fun k hk => by rw [hk]; rfl)⟩
/-- What is sorted and made of single ones rises. -/
theorem compact_upto {d : Array Int} (hs : ∀ i j, i ≤ j → j < d.size → d[i]! ≤ d[j]!) : ∀ m, m ≤ d.size → (Go.Lib.compactUpTo d m).Pairwise (· < ·) ∧ ∀ a, a ∈ Go.Lib.compactUpTo d m ↔ ∃ j, j < m ∧ d[j]! = a := by
  intro m
  induction m with
  | zero => exact fun _ => ⟨List.Pairwise.nil, fun a => ⟨fun h => absurd h (by simp [Go.Lib.compactUpTo]), fun ⟨j, h, _⟩ => absurd h (Nat.not_lt_zero _)⟩⟩
  | succ m ih =>
    intro hm
    obtain ⟨h1, h2⟩ := ih (by omega)
    rw [Go.Lib.compactUpTo_succ]
    by_cases hk : Go.Lib.keeps d m = true
    · rw [if_pos hk]
      refine ⟨List.pairwise_append.2 ⟨h1, List.pairwise_singleton _ _, fun a ha b hb => ?_⟩, fun a => ?_⟩
      · obtain ⟨j, hj, rfl⟩ := (h2 a).1 ha
        rw [List.mem_singleton.1 hb]
        unfold Go.Lib.keeps at hk
        rcases of_decide_eq_true hk with h | h
        · omega
        · have q1 := hs j (m - 1) (by omega) (by omega)
          have q2 := hs (m - 1) m (by omega) (by omega)
          omega
      · rw [List.mem_append, List.mem_singleton, h2]
        constructor
        · rintro (⟨j, hj, e⟩ | e)
          · exact ⟨j, by omega, e⟩
          · exact ⟨m, by omega, e.symm⟩
        · rintro ⟨j, hj, e⟩
          by_cases hjm : j = m
          · subst hjm
            exact .inr e.symm
          · exact .inl ⟨j, by omega, e⟩
    · rw [if_neg hk, List.append_nil]
      refine ⟨h1, fun a => ?_⟩
      rw [h2]
      constructor
      · rintro ⟨j, hj, e⟩
        exact ⟨j, by omega, e⟩
      · rintro ⟨j, hj, e⟩
        by_cases hjm : j = m
        · subst hjm
          unfold Go.Lib.keeps at hk
          rw [decide_eq_true_iff, not_or, Decidable.not_not] at hk
          exact ⟨j - 1, by omega, by rw [← hk.2]; exact e⟩
        · exact ⟨j, by omega, e⟩
theorem compact_rises {l : List Int} (hs : l.Pairwise (· ≤ ·)) : Rises (Go.Lib.compact l) ∧ ∀ a, a ∈ Go.Lib.compact l ↔ a ∈ l := by
  have hg : ∀ i, i < l.length → l.toArray[i]! = l.getD i 0 := fun i hi => by simp [List.getD, hi]
  have h := compact_upto (d := l.toArray) (fun i j hij hj => by
    have hj' : j < l.length := by simpa using hj
    rw [hg i (by omega), hg j hj']
    by_cases e : i = j
    · subst e
      exact Int.le_refl _
    · have := List.pairwise_iff_getElem.1 hs i j (by omega) hj' (by omega)
      simpa [List.getD, List.getElem?_eq_getElem hj', List.getElem?_eq_getElem (show i < l.length by omega)] using this) l.length (by simp)
  refine ⟨h.1, fun a => ?_⟩
  show a ∈ Go.Lib.compactUpTo l.toArray l.length ↔ _
  rw [h.2]
  constructor
  · rintro ⟨j, hj, e⟩
    rw [hg j hj, List.getD_eq_getElem?_getD, List.getElem?_eq_getElem hj] at e
    rw [← e]
    exact List.getElem_mem hj
  · intro ha
    obtain ⟨j, hj, e⟩ := List.mem_iff_getElem.1 ha
    exact ⟨j, hj, by rw [hg j hj, List.getD_eq_getElem?_getD, List.getElem?_eq_getElem hj]; exact e⟩
theorem sort_rises (l : List Int) : Rises (Go.Lib.compact (l.mergeSort fun x y => decide (x ≤ y))) ∧ ∀ a, a ∈ Go.Lib.compact (l.mergeSort fun x y => decide (x ≤ y)) ↔ a ∈ l := by
  have h := compact_rises (l := l.mergeSort fun x y => decide (x ≤ y)) ((List.pairwise_mergeSort (le := fun x y => decide (x ≤ y)) (fun a b c h1 h2 => by simp only [decide_eq_true_eq] at *; omega) (fun a b => by simp; omega) l).imp (fun h => by simpa using h))
  exact ⟨h.1, fun a => (h.2 a).trans List.mem_mergeSort⟩
end Go.Proofs.Ytmlbghloddiflaa
end
section
namespace Go.Proofs.Ytmlbghloddiflaa
open Go.RowKit
set_option linter.unusedVariables false

theorem beh_none {t : Tb} {who : Int} (h : t.wt who = none) : t.behL who = [] := by
  cases e : t.behL who with
  | nil => rfl
  | cons b l =>
    have hb : b ∈ t.behL who := by rw [e]; exact List.mem_cons_self ..
    obtain ⟨k, hk, _⟩ := (beh_iff _ _ _).1 (mem_behL.1 hb)
    rw [h] at hk
    cases hk
theorem beh_list {t : Tb} {p : Pt} {N : Nat} (hp : PtOk t p N) {x : Nat} (hx : x < 288) {k : Hd} (hk : k ∈ p.row x) : Go.Lib.compact ((barL (p.had x) k ++ (aheadS (p.row x) k).map Hd.w).mergeSort fun x y => decide (x ≤ y)) = t.behL k.w := by
  have hs := sort_rises (barL (p.had x) k ++ (aheadS (p.row x) k).map Hd.w)
  have hm := hp.mem hx hk
  refine rises_same hs.1 (rises_behL t k.w) (fun a => ?_)
  rw [hs.2, mem_behL, hp.rep.beh hp.tok hm.1 hx hm.2, List.mem_append, List.mem_map]
section
variable {w : World} {g : Nat} {t : Tb} {N : Nat} {F : Nat → Prop}
set_option maxRecDepth 8000 in
set_option maxHeartbeats 12800000 in
theorem kbehind (hk : Kt w g t N F) (hN : N ≤ 3000) (who : Int) : Calls Try.prog 20 #[.pointer (some ⟨g, 0, none⟩), .int .i64 who] w fun e w' => ∃ v, e = .returned v ∧ OwnI w.heap.size w' v (t.behL who) ∧ Below w.heap.size w w' := by
  have HKW := hide (kwaits hk hN who)
  obtain ⟨p, S, h, hp, _, rfl⟩ := hk
  have H := hide h
  have HP := hide hp
  clear h hp
  cases hwt : t.wt who with
  | none =>
    rw [hwt] at HKW
    have HE := hide (beh_none hwt)
    clear hwt
    go_enter Try.func20, Try.ntmps20
    go_wp2_with fail
    refine HKW.out.mono ?_
    rintro e w1 ⟨rfl, hb⟩
    have HB := hide hb
    clear hb HKW
    go_wp2_with (with_reducible refine stop_at 5 rfl ?_)
    refine unstop10 ?_
    refine lst_run (some 5) rfl rfl (.pointer (some ⟨w1.heap.size, 0, none⟩)) (w1.alloc (.cells zeroH 46)) (by go_simp; rfl) ?_
    simp only [Act.put, Array.setIfInBounds, List.size_toArray, List.length_cons, List.length_nil, Nat.reduceAdd, Nat.reduceLT, ↓reduceDIte, List.set_toArray, List.set_cons_succ, List.set_cons_zero]
    refine wpList_store_part rfl 46 (.tmp 5) (.tmp 15) rfl w1.heap.size 0 46 zeroH (hdA hdZ) rfl rfl (RowAt.new w1 _ _) infoHs (by show 0 + 3 ≤ 3; omega) (hdA_one hdZ) ?_
    intro w2 h21 h22
    simp only [Act.put]
    have b2 : Below w1.heap.size w1 w2 := h22.below ((Below.refl w1.heap.size w1).alloc (Nat.le_refl _) (.cells zeroH 46)) (Nat.le_refl _)
    have HB3 := hide (HB.out.trans (b2.mono HB.out.size))
    clear h21 h22 b2
    go_wp2
    go_ret
    exact ⟨_, rfl, by rw [HE.out]; exact OwnI.nil _ _, HB3.out⟩
  | some k =>
    rw [hwt] at HKW
    obtain ⟨hkr, hkw⟩ := wt_some hwt
    obtain ⟨h4, h5⟩ := thing_nat (HP.out.tok.rk k hkr).2.1
    obtain ⟨x, hxd⟩ : ∃ x, x = k.x.toNat := ⟨_, rfl⟩
    rw [← hxd] at h4 h5
    have hkp : k ∈ p.row x := by rw [HP.out.rep.row x h4]; exact mem_que.2 ⟨hkr, h5⟩
    obtain ⟨i, hst⟩ := stands_of hkp
    have HLI := hide (beh_list HP.out h4 hkp)
    rw [hkw, hst.ahead] at HLI
    have hil := (List.getElem?_eq_some_iff.1 hst.at').1
    have hlen := HP.out.len x h4
    obtain ⟨b, hb0, _⟩ := (H.out.rowB h4).at hst.at'
    have hcap := (H.out.rowB h4).cap
    have HAH := hide (fun y (hy : TAt y g p S) => ahead13 hy h4 k i (HP.out.fine h4 hkp).1 (fun q hq => (HP.out.fine h4 hq).1) hst.at' hst.first (by omega))
    rw [slV_some hb0] at HAH
    have HBA := hide (fun y (hy : TAt y g p S) => barring13 hy h4 k (by omega))
    have HB0 := hide hb0
    have HX := hide (And.intro h5 (And.intro hil hlen))
    have HAT := hide (fun y => at13 g y x h4)
    have hic : i ≤ (S (x * 2 + 1)).c := by omega
    have hi6 : i ≤ 1000000 := by omega
    clear hwt hkr hkw hxd hkp hst h5 hil hlen hb0 hcap
    generalize (S (x * 2 + 1)).c = c at *
    go_enter Try.func20, Try.ntmps20
    go_wp2_with fail
    refine HKW.out.mono ?_
    rintro e w1 ⟨rfl, hb⟩
    have HB := hide hb
    clear hb HKW
    go_wp2_with (with_reducible refine stop_at 5 rfl ?_)
    refine unstop10 ?_
    refine lst_run (some 5) rfl rfl (.pointer (some ⟨w1.heap.size, 0, none⟩)) (w1.alloc (.cells zeroH 46)) (by go_simp; rfl) ?_
    simp only [Act.put, Array.setIfInBounds, List.size_toArray, List.length_cons, List.length_nil, Nat.reduceAdd, Nat.reduceLT, ↓reduceDIte, List.set_toArray, List.set_cons_succ, List.set_cons_zero]
    refine wpList_store_part rfl 46 (.tmp 5) (.tmp 15) rfl w1.heap.size 0 46 zeroH (hdA k) rfl rfl (RowAt.new w1 _ _) infoHs (by show 0 + 3 ≤ 3; omega) (hdA_one k) ?_
    intro w2 h21 h22
    rw [partA_all zeroH (hdA k) rfl] at h21
    simp only [Act.put]
    have b2 : Below w1.heap.size w1 w2 := h22.below ((Below.refl w1.heap.size w1).alloc (Nat.le_refl _) (.cells zeroH 46)) (Nat.le_refl _)
    have hb3 : Below w.heap.size w w2 := HB.out.trans (b2.mono HB.out.size)
    obtain ⟨gv, hgv⟩ : ∃ gv, gv = w1.heap.size := ⟨_, rfl⟩
    rw [← hgv] at h21 ⊢
    have HC2 := hide (show CB w g p S gv (hdA k) w2 from ⟨H.out.later hb3, h21, hb3⟩)
    have d0 := h21.cell 0 (.int .i64 k.w) rfl
    have d1 := h21.cell 1 (.int .i64 k.x) rfl
    have d2 := h21.cell 2 (.int .i64 k.m) rfl
    rw [HX.out.1] at d1
    have HA3 := hide (show hdA k = #[.int .i64 k.w, .int .i64 (x : Int), .int .i64 k.m] from by unfold hdA; rw [HX.out.1])
    rw [HA3.out] at HAH HBA
    clear h21 h22 b2 hb3 hgv
    go_wp2_with fail
    refine (HAT.out _).mono ?_
    rintro e w0 ⟨rfl, rfl⟩
    go_wp2_with fail
    refine (HBA.out w2 HC2.out.1).mono ?_
    rintro e w3 ⟨v, rfl, hO, hb⟩
    have HC3 := hide (HC2.out.later hb)
    have HO3 := hide (hO.weak HC2.out.2.2.size)
    have d0 := HC3.out.2.1.cell 0 (.int .i64 k.w) rfl
    have d1 := HC3.out.2.1.cell 1 (.int .i64 k.x) rfl
    have d2 := HC3.out.2.1.cell 2 (.int .i64 k.m) rfl
    rw [HX.out.1] at d1
    clear hO hb HC2 HBA
    go_wp2_with fail
    refine (HAH.out w3 HC3.out.1).mono ?_
    rintro e w4 ⟨rfl, hb⟩
    have H4 := hide (show (TAt w4 g p S ∧ Below w.heap.size w w4) ∧ OwnI w.heap.size w4 v (barL (p.had x) k ++ ((p.row x).take 0).map Hd.w) from ⟨⟨HC3.out.1.later hb, (HC3.out.later hb).2.2⟩, by rw [List.take_zero, List.map_nil, List.append_nil]; exact HO3.out.later hb⟩)
    clear d0 d1 d2 hb HC3 HO3 HAH
    go_wp2
    go_loopw [8, 30] (fun v q wr => ∃ j : Nat, j ≤ i ∧ q = .int .i64 j ∧ Hid ((TAt wr g p S ∧ Below w.heap.size w wr) ∧ OwnI w.heap.size wr v (barL (p.had x) k ++ ((p.row x).take j).map Hd.w))) (fun _ q _ => i - (intOf q).toNat)
    case atStart => exact ⟨0, Nat.zero_le _, rfl, H4⟩
    case round =>
      obtain ⟨j, hj, rfl, HR⟩ := hrel
      by_cases hlt : j < i
      · have i1 : (j : Int) < i := by omega
        obtain ⟨m, hmm⟩ : ∃ m, (p.row x)[j]? = some m := ⟨_, List.getElem?_eq_getElem (by have := HX.out.2.1; omega)⟩
        obtain ⟨b', hb', hbl, c0, c1, c2⟩ := (HR.out.1.1.rowB h4).at hmm
        have : b' = b := by
          have e := HB0.out
          rw [hb'] at e
          injection e
        subst this
        have HLD := hide (load_hold c0 c1 c2)
        have HT := hide (take_snoc _ _ _ hmm)
        clear hmm hb' c0 c1 c2 hbl
        go_wp2_with (with_reducible refine stop_at 33 rfl ?_)
        refine unstop10 ?_
        refine lst_load (some 33) (.agg (hdA m)) rfl rfl 46 (.tmp 32) rfl _ rfl (HLD.out) ?_
        simp only [Act.put, Array.setIfInBounds, List.size_toArray, List.length_cons, List.length_nil, Nat.reduceAdd, Nat.reduceLT, ↓reduceDIte, List.set_toArray, List.set_cons_succ, List.set_cons_zero]
        refine lst_run (some 10) rfl rfl (.pointer (some ⟨wr.heap.size, 0, none⟩)) (wr.alloc (.cells zeroH 46)) (by go_simp; rfl) ?_
        simp only [Act.put, Array.setIfInBounds, List.size_toArray, List.length_cons, List.length_nil, Nat.reduceAdd, Nat.reduceLT, ↓reduceDIte, List.set_toArray, List.set_cons_succ, List.set_cons_zero]
        refine wpList_store_part rfl 46 (.tmp 10) (.tmp 33) rfl wr.heap.size 0 46 zeroH (hdA m) rfl rfl (RowAt.new wr _ _) infoHs (by show 0 + 3 ≤ 3; omega) (hdA_one m) ?_
        intro w5 h21 h22
        rw [partA_all zeroH (hdA m) rfl] at h21
        have b2 : Below wr.heap.size wr w5 := h22.below ((Below.refl wr.heap.size wr).alloc (Nat.le_refl _) (.cells zeroH 46)) (Nat.le_refl _)
        simp only [Act.put]
        have d0 := h21.cell 0 (.int .i64 m.w) rfl
        have b5 : Below w5.heap.size w5 (w5.alloc (.cells #[.int .i64 m.w] 3)) := (Below.refl w5.heap.size w5).alloc (Nat.le_refl _) _
        have hcell : (w5.alloc (.cells #[.int .i64 m.w] 3)).cell? ⟨w5.heap.size, 0, none⟩ = some (.int .i64 m.w) := (RowAt.new w5 3 #[.int .i64 m.w]).cell 0 _ rfl
        have hO5 := (HR.out.2.later b2).later b5
        have hB5 := HR.out.1.2.trans ((b2.trans (b5.mono b2.size)).mono HR.out.1.2.size)
        have hT5 := (HR.out.1.1.later b2).later b5
        have hblen : (barL (p.had x) k ++ ((p.row x).take j).map Hd.w).length ≤ 100000000 := by
          have h1 := bar_len (p.had x) k
          have h2 := HX.out.2.2
          rw [List.length_append, List.length_map, List.length_take]
          omega
        obtain ⟨v', w6, ha, hO6, hT6⟩ := hO5.push m.w w5.heap.size 1 hcell hB5.size hblen 50
        obtain ⟨gw, hgw⟩ : ∃ gw, gw = wr.heap.size := ⟨_, rfl⟩
        rw [← hgw] at d0 ⊢
        have HR6 := hide (show (TAt w6 g p S ∧ Below w.heap.size w w6) ∧ OwnI w.heap.size w6 v' (barL (p.had x) k ++ ((p.row x).take (j + 1)).map Hd.w) from ⟨⟨hT5.turn hT6 (fun q hq e => by
          have h1 := (hO5.block e).1
          have h2 := H.out.lt hq
          omega), hB5.trans (hT6.below (fun q hq => (hO5.block hq).1) hB5.size)⟩, by rw [HT.out, List.map_append, ← List.append_assoc]; exact hO6⟩)
        clear h21 h22 b2 HLD hgw b5 hcell hO5 hB5 hT5 hblen hO6 hT6 HT HR
        go_wp2_with (at_builtin; refine Lib.wpList_append_run _ rfl _ _ _ _ rfl _ _ rfl rfl _ _ ha ?_)
        go_roundw
        case rel => exact ⟨j + 1, by omega, by go_num, HR6⟩
        case measure => simp [intOf]; omega
      · have i1 : ¬ (j : Int) < i := by omega
        obtain rfl : j = i := by omega
        obtain ⟨l, hl⟩ : ∃ l, l = barL (p.had x) k ++ ((p.row x).take j).map Hd.w := ⟨_, rfl⟩
        have hll : l.length ≤ 1000000 := by
          have h1 := bar_len (p.had x) k
          have h2 := HX.out.2.2
          rw [hl, List.length_append, List.length_map, List.length_take]
          omega
        rw [← hl] at HR HLI
        have HSO := hide (sorted13 HR.out.2 hll)
        have HLL := hide hll
        clear hl hll
        go_wp2_with fail
        refine HSO.out.mono ?_
        rintro e w5 ⟨rfl, hO5, hT5⟩
        have HB5 := hide (HR.out.1.2.trans (hT5.below (fun q hq => (HR.out.2.block hq).1) HR.out.1.2.size))
        have HO5 := hide hO5
        have HCO := hide (compacted13 hO5 (by rw [List.length_mergeSort]; exact HLL.out))
        rw [HLI.out] at HCO
        clear hO5 hT5 HSO HR
        go_wp2_with fail
        refine HCO.out.mono ?_
        rintro e w6 ⟨v6, rfl, hO6, hT6⟩
        have HE := hide (And.intro hO6 (HB5.out.trans (hT6.below (fun q hq => (HO5.out.block hq).1) HB5.out.size)))
        clear hO6 hT6 HCO
        go_wp2
        go_ret
        exact ⟨_, rfl, HE.out⟩
end
end Go.Proofs.Ytmlbghloddiflaa
end
section
namespace Go.Proofs.Ytmlbghloddiflaa
open Go.RowKit
set_option linter.unusedVariables false

/-- One number more, and where it lies then. -/
theorem OwnI.push_at {B : Nat} {y : World} {v : Value} {l : List Int} (h : OwnI B y v l) (n : Int) (g c : Nat) (hg : y.cell? ⟨g, 0, none⟩ = some (.int .i64 n)) (hB : B ≤ y.heap.size) (hl : l.length ≤ 100000000) (ty : TypeId) :
    ∃ v' y', (Builtin.append_ #[50, 50] ty #[v, .slice (some ⟨g, 0, none⟩) 1 c]).run Try.prog y = .ok v' y' ∧ OwnI B y' v' (l ++ [n]) ∧ Tn (fun k => v.ownBlock = some k) y y' ∧ (v'.ownBlock = v.ownBlock ∨ v'.ownBlock = some y.heap.size) := by
  obtain ⟨i, hi0, hi1⟩ := Option.map_eq_some_iff.1 infoI13
  simp only [Prod.mk.injEq] at hi1
  obtain ⟨v', y', r1, r2, r3, _, r5⟩ := run_append_own_at (P := Try.prog) y B 50 ty 3 i (.int .i64 0) 1 8 Try.underlying50 hi0 hi1.1 hi1.2.1 hi1.2.2 rfl (by omega) v l.length (intsV l) h ⟨g, 0, none⟩ 1 c [.int .i64 n] rfl (fun j u hu => by
    match j with
    | 0 => simp at hu; subst hu; rw [Addr.add_lit]; exact hg
    | j + 1 => simp at hu) (fun u hu => by rw [List.mem_singleton.1 hu]; rfl) (by unfold maxLen; omega) (by omega) hB
  refine ⟨v', y', r1, ?_, Tn.of_grown r3 (fun k hk => hk), r5⟩
  unfold OwnI
  rw [intsV_snoc, List.length_append]
  exact r2
/-- A number of a row of one's own. -/
theorem OwnI.cellAt {B : Nat} {y : World} {b n c : Nat} {l : List Int} (h : OwnI B y (.slice (some ⟨b, 0, none⟩) n c) l) {j : Nat} (hj : j < l.length) : y.cell? ⟨b, j, none⟩ = some (.int .i64 (l.getD j 0)) := by
  obtain ⟨b', e, h1⟩ := h.at hj
  injection e with e
  injection e with e
  subst e
  exact h1
theorem OwnI.caps {B : Nat} {y : World} {a : Option Addr} {n c : Nat} {l : List Int} (h : OwnI B y (.slice a n c) l) : l.length ≤ c := by
  rcases h.2 with ⟨e, h0⟩ | ⟨g', cap, cur, e, _, _, hn, _⟩
  · rw [h0]; exact Nat.zero_le _
  · injection e with _ _ e3
    rw [e3]
    exact hn
/-- What stands at the head of union's loop. -/
structure Uni (B B2 : Nat) (x : World) (v v2 : Value) (l m : List Int) (v' : Value) (l' : List Int) (j : Nat) (y : World) : Prop where
  one : OwnI B y v' l'
  two : OwnI B2 y v2 m
  mem : ∀ a ∈ l', a ∈ l ∨ a ∈ m
  len : l'.length ≤ l.length + j
  tn : Tn (fun k => v.ownBlock = some k) x y
  own : ∀ k, v'.ownBlock = some k → v.ownBlock = some k ∨ x.heap.size ≤ k
section
variable {B B2 : Nat} {x : World} {v v2 : Value} {l m : List Int} {v' : Value} {l' : List Int} {j : Nat} {y : World}
theorem Uni.later {z : World} (h : Uni B B2 x v v2 l m v' l' j y) (q : Below y.heap.size y z) : Uni B B2 x v v2 l m v' l' j z := ⟨h.one.later q, h.two.later q, h.mem, h.len, h.tn.later q, h.own⟩
theorem Uni.next (h : Uni B B2 x v v2 l m v' l' j y) : Uni B B2 x v v2 l m v' l' (j + 1) y := ⟨h.one, h.two, h.mem, by have := h.len; omega, h.tn, h.own⟩
theorem Uni.push (h : Uni B B2 x v v2 l m v' l' j y) (hne : ∀ k, v2.ownBlock = some k → k < x.heap.size ∧ ¬ v.ownBlock = some k) (hB : B ≤ x.heap.size) (hl : l.length + j ≤ 1000000) {n : Int} (hn : n ∈ m) : ∃ v'' z, (Builtin.append_ #[50, 50] 50 #[v', .slice (some ⟨y.heap.size, 0, none⟩) 1 1]).run Try.prog (y.alloc (.cells #[.int .i64 n] 3)) = .ok v'' z ∧ Uni B B2 x v v2 l m v'' (l' ++ [n]) (j + 1) z := by
  have b5 : Below y.heap.size y (y.alloc (.cells #[.int .i64 n] 3)) := (Below.refl y.heap.size y).alloc (Nat.le_refl _) _
  have hcell : (y.alloc (.cells #[.int .i64 n] 3)).cell? ⟨y.heap.size, 0, none⟩ = some (.int .i64 n) := (RowAt.new y 3 #[.int .i64 n]).cell 0 _ rfl
  have h5 := h.later b5
  have hs : x.heap.size ≤ (y.alloc (.cells #[.int .i64 n] 3)).heap.size := h5.tn.size
  have hl2 := h.len
  obtain ⟨v'', z, r, hO, hT, hw⟩ := h5.one.push_at n y.heap.size 1 hcell (Nat.le_trans hB hs) (by omega) 50
  refine ⟨v'', z, r, hO, h5.two.turned hT (fun k hk e => ?_), fun a ha => ?_, by rw [List.length_append, List.length_singleton]; omega, h5.tn.trans hT h.own, fun k hk => ?_⟩
  · rcases h.own k hk with q | q
    · exact (hne k e).2 q
    · have := (hne k e).1
      omega
  · rcases List.mem_append.1 ha with q | q
    · exact h.mem a q
    · rw [List.mem_singleton.1 q]
      exact .inr hn
  · rcases hw with q | q
    · rw [q] at hk
      exact h.own k hk
    · rw [q] at hk
      injection hk with hk
      exact .inr (by omega)
end
set_option maxRecDepth 8000 in
set_option maxHeartbeats 6400000 in
theorem union13 {B B2 : Nat} {x : World} {v v2 : Value} {l m : List Int} (h : OwnI B x v l) (h2 : OwnI B2 x v2 m) (hne : ∀ k, v2.ownBlock = some k → k < x.heap.size ∧ ¬ v.ownBlock = some k) (hB : B ≤ x.heap.size) (hl : l.length + m.length ≤ 1000000) :
    Calls Try.prog 21 #[v, v2] x fun e y => ∃ v' l', e = .returned v' ∧ Uni B B2 x v v2 l m v' l' m.length y := by
  obtain ⟨a2, c2, rfl⟩ := h2.shape
  have hc2 := h2.caps
  obtain ⟨a1, c1, hv1⟩ := h.shape
  have H0 := hide (show Uni B B2 x v (.slice a2 m.length c2) l m v l 0 x from ⟨h, h2, fun a ha => .inl ha, Nat.le_refl _, Tn.refl _ _, fun k hk => .inl hk⟩)
  have HNE := hide (And.intro hne hB)
  obtain ⟨n, hn⟩ : ∃ n, n = m.length := ⟨_, rfl⟩
  have HN := hide hn
  rw [← hn] at H0 HNE hc2 hl ⊢
  have HV := hide hv1
  clear h h2 hne hB hn hv1
  go_enter Try.func21, Try.ntmps21
  go_wp2
  go_loopw [0, 10] (fun v0 q wr => ∃ (j : Nat) (a : Option Addr) (c : Nat) (l' : List Int), j ≤ n ∧ q = .int .i64 j ∧ v0 = .slice a l'.length c ∧ Hid (Uni B B2 x v (.slice a2 n c2) l m (.slice a l'.length c) l' j wr)) (fun _ q _ => n - (intOf q).toNat)
  case atStart => exact ⟨0, a1, c1, l, Nat.zero_le _, rfl, HV.out, by rw [← HV.out]; exact H0⟩
  case round =>
    obtain ⟨j, a, c, l', hj, rfl, rfl, HU⟩ := hrel
    by_cases hlt : j < n
    · have i1 : (j : Int) < (n : Int) := by omega
      obtain ⟨k, hk⟩ : ∃ k, k = m.getD j 0 := ⟨_, rfl⟩
      have hjm : j < m.length := by rw [← HN.out]; exact hlt
      have HM := hide (show k ∈ m from by rw [hk, List.getD_eq_getElem?_getD, List.getElem?_eq_getElem hjm]; exact List.getElem_mem hjm)
      obtain ⟨b2, hb2, _⟩ := HU.out.two.at hjm
      subst hb2
      have HK := hide (fun y (hy : Uni B B2 x v (.slice (some ⟨b2, 0, none⟩) n c2) l m (.slice a l'.length c) l' j y) => show y.cell? ⟨b2, j, none⟩ = some (.int .i64 k) from by rw [hk]; exact hy.two.cellAt hjm)
      have hc := HU.out.one.caps
      have hlen := HU.out.len
      clear hk hjm
      go_wp2
      go_loopw [6, 15] (fun b q wr => ∃ (r : Bool) (i : Nat), i ≤ l'.length ∧ b = .bool r ∧ q = .int .i64 i ∧ Hid (Uni B B2 x v (.slice (some ⟨b2, 0, none⟩) n c2) l m (.slice a l'.length c) l' j wr)) (fun _ q _ => l'.length - (intOf q).toNat)
      case atStart => exact ⟨false, 0, Nat.zero_le _, rfl, rfl, HU⟩
      case round =>
        obtain ⟨r, i, hi, rfl, rfl, HW⟩ := hrel
        by_cases hil : i < l'.length
        · have i2 : (i : Int) < (l'.length : Int) := by omega
          obtain ⟨b1, hb1, _⟩ := HW.out.one.at hil
          subst hb1
          obtain ⟨q, hq⟩ : ∃ q, q = l'.getD i 0 := ⟨_, rfl⟩
          have HQ := hide (fun y (hy : Uni B B2 x v (.slice (some ⟨b2, 0, none⟩) n c2) l m (.slice (some ⟨b1, 0, none⟩) l'.length c) l' j y) => show y.cell? ⟨b1, i, none⟩ = some (.int .i64 q) from by rw [hq]; exact hy.one.cellAt hil)
          clear hq
          have hcl : Uni B B2 x v (.slice (some ⟨b2, 0, none⟩) n c2) l m (.slice (some ⟨b1, 0, none⟩) l'.length c) l' j wr.drew := HW.out.later ((Below.refl wr.heap.size wr).drew)
          cases r with
          | true =>
            go_wp2_with fail
            refine wp_region_in (fun y => Uni B B2 x v (.slice (some ⟨b2, 0, none⟩) n c2) l m (.slice (some ⟨b1, 0, none⟩) l'.length c) l' j y) (by kernel_rfl) (by kernel_rfl) (hcl) ?_
            refine wpQuiet_plain rfl (fun K hK => ?_); go_simp; refine hK _ ?_; clear hK K
            refine wpQuiet_plain rfl (fun K hK => ?_); go_simp; refine hK _ ?_; clear hK K
            go_big_quiet_skip
            go_big_quiet_skip
            go_big_quiet_skip
            go_big_quiet_skip
            go_big_quiet_skip
            go_big_quiet_skip
            go_big_quiet_skip
            go_big_quiet_skip
            go_big_quiet_skip
            refine wpQuiet_plain rfl (fun K hK => ?_); go_simp; refine hK _ ?_; clear hK K
            refine wpQuiet_plain rfl (fun K hK => ?_); go_simp; refine hK _ ?_; clear hK K
            refine wpQuiet_nil ?_
            intro y hy
            have HY := hide hy
            clear hy HW hcl
            go_wp2
            go_roundw
            case rel => exact ⟨_, i + 1, by omega, rfl, by go_num, HY⟩
            case measure => simp [intOf]; omega
          | false =>
            go_wp2_with fail
            refine wp_region_in (fun y => Uni B B2 x v (.slice (some ⟨b2, 0, none⟩) n c2) l m (.slice (some ⟨b1, 0, none⟩) l'.length c) l' j y) (by kernel_rfl) (by kernel_rfl) (hcl) ?_
            refine wpQuiet_plain rfl (fun K hK => ?_); go_simp; refine hK _ ?_; clear hK K
            refine wpQuiet_plain rfl (fun K hK => ?_); go_simp; refine hK _ ?_; clear hK K
            refine wpQuiet_plain rfl (fun K hK => ?_); go_simp; refine hK _ ?_; clear hK K
            refine wpQuiet_plain rfl (fun K hK => ?_); go_simp; refine hK _ ?_; clear hK K
            refine wpQuiet_plain rfl (fun K hK => ?_); go_simp; refine hK _ ?_; clear hK K
            refine wpQuiet_load rfl 3 (.tmp 22) rfl _ (.int .i64 q) rfl (fun y hy => load_num13 (HQ.out y hy)) ?_; simp only [Act.put, Array.setIfInBounds, List.size_toArray, List.length_cons, List.length_nil, Nat.reduceAdd, Nat.reduceLT, ↓reduceDIte, List.set_toArray, List.set_cons_succ, List.set_cons_zero]
            refine wpQuiet_plain rfl (fun K hK => ?_); go_simp; refine hK _ ?_; clear hK K
            refine wpQuiet_plain rfl (fun K hK => ?_); go_simp; refine hK _ ?_; clear hK K
            refine wpQuiet_plain rfl (fun K hK => ?_); go_simp; refine hK _ ?_; clear hK K
            refine wpQuiet_load rfl 3 (.tmp 26) rfl _ (.int .i64 k) rfl (fun y hy => load_num13 (HK.out y hy)) ?_; simp only [Act.put, Array.setIfInBounds, List.size_toArray, List.length_cons, List.length_nil, Nat.reduceAdd, Nat.reduceLT, ↓reduceDIte, List.set_toArray, List.set_cons_succ, List.set_cons_zero]
            refine wpQuiet_plain rfl (fun K hK => ?_); go_simp; refine hK _ ?_; clear hK K
            refine wpQuiet_plain rfl (fun K hK => ?_); go_simp; refine hK _ ?_; clear hK K
            refine wpQuiet_plain rfl (fun K hK => ?_); go_simp; refine hK _ ?_; clear hK K
            refine wpQuiet_nil ?_
            intro y hy
            have HY := hide hy
            clear hy HW hcl
            go_wp2
            go_roundw
            case rel => exact ⟨_, i + 1, by omega, rfl, by go_num, HY⟩
            case measure => simp [intOf]; omega
        · have i2 : ¬ (i : Int) < (l'.length : Int) := by omega
          cases r with
          | true =>
            go_wp2
            go_roundw
            case rel => exact ⟨j + 1, a, c, l', by omega, by go_num, rfl, HW.out.next⟩
            case measure => simp [intOf]; omega
          | false =>
            have c0 := HK.out wr HW.out
            obtain ⟨v'', z, ha, hU⟩ := HW.out.push HNE.out.1 HNE.out.2 (by omega) HM.out
            obtain ⟨a3, c3, rfl⟩ := hU.one.shape
            have HU2 := hide hU
            clear hU
            go_wp2_with (at_builtin; refine Lib.wpList_append_run _ rfl _ _ _ _ rfl _ _ rfl rfl _ _ ha ?_)
            go_roundw
            case rel => exact ⟨j + 1, a3, c3, l' ++ [k], by omega, by go_num, by simp, HU2⟩
            case measure => simp [intOf]; omega
    · have i1 : ¬ (j : Int) < (n : Int) := by omega
      obtain rfl : j = n := by omega
      go_wp2
      go_ret
      exact ⟨_, rfl, l', HU.out⟩
end Go.Proofs.Ytmlbghloddiflaa
end
section
namespace Go.Proofs.Ytmlbghloddiflaa
open Go.RowKit
set_option linter.unusedVariables false

theorem ring_yes {nb : Int → List Int} {w : Int} {n : Nat} {seen : List Int} {k : Nat} (hk : k < seen.length) (hn : 0 < n) (hw : w ∈ nb (seen.getD k 0)) : ringL nb w n seen k = true := by
  obtain ⟨n, rfl⟩ : ∃ j, n = j + 1 := ⟨n - 1, by omega⟩
  unfold ringL
  rw [if_pos hk, if_pos hw]
theorem ring_on {nb : Int → List Int} {w : Int} {n : Nat} {seen : List Int} {k : Nat} (hk : k < seen.length) (hn : 0 < n) (hw : ¬ w ∈ nb (seen.getD k 0)) : ringL nb w n seen k = ringL nb w (n - 1) (unionL seen (nb (seen.getD k 0))) (k + 1) := by
  obtain ⟨n, rfl⟩ : ∃ j, n = j + 1 := ⟨n - 1, by omega⟩
  conv => lhs; unfold ringL
  rw [if_pos hk, if_neg hw]
  rfl
theorem ring_no {nb : Int → List Int} {w : Int} {n : Nat} {seen : List Int} {k : Nat} (hk : ¬ k < seen.length) : ringL nb w n seen k = false := by
  cases n with
  | zero => rfl
  | succ n => unfold ringL; rw [if_neg hk]
/-- What stands at the head of the first loop. -/
structure Rg (w : World) (t : Tb) (who : Int) (N : Nat) (R : Bool) (v : Value) (sn : List Int) (k : Nat) (y : World) : Prop where
  one : OwnI w.heap.size y v sn
  bel : Below w.heap.size w y
  once : Once sn
  sub : ∀ a ∈ sn, a ∈ t.owners
  ring : ringL t.behL who (N - k) sn k = R
/-- .. of the second one. -/
structure Rg2 (t : Tb) (who : Int) (sn m l' : List Int) (i : Nat) : Prop where
  un : unionL l' (m.drop i) = unionL sn m
  once : Once l'
  no : ∀ a ∈ m.take i, a ≠ who
  sub : ∀ a ∈ l', a ∈ t.owners
section
variable {B : Nat} {w : World} {h : Nat} {vH vR : Value} {t : Tb}
set_option maxRecDepth 8000 in
set_option maxHeartbeats 3200000 in
theorem rring13 (q : RT B w h vH vR t) (who : Int) : Calls Try.prog 60 #[.pointer (some ⟨h, 0, none⟩), .int .i64 who] w fun e w' => e = .returned (.bool (t.ring who)) ∧ Below w.heap.size w w' := by
  obtain ⟨R, hR⟩ : ∃ R, t.ring who = R := ⟨_, rfl⟩
  rw [hR]
  obtain ⟨N, hN⟩ : ∃ N, t.owners.length = N := ⟨_, rfl⟩
  have HN := hide hN
  have hN6 : N ≤ 6000 := by
    have h1 := owners_len t
    have h2 := q.len
    omega
  have HRR := hide (show ringL t.behL who N (t.behL who) 0 = R from by rw [← hN]; exact hR)
  have HT := hide (rbehind13 q who)
  have HQ := hide q
  clear q hR hN
  go_enter Try.func60, Try.ntmps60
  go_wp2_with fail
  refine HT.out.mono ?_
  rintro e w1 ⟨v1, rfl, hO, hb1⟩
  obtain ⟨a1, c1, rfl⟩ := hO.shape
  have H0 := hide (show Rg w t who N R (.slice a1 (t.behL who).length c1) (t.behL who) 0 w1 from ⟨hO, hb1, once_behL t who, fun a ha => mem_owners.2 (beh_names (mem_behL.1 ha)), HRR.out⟩)
  clear hO hb1 HT
  go_wp2
  go_loopw [5, 6] (fun v q wr => ∃ (a5 : Option Addr) (c5 : Nat) (sn : List Int) (k : Nat), k ≤ N ∧ v = .slice a5 sn.length c5 ∧ q = .int .i64 k ∧ Hid (Rg w t who N R (.slice a5 sn.length c5) sn k wr)) (fun _ q _ => N - (intOf q).toNat)
  case atStart => exact ⟨a1, c1, t.behL who, 0, Nat.zero_le _, rfl, rfl, H0⟩
  case round =>
    obtain ⟨a5, c5, sn, k, hkN, rfl, rfl, HG⟩ := hrel
    have hsn : sn.length ≤ N := by rw [← HN.out]; exact once_le HG.out.once HG.out.sub
    by_cases hk : k < sn.length
    · have i1 : (k : Int) < (sn.length : Int) := by omega
      obtain ⟨b5, hb5, -⟩ := HG.out.one.at hk
      subst hb5
      obtain ⟨z, hz⟩ : ∃ z, z = sn.getD k 0 := ⟨_, rfl⟩
      have c0 : wr.cell? ⟨b5, k, none⟩ = some (.int .i64 z) := by rw [hz]; exact HG.out.one.cellAt hk
      have HT := hide (rbehind13 (HQ.out.later HG.out.bel) z)
      have hcap5 := HG.out.one.caps
      have HZ := hide hz
      clear hz
      go_wp2_with fail
      refine HT.out.mono ?_
      rintro e w2 ⟨v7, rfl, hO7, hb2⟩
      obtain ⟨a7, c7, rfl⟩ := hO7.shape
      obtain ⟨m, hm⟩ : ∃ m, m = t.behL z := ⟨_, rfl⟩
      rw [← hm] at hO7 ⊢
      have hml : m.length ≤ N := by rw [hm, ← HN.out]; exact once_le (once_behL t z) (fun a ha => mem_owners.2 (beh_names (mem_behL.1 ha)))
      have hcap7 := hO7.caps
      have HM := hide hm
      have HNE := hide (show ∀ q, (Value.slice a7 m.length c7).ownBlock = some q → q < w2.heap.size ∧ ¬ (Value.slice (some ⟨b5, 0, none⟩) sn.length c5).ownBlock = some q from fun q hq => by
        obtain ⟨h1, cs, h2⟩ := hO7.block hq
        refine ⟨h2.lt, fun e => ?_⟩
        obtain ⟨_, cs', h3⟩ := HG.out.one.block e
        have := h3.lt
        omega)
      obtain ⟨n7, hn7⟩ : ∃ n7, n7 = m.length := ⟨_, rfl⟩
      have HN7 := hide hn7
      rw [← hn7] at hO7 hml hcap7 HNE ⊢
      obtain ⟨B7, hB7⟩ : ∃ B7, B7 = wr.heap.size := ⟨_, rfl⟩
      rw [← hB7] at hO7
      clear hB7
      have HU := hide (show Uni w.heap.size B7 w2 (.slice (some ⟨b5, 0, none⟩) sn.length c5) (.slice a7 n7 c7) sn m (.slice (some ⟨b5, 0, none⟩) sn.length c5) sn 0 w2 from ⟨HG.out.one.later hb2, hO7, fun a ha => .inl ha, Nat.le_refl _, Tn.refl _ _, fun k hk => .inl hk⟩)
      have HV := hide (show Rg2 t who sn m sn 0 from ⟨rfl, HG.out.once, fun a ha => absurd ha (by simp), HG.out.sub⟩)
      have HB2 := hide (show Below w.heap.size w w2 ∧ w.heap.size ≤ w2.heap.size from ⟨HG.out.bel.trans (hb2.mono HG.out.bel.size), Nat.le_trans HG.out.bel.size hb2.size⟩)
      have HRG := hide HG.out.ring
      have HOO := hide HG.out.one
      clear hO7 hb2 HT hm hn7 c0
      go_wp2
      go_loopw [5, 28] (fun v q wq => ∃ (a : Option Addr) (c : Nat) (l' : List Int) (i : Nat), i ≤ n7 ∧ v = .slice a l'.length c ∧ q = .int .i64 i ∧ Hid (Uni w.heap.size B7 w2 (.slice (some ⟨b5, 0, none⟩) sn.length c5) (.slice a7 n7 c7) sn m (.slice a l'.length c) l' i wq ∧ Rg2 t who sn m l' i)) (fun _ q _ => n7 - (intOf q).toNat)
      case atStart => exact ⟨some ⟨b5, 0, none⟩, c5, sn, 0, Nat.zero_le _, rfl, rfl, HU.out, HV.out⟩
      case round =>
        obtain ⟨a, c, l', i, hi, rfl, rfl, HW⟩ := hrel
        have hl' : l'.length ≤ N := by rw [← HN.out]; exact once_le HW.out.2.once HW.out.2.sub
        by_cases hil : i < n7
        · have i2 : (i : Int) < (n7 : Int) := by omega
          have him : i < m.length := by rw [← HN7.out]; exact hil
          obtain ⟨b7, hb7, -⟩ := HW.out.1.two.at him
          subst hb7
          obtain ⟨kz, hkz⟩ : ∃ kz, kz = m.getD i 0 := ⟨_, rfl⟩
          have HKZ := hide (show kz ∈ m ∧ m.drop i = kz :: m.drop (i + 1) ∧ m.take (i + 1) = m.take i ++ [kz] from by
            have e : m.getD i 0 = m[i] := by rw [List.getD_eq_getElem?_getD, List.getElem?_eq_getElem him]; rfl
            rw [hkz, e]
            exact ⟨List.getElem_mem him, List.drop_eq_getElem_cons him, List.take_succ_eq_append_getElem him⟩)
          have HK := hide (fun (y : World) (v' : Value) (l2 : List Int) (i' : Nat) (hy : Uni w.heap.size B7 w2 (.slice (some ⟨b5, 0, none⟩) sn.length c5) (.slice (some ⟨b7, 0, none⟩) n7 c7) sn m v' l2 i' y) => show y.cell? ⟨b7, i, none⟩ = some (.int .i64 kz) from by rw [hkz]; exact hy.two.cellAt him)
          have hcl := HW.out.1.one.caps
          have c0 := HK.out _ _ _ _ HW.out.1
          clear hkz
          by_cases hkw : kz = who
          · have e1 : (kz == who) = true := by rw [beq_iff_eq]; exact hkw
            have HF := hide (show R = true from by
              rw [← HRG.out]
              refine ring_yes hk (by omega) ?_
              rw [← HZ.out, ← HM.out, ← hkw]
              exact HKZ.out.1)
            have HX := hide (show Below w.heap.size w wr from HB2.out.1.trans (HW.out.1.tn.below (fun k hk => (HOO.out.block hk).1) HB2.out.2))
            clear hkw
            go_wp2
            go_ret
            rw [HF.out]
            exact ⟨rfl, HX.out⟩
          · have e1 : (kz == who) = false := by rw [beq_eq_false_iff_ne]; exact hkw
            have HKW := hide hkw
            clear hkw
            go_wp2
            clear c0
            go_loopw [9, 39] (fun b q wp => ∃ (r : Bool) (j : Nat), j ≤ l'.length ∧ b = .bool r ∧ q = .int .i64 j ∧ Hid (Uni w.heap.size B7 w2 (.slice (some ⟨b5, 0, none⟩) sn.length c5) (.slice (some ⟨b7, 0, none⟩) n7 c7) sn m (.slice a l'.length c) l' i wp ∧ (r = true ↔ kz ∈ l'.take j))) (fun _ q _ => l'.length - (intOf q).toNat)
            case atStart => exact ⟨false, 0, Nat.zero_le _, rfl, rfl, HW.out.1, by simp⟩
            case round =>
              obtain ⟨r, j, hj, rfl, rfl, HP⟩ := hrel
              by_cases hjl : j < l'.length
              · have i3 : (j : Int) < (l'.length : Int) := by omega
                obtain ⟨b1, hb1, -⟩ := HP.out.1.one.at hjl
                subst hb1
                obtain ⟨q, hq⟩ : ∃ q, q = l'.getD j 0 := ⟨_, rfl⟩
                have HTK := hide (show l'.take (j + 1) = l'.take j ++ [q] from by
                  have e : l'.getD j 0 = l'[j] := by rw [List.getD_eq_getElem?_getD, List.getElem?_eq_getElem hjl]; rfl
                  rw [hq, e]
                  exact List.take_succ_eq_append_getElem hjl)
                have HQ1 := hide (fun (y : World) (hy : Uni w.heap.size B7 w2 (.slice (some ⟨b5, 0, none⟩) sn.length c5) (.slice (some ⟨b7, 0, none⟩) n7 c7) sn m (.slice (some ⟨b1, 0, none⟩) l'.length c) l' i y) => show y.cell? ⟨b1, j, none⟩ = some (.int .i64 q) from by rw [hq]; exact hy.one.cellAt hjl)
                clear hq
                have hcls := HP.out.1.later ((Below.refl wr.heap.size wr).drew)
                have HPR := hide HP.out.2
                cases r with
                | true =>
                  go_wp2_with fail
                  refine wp_region_in (fun y => Uni w.heap.size B7 w2 (.slice (some ⟨b5, 0, none⟩) sn.length c5) (.slice (some ⟨b7, 0, none⟩) n7 c7) sn m (.slice (some ⟨b1, 0, none⟩) l'.length c) l' i y) (by kernel_rfl) (by kernel_rfl) (hcls) ?_
                  refine wpQuiet_plain rfl (fun K hK => ?_); go_simp; refine hK _ ?_; clear hK K
                  refine wpQuiet_plain rfl (fun K hK => ?_); go_simp; refine hK _ ?_; clear hK K
                  go_big_quiet_skip
                  go_big_quiet_skip
                  go_big_quiet_skip
                  go_big_quiet_skip
                  go_big_quiet_skip
                  go_big_quiet_skip
                  go_big_quiet_skip
                  go_big_quiet_skip
                  go_big_quiet_skip
                  refine wpQuiet_plain rfl (fun K hK => ?_); go_simp; refine hK _ ?_; clear hK K
                  refine wpQuiet_plain rfl (fun K hK => ?_); go_simp; refine hK _ ?_; clear hK K
                  refine wpQuiet_nil ?_
                  intro y hy
                  have HY := hide hy
                  have HM2 := hide (show kz ∈ l'.take (j + 1) from by rw [HTK.out]; exact List.mem_append_left _ (HPR.out.1 (by first | rfl | trivial)))
                  clear hy HP hcls
                  go_wp2
                  go_roundw
                  case rel => exact ⟨true, j + 1, by omega, rfl, by go_num, HY.out, fun _ => HM2.out, fun _ => rfl⟩
                  case measure => simp [intOf]; omega
                | false =>
                  by_cases hqk : q = kz
                  · have e5 : (q == kz) = true := by rw [beq_iff_eq]; exact hqk
                    have e6 : decide (q = kz) = true := by simpa using hqk
                    have HM2 := hide (show kz ∈ l'.take (j + 1) from by rw [HTK.out, hqk]; simp)
                    clear hqk
                    go_wp2_with fail
                    refine wp_region_in (fun y => Uni w.heap.size B7 w2 (.slice (some ⟨b5, 0, none⟩) sn.length c5) (.slice (some ⟨b7, 0, none⟩) n7 c7) sn m (.slice (some ⟨b1, 0, none⟩) l'.length c) l' i y) (by kernel_rfl) (by kernel_rfl) (hcls) ?_
                    refine wpQuiet_plain rfl (fun K hK => ?_); go_simp; refine hK _ ?_; clear hK K
                    refine wpQuiet_plain rfl (fun K hK => ?_); go_simp; refine hK _ ?_; clear hK K
                    refine wpQuiet_plain rfl (fun K hK => ?_); go_simp; refine hK _ ?_; clear hK K
                    refine wpQuiet_plain rfl (fun K hK => ?_); go_simp; refine hK _ ?_; clear hK K
                    refine wpQuiet_plain rfl (fun K hK => ?_); go_simp; refine hK _ ?_; clear hK K
                    refine wpQuiet_load rfl 3 (.tmp 46) rfl _ (.int .i64 q) rfl (fun y hy => load_num13 (HQ1.out y hy)) ?_; simp only [Act.put, Array.setIfInBounds, List.size_toArray, List.length_cons, List.length_nil, Nat.reduceAdd, Nat.reduceLT, ↓reduceDIte, List.set_toArray, List.set_cons_succ, List.set_cons_zero]
                    refine wpQuiet_plain rfl (fun K hK => ?_); go_simp; refine hK _ ?_; clear hK K
                    refine wpQuiet_plain rfl (fun K hK => ?_); go_simp; refine hK _ ?_; clear hK K
                    refine wpQuiet_plain rfl (fun K hK => ?_); go_simp; refine hK _ ?_; clear hK K
                    refine wpQuiet_load rfl 3 (.tmp 50) rfl _ (.int .i64 kz) rfl (fun y hy => load_num13 (HK.out _ _ _ _ hy)) ?_; simp only [Act.put, Array.setIfInBounds, List.size_toArray, List.length_cons, List.length_nil, Nat.reduceAdd, Nat.reduceLT, ↓reduceDIte, List.set_toArray, List.set_cons_succ, List.set_cons_zero]
                    refine wpQuiet_plain rfl (fun K hK => ?_); go_simp; refine hK _ ?_; clear hK K
                    refine wpQuiet_plain rfl (fun K hK => ?_); go_simp; refine hK _ ?_; clear hK K
                    refine wpQuiet_plain rfl (fun K hK => ?_); go_simp; refine hK _ ?_; clear hK K
                    refine wpQuiet_nil ?_
                    intro y hy
                    have HY := hide hy
                    clear hy HP hcls
                    go_wp2
                    go_roundw
                    case rel => exact ⟨true, j + 1, by omega, by first | rfl | simp [e5, e6], by go_num, HY.out, fun _ => HM2.out, fun _ => rfl⟩
                    case measure => simp [intOf]; omega
                  · have e5 : (q == kz) = false := by rw [beq_eq_false_iff_ne]; exact hqk
                    have e6 : decide (q = kz) = false := by simpa using hqk
                    have HM2 := hide (show ¬ kz ∈ l'.take (j + 1) from fun e => by
                      rw [HTK.out, List.mem_append, List.mem_singleton] at e
                      rcases e with e | e
                      · have := HPR.out.2 e
                        simp at this
                      · exact absurd e.symm hqk)
                    clear hqk
                    go_wp2_with fail
                    refine wp_region_in (fun y => Uni w.heap.size B7 w2 (.slice (some ⟨b5, 0, none⟩) sn.length c5) (.slice (some ⟨b7, 0, none⟩) n7 c7) sn m (.slice (some ⟨b1, 0, none⟩) l'.length c) l' i y) (by kernel_rfl) (by kernel_rfl) (hcls) ?_
                    refine wpQuiet_plain rfl (fun K hK => ?_); go_simp; refine hK _ ?_; clear hK K
                    refine wpQuiet_plain rfl (fun K hK => ?_); go_simp; refine hK _ ?_; clear hK K
                    refine wpQuiet_plain rfl (fun K hK => ?_); go_simp; refine hK _ ?_; clear hK K
                    refine wpQuiet_plain rfl (fun K hK => ?_); go_simp; refine hK _ ?_; clear hK K
                    refine wpQuiet_plain rfl (fun K hK => ?_); go_simp; refine hK _ ?_; clear hK K
                    refine wpQuiet_load rfl 3 (.tmp 46) rfl _ (.int .i64 q) rfl (fun y hy => load_num13 (HQ1.out y hy)) ?_; simp only [Act.put, Array.setIfInBounds, List.size_toArray, List.length_cons, List.length_nil, Nat.reduceAdd, Nat.reduceLT, ↓reduceDIte, List.set_toArray, List.set_cons_succ, List.set_cons_zero]
                    refine wpQuiet_plain rfl (fun K hK => ?_); go_simp; refine hK _ ?_; clear hK K
                    refine wpQuiet_plain rfl (fun K hK => ?_); go_simp; refine hK _ ?_; clear hK K
                    refine wpQuiet_plain rfl (fun K hK => ?_); go_simp; refine hK _ ?_; clear hK K
                    refine wpQuiet_load rfl 3 (.tmp 50) rfl _ (.int .i64 kz) rfl (fun y hy => load_num13 (HK.out _ _ _ _ hy)) ?_; simp only [Act.put, Array.setIfInBounds, List.size_toArray, List.length_cons, List.length_nil, Nat.reduceAdd, Nat.reduceLT, ↓reduceDIte, List.set_toArray, List.set_cons_succ, List.set_cons_zero]
                    refine wpQuiet_plain rfl (fun K hK => ?_); go_simp; refine hK _ ?_; clear hK K
                    refine wpQuiet_plain rfl (fun K hK => ?_); go_simp; refine hK _ ?_; clear hK K
                    refine wpQuiet_plain rfl (fun K hK => ?_); go_simp; refine hK _ ?_; clear hK K
                    refine wpQuiet_nil ?_
                    intro y hy
                    have HY := hide hy
                    clear hy HP hcls
                    go_wp2
                    go_roundw
                    case rel => exact ⟨false, j + 1, by omega, by first | rfl | simp [e5, e6], by go_num, HY.out, (fun e => by cases e), fun e => absurd e HM2.out⟩
                    case measure => simp [intOf]; omega
              · have i3 : ¬ (j : Int) < (l'.length : Int) := by omega
                have HPR := hide (show r = true ↔ kz ∈ l' from by
                  have e : l'.take j = l' := List.take_of_length_le (by omega)
                  rw [← e]
                  exact HP.out.2)
                cases r with
                | true =>
                  have HW2 := hide (show Rg2 t who sn m l' (i + 1) from ⟨by
                    rw [← HW.out.2.un, HKZ.out.2.1]
                    conv => rhs; unfold unionL
                    rw [if_pos (HPR.out.1 (by first | rfl | trivial))], HW.out.2.once, fun a ha => by
                    rw [HKZ.out.2.2, List.mem_append, List.mem_singleton] at ha
                    rcases ha with ha | ha
                    · exact HW.out.2.no a ha
                    · rw [ha]; exact HKW.out, HW.out.2.sub⟩)
                  have HP1 := hide HP.out.1.next
                  clear HP
                  go_wp2
                  go_roundw
                  case rel => exact ⟨a, c, l', i + 1, by omega, rfl, by go_num, HP1.out, HW2.out⟩
                  case measure => simp [intOf]; omega
                | false =>
                  have hnot : ¬ kz ∈ l' := fun e => by have := HPR.out.2 e; simp at this
                  have HW2 := hide (show Rg2 t who sn m (l' ++ [kz]) (i + 1) from ⟨by
                    rw [← HW.out.2.un, HKZ.out.2.1]
                    conv => rhs; unfold unionL
                    rw [if_neg hnot], List.pairwise_append.2 ⟨HW.out.2.once, List.pairwise_singleton _ _, fun x hx y hy e => by
                    rw [List.mem_singleton.1 hy] at e
                    exact hnot (e ▸ hx)⟩, fun a ha => by
                    rw [HKZ.out.2.2, List.mem_append, List.mem_singleton] at ha
                    rcases ha with ha | ha
                    · exact HW.out.2.no a ha
                    · rw [ha]; exact HKW.out, fun a ha => by
                    rcases List.mem_append.1 ha with ha | ha
                    · exact HW.out.2.sub a ha
                    · rw [List.mem_singleton.1 ha]
                      have q := HKZ.out.1
                      rw [HM.out] at q
                      exact mem_owners.2 (beh_names (mem_behL.1 q))⟩)
                  have c0 := HK.out _ _ _ _ HP.out.1
                  obtain ⟨v'', zz, ha, hU⟩ := HP.out.1.push HNE.out HB2.out.2 (by omega) HKZ.out.1
                  obtain ⟨a3, c3, rfl⟩ := hU.one.shape
                  have HU2 := hide hU
                  clear hU HP hnot
                  go_wp2_with (with_reducible refine stop_at 63 rfl ?_)
                  refine unstop10 ?_
                  refine Lib.wpList_append_run _ rfl _ _ _ _ rfl _ _ rfl rfl _ _ ha ?_
                  clear c0
                  go_wp2
                  go_roundw
                  case rel => exact ⟨a3, c3, l' ++ [kz], i + 1, by omega, by simp, by go_num, HU2.out, HW2.out⟩
                  case measure => simp [intOf]; omega
        · have i2 : ¬ (i : Int) < (n7 : Int) := by omega
          have HG2 := hide (show Rg w t who N R (.slice a l'.length c) l' (k + 1) wr from by
            have eu : l' = unionL sn m := by
              have e := HW.out.2.un
              rw [List.drop_of_length_le (by rw [← HN7.out]; omega)] at e
              exact e
            refine ⟨HW.out.1.one, HB2.out.1.trans (HW.out.1.tn.below (fun k hk => (HOO.out.block hk).1) HB2.out.2), HW.out.2.once, HW.out.2.sub, ?_⟩
            rw [← HRG.out, ring_on hk (by omega) (by
              rw [← HZ.out, ← HM.out]
              intro e
              have e2 := HW.out.2.no who (by rw [List.take_of_length_le (by rw [← HN7.out]; omega)]; exact e)
              exact e2 rfl), ← HZ.out, ← HM.out, ← eu, Nat.sub_sub])
          clear HW
          go_wp2
          go_roundw
          case rel => exact ⟨a, c, l', k + 1, by omega, rfl, by go_num, HG2⟩
          case measure => simp [intOf]; omega
    · have i1 : ¬ (k : Int) < (sn.length : Int) := by omega
      have HF := hide (show R = false from by rw [← HG.out.ring]; exact ring_no hk)
      have HX := hide HG.out.bel
      go_wp2
      go_ret
      rw [HF.out]
      exact ⟨rfl, HX.out⟩
end
end Go.Proofs.Ytmlbghloddiflaa
end
section
namespace Go.Proofs.Ytmlbghloddiflaa
open Go.RowKit
set_option linter.unusedVariables false

theorem away_len (l : List Hd) (w : Int) : (awayL l w).length ≤ l.length := List.length_filter_le _ _
theorem away_len_mem {l : List Hd} {k : Hd} (h : k ∈ l) : (awayL l k.w).length + 1 ≤ l.length := by
  unfold awayL
  induction l with
  | nil => exact absurd h (by simp)
  | cons a l ih =>
    rcases List.mem_cons.1 h with e | e
    · subst e
      rw [List.filter_cons, if_neg (by simp)]
      have := List.length_filter_le (fun h : Hd => decide (h.w ≠ k.w)) l
      simp only [List.length_cons]
      omega
    · have := ih e
      rw [List.filter_cons]
      split
      · simp only [List.length_cons]; omega
      · simp only [List.length_cons]; omega
/-- What stands at the head of both loops: the table, those who got in, and how both go on. -/
structure Lk (B : Nat) (w : World) (h : Nat) (vH vR : Value) (M : Nat) (v : Value) (vH' vR' : Value) (t : Tb) (out : List Int) (y : World) : Prop where
  rt : RT B y h vH' vR' t
  tn : Tn (RF h vH vR) w y
  rf : ∀ k, RF h vH' vR' k → RF h vH vR k ∨ w.heap.size ≤ k
  own : OwnI w.heap.size y v out
  len : t.has.length + t.row.length ≤ M
  ol : out.length + t.row.length ≤ M
section
variable {B : Nat} {w : World} {h : Nat} {vH vR : Value} {M : Nat} {v vH' vR' : Value} {t : Tb} {out : List Int} {y z : World}
theorem Lk.later (q : Lk B w h vH vR M v vH' vR' t out y) (b : Below y.heap.size y z) : Lk B w h vH vR M v vH' vR' t out z := ⟨q.rt.later b, q.tn.later b, q.rf, q.own.later b, q.len, q.ol⟩
/-- The blocks of the table hold no numbers. -/
theorem RT.noI (q : RT B y h vH' vR' t) {k : Nat} {cs : Array Value} (hr : RowAt y k 3 cs) : ¬ RF h vH' vR' k := by
  rintro (e | e | e)
  · subst e
    exact absurd (row_kind q.blk hr) (by decide)
  · obtain ⟨_, cs', r⟩ := q.has.block e
    exact absurd (row_kind r hr) (by decide)
  · obtain ⟨_, cs', r⟩ := q.row.block e
    exact absurd (row_kind r hr) (by decide)
/-- Behind a call that turns the table. -/
theorem Lk.turn {t2 : Tb} (q : Lk B w h vH vR M v vH' vR' t out y) (r : RAft B y h vH' vR' t2 z) (hl : t2.has.length + t2.row.length ≤ M) (ho : out.length + t2.row.length ≤ M) : ∃ vH2 vR2, Lk B w h vH vR M v vH2 vR2 t2 out z := by
  obtain ⟨a, b, c, d, e⟩ := r
  refine ⟨a, b, c, q.tn.trans d q.rf, fun k hk => ?_, q.own.turned d (fun k hk e2 => ?_), hl, ho⟩
  · rcases e k hk with e | e
    · exact q.rf k e
    · exact .inr (Nat.le_trans q.tn.size e)
  · obtain ⟨_, cs, r2⟩ := q.own.block e2
    exact q.rt.noI r2 hk
end
/-- The same, with the row that is looked through. -/
structure Lk2 (B : Nat) (w : World) (h : Nat) (vH vR : Value) (M : Nat) (v : Value) (vH' vR' : Value) (t : Tb) (out : List Int) (Bl : Nat) (lv : Value) (m0 : List Hd) (y : World) : Prop where
  lk : Lk B w h vH vR M v vH' vR' t out y
  l : OwnR Bl y lv m0
  dis : ∀ k, RF h vH' vR' k → ¬ lv.ownBlock = some k
section
variable {B : Nat} {w : World} {h : Nat} {vH vR : Value} {M : Nat} {v vH' vR' : Value} {t : Tb} {out : List Int} {Bl : Nat} {lv : Value} {m0 : List Hd} {y z : World}
theorem Lk2.later (q : Lk2 B w h vH vR M v vH' vR' t out Bl lv m0 y) (b : Below y.heap.size y z) : Lk2 B w h vH vR M v vH' vR' t out Bl lv m0 z := ⟨q.lk.later b, q.l.later b, q.dis⟩
theorem Lk2.turn {t2 : Tb} (q : Lk2 B w h vH vR M v vH' vR' t out Bl lv m0 y) (r : RAft B y h vH' vR' t2 z) (hl : t2.has.length + t2.row.length ≤ M) (ho : out.length + t2.row.length + 1 ≤ M) {m : Int} (hw : w.heap.size ≤ z.heap.size) (hol : out.length ≤ 100000) :
    ∃ vH2 vR2 v2 z2, (Builtin.append_ #[50, 50] 50 #[v, .slice (some ⟨z.heap.size, 0, none⟩) 1 1]).run Try.prog (z.alloc (.cells #[.int .i64 m] 3)) = .ok v2 z2 ∧ Lk2 B w h vH vR M v2 vH2 vR2 t2 (out ++ [m]) Bl lv m0 z2 := by
  have hown : OwnI w.heap.size z v out := by
    obtain ⟨a, b, c, d, e⟩ := r
    exact q.lk.own.turned d (fun k hk e2 => by
      obtain ⟨_, cs, r2⟩ := q.lk.own.block e2
      exact q.lk.rt.noI r2 hk)
  have b5 : Below z.heap.size z (z.alloc (.cells #[.int .i64 m] 3)) := (Below.refl z.heap.size z).alloc (Nat.le_refl _) _
  have hcell : (z.alloc (.cells #[.int .i64 m] 3)).cell? ⟨z.heap.size, 0, none⟩ = some (.int .i64 m) := (RowAt.new z 3 #[.int .i64 m]).cell 0 _ rfl
  obtain ⟨v2, z2, r2, o2, t2'⟩ := (hown.later b5).push m z.heap.size 1 hcell (Nat.le_trans hw b5.size) (by omega) 50
  obtain ⟨a, b, c, d, e⟩ := r
  have hoz : Tn (fun k => v.ownBlock = some k) z z2 := (Tn.of_below b5).then t2'
  have hnoI : ∀ k, v.ownBlock = some k → ¬ RF h a b k := fun k hk hf => by
    obtain ⟨_, cs, r3⟩ := hown.block hk
    exact c.noI r3 hf
  have hblk : ¬ v.ownBlock = some h := fun e2 => hnoI h e2 (.inl rfl)
  have hrt : RT B z2 h a b t2 := ⟨hoz.row c.blk hblk, c.has.turned hoz (fun k hk e2 => hnoI k hk (.inr (.inl e2))), c.row.turned hoz (fun k hk e2 => hnoI k hk (.inr (.inr e2))), c.off, c.new, c.len⟩
  have hlz : OwnR Bl z lv m0 := q.l.turned d (fun k hk => q.dis k hk)
  have hdz : ∀ k, RF h a b k → ¬ lv.ownBlock = some k := fun k hk e2 => by
    rcases e k hk with e3 | e3
    · exact q.dis k e3 e2
    · obtain ⟨_, cs, r3⟩ := q.l.block e2
      have := r3.lt
      omega
  refine ⟨a, b, v2, z2, r2, ⟨hrt, ?_, fun k hk => ?_, o2, hl, by rw [List.length_append, List.length_singleton]; omega⟩, hlz.turned hoz (fun k hk e2 => ?_), hdz⟩
  · refine (q.lk.tn.trans d q.lk.rf).trans hoz (fun k hk => .inr (hown.block hk).1)
  · rcases e k hk with e3 | e3
    · exact q.lk.rf k e3
    · exact .inr (Nat.le_trans q.lk.tn.size e3)
  · obtain ⟨_, cs, r3⟩ := hown.block hk
    obtain ⟨_, cs', r4⟩ := hlz.block e2
    exact absurd (row_kind r4 r3) (by decide)
end
theorem let_yes {x : Int} {m : Hd} {l : List Hd} {t : Tb} (hf : t.fits m.w x m.m = true) : letL x (m :: l) t = ((letL x l ((t.give m).away m.w)).1, m.w :: (letL x l ((t.give m).away m.w)).2) := by
  conv => lhs; unfold letL
  rw [if_pos hf]
/-- What the second loop has done. -/
structure Lm (x : Int) (t0 : Tb) (out0 : List Int) (m0 : List Hd) (i : Nat) (t : Tb) (out : List Int) : Prop where
  tb : (letL x (m0.drop i) t).1 = (letL x m0 t0).1
  ls : out ++ (letL x (m0.drop i) t).2 = out0 ++ (letL x m0 t0).2
  mem : ∀ k ∈ m0.drop i, k ∈ t.row
section
variable {B : Nat} {w : World} {h : Nat} {vH vR : Value} {t : Tb}
set_option maxRecDepth 8000 in
set_option maxHeartbeats 1600000 in
theorem rlook13 (q : RT B w h vH vR t) (hB : B ≤ w.heap.size) (hok : t.ok) {M : Nat} (hM : t.has.length + t.row.length ≤ M) (hM3 : M + 1 ≤ 3000) : Calls Try.prog 62 #[.pointer (some ⟨h, 0, none⟩)] w fun e w' => ∃ v, e = .returned v ∧ OwnI w.heap.size w' v t.look.2 ∧ RAft B w h vH vR t.look.1 w' := by
  have H0 := hide (show Lk B w h vH vR M (.slice none 0 0) vH vR t [] w from ⟨q, Tn.refl _ _, fun k hk => .inl hk, OwnI.nil _ _, hM, by simp; omega⟩)
  have HOK := hide hok
  have HB := hide hB
  obtain ⟨T, hT⟩ : ∃ T, t.look = T := ⟨_, rfl⟩
  have HTT := hide (show lookL 288 0 t = T from hT)
  rw [hT]
  clear q hok hM hB hT
  go_enter Try.func62, Try.ntmps62
  go_wp2
  go_loopw [3, 4] (fun v q wr => ∃ x : Nat, x ≤ 288 ∧ q = .int .i64 x ∧ Hid (∃ vH' vR' t' out, Lk B w h vH vR M v vH' vR' t' out wr ∧ t'.ok ∧ (lookL (288 - x) (x : Int) t').1 = T.1 ∧ out ++ (lookL (288 - x) (x : Int) t').2 = T.2)) (fun _ q _ => 288 - (intOf q).toNat)
  case atStart => exact ⟨0, Nat.zero_le _, rfl, vH, vR, t, [], H0.out, HOK.out, by rw [← HTT.out]; rfl, by rw [← HTT.out]; rfl⟩
  case round =>
    obtain ⟨x, hx, rfl, HR⟩ := hrel
    by_cases hlt : x < 288
    · have i1 : (x : Int) < 288 := by omega
      obtain ⟨vH', vR', t', out, hLk, hok', hT1, hT2⟩ := HR.out
      have HT := hide (rqueueL13 hLk.rt (x : Int))
      have HLK := hide hLk
      have HOK' := hide hok'
      have HT12 := hide (And.intro hT1 hT2)
      clear hLk hok' hT1 hT2 HR
      go_wp2_with fail
      refine HT.out.mono ?_
      rintro e w1 ⟨lv, rfl, hOl, hb1⟩
      obtain ⟨al, cl, rfl, hcl, hcl2⟩ := hOl.shape
      obtain ⟨m0, hm0⟩ : ∃ m0, t'.que (x : Int) = m0 := ⟨_, rfl⟩
      rw [hm0] at hOl hcl ⊢
      have HM0 := hide hm0
      obtain ⟨n, hn⟩ : ∃ n, m0.length = n := ⟨_, rfl⟩
      have HN := hide hn
      rw [hn] at hOl hcl ⊢
      have hn3 : n ≤ 3000 := by
        rw [← hn, ← hm0]
        exact Nat.le_trans (List.length_filter_le _ _) HLK.out.rt.len.2
      have HPW := hide (show m0.Pairwise (fun a b => a.w ≠ b.w) from by rw [← hm0]; exact HOK'.out.rone.filter _)
      have HL2 := hide (show Lk2 B w h vH vR M _ vH' vR' t' out wr.heap.size (.slice al n cl) m0 w1 from ⟨HLK.out.later hb1, hOl, fun k hk e => by
        obtain ⟨h1, cs, r1⟩ := hOl.block e
        have : k < wr.heap.size := by
          rcases hk with e2 | e2 | e2
          · rw [e2]; exact HLK.out.rt.blk.lt
          · obtain ⟨_, cs', r2⟩ := HLK.out.rt.has.block e2
            exact r2.lt
          · obtain ⟨_, cs', r2⟩ := HLK.out.rt.row.block e2
            exact r2.lt
        omega⟩)
      have HLM := hide (show Lm (x : Int) t' out m0 0 t' out from ⟨rfl, rfl, fun k hk => by
        rw [List.drop_zero, ← hm0] at hk
        exact (mem_que.1 hk).1⟩)
      obtain ⟨Bl, hBl⟩ : ∃ Bl, Bl = wr.heap.size := ⟨_, rfl⟩
      rw [← hBl] at HL2
      clear hOl hb1 HT hm0 hn hBl HLK
      go_wp2
      go_loopw [3, 16] (fun v q wr => ∃ i : Nat, i ≤ n ∧ q = .int .i64 i ∧ Hid (∃ vH2 vR2 t2 out2, Lk2 B w h vH vR M v vH2 vR2 t2 out2 Bl (.slice al n cl) m0 wr ∧ Lm (x : Int) t' out m0 i t2 out2)) (fun _ q _ => n - (intOf q).toNat)
      case atStart => exact ⟨0, Nat.zero_le _, rfl, vH', vR', t', out, HL2.out, HLM.out⟩
      case round =>
        obtain ⟨i, hi, rfl, HI⟩ := hrel
        obtain ⟨vH2, vR2, t2, out2, hL2, hLm⟩ := HI.out
        have HL := hide hL2
        have HLm := hide hLm
        have HNX := hide (show ∀ t3 out3, (letL (x : Int) m0 t').1 = t3 → out ++ (letL (x : Int) m0 t').2 = out3 → t3.ok ∧ (lookL (288 - (x + 1)) ((x + 1 : Nat) : Int) t3).1 = T.1 ∧ out3 ++ (lookL (288 - (x + 1)) ((x + 1 : Nat) : Int) t3).2 = T.2 from fun t3 out3 e1 e2 => by
          have e3 : 288 - x = (288 - (x + 1)) + 1 := by omega
          have h1 := HT12.out.1
          have h2 := HT12.out.2
          rw [e3] at h1 h2
          unfold lookL at h1 h2
          rw [HM0.out, e1] at h1 h2
          refine ⟨?_, h1, ?_⟩
          · rw [← e1, ← HM0.out]
            exact let_ok _ _ _ HOK'.out (fun q hq => by
              have hm := mem_que.1 hq
              have := HOK'.out.rk q hm.1
              exact ⟨this.1, this.2.1, this.2.2, hm.2⟩)
          · rw [← h2, ← e2, List.append_assoc]
            rfl)
        clear hL2 hLm HI
        by_cases hil : i < n
        · have i2 : (i : Int) < (n : Int) := by omega
          obtain ⟨m, hm⟩ : ∃ m, m0[i]? = some m := ⟨_, List.getElem?_eq_getElem (by rw [HN.out]; exact hil)⟩
          obtain ⟨b, rfl, -⟩ := HL.out.l.at hm
          have HC := hide (fun (y : World) (v2 a2 b2 : Value) (t3 : Tb) (o3 : List Int) (hy : Lk2 B w h vH vR M v2 a2 b2 t3 o3 Bl (.slice (some ⟨b, 0, none⟩) n cl) m0 y) => show y.cell? ⟨b, i * 3, none⟩ = some (.int .i64 m.w) ∧ y.cell? ⟨b, i * 3 + 1, none⟩ = some (.int .i64 m.x) ∧ y.cell? ⟨b, i * 3 + 2, none⟩ = some (.int .i64 m.m) from by
            obtain ⟨b', e, d0, d1, d2⟩ := hy.l.at hm
            injection e with e
            injection e with e
            subst e
            exact ⟨d0, d1, d2⟩)
          have HCR := hide (fun (y : World) (hy : OwnR Bl y (.slice (some ⟨b, 0, none⟩) n cl) m0) => show y.cell? ⟨b, i * 3, none⟩ = some (.int .i64 m.w) from by
            obtain ⟨b', e, d0, d1, d2⟩ := hy.at hm
            injection e with e
            injection e with e
            subst e
            exact d0)
          have HDR := hide (drop_at _ _ _ hm)
          have HMM := hide (show m ∈ t2.row ∧ (∀ k ∈ m0.drop (i + 1), k.w ≠ m.w) ∧ m.x = (x : Int) from by
            refine ⟨HLm.out.mem m (by rw [HDR.out]; exact List.mem_cons_self ..), fun k hk => ?_, ?_⟩
            · have hp := HPW.out.drop (i := i)
              rw [HDR.out] at hp
              exact fun e => (List.pairwise_cons.1 hp).1 k hk e.symm
            · have : m ∈ m0 := List.mem_of_getElem? hm
              rw [← HM0.out] at this
              exact (mem_que.1 this).2)
          clear hm
          have HCALL := hide (fun (y : World) (hy : Lk2 B w h vH vR M u3 vH2 vR2 t2 out2 Bl (.slice (some ⟨b, 0, none⟩) n cl) m0 y) => (rfits13 hy.lk.rt m.w (x : Int) m.m).mono (fun e x' (hz : e = .returned (.bool (t2.fits m.w (x : Int) m.m)) ∧ Below y.heap.size y x') => (⟨hz.1, hy.later hz.2⟩ : e = .returned (.bool (t2.fits m.w (x : Int) m.m)) ∧ Lk2 B w h vH vR M u3 vH2 vR2 t2 out2 Bl (.slice (some ⟨b, 0, none⟩) n cl) m0 x')))
          cases hf : t2.fits m.w (x : Int) m.m with
          | false =>
            rw [hf] at HCALL
            have HF := hide (HNX.out t2 out2 (by rw [← HLm.out.tb, HDR.out]; unfold letL; rw [if_neg (by rw [hf]; decide)]) (by rw [← HLm.out.ls, HDR.out]; unfold letL; rw [if_neg (by rw [hf]; decide)]; simp))
            clear hf
            go_wp2_with fail
            refine wp_region_in (fun y => Lk2 B w h vH vR M u3 vH2 vR2 t2 out2 Bl (.slice (some ⟨b, 0, none⟩) n cl) m0 y) (by kernel_rfl) (by kernel_rfl) (HL.out.later ((Below.refl _ _).drew)) ?_
            refine wpQuiet_plain rfl (fun K hK => ?_); go_simp; refine hK _ ?_; clear hK K
            refine wpQuiet_plain rfl (fun K hK => ?_); go_simp; refine hK _ ?_; clear hK K
            refine wpQuiet_plain rfl (fun K hK => ?_); go_simp; refine hK _ ?_; clear hK K
            refine wpQuiet_plain rfl (fun K hK => ?_); go_simp; refine hK _ ?_; clear hK K
            refine wpQuiet_plain rfl (fun K hK => ?_); go_simp; refine hK _ ?_; clear hK K
            refine wpQuiet_load rfl 3 (.tmp 23) rfl _ (.int .i64 m.w) rfl (fun y hy => load_num13 (HC.out _ _ _ _ _ _ hy).1) ?_; simp only [Act.put, Array.setIfInBounds, List.size_toArray, List.length_cons, List.length_nil, Nat.reduceAdd, Nat.reduceLT, ↓reduceDIte, List.set_toArray, List.set_cons_succ, List.set_cons_zero]
            refine wpQuiet_plain rfl (fun K hK => ?_); go_simp; refine hK _ ?_; clear hK K
            refine wpQuiet_plain rfl (fun K hK => ?_); go_simp; refine hK _ ?_; clear hK K
            refine wpQuiet_plain rfl (fun K hK => ?_); go_simp; refine hK _ ?_; clear hK K
            refine wpQuiet_plain rfl (fun K hK => ?_); go_simp; refine hK _ ?_; clear hK K
            refine wpQuiet_plain rfl (fun K hK => ?_); go_simp; refine hK _ ?_; clear hK K
            refine wpQuiet_load rfl 3 (.tmp 29) rfl _ (.int .i64 m.m) rfl (fun y hy => load_num13 (HC.out _ _ _ _ _ _ hy).2.2) ?_; simp only [Act.put, Array.setIfInBounds, List.size_toArray, List.length_cons, List.length_nil, Nat.reduceAdd, Nat.reduceLT, ↓reduceDIte, List.set_toArray, List.set_cons_succ, List.set_cons_zero]
            refine wpQuiet_call rfl 57 #[.pointer (some ⟨h, 0, none⟩), .int .i64 m.w, .int .i64 (x : Int), .int .i64 m.m] (.bool false) ?_ (fun y hC => HCALL.out y hC) ?_; (intro x; go_simp); simp only [Act.put, Array.setIfInBounds, List.size_toArray, List.length_cons, List.length_nil, Nat.reduceAdd, Nat.reduceLT, ↓reduceDIte, List.set_toArray, List.set_cons_succ, List.set_cons_zero]
            refine wpQuiet_plain rfl (fun K hK => ?_); go_simp; refine hK _ ?_; clear hK K
            refine wpQuiet_nil ?_
            intro y hy
            have HE := hide (show ∃ vH' vR' t' out, Lk B w h vH vR M _ vH' vR' t' out y ∧ t'.ok ∧ (lookL (288 - (x + 1)) ((x + 1 : Nat) : Int) t').1 = T.1 ∧ out ++ (lookL (288 - (x + 1)) ((x + 1 : Nat) : Int) t').2 = T.2 from ⟨vH2, vR2, t2, out2, hy.lk, HF.out⟩)
            clear hy HL
            go_wp2
            go_roundw
            case rel => exact ⟨x + 1, by omega, by go_num, HE⟩
            case measure => simp [intOf]; omega
          | true =>
            rw [hf] at HCALL
            have HF := hide hf
            clear hf
            go_wp2_with fail
            refine wp_region_in (fun y => Lk2 B w h vH vR M u3 vH2 vR2 t2 out2 Bl (.slice (some ⟨b, 0, none⟩) n cl) m0 y) (by kernel_rfl) (by kernel_rfl) (HL.out.later ((Below.refl _ _).drew)) ?_
            refine wpQuiet_plain rfl (fun K hK => ?_); go_simp; refine hK _ ?_; clear hK K
            refine wpQuiet_plain rfl (fun K hK => ?_); go_simp; refine hK _ ?_; clear hK K
            refine wpQuiet_plain rfl (fun K hK => ?_); go_simp; refine hK _ ?_; clear hK K
            refine wpQuiet_plain rfl (fun K hK => ?_); go_simp; refine hK _ ?_; clear hK K
            refine wpQuiet_plain rfl (fun K hK => ?_); go_simp; refine hK _ ?_; clear hK K
            refine wpQuiet_load rfl 3 (.tmp 23) rfl _ (.int .i64 m.w) rfl (fun y hy => load_num13 (HC.out _ _ _ _ _ _ hy).1) ?_; simp only [Act.put, Array.setIfInBounds, List.size_toArray, List.length_cons, List.length_nil, Nat.reduceAdd, Nat.reduceLT, ↓reduceDIte, List.set_toArray, List.set_cons_succ, List.set_cons_zero]
            refine wpQuiet_plain rfl (fun K hK => ?_); go_simp; refine hK _ ?_; clear hK K
            refine wpQuiet_plain rfl (fun K hK => ?_); go_simp; refine hK _ ?_; clear hK K
            refine wpQuiet_plain rfl (fun K hK => ?_); go_simp; refine hK _ ?_; clear hK K
            refine wpQuiet_plain rfl (fun K hK => ?_); go_simp; refine hK _ ?_; clear hK K
            refine wpQuiet_plain rfl (fun K hK => ?_); go_simp; refine hK _ ?_; clear hK K
            refine wpQuiet_load rfl 3 (.tmp 29) rfl _ (.int .i64 m.m) rfl (fun y hy => load_num13 (HC.out _ _ _ _ _ _ hy).2.2) ?_; simp only [Act.put, Array.setIfInBounds, List.size_toArray, List.length_cons, List.length_nil, Nat.reduceAdd, Nat.reduceLT, ↓reduceDIte, List.set_toArray, List.set_cons_succ, List.set_cons_zero]
            refine wpQuiet_call rfl 57 #[.pointer (some ⟨h, 0, none⟩), .int .i64 m.w, .int .i64 (x : Int), .int .i64 m.m] (.bool true) ?_ (fun y hC => HCALL.out y hC) ?_; (intro x; go_simp); simp only [Act.put, Array.setIfInBounds, List.size_toArray, List.length_cons, List.length_nil, Nat.reduceAdd, Nat.reduceLT, ↓reduceDIte, List.set_toArray, List.set_cons_succ, List.set_cons_zero]
            refine wpQuiet_plain rfl (fun K hK => ?_); go_simp; refine hK _ ?_; clear hK K
            refine wpQuiet_nil ?_
            intro y hy
            have HY := hide hy
            obtain ⟨d0, d1, d2⟩ := HC.out _ _ _ _ _ _ hy
            have hlen := hy.lk.len
            have hol := hy.lk.ol
            have HT := hide (rgive13 hy.lk.rt (Nat.le_trans HB.out hy.lk.tn.size) m (by omega))
            clear hy HL
            go_wp2_with fail
            refine HT.out.mono ?_
            rintro e w3 ⟨rfl, hG⟩
            obtain ⟨vHg, vRg, rtg, tng, rfg⟩ := hG
            have hl3 : OwnR Bl w3 (.slice (some ⟨b, 0, none⟩) n cl) m0 := HY.out.l.turned tng (fun k hk => HY.out.dis k hk)
            have d3 := HCR.out w3 hl3
            have HT2 := hide (raway13 rtg (Nat.le_trans HB.out (Nat.le_trans HY.out.lk.tn.size tng.size)) m.w)
            have HG := hide (And.intro tng rfg)
            clear rtg tng rfg hl3 HT d0 d1 d2
            go_wp2_with fail
            refine HT2.out.mono ?_
            rintro e w4 ⟨rfl, hA⟩
            have hGA := RAft.then HG.out.1 HG.out.2 hA
            have hgl := give_len m t2.has
            have hal := away_len_mem HMM.out.1
            have hrl : ((t2.give m).away m.w).row = awayL t2.row m.w := rfl
            have hhl : ((t2.give m).away m.w).has = giveL t2.has m := rfl
            have hsz : w.heap.size ≤ w4.heap.size := by
              obtain ⟨_, _, _, z4, _⟩ := hGA
              exact Nat.le_trans HY.out.lk.tn.size z4.size
            have d5 : w4.cell? ⟨b, i * 3, none⟩ = some (.int .i64 m.w) := by
              obtain ⟨_, _, _, z4, _⟩ := hGA
              exact HCR.out w4 (HY.out.l.turned z4 (fun k hk => HY.out.dis k hk))
            obtain ⟨vH3, vR3, v3, z3, r3, hL3⟩ := HY.out.turn hGA (by rw [hrl, hhl]; omega) (by rw [hrl]; omega) (m := m.w) hsz (by omega)
            have HI2 := hide (show ∃ vH2 vR2 t2 out2, Lk2 B w h vH vR M v3 vH2 vR2 t2 out2 Bl (.slice (some ⟨b, 0, none⟩) n cl) m0 z3 ∧ Lm (x : Int) t' out m0 (i + 1) t2 out2 from ⟨vH3, vR3, _, _, hL3, by
              have h1 := HLm.out.tb
              rw [HDR.out, let_yes HF.out] at h1
              exact h1, by
              have h2 := HLm.out.ls
              rw [HDR.out, let_yes HF.out] at h2
              rw [← h2, List.append_assoc]
              rfl, fun k hk => mem_away.2 ⟨HLm.out.mem k (by rw [HDR.out]; exact List.mem_cons_of_mem _ hk), HMM.out.2.1 k hk⟩⟩)
            clear hGA hA hL3 HY hgl hal hrl hhl hsz d3 HT2 HG
            go_wp2_with (with_reducible refine stop_at 53 rfl ?_)
            refine unstop10 ?_
            refine Lib.wpList_append_run _ rfl _ _ _ _ rfl _ _ rfl rfl _ _ r3 ?_
            clear d5
            go_wp2
            go_roundw
            case rel => exact ⟨i + 1, by omega, by go_num, HI2⟩
            case measure => simp [intOf]; omega
        · have i2 : ¬ (i : Int) < (n : Int) := by omega
          have HE := hide (show ∃ vH' vR' t' out, Lk B w h vH vR M _ vH' vR' t' out wr ∧ t'.ok ∧ (lookL (288 - (x + 1)) ((x + 1 : Nat) : Int) t').1 = T.1 ∧ out ++ (lookL (288 - (x + 1)) ((x + 1 : Nat) : Int) t').2 = T.2 from ⟨vH2, vR2, t2, out2, HL.out.lk, HNX.out t2 out2 (by rw [← HLm.out.tb, List.drop_of_length_le (by rw [HN.out]; omega)]; rfl) (by rw [← HLm.out.ls, List.drop_of_length_le (by rw [HN.out]; omega)]; simp [letL])⟩)
          clear HL
          go_wp2
          go_roundw
          case rel => exact ⟨x + 1, by omega, by go_num, HE⟩
          case measure => simp [intOf]; omega
    · have i1 : ¬ (x : Int) < 288 := by omega
      obtain ⟨vH', vR', t', out, hLk, hok', hT1, hT2⟩ := HR.out
      have HE := hide (show OwnI w.heap.size wr _ T.2 ∧ RAft B w h vH vR T.1 wr from by
        have e : 288 - x = 0 := by omega
        rw [e] at hT1 hT2
        have e1 : t' = T.1 := hT1
        have e2 : out = T.2 := by
          rw [← hT2]
          show out = out ++ []
          rw [List.append_nil]
        rw [← e1, ← e2]
        exact ⟨hLk.own, vH', vR', hLk.rt, hLk.tn, hLk.rf⟩)
      clear hLk hok' hT1 hT2 HR
      go_wp2
      go_ret
      exact ⟨_, rfl, HE.out⟩
end
end Go.Proofs.Ytmlbghloddiflaa
end
section
namespace Go.Proofs.Ytmlbghloddiflaa
open Go.RowKit
set_option linter.unusedVariables false

section
variable {B : Nat} {w : World} {h : Nat} {vH vR : Value} {t : Tb}
/-- away, and then look. -/
theorem RAft.look {w1 : World} {t1 : Tb} (r : RAft B w h vH vR t1 w1) (hB : B ≤ w.heap.size) (hok : t1.ok) {M : Nat} (hM : t1.has.length + t1.row.length ≤ M) (hM3 : M + 1 ≤ 3000) : Calls Try.prog 62 #[.pointer (some ⟨h, 0, none⟩)] w1 fun e w' => ∃ v, e = .returned v ∧ OwnI w.heap.size w' v t1.look.2 ∧ RAft B w h vH vR t1.look.1 w' := by
  obtain ⟨a, b, c, d, e⟩ := r
  refine (rlook13 c (Nat.le_trans hB d.size) hok hM hM3).mono ?_
  rintro e2 w' ⟨v, rfl, ho, hr⟩
  exact ⟨v, rfl, ho.weak d.size, RAft.then d e hr⟩
set_option maxRecDepth 4000 in
set_option maxHeartbeats 800000 in
theorem rstop13 (q : RT B w h vH vR t) (hB : B ≤ w.heap.size) (hok : t.ok) {M : Nat} (hM : t.has.length + t.row.length ≤ M) (hM3 : M + 1 ≤ 3000) (who : Int) : Calls Try.prog 30 #[.pointer (some ⟨h, 0, none⟩), .int .i64 who] w fun e w' => ∃ v, e = .returned v ∧ OwnI w.heap.size w' v (t.stop who).2 ∧ RAft B w h vH vR (t.stop who).1 w' := by
  have HT := hide (raway13 q hB who)
  have HX := hide (fun (w1 : World) (r : RAft B w h vH vR (t.away who) w1) => r.look hB (hok.away who) (M := M) (by have := away_len t.row who; show t.has.length + (awayL t.row who).length ≤ M; omega) hM3)
  obtain ⟨T, hT⟩ : ∃ T, (t.away who).look = T := ⟨_, rfl⟩
  have HS := hide (show t.stop who = T from hT)
  rw [hT] at HX
  clear q hB hok hM hM3 hT
  go_enter Try.func30, Try.ntmps30
  go_wp2_with fail
  refine HT.out.mono ?_
  rintro e w1 ⟨rfl, hr⟩
  have HY := hide (HX.out w1 hr)
  clear hr HT HX
  go_wp2_with fail
  refine HY.out.mono ?_
  rintro e w2 ⟨v, rfl, hv⟩
  have HV := hide hv
  clear hv HY
  go_wp2
  go_ret
  rw [HS.out]
  exact ⟨_, rfl, HV.out⟩
set_option maxRecDepth 4000 in
set_option maxHeartbeats 1600000 in
theorem rfree13 (q : RT B w h vH vR t) (hB : B ≤ w.heap.size) (hok : t.ok) {M : Nat} (hM : t.has.length + t.row.length ≤ M) (hM3 : M + 1 ≤ 3000) (who : Int) : Calls Try.prog 28 #[.pointer (some ⟨h, 0, none⟩), .int .i64 who] w fun e w' => ∃ v, e = .returned v ∧ OwnI w.heap.size w' v (t.free who).2 ∧ RAft B w h vH vR (t.free who).1 w' := by
  obtain ⟨aR, cR, hvR, hc, hc2⟩ := q.has.shape
  subst hvR
  have c0 := q.head.1
  have hl := q.len.1
  have HQ := hide q
  obtain ⟨n, hn⟩ : ∃ n, n = t.has.length := ⟨_, rfl⟩
  rw [← hn] at c0 hc hl
  have HN := hide hn
  clear q hn
  go_enter Try.func28, Try.ntmps28
  go_wp2
  clear c0
  go_loopw [5, 12] (fun v q wr => ∃ j : Nat, j ≤ n ∧ q = .int .i64 j ∧ Hid (OwnR w.heap.size wr v ((t.has.take j).filter (fun k : Hd => decide (k.w ≠ who))) ∧ Below w.heap.size w wr)) (fun _ q _ => n - (intOf q).toNat)
  case atStart => exact ⟨0, Nat.zero_le _, rfl, OwnR.nil _ _, Below.refl _ _⟩
  case round =>
    obtain ⟨j, hj, rfl, HR⟩ := hrel
    by_cases hlt : j < n
    · have i1 : (j : Int) < (n : Int) := by omega
      obtain ⟨m, hm⟩ : ∃ m, t.has[j]? = some m := ⟨_, List.getElem?_eq_getElem (by have := HN.out; omega)⟩
      have HQ2 := hide (HQ.out.later HR.out.2)
      obtain ⟨b, rfl, d0, d1, d2⟩ := HQ2.out.has.at hm
      have c1 := HQ2.out.head.1
      rw [← HN.out] at c1
      have HSN := hide (filter_take (fun k : Hd => decide (k.w ≠ who)) t.has j m hm)
      clear hm HQ2
      by_cases hx : ¬ m.w = who
      · have e1 : (m.w != who) = true := by simpa using hx
        have HE := hide (show (t.has.take (j + 1)).filter (fun k : Hd => decide (k.w ≠ who)) = (t.has.take j).filter (fun k : Hd => decide (k.w ≠ who)) ++ [m] from by rw [HSN.out, if_pos (by simpa using hx)])
        obtain ⟨v3, w3, r3, o3, t3⟩ := HR.out.1.push m HR.out.2.size (by
          have := List.length_filter_le (fun k : Hd => decide (k.w ≠ who)) (t.has.take j)
          rw [List.length_take] at this
          omega)
        have HR2 := hide (show OwnR w.heap.size w3 v3 ((t.has.take (j + 1)).filter (fun k : Hd => decide (k.w ≠ who))) ∧ Below w.heap.size w w3 from ⟨by rw [HE.out]; exact o3, HR.out.1.own HR.out.2 HR.out.2.size t3⟩)
        clear hx o3 t3 HSN HR
        go_wp2_with (with_reducible refine stop_at 34 rfl ?_)
        refine unstop10 ?_
        refine Lib.wpList_append_run _ rfl _ _ _ _ rfl _ _ rfl rfl _ _ r3 ?_
        clear d0 d1 d2 c1
        go_wp2
        go_roundw
        case rel => exact ⟨j + 1, by omega, by go_num, HR2⟩
        case measure => simp [intOf]; omega
      · have e1 : (m.w != who) = false := by simpa using hx
        have HE := hide (show (t.has.take (j + 1)).filter (fun k : Hd => decide (k.w ≠ who)) = (t.has.take j).filter (fun k : Hd => decide (k.w ≠ who)) from by rw [HSN.out, if_neg (by simpa using hx)])
        have HR2 := hide (show OwnR w.heap.size wr _ ((t.has.take (j + 1)).filter (fun k : Hd => decide (k.w ≠ who))) ∧ Below w.heap.size w wr from ⟨by rw [HE.out]; exact HR.out.1, HR.out.2⟩)
        clear hx HSN HR
        go_wp2
        go_roundw
        case rel => exact ⟨j + 1, by omega, by go_num, HR2⟩
        case measure => simp [intOf]; omega
    · have i1 : ¬ (j : Int) < (n : Int) := by omega
      have HF := hide (show OwnR w.heap.size wr _ (t.has.filter (fun k : Hd => decide (k.w ≠ who))) ∧ Below w.heap.size w wr from by
        have q := HR.out
        rw [List.take_of_length_le (by have := HN.out; omega)] at q
        exact q)
      have HLL := hide (show (t.has.filter (fun k : Hd => decide (k.w ≠ who))).length ≤ 3000 from Nat.le_trans (List.length_filter_le _ _) HQ.out.len.1)
      clear HR
      have f1 := (HQ.out.later HF.out.2).blk.free 0
      have c1 := (HQ.out.later HF.out.2).head.1
      have HG := hide (HQ.out.setHas HF.out.2 HF.out.1 hB HLL.out)
      obtain ⟨a9, c9, e9, -, -⟩ := HF.out.1.shape
      subst e9
      obtain ⟨nl, hnl⟩ : ∃ nl, (t.has.filter (fun k : Hd => decide (k.w ≠ who))).length = nl := ⟨_, rfl⟩
      have HNL := hide (show nl ≤ t.has.length from by rw [← hnl]; exact List.length_filter_le _ _)
      have HNE := hide hnl
      rw [hnl] at HG ⊢
      have HB := hide hB
      have HOK := hide hok
      have HMM := hide (And.intro hM hM3)
      clear hB hok hM hM3 hnl HF HLL
      go_wp2_with fail
      obtain ⟨vH1, vR1, rt1, tn1, rf1⟩ := HG.out
      refine (raway13 rt1 (Nat.le_trans HB.out tn1.size) who).mono ?_
      rintro e w2 ⟨rfl, hr⟩
      have hr2 := RAft.then tn1 rf1 hr
      have hfree : t.free who = (({ t with has := t.has.filter (fun k : Hd => decide (k.w ≠ who)) } : Tb).away who).look := rfl
      have HY := hide (hr2.look HB.out ((HOK.out.drop who).away who) (M := M) (by
        have h1 := away_len t.row who
        have h2 := HNL.out
        have h3 := HMM.out.1
        have h4 := HNE.out
        show (t.has.filter (fun k : Hd => decide (k.w ≠ who))).length + (awayL t.row who).length ≤ M
        omega) HMM.out.2)
      have HS := hide hfree
      clear rt1 tn1 rf1 hr hr2 hfree c1 f1
      go_wp2_with fail
      refine HY.out.mono ?_
      rintro e w3 ⟨v, rfl, hv⟩
      have HV := hide hv
      clear hv HY
      go_wp2
      go_ret
      rw [HS.out]
      exact ⟨_, rfl, HV.out⟩
theorem rowAt_yes (t : Tb) (x z : Int) (l : List Int) (h : t.at z x ≠ 0) : t.rowAt x (z :: l) = ⟨z, x, t.at z x⟩ :: t.rowAt x l := by
  conv => lhs; unfold Tb.rowAt
  rw [if_pos h]
theorem rowAt_no (t : Tb) (x z : Int) (l : List Int) (h : t.at z x = 0) : t.rowAt x (z :: l) = t.rowAt x l := by
  conv => lhs; unfold Tb.rowAt
  rw [if_neg (by simpa using h)]
set_option maxRecDepth 4000 in
set_option maxHeartbeats 1600000 in
theorem rheld13 (q : RT B w h vH vR t) (hok : t.ok) : Calls Try.prog 14 #[.pointer (some ⟨h, 0, none⟩)] w fun e w' => ∃ v, e = .returned v ∧ OwnR w.heap.size w' v t.held ∧ Below w.heap.size w w' := by
  have HQ := hide q
  have HT := hide (rowners13 q)
  have hol := owners_len t
  have hl := q.len
  have HHL := hide (show t.held.length ≤ 3000 from by rw [hok.held_len]; exact q.len.1)
  clear q hok
  go_enter Try.func14, Try.ntmps14
  go_wp2_with fail
  refine HT.out.mono ?_
  rintro e w1 ⟨v1, rfl, hO, hb1⟩
  obtain ⟨a1, c1, rfl⟩ := hO.shape
  have HO := hide hO
  have HB1 := hide hb1
  have hcap : t.owners.length ≤ c1 := by
    rcases hO.2 with ⟨e, h0⟩ | ⟨g', cap, cur, e, _, _, hn, _⟩
    · rw [h0]; exact Nat.zero_le _
    · injection e with _ _ e3
      rw [e3]
      exact hn
  obtain ⟨n, hn⟩ : ∃ n, t.owners.length = n := ⟨_, rfl⟩
  have HN := hide hn
  have hn3 : n ≤ 6000 := by omega
  rw [hn] at hcap ⊢
  clear hO hb1 HT hn hol hl
  go_wp2
  go_loopw [3, 5] (fun v q wr => ∃ x : Nat, x ≤ 288 ∧ q = .int .i64 x ∧ Hid (∃ acc, OwnR w1.heap.size wr v acc ∧ Below w1.heap.size w1 wr ∧ acc ++ t.heldFrom (288 - x) (x : Int) = t.held)) (fun _ q _ => 288 - (intOf q).toNat)
  case atStart => exact ⟨0, Nat.zero_le _, rfl, [], OwnR.nil _ _, Below.refl _ _, rfl⟩
  case round =>
    obtain ⟨x, hx, rfl, HR⟩ := hrel
    by_cases hlt : x < 288
    · have i1 : (x : Int) < 288 := by omega
      have HR2 := hide (show ∃ acc, OwnR w1.heap.size wr _ acc ∧ Below w1.heap.size w1 wr ∧ acc ++ (t.rowAt (x : Int) (t.owners.drop 0) ++ t.heldFrom (288 - (x + 1)) ((x + 1 : Nat) : Int)) = t.held from by
        obtain ⟨acc, h1, h2, h3⟩ := HR.out
        refine ⟨acc, h1, h2, ?_⟩
        rw [← h3, show 288 - x = (288 - (x + 1)) + 1 by omega]
        rfl)
      clear HR
      go_wp2
      go_loopw [3, 16] (fun v q wr => ∃ i : Nat, i ≤ n ∧ q = .int .i64 i ∧ Hid (∃ acc, OwnR w1.heap.size wr v acc ∧ Below w1.heap.size w1 wr ∧ acc ++ (t.rowAt (x : Int) (t.owners.drop i) ++ t.heldFrom (288 - (x + 1)) ((x + 1 : Nat) : Int)) = t.held)) (fun _ q _ => n - (intOf q).toNat)
      case atStart => exact ⟨0, Nat.zero_le _, rfl, HR2⟩
      case round =>
        obtain ⟨i, hi, rfl, HI⟩ := hrel
        obtain ⟨acc, hacc, hbl, hsum⟩ := HI.out
        by_cases hil : i < n
        · have i2 : (i : Int) < (n : Int) := by omega
          obtain ⟨z, hz⟩ : ∃ z, t.owners.getD i 0 = z := ⟨_, rfl⟩
          have hio : i < t.owners.length := by rw [HN.out]; exact hil
          obtain ⟨b, rfl, d0⟩ := (HO.out.later hbl).at (j := i) hio
          rw [hz] at d0
          have HDZ := hide (show t.owners.drop i = z :: t.owners.drop (i + 1) from by
            rw [← hz, List.drop_eq_getElem_cons hio, List.getD_eq_getElem?_getD, List.getElem?_eq_getElem hio]
            rfl)
          have T := rholds13 (HQ.out.later (HB1.out.trans (hbl.mono HB1.out.size))) z (x : Int)
          obtain ⟨hv, hhv⟩ : ∃ hv, t.at z (x : Int) = hv := ⟨_, rfl⟩
          rw [hhv] at T
          have HT := hide T
          have HHV := hide hhv
          have HACC := hide (And.intro hacc (And.intro hbl hsum))
          clear T hhv hz hacc hbl hsum HI
          go_wp2_with fail
          refine HT.out.mono ?_
          rintro e w2 ⟨rfl, rfl⟩
          by_cases h0 : hv = 0
          · have e1 : (hv != 0) = false := by simpa using h0
            have HI2 := hide (show ∃ acc, OwnR w1.heap.size wr _ acc ∧ Below w1.heap.size w1 wr ∧ acc ++ (t.rowAt (x : Int) (t.owners.drop (i + 1)) ++ t.heldFrom (288 - (x + 1)) ((x + 1 : Nat) : Int)) = t.held from ⟨acc, HACC.out.1, HACC.out.2.1, by
              rw [← HACC.out.2.2, HDZ.out, rowAt_no t _ _ _ (HHV.out.trans h0)]⟩)
            clear h0 HACC HT d0
            go_wp2
            go_roundw
            case rel => exact ⟨i + 1, by omega, by go_num, HI2⟩
            case measure => simp [intOf]; omega
          · have e1 : (hv != 0) = true := by simpa using h0
            have hsum2 : (acc ++ [⟨z, (x : Int), hv⟩]) ++ (t.rowAt (x : Int) (t.owners.drop (i + 1)) ++ t.heldFrom (288 - (x + 1)) ((x + 1 : Nat) : Int)) = t.held := by
              rw [← HACC.out.2.2, HDZ.out, rowAt_yes t _ _ _ (by rw [HHV.out]; exact h0), HHV.out]
              simp
            have hal : acc.length ≤ 3000 := by
              have z1 := congrArg List.length hsum2
              have z2 := HHL.out
              simp only [List.length_append] at z1
              omega
            obtain ⟨v3, w3, r3, o3, t3⟩ := HACC.out.1.push ⟨z, (x : Int), hv⟩ HACC.out.2.1.size (by omega)
            have HI2 := hide (show ∃ acc, OwnR w1.heap.size w3 v3 acc ∧ Below w1.heap.size w1 w3 ∧ acc ++ (t.rowAt (x : Int) (t.owners.drop (i + 1)) ++ t.heldFrom (288 - (x + 1)) ((x + 1 : Nat) : Int)) = t.held from ⟨_, o3, HACC.out.1.own HACC.out.2.1 HACC.out.2.1.size t3, hsum2⟩)
            clear h0 HACC HT o3 t3 hsum2
            go_wp2_with (with_reducible refine stop_at 37 rfl ?_)
            refine unstop10 ?_
            refine Lib.wpList_append_run _ rfl _ _ _ _ rfl _ _ rfl rfl _ _ r3 ?_
            clear d0
            go_wp2
            go_roundw
            case rel => exact ⟨i + 1, by omega, by go_num, HI2⟩
            case measure => simp [intOf]; omega
        · have i2 : ¬ (i : Int) < (n : Int) := by omega
          have HE := hide (show ∃ acc, OwnR w1.heap.size wr _ acc ∧ Below w1.heap.size w1 wr ∧ acc ++ t.heldFrom (288 - (x + 1)) ((x + 1 : Nat) : Int) = t.held from ⟨acc, hacc, hbl, by
            rw [List.drop_of_length_le (by rw [HN.out]; omega)] at hsum
            exact hsum⟩)
          clear hacc hbl hsum HI
          go_wp2
          go_roundw
          case rel => exact ⟨x + 1, by omega, by go_num, HE⟩
          case measure => simp [intOf]; omega
    · have i1 : ¬ (x : Int) < 288 := by omega
      obtain ⟨acc, hacc, hbl, hsum⟩ := HR.out
      have HE := hide (show OwnR w.heap.size wr _ t.held ∧ Below w.heap.size w wr from by
        have e : 288 - x = 0 := by omega
        rw [e] at hsum
        have e2 : acc = t.held := by
          rw [← hsum]
          show acc = acc ++ []
          rw [List.append_nil]
        rw [← e2]
        exact ⟨OwnR.weak hacc HB1.out.size, HB1.out.trans (hbl.mono HB1.out.size)⟩)
      clear hacc hbl hsum HR
      go_wp2
      go_ret
      exact ⟨_, rfl, HE.out⟩
end
end Go.Proofs.Ytmlbghloddiflaa
end
section
namespace Go.Proofs.Ytmlbghloddiflaa
open Go.RowKit
set_option linter.unusedVariables false

theorem OwnR.cells {B : Nat} {y : World} {b n c : Nat} {l : List Hd} (h : OwnR B y (.slice (some ⟨b, 0, none⟩) n c) l) (j : Nat) (u : Value) (hu : (flatH l)[j]? = some u) : y.cell? ⟨b, j, none⟩ = some u := by
  rcases h.2 with ⟨e, _⟩ | ⟨g', cap, cur, e, hb, hr, hn, hm, hs, ht⟩
  · cases e
  · injection e with e1 e2 e3
    injection e1 with e1
    injection e1 with e1
    subst e1
    rw [← ht, List.getElem?_take] at hu
    split at hu
    · rw [Array.getElem?_toList] at hu
      exact (show RowAt y b 64 cur from hr).cell j u hu
    · cases hu
theorem load_slR {y : World} {b o n c : Nat} {a : Option Addr} (h : y.cell? ⟨b, o, none⟩ = some (.slice a n c)) : (Instr.loadAt 27 (.pointer (some ⟨b, o, none⟩))).run Try.prog y = .ok (.slice a n c) y := by go_simp
theorem place_le (t : Tb) (x : Int) : ∀ (l : List Hd) (i at' : Nat), at' ≤ i → placeL t x l i at' ≤ i + l.length
  | [], i, at', h => by unfold placeL; simp; exact h
  | m :: l, i, at', h => by
    unfold placeL
    have := place_le t x l (i + 1) (if m.x = x ∧ t.at m.w x ≠ 0 then i + 1 else at') (by split <;> omega)
    simp only [List.length_cons]
    omega
section
variable {B : Nat} {w : World} {h : Nat} {vH vR : Value} {t : Tb}
/-- What the walk keeps: the table, and the lock that was handed over. -/
structure QB (B : Nat) (w : World) (h : Nat) (vH vR : Value) (t : Tb) (gb : Nat) (k : Hd) (y : World) : Prop where
  rt : RT B y h vH vR t
  box : RowAt y gb 64 (hdA k)
  bel : Below w.heap.size w y
theorem QB.later {gb : Nat} {k : Hd} {y z : World} (q : QB B w h vH vR t gb k y) (b : Below y.heap.size y z) : QB B w h vH vR t gb k z := ⟨q.rt.later b, q.box.later b, q.bel.trans (b.mono q.bel.size)⟩
theorem que_nil {X : World} {k : Hd} {at' : Nat} (q0 : RT B w h vH vR t) (hX : Below w.heap.size w X) (h0 : t.row = []) (hpl : t.place k = at') (hB : B ≤ w.heap.size) : ∃ v0 y0 v1 y1 a9 n9 c9 y2, (Builtin.append_ #[27, 27] 27 #[.slice none 0 0, .slice none 0 0]).run Try.prog X = .ok v0 y0 ∧ (Builtin.append_ #[27, 27] 27 #[v0, .slice (some ⟨y0.heap.size, 0, none⟩) 1 1]).run Try.prog (y0.alloc (.cells #[.int .i64 k.w, .int .i64 k.x, .int .i64 k.m] 64)) = .ok v1 y1 ∧ (Builtin.append_ #[27, 27] 27 #[v1, .slice none 0 0]).run Try.prog y1 = .ok (.slice a9 n9 c9) y2 ∧ RAft B w h vH vR (t.queue k) (y2.setCell ⟨h, 1, none⟩ (.slice a9 n9 c9)) ∧ Below X.heap.size X y0 ∧ Below X.heap.size X y1 ∧ Below X.heap.size X y2 := by
  obtain ⟨ii, hi0, hi1⟩ := Option.map_eq_some_iff.1 infoR
  have r0 := run_append_owned_none (P := Try.prog) (w := X) X.heap.size 27 27 64 ii 3 Try.underlying27 hi0 (.slice none 0 0) 0 [] (World.ownsRow_nil _ _ _ _)
  obtain ⟨v1, y1, r1, o1, t1⟩ := (OwnR.nil X.heap.size X).push k (Nat.le_refl _) (by simp)
  have hb1 := (OwnR.nil X.heap.size X).own (Below.refl _ _) (Nat.le_refl _) t1
  have r2 := run_append_owned_none (P := Try.prog) (w := y1) X.heap.size 27 27 64 ii 3 Try.underlying27 hi0 v1 _ _ o1
  have hfin : OwnR X.heap.size y1 v1 (t.row.take at' ++ k :: t.row.drop at') := by
    rw [h0]
    simpa using o1
  have hn : t.row.length = 0 := by rw [h0]; rfl
  have hb2 := hb1
  have hw2 := hX.trans (hb2.mono hX.size)
  have hG := q0.setRow hw2 (OwnR.weak hfin hX.size) hB (by simp only [List.length_append, List.length_cons, List.length_take, List.length_drop]; omega)
  have hq : t.queue k = { t with row := t.row.take at' ++ k :: t.row.drop at' } := by
    unfold Tb.queue
    rw [hpl]
  obtain ⟨a9, c9, e9, -, -⟩ := hfin.shape
  subst e9
  rw [hq]
  exact ⟨.slice none 0 0, X, _, y1, a9, (t.row.take at' ++ k :: t.row.drop at').length, c9, y1, r0, r1, r2, hG, Below.refl _ _, hb1, hb1⟩
theorem que_gen {X : World} {k : Hd} {at' b n c : Nat} (q0 : RT B w h vH vR t) (hX : Below w.heap.size w X) (hvR : vR = .slice (some ⟨b, 0, none⟩) n c) (hn : t.row.length = n) (hat : at' ≤ n) (hpl : t.place k = at') (hB : B ≤ w.heap.size) (hl : n + 1 ≤ 3000) : ∃ v0 y0 v1 y1 a9 n9 c9 y2, (Builtin.append_ #[27, 27] 27 #[.slice none 0 0, .slice (some ⟨b, 0, none⟩) at' c]).run Try.prog X = .ok v0 y0 ∧ (Builtin.append_ #[27, 27] 27 #[v0, .slice (some ⟨y0.heap.size, 0, none⟩) 1 1]).run Try.prog (y0.alloc (.cells #[.int .i64 k.w, .int .i64 k.x, .int .i64 k.m] 64)) = .ok v1 y1 ∧ (Builtin.append_ #[27, 27] 27 #[v1, .slice (if c = at' then some ⟨b, 0, none⟩ else some ⟨b, at' * 3, none⟩) (n - at') (c - at')]).run Try.prog y1 = .ok (.slice a9 n9 c9) y2 ∧ RAft B w h vH vR (t.queue k) (y2.setCell ⟨h, 1, none⟩ (.slice a9 n9 c9)) ∧ Below X.heap.size X y0 ∧ Below X.heap.size X y1 ∧ Below X.heap.size X y2 := by
  have hXr : OwnR B X (.slice (some ⟨b, 0, none⟩) n c) t.row := by
    have z := (q0.later hX).row
    rw [hvR] at z
    exact z
  have elt : (t.row.take at').length = at' := by rw [List.length_take]; omega
  obtain ⟨v0, y0, r0, o0, t0⟩ := (OwnR.nil X.heap.size X).part (t.row.take at') (some ⟨b, 0, none⟩) c (.inr ⟨b, 0, rfl, fun j u hu => by
    rw [← flatH_take, List.getElem?_take] at hu
    split at hu
    · rw [Nat.zero_add]
      exact hXr.cells _ u hu
    · cases hu⟩) (Nat.le_refl _) (by rw [elt, List.length_nil]; omega) 27
  rw [elt] at r0
  have hb0 := (OwnR.nil X.heap.size X).own (Below.refl _ _) (Nat.le_refl _) t0
  rw [List.nil_append] at o0
  obtain ⟨v1, y1, r1, o1, t1⟩ := o0.push k hb0.size (by rw [elt]; omega)
  have hb1 := o0.own hb0 hb0.size t1
  have eld : (t.row.drop at').length = n - at' := by rw [List.length_drop, hn]
  have hcap : n ≤ c := by
    rcases hXr.2 with ⟨e, _⟩ | ⟨g', cap, cur, e, _, _, q, _⟩
    · cases e
    · injection e with _ e2 e3
      omega
  obtain ⟨v2, y2, r2, o2, t2⟩ := o1.part (t.row.drop at') (if c = at' then some ⟨b, 0, none⟩ else some ⟨b, at' * 3, none⟩) (c - at') (by
    by_cases hc : c = at'
    · rw [if_pos hc]
      refine .inr ⟨b, 0, rfl, fun j u hu => ?_⟩
      rw [List.drop_of_length_le (by omega)] at hu
      simp [flatH] at hu
    · rw [if_neg hc]
      refine .inr ⟨b, at' * 3, rfl, fun j u hu => ?_⟩
      rw [← flatH_drop, List.getElem?_drop] at hu
      exact (hXr.later hb1).cells _ u hu) hb1.size (by simp only [List.length_append, List.length_singleton, elt, eld]; omega) 27
  rw [eld] at r2
  have hb2 := o1.own hb1 hb1.size t2
  have hfin : OwnR X.heap.size y2 v2 (t.row.take at' ++ k :: t.row.drop at') := by
    have z := o2
    simpa using z
  have hw2 := hX.trans (hb2.mono hX.size)
  have hG := q0.setRow hw2 (OwnR.weak hfin hX.size) hB (by simp only [List.length_append, List.length_cons, List.length_take, List.length_drop]; omega)
  have hq : t.queue k = { t with row := t.row.take at' ++ k :: t.row.drop at' } := by
    unfold Tb.queue
    rw [hpl]
  obtain ⟨a9, c9, e9, -, -⟩ := hfin.shape
  rw [e9] at hG r2
  rw [hq]
  exact ⟨v0, y0, v1, y1, a9, _, c9, y2, r0, r1, r2, hG, hb0, hb1, hb2⟩
set_option maxRecDepth 8000 in
set_option maxHeartbeats 1600000 in
theorem rque13_nil (q : RT B w h vH (.slice none 0 0) t) (hB : B ≤ w.heap.size) (k : Hd) (hl3 : t.row.length + 1 ≤ 3000) (h0 : t.row = []) : Calls Try.prog 59 #[.pointer (some ⟨h, 0, none⟩), .agg (hdA k)] w fun e w' => e = .returned (.tuple #[]) ∧ RAft B w h vH (.slice none 0 0) (t.queue k) w' := by
  obtain ⟨W, hW⟩ : ∃ W, W = w.alloc (.cells (hdA k) 64) := ⟨_, rfl⟩
  have hb : Below w.heap.size w W := by rw [hW]; exact (Below.refl _ _).alloc (Nat.le_refl _) _
  have HX := hide (show QB B w h vH (.slice none 0 0) t w.heap.size k W from ⟨q.later hb, by rw [hW]; exact RowAt.new w _ _, hb⟩)
  have HQ0 := hide q
  have HB0 := hide hB
  have hbx : (Instr.box 64 (.agg (hdA k))).run Try.prog w = .ok (.pointer (some ⟨w.heap.size, 0, none⟩)) (w.alloc (.cells (hdA k) 64)) := rfl
  obtain ⟨n, hn⟩ : ∃ n, n = t.row.length := ⟨_, rfl⟩
  have HN := hide hn
  have T := rholds13 HX.out.rt k.w k.x
  obtain ⟨hs, hhs⟩ : ∃ hs, t.at k.w k.x = hs := ⟨_, rfl⟩
  rw [hhs] at T
  have HHS := hide hhs
  have HT := hide T
  have c0 := HX.out.rt.head.2
  have b0 := HX.out.box.cell 0 (.int .i64 k.w) rfl
  have b1 := HX.out.box.cell 1 (.int .i64 k.x) rfl
  rw [← hn] at hl3
  have HNIL := hide h0
  have en : n = 0 := by rw [hn, h0]; rfl
  clear h0 c0
  have c0 : W.cell? ⟨h, 1, none⟩ = some (.slice none 0 0) := HX.out.rt.head.2
  rw [hW] at c0 b0 b1
  have HWE := hide hW
  clear q hn hb hB hhs T
  go_enter Try.func59, Try.ntmps59
  go_wp2_with fail
  rw [← hW]
  clear hW hbx
  refine HT.out.mono ?_
  rintro e w1 ⟨rfl, rfl⟩
  clear c0 b0 b1
  have c0 := HX.out.rt.head.2
  have b0 := HX.out.box.cell 0 (.int .i64 k.w) rfl
  have b1 := HX.out.box.cell 1 (.int .i64 k.x) rfl
  by_cases hz : hs = 0
  · have e1 : (hs != 0) = false := by simpa using hz
    obtain ⟨at', hat'⟩ : ∃ at', t.place k = at' := ⟨_, rfl⟩
    have HPL := hide hat'
    clear hz hat' HT
    obtain ⟨v0, y0, v1, y1, a9, n9, c9, y2, r0, r1, r2, hG, hb0, hb1, hb2⟩ := que_nil HQ0.out HX.out.bel HNIL.out HPL.out HB0.out
    have HG := hide hG
    have HX0 := hide (HX.out.later hb0)
    have HX1 := hide (HX.out.later hb1)
    have HX2 := hide (HX.out.later hb2)
    have m0 := HX.out.rt.head.2
    have k0 := HX0.out.box.cell 0 (.int .i64 k.w) rfl
    have k1 := HX0.out.box.cell 1 (.int .i64 k.x) rfl
    have k2 := HX0.out.box.cell 2 (.int .i64 k.m) rfl
    have m1 := HX1.out.rt.head.2
    have m2 := HX2.out.rt.head.2
    have f2 := HX2.out.rt.blk.free 1
    clear hG hb0 hb1 hb2
    go_wp2_with (with_reducible refine stop_at 63 rfl ?_)
    refine unstop10 ?_
    refine Lib.wpList_append_run _ rfl _ _ _ _ rfl _ _ rfl rfl _ _ r0 ?_
    go_wp2_with (with_reducible refine stop_at 67 rfl ?_)
    refine unstop10 ?_
    refine Lib.wpList_append_run _ rfl _ _ _ _ rfl _ _ rfl rfl _ _ r1 ?_
    go_wp2_with (with_reducible refine stop_at 76 rfl ?_)
    refine unstop10 ?_
    refine Lib.wpList_append_run _ rfl _ _ _ _ rfl _ _ rfl rfl _ _ r2 ?_
    go_wp2
    refine bodyPost_end (results_none rfl _ _ _) rfl ?_
    exact ⟨rfl, HG.out⟩
  · have e1 : (hs != 0) = true := by simpa using hz
    obtain ⟨at', hat'⟩ : ∃ at', t.place k = at' := ⟨_, rfl⟩
    have HPL := hide hat'
    have HXX := hide HX.out
    clear hz hat' HT
    go_wp2
    go_loopw [4, 24] (fun v q wr => v = .int .i64 0 ∧ q = .int .i64 0 ∧ wr = W) (fun _ _ _ => 0)
    case atStart => exact ⟨rfl, rfl, rfl⟩
    case round =>
      obtain ⟨rfl, rfl, rfl⟩ := hrel
      obtain ⟨v0, y0, v1, y1, a9, n9, c9, y2, r0, r1, r2, hG, hb0, hb1, hb2⟩ := que_nil HQ0.out HX.out.bel HNIL.out HPL.out HB0.out
      have HG := hide hG
      have HX0 := hide (HX.out.later hb0)
      have HX1 := hide (HX.out.later hb1)
      have HX2 := hide (HX.out.later hb2)
      have m0 := HX.out.rt.head.2
      have k0 := HX0.out.box.cell 0 (.int .i64 k.w) rfl
      have k1 := HX0.out.box.cell 1 (.int .i64 k.x) rfl
      have k2 := HX0.out.box.cell 2 (.int .i64 k.m) rfl
      have m1 := HX1.out.rt.head.2
      have m2 := HX2.out.rt.head.2
      have f2 := HX2.out.rt.blk.free 1
      clear hG hb0 hb1 hb2
      go_wp2_with (with_reducible refine stop_at 63 rfl ?_)
      refine unstop10 ?_
      refine Lib.wpList_append_run _ rfl _ _ _ _ rfl _ _ rfl rfl _ _ r0 ?_
      go_wp2_with (with_reducible refine stop_at 67 rfl ?_)
      refine unstop10 ?_
      refine Lib.wpList_append_run _ rfl _ _ _ _ rfl _ _ rfl rfl _ _ r1 ?_
      go_wp2_with (with_reducible refine stop_at 76 rfl ?_)
      refine unstop10 ?_
      refine Lib.wpList_append_run _ rfl _ _ _ _ rfl _ _ rfl rfl _ _ r2 ?_
      go_wp2
      refine bodyPost_end (results_none rfl _ _ _) rfl ?_
      exact ⟨rfl, HG.out⟩
set_option maxRecDepth 8000 in
set_option maxHeartbeats 1600000 in
theorem rque13_gen {b n0 c : Nat} (q : RT B w h vH (.slice (some ⟨b, 0, none⟩) n0 c) t) (hB : B ≤ w.heap.size) (k : Hd) (hl3 : t.row.length + 1 ≤ 3000) (hn0 : n0 = t.row.length) (hcc : n0 ≤ c) : Calls Try.prog 59 #[.pointer (some ⟨h, 0, none⟩), .agg (hdA k)] w fun e w' => e = .returned (.tuple #[]) ∧ RAft B w h vH (.slice (some ⟨b, 0, none⟩) n0 c) (t.queue k) w' := by
  obtain ⟨W, hW⟩ : ∃ W, W = w.alloc (.cells (hdA k) 64) := ⟨_, rfl⟩
  have hb : Below w.heap.size w W := by rw [hW]; exact (Below.refl _ _).alloc (Nat.le_refl _) _
  have HX := hide (show QB B w h vH (.slice (some ⟨b, 0, none⟩) n0 c) t w.heap.size k W from ⟨q.later hb, by rw [hW]; exact RowAt.new w _ _, hb⟩)
  have HQ0 := hide q
  have HB0 := hide hB
  have hbx : (Instr.box 64 (.agg (hdA k))).run Try.prog w = .ok (.pointer (some ⟨w.heap.size, 0, none⟩)) (w.alloc (.cells (hdA k) 64)) := rfl
  obtain ⟨n, hn⟩ : ∃ n, n = t.row.length := ⟨_, rfl⟩
  have HN := hide hn
  have T := rholds13 HX.out.rt k.w k.x
  obtain ⟨hs, hhs⟩ : ∃ hs, t.at k.w k.x = hs := ⟨_, rfl⟩
  rw [hhs] at T
  have HHS := hide hhs
  have HT := hide T
  have c0 := HX.out.rt.head.2
  have b0 := HX.out.box.cell 0 (.int .i64 k.w) rfl
  have b1 := HX.out.box.cell 1 (.int .i64 k.x) rfl
  rw [← hn] at hl3
  obtain rfl : n0 = n := hn0.trans hn.symm
  have hc2 : c ≤ maxLen := by
    obtain ⟨a', c', e', _, q2⟩ := q.row.shape
    injection e' with _ _ e3
    rw [e3]
    exact q2
  clear hn0
  rw [hW] at c0 b0 b1
  have HWE := hide hW
  clear q hn hb hB hhs T
  go_enter Try.func59, Try.ntmps59
  go_wp2_with fail
  rw [← hW]
  clear hW hbx
  refine HT.out.mono ?_
  rintro e w1 ⟨rfl, rfl⟩
  clear c0 b0 b1
  have c0 := HX.out.rt.head.2
  have b0 := HX.out.box.cell 0 (.int .i64 k.w) rfl
  have b1 := HX.out.box.cell 1 (.int .i64 k.x) rfl
  by_cases hz : hs = 0
  · have e1 : (hs != 0) = false := by simpa using hz
    have HPL := hide (show t.place k = n0 from by
      unfold Tb.place
      rw [HHS.out, if_neg (by simpa using hz), HN.out])
    have hat : n0 ≤ n0 := Nat.le_refl _
    clear hz HT
    by_cases hck : c = n0
    · subst hck
      obtain ⟨v0, y0, v1, y1, a9, n9, c9, y2, r0, r1, r2, hG, hb0, hb1, hb2⟩ := que_gen HQ0.out HX.out.bel rfl HN.out.symm hat HPL.out HB0.out hl3
      simp only [if_true, Nat.sub_self] at r2
      have HG := hide hG
      have HX0 := hide (HX.out.later hb0)
      have HX1 := hide (HX.out.later hb1)
      have HX2 := hide (HX.out.later hb2)
      have m0 := HX.out.rt.head.2
      have k0 := HX0.out.box.cell 0 (.int .i64 k.w) rfl
      have k1 := HX0.out.box.cell 1 (.int .i64 k.x) rfl
      have k2 := HX0.out.box.cell 2 (.int .i64 k.m) rfl
      have m1 := HX1.out.rt.head.2
      have m2 := HX2.out.rt.head.2
      have f2 := HX2.out.rt.blk.free 1
      clear hG hb0 hb1 hb2
      go_wp2_with (with_reducible refine stop_at 63 rfl ?_)
      refine unstop10 ?_
      refine Lib.wpList_append_run _ rfl _ _ _ _ rfl _ _ rfl rfl _ _ r0 ?_
      go_wp2_with (with_reducible refine stop_at 67 rfl ?_)
      refine unstop10 ?_
      refine Lib.wpList_append_run _ rfl _ _ _ _ rfl _ _ rfl rfl _ _ r1 ?_
      go_wp2_with (with_reducible refine stop_at 76 rfl ?_)
      refine unstop10 ?_
      refine Lib.wpList_append_run _ rfl _ _ _ _ rfl _ _ rfl rfl _ _ r2 ?_
      go_wp2
      refine bodyPost_end (results_none rfl _ _ _) rfl ?_
      exact ⟨rfl, HG.out⟩
    · skip
      obtain ⟨v0, y0, v1, y1, a9, n9, c9, y2, r0, r1, r2, hG, hb0, hb1, hb2⟩ := que_gen HQ0.out HX.out.bel rfl HN.out.symm hat HPL.out HB0.out hl3
      rw [if_neg hck] at r2
      (try rw [Nat.sub_self] at r2)
      have HG := hide hG
      have HX0 := hide (HX.out.later hb0)
      have HX1 := hide (HX.out.later hb1)
      have HX2 := hide (HX.out.later hb2)
      have m0 := HX.out.rt.head.2
      have k0 := HX0.out.box.cell 0 (.int .i64 k.w) rfl
      have k1 := HX0.out.box.cell 1 (.int .i64 k.x) rfl
      have k2 := HX0.out.box.cell 2 (.int .i64 k.m) rfl
      have m1 := HX1.out.rt.head.2
      have m2 := HX2.out.rt.head.2
      have f2 := HX2.out.rt.blk.free 1
      clear hG hb0 hb1 hb2
      go_wp2_with (with_reducible refine stop_at 63 rfl ?_)
      refine unstop10 ?_
      refine Lib.wpList_append_run _ rfl _ _ _ _ rfl _ _ rfl rfl _ _ r0 ?_
      go_wp2_with (with_reducible refine stop_at 67 rfl ?_)
      refine unstop10 ?_
      refine Lib.wpList_append_run _ rfl _ _ _ _ rfl _ _ rfl rfl _ _ r1 ?_
      go_wp2_with (with_reducible refine stop_at 76 rfl ?_)
      refine unstop10 ?_
      refine Lib.wpList_append_run _ rfl _ _ _ _ rfl _ _ rfl rfl _ _ r2 ?_
      go_wp2
      refine bodyPost_end (results_none rfl _ _ _) rfl ?_
      exact ⟨rfl, HG.out⟩
  · have e1 : (hs != 0) = true := by simpa using hz
    have HPL0 := hide (show t.place k = placeL t k.x t.row 0 0 from by
      unfold Tb.place
      rw [HHS.out, if_pos hz])
    clear hz HT
    go_wp2
    clear c0 b0 b1
    go_loopw [4, 24] (fun v q wr => ∃ (j at' : Nat), j ≤ n0 ∧ at' ≤ j ∧ v = .int .i64 at' ∧ q = .int .i64 j ∧ Hid (QB B w h vH (.slice (some ⟨b, 0, none⟩) n0 c) t w.heap.size k wr ∧ placeL t k.x (t.row.drop j) j at' = t.place k)) (fun _ q _ => n0 - (intOf q).toNat)
    case atStart => exact ⟨0, 0, Nat.zero_le _, Nat.le_refl _, rfl, rfl, HX.out, by rw [HPL0.out]; rfl⟩
    case round =>
      obtain ⟨j, at', hj, hat1, rfl, rfl, HR⟩ := hrel
      by_cases hlt : j < n0
      · have i1 : (j : Int) < (n0 : Int) := by omega
        obtain ⟨m, hm⟩ : ∃ m, t.row[j]? = some m := ⟨_, List.getElem?_eq_getElem (by have := HN.out; omega)⟩
        have HM := hide hm
        have HD := hide (drop_at _ _ _ hm)
        have HC := hide (fun (y : World) (hy : QB B w h vH (.slice (some ⟨b, 0, none⟩) n0 c) t w.heap.size k y) => show y.cell? ⟨b, j * 3, none⟩ = some (.int .i64 m.w) ∧ y.cell? ⟨b, j * 3 + 1, none⟩ = some (.int .i64 m.x) from by
          obtain ⟨b', e, d0, d1, _⟩ := hy.rt.row.at HM.out
          injection e with e
          injection e with e
          subst e
          exact ⟨d0, d1⟩)
        clear hm
        by_cases hx : m.x = k.x
        · have e2 : (m.x == k.x) = true := by rw [beq_iff_eq]; exact hx
          have e3 : decide (m.x = k.x) = true := by simpa using hx
          obtain ⟨hv, hhv⟩ : ∃ hv, t.at m.w k.x = hv := ⟨_, rfl⟩
          have HHV := hide hhv
          have HCALL := hide (fun (y : World) (hy : QB B w h vH (.slice (some ⟨b, 0, none⟩) n0 c) t w.heap.size k y) => show Calls Try.prog 31 #[.pointer (some ⟨h, 0, none⟩), .int .i64 m.w, .int .i64 k.x] y fun e x' => e = .returned (.int .i64 hv) ∧ QB B w h vH (.slice (some ⟨b, 0, none⟩) n0 c) t w.heap.size k x' from by
            rw [← hhv]
            refine (rholds13 hy.rt m.w k.x).mono ?_
            rintro e x' ⟨rfl, rfl⟩
            exact ⟨rfl, hy⟩)
          clear hhv
          by_cases hh0 : hv = 0
          · have e4 : (hv != 0) = false := by simpa using hh0
            have e5 : decide (hv = 0) = true := by simpa using hh0
            have HF := hide (show placeL t k.x (t.row.drop (j + 1)) (j + 1) at' = t.place k from by
              rw [← HR.out.2, HD.out]
              conv => rhs; unfold placeL
              rw [if_neg (by rw [HHV.out]; exact fun e => e.2 hh0)])
            clear hx hh0
            go_wp2_with fail
            refine wp_region_in (fun y => QB B w h vH (.slice (some ⟨b, 0, none⟩) n0 c) t w.heap.size k y) (by kernel_rfl) (by kernel_rfl) (HR.out.1.later ((Below.refl _ _).drew)) ?_
            refine wpQuiet_plain rfl (fun K hK => ?_); go_simp; refine hK _ ?_; clear hK K
            refine wpQuiet_plain rfl (fun K hK => ?_); go_simp; refine hK _ ?_; clear hK K
            refine wpQuiet_plain rfl (fun K hK => ?_); go_simp; refine hK _ ?_; clear hK K
            refine wpQuiet_load rfl 27 (.tmp 29) rfl _ (.slice (some ⟨b, 0, none⟩) n0 c) rfl (fun y hy => load_slR hy.rt.head.2) ?_; simp only [Act.put, Array.setIfInBounds, List.size_toArray, List.length_cons, List.length_nil, Nat.reduceAdd, Nat.reduceLT, ↓reduceDIte, List.set_toArray, List.set_cons_succ, List.set_cons_zero]
            refine wpQuiet_plain rfl (fun K hK => ?_); go_simp; refine hK _ ?_; clear hK K
            refine wpQuiet_plain rfl (fun K hK => ?_); go_simp; refine hK _ ?_; clear hK K
            refine wpQuiet_plain rfl (fun K hK => ?_); go_simp; refine hK _ ?_; clear hK K
            refine wpQuiet_load rfl 3 (.tmp 33) rfl _ (.int .i64 m.x) rfl (fun y hy => load_num13 (HC.out y hy).2) ?_; simp only [Act.put, Array.setIfInBounds, List.size_toArray, List.length_cons, List.length_nil, Nat.reduceAdd, Nat.reduceLT, ↓reduceDIte, List.set_toArray, List.set_cons_succ, List.set_cons_zero]
            refine wpQuiet_plain rfl (fun K hK => ?_); go_simp; refine hK _ ?_; clear hK K
            refine wpQuiet_load rfl 3 (.tmp 35) rfl _ (.int .i64 k.x) rfl (fun y hy => load_num13 (hy.box.cell 1 (.int .i64 k.x) rfl)) ?_; simp only [Act.put, Array.setIfInBounds, List.size_toArray, List.length_cons, List.length_nil, Nat.reduceAdd, Nat.reduceLT, ↓reduceDIte, List.set_toArray, List.set_cons_succ, List.set_cons_zero]
            refine wpQuiet_plain rfl (fun K hK => ?_); go_simp; refine hK _ ?_; clear hK K
            refine wpQuiet_plain rfl (fun K hK => ?_); go_simp; refine hK _ ?_; clear hK K
            refine wpQuiet_plain rfl (fun K hK => ?_); go_simp; refine hK _ ?_; clear hK K
            refine wpQuiet_plain rfl (fun K hK => ?_); go_simp; refine hK _ ?_; clear hK K
            refine wpQuiet_plain rfl (fun K hK => ?_); go_simp; refine hK _ ?_; clear hK K
            refine wpQuiet_plain rfl (fun K hK => ?_); go_simp; refine hK _ ?_; clear hK K
            refine wpQuiet_load rfl 27 (.tmp 42) rfl _ (.slice (some ⟨b, 0, none⟩) n0 c) rfl (fun y hy => load_slR hy.rt.head.2) ?_; simp only [Act.put, Array.setIfInBounds, List.size_toArray, List.length_cons, List.length_nil, Nat.reduceAdd, Nat.reduceLT, ↓reduceDIte, List.set_toArray, List.set_cons_succ, List.set_cons_zero]
            refine wpQuiet_plain rfl (fun K hK => ?_); go_simp; refine hK _ ?_; clear hK K
            refine wpQuiet_plain rfl (fun K hK => ?_); go_simp; refine hK _ ?_; clear hK K
            refine wpQuiet_plain rfl (fun K hK => ?_); go_simp; refine hK _ ?_; clear hK K
            refine wpQuiet_load rfl 3 (.tmp 46) rfl _ (.int .i64 m.w) rfl (fun y hy => load_num13 (HC.out y hy).1) ?_; simp only [Act.put, Array.setIfInBounds, List.size_toArray, List.length_cons, List.length_nil, Nat.reduceAdd, Nat.reduceLT, ↓reduceDIte, List.set_toArray, List.set_cons_succ, List.set_cons_zero]
            refine wpQuiet_plain rfl (fun K hK => ?_); go_simp; refine hK _ ?_; clear hK K
            refine wpQuiet_load rfl 3 (.tmp 48) rfl _ (.int .i64 k.x) rfl (fun y hy => load_num13 (hy.box.cell 1 (.int .i64 k.x) rfl)) ?_; simp only [Act.put, Array.setIfInBounds, List.size_toArray, List.length_cons, List.length_nil, Nat.reduceAdd, Nat.reduceLT, ↓reduceDIte, List.set_toArray, List.set_cons_succ, List.set_cons_zero]
            refine wpQuiet_call rfl 31 #[.pointer (some ⟨h, 0, none⟩), .int .i64 m.w, .int .i64 k.x] (.int .i64 hv) ?_ (fun y hC => HCALL.out y hC) ?_; (intro x; go_simp); simp only [Act.put, Array.setIfInBounds, List.size_toArray, List.length_cons, List.length_nil, Nat.reduceAdd, Nat.reduceLT, ↓reduceDIte, List.set_toArray, List.set_cons_succ, List.set_cons_zero]
            refine wpQuiet_plain rfl (fun K hK => ?_); go_simp; refine hK _ ?_; clear hK K
            refine wpQuiet_plain rfl (fun K hK => ?_); go_simp; refine hK _ ?_; clear hK K
            refine wpQuiet_nil ?_
            intro y hy
            have HY := hide hy
            clear hy HR
            go_wp2
            go_roundw
            case rel => exact ⟨j + 1, at', by omega, by omega, rfl, by go_num, HY.out, HF.out⟩
            case measure => simp [intOf]; omega
          · have e4 : (hv != 0) = true := by simpa using hh0
            have e5 : decide (hv = 0) = false := by simpa using hh0
            have HF := hide (show placeL t k.x (t.row.drop (j + 1)) (j + 1) (j + 1) = t.place k from by
              rw [← HR.out.2, HD.out]
              conv => rhs; unfold placeL
              rw [if_pos ⟨hx, by rw [HHV.out]; exact hh0⟩])
            clear hx hh0
            go_wp2_with fail
            refine wp_region_in (fun y => QB B w h vH (.slice (some ⟨b, 0, none⟩) n0 c) t w.heap.size k y) (by kernel_rfl) (by kernel_rfl) (HR.out.1.later ((Below.refl _ _).drew)) ?_
            refine wpQuiet_plain rfl (fun K hK => ?_); go_simp; refine hK _ ?_; clear hK K
            refine wpQuiet_plain rfl (fun K hK => ?_); go_simp; refine hK _ ?_; clear hK K
            refine wpQuiet_plain rfl (fun K hK => ?_); go_simp; refine hK _ ?_; clear hK K
            refine wpQuiet_load rfl 27 (.tmp 29) rfl _ (.slice (some ⟨b, 0, none⟩) n0 c) rfl (fun y hy => load_slR hy.rt.head.2) ?_; simp only [Act.put, Array.setIfInBounds, List.size_toArray, List.length_cons, List.length_nil, Nat.reduceAdd, Nat.reduceLT, ↓reduceDIte, List.set_toArray, List.set_cons_succ, List.set_cons_zero]
            refine wpQuiet_plain rfl (fun K hK => ?_); go_simp; refine hK _ ?_; clear hK K
            refine wpQuiet_plain rfl (fun K hK => ?_); go_simp; refine hK _ ?_; clear hK K
            refine wpQuiet_plain rfl (fun K hK => ?_); go_simp; refine hK _ ?_; clear hK K
            refine wpQuiet_load rfl 3 (.tmp 33) rfl _ (.int .i64 m.x) rfl (fun y hy => load_num13 (HC.out y hy).2) ?_; simp only [Act.put, Array.setIfInBounds, List.size_toArray, List.length_cons, List.length_nil, Nat.reduceAdd, Nat.reduceLT, ↓reduceDIte, List.set_toArray, List.set_cons_succ, List.set_cons_zero]
            refine wpQuiet_plain rfl (fun K hK => ?_); go_simp; refine hK _ ?_; clear hK K
            refine wpQuiet_load rfl 3 (.tmp 35) rfl _ (.int .i64 k.x) rfl (fun y hy => load_num13 (hy.box.cell 1 (.int .i64 k.x) rfl)) ?_; simp only [Act.put, Array.setIfInBounds, List.size_toArray, List.length_cons, List.length_nil, Nat.reduceAdd, Nat.reduceLT, ↓reduceDIte, List.set_toArray, List.set_cons_succ, List.set_cons_zero]
            refine wpQuiet_plain rfl (fun K hK => ?_); go_simp; refine hK _ ?_; clear hK K
            refine wpQuiet_plain rfl (fun K hK => ?_); go_simp; refine hK _ ?_; clear hK K
            refine wpQuiet_plain rfl (fun K hK => ?_); go_simp; refine hK _ ?_; clear hK K
            refine wpQuiet_plain rfl (fun K hK => ?_); go_simp; refine hK _ ?_; clear hK K
            refine wpQuiet_plain rfl (fun K hK => ?_); go_simp; refine hK _ ?_; clear hK K
            refine wpQuiet_plain rfl (fun K hK => ?_); go_simp; refine hK _ ?_; clear hK K
            refine wpQuiet_load rfl 27 (.tmp 42) rfl _ (.slice (some ⟨b, 0, none⟩) n0 c) rfl (fun y hy => load_slR hy.rt.head.2) ?_; simp only [Act.put, Array.setIfInBounds, List.size_toArray, List.length_cons, List.length_nil, Nat.reduceAdd, Nat.reduceLT, ↓reduceDIte, List.set_toArray, List.set_cons_succ, List.set_cons_zero]
            refine wpQuiet_plain rfl (fun K hK => ?_); go_simp; refine hK _ ?_; clear hK K
            refine wpQuiet_plain rfl (fun K hK => ?_); go_simp; refine hK _ ?_; clear hK K
            refine wpQuiet_plain rfl (fun K hK => ?_); go_simp; refine hK _ ?_; clear hK K
            refine wpQuiet_load rfl 3 (.tmp 46) rfl _ (.int .i64 m.w) rfl (fun y hy => load_num13 (HC.out y hy).1) ?_; simp only [Act.put, Array.setIfInBounds, List.size_toArray, List.length_cons, List.length_nil, Nat.reduceAdd, Nat.reduceLT, ↓reduceDIte, List.set_toArray, List.set_cons_succ, List.set_cons_zero]
            refine wpQuiet_plain rfl (fun K hK => ?_); go_simp; refine hK _ ?_; clear hK K
            refine wpQuiet_load rfl 3 (.tmp 48) rfl _ (.int .i64 k.x) rfl (fun y hy => load_num13 (hy.box.cell 1 (.int .i64 k.x) rfl)) ?_; simp only [Act.put, Array.setIfInBounds, List.size_toArray, List.length_cons, List.length_nil, Nat.reduceAdd, Nat.reduceLT, ↓reduceDIte, List.set_toArray, List.set_cons_succ, List.set_cons_zero]
            refine wpQuiet_call rfl 31 #[.pointer (some ⟨h, 0, none⟩), .int .i64 m.w, .int .i64 k.x] (.int .i64 hv) ?_ (fun y hC => HCALL.out y hC) ?_; (intro x; go_simp); simp only [Act.put, Array.setIfInBounds, List.size_toArray, List.length_cons, List.length_nil, Nat.reduceAdd, Nat.reduceLT, ↓reduceDIte, List.set_toArray, List.set_cons_succ, List.set_cons_zero]
            refine wpQuiet_plain rfl (fun K hK => ?_); go_simp; refine hK _ ?_; clear hK K
            refine wpQuiet_plain rfl (fun K hK => ?_); go_simp; refine hK _ ?_; clear hK K
            refine wpQuiet_nil ?_
            intro y hy
            have HY := hide hy
            clear hy HR
            go_wp2
            go_roundw
            case rel => exact ⟨j + 1, j + 1, by omega, by omega, by go_num, by go_num, HY.out, HF.out⟩
            case measure => simp [intOf]; omega
        · have e2 : (m.x == k.x) = false := by rw [beq_eq_false_iff_ne]; exact hx
          have e3 : decide (m.x = k.x) = false := by simpa using hx
          have HF := hide (show placeL t k.x (t.row.drop (j + 1)) (j + 1) at' = t.place k from by
            rw [← HR.out.2, HD.out]
            conv => rhs; unfold placeL
            rw [if_neg (fun e => hx e.1)])
          clear hx
          go_wp2_with fail
          refine wp_region_in (fun y => QB B w h vH (.slice (some ⟨b, 0, none⟩) n0 c) t w.heap.size k y) (by kernel_rfl) (by kernel_rfl) (HR.out.1.later ((Below.refl _ _).drew)) ?_
          refine wpQuiet_plain rfl (fun K hK => ?_); go_simp; refine hK _ ?_; clear hK K
          refine wpQuiet_plain rfl (fun K hK => ?_); go_simp; refine hK _ ?_; clear hK K
          refine wpQuiet_plain rfl (fun K hK => ?_); go_simp; refine hK _ ?_; clear hK K
          refine wpQuiet_load rfl 27 (.tmp 29) rfl _ (.slice (some ⟨b, 0, none⟩) n0 c) rfl (fun y hy => load_slR hy.rt.head.2) ?_; simp only [Act.put, Array.setIfInBounds, List.size_toArray, List.length_cons, List.length_nil, Nat.reduceAdd, Nat.reduceLT, ↓reduceDIte, List.set_toArray, List.set_cons_succ, List.set_cons_zero]
          refine wpQuiet_plain rfl (fun K hK => ?_); go_simp; refine hK _ ?_; clear hK K
          refine wpQuiet_plain rfl (fun K hK => ?_); go_simp; refine hK _ ?_; clear hK K
          refine wpQuiet_plain rfl (fun K hK => ?_); go_simp; refine hK _ ?_; clear hK K
          refine wpQuiet_load rfl 3 (.tmp 33) rfl _ (.int .i64 m.x) rfl (fun y hy => load_num13 (HC.out y hy).2) ?_; simp only [Act.put, Array.setIfInBounds, List.size_toArray, List.length_cons, List.length_nil, Nat.reduceAdd, Nat.reduceLT, ↓reduceDIte, List.set_toArray, List.set_cons_succ, List.set_cons_zero]
          refine wpQuiet_plain rfl (fun K hK => ?_); go_simp; refine hK _ ?_; clear hK K
          refine wpQuiet_load rfl 3 (.tmp 35) rfl _ (.int .i64 k.x) rfl (fun y hy => load_num13 (hy.box.cell 1 (.int .i64 k.x) rfl)) ?_; simp only [Act.put, Array.setIfInBounds, List.size_toArray, List.length_cons, List.length_nil, Nat.reduceAdd, Nat.reduceLT, ↓reduceDIte, List.set_toArray, List.set_cons_succ, List.set_cons_zero]
          refine wpQuiet_plain rfl (fun K hK => ?_); go_simp; refine hK _ ?_; clear hK K
          refine wpQuiet_plain rfl (fun K hK => ?_); go_simp; refine hK _ ?_; clear hK K
          go_big_quiet_skip
          go_big_quiet_skip
          go_big_quiet_skip
          go_big_quiet_skip
          go_big_quiet_skip
          go_big_quiet_skip
          go_big_quiet_skip
          go_big_quiet_skip
          go_big_quiet_skip
          go_big_quiet_skip
          go_big_quiet_skip
          go_big_quiet_skip
          go_big_quiet_skip
          refine wpQuiet_plain rfl (fun K hK => ?_); go_simp; refine hK _ ?_; clear hK K
          refine wpQuiet_nil ?_
          intro y hy
          have HY := hide hy
          clear hy HR
          go_wp2
          go_roundw
          case rel => exact ⟨j + 1, at', by omega, by omega, rfl, by go_num, HY.out, HF.out⟩
          case measure => simp [intOf]; omega
      · have i1 : ¬ (j : Int) < (n0 : Int) := by omega
        have HPL := hide (show t.place k = at' from by
          rw [← HR.out.2, List.drop_of_length_le (by have := HN.out; omega)]
          rfl)
        have hat : at' ≤ n0 := by omega
        have HXX := hide HR.out.1
        clear HR HX HPL0
        have HX := hide HXX.out
        clear HXX
        by_cases hck : c = at'
        · have e5 : n0 = at' := by omega
          subst e5
          subst hck
          obtain ⟨v0, y0, v1, y1, a9, n9, c9, y2, r0, r1, r2, hG, hb0, hb1, hb2⟩ := que_gen HQ0.out HX.out.bel rfl HN.out.symm hat HPL.out HB0.out hl3
          simp only [if_true, Nat.sub_self] at r2
          have HG := hide hG
          have HX0 := hide (HX.out.later hb0)
          have HX1 := hide (HX.out.later hb1)
          have HX2 := hide (HX.out.later hb2)
          have m0 := HX.out.rt.head.2
          have k0 := HX0.out.box.cell 0 (.int .i64 k.w) rfl
          have k1 := HX0.out.box.cell 1 (.int .i64 k.x) rfl
          have k2 := HX0.out.box.cell 2 (.int .i64 k.m) rfl
          have m1 := HX1.out.rt.head.2
          have m2 := HX2.out.rt.head.2
          have f2 := HX2.out.rt.blk.free 1
          clear hG hb0 hb1 hb2
          go_wp2_with (with_reducible refine stop_at 63 rfl ?_)
          refine unstop10 ?_
          refine Lib.wpList_append_run _ rfl _ _ _ _ rfl _ _ rfl rfl _ _ r0 ?_
          go_wp2_with (with_reducible refine stop_at 67 rfl ?_)
          refine unstop10 ?_
          refine Lib.wpList_append_run _ rfl _ _ _ _ rfl _ _ rfl rfl _ _ r1 ?_
          go_wp2_with (with_reducible refine stop_at 76 rfl ?_)
          refine unstop10 ?_
          refine Lib.wpList_append_run _ rfl _ _ _ _ rfl _ _ rfl rfl _ _ r2 ?_
          go_wp2
          refine bodyPost_end (results_none rfl _ _ _) rfl ?_
          exact ⟨rfl, HG.out⟩
        · skip
          obtain ⟨v0, y0, v1, y1, a9, n9, c9, y2, r0, r1, r2, hG, hb0, hb1, hb2⟩ := que_gen HQ0.out HX.out.bel rfl HN.out.symm hat HPL.out HB0.out hl3
          rw [if_neg hck] at r2
          (try rw [Nat.sub_self] at r2)
          have HG := hide hG
          have HX0 := hide (HX.out.later hb0)
          have HX1 := hide (HX.out.later hb1)
          have HX2 := hide (HX.out.later hb2)
          have m0 := HX.out.rt.head.2
          have k0 := HX0.out.box.cell 0 (.int .i64 k.w) rfl
          have k1 := HX0.out.box.cell 1 (.int .i64 k.x) rfl
          have k2 := HX0.out.box.cell 2 (.int .i64 k.m) rfl
          have m1 := HX1.out.rt.head.2
          have m2 := HX2.out.rt.head.2
          have f2 := HX2.out.rt.blk.free 1
          clear hG hb0 hb1 hb2
          go_wp2_with (with_reducible refine stop_at 63 rfl ?_)
          refine unstop10 ?_
          refine Lib.wpList_append_run _ rfl _ _ _ _ rfl _ _ rfl rfl _ _ r0 ?_
          go_wp2_with (with_reducible refine stop_at 67 rfl ?_)
          refine unstop10 ?_
          refine Lib.wpList_append_run _ rfl _ _ _ _ rfl _ _ rfl rfl _ _ r1 ?_
          go_wp2_with (with_reducible refine stop_at 76 rfl ?_)
          refine unstop10 ?_
          refine Lib.wpList_append_run _ rfl _ _ _ _ rfl _ _ rfl rfl _ _ r2 ?_
          go_wp2
          refine bodyPost_end (results_none rfl _ _ _) rfl ?_
          exact ⟨rfl, HG.out⟩
theorem rque13 (q : RT B w h vH vR t) (hB : B ≤ w.heap.size) (k : Hd) (hl3 : t.row.length + 1 ≤ 3000) : Calls Try.prog 59 #[.pointer (some ⟨h, 0, none⟩), .agg (hdA k)] w fun e w' => e = .returned (.tuple #[]) ∧ RAft B w h vH vR (t.queue k) w' := by
  rcases q.row.2 with ⟨rfl, h0⟩ | ⟨b, c, cur, rfl, hb, hr, hn, hm, hs, ht⟩
  · exact rque13_nil q hB k hl3 (List.eq_nil_of_length_eq_zero h0)
  · exact rque13_gen q hB k hl3 rfl hn
end
end Go.Proofs.Ytmlbghloddiflaa
end
section
namespace Go.Proofs.Ytmlbghloddiflaa
open Go.RowKit
set_option linter.unusedVariables false

theorem queue_away {t : Tb} {k : Hd} (h : t.wt k.w = none) : (t.queue k).away k.w = t := by
  have hn := wt_none h
  have e : awayL (t.row.take (t.place k) ++ k :: t.row.drop (t.place k)) k.w = t.row := by
    unfold awayL
    rw [List.filter_append, List.filter_cons, if_neg (by simp), List.filter_eq_self.2 (fun a ha => by simpa using hn a (List.mem_of_mem_take ha)), List.filter_eq_self.2 (fun a ha => by simpa using hn a (List.mem_of_mem_drop ha)), List.take_append_drop]
  show ({ t with row := awayL (t.row.take (t.place k) ++ k :: t.row.drop (t.place k)) k.w } : Tb) = t
  rw [e]
section
variable {B : Nat} {w : World} {h : Nat} {vH vR : Value} {t : Tb}
theorem req_argR {who x m : Int} (hb : (whoOk who && thingOk x && rgt m) = false) : t.request who x m = (t, 1) := by
  unfold Tb.request Tb.req
  rw [if_neg (by rw [hb]; decide)]
set_option maxRecDepth 4000 in
set_option maxHeartbeats 800000 in
theorem rreq13_arg (q : RT B w h vH vR t) (who x m : Int) (hb : (whoOk who && thingOk x && rgt m) = false) : Calls Try.prog 27 #[.pointer (some ⟨h, 0, none⟩), .int .i64 who, .int .i64 x, .int .i64 m] w fun e w' => e = .returned (.int .i64 1) ∧ RAft B w h vH vR t w' := by
  have HQ := hide q
  have T1 := rwho13 who w
  have T2 := rthing13 x w
  have T3 := rright12 m w
  clear q
  cases h1 : whoOk who with
  | false =>
    rw [h1] at T1
    have HT1 := hide T1
    clear T1 T2 T3 h1 hb
    go_enter Try.func27, Try.ntmps27
    go_wp2_with fail
    refine HT1.out.mono ?_
    rintro e w1 ⟨rfl, rfl⟩
    go_wp2
    go_ret
    exact ⟨rfl, RAft.same HQ.out (Below.refl _ _)⟩
  | true =>
    cases h2 : thingOk x with
    | false =>
      rw [h1] at T1
      rw [h2] at T2
      have HT1 := hide T1
      have HT2 := hide T2
      clear T1 T2 T3 h1 h2 hb
      go_enter Try.func27, Try.ntmps27
      go_wp2_with fail
      refine HT1.out.mono ?_
      rintro e w1 ⟨rfl, rfl⟩
      go_wp2_with fail
      refine HT2.out.mono ?_
      rintro e w1 ⟨rfl, rfl⟩
      go_wp2
      go_ret
      exact ⟨rfl, RAft.same HQ.out (Below.refl _ _)⟩
    | true =>
      rw [h1, h2] at hb
      simp only [Bool.true_and] at hb
      rw [h1] at T1
      rw [h2] at T2
      rw [hb] at T3
      have HT1 := hide T1
      have HT2 := hide T2
      have HT3 := hide T3
      clear T1 T2 T3 h1 h2 hb
      go_enter Try.func27, Try.ntmps27
      go_wp2_with fail
      refine HT1.out.mono ?_
      rintro e w1 ⟨rfl, rfl⟩
      go_wp2_with fail
      refine HT2.out.mono ?_
      rintro e w1 ⟨rfl, rfl⟩
      go_wp2_with fail
      refine HT3.out.mono ?_
      rintro e w1 ⟨rfl, rfl⟩
      go_wp2
      go_ret
      exact ⟨rfl, RAft.same HQ.out (Below.refl _ _)⟩
set_option maxRecDepth 8000 in
set_option maxHeartbeats 3200000 in
theorem rreq13_go (q : RT B w h vH vR t) (hB : B ≤ w.heap.size) (who x m : Int) (hb : (whoOk who && thingOk x && rgt m) = true) (hl3 : t.has.length + 1 ≤ 3000 ∧ t.row.length + 1 ≤ 3000) : Calls Try.prog 27 #[.pointer (some ⟨h, 0, none⟩), .int .i64 who, .int .i64 x, .int .i64 m] w fun e w' => e = .returned (.int .i64 (t.request who x m).2) ∧ RAft B w h vH vR (t.request who x m).1 w' := by
  have HQ := hide q
  have HB := hide hB
  have HARG := hide hb
  rw [Bool.and_eq_true, Bool.and_eq_true] at hb
  have T1 := rwho13 who w
  have T2 := rthing13 x w
  have T3 := rright12 m w
  rw [hb.1.1] at T1
  rw [hb.1.2] at T2
  rw [hb.2] at T3
  have HT1 := hide T1
  have HT2 := hide T2
  have HT3 := hide T3
  have T4 := rholds13 q who x
  obtain ⟨hs, hhs⟩ : ∃ hs, t.at who x = hs := ⟨_, rfl⟩
  rw [hhs] at T4
  have HT4 := hide T4
  have HHS := hide hhs
  obtain ⟨wn, hwn⟩ : ∃ wn, t.want who x m = wn := ⟨_, rfl⟩
  have HWN := hide hwn
  have HX := hide (show QB B w h vH vR t w.heap.size ⟨who, x, wn⟩ (w.alloc (.cells #[.int .i64 who, .int .i64 x, .int .i64 wn] 64)) from by
    have b : Below w.heap.size w (w.alloc (.cells #[.int .i64 who, .int .i64 x, .int .i64 wn] 64)) := (Below.refl _ _).alloc (Nat.le_refl _) _
    exact ⟨q.later b, RowAt.new w _ _, b⟩)
  clear q hB hb T1 T2 T3 T4 hhs hwn
  by_cases hz : hs = 0
  · have e1 : (hs != 0) = false := by simpa using hz
    have HZ := hide hz
    have ewn : wn = m := by
      rw [← HWN.out]
      unfold Tb.want
      rw [HHS.out, if_neg (by simpa using hz)]
    subst ewn
    clear hz
    go_enter Try.func27, Try.ntmps27
    go_wp2_with fail
    refine HT1.out.mono ?_
    rintro e w1 ⟨rfl, rfl⟩
    go_wp2_with fail
    refine HT2.out.mono ?_
    rintro e w1 ⟨rfl, rfl⟩
    go_wp2_with fail
    refine HT3.out.mono ?_
    rintro e w1 ⟨rfl, rfl⟩
    go_wp2_with fail
    refine HT4.out.mono ?_
    rintro e w1 ⟨rfl, rfl⟩
    clear HT1 HT2 HT3 HT4
    have HTW := hide (rwaits13 HX.out.rt who)
    cases hwt : t.wt who with
    | some g =>
      rw [hwt] at HTW
      have hgw := (wt_some hwt).2
      have HRES := hide (show t.request who x wn = (t, if g.x = x ∧ g.m = wn then 12 else 13) from by
        unfold Tb.request Tb.req
        rw [if_pos HARG.out, hwt, HWN.out])
      clear hwt
      go_wp2_with fail
      refine HTW.out.mono ?_
      rintro e w2 ⟨rfl, hb2⟩
      simp only [Option.getD_some, Option.isSome_some, hdA]
      obtain ⟨W2, hW2⟩ : ∃ W2, W2 = w2.alloc (.cells #[.int .i64 g.w, .int .i64 g.x, .int .i64 g.m] 64) := ⟨_, rfl⟩
      have hbW : Below w2.heap.size w2 W2 := by rw [hW2]; exact (Below.refl _ _).alloc (Nat.le_refl _) _
      have hN : RowAt W2 w2.heap.size 64 #[.int .i64 g.w, .int .i64 g.x, .int .i64 g.m] := by rw [hW2]; exact RowAt.new w2 _ _
      have HX2 := hide ((HX.out.later hb2).later hbW)
      have a0 := hN.cell 0 _ rfl
      have a1 := hN.cell 1 _ rfl
      have a2 := hN.cell 2 _ rfl
      have k0 := HX2.out.box.cell 0 (.int .i64 who) rfl
      have k1 := HX2.out.box.cell 1 (.int .i64 x) rfl
      have k2 := HX2.out.box.cell 2 (.int .i64 wn) rfl
      have HF := hide (RAft.same HQ.out HX2.out.bel)
      subst hW2
      have e5 : (g.w == who) = true := by rw [beq_iff_eq]; exact hgw
      clear hb2 hbW hN hgw HTW
      by_cases hgx : g.x = x
      · have e6 : (g.x == x) = true := by rw [beq_iff_eq]; exact hgx
        by_cases hgm : g.m = wn
        · have e7 : (g.m == wn) = true := by rw [beq_iff_eq]; exact hgm
          have HRES2 := hide (show t.request who x wn = (t, 12) from by rw [HRES.out, if_pos ⟨hgx, hgm⟩])
          clear hgx hgm
          go_wp2
          go_ret
          rw [HRES2.out]
          exact ⟨rfl, HF.out⟩
        · have e7 : (g.m == wn) = false := by rw [beq_eq_false_iff_ne]; exact hgm
          have HRES2 := hide (show t.request who x wn = (t, 13) from by rw [HRES.out, if_neg (fun e => hgm e.2)])
          clear hgx hgm
          go_wp2
          go_ret
          rw [HRES2.out]
          exact ⟨rfl, HF.out⟩
      · have e6 : (g.x == x) = false := by rw [beq_eq_false_iff_ne]; exact hgx
        have HRES2 := hide (show t.request who x wn = (t, 13) from by rw [HRES.out, if_neg (fun e => hgx e.1)])
        clear hgx
        go_wp2
        go_ret
        rw [HRES2.out]
        exact ⟨rfl, HF.out⟩
    | none =>
      rw [hwt] at HTW
      have HNO := hide hwt
      clear hwt
      go_wp2_with fail
      refine HTW.out.mono ?_
      rintro e w2 ⟨rfl, hb2⟩
      simp only [Option.getD_none, Option.isSome_none, hdA, hdZ]
      obtain ⟨W2, hW2⟩ : ∃ W2, W2 = w2.alloc (.cells #[.int .i64 0, .int .i64 0, .int .i64 0] 64) := ⟨_, rfl⟩
      have hbW : Below w2.heap.size w2 W2 := by rw [hW2]; exact (Below.refl _ _).alloc (Nat.le_refl _) _
      have HX2 := hide ((HX.out.later hb2).later hbW)
      clear hb2 hbW HTW HX
      have HX := hide HX2.out
      clear HX2
      have HCOV := hide (show ¬ (hs ≠ 0 ∧ cov hs wn = true) from fun e => e.1 HZ.out)
      have TF := rfits13 HX.out.rt who x wn
      cases hf : t.fits who x wn with
      | false =>
        rw [hf] at TF
        have HTF := hide TF
        have HFQ := hide (show ¬ (t.fits who x wn = true ∧ (hs ≠ 0 ∨ t.que x = [])) from fun e => by rw [hf] at e; exact absurd e.1 (by decide))
        clear TF hf
        go_wp2_with fail
        rw [← hW2]
        clear hW2
        refine HTF.out.mono ?_
        rintro e w3 ⟨rfl, hb3⟩
        have HX3 := hide (HX.out.later hb3)
        clear hb3 HTF HX
        have HX := hide HX3.out
        clear HX3
        have HREQ := hide (show ∀ d, (t.queue ⟨who, x, wn⟩).ring who = d → t.request who x wn = if d = true then (t, 11) else (t.queue ⟨who, x, wn⟩, 12) from fun d hd => by
          unfold Tb.request Tb.req
          rw [if_pos HARG.out, HNO.out]
          have e1 : t.asks who x wn = ⟨who, x, wn⟩ := by unfold Tb.asks; rw [HWN.out]
          simp only [e1, hd, HWN.out, HHS.out]
          rw [if_neg (HCOV.out), if_neg HFQ.out])
        have k0 := HX.out.box.cell 0 (.int .i64 who) rfl
        have k1 := HX.out.box.cell 1 (.int .i64 x) rfl
        have k2 := HX.out.box.cell 2 (.int .i64 wn) rfl
        have HTG := hide (rque13 HX.out.rt (Nat.le_trans HB.out HX.out.bel.size) ⟨who, x, wn⟩ hl3.2)
        go_wp2_with fail
        refine HTG.out.mono ?_
        rintro e w9 ⟨rfl, hr9⟩
        have hr9' := RAft.then (Tn.of_below HX.out.bel) (fun k hk => .inl hk) hr9
        obtain ⟨vH9, vR9, rt9, tn9, rf9⟩ := hr9'
        have HTR := hide (rring13 rt9 who)
        have HTA := hide (fun (y : World) (hy : Below w9.heap.size w9 y) => raway13 (rt9.later hy) (Nat.le_trans HB.out (Nat.le_trans tn9.size hy.size)) who)
        have HR9 := hide (show ∀ y, Below w9.heap.size w9 y → RAft B w h vH vR (t.queue ⟨who, x, wn⟩) y from fun y hy => ⟨vH9, vR9, rt9.later hy, tn9.later hy, rf9⟩)
        have HTH := hide (show ∀ y z t2, Below w9.heap.size w9 y → RAft B y h vH9 vR9 t2 z → RAft B w h vH vR t2 z from fun y z t2 hy hz => RAft.then (tn9.later hy) rf9 hz)
        clear hr9 HTG k0 k1 k2 rt9 tn9 rf9
        cases hrg : (t.queue ⟨who, x, wn⟩).ring who with
        | true =>
          rw [hrg] at HTR
          have HRES := hide (HREQ.out true hrg)
          clear hrg
          go_wp2_with fail
          refine HTR.out.mono ?_
          rintro e w10 ⟨rfl, hb10⟩
          have HT11 := hide (HTA.out w10 hb10)
          have HB10 := hide hb10
          clear hb10 HTA HTR
          go_wp2_with fail
          refine HT11.out.mono ?_
          rintro e w11 ⟨rfl, hr11⟩
          have HF := hide (HTH.out w10 w11 _ HB10.out hr11)
          clear hr11 HT11
          go_wp2
          go_ret
          rw [HRES.out]
          refine ⟨rfl, ?_⟩
          have q := HF.out
          rw [queue_away (k := ⟨who, x, wn⟩) HNO.out] at q
          exact q
        | false =>
          rw [hrg] at HTR
          have HRES := hide (HREQ.out false hrg)
          clear hrg HTA
          go_wp2_with fail
          refine HTR.out.mono ?_
          rintro e w10 ⟨rfl, hb10⟩
          have HF := hide (HR9.out w10 hb10)
          clear hb10 HTR
          go_wp2
          go_ret
          rw [HRES.out]
          exact ⟨rfl, HF.out⟩
      | true =>
        rw [hf] at TF
        have HTF := hide TF
        have HFT := hide hf
        clear TF hf
        go_wp2_with fail
        rw [← hW2]
        clear hW2
        refine HTF.out.mono ?_
        rintro e w3 ⟨rfl, hb3⟩
        have HX3 := hide (HX.out.later hb3)
        clear hb3 HTF HX
        have HX := hide HX3.out
        clear HX3
        have TQ := rqueueL13 HX.out.rt x
        have HTQ := hide TQ
        clear TQ
        go_wp2_with fail
        refine HTQ.out.mono ?_
        rintro e w4 ⟨vq, rfl, hoq, hb4⟩
        obtain ⟨aq, cq, rfl, -, -⟩ := hoq.shape
        have HX4 := hide (HX.out.later hb4)
        clear hb4 HTQ HX hoq
        have HX := hide HX4.out
        clear HX4
        by_cases hq0 : t.que x = []
        · have e8 : (t.que x).length = 0 := by rw [hq0]; rfl
          have HFQ := hide (show t.fits who x wn = true ∧ (hs ≠ 0 ∨ t.que x = []) from ⟨HFT.out, .inr hq0⟩)
          rw [e8]
          clear hq0 e8
          have HRES := hide (show t.request who x wn = (t.give ⟨who, x, wn⟩, 0) from by
            unfold Tb.request Tb.req
            rw [if_pos HARG.out, HNO.out]
            have e1 : t.asks who x wn = ⟨who, x, wn⟩ := by unfold Tb.asks; rw [HWN.out]
            simp only [e1, HWN.out, HHS.out]
            rw [if_neg (HCOV.out), if_pos HFQ.out])
          have k0 := HX.out.box.cell 0 (.int .i64 who) rfl
          have k1 := HX.out.box.cell 1 (.int .i64 x) rfl
          have k2 := HX.out.box.cell 2 (.int .i64 wn) rfl
          have HTG := hide (rgive13 HX.out.rt (Nat.le_trans HB.out HX.out.bel.size) ⟨who, x, wn⟩ hl3.1)
          go_wp2_with fail
          refine HTG.out.mono ?_
          rintro e w9 ⟨rfl, hr9⟩
          have HF := hide (RAft.then (Tn.of_below HX.out.bel) (fun k hk => .inl hk) hr9)
          clear hr9 HTG k0 k1 k2
          go_wp2
          go_ret
          rw [HRES.out]
          exact ⟨rfl, HF.out⟩
        · obtain ⟨nq, hnq⟩ : ∃ nq, (t.que x).length = nq := ⟨_, rfl⟩
          have hnq0 : ¬ nq = 0 := fun e => hq0 (List.eq_nil_of_length_eq_zero (hnq.trans e))
          have e8 : ((nq : Int) == 0) = false := by rw [beq_eq_false_iff_ne]; omega
          have HFQ := hide (show ¬ (t.fits who x wn = true ∧ (hs ≠ 0 ∨ t.que x = [])) from fun e => by
            rcases e.2 with e2 | e2
            · exact e2 HZ.out
            · exact hq0 e2)
          rw [hnq]
          clear hq0 hnq
          have HREQ := hide (show ∀ d, (t.queue ⟨who, x, wn⟩).ring who = d → t.request who x wn = if d = true then (t, 11) else (t.queue ⟨who, x, wn⟩, 12) from fun d hd => by
            unfold Tb.request Tb.req
            rw [if_pos HARG.out, HNO.out]
            have e1 : t.asks who x wn = ⟨who, x, wn⟩ := by unfold Tb.asks; rw [HWN.out]
            simp only [e1, hd, HWN.out, HHS.out]
            rw [if_neg (HCOV.out), if_neg HFQ.out])
          have k0 := HX.out.box.cell 0 (.int .i64 who) rfl
          have k1 := HX.out.box.cell 1 (.int .i64 x) rfl
          have k2 := HX.out.box.cell 2 (.int .i64 wn) rfl
          have HTG := hide (rque13 HX.out.rt (Nat.le_trans HB.out HX.out.bel.size) ⟨who, x, wn⟩ hl3.2)
          go_wp2_with fail
          refine HTG.out.mono ?_
          rintro e w9 ⟨rfl, hr9⟩
          have hr9' := RAft.then (Tn.of_below HX.out.bel) (fun k hk => .inl hk) hr9
          obtain ⟨vH9, vR9, rt9, tn9, rf9⟩ := hr9'
          have HTR := hide (rring13 rt9 who)
          have HTA := hide (fun (y : World) (hy : Below w9.heap.size w9 y) => raway13 (rt9.later hy) (Nat.le_trans HB.out (Nat.le_trans tn9.size hy.size)) who)
          have HR9 := hide (show ∀ y, Below w9.heap.size w9 y → RAft B w h vH vR (t.queue ⟨who, x, wn⟩) y from fun y hy => ⟨vH9, vR9, rt9.later hy, tn9.later hy, rf9⟩)
          have HTH := hide (show ∀ y z t2, Below w9.heap.size w9 y → RAft B y h vH9 vR9 t2 z → RAft B w h vH vR t2 z from fun y z t2 hy hz => RAft.then (tn9.later hy) rf9 hz)
          clear hr9 HTG k0 k1 k2 rt9 tn9 rf9
          cases hrg : (t.queue ⟨who, x, wn⟩).ring who with
          | true =>
            rw [hrg] at HTR
            have HRES := hide (HREQ.out true hrg)
            clear hrg
            go_wp2_with fail
            refine HTR.out.mono ?_
            rintro e w10 ⟨rfl, hb10⟩
            have HT11 := hide (HTA.out w10 hb10)
            have HB10 := hide hb10
            clear hb10 HTA HTR
            go_wp2_with fail
            refine HT11.out.mono ?_
            rintro e w11 ⟨rfl, hr11⟩
            have HF := hide (HTH.out w10 w11 _ HB10.out hr11)
            clear hr11 HT11
            go_wp2
            go_ret
            rw [HRES.out]
            refine ⟨rfl, ?_⟩
            have q := HF.out
            rw [queue_away (k := ⟨who, x, wn⟩) HNO.out] at q
            exact q
          | false =>
            rw [hrg] at HTR
            have HRES := hide (HREQ.out false hrg)
            clear hrg HTA
            go_wp2_with fail
            refine HTR.out.mono ?_
            rintro e w10 ⟨rfl, hb10⟩
            have HF := hide (HR9.out w10 hb10)
            clear hb10 HTR
            go_wp2
            go_ret
            rw [HRES.out]
            exact ⟨rfl, HF.out⟩
  · have e1 : (hs != 0) = true := by simpa using hz
    have HZ := hide hz
    have T5 := rboth12 hs m w
    rw [show bth hs m = wn from by
      rw [← HWN.out]
      unfold Tb.want
      rw [HHS.out, if_pos hz]] at T5
    have HT5 := hide T5
    clear hz T5
    go_enter Try.func27, Try.ntmps27
    go_wp2_with fail
    refine HT1.out.mono ?_
    rintro e w1 ⟨rfl, rfl⟩
    go_wp2_with fail
    refine HT2.out.mono ?_
    rintro e w1 ⟨rfl, rfl⟩
    go_wp2_with fail
    refine HT3.out.mono ?_
    rintro e w1 ⟨rfl, rfl⟩
    go_wp2_with fail
    refine HT4.out.mono ?_
    rintro e w1 ⟨rfl, rfl⟩
    go_wp2_with fail
    refine HT5.out.mono ?_
    rintro e w1 ⟨rfl, rfl⟩
    clear HT1 HT2 HT3 HT4 HT5
    have HTW := hide (rwaits13 HX.out.rt who)
    cases hwt : t.wt who with
    | some g =>
      rw [hwt] at HTW
      have hgw := (wt_some hwt).2
      have HRES := hide (show t.request who x m = (t, if g.x = x ∧ g.m = wn then 12 else 13) from by
        unfold Tb.request Tb.req
        rw [if_pos HARG.out, hwt, HWN.out])
      clear hwt
      go_wp2_with fail
      refine HTW.out.mono ?_
      rintro e w2 ⟨rfl, hb2⟩
      simp only [Option.getD_some, Option.isSome_some, hdA]
      obtain ⟨W2, hW2⟩ : ∃ W2, W2 = w2.alloc (.cells #[.int .i64 g.w, .int .i64 g.x, .int .i64 g.m] 64) := ⟨_, rfl⟩
      have hbW : Below w2.heap.size w2 W2 := by rw [hW2]; exact (Below.refl _ _).alloc (Nat.le_refl _) _
      have hN : RowAt W2 w2.heap.size 64 #[.int .i64 g.w, .int .i64 g.x, .int .i64 g.m] := by rw [hW2]; exact RowAt.new w2 _ _
      have HX2 := hide ((HX.out.later hb2).later hbW)
      have a0 := hN.cell 0 _ rfl
      have a1 := hN.cell 1 _ rfl
      have a2 := hN.cell 2 _ rfl
      have k0 := HX2.out.box.cell 0 (.int .i64 who) rfl
      have k1 := HX2.out.box.cell 1 (.int .i64 x) rfl
      have k2 := HX2.out.box.cell 2 (.int .i64 wn) rfl
      have HF := hide (RAft.same HQ.out HX2.out.bel)
      subst hW2
      have e5 : (g.w == who) = true := by rw [beq_iff_eq]; exact hgw
      clear hb2 hbW hN hgw HTW
      by_cases hgx : g.x = x
      · have e6 : (g.x == x) = true := by rw [beq_iff_eq]; exact hgx
        by_cases hgm : g.m = wn
        · have e7 : (g.m == wn) = true := by rw [beq_iff_eq]; exact hgm
          have HRES2 := hide (show t.request who x m = (t, 12) from by rw [HRES.out, if_pos ⟨hgx, hgm⟩])
          clear hgx hgm
          go_wp2
          go_ret
          rw [HRES2.out]
          exact ⟨rfl, HF.out⟩
        · have e7 : (g.m == wn) = false := by rw [beq_eq_false_iff_ne]; exact hgm
          have HRES2 := hide (show t.request who x m = (t, 13) from by rw [HRES.out, if_neg (fun e => hgm e.2)])
          clear hgx hgm
          go_wp2
          go_ret
          rw [HRES2.out]
          exact ⟨rfl, HF.out⟩
      · have e6 : (g.x == x) = false := by rw [beq_eq_false_iff_ne]; exact hgx
        have HRES2 := hide (show t.request who x m = (t, 13) from by rw [HRES.out, if_neg (fun e => hgx e.1)])
        clear hgx
        go_wp2
        go_ret
        rw [HRES2.out]
        exact ⟨rfl, HF.out⟩
    | none =>
      rw [hwt] at HTW
      have HNO := hide hwt
      clear hwt
      go_wp2_with fail
      refine HTW.out.mono ?_
      rintro e w2 ⟨rfl, hb2⟩
      simp only [Option.getD_none, Option.isSome_none, hdA, hdZ]
      obtain ⟨W2, hW2⟩ : ∃ W2, W2 = w2.alloc (.cells #[.int .i64 0, .int .i64 0, .int .i64 0] 64) := ⟨_, rfl⟩
      have hbW : Below w2.heap.size w2 W2 := by rw [hW2]; exact (Below.refl _ _).alloc (Nat.le_refl _) _
      have HX2 := hide ((HX.out.later hb2).later hbW)
      clear hb2 hbW HTW HX
      have HX := hide HX2.out
      clear HX2
      have TC := rcovers12 hs m W2
      cases hcv : cov hs m with
      | true =>
        rw [hcv] at TC
        have HTC := hide TC
        have HRES := hide (show t.request who x m = (t, 0) from by
          unfold Tb.request Tb.req
          rw [if_pos HARG.out, HNO.out]
          simp only [HHS.out]
          rw [if_pos ⟨HZ.out, hcv⟩])
        have HF := hide (RAft.same HQ.out HX.out.bel)
        clear TC hcv
        go_wp2_with fail
        rw [← hW2]
        clear hW2
        refine HTC.out.mono ?_
        rintro e w3 ⟨rfl, rfl⟩
        go_wp2
        go_ret
        rw [HRES.out]
        exact ⟨rfl, HF.out⟩
      | false =>
        rw [hcv] at TC
        have HTC := hide TC
        have HCOV := hide (show ¬ (hs ≠ 0 ∧ cov hs m = true) from fun e => by rw [hcv] at e; exact absurd e.2 (by decide))
        clear TC hcv
        go_wp2_with fail
        rw [← hW2]
        clear hW2
        refine HTC.out.mono ?_
        rintro e w3 ⟨rfl, rfl⟩
        have TF := rfits13 HX.out.rt who x wn
        cases hf : t.fits who x wn with
        | false =>
          rw [hf] at TF
          have HTF := hide TF
          have HFQ := hide (show ¬ (t.fits who x wn = true ∧ (hs ≠ 0 ∨ t.que x = [])) from fun e => by rw [hf] at e; exact absurd e.1 (by decide))
          clear TF hf
          go_wp2_with fail
          refine HTF.out.mono ?_
          rintro e w3 ⟨rfl, hb3⟩
          have HX3 := hide (HX.out.later hb3)
          clear hb3 HTF HX
          have HX := hide HX3.out
          clear HX3
          have HREQ := hide (show ∀ d, (t.queue ⟨who, x, wn⟩).ring who = d → t.request who x m = if d = true then (t, 11) else (t.queue ⟨who, x, wn⟩, 12) from fun d hd => by
            unfold Tb.request Tb.req
            rw [if_pos HARG.out, HNO.out]
            have e1 : t.asks who x m = ⟨who, x, wn⟩ := by unfold Tb.asks; rw [HWN.out]
            simp only [e1, hd, HWN.out, HHS.out]
            rw [if_neg (HCOV.out), if_neg HFQ.out])
          have k0 := HX.out.box.cell 0 (.int .i64 who) rfl
          have k1 := HX.out.box.cell 1 (.int .i64 x) rfl
          have k2 := HX.out.box.cell 2 (.int .i64 wn) rfl
          have HTG := hide (rque13 HX.out.rt (Nat.le_trans HB.out HX.out.bel.size) ⟨who, x, wn⟩ hl3.2)
          go_wp2_with fail
          refine HTG.out.mono ?_
          rintro e w9 ⟨rfl, hr9⟩
          have hr9' := RAft.then (Tn.of_below HX.out.bel) (fun k hk => .inl hk) hr9
          obtain ⟨vH9, vR9, rt9, tn9, rf9⟩ := hr9'
          have HTR := hide (rring13 rt9 who)
          have HTA := hide (fun (y : World) (hy : Below w9.heap.size w9 y) => raway13 (rt9.later hy) (Nat.le_trans HB.out (Nat.le_trans tn9.size hy.size)) who)
          have HR9 := hide (show ∀ y, Below w9.heap.size w9 y → RAft B w h vH vR (t.queue ⟨who, x, wn⟩) y from fun y hy => ⟨vH9, vR9, rt9.later hy, tn9.later hy, rf9⟩)
          have HTH := hide (show ∀ y z t2, Below w9.heap.size w9 y → RAft B y h vH9 vR9 t2 z → RAft B w h vH vR t2 z from fun y z t2 hy hz => RAft.then (tn9.later hy) rf9 hz)
          clear hr9 HTG k0 k1 k2 rt9 tn9 rf9
          cases hrg : (t.queue ⟨who, x, wn⟩).ring who with
          | true =>
            rw [hrg] at HTR
            have HRES := hide (HREQ.out true hrg)
            clear hrg
            go_wp2_with fail
            refine HTR.out.mono ?_
            rintro e w10 ⟨rfl, hb10⟩
            have HT11 := hide (HTA.out w10 hb10)
            have HB10 := hide hb10
            clear hb10 HTA HTR
            go_wp2_with fail
            refine HT11.out.mono ?_
            rintro e w11 ⟨rfl, hr11⟩
            have HF := hide (HTH.out w10 w11 _ HB10.out hr11)
            clear hr11 HT11
            go_wp2
            go_ret
            rw [HRES.out]
            refine ⟨rfl, ?_⟩
            have q := HF.out
            rw [queue_away (k := ⟨who, x, wn⟩) HNO.out] at q
            exact q
          | false =>
            rw [hrg] at HTR
            have HRES := hide (HREQ.out false hrg)
            clear hrg HTA
            go_wp2_with fail
            refine HTR.out.mono ?_
            rintro e w10 ⟨rfl, hb10⟩
            have HF := hide (HR9.out w10 hb10)
            clear hb10 HTR
            go_wp2
            go_ret
            rw [HRES.out]
            exact ⟨rfl, HF.out⟩
        | true =>
          rw [hf] at TF
          have HTF := hide TF
          have HFT := hide hf
          clear TF hf
          go_wp2_with fail
          refine HTF.out.mono ?_
          rintro e w3 ⟨rfl, hb3⟩
          have HX3 := hide (HX.out.later hb3)
          clear hb3 HTF HX
          have HX := hide HX3.out
          clear HX3
          have HFQ := hide (show t.fits who x wn = true ∧ (hs ≠ 0 ∨ t.que x = []) from ⟨HFT.out, .inl HZ.out⟩)
          have HRES := hide (show t.request who x m = (t.give ⟨who, x, wn⟩, 0) from by
            unfold Tb.request Tb.req
            rw [if_pos HARG.out, HNO.out]
            have e1 : t.asks who x m = ⟨who, x, wn⟩ := by unfold Tb.asks; rw [HWN.out]
            simp only [e1, HWN.out, HHS.out]
            rw [if_neg (HCOV.out), if_pos HFQ.out])
          have k0 := HX.out.box.cell 0 (.int .i64 who) rfl
          have k1 := HX.out.box.cell 1 (.int .i64 x) rfl
          have k2 := HX.out.box.cell 2 (.int .i64 wn) rfl
          have HTG := hide (rgive13 HX.out.rt (Nat.le_trans HB.out HX.out.bel.size) ⟨who, x, wn⟩ hl3.1)
          go_wp2_with fail
          refine HTG.out.mono ?_
          rintro e w9 ⟨rfl, hr9⟩
          have HF := hide (RAft.then (Tn.of_below HX.out.bel) (fun k hk => .inl hk) hr9)
          clear hr9 HTG k0 k1 k2
          go_wp2
          go_ret
          rw [HRES.out]
          exact ⟨rfl, HF.out⟩
theorem rreq13 (q : RT B w h vH vR t) (hB : B ≤ w.heap.size) (who x m : Int) (hl3 : t.has.length + 1 ≤ 3000 ∧ t.row.length + 1 ≤ 3000) : Calls Try.prog 27 #[.pointer (some ⟨h, 0, none⟩), .int .i64 who, .int .i64 x, .int .i64 m] w fun e w' => e = .returned (.int .i64 (t.request who x m).2) ∧ RAft B w h vH vR (t.request who x m).1 w' := by
  cases hb : (whoOk who && thingOk x && rgt m) with
  | true => exact rreq13_go q hB who x m hb hl3
  | false =>
    rw [req_argR hb]
    exact rreq13_arg q who x m hb
end
end Go.Proofs.Ytmlbghloddiflaa
end
section
namespace Go.Proofs.Ytmlbghloddiflaa
open Go.RowKit
set_option linter.unusedVariables false

set_option maxRecDepth 4000 in
set_option maxHeartbeats 800000 in
theorem same13 (k : Hd) (w : World) : Calls Try.prog 33 #[.agg (hdA k), .agg (hdA k)] w fun e w' => e = .returned (.bool true) ∧ Below w.heap.size w w' := by
  obtain ⟨W, hW⟩ : ∃ W, W = (w.alloc (.cells #[.int .i64 k.w, .int .i64 k.x, .int .i64 k.m] 46)).alloc (.cells #[.int .i64 k.w, .int .i64 k.x, .int .i64 k.m] 64) := ⟨_, rfl⟩
  have hb0 : Below w.heap.size w (w.alloc (.cells #[.int .i64 k.w, .int .i64 k.x, .int .i64 k.m] 46)) := (Below.refl _ _).alloc (Nat.le_refl _) _
  have hb : Below w.heap.size w W := by rw [hW]; exact hb0.alloc hb0.size _
  have hN0 := RowAt.new w 46 #[.int .i64 k.w, .int .i64 k.x, .int .i64 k.m]
  have hN1 : RowAt W w.heap.size 46 #[.int .i64 k.w, .int .i64 k.x, .int .i64 k.m] := by rw [hW]; exact hN0.later ((Below.refl _ _).alloc (Nat.le_refl _) _)
  have hN2 : RowAt W (w.heap.size + 1) 64 #[.int .i64 k.w, .int .i64 k.x, .int .i64 k.m] := by
    have q := RowAt.new (w.alloc (.cells #[.int .i64 k.w, .int .i64 k.x, .int .i64 k.m] 46)) 64 #[.int .i64 k.w, .int .i64 k.x, .int .i64 k.m]
    rw [World.size_alloc] at q
    rw [hW]
    exact q
  have a0 := hN1.cell 0 _ rfl
  have a1 := hN1.cell 1 _ rfl
  have a2 := hN1.cell 2 _ rfl
  have b0 := hN2.cell 0 _ rfl
  have b1 := hN2.cell 1 _ rfl
  have b2 := hN2.cell 2 _ rfl
  have HB := hide hb
  clear hb0 hb hN0 hN1 hN2
  subst hW
  simp only [hdA]
  go_enter Try.func33, Try.ntmps33
  go_wp2
  go_ret
  exact ⟨by first | rfl | simp, HB.out⟩
theorem load_holdR {w : World} {b o : Nat} {h : Hd} (h0 : w.cell? ⟨b, o, none⟩ = some (.int .i64 h.w)) (h1 : w.cell? ⟨b, o + 1, none⟩ = some (.int .i64 h.x)) (h2 : w.cell? ⟨b, o + 2, none⟩ = some (.int .i64 h.m)) : (Instr.loadAt 64 (.pointer (some ⟨b, o, none⟩))).run Try.prog w = .ok (.agg (hdA h)) w := by
  have hr : w.rangeAt b o (hdA h).toList := fun j u hu => by
    match j with
    | 0 => simp [hdA] at hu; subst hu; exact h0
    | 1 => simp [hdA] at hu; subst hu; exact h1
    | 2 => simp [hdA] at hu; subst hu; exact h2
    | j + 3 => simp [hdA] at hu
  have q := run_loadAt_mid (P := Try.prog) w b o 64 (hdA h).toList _ hr Try.underlying64 rfl (by rw [infoRs]; rfl)
  rwa [Array.toArray_toList] at q
set_option maxRecDepth 4000 in
set_option maxHeartbeats 1600000 in
theorem holds13s {w : World} {B C : Nat} {u v : Value} {l : List Hd} (hl : l.length ≤ 100000) (h1 : OwnH B w u l) (h2 : OwnR C w v l) : Calls Try.prog 12 #[u, v] w fun e w' => e = .returned (.bool true) ∧ Below w.heap.size w w' := by
  obtain ⟨a, c, rfl, hc, hc2⟩ := h1.shape
  obtain ⟨a2, c2, rfl, hd, hd2⟩ := h2.shape
  obtain ⟨n, hn⟩ : ∃ n, l.length = n := ⟨_, rfl⟩
  have H1 := hide h1
  have H2 := hide h2
  have HN := hide hn
  rw [hn] at hc hd hl H1 H2 ⊢
  clear h1 h2 hn
  go_enter Try.func12, Try.ntmps12
  go_wp2
  go_loopw [13] (fun v wr => ∃ j : Nat, j ≤ n ∧ v = .int .i64 j ∧ Hid (Below w.heap.size w wr)) (fun v _ => n - (intOf v).toNat)
  case atStart => exact ⟨0, Nat.zero_le _, rfl, Below.refl _ _⟩
  case round =>
    obtain ⟨j, hj, rfl, HB⟩ := hrel
    by_cases hlt : j < n
    · have i1 : (j : Int) < (n : Int) := by omega
      obtain ⟨m, hm⟩ : ∃ m, l[j]? = some m := ⟨_, List.getElem?_eq_getElem (by rw [HN.out]; exact hlt)⟩
      obtain ⟨b, rfl, -⟩ := H1.out.at hm
      obtain ⟨b2, rfl, -⟩ := H2.out.at hm
      have HC := hide (fun (y : World) (hy : Below w.heap.size w y) => show (Instr.loadAt 46 (.pointer (some ⟨b, j * 3, none⟩))).run Try.prog y = .ok (.agg (hdA m)) y ∧ (Instr.loadAt 64 (.pointer (some ⟨b2, j * 3, none⟩))).run Try.prog y = .ok (.agg (hdA m)) y from by
        obtain ⟨b', e, d0, d1, d2⟩ := (H1.out.later hy).at hm
        injection e with e
        injection e with e
        subst e
        obtain ⟨b2', e, g0, g1, g2⟩ := (H2.out.later hy).at hm
        injection e with e
        injection e with e
        subst e
        exact ⟨load_hold d0 d1 d2, load_holdR g0 g1 g2⟩)
      clear hm
      go_wp2_with fail
      refine wp_region_in (fun y => Below w.heap.size w y) (by kernel_rfl) (by kernel_rfl) (HB.out.drew) ?_
      refine wpQuiet_plain rfl (fun K hK => ?_); go_simp; refine hK _ ?_; clear hK K
      refine wpQuiet_plain rfl (fun K hK => ?_); go_simp; refine hK _ ?_; clear hK K
      refine wpQuiet_plain rfl (fun K hK => ?_); go_simp; refine hK _ ?_; clear hK K
      refine wpQuiet_load rfl 46 (.tmp 18) rfl _ (.agg (hdA m)) rfl (fun y hy => (HC.out y hy).1) ?_; simp only [Act.put, Array.setIfInBounds, List.size_toArray, List.length_cons, List.length_nil, Nat.reduceAdd, Nat.reduceLT, ↓reduceDIte, List.set_toArray, List.set_cons_succ, List.set_cons_zero]
      refine wpQuiet_plain rfl (fun K hK => ?_); go_simp; refine hK _ ?_; clear hK K
      refine wpQuiet_plain rfl (fun K hK => ?_); go_simp; refine hK _ ?_; clear hK K
      refine wpQuiet_plain rfl (fun K hK => ?_); go_simp; refine hK _ ?_; clear hK K
      refine wpQuiet_load rfl 64 (.tmp 22) rfl _ (.agg (hdA m)) rfl (fun y hy => (HC.out y hy).2) ?_; simp only [Act.put, Array.setIfInBounds, List.size_toArray, List.length_cons, List.length_nil, Nat.reduceAdd, Nat.reduceLT, ↓reduceDIte, List.set_toArray, List.set_cons_succ, List.set_cons_zero]
      refine wpQuiet_call rfl 33 #[.agg (hdA m), .agg (hdA m)] (.bool true) ?_ (fun y hC => (same13 m y).mono fun e x' h => ⟨h.1, hC.trans (h.2.mono hC.size)⟩) ?_; (intro x; go_simp); simp only [Act.put, Array.setIfInBounds, List.size_toArray, List.length_cons, List.length_nil, Nat.reduceAdd, Nat.reduceLT, ↓reduceDIte, List.set_toArray, List.set_cons_succ, List.set_cons_zero]
      refine wpQuiet_plain rfl (fun K hK => ?_); go_simp; refine hK _ ?_; clear hK K
      refine wpQuiet_nil ?_
      intro y hy
      have HY := hide hy
      clear hy HB
      go_wp2
      go_roundw
      case rel => exact ⟨j + 1, by omega, by go_num, HY⟩
      case measure => simp [intOf]; omega
    · have i1 : ¬ (j : Int) < (n : Int) := by omega
      go_wp2
      go_ret
      exact ⟨rfl, HB.out⟩
end Go.Proofs.Ytmlbghloddiflaa
end
section
namespace Go.Proofs.Ytmlbghloddiflaa
open Go.RowKit
set_option linter.unusedVariables false

theorem eql_nil (a : Option Addr) (n c : Nat) (w : World) : (binOp .eql 30 (.slice a n c) (.slice none 0 0)).run Try.prog w = .ok (.bool a.isNone) w := by
  have q := run_equal_slice_nil (P := Try.prog) w 30 46 a n c Try.underlying30
  simp [binOp, q]
set_option maxRecDepth 4000 in
set_option maxHeartbeats 800000 in
theorem clone13 {w : World} {s : Sl} {l : List Hd} (h : HB w s l) (hl : l.length ≤ 100000) : Calls Try.prog 65 #[.slice (adr s.b) l.length s.c] w fun e w' => ∃ v, e = .returned v ∧ OwnH w.heap.size w' v l ∧ Below w.heap.size w w' := by
  have HH := hide h
  rcases h with ⟨h1, rfl, h3⟩ | ⟨b, cs, h1, h3, h4, h5, h6, h7, h8⟩
  · rw [h1, h3]
    simp only [adr, List.length_nil, Option.map_none]
    have q0 := fun w => eql_nil none 0 0 w
    simp only [Option.isNone_none] at q0
    clear h1 h3
    go_enter Try.func65, Try.ntmps65
    go_wp2
    go_ret
    exact ⟨_, rfl, OwnH.nil _ _, Below.refl _ _⟩
  · have b5 : Below w.heap.size w (w.alloc (.cells #[] 46)) := (Below.refl w.heap.size w).alloc (Nat.le_refl _) _
    have ho : OwnH w.heap.size (w.alloc (.cells #[] 46)) (.slice (some ⟨w.heap.size, 0, none⟩) 0 0) [] := ⟨rfl, .inr ⟨w.heap.size, 0, #[], rfl, Nat.le_refl _, RowAt.new w _ _, Nat.le_refl _, Nat.zero_le _, rfl, rfl⟩⟩
    obtain ⟨v1, y1, r1, o1, t1⟩ := ho.join (HH.out.later b5) b5.size (by simp; omega) 30
    have HE := hide (show OwnH w.heap.size y1 v1 l ∧ Below w.heap.size w y1 from ⟨o1, b5.trans (t1.below (fun k hk => (ho.block hk).1) b5.size)⟩)
    rw [h1] at r1 ⊢
    simp only [adr, Option.map_some] at r1 ⊢
    generalize l.length = n at *
    generalize s.c = c at *
    have q0 := fun w => eql_nil (some ⟨b, 0, none⟩) n c w
    simp only [Option.isNone_some] at q0
    clear h1 h3 h4 h5 h6 h7 h8 o1 t1 ho b5
    go_enter Try.func65, Try.ntmps65
    go_wp2_with (with_reducible refine stop_at 7 rfl ?_)
    refine unstop10 ?_
    refine Lib.wpList_append_run _ rfl _ _ _ _ rfl _ _ rfl rfl _ _ r1 ?_
    go_wp2
    go_ret
    exact ⟨_, rfl, HE.out⟩
set_option maxRecDepth 4000 in
set_option maxHeartbeats 800000 in
theorem kqueue {w : World} {g : Nat} {t : Tb} {N : Nat} {F : Nat → Prop} (h : Kt w g t N F) (hN : N ≤ 3000) (x : Int) : Calls Try.prog 35 #[.pointer (some ⟨g, 0, none⟩), .int .i64 x] w fun e w' => ∃ v, e = .returned v ∧ OwnH w.heap.size w' v (t.que x) ∧ Below w.heap.size w w' := by
  obtain ⟨p, S, hT, hp, _, rfl⟩ := h
  by_cases hx : 0 ≤ x ∧ x < 288
  · obtain ⟨y, rfl⟩ : ∃ y : Nat, x = (y : Int) := ⟨x.toNat, by omega⟩
    have hy : y < 288 := by omega
    have c0 := hT.rows hy
    have HE := hide (show t.que (y : Int) = p.row y from (hp.rep.row y hy).symm)
    have HC := hide (clone13 (hT.rowB hy) (by have := hp.len y hy; omega))
    have HA := hide (at13 g w y hy)
    unfold slV at c0
    generalize (p.row y).length = n at *
    generalize adr (S (y * 2 + 1)).b = ad at *
    generalize (S (y * 2 + 1)).c = c at *
    clear hx hT hp hy
    go_enter Try.func35, Try.ntmps35
    go_wp2_with fail
    refine HA.out.mono ?_
    rintro e w1 ⟨rfl, rfl⟩
    go_wp2_with fail
    refine HC.out.mono ?_
    rintro e w2 ⟨v, rfl, hv⟩
    have HV := hide hv
    clear hv
    go_wp2
    go_ret
    rw [HE.out]
    exact ⟨_, rfl, HV.out⟩
  · have HE := hide (show t.que x = [] from by
      unfold Tb.que queL
      refine List.filter_eq_nil_iff.2 (fun k hk e => hx ?_)
      have h1 := (hp.tok.rk k hk).2.1
      unfold thingOk at h1
      rw [Bool.and_eq_true, decide_eq_true_iff, decide_eq_true_iff] at h1
      have e2 : k.x = x := by simpa using e
      rw [← e2]
      exact h1)
    have HA := hide (at13_no (.pointer (some ⟨g, 0, none⟩)) w 288 (.inr ⟨⟨_, rfl⟩, rfl⟩) x hx)
    clear hx hT hp
    go_enter Try.func35, Try.ntmps35
    go_wp2_with fail
    refine HA.out.mono ?_
    rintro e w1 ⟨rfl, rfl⟩
    go_wp2
    go_ret
    rw [HE.out]
    exact ⟨_, rfl, OwnH.nil _ _, Below.refl _ _⟩
end Go.Proofs.Ytmlbghloddiflaa
end
